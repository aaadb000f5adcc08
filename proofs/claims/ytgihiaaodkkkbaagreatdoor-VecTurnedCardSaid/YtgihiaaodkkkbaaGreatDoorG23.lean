/-
  Package whole: Of.
  Package whole: read of one number; powersUpTo of one limb.
  Package whole: Div of numbers that may be.
  Package gussetref01: half.
  Rational numbers as they are told: a sign, bytes above, bytes below. What numbers of so many bytes come to; numbers behind names.
  gussetref02: make0, Of.
  gussetref02: Check, Both, Negate; what gussetref01 tells of digits, by their values.
  Package whole: Add.
  gussetref02: Sum.
  Package whole: Mul.
  gussetref02: Times.
  Package whole: Sub.
  Package whole: Cmp.
  gussetref02: Less, Times, Order.
-/
import Derived.Test.YtgihiaaodkkkbaaGreatDoorG18
import Derived.Test.YtgihiaaodkkkbaaGreatDoorG19
import Derived.Test.YtgihiaaodkkkbaaGreatDoorG22
namespace Go.Proofs.YtgihiaaodkkkbaaGreatDoor
open Go.RowKit

theorem boxRow (w : World) (m : Nat) : ∃ w0, w0 = (w.alloc (.cells #[.bool false, .string { data := #[] }] 30)).alloc (.cells #[.int .u64 (m : Nat)] 109) ∧
  Cel w0 w.heap.size [.bool false, .string { data := #[] }] 30 ∧ Rd w0 (.slice (some ⟨w.heap.size + 1, 0, none⟩) 1 1) [m] ∧ Below w.heap.size w w0 := by
 refine ⟨_, rfl, (Cel.new w _ 30).alloc _, rd1 _ (by simp) m, by go_grown⟩
end Go.Proofs.YtgihiaaodkkkbaaGreatDoor
namespace Go.Proofs.YtgihiaaodkkkbaaGreatDoor
open Go.RowKit Go.Shelf

def slen : Value → Nat
 | .slice _ n _ => n
 | _ => 0

end Go.Proofs.YtgihiaaodkkkbaaGreatDoor
namespace Go.Proofs.YtgihiaaodkkkbaaGreatDoor
open Go.RowKit

theorem succ_lt_pow {b k x : Nat} (hb : 2 ≤ b) (h : x < b ^ k) : x + 1 < b ^ (k + 1) := by
 rw [Nat.pow_succ]
 have h1 : b ^ k * 2 ≤ b ^ k * b := Nat.mul_le_mul_left _ hb
 generalize b ^ k = p at *
 omega
theorem digs_pos {b n : Nat} (hb : 2 ≤ b) (h : n ≠ 0) : 0 < (M.digs b n).length := by
 refine Nat.pos_of_ne_zero fun h0 => ?_
 have := M.val_digs hb n
 rw [List.length_eq_zero_iff.1 h0, M.val_nil] at this
 omega
theorem digs_zero {b n : Nat} (h : n = 0) : (M.digs b n).length = 0 := by subst h; rfl

theorem divmod_pos {X Y K : Nat} (hY : 0 < Y) (hK : K ≤ 4000) (hx : X < B64 ^ K) (hy : Y < B64 ^ K) (v0 v1 : Value) (wx : World) (r0 : Rd wx v0 (M.digs B64 X)) (r1 : Rd wx v1 (M.digs B64 Y)) :
  Calls Tryz.prog 157 #[v0, v1] wx fun e w' => ∃ q r, e = .returned (.tuple #[q, r, .int .i64 0]) ∧ Rd w' q (M.digs B64 (X / Y)) ∧ Rd w' r (M.digs B64 (X % Y)) ∧ Below wx.heap.size wx w' := by
 have := divmod_any v0 v1 _ _ wx r0 r1 (M.Low.digs B64_two _) (M.Low.digs B64_two _) (Nat.le_trans (M.digs_len_of_lt B64_two hx) hK) (Nat.le_trans (M.digs_len_of_lt B64_two hy) hK)
 rw [M.val_digs B64_two, M.val_digs B64_two] at this
 refine this.mono ?_
 rintro e w' ⟨-, h, hb⟩
 obtain ⟨q, r, rfl, hq, hr⟩ := h hY
 exact ⟨q, r, rfl, hq, hr, hb⟩
theorem tell_dig (neg : Bool) {V K : Nat} (hK : K ≤ 4000) (hV : V < B64 ^ K) (v : Value) (wx : World) (hr : Rd wx v (M.digs B64 V)) :
  Calls Tryz.prog 139 #[.agg #[.bool neg, v]] wx fun e w' => e = .returned (zI (sgn neg V)) ∧ Below wx.heap.size wx w' := by
 have := tell_any neg v _ wx hr (M.Low.digs B64_two _) (Nat.le_trans (M.digs_len_of_lt B64_two hV) hK)
 rwa [M.val_digs B64_two] at this

end Go.Proofs.YtgihiaaodkkkbaaGreatDoor
namespace Go.Proofs.YtgihiaaodkkkbaaGreatDoor
open Go.RowKit

/-- The upper limbs of a row, halved from above. -/
def HfAt (xs zs : List Nat) (k r : Nat) : Prop := zs.length = xs.length - k ∧ M.Low D32 zs ∧ r ≤ 1 ∧ 2 * M.val D32 zs + r = M.val D32 (xs.drop k)
theorem HfAt.step {xs zs : List Nat} {k r : Nat} (lx : M.Low D32 xs) (hk : k + 1 ≤ xs.length) (h : HfAt xs zs (k + 1) r) : HfAt xs ((D32 * r + lm xs k) / 2 :: zs) k ((D32 * r + lm xs k) % 2) := by
 obtain ⟨h1, h2, h3, h4⟩ := h
 have b1 : lm xs k < D32 := lm_lt D32_pos lx k
 refine ⟨by simp; omega, ?_, by omega, ?_⟩
 ·intro x hx
  rcases List.mem_cons.1 hx with rfl | hx
  ·unfold D32 at *; omega
  ·exact h2 x hx
 ·rw [drop_lm xs k (by omega), M.val_cons, M.val_cons, ← h4]
  have e := Nat.div_add_mod (D32 * r + lm xs k) 2
  rw [Nat.mul_add D32]
  have e2 : D32 * (2 * M.val D32 zs) = 2 * (D32 * M.val D32 zs) := Nat.mul_left_comm _ _ _
  omega

set_option maxHeartbeats 1000000 in
theorem rhalf_any (va : Value) (xs : List Nat) (w : World) (ha : Rd w va xs) (la : M.Low D32 xs) (hx : xs.length ≤ 100000) :
  Calls Tryz.prog 131 #[va] w fun e w' => ∃ v, e = .returned (.tuple #[v, .bool (decide (M.val D32 xs % 2 = 1))]) ∧ Rd w' v (M.digs D32 (M.val D32 xs / 2)) ∧ Below w.heap.size w w' := by
 have ha0 := ha
 obtain ⟨a, ca, rfl, hca, -⟩ := ha
 obtain ⟨n, hn⟩ : ∃ n, n = xs.length := ⟨_, rfl⟩
 rw [← hn] at ha0 hca hx ⊢
 have HN := shut hn
 clear hn
 go_enter Tryz.func131, Tryz.ntmps131
 go_wp2_with (at_make; refine wpList_mk rfl _ _ rfl _ n rfl rfl (by omega) (by omega) ?_; intro w2 hblk hbel)
 go_loopw [5, 6] (fun r i wr => ∃ (k rr : Nat) (zs : List Nat), k ≤ n ∧ i = .int .i64 ((k : Int) - 1) ∧ r = .int .u64 rr ∧ HfAt xs zs k rr ∧ Blk wr w.heap.size (List.replicate k 0 ++ zs) ∧ Below w.heap.size w wr) (fun _ i _ => (intOf i + 1).toNat)
 case atStart => exact ⟨n, 0, [], Nat.le_refl _, rfl, rfl, ⟨by rw [HN.out]; simp, M.Low.nil _, by omega, by rw [HN.out]; simp [M.val]⟩, by simpa using hblk, hbel⟩
 case round =>
  obtain ⟨k, rr, zs, hk, rfl, rfl, hat, hblk', hbel'⟩ := hrel
  match k with
  | 0 =>
   obtain ⟨h1, h2, h3, h4⟩ := hat
   rw [List.drop_zero] at h4
   rw [List.replicate_zero, List.nil_append] at hblk'
   have hzl : zs.length = n := by rw [h1, HN.out]; omega
   have hrd : Rd wr (.slice (some ⟨w.heap.size, 0, none⟩) n n) zs := by
    have := hblk'.rd0 n (by omega)
    rwa [hzl] at this
   have e1 : M.val D32 zs = M.val D32 xs / 2 := by omega
   have e2 : ((rr : Int) == 1) = decide (M.val D32 xs % 2 = 1) := by
    rw [Bool.eq_iff_iff]
    simp
    omega
   have E1 := shut e1
   have E2 := shut e2
   have hlen : zs.length ≤ 1000000 := by omega
   clear h4 e1 e2 h1 h3 hzl
   go_wp2_with fail
   refine (trim_any D32 D32_two _ _ zs hrd h2 hlen).mono ?_
   rintro e w' ⟨v', rfl, hv', rfl⟩
   go_wp2
   go_ret2
   exact ⟨_, by rw [← E2.out]; rfl, by rw [← E1.out]; exact hv', hbel'⟩
  | k + 1 =>
   have HST := shut (hat.step la (by rw [← HN.out]; exact hk))
   have b1 : lm xs k < 4294967296 := lm_lt D32_pos la k
   have hr1 : rr ≤ 1 := hat.2.2.1
   have hzl : zs.length = n - (k + 1) := by rw [hat.1, HN.out]
   obtain ⟨b1', o1, rfl, q1⟩ := ha0.at hbel' (j := k) (by rw [← HN.out]; omega)
   have hc1 := hblk'.cell (j := k) (by simp; omega)
   have hf1 := hblk'.frozen k
   have hset : ∀ y, Blk (wr.setCell ⟨w.heap.size, k, none⟩ (.int .u64 (y : Nat))) w.heap.size (List.replicate k 0 ++ y :: zs) := fun y => by
    have h := hblk'.set k y
    have e : (List.replicate (k + 1) 0 ++ zs).set k y = List.replicate k 0 ++ y :: zs := by
     rw [List.replicate_succ', List.append_assoc, List.set_append_right _ _ (by simp)]
     simp
    rwa [e] at h
   have HS := shut (hset ((D32 * rr + lm xs k) / 2))
   have ik : (k : Int) < n := by omega
   clear hset hat hzl
   go_wp2
   have e1 : ((rr : Int) * 4294967296 + (lm xs k : Int)) % 2 = (((D32 * rr + lm xs k) % 2 : Nat) : Int) := by unfold D32; omega
   have e2 : ((rr : Int) * 4294967296 + (lm xs k : Int)) / 2 = (((D32 * rr + lm xs k) / 2 : Nat) : Int) := by unfold D32; omega
   rw [e1, e2]
   exact ⟨⟨k, _, _, by omega, rfl, rfl, HST.out, HS.out, hbel'.setCell (Nat.le_refl _) _⟩, by simp only [intOf]; omega⟩
end Go.Proofs.YtgihiaaodkkkbaaGreatDoor
namespace Go.Proofs.YtgihiaaodkkkbaaGreatDoor
open Go.RowKit

/-- At most k bytes. -/
def Bd (z : Int) (k : Nat) : Prop := z.natAbs < 256 ^ k
theorem pow256_pos (k : Nat) : 0 < 256 ^ k := Nat.pow_pos (by omega)
theorem Bd.zero (k : Nat) : Bd 0 k := pow256_pos k
theorem Bd.mono {z : Int} {j k : Nat} (h : Bd z j) (hk : j ≤ k) : Bd z k := Nat.lt_of_lt_of_le h (Nat.pow_le_pow_right (by omega) hk)
theorem bd_zOf {n : Bool} {s : ByteArray} {k : Nat} (h : s.size ≤ k) : Bd (zOf n s) k := by
 unfold Bd
 rw [natAbs_zOf]
 exact Nat.lt_of_lt_of_le (natOf_lt s) (Nat.pow_le_pow_right (by omega) h)
theorem Bd.add {x y : Int} {k : Nat} (hx : Bd x k) (hy : Bd y k) : Bd (x + y) (k + 1) := by
 unfold Bd at *
 rw [Nat.pow_succ]
 generalize 256 ^ k = p at *
 omega
theorem Bd.neg {x : Int} {k : Nat} (hx : Bd x k) : Bd (-x) k := by
 unfold Bd at *
 rwa [Int.natAbs_neg]
theorem Bd.mul {x y : Int} {j k : Nat} (hx : Bd x j) (hy : Bd y k) : Bd (x * y) (j + k) := by
 unfold Bd at *
 rw [Int.natAbs_mul, Nat.pow_add]
 exact Nat.mul_lt_mul'' hx hy
theorem Bd.le {x y : Int} {k : Nat} (hy : Bd y k) (h : x.natAbs ≤ y.natAbs) : Bd x k := Nat.lt_of_le_of_lt h hy
theorem Bd.size {z : Int} {k : Nat} (h : Bd z k) : (strOf z.natAbs).size ≤ k := strOf_lt h
/-- A sign and bytes of each number, behind names. -/
theorem named : ∃ (nf : Int → Bool) (sf : Int → ByteArray), (∀ z, zI z = .agg #[.bool (nf z), .string (sf z)]) ∧ (∀ z, OkZ (nf z) (sf z)) ∧ (∀ z k, Bd z k → (sf z).size ≤ k) ∧ (∀ z, zOf (nf z) (sf z) = z) ∧ (∀ n s, OkZ n s → nf (zOf n s) = n ∧ sf (zOf n s) = s) ∧ (∀ z, natOf (sf z) = z.natAbs) ∧ (∀ z, nf z = decide (z < 0)) ∧ (∀ z, sf z = strOf z.natAbs) :=
 ⟨fun z => decide (z < 0), fun z => strOf z.natAbs, fun _ => rfl, okZ_zI, fun z k h => h.size, zOf_zI, fun n s h => by
  have e := zV_ok h
  unfold zI zV at e
  simp only [Value.agg.injEq] at e
  have e' : [Value.bool n, .string s] = [.bool (decide (zOf n s < 0)), .string (strOf (zOf n s).natAbs)] := congrArg Array.toList e
  simp only [List.cons.injEq, Value.bool.injEq, Value.string.injEq] at e'
  exact ⟨e'.1.symm, e'.2.1.symm⟩, fun z => natOf_strOf _, fun _ => rfl, fun _ => rfl⟩
theorem strOf_one : strOf 1 = ⟨#[1]⟩ := by decide +kernel
theorem natOf_one : natOf ⟨#[1]⟩ = 1 := by rw [← strOf_one, natOf_strOf]
theorem zI_one : zI 1 = .agg #[.bool false, .string ⟨#[1]⟩] := by
 show zV (decide ((1 : Int) < 0)) (strOf 1) = _
 rw [strOf_one]
 rfl
/-- That a rational number may be so. -/
def OkQ (n : Bool) (s d : ByteArray) : Prop := OkZ n s ∧ OkS d ∧ 0 < natOf d ∧ Nat.gcd (natOf s) (natOf d) = 1
/-- The number that it is. -/
def qOf (n : Bool) (s d : ByteArray) : Rat := mkRat (zOf n s) (natOf d)
/-- Its one form. -/
def qI (q : Rat) : Value := .agg #[.bool (decide (q.num < 0)), .string (strOf q.num.natAbs), .string (strOf q.den)]
theorem OkQ.low {n : Bool} {s d : ByteArray} (h : OkQ n s d) : (qOf n s d).num = zOf n s ∧ (qOf n s d).den = natOf d :=
 Q.mk_low h.2.2.1 (by rw [natAbs_zOf]; exact h.2.2.2)
theorem OkQ.parts {n : Bool} {s d : ByteArray} (h : OkQ n s d) : decide ((qOf n s d).num < 0) = n ∧ strOf (qOf n s d).num.natAbs = s ∧ strOf (qOf n s d).den = d := by
 rw [h.low.1, h.low.2, natAbs_zOf, strOf_natOf h.1.1, strOf_natOf h.2.1]
 refine ⟨?_, rfl, rfl⟩
 cases n with
 | false => simp [zOf]
 | true =>
  have := natOf_pos h.1.1 (h.1.2 rfl)
  simp [zOf]; omega
theorem okQ_qI (q : Rat) : OkQ (decide (q.num < 0)) (strOf q.num.natAbs) (strOf q.den) := by
 refine ⟨okZ_zI _, okS_strOf _, ?_, ?_⟩
 ·rw [natOf_strOf]; exact q.den_pos
 ·rw [natOf_strOf, natOf_strOf]; exact q.reduced
theorem qOf_qI (q : Rat) : qOf (decide (q.num < 0)) (strOf q.num.natAbs) (strOf q.den) = q := by
 unfold qOf
 rw [zOf_zI, natOf_strOf, Rat.mkRat_self]
/-- What makes a number's form out of its parts. -/
theorem qI_of {q : Rat} {z : Int} {m : Nat} (h : q.num = z ∧ q.den = m) {n : Bool} {s d : ByteArray} (hz : zI z = .agg #[.bool n, .string s]) (hd : d = strOf m) : qI q = .agg #[.bool n, .string s, .string d] := by
 obtain ⟨rfl, rfl⟩ := h
 subst hd
 have e : (#[.bool (decide (q.num < 0)), .string (strOf q.num.natAbs)] : Array Value) = #[.bool n, .string s] := by
  have : zI q.num = .agg #[.bool (decide (q.num < 0)), .string (strOf q.num.natAbs)] := rfl
  rw [this] at hz
  simpa using hz
 have e' : [Value.bool (decide (q.num < 0)), .string (strOf q.num.natAbs)] = [.bool n, .string s] := congrArg Array.toList e
 simp only [List.cons.injEq, Value.bool.injEq, Value.string.injEq, and_true] at e'
 unfold qI
 rw [e'.1, e'.2]
/-- At most k bytes above and below. -/
def Bq (q : Rat) (k : Nat) : Prop := Bd q.num k ∧ Bd (q.den : Int) k
theorem OkQ.bq {n : Bool} {s d : ByteArray} {k : Nat} (h : OkQ n s d) (hs : s.size ≤ k) (hd : d.size ≤ k) : Bq (qOf n s d) k := by
 refine ⟨?_, ?_⟩
 ·rw [h.low.1]; exact bd_zOf hs
 ·rw [h.low.2]; exact bd_zOf (n := false) hd
theorem Bq.mono {q : Rat} {j k : Nat} (h : Bq q j) (hk : j ≤ k) : Bq q k := ⟨h.1.mono hk, h.2.mono hk⟩

/-- What Check tells. -/
def chkq (n : Bool) (s d : ByteArray) : Nat := if 8000 < s.size ∨ 8000 < d.size then 5 else if chk n s ≠ 0 ∨ d.size = 0 ∨ lm (byts d) 0 = 0 ∨ Nat.gcd (natOf s) (natOf d) ≠ 1 then 1 else 0
theorem chkq_zero {n : Bool} {s d : ByteArray} (h : chkq n s d = 0) : OkQ n s d ∧ s.size ≤ 8000 ∧ d.size ≤ 8000 := by
 unfold chkq at h
 by_cases h1 : 8000 < s.size ∨ 8000 < d.size
 ·rw [if_pos h1] at h; omega
 ·rw [if_neg h1] at h
  by_cases h2 : chk n s ≠ 0 ∨ d.size = 0 ∨ lm (byts d) 0 = 0 ∨ Nat.gcd (natOf s) (natOf d) ≠ 1
  ·rw [if_pos h2] at h; omega
  ·have hs : s.size ≤ 8000 := by omega
   have c0 : chk n s = 0 := by
    refine Classical.byContradiction fun e => h2 (Or.inl e)
   have d0 : 0 < d.size := Nat.pos_of_ne_zero fun e => h2 (Or.inr (Or.inl e))
   have od : OkS d := fun _ e => h2 (Or.inr (Or.inr (Or.inl e)))
   have g1 : Nat.gcd (natOf s) (natOf d) = 1 := Classical.byContradiction fun e => h2 (Or.inr (Or.inr (Or.inr e)))
   exact ⟨⟨(chk_ok (by omega)).1 c0, od, natOf_pos od d0, g1⟩, hs, by omega⟩
theorem chkq_ok {n : Bool} {s d : ByteArray} (h : OkQ n s d) (hs : s.size ≤ 8000) (hd : d.size ≤ 8000) : chkq n s d = 0 := by
 unfold chkq
 rw [if_neg (by omega), if_neg]
 have d0 : 0 < d.size := Nat.pos_of_ne_zero fun e => by have := natOf_empty e; have := h.2.2.1; omega
 rintro (a | a | a | a)
 ·exact a ((chk_ok (by omega)).2 h.1)
 ·omega
 ·exact h.2.1 d0 a
 ·exact a h.2.2.2
end Go.Proofs.YtgihiaaodkkkbaaGreatDoor
namespace Go.Proofs.YtgihiaaodkkkbaaGreatDoor
open Go.RowKit

set_option maxRecDepth 100000 in
set_option maxHeartbeats 1000000 in
theorem make0_any (neg : Bool) (va : Value) (xs : List Nat) (w : World) (ha : Rd w va xs) (la : M.Low D32 xs) (hx : xs.length ≤ 100000) :
  Calls Tryz.prog 97 #[.bool neg, va] w fun e w' => e = .returned (zI (sgn neg (M.val D32 xs))) ∧ Below w.heap.size w w' := by
 rw [zI_sgn]
 have H := shut (fun w0 h0 => rnat_any va xs w0 h0 la hx)
 have HE := shut (strOf_empty (M.val D32 xs))
 generalize strOf (M.val D32 xs) = s at *
 have ha0 := ha
 obtain ⟨a, ca, rfl, -, -⟩ := ha
 go_enter Tryz.func97, Tryz.ntmps97
 go_wp2_with fail
 obtain ⟨w0, hw0⟩ : ∃ w0, w0 = w.alloc (.cells #[.bool false, .string { data := #[] }] 30) := ⟨_, rfl⟩
 have k2 : Cel w0 w.heap.size [.bool false, .string { data := #[] }] 30 := by rw [hw0]; exact Cel.new w _ _
 have hb0 : Below w.heap.size w w0 := by rw [hw0]; exact (Below.refl _ _).alloc (Nat.le_refl _) _
 rw [← hw0]
 clear hw0
 refine (H.out w0 (ha0.below hb0)).mono ?_
 rintro e w1 ⟨rfl, hb⟩
 have k2' := k2.below hb
 have bb := Below.after hb0 hb
 have c1 := cel2_0 k2'
 have c2 := cel2_1 k2'
 have f1 := k2'.frozen 0
 have f2 := k2'.frozen 1
 clear H HE
 cases neg
 ·go_wp2
  exact post_z (p := 4) (by kernel_rfl) rfl rfl ((k2'.set 0 _).set 1 _) ⟨rfl, (bb.setCell (by simp) _).setCell (by simp) _⟩
 ·go_wp2
  exact post_z (p := 4) (by kernel_rfl) rfl rfl ((k2'.set 0 _).set 1 _) ⟨rfl, (bb.setCell (by simp) _).setCell (by simp) _⟩

theorem split_one {m : Nat} (hm : m < B64) (v : Value) (w : World) (h : Rd w v [m]) :
  Calls Tryz.prog 100 #[v] w fun e w' => ∃ v, e = .returned v ∧ Rd w' v (M.digs D32 m) ∧ Below w.heap.size w w' := by
 have := split_any v [m] w h (low_of_all (by simpa using hm)) (by simp)
 rwa [show M.val B64 [m] = m from by simp [M.val_cons, M.val_nil]] at this
theorem make0_dig (neg : Bool) (m : Nat) (hm : m < B64) (v : Value) (w : World) (h : Rd w v (M.digs D32 m)) :
  Calls Tryz.prog 97 #[.bool neg, v] w fun e w' => e = .returned (zI (sgn neg m)) ∧ Below w.heap.size w w' := by
 have hl : (M.digs D32 m).length ≤ 2 := M.digs_len_of_lt D32_two (by rw [show D32 ^ 2 = B64 from by rw [Nat.pow_two, D32_sq]]; exact hm)
 have := make0_any neg v _ w h (M.Low.digs D32_two _) (by omega)
 rwa [M.val_digs D32_two] at this

set_option maxRecDepth 100000 in
set_option maxHeartbeats 1000000 in
theorem rof_any (n : Int) (h1 : -9223372036854775808 ≤ n) (h2 : n < 9223372036854775808) (w : World) :
  Calls Tryz.prog 72 #[.int .i64 n] w fun e w' => e = .returned (zI n) ∧ Below w.heap.size w w' := by
 obtain ⟨m, hm⟩ : ∃ m : Nat, m = n.natAbs := ⟨_, rfl⟩
 have hmB : m < B64 := by unfold B64; omega
 have HS := shut (fun v w h => split_one hmB v w h)
 by_cases hn : n < 0
 ·have HM := shut (fun v w h => make0_dig true m hmB v w h)
  rw [show sgn true m = n from by simp [sgn]; omega] at HM
  generalize hR : zI n = R at *
  obtain ⟨za, zb, rfl⟩ : ∃ a b, R = .agg #[.bool a, .string b] := ⟨_, _, hR.symm⟩
  clear hR hmB
  have g1 : IntKind.i64.wrap (n + 1) = n + 1 := by simp only [IntKind.wrap_i64]; omega
  have g2 : IntKind.i64.wrap (-(n + 1)) = -(n + 1) := by simp only [IntKind.wrap_i64]; omega
  have g3 : IntKind.u64.wrap (-(n + 1)) = -(n + 1) := by simp only [IntKind.wrap_u64]; omega
  have g4 : IntKind.u64.wrap (-(n + 1) + 1) = (m : Int) := by simp only [IntKind.wrap_u64]; omega
  clear hm
  go_enter Tryz.func72, Tryz.ntmps72
  go_wp2_with fail
  obtain ⟨w0, hw0, k0, r0, hb0⟩ := boxRow w m
  rw [← hw0]
  clear hw0
  refine (HS.out _ w0 r0).mono ?_
  rintro e w1 ⟨v, rfl, rv, hb1⟩
  obtain ⟨av, cv, rfl, -, -⟩ := id rv
  go_wp2_with fail
  refine (HM.out _ w1 rv).mono ?_
  rintro e w2 ⟨rfl, hb2⟩
  have bb2 := Below.after hb1 hb2
  have m2 := k0.below bb2
  have bb := Below.after hb0 bb2
  have e0 := cel2_0 m2
  have e1 := cel2_1 m2
  have f0 := m2.frozen 0
  have f1 := m2.frozen 1
  go_wp2
  exact post_z (p := 2) (by kernel_rfl) rfl rfl ((m2.set 0 _).set 1 _) ⟨rfl, (bb.setCell (by simp) _).setCell (by simp) _⟩
 ·have g0 : n = (m : Int) := by omega
  have HM := shut (fun v w h => make0_dig false m hmB v w h)
  rw [show sgn false m = n from by simp [sgn]; omega] at HM
  generalize hR : zI n = R at *
  obtain ⟨za, zb, rfl⟩ : ∃ a b, R = .agg #[.bool a, .string b] := ⟨_, _, hR.symm⟩
  clear hR hmB hm
  subst g0
  have g1 : IntKind.u64.wrap (m : Int) = (m : Int) := by simp only [IntKind.wrap_u64]; omega
  go_enter Tryz.func72, Tryz.ntmps72
  go_wp2_with fail
  obtain ⟨w0, hw0, k0, r0, hb0⟩ := boxRow w m
  rw [← hw0]
  clear hw0
  refine (HS.out _ w0 r0).mono ?_
  rintro e w1 ⟨v, rfl, rv, hb1⟩
  obtain ⟨av, cv, rfl, -, -⟩ := id rv
  go_wp2_with fail
  refine (HM.out _ w1 rv).mono ?_
  rintro e w2 ⟨rfl, hb2⟩
  have bb2 := Below.after hb1 hb2
  have m2 := k0.below bb2
  have bb := Below.after hb0 bb2
  have e0 := cel2_0 m2
  have e1 := cel2_1 m2
  have f0 := m2.frozen 0
  have f1 := m2.frozen 1
  go_wp2
  exact post_z (p := 2) (by kernel_rfl) rfl rfl ((m2.set 0 _).set 1 _) ⟨rfl, (bb.setCell (by simp) _).setCell (by simp) _⟩
end Go.Proofs.YtgihiaaodkkkbaaGreatDoor
namespace Go.Proofs.YtgihiaaodkkkbaaGreatDoor
open Go.RowKit

set_option maxRecDepth 100000 in
set_option maxHeartbeats 1000000 in
theorem rcheck_any (n : Bool) (s : ByteArray) (w : World) :
  Calls Tryz.prog 67 #[.agg #[.bool n, .string s]] w fun e w' => e = .returned (.int .i64 (chk n s : Nat)) ∧ Below w.heap.size w w' := by
 by_cases h1 : 32000 < s.size
 ·have HC : Hid (chk n s = 5) := by show _ = _; unfold chk; rw [if_pos h1]
  go_enter Tryz.func67, Tryz.ntmps67
  go_wp2
  go_ret
  exact ⟨by rw [HC.out]; rfl, by go_grown⟩
 ·by_cases hs : 0 < s.size
  ·have g4 := toList_ne hs
   have g5 : s.toList.isEmpty = false := by simpa using g4
   by_cases h0 : lm (byts s) 0 = 0
   ·have HC : Hid (chk n s = 1) := by show _ = _; unfold chk; rw [if_neg h1, if_pos (Or.inr ⟨hs, h0⟩)]
    have HI := shut (fun w => isNat_no s w hs h0)
    clear h0
    go_enter Tryz.func67, Tryz.ntmps67
    go_wp2_with fail
    refine (HI.out _).mono ?_
    rintro e w1 ⟨rfl, hw⟩
    subst hw
    go_wp2
    go_ret
    exact ⟨by rw [HC.out]; rfl, by go_grown⟩
   ·have HC : Hid (chk n s = 0) := by
     show _ = _
     unfold chk
     rw [if_neg h1, if_neg (by rintro (⟨a, _⟩ | ⟨_, b⟩); · omega
                               ·exact h0 b)]
    have HI := shut (fun w => isNat_yes s w (fun _ => h0))
    clear h0
    cases n <;>
    ·go_enter Tryz.func67, Tryz.ntmps67
     go_wp2_with fail
     refine (HI.out _).mono ?_
     rintro e w1 ⟨rfl, hw⟩
     subst hw
     go_wp2
     go_ret
     exact ⟨by rw [HC.out]; rfl, by go_grown⟩
  ·have g3 : s = ByteArray.empty := ByteArray.size_eq_zero_iff.1 (by omega)
   subst g3
   have HI := shut (fun w => isNat_yes ByteArray.empty w (fun h => absurd h hs))
   cases n with
   | true =>
    have HC : Hid (chk true ByteArray.empty = 1) := by show _ = _; rfl
    go_enter Tryz.func67, Tryz.ntmps67
    go_wp2_with fail
    refine (HI.out _).mono ?_
    rintro e w1 ⟨rfl, hw⟩
    subst hw
    go_wp2
    go_ret
    exact ⟨by rw [HC.out]; rfl, by go_grown⟩
   | false =>
    have HC : Hid (chk false ByteArray.empty = 0) := by show _ = _; rfl
    go_enter Tryz.func67, Tryz.ntmps67
    go_wp2_with fail
    refine (HI.out _).mono ?_
    rintro e w1 ⟨rfl, hw⟩
    subst hw
    go_wp2
    go_ret
    exact ⟨by rw [HC.out]; rfl, by go_grown⟩

/-- Two numbers in boxes, and a cell for the answer. -/
theorem rb3 (w : World) (x0 x1 y0 y1 : Value) : ∃ w0, w0 = ((w.alloc (.cells #[x0, x1] 30)).alloc (.cells #[y0, y1] 30)).alloc (.cells #[.bool false, .string { data := #[] }] 30) ∧
  Cel w0 w.heap.size [x0, x1] 30 ∧ Cel w0 (w.heap.size + 1) [y0, y1] 30 ∧ Cel w0 (w.heap.size + 1 + 1) [.bool false, .string { data := #[] }] 30 ∧ Below w.heap.size w w0 := by
 refine ⟨_, rfl, ((Cel.new w [x0, x1] _).alloc _).alloc _, ?_, ?_, by go_grown⟩
 ·have := (Cel.new (w.alloc (.cells #[x0, x1] 30)) [y0, y1] 30).alloc (.cells #[.bool false, .string { data := #[] }] 30)
  simpa using this
 ·have := Cel.new ((w.alloc (.cells #[x0, x1] 30)).alloc (.cells #[y0, y1] 30)) [.bool false, .string { data := #[] }] 30
  simpa using this

theorem D32_pow (k : Nat) : D32 ^ k = 256 ^ (4 * k) := by rw [Nat.pow_mul]; rfl
theorem natOf_lt4 {s : ByteArray} (k : Nat) (h : s.size ≤ 4 * k) : natOf s < D32 ^ k := Nat.lt_of_lt_of_le (natOf_lt s) (by rw [D32_pow]; exact Nat.pow_le_pow_right (by omega) h)
theorem dlen {V K : Nat} (h : V < D32 ^ K) : (M.digs D32 V).length ≤ K := M.digs_len_of_lt D32_two h
theorem digs_mono {b X Y : Nat} (hb : 2 ≤ b) (h : Y ≤ X) : (M.digs b Y).length ≤ (M.digs b X).length := by
 refine M.digs_len_of_lt hb (Nat.lt_of_le_of_lt h ?_)
 have := M.val_lt (by omega) (M.Low.digs hb X)
 rwa [M.val_digs hb] at this
theorem rsub_dig {X Y K : Nat} (hK : K ≤ 50000) (hx : X < D32 ^ K) (hle : Y ≤ X) (v0 v1 : Value) (w : World) (r0 : Rd w v0 (M.digs D32 X)) (r1 : Rd w v1 (M.digs D32 Y)) :
  Calls Tryz.prog 126 #[v0, v1] w fun e w' => ∃ v, e = .returned v ∧ Rd w' v (M.digs D32 (X - Y)) ∧ Below w.heap.size w w' := by
 have := rsub_any v0 v1 _ _ w r0 r1 (M.Low.digs D32_two _) (M.Low.digs D32_two _) (Nat.le_trans (dlen hx) (by omega)) (digs_mono D32_two hle) (by rw [M.val_digs D32_two, M.val_digs D32_two]; exact hle)
 rwa [M.val_digs D32_two, M.val_digs D32_two] at this
theorem rcmp_dig {X Y K : Nat} (hK : K ≤ 50000) (hx : X < D32 ^ K) (v0 v1 : Value) (w : World) (r0 : Rd w v0 (M.digs D32 X)) (r1 : Rd w v1 (M.digs D32 Y)) :
  Calls Tryz.prog 125 #[v0, v1] w fun e w' => e = .returned (.int .i64 (cmpN X Y)) ∧ Below w.heap.size w w' := by
 have := rcmp_any D32 D32_pos v0 v1 _ _ w r0 r1 (M.Low.digs D32_two _) (M.Low.digs D32_two _) (M.trim_digs D32_two _) (M.trim_digs D32_two _) (Nat.le_trans (dlen hx) (by omega))
 rwa [M.val_digs D32_two, M.val_digs D32_two] at this
theorem make0_val (neg : Bool) {V K : Nat} (hK : K ≤ 100000) (hV : V < D32 ^ K) (v : Value) (w : World) (h : Rd w v (M.digs D32 V)) :
  Calls Tryz.prog 97 #[.bool neg, v] w fun e w' => e = .returned (zI (sgn neg V)) ∧ Below w.heap.size w w' := by
 have := make0_any neg v _ w h (M.Low.digs D32_two _) (Nat.le_trans (dlen hV) hK)
 rwa [M.val_digs D32_two] at this
end Go.Proofs.YtgihiaaodkkkbaaGreatDoor
namespace Go.Proofs.YtgihiaaodkkkbaaGreatDoor
open Go.RowKit

/-- What a call of two numbers starts from: both boxed, a cell for the answer, and both in a row. -/
theorem boxes4 (w : World) (x0 x1 y0 y1 : Value) : ∃ w0, w0 = (((w.alloc (.cells #[x0, x1] 30)).alloc (.cells #[y0, y1] 30)).alloc (.cells #[.bool false, .string { data := #[] }] 30)).alloc (.cells #[x0, x1, y0, y1] 30) ∧
  Cel w0 w.heap.size [x0, x1] 30 ∧ Cel w0 (w.heap.size + 1) [y0, y1] 30 ∧ Cel w0 (w.heap.size + 1 + 1) [.bool false, .string { data := #[] }] 30 ∧ Cel w0 (w.heap.size + 1 + 1 + 1) [x0, x1, y0, y1] 30 ∧ Below w.heap.size w w0 := by
 refine ⟨_, rfl, (((Cel.new w [x0, x1] 30).alloc _).alloc _).alloc _, ?_, ?_, ?_, by go_grown⟩
 ·have := ((Cel.new (w.alloc (.cells #[x0, x1] 30)) [y0, y1] 30).alloc (.cells #[.bool false, .string { data := #[] }] 30)).alloc (.cells #[x0, x1, y0, y1] 30)
  simpa using this
 ·have := (Cel.new ((w.alloc (.cells #[x0, x1] 30)).alloc (.cells #[y0, y1] 30)) [.bool false, .string { data := #[] }] 30).alloc (.cells #[x0, x1, y0, y1] 30)
  simpa using this
 ·have := Cel.new (((w.alloc (.cells #[x0, x1] 30)).alloc (.cells #[y0, y1] 30)).alloc (.cells #[.bool false, .string { data := #[] }] 30)) [x0, x1, y0, y1] 30
  simpa using this

theorem sgn_natOf (neg : Bool) (s : ByteArray) : sgn neg (natOf s) = zOf neg s := rfl
/-- The sum of two signs and limbs. -/
theorem sum_any (n0 n1 : Bool) (v0 v1 : Value) (xs ys : List Nat) (w : World) (h0 : Rd w v0 xs) (h1 : Rd w v1 ys) (l0 : M.Low B64 xs) (l1 : M.Low B64 ys) (hx : xs.length ≤ 3000) (hy : ys.length ≤ 3000) :
  Calls Tryz.prog 196 #[.agg #[.bool n0, v0], .agg #[.bool n1, v1]] w fun e w' => e = .returned (zI (sgn n0 (M.val B64 xs) + sgn n1 (M.val B64 ys))) ∧ Below w.heap.size w w' := by
 by_cases h : n1 = n0
 ·subst h
  have := sum_like n1 v0 v1 xs ys w h0 h1 l0 l1 hx hy
  have e : sgn n1 (M.val B64 xs + M.val B64 ys) = sgn n1 (M.val B64 xs) + sgn n1 (M.val B64 ys) := by
   cases n1
   ·simp [sgn]
   ·simp [sgn]; omega
  rwa [e] at this
 ·have e : n1 = !n0 := by cases n0 <;> cases n1 <;> simp_all
  subst e
  have := sum_unlike n0 v0 v1 xs ys w h0 h1 l0 l1 hx hy
  rwa [difz_eq] at this
theorem digs_len_bytes {s : ByteArray} (k : Nat) (h : s.size ≤ 8 * k) : (M.digs B64 (natOf s)).length ≤ k :=
 M.digs_len_of_lt B64_two (Nat.lt_of_lt_of_le (natOf_lt s) (by rw [B64_pow]; exact Nat.pow_le_pow_right (by omega) h))

set_option maxRecDepth 100000 in
set_option maxHeartbeats 4000000 in
theorem zadd_ok (n0 n1 : Bool) (s0 s1 : ByteArray) (w : World) (o0 : OkZ n0 s0) (o1 : OkZ n1 s1) (z0 : s0.size ≤ 24000) (z1 : s1.size ≤ 24000) :
  Calls Tryz.prog 168 #[.agg #[.bool n0, .string s0], .agg #[.bool n1, .string s1]] w fun e w' => e = .returned (.tuple #[zI (zOf n0 s0 + zOf n1 s1), .int .i64 0]) ∧ Below w.heap.size w w' := by
 have hS : ∀ (v0 v1 : Value) (wx : World), Rd wx v0 (M.digs B64 (natOf s0)) → Rd wx v1 (M.digs B64 (natOf s1)) → Calls Tryz.prog 196 #[.agg #[.bool n0, v0], .agg #[.bool n1, v1]] wx fun e w' => e = .returned (zI (zOf n0 s0 + zOf n1 s1)) ∧ Below wx.heap.size wx w' := fun v0 v1 wx r0 r1 => by
  have := sum_any n0 n1 v0 v1 _ _ wx r0 r1 (M.Low.digs B64_two _) (M.Low.digs B64_two _) (digs_len_bytes 3000 (by omega)) (digs_len_bytes 3000 (by omega))
  rwa [M.val_digs B64_two, M.val_digs B64_two, sgn_natOf, sgn_natOf] at this
 have HS := shut hS
 clear hS
 generalize hR : zI (zOf n0 s0 + zOf n1 s1) = R at *
 obtain ⟨za, zb, rfl⟩ : ∃ a b, R = .agg #[.bool a, .string b] := ⟨_, _, hR.symm⟩
 clear hR
 go_enter Tryz.func168, Tryz.ntmps168
 go_wp2_with fail
 obtain ⟨w0, hw0, k0, k1, k2, k3, hb0⟩ := boxes4 w (.bool n0) (.string s0) (.bool n1) (.string s1)
 rw [← hw0]
 clear hw0
 refine (read2_ok _ n0 n1 s0 s1 w0 k3 o0 o1 (by omega) (by omega)).mono ?_
 rintro e w1 ⟨g, v0, v1, rfl, kg, r0, r1, hg, hb⟩
 have c0 := kg.cell 0
 have c1 := kg.cell 1
 have c2 := kg.cell 2
 have c3 := kg.cell 3
 simp only [List.getElem?_cons_zero, List.getElem?_cons_succ] at c0 c1 c2 c3
 have m2 := k2.below hb
 have bb := Below.after hb0 hb
 have H30 := shut (HS.out v0 v1 w1.drew (show Rd w1 _ _ from r0.rd) (show Rd w1 _ _ from r1.rd))
 clear HS k0 k1 k2 k3 kg
 obtain ⟨a0, p0, rfl, -, -⟩ := id r0
 obtain ⟨a1, p1, rfl, -, -⟩ := id r1
 go_wp2
 go_region_with (first | (go_at_call 196; refine (H30.out).mono ?_; rintro e w2 ⟨rfl, hb2'⟩; have hb2 : Below w1.heap.size w1 w2 := ⟨hb2'.os, hb2'.tape, hb2'.output, hb2'.size, hb2'.block⟩; have q2 := m2.below hb2; have e0 := cel2_0 q2; have e1 := cel2_1 q2; have f0 := q2.frozen 0; have f1 := q2.frozen 1))
 all_goals try go_wp2
 all_goals refine post_z1 (p := 4) (u := 5) (by kernel_rfl) rfl rfl rfl ((q2.set 0 _).set 1 _) ⟨rfl, ((Below.after bb hb2).setCell (by simp; omega) _).setCell (by simp; omega) _⟩
end Go.Proofs.YtgihiaaodkkkbaaGreatDoor
namespace Go.Proofs.YtgihiaaodkkkbaaGreatDoor
open Go.RowKit

theorem dig_any (s : ByteArray) (w : World) (hm : s.size ≤ 40000) :
  Calls Tryz.prog 99 #[.string s] w fun e w' => ∃ v, e = .returned v ∧ Rd w' v (M.digs D32 (natOf s)) ∧ Below w.heap.size w w' := digits_any s w (by omega)
end Go.Proofs.YtgihiaaodkkkbaaGreatDoor
namespace Go.Proofs.YtgihiaaodkkkbaaGreatDoor
open Go.RowKit

theorem sgn_mul (a b : Bool) (X Y : Nat) : sgn (a != b) (X * Y) = sgn a X * sgn b Y := by
 cases a <;> cases b <;> simp [sgn, Int.natCast_mul, Int.neg_mul, Int.mul_neg]
theorem digs_len_mul {x y j k : Nat} (hx : x < B64 ^ j) (hy : y < B64 ^ k) : (M.digs B64 (x * y)).length ≤ j + k := by
 refine M.digs_len_of_lt B64_two ?_
 rw [Nat.pow_add]
 exact Nat.mul_lt_mul'' hx hy
theorem natOf_lt8 {s : ByteArray} (k : Nat) (h : s.size ≤ 8 * k) : natOf s < B64 ^ k := Nat.lt_of_lt_of_le (natOf_lt s) (by rw [B64_pow]; exact Nat.pow_le_pow_right (by omega) h)
theorem len_mul8 {s0 s1 : ByteArray} (j k : Nat) (h0 : s0.size ≤ 8 * j) (h1 : s1.size ≤ 8 * k) : (M.digs B64 (natOf s0 * natOf s1)).length ≤ j + k := digs_len_mul (natOf_lt8 j h0) (natOf_lt8 k h1)

set_option maxRecDepth 100000 in
set_option maxHeartbeats 4000000 in
theorem zmul_ok (n0 n1 : Bool) (s0 s1 : ByteArray) (w : World) (o0 : OkZ n0 s0) (o1 : OkZ n1 s1) (z0 : s0.size ≤ 16000) (z1 : s1.size ≤ 16000) :
  Calls Tryz.prog 141 #[.agg #[.bool n0, .string s0], .agg #[.bool n1, .string s1]] w fun e w' => e = .returned (.tuple #[zI (zOf n0 s0 * zOf n1 s1), .int .i64 0]) ∧ Below w.heap.size w w' := by
 have hM : ∀ (v0 v1 : Value) (wx : World), Rd wx v0 (M.digs B64 (natOf s0)) → Rd wx v1 (M.digs B64 (natOf s1)) → Calls Tryz.prog 118 #[v0, v1] wx fun e w' => ∃ v, e = .returned (.tuple #[v, .int .i64 0]) ∧ Rd w' v (M.digs B64 (natOf s0 * natOf s1)) ∧ Below wx.heap.size wx w' := fun v0 v1 wx r0 r1 => by
  have := mul_any v0 v1 _ _ wx r0 r1 (M.Low.digs B64_two _) (M.Low.digs B64_two _) (Nat.le_trans (digs_len_bytes 2000 (by omega)) (by omega)) (Nat.le_trans (digs_len_bytes 2000 (by omega)) (by omega))
  rwa [M.val_digs B64_two, M.val_digs B64_two] at this
 have hT : ∀ (v : Value) (wx : World), Rd wx v (M.digs B64 (natOf s0 * natOf s1)) → Calls Tryz.prog 139 #[.agg #[.bool (n0 != n1), v]] wx fun e w' => e = .returned (zI (zOf n0 s0 * zOf n1 s1)) ∧ Below wx.heap.size wx w' := fun v wx hr => by
  have := tell_any (n0 != n1) v _ wx hr (M.Low.digs B64_two _) (by have := len_mul8 2000 2000 (s0 := s0) (s1 := s1) (by omega) (by omega); omega)
  rwa [M.val_digs B64_two, sgn_mul, sgn_natOf, sgn_natOf] at this
 have HM := shut hM
 have HT := shut hT
 clear hM hT
 generalize hR : zI (zOf n0 s0 * zOf n1 s1) = R at *
 obtain ⟨za, zb, rfl⟩ : ∃ a b, R = .agg #[.bool a, .string b] := ⟨_, _, hR.symm⟩
 clear hR
 go_enter Tryz.func141, Tryz.ntmps141
 go_wp2_with fail
 obtain ⟨w0, hw0, k0, k1, k2, k3, hb0⟩ := boxes4 w (.bool n0) (.string s0) (.bool n1) (.string s1)
 rw [← hw0]
 clear hw0
 refine (read2_ok _ n0 n1 s0 s1 w0 k3 o0 o1 (by omega) (by omega)).mono ?_
 rintro e w1 ⟨g, v0, v1, rfl, kg, r0, r1, hg, hb⟩
 have c0 := kg.cell 0
 have c1 := kg.cell 1
 have c2 := kg.cell 2
 have c3 := kg.cell 3
 simp only [List.getElem?_cons_zero, List.getElem?_cons_succ] at c0 c1 c2 c3
 have m0 := k0.below hb
 have m1 := k1.below hb
 have m2 := k2.below hb
 have bb := Below.after hb0 hb
 have H31 := shut (HM.out v0 v1 w1.drew (show Rd w1 _ _ from r0.rd) (show Rd w1 _ _ from r1.rd))
 clear HM k0 k1 k2 k3 kg
 obtain ⟨a0, p0, rfl, -, -⟩ := id r0
 obtain ⟨a1, p1, rfl, -, -⟩ := id r1
 go_wp2
 go_region_held3 (fun w' => w'.cell? ⟨g, 1, none⟩ = some (.slice a0 (M.digs B64 (natOf s0)).length p0) ∧ w'.cell? ⟨g, 3, none⟩ = some (.slice a1 (M.digs B64 (natOf s1)).length p1)) (first | exact ⟨c1, c3⟩ | exact ⟨cell_below c1 b31, cell_below c3 b31⟩) (first | (go_at_call 118; refine (H31.out).mono ?_; rintro e w2 ⟨v, rfl, rv, b31'⟩; have b31 : Below w1.heap.size w1 w2 := ⟨b31'.os, b31'.tape, b31'.output, b31'.size, b31'.block⟩; obtain ⟨av, cv, rfl, -, -⟩ := id rv))
 have q0 := m0.below b31
 have q1 := m1.below b31
 have q2 := m2.below b31
 have bb2 := Below.after bb b31
 have d0 := cel2_0 q0
 have d1 := cel2_0 q1
 clear m0 m1 m2 c0 c1 c2 c3 r0 r1 H31
 go_wp2_with fail
 refine (HT.out _ _ rv).mono ?_
 rintro e w4 ⟨rfl, hb4⟩
 have p2 := q2.below hb4
 have bb4 := Below.after bb2 hb4
 have e0 := cel2_0 p2
 have e1 := cel2_1 p2
 have f0 := p2.frozen 0
 have f1 := p2.frozen 1
 go_wp2
 exact post_z1 (p := 4) (u := 5) (by kernel_rfl) rfl rfl rfl ((p2.set 0 _).set 1 _) ⟨rfl, (bb4.setCell (by simp; omega) _).setCell (by simp; omega) _⟩
end Go.Proofs.YtgihiaaodkkkbaaGreatDoor
namespace Go.Proofs.YtgihiaaodkkkbaaGreatDoor
open Go.RowKit

end Go.Proofs.YtgihiaaodkkkbaaGreatDoor
namespace Go.Proofs.YtgihiaaodkkkbaaGreatDoor
open Go.RowKit

theorem sgn_not (b : Bool) (V : Nat) : sgn (!b) V = -sgn b V := by cases b <;> simp [sgn]
set_option maxRecDepth 100000 in
set_option maxHeartbeats 4000000 in
theorem zsub_ok (n0 n1 : Bool) (s0 s1 : ByteArray) (w : World) (o0 : OkZ n0 s0) (o1 : OkZ n1 s1) (z0 : s0.size ≤ 24000) (z1 : s1.size ≤ 24000) :
  Calls Tryz.prog 170 #[.agg #[.bool n0, .string s0], .agg #[.bool n1, .string s1]] w fun e w' => e = .returned (.tuple #[zI (zOf n0 s0 - zOf n1 s1), .int .i64 0]) ∧ Below w.heap.size w w' := by
 have hS : ∀ (v0 v1 : Value) (wx : World), Rd wx v0 (M.digs B64 (natOf s0)) → Rd wx v1 (M.digs B64 (natOf s1)) → Calls Tryz.prog 196 #[.agg #[.bool n0, v0], .agg #[.bool (!n1), v1]] wx fun e w' => e = .returned (zI (zOf n0 s0 - zOf n1 s1)) ∧ Below wx.heap.size wx w' := fun v0 v1 wx r0 r1 => by
  have := sum_any n0 (!n1) v0 v1 _ _ wx r0 r1 (M.Low.digs B64_two _) (M.Low.digs B64_two _) (digs_len_bytes 3000 (by omega)) (digs_len_bytes 3000 (by omega))
  rwa [M.val_digs B64_two, M.val_digs B64_two, sgn_not, sgn_natOf, sgn_natOf, ← Int.sub_eq_add_neg] at this
 have HS := shut hS
 clear hS
 generalize hR : zI (zOf n0 s0 - zOf n1 s1) = R at *
 obtain ⟨za, zb, rfl⟩ : ∃ a b, R = .agg #[.bool a, .string b] := ⟨_, _, hR.symm⟩
 clear hR
 go_enter Tryz.func170, Tryz.ntmps170
 go_wp2_with fail
 obtain ⟨w0, hw0, k0, k1, k2, k3, hb0⟩ := boxes4 w (.bool n0) (.string s0) (.bool n1) (.string s1)
 rw [← hw0]
 clear hw0
 refine (read2_ok _ n0 n1 s0 s1 w0 k3 o0 o1 (by omega) (by omega)).mono ?_
 rintro e w1 ⟨g, v0, v1, rfl, kg, r0, r1, hg, hb⟩
 have c0 := kg.cell 0
 have c1 := kg.cell 1
 have c2 := kg.cell 2
 have c3 := kg.cell 3
 have c4 := kg.frozen 2
 simp only [List.getElem?_cons_zero, List.getElem?_cons_succ] at c0 c1 c2 c3
 have m2 := k2.below hb
 have hne : w.heap.size + 1 + 1 ≠ g := by have := k3.lt; omega
 have bb := Below.after hb0 hb
 have hgw : w.heap.size ≤ g := Nat.le_trans hb0.size hg
 obtain ⟨a0, p0, rfl, -, -⟩ := id r0
 obtain ⟨a1, p1, rfl, -, -⟩ := id r1
 go_wp2
 obtain ⟨w5, hw5⟩ : ∃ w5, w5 = w1.setCell ⟨g, 2, none⟩ (.bool (!n1)) := ⟨_, rfl⟩
 have kg5 : Cel w5 g [.bool n0, .slice a0 (M.digs B64 (natOf s0)).length p0, .bool (!n1), .slice a1 (M.digs B64 (natOf s1)).length p1] 143 := by rw [hw5]; exact kg.set 2 _
 have m5 : Cel w5 (w.heap.size + 1 + 1) [.bool false, .string { data := #[] }] 30 := by rw [hw5]; exact m2.other hne _ _
 have bb5 : Below w.heap.size w w5 := by rw [hw5]; exact bb.setCell hgw _
 have r05 : Rd w5 (.slice a0 (M.digs B64 (natOf s0)).length p0) (M.digs B64 (natOf s0)) := by rw [hw5]; exact (r0.setX 2 _).rd
 have r15 : Rd w5 (.slice a1 (M.digs B64 (natOf s1)).length p1) (M.digs B64 (natOf s1)) := by rw [hw5]; exact (r1.setX 2 _).rd
 rw [← hw5]
 clear hw5 c0 c1 c2 c3 c4
 have c0 := kg5.cell 0
 have c1 := kg5.cell 1
 have c2 := kg5.cell 2
 have c3 := kg5.cell 3
 simp only [List.getElem?_cons_zero, List.getElem?_cons_succ] at c0 c1 c2 c3
 have H30 := shut (HS.out _ _ w5.drew (show Rd w5 _ _ from r05) (show Rd w5 _ _ from r15))
 clear HS k0 k1 k2 k3 kg kg5 r0 r1 m2 bb
 go_region_with (first | (go_at_call 196; refine (H30.out).mono ?_; rintro e w2 ⟨rfl, hb2'⟩; have hb2 : Below w5.heap.size w5 w2 := ⟨hb2'.os, hb2'.tape, hb2'.output, hb2'.size, hb2'.block⟩; have q2 := m5.below hb2; have e0 := cel2_0 q2; have e1 := cel2_1 q2; have f0 := q2.frozen 0; have f1 := q2.frozen 1))
 all_goals try go_wp2
 all_goals refine post_z1 (p := 4) (u := 5) (by kernel_rfl) rfl rfl rfl ((q2.set 0 _).set 1 _) ⟨rfl, ((Below.after bb5 hb2).setCell (by simp; omega) _).setCell (by simp; omega) _⟩
end Go.Proofs.YtgihiaaodkkkbaaGreatDoor
namespace Go.Proofs.YtgihiaaodkkkbaaGreatDoor
open Go.RowKit

end Go.Proofs.YtgihiaaodkkkbaaGreatDoor
namespace Go.Proofs.YtgihiaaodkkkbaaGreatDoor
open Go.RowKit

end Go.Proofs.YtgihiaaodkkkbaaGreatDoor
