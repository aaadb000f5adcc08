/-
  Package whole: Of.
  Package whole: read of one number; powersUpTo of one limb.
  Package whole: Div of numbers that may be.
  Package gussetref01: half.
  Rational numbers as they are told: a sign, bytes above, bytes below. What numbers of so many bytes come to; numbers behind names.
  gussetref02: make0, Of.
  gussetref02: Check, Both, Negate; what gussetref01 tells of digits, by their values.
  Package whole: Add.
  gussetref02: Sum.
  Package whole: Mul.
  gussetref02: Times.
  Package whole: Sub.
  Package whole: Cmp.
  gussetref02: Less, Times, Order.
-/
import Derived.Test.YtgihiaaodkkkbaaGreatDoorK18
import Derived.Test.YtgihiaaodkkkbaaGreatDoorK19
namespace Go.Proofs.YtgihiaaodkkkbaaGreatDoor
open Go.RowKit

theorem boxRow (w : World) (m : Nat) : ∃ w0, w0 = (w.alloc (.cells #[.bool false, .string { data := #[] }] 30)).alloc (.cells #[.int .u64 (m : Nat)] 109) ∧
  Cel w0 w.heap.size [.bool false, .string { data := #[] }] 30 ∧ Rd w0 (.slice (some ⟨w.heap.size + 1, 0, none⟩) 1 1) [m] ∧ Below w.heap.size w w0 := by
 refine ⟨_, rfl, (Cel.new w _ 30).alloc _, rd1 _ (by simp) m, by go_grown⟩
end Go.Proofs.YtgihiaaodkkkbaaGreatDoor
namespace Go.Proofs.YtgihiaaodkkkbaaGreatDoor
open Go.RowKit Go.Shelf

def slen : Value → Nat
 | .slice _ n _ => n
 | _ => 0

end Go.Proofs.YtgihiaaodkkkbaaGreatDoor
namespace Go.Proofs.YtgihiaaodkkkbaaGreatDoor
open Go.RowKit

theorem digs_pos {b n : Nat} (hb : 2 ≤ b) (h : n ≠ 0) : 0 < (M.digs b n).length := by
 refine Nat.pos_of_ne_zero fun h0 => ?_
 have := M.val_digs hb n
 rw [List.length_eq_zero_iff.1 h0, M.val_nil] at this
 omega
theorem digs_zero {b n : Nat} (h : n = 0) : (M.digs b n).length = 0 := by subst h; rfl

theorem tell_dig (neg : Bool) {V K : Nat} (hK : K ≤ 4000) (hV : V < B64 ^ K) (v : Value) (wx : World) (hr : Rd wx v (M.digs B64 V)) :
  Calls Tryz.prog 139 #[.agg #[.bool neg, v]] wx fun e w' => e = .returned (zI (sgn neg V)) ∧ Below wx.heap.size wx w' := by
 have := tell_any neg v _ wx hr (M.Low.digs B64_two _) (Nat.le_trans (M.digs_len_of_lt B64_two hV) hK)
 rwa [M.val_digs B64_two] at this

end Go.Proofs.YtgihiaaodkkkbaaGreatDoor
namespace Go.Proofs.YtgihiaaodkkkbaaGreatDoor
open Go.RowKit

/-- The upper limbs of a row, halved from above. -/
def HfAt (xs zs : List Nat) (k r : Nat) : Prop := zs.length = xs.length - k ∧ M.Low D32 zs ∧ r ≤ 1 ∧ 2 * M.val D32 zs + r = M.val D32 (xs.drop k)
theorem HfAt.step {xs zs : List Nat} {k r : Nat} (lx : M.Low D32 xs) (hk : k + 1 ≤ xs.length) (h : HfAt xs zs (k + 1) r) : HfAt xs ((D32 * r + lm xs k) / 2 :: zs) k ((D32 * r + lm xs k) % 2) := by
 obtain ⟨h1, h2, h3, h4⟩ := h
 have b1 : lm xs k < D32 := lm_lt D32_pos lx k
 refine ⟨by simp; omega, ?_, by omega, ?_⟩
 ·intro x hx
  rcases List.mem_cons.1 hx with rfl | hx
  ·unfold D32 at *; omega
  ·exact h2 x hx
 ·rw [drop_lm xs k (by omega), M.val_cons, M.val_cons, ← h4]
  have e := Nat.div_add_mod (D32 * r + lm xs k) 2
  rw [Nat.mul_add D32]
  have e2 : D32 * (2 * M.val D32 zs) = 2 * (D32 * M.val D32 zs) := Nat.mul_left_comm _ _ _
  omega

set_option maxHeartbeats 1000000 in
theorem rhalf_any (va : Value) (xs : List Nat) (w : World) (ha : Rd w va xs) (la : M.Low D32 xs) (hx : xs.length ≤ 100000) :
  Calls Tryz.prog 131 #[va] w fun e w' => ∃ v, e = .returned (.tuple #[v, .bool (decide (M.val D32 xs % 2 = 1))]) ∧ Rd w' v (M.digs D32 (M.val D32 xs / 2)) ∧ Below w.heap.size w w' := by
 have ha0 := ha
 obtain ⟨a, ca, rfl, hca, -⟩ := ha
 obtain ⟨n, hn⟩ : ∃ n, n = xs.length := ⟨_, rfl⟩
 rw [← hn] at ha0 hca hx ⊢
 have HN := shut hn
 clear hn
 go_enter Tryz.func131, Tryz.ntmps131
 go_wp2_with (at_make; refine wpList_mk rfl _ _ rfl _ n rfl rfl (by omega) (by omega) ?_; intro w2 hblk hbel)
 go_loopw [5, 6] (fun r i wr => ∃ (k rr : Nat) (zs : List Nat), k ≤ n ∧ i = .int .i64 ((k : Int) - 1) ∧ r = .int .u64 rr ∧ HfAt xs zs k rr ∧ Blk wr w.heap.size (List.replicate k 0 ++ zs) ∧ Below w.heap.size w wr) (fun _ i _ => (intOf i + 1).toNat)
 case atStart => exact ⟨n, 0, [], Nat.le_refl _, rfl, rfl, ⟨by rw [HN.out]; simp, M.Low.nil _, by omega, by rw [HN.out]; simp [M.val]⟩, by simpa using hblk, hbel⟩
 case round =>
  obtain ⟨k, rr, zs, hk, rfl, rfl, hat, hblk', hbel'⟩ := hrel
  match k with
  | 0 =>
   obtain ⟨h1, h2, h3, h4⟩ := hat
   rw [List.drop_zero] at h4
   rw [List.replicate_zero, List.nil_append] at hblk'
   have hzl : zs.length = n := by rw [h1, HN.out]; omega
   have hrd : Rd wr (.slice (some ⟨w.heap.size, 0, none⟩) n n) zs := by
    have := hblk'.rd0 n (by omega)
    rwa [hzl] at this
   have e1 : M.val D32 zs = M.val D32 xs / 2 := by omega
   have e2 : ((rr : Int) == 1) = decide (M.val D32 xs % 2 = 1) := by
    rw [Bool.eq_iff_iff]
    simp
    omega
   have E1 := shut e1
   have E2 := shut e2
   have hlen : zs.length ≤ 1000000 := by omega
   clear h4 e1 e2 h1 h3 hzl
   go_wp2_with fail
   refine (trim_any D32 D32_two _ _ zs hrd h2 hlen).mono ?_
   rintro e w' ⟨v', rfl, hv', rfl⟩
   go_wp2
   go_ret2
   exact ⟨_, by rw [← E2.out]; rfl, by rw [← E1.out]; exact hv', hbel'⟩
  | k + 1 =>
   have HST := shut (hat.step la (by rw [← HN.out]; exact hk))
   have b1 : lm xs k < 4294967296 := lm_lt D32_pos la k
   have hr1 : rr ≤ 1 := hat.2.2.1
   have hzl : zs.length = n - (k + 1) := by rw [hat.1, HN.out]
   obtain ⟨b1', o1, rfl, q1⟩ := ha0.at hbel' (j := k) (by rw [← HN.out]; omega)
   have hc1 := hblk'.cell (j := k) (by simp; omega)
   have hf1 := hblk'.frozen k
   have hset : ∀ y, Blk (wr.setCell ⟨w.heap.size, k, none⟩ (.int .u64 (y : Nat))) w.heap.size (List.replicate k 0 ++ y :: zs) := fun y => by
    have h := hblk'.set k y
    have e : (List.replicate (k + 1) 0 ++ zs).set k y = List.replicate k 0 ++ y :: zs := by
     rw [List.replicate_succ', List.append_assoc, List.set_append_right _ _ (by simp)]
     simp
    rwa [e] at h
   have HS := shut (hset ((D32 * rr + lm xs k) / 2))
   have ik : (k : Int) < n := by omega
   clear hset hat hzl
   go_wp2
   have e1 : ((rr : Int) * 4294967296 + (lm xs k : Int)) % 2 = (((D32 * rr + lm xs k) % 2 : Nat) : Int) := by unfold D32; omega
   have e2 : ((rr : Int) * 4294967296 + (lm xs k : Int)) / 2 = (((D32 * rr + lm xs k) / 2 : Nat) : Int) := by unfold D32; omega
   rw [e1, e2]
   exact ⟨⟨k, _, _, by omega, rfl, rfl, HST.out, HS.out, hbel'.setCell (Nat.le_refl _) _⟩, by simp only [intOf]; omega⟩
end Go.Proofs.YtgihiaaodkkkbaaGreatDoor
namespace Go.Proofs.YtgihiaaodkkkbaaGreatDoor
open Go.RowKit

/-- At most k bytes. -/
def Bd (z : Int) (k : Nat) : Prop := z.natAbs < 256 ^ k
theorem pow256_pos (k : Nat) : 0 < 256 ^ k := Nat.pow_pos (by omega)
theorem Bd.zero (k : Nat) : Bd 0 k := pow256_pos k
theorem Bd.mono {z : Int} {j k : Nat} (h : Bd z j) (hk : j ≤ k) : Bd z k := Nat.lt_of_lt_of_le h (Nat.pow_le_pow_right (by omega) hk)
theorem bd_zOf {n : Bool} {s : ByteArray} {k : Nat} (h : s.size ≤ k) : Bd (zOf n s) k := by
 unfold Bd
 rw [natAbs_zOf]
 exact Nat.lt_of_lt_of_le (natOf_lt s) (Nat.pow_le_pow_right (by omega) h)
theorem Bd.add {x y : Int} {k : Nat} (hx : Bd x k) (hy : Bd y k) : Bd (x + y) (k + 1) := by
 unfold Bd at *
 rw [Nat.pow_succ]
 generalize 256 ^ k = p at *
 omega
theorem Bd.neg {x : Int} {k : Nat} (hx : Bd x k) : Bd (-x) k := by
 unfold Bd at *
 rwa [Int.natAbs_neg]
theorem Bd.mul {x y : Int} {j k : Nat} (hx : Bd x j) (hy : Bd y k) : Bd (x * y) (j + k) := by
 unfold Bd at *
 rw [Int.natAbs_mul, Nat.pow_add]
 exact Nat.mul_lt_mul'' hx hy
theorem Bd.le {x y : Int} {k : Nat} (hy : Bd y k) (h : x.natAbs ≤ y.natAbs) : Bd x k := Nat.lt_of_le_of_lt h hy
theorem Bd.div {x : Int} {k : Nat} (hx : Bd x k) (g : Nat) (hg : (g : Int) ∣ x) : Bd (x / (g : Int)) k := by
 refine hx.le ?_
 rw [Int.natAbs_ediv_of_dvd hg]
 exact Nat.div_le_self _ _
theorem Bd.nat {a b k : Nat} (hb : Bd (b : Int) k) (h : a ≤ b) : Bd (a : Int) k := hb.le (by simpa using h)
theorem Bd.size {z : Int} {k : Nat} (h : Bd z k) : (strOf z.natAbs).size ≤ k := strOf_lt h
/-- A sign and bytes of each number, behind names. -/
theorem named : ∃ (nf : Int → Bool) (sf : Int → ByteArray), (∀ z, zI z = .agg #[.bool (nf z), .string (sf z)]) ∧ (∀ z, OkZ (nf z) (sf z)) ∧ (∀ z k, Bd z k → (sf z).size ≤ k) ∧ (∀ z, zOf (nf z) (sf z) = z) ∧ (∀ n s, OkZ n s → nf (zOf n s) = n ∧ sf (zOf n s) = s) ∧ (∀ z, natOf (sf z) = z.natAbs) ∧ (∀ z, nf z = decide (z < 0)) ∧ (∀ z, sf z = strOf z.natAbs) :=
 ⟨fun z => decide (z < 0), fun z => strOf z.natAbs, fun _ => rfl, okZ_zI, fun z k h => h.size, zOf_zI, fun n s h => by
  have e := zV_ok h
  unfold zI zV at e
  simp only [Value.agg.injEq] at e
  have e' : [Value.bool n, .string s] = [.bool (decide (zOf n s < 0)), .string (strOf (zOf n s).natAbs)] := congrArg Array.toList e
  simp only [List.cons.injEq, Value.bool.injEq, Value.string.injEq] at e'
  exact ⟨e'.1.symm, e'.2.1.symm⟩, fun z => natOf_strOf _, fun _ => rfl, fun _ => rfl⟩
theorem strOf_one : strOf 1 = ⟨#[1]⟩ := by decide +kernel
theorem natOf_one : natOf ⟨#[1]⟩ = 1 := by rw [← strOf_one, natOf_strOf]
theorem zI_one : zI 1 = .agg #[.bool false, .string ⟨#[1]⟩] := by
 show zV (decide ((1 : Int) < 0)) (strOf 1) = _
 rw [strOf_one]
 rfl
/-- That a rational number may be so. -/
def OkQ (n : Bool) (s d : ByteArray) : Prop := OkZ n s ∧ OkS d ∧ 0 < natOf d ∧ Nat.gcd (natOf s) (natOf d) = 1
/-- The number that it is. -/
def qOf (n : Bool) (s d : ByteArray) : Rat := mkRat (zOf n s) (natOf d)
/-- Its one form. -/
def qI (q : Rat) : Value := .agg #[.bool (decide (q.num < 0)), .string (strOf q.num.natAbs), .string (strOf q.den)]
theorem OkQ.low {n : Bool} {s d : ByteArray} (h : OkQ n s d) : (qOf n s d).num = zOf n s ∧ (qOf n s d).den = natOf d :=
 Q.mk_low h.2.2.1 (by rw [natAbs_zOf]; exact h.2.2.2)
theorem OkQ.parts {n : Bool} {s d : ByteArray} (h : OkQ n s d) : decide ((qOf n s d).num < 0) = n ∧ strOf (qOf n s d).num.natAbs = s ∧ strOf (qOf n s d).den = d := by
 rw [h.low.1, h.low.2, natAbs_zOf, strOf_natOf h.1.1, strOf_natOf h.2.1]
 refine ⟨?_, rfl, rfl⟩
 cases n with
 | false => simp [zOf]
 | true =>
  have := natOf_pos h.1.1 (h.1.2 rfl)
  simp [zOf]; omega
theorem okQ_qI (q : Rat) : OkQ (decide (q.num < 0)) (strOf q.num.natAbs) (strOf q.den) := by
 refine ⟨okZ_zI _, okS_strOf _, ?_, ?_⟩
 ·rw [natOf_strOf]; exact q.den_pos
 ·rw [natOf_strOf, natOf_strOf]; exact q.reduced
theorem qOf_qI (q : Rat) : qOf (decide (q.num < 0)) (strOf q.num.natAbs) (strOf q.den) = q := by
 unfold qOf
 rw [zOf_zI, natOf_strOf, Rat.mkRat_self]
/-- What makes a number's form out of its parts. -/
theorem qI_of {q : Rat} {z : Int} {m : Nat} (h : q.num = z ∧ q.den = m) {n : Bool} {s d : ByteArray} (hz : zI z = .agg #[.bool n, .string s]) (hd : d = strOf m) : qI q = .agg #[.bool n, .string s, .string d] := by
 obtain ⟨rfl, rfl⟩ := h
 subst hd
 have e : (#[.bool (decide (q.num < 0)), .string (strOf q.num.natAbs)] : Array Value) = #[.bool n, .string s] := by
  have : zI q.num = .agg #[.bool (decide (q.num < 0)), .string (strOf q.num.natAbs)] := rfl
  rw [this] at hz
  simpa using hz
 have e' : [Value.bool (decide (q.num < 0)), .string (strOf q.num.natAbs)] = [.bool n, .string s] := congrArg Array.toList e
 simp only [List.cons.injEq, Value.bool.injEq, Value.string.injEq, and_true] at e'
 unfold qI
 rw [e'.1, e'.2]
/-- At most k bytes above and below. -/
def Bq (q : Rat) (k : Nat) : Prop := Bd q.num k ∧ Bd (q.den : Int) k
/-- A number's parts, behind names. -/
theorem named3 : ∃ (nf : Rat → Bool) (sf df : Rat → ByteArray), (∀ q, qI q = .agg #[.bool (nf q), .string (sf q), .string (df q)]) ∧ (∀ q, OkQ (nf q) (sf q) (df q)) ∧ (∀ q k, Bq q k → (sf q).size ≤ k ∧ (df q).size ≤ k) ∧ (∀ q, qOf (nf q) (sf q) (df q) = q) ∧ (∀ n s d, OkQ n s d → nf (qOf n s d) = n ∧ sf (qOf n s d) = s ∧ df (qOf n s d) = d) :=
 ⟨fun q => decide (q.num < 0), fun q => strOf q.num.natAbs, fun q => strOf q.den, fun _ => rfl, okQ_qI, fun q k h => ⟨h.1.size, by have := h.2.size; simpa using this⟩, qOf_qI, fun n s d h => h.parts⟩
theorem OkQ.bq {n : Bool} {s d : ByteArray} {k : Nat} (h : OkQ n s d) (hs : s.size ≤ k) (hd : d.size ≤ k) : Bq (qOf n s d) k := by
 refine ⟨?_, ?_⟩
 ·rw [h.low.1]; exact bd_zOf hs
 ·rw [h.low.2]; exact bd_zOf (n := false) hd
theorem Bq.mono {q : Rat} {j k : Nat} (h : Bq q j) (hk : j ≤ k) : Bq q k := ⟨h.1.mono hk, h.2.mono hk⟩

/-- What Check tells. -/
def chkq (n : Bool) (s d : ByteArray) : Nat := if 8000 < s.size ∨ 8000 < d.size then 5 else if chk n s ≠ 0 ∨ d.size = 0 ∨ lm (byts d) 0 = 0 ∨ Nat.gcd (natOf s) (natOf d) ≠ 1 then 1 else 0
theorem chkq_zero {n : Bool} {s d : ByteArray} (h : chkq n s d = 0) : OkQ n s d ∧ s.size ≤ 8000 ∧ d.size ≤ 8000 := by
 unfold chkq at h
 by_cases h1 : 8000 < s.size ∨ 8000 < d.size
 ·rw [if_pos h1] at h; omega
 ·rw [if_neg h1] at h
  by_cases h2 : chk n s ≠ 0 ∨ d.size = 0 ∨ lm (byts d) 0 = 0 ∨ Nat.gcd (natOf s) (natOf d) ≠ 1
  ·rw [if_pos h2] at h; omega
  ·have hs : s.size ≤ 8000 := by omega
   have c0 : chk n s = 0 := by
    refine Classical.byContradiction fun e => h2 (Or.inl e)
   have d0 : 0 < d.size := Nat.pos_of_ne_zero fun e => h2 (Or.inr (Or.inl e))
   have od : OkS d := fun _ e => h2 (Or.inr (Or.inr (Or.inl e)))
   have g1 : Nat.gcd (natOf s) (natOf d) = 1 := Classical.byContradiction fun e => h2 (Or.inr (Or.inr (Or.inr e)))
   exact ⟨⟨(chk_ok (by omega)).1 c0, od, natOf_pos od d0, g1⟩, hs, by omega⟩
theorem chkq_ok {n : Bool} {s d : ByteArray} (h : OkQ n s d) (hs : s.size ≤ 8000) (hd : d.size ≤ 8000) : chkq n s d = 0 := by
 unfold chkq
 rw [if_neg (by omega), if_neg]
 have d0 : 0 < d.size := Nat.pos_of_ne_zero fun e => by have := natOf_empty e; have := h.2.2.1; omega
 rintro (a | a | a | a)
 ·exact a ((chk_ok (by omega)).2 h.1)
 ·omega
 ·exact h.2.1 d0 a
 ·exact a h.2.2.2
end Go.Proofs.YtgihiaaodkkkbaaGreatDoor
namespace Go.Proofs.YtgihiaaodkkkbaaGreatDoor
open Go.RowKit

set_option maxRecDepth 100000 in
set_option maxHeartbeats 1000000 in
theorem make0_any (neg : Bool) (va : Value) (xs : List Nat) (w : World) (ha : Rd w va xs) (la : M.Low D32 xs) (hx : xs.length ≤ 100000) :
  Calls Tryz.prog 97 #[.bool neg, va] w fun e w' => e = .returned (zI (sgn neg (M.val D32 xs))) ∧ Below w.heap.size w w' := by
 rw [zI_sgn]
 have H := shut (fun w0 h0 => rnat_any va xs w0 h0 la hx)
 have HE := shut (strOf_empty (M.val D32 xs))
 generalize strOf (M.val D32 xs) = s at *
 have ha0 := ha
 obtain ⟨a, ca, rfl, -, -⟩ := ha
 go_enter Tryz.func97, Tryz.ntmps97
 go_wp2_with fail
 obtain ⟨w0, hw0⟩ : ∃ w0, w0 = w.alloc (.cells #[.bool false, .string { data := #[] }] 30) := ⟨_, rfl⟩
 have k2 : Cel w0 w.heap.size [.bool false, .string { data := #[] }] 30 := by rw [hw0]; exact Cel.new w _ _
 have hb0 : Below w.heap.size w w0 := by rw [hw0]; exact (Below.refl _ _).alloc (Nat.le_refl _) _
 rw [← hw0]
 clear hw0
 refine (H.out w0 (ha0.below hb0)).mono ?_
 rintro e w1 ⟨rfl, hb⟩
 have k2' := k2.below hb
 have bb := Below.after hb0 hb
 have c1 := cel2_0 k2'
 have c2 := cel2_1 k2'
 have f1 := k2'.frozen 0
 have f2 := k2'.frozen 1
 clear H HE
 cases neg
 ·go_wp2
  exact post_z (p := 4) (by kernel_rfl) rfl rfl ((k2'.set 0 _).set 1 _) ⟨rfl, (bb.setCell (by simp) _).setCell (by simp) _⟩
 ·go_wp2
  exact post_z (p := 4) (by kernel_rfl) rfl rfl ((k2'.set 0 _).set 1 _) ⟨rfl, (bb.setCell (by simp) _).setCell (by simp) _⟩

theorem split_one {m : Nat} (hm : m < B64) (v : Value) (w : World) (h : Rd w v [m]) :
  Calls Tryz.prog 100 #[v] w fun e w' => ∃ v, e = .returned v ∧ Rd w' v (M.digs D32 m) ∧ Below w.heap.size w w' := by
 have := split_any v [m] w h (low_of_all (by simpa using hm)) (by simp)
 rwa [show M.val B64 [m] = m from by simp [M.val_cons, M.val_nil]] at this
theorem make0_dig (neg : Bool) (m : Nat) (hm : m < B64) (v : Value) (w : World) (h : Rd w v (M.digs D32 m)) :
  Calls Tryz.prog 97 #[.bool neg, v] w fun e w' => e = .returned (zI (sgn neg m)) ∧ Below w.heap.size w w' := by
 have hl : (M.digs D32 m).length ≤ 2 := M.digs_len_of_lt D32_two (by rw [show D32 ^ 2 = B64 from by rw [Nat.pow_two, D32_sq]]; exact hm)
 have := make0_any neg v _ w h (M.Low.digs D32_two _) (by omega)
 rwa [M.val_digs D32_two] at this

set_option maxRecDepth 100000 in
set_option maxHeartbeats 1000000 in
theorem rof_any (n : Int) (h1 : -9223372036854775808 ≤ n) (h2 : n < 9223372036854775808) (w : World) :
  Calls Tryz.prog 72 #[.int .i64 n] w fun e w' => e = .returned (zI n) ∧ Below w.heap.size w w' := by
 obtain ⟨m, hm⟩ : ∃ m : Nat, m = n.natAbs := ⟨_, rfl⟩
 have hmB : m < B64 := by unfold B64; omega
 have HS := shut (fun v w h => split_one hmB v w h)
 by_cases hn : n < 0
 ·have HM := shut (fun v w h => make0_dig true m hmB v w h)
  rw [show sgn true m = n from by simp [sgn]; omega] at HM
  generalize hR : zI n = R at *
  obtain ⟨za, zb, rfl⟩ : ∃ a b, R = .agg #[.bool a, .string b] := ⟨_, _, hR.symm⟩
  clear hR hmB
  have g1 : IntKind.i64.wrap (n + 1) = n + 1 := by simp only [IntKind.wrap_i64]; omega
  have g2 : IntKind.i64.wrap (-(n + 1)) = -(n + 1) := by simp only [IntKind.wrap_i64]; omega
  have g3 : IntKind.u64.wrap (-(n + 1)) = -(n + 1) := by simp only [IntKind.wrap_u64]; omega
  have g4 : IntKind.u64.wrap (-(n + 1) + 1) = (m : Int) := by simp only [IntKind.wrap_u64]; omega
  clear hm
  go_enter Tryz.func72, Tryz.ntmps72
  go_wp2_with fail
  obtain ⟨w0, hw0, k0, r0, hb0⟩ := boxRow w m
  rw [← hw0]
  clear hw0
  refine (HS.out _ w0 r0).mono ?_
  rintro e w1 ⟨v, rfl, rv, hb1⟩
  obtain ⟨av, cv, rfl, -, -⟩ := id rv
  go_wp2_with fail
  refine (HM.out _ w1 rv).mono ?_
  rintro e w2 ⟨rfl, hb2⟩
  have bb2 := Below.after hb1 hb2
  have m2 := k0.below bb2
  have bb := Below.after hb0 bb2
  have e0 := cel2_0 m2
  have e1 := cel2_1 m2
  have f0 := m2.frozen 0
  have f1 := m2.frozen 1
  go_wp2
  exact post_z (p := 2) (by kernel_rfl) rfl rfl ((m2.set 0 _).set 1 _) ⟨rfl, (bb.setCell (by simp) _).setCell (by simp) _⟩
 ·have g0 : n = (m : Int) := by omega
  have HM := shut (fun v w h => make0_dig false m hmB v w h)
  rw [show sgn false m = n from by simp [sgn]; omega] at HM
  generalize hR : zI n = R at *
  obtain ⟨za, zb, rfl⟩ : ∃ a b, R = .agg #[.bool a, .string b] := ⟨_, _, hR.symm⟩
  clear hR hmB hm
  subst g0
  have g1 : IntKind.u64.wrap (m : Int) = (m : Int) := by simp only [IntKind.wrap_u64]; omega
  go_enter Tryz.func72, Tryz.ntmps72
  go_wp2_with fail
  obtain ⟨w0, hw0, k0, r0, hb0⟩ := boxRow w m
  rw [← hw0]
  clear hw0
  refine (HS.out _ w0 r0).mono ?_
  rintro e w1 ⟨v, rfl, rv, hb1⟩
  obtain ⟨av, cv, rfl, -, -⟩ := id rv
  go_wp2_with fail
  refine (HM.out _ w1 rv).mono ?_
  rintro e w2 ⟨rfl, hb2⟩
  have bb2 := Below.after hb1 hb2
  have m2 := k0.below bb2
  have bb := Below.after hb0 bb2
  have e0 := cel2_0 m2
  have e1 := cel2_1 m2
  have f0 := m2.frozen 0
  have f1 := m2.frozen 1
  go_wp2
  exact post_z (p := 2) (by kernel_rfl) rfl rfl ((m2.set 0 _).set 1 _) ⟨rfl, (bb.setCell (by simp) _).setCell (by simp) _⟩
end Go.Proofs.YtgihiaaodkkkbaaGreatDoor
namespace Go.Proofs.YtgihiaaodkkkbaaGreatDoor
open Go.RowKit

set_option maxRecDepth 100000 in
set_option maxHeartbeats 1000000 in
theorem rcheck_any (n : Bool) (s : ByteArray) (w : World) :
  Calls Tryz.prog 67 #[.agg #[.bool n, .string s]] w fun e w' => e = .returned (.int .i64 (chk n s : Nat)) ∧ Below w.heap.size w w' := by
 by_cases h1 : 32000 < s.size
 ·have HC : Hid (chk n s = 5) := by show _ = _; unfold chk; rw [if_pos h1]
  go_enter Tryz.func67, Tryz.ntmps67
  go_wp2
  go_ret
  exact ⟨by rw [HC.out]; rfl, by go_grown⟩
 ·by_cases hs : 0 < s.size
  ·have g4 := toList_ne hs
   have g5 : s.toList.isEmpty = false := by simpa using g4
   by_cases h0 : lm (byts s) 0 = 0
   ·have HC : Hid (chk n s = 1) := by show _ = _; unfold chk; rw [if_neg h1, if_pos (Or.inr ⟨hs, h0⟩)]
    have HI := shut (fun w => isNat_no s w hs h0)
    clear h0
    go_enter Tryz.func67, Tryz.ntmps67
    go_wp2_with fail
    refine (HI.out _).mono ?_
    rintro e w1 ⟨rfl, hw⟩
    subst hw
    go_wp2
    go_ret
    exact ⟨by rw [HC.out]; rfl, by go_grown⟩
   ·have HC : Hid (chk n s = 0) := by
     show _ = _
     unfold chk
     rw [if_neg h1, if_neg (by rintro (⟨a, _⟩ | ⟨_, b⟩); · omega
                               ·exact h0 b)]
    have HI := shut (fun w => isNat_yes s w (fun _ => h0))
    clear h0
    cases n <;>
    ·go_enter Tryz.func67, Tryz.ntmps67
     go_wp2_with fail
     refine (HI.out _).mono ?_
     rintro e w1 ⟨rfl, hw⟩
     subst hw
     go_wp2
     go_ret
     exact ⟨by rw [HC.out]; rfl, by go_grown⟩
  ·have g3 : s = ByteArray.empty := ByteArray.size_eq_zero_iff.1 (by omega)
   subst g3
   have HI := shut (fun w => isNat_yes ByteArray.empty w (fun h => absurd h hs))
   cases n with
   | true =>
    have HC : Hid (chk true ByteArray.empty = 1) := by show _ = _; rfl
    go_enter Tryz.func67, Tryz.ntmps67
    go_wp2_with fail
    refine (HI.out _).mono ?_
    rintro e w1 ⟨rfl, hw⟩
    subst hw
    go_wp2
    go_ret
    exact ⟨by rw [HC.out]; rfl, by go_grown⟩
   | false =>
    have HC : Hid (chk false ByteArray.empty = 0) := by show _ = _; rfl
    go_enter Tryz.func67, Tryz.ntmps67
    go_wp2_with fail
    refine (HI.out _).mono ?_
    rintro e w1 ⟨rfl, hw⟩
    subst hw
    go_wp2
    go_ret
    exact ⟨by rw [HC.out]; rfl, by go_grown⟩

/-- Two numbers in boxes, and a cell for the answer. -/
theorem rb3 (w : World) (x0 x1 y0 y1 : Value) : ∃ w0, w0 = ((w.alloc (.cells #[x0, x1] 30)).alloc (.cells #[y0, y1] 30)).alloc (.cells #[.bool false, .string { data := #[] }] 30) ∧
  Cel w0 w.heap.size [x0, x1] 30 ∧ Cel w0 (w.heap.size + 1) [y0, y1] 30 ∧ Cel w0 (w.heap.size + 1 + 1) [.bool false, .string { data := #[] }] 30 ∧ Below w.heap.size w w0 := by
 refine ⟨_, rfl, ((Cel.new w [x0, x1] _).alloc _).alloc _, ?_, ?_, by go_grown⟩
 ·have := (Cel.new (w.alloc (.cells #[x0, x1] 30)) [y0, y1] 30).alloc (.cells #[.bool false, .string { data := #[] }] 30)
  simpa using this
 ·have := Cel.new ((w.alloc (.cells #[x0, x1] 30)).alloc (.cells #[y0, y1] 30)) [.bool false, .string { data := #[] }] 30
  simpa using this

theorem D32_pow (k : Nat) : D32 ^ k = 256 ^ (4 * k) := by rw [Nat.pow_mul]; rfl
theorem natOf_lt4 {s : ByteArray} (k : Nat) (h : s.size ≤ 4 * k) : natOf s < D32 ^ k := Nat.lt_of_lt_of_le (natOf_lt s) (by rw [D32_pow]; exact Nat.pow_le_pow_right (by omega) h)
theorem dlen {V K : Nat} (h : V < D32 ^ K) : (M.digs D32 V).length ≤ K := M.digs_len_of_lt D32_two h
theorem radd_dig {X Y K : Nat} (hK : K ≤ 50000) (hx : X < D32 ^ K) (hy : Y < D32 ^ K) (v0 v1 : Value) (w : World) (r0 : Rd w v0 (M.digs D32 X)) (r1 : Rd w v1 (M.digs D32 Y)) :
  Calls Tryz.prog 124 #[v0, v1] w fun e w' => ∃ v, e = .returned v ∧ Rd w' v (M.digs D32 (X + Y)) ∧ Below w.heap.size w w' := by
 have := radd_any v0 v1 _ _ w r0 r1 (M.Low.digs D32_two _) (M.Low.digs D32_two _) (Nat.le_trans (dlen hx) (by omega)) (Nat.le_trans (dlen hy) (by omega))
 rwa [M.val_digs D32_two, M.val_digs D32_two] at this
theorem digs_mono {b X Y : Nat} (hb : 2 ≤ b) (h : Y ≤ X) : (M.digs b Y).length ≤ (M.digs b X).length := by
 refine M.digs_len_of_lt hb (Nat.lt_of_le_of_lt h ?_)
 have := M.val_lt (by omega) (M.Low.digs hb X)
 rwa [M.val_digs hb] at this
theorem rsub_dig {X Y K : Nat} (hK : K ≤ 50000) (hx : X < D32 ^ K) (hle : Y ≤ X) (v0 v1 : Value) (w : World) (r0 : Rd w v0 (M.digs D32 X)) (r1 : Rd w v1 (M.digs D32 Y)) :
  Calls Tryz.prog 126 #[v0, v1] w fun e w' => ∃ v, e = .returned v ∧ Rd w' v (M.digs D32 (X - Y)) ∧ Below w.heap.size w w' := by
 have := rsub_any v0 v1 _ _ w r0 r1 (M.Low.digs D32_two _) (M.Low.digs D32_two _) (Nat.le_trans (dlen hx) (by omega)) (digs_mono D32_two hle) (by rw [M.val_digs D32_two, M.val_digs D32_two]; exact hle)
 rwa [M.val_digs D32_two, M.val_digs D32_two] at this
theorem rcmp_dig {X Y K : Nat} (hK : K ≤ 50000) (hx : X < D32 ^ K) (v0 v1 : Value) (w : World) (r0 : Rd w v0 (M.digs D32 X)) (r1 : Rd w v1 (M.digs D32 Y)) :
  Calls Tryz.prog 125 #[v0, v1] w fun e w' => e = .returned (.int .i64 (cmpN X Y)) ∧ Below w.heap.size w w' := by
 have := rcmp_any D32 D32_pos v0 v1 _ _ w r0 r1 (M.Low.digs D32_two _) (M.Low.digs D32_two _) (M.trim_digs D32_two _) (M.trim_digs D32_two _) (Nat.le_trans (dlen hx) (by omega))
 rwa [M.val_digs D32_two, M.val_digs D32_two] at this
theorem rmul_dig {X Y K : Nat} (hK : K ≤ 50000) (hx : X < D32 ^ K) (hy : Y < D32 ^ K) (v0 v1 : Value) (w : World) (r0 : Rd w v0 (M.digs D32 X)) (r1 : Rd w v1 (M.digs D32 Y)) :
  Calls Tryz.prog 121 #[v0, v1] w fun e w' => ∃ v, e = .returned v ∧ Rd w' v (M.digs D32 (X * Y)) ∧ Below w.heap.size w w' := by
 have := rmul_any v0 v1 _ _ w r0 r1 (M.Low.digs D32_two _) (M.Low.digs D32_two _) (Nat.le_trans (dlen hx) (by omega)) (Nat.le_trans (dlen hy) (by omega))
 rwa [M.val_digs D32_two, M.val_digs D32_two] at this
theorem rdiv_dig {X Y K : Nat} (hK : K ≤ 50000) (hx : X < D32 ^ K) (hy : Y < D32 ^ K) (h0 : 0 < Y) (v0 v1 : Value) (w : World) (r0 : Rd w v0 (M.digs D32 X)) (r1 : Rd w v1 (M.digs D32 Y)) :
  Calls Tryz.prog 122 #[v0, v1] w fun e w' => ∃ q r, e = .returned (.tuple #[q, r]) ∧ Rd w' q (M.digs D32 (X / Y)) ∧ Rd w' r (M.digs D32 (X % Y)) ∧ Below w.heap.size w w' := by
 have := rdiv_any v0 v1 _ _ w r0 r1 (M.Low.digs D32_two _) (M.Low.digs D32_two _) (M.trim_digs D32_two _) (digs_pos D32_two (by omega)) (Nat.le_trans (dlen hx) (by omega)) (Nat.le_trans (dlen hy) (by omega))
 rwa [M.val_digs D32_two, M.val_digs D32_two] at this
theorem make0_val (neg : Bool) {V K : Nat} (hK : K ≤ 100000) (hV : V < D32 ^ K) (v : Value) (w : World) (h : Rd w v (M.digs D32 V)) :
  Calls Tryz.prog 97 #[.bool neg, v] w fun e w' => e = .returned (zI (sgn neg V)) ∧ Below w.heap.size w w' := by
 have := make0_any neg v _ w h (M.Low.digs D32_two _) (Nat.le_trans (dlen hV) hK)
 rwa [M.val_digs D32_two] at this
end Go.Proofs.YtgihiaaodkkkbaaGreatDoor
namespace Go.Proofs.YtgihiaaodkkkbaaGreatDoor
open Go.RowKit

/-- What a call of two numbers starts from: both boxed, a cell for the answer, and both in a row. -/
theorem boxes4 (w : World) (x0 x1 y0 y1 : Value) : ∃ w0, w0 = (((w.alloc (.cells #[x0, x1] 30)).alloc (.cells #[y0, y1] 30)).alloc (.cells #[.bool false, .string { data := #[] }] 30)).alloc (.cells #[x0, x1, y0, y1] 30) ∧
  Cel w0 w.heap.size [x0, x1] 30 ∧ Cel w0 (w.heap.size + 1) [y0, y1] 30 ∧ Cel w0 (w.heap.size + 1 + 1) [.bool false, .string { data := #[] }] 30 ∧ Cel w0 (w.heap.size + 1 + 1 + 1) [x0, x1, y0, y1] 30 ∧ Below w.heap.size w w0 := by
 refine ⟨_, rfl, (((Cel.new w [x0, x1] 30).alloc _).alloc _).alloc _, ?_, ?_, ?_, by go_grown⟩
 ·have := ((Cel.new (w.alloc (.cells #[x0, x1] 30)) [y0, y1] 30).alloc (.cells #[.bool false, .string { data := #[] }] 30)).alloc (.cells #[x0, x1, y0, y1] 30)
  simpa using this
 ·have := (Cel.new ((w.alloc (.cells #[x0, x1] 30)).alloc (.cells #[y0, y1] 30)) [.bool false, .string { data := #[] }] 30).alloc (.cells #[x0, x1, y0, y1] 30)
  simpa using this
 ·have := Cel.new (((w.alloc (.cells #[x0, x1] 30)).alloc (.cells #[y0, y1] 30)).alloc (.cells #[.bool false, .string { data := #[] }] 30)) [x0, x1, y0, y1] 30
  simpa using this

theorem sgn_natOf (neg : Bool) (s : ByteArray) : sgn neg (natOf s) = zOf neg s := rfl
end Go.Proofs.YtgihiaaodkkkbaaGreatDoor
namespace Go.Proofs.YtgihiaaodkkkbaaGreatDoor
open Go.RowKit

theorem dig_any (s : ByteArray) (w : World) (hm : s.size ≤ 40000) :
  Calls Tryz.prog 99 #[.string s] w fun e w' => ∃ v, e = .returned v ∧ Rd w' v (M.digs D32 (natOf s)) ∧ Below w.heap.size w w' := digits_any s w (by omega)
theorem max_lt_pow {X Y b k : Nat} (hb : 2 ≤ b) (hx : X < b ^ k) (hy : Y < b ^ k) : X + Y < b ^ (k + 1) := by
 rw [Nat.pow_succ]
 have h1 : b ^ k * 2 ≤ b ^ k * b := Nat.mul_le_mul_left _ hb
 generalize b ^ k = p at *
 omega

set_option maxRecDepth 100000 in
set_option maxHeartbeats 4000000 in
theorem rsum_like (n : Bool) (s0 s1 : ByteArray) (w : World) (z0 : s0.size ≤ 40000) (z1 : s1.size ≤ 40000) :
  Calls Tryz.prog 90 #[.agg #[.bool n, .string s0], .agg #[.bool n, .string s1]] w fun e w' => e = .returned (zI (sgn n (natOf s0 + natOf s1))) ∧ Below w.heap.size w w' := by
 have HA := shut (fun v0 v1 w r0 r1 => radd_dig (X := natOf s0) (Y := natOf s1) (K := 10000) (by omega) (natOf_lt4 10000 (by omega)) (natOf_lt4 10000 (by omega)) v0 v1 w r0 r1)
 have HM := shut (fun v w h => make0_val n (V := natOf s0 + natOf s1) (K := 10000 + 1) (by omega) (max_lt_pow D32_two (natOf_lt4 10000 (by omega)) (natOf_lt4 10000 (by omega))) v w h)
 generalize hR : zI (sgn n (natOf s0 + natOf s1)) = R at *
 obtain ⟨za, zb, rfl⟩ : ∃ a b, R = .agg #[.bool a, .string b] := ⟨_, _, hR.symm⟩
 clear hR
 go_enter Tryz.func90, Tryz.ntmps90
 go_wp2_with fail
 obtain ⟨w0, hw0, k0, k1, k2, bb⟩ := rb3 w (.bool n) (.string s0) (.bool n) (.string s1)
 rw [← hw0]
 clear hw0
 refine (dig_any s0 w0 z0).mono ?_
 rintro e w1 ⟨vx, rfl, rx, b1⟩
 obtain ⟨ax, cx, rfl, -, -⟩ := id rx
 have c1 := cel2_1' (k1.below b1)
 go_wp2_with fail
 refine (dig_any s1 w1 z1).mono ?_
 rintro e w2 ⟨vy, rfl, ry, b2⟩
 obtain ⟨ay, cy, rfl, -, -⟩ := id ry
 have b12 := Below.after b1 b2
 replace k0 := k0.below b12
 replace k1 := k1.below b12
 replace k2 := k2.below b12
 replace bb := Below.after bb b12
 replace rx := rx.below b2
 clear b1 b2 b12 c1
 have c0 := cel2_0' k0
 have c1 := cel2_0' k1
 have H38 := shut (HA.out _ _ w2.drew (show Rd w2 _ _ from rx) (show Rd w2 _ _ from ry))
 clear HA
 go_wp2
 go_region_with (first | (go_at_call 124; refine (H38.out).mono ?_; rintro e w3 ⟨v, rfl, rv, b3'⟩; have b3 : Below w2.heap.size w2 w3 := ⟨b3'.os, b3'.tape, b3'.output, b3'.size, b3'.block⟩; obtain ⟨av, cv, rfl, -, -⟩ := id rv; have d0 := cel2_0' (k0.below b3)) | (go_at_call 97; refine (HM.out _ w3 rv).mono ?_; rintro e w4 ⟨rfl, b4⟩; have q2 := (k2.below b3).below b4; have e0 := cel2_0' q2; have e1 := cel2_1' q2; have f0 := q2.frozen 0; have f1 := q2.frozen 1))
 all_goals try go_wp2
 all_goals exact post_z (p := 4) (by kernel_rfl) rfl rfl ((q2.set 0 _).set 1 _) ⟨rfl, ((Below.after bb (Below.after b3 b4)).setCell (by simp; omega) _).setCell (by simp; omega) _⟩

set_option maxRecDepth 100000 in
set_option maxHeartbeats 4000000 in
theorem rsum_unlike (n : Bool) (s0 s1 : ByteArray) (w : World) (z0 : s0.size ≤ 40000) (z1 : s1.size ≤ 40000) :
  Calls Tryz.prog 90 #[.agg #[.bool n, .string s0], .agg #[.bool (!n), .string s1]] w fun e w' => e = .returned (zI (if natOf s1 ≤ natOf s0 then sgn n (natOf s0 - natOf s1) else sgn (!n) (natOf s1 - natOf s0))) ∧ Below w.heap.size w w' := by
 have HC := shut (fun v0 v1 w r0 r1 => rcmp_dig (X := natOf s0) (Y := natOf s1) (K := 10000) (by omega) (natOf_lt4 10000 (by omega)) v0 v1 w r0 r1)
 by_cases hle : natOf s1 ≤ natOf s0
 ·rw [if_pos hle]
  have HA := shut (fun v0 v1 w r0 r1 => rsub_dig (X := natOf s0) (Y := natOf s1) (K := 10000) (by omega) (natOf_lt4 10000 (by omega)) hle v0 v1 w r0 r1)
  have HM := shut (fun v w h => make0_val n (V := natOf s0 - natOf s1) (K := 10000) (by omega) (Nat.lt_of_le_of_lt (Nat.sub_le _ _) (natOf_lt4 10000 (by omega))) v w h)
  have hc : 0 ≤ cmpN (natOf s0) (natOf s1) := by unfold cmpN; split; · omega
                                                 ·split <;> omega
  generalize hR : zI (sgn n (natOf s0 - natOf s1)) = R at *
  obtain ⟨za, zb, rfl⟩ : ∃ a b, R = .agg #[.bool a, .string b] := ⟨_, _, hR.symm⟩
  clear hR hle
  generalize cmpN (natOf s0) (natOf s1) = c at *
  have hne : (n == !n) = false := by cases n <;> rfl
  go_enter Tryz.func90, Tryz.ntmps90
  go_wp2_with fail
  obtain ⟨w0, hw0, k0, k1, k2, bb⟩ := rb3 w (.bool n) (.string s0) (.bool (!n)) (.string s1)
  rw [← hw0]
  clear hw0
  refine (dig_any s0 w0 z0).mono ?_
  rintro e w1 ⟨vx, rfl, rx, b1⟩
  obtain ⟨ax, cx, rfl, -, -⟩ := id rx
  have c1 := cel2_1' (k1.below b1)
  go_wp2_with fail
  refine (dig_any s1 w1 z1).mono ?_
  rintro e w2 ⟨vy, rfl, ry, b2⟩
  obtain ⟨ay, cy, rfl, -, -⟩ := id ry
  have b12 := Below.after b1 b2
  replace k0 := k0.below b12
  replace k1 := k1.below b12
  replace k2 := k2.below b12
  replace bb := Below.after bb b12
  replace rx := rx.below b2
  clear b1 b2 b12 c1
  have c0 := cel2_0' k0
  have c1 := cel2_0' k1
  go_wp2_with fail
  refine (HC.out _ _ w2 rx ry).mono ?_
  rintro e w3 ⟨rfl, b3⟩
  replace k0 := k0.below b3
  replace k2 := k2.below b3
  replace bb := Below.after bb b3
  replace rx := rx.below b3
  replace ry := ry.below b3
  clear c0 c1 b3
  have c0 := cel2_0' k0
  have H38 := shut (HA.out _ _ w3.drew (show Rd w3 _ _ from rx) (show Rd w3 _ _ from ry))
  clear HA HC
  go_wp2
  go_region_with (first | (go_at_call 126; refine (H38.out).mono ?_; rintro e w4 ⟨v, rfl, rv, b4'⟩; have b4 : Below w3.heap.size w3 w4 := ⟨b4'.os, b4'.tape, b4'.output, b4'.size, b4'.block⟩; obtain ⟨av, cv, rfl, -, -⟩ := id rv; have d0 := cel2_0' (k0.below b4)) | (go_at_call 97; refine (HM.out _ w4 rv).mono ?_; rintro e w5 ⟨rfl, b5⟩; have q2 := (k2.below b4).below b5; have e0 := cel2_0' q2; have e1 := cel2_1' q2; have f0 := q2.frozen 0; have f1 := q2.frozen 1))
  all_goals try go_wp2
  all_goals exact post_z (p := 4) (by kernel_rfl) rfl rfl ((q2.set 0 _).set 1 _) ⟨rfl, ((Below.after bb (Below.after b4 b5)).setCell (by simp; omega) _).setCell (by simp; omega) _⟩
 ·rw [if_neg hle]
  have HA := shut (fun v0 v1 w r0 r1 => rsub_dig (X := natOf s1) (Y := natOf s0) (K := 10000) (by omega) (natOf_lt4 10000 (by omega)) (by omega) v0 v1 w r0 r1)
  have HM := shut (fun v w h => make0_val (!n) (V := natOf s1 - natOf s0) (K := 10000) (by omega) (Nat.lt_of_le_of_lt (Nat.sub_le _ _) (natOf_lt4 10000 (by omega))) v w h)
  have hc : ¬ 0 ≤ cmpN (natOf s0) (natOf s1) := by unfold cmpN; rw [if_pos (by omega)]; omega
  generalize hR : zI (sgn (!n) (natOf s1 - natOf s0)) = R at *
  obtain ⟨za, zb, rfl⟩ : ∃ a b, R = .agg #[.bool a, .string b] := ⟨_, _, hR.symm⟩
  clear hR hle
  generalize cmpN (natOf s0) (natOf s1) = c at *
  have hne : (n == !n) = false := by cases n <;> rfl
  go_enter Tryz.func90, Tryz.ntmps90
  go_wp2_with fail
  obtain ⟨w0, hw0, k0, k1, k2, bb⟩ := rb3 w (.bool n) (.string s0) (.bool (!n)) (.string s1)
  rw [← hw0]
  clear hw0
  refine (dig_any s0 w0 z0).mono ?_
  rintro e w1 ⟨vx, rfl, rx, b1⟩
  obtain ⟨ax, cx, rfl, -, -⟩ := id rx
  have c1 := cel2_1' (k1.below b1)
  go_wp2_with fail
  refine (dig_any s1 w1 z1).mono ?_
  rintro e w2 ⟨vy, rfl, ry, b2⟩
  obtain ⟨ay, cy, rfl, -, -⟩ := id ry
  have b12 := Below.after b1 b2
  replace k0 := k0.below b12
  replace k1 := k1.below b12
  replace k2 := k2.below b12
  replace bb := Below.after bb b12
  replace rx := rx.below b2
  clear b1 b2 b12 c1
  have c0 := cel2_0' k0
  have c1 := cel2_0' k1
  go_wp2_with fail
  refine (HC.out _ _ w2 rx ry).mono ?_
  rintro e w3 ⟨rfl, b3⟩
  replace k1 := k1.below b3
  replace k2 := k2.below b3
  replace bb := Below.after bb b3
  replace rx := rx.below b3
  replace ry := ry.below b3
  clear c0 c1 b3
  have c0 := cel2_0' k1
  have H38 := shut (HA.out _ _ w3.drew (show Rd w3 _ _ from ry) (show Rd w3 _ _ from rx))
  clear HA HC
  go_wp2
  go_region_with (first | (go_at_call 126; refine (H38.out).mono ?_; rintro e w4 ⟨v, rfl, rv, b4'⟩; have b4 : Below w3.heap.size w3 w4 := ⟨b4'.os, b4'.tape, b4'.output, b4'.size, b4'.block⟩; obtain ⟨av, cv, rfl, -, -⟩ := id rv; have d0 := cel2_0' (k1.below b4)) | (go_at_call 97; refine (HM.out _ w4 rv).mono ?_; rintro e w5 ⟨rfl, b5⟩; have q2 := (k2.below b4).below b5; have e0 := cel2_0' q2; have e1 := cel2_1' q2; have f0 := q2.frozen 0; have f1 := q2.frozen 1))
  all_goals try go_wp2
  all_goals exact post_z (p := 4) (by kernel_rfl) rfl rfl ((q2.set 0 _).set 1 _) ⟨rfl, ((Below.after bb (Below.after b4 b5)).setCell (by simp; omega) _).setCell (by simp; omega) _⟩

theorem rsum_any (n0 n1 : Bool) (s0 s1 : ByteArray) (w : World) (z0 : s0.size ≤ 40000) (z1 : s1.size ≤ 40000) :
  Calls Tryz.prog 90 #[.agg #[.bool n0, .string s0], .agg #[.bool n1, .string s1]] w fun e w' => e = .returned (zI (zOf n0 s0 + zOf n1 s1)) ∧ Below w.heap.size w w' := by
 by_cases h : n1 = n0
 ·subst h
  have := rsum_like n1 s0 s1 w z0 z1
  have e : sgn n1 (natOf s0 + natOf s1) = zOf n1 s0 + zOf n1 s1 := by
   rw [← sgn_natOf, ← sgn_natOf]
   cases n1
   ·simp [sgn]
   ·simp [sgn]; omega
  rwa [e] at this
 ·have e : n1 = !n0 := by cases n0 <;> cases n1 <;> simp_all
  subst e
  have := rsum_unlike n0 s0 s1 w z0 z1
  have e : (if natOf s1 ≤ natOf s0 then sgn n0 (natOf s0 - natOf s1) else sgn (!n0) (natOf s1 - natOf s0)) = zOf n0 s0 + zOf (!n0) s1 := by
   rw [← sgn_natOf, ← sgn_natOf]
   cases n0 <;> simp [sgn] <;> split <;> omega
  rwa [e] at this
end Go.Proofs.YtgihiaaodkkkbaaGreatDoor
namespace Go.Proofs.YtgihiaaodkkkbaaGreatDoor
open Go.RowKit

theorem sgn_mul (a b : Bool) (X Y : Nat) : sgn (a != b) (X * Y) = sgn a X * sgn b Y := by
 cases a <;> cases b <;> simp [sgn, Int.natCast_mul, Int.neg_mul, Int.mul_neg]
theorem natOf_lt8 {s : ByteArray} (k : Nat) (h : s.size ≤ 8 * k) : natOf s < B64 ^ k := Nat.lt_of_lt_of_le (natOf_lt s) (by rw [B64_pow]; exact Nat.pow_le_pow_right (by omega) h)
end Go.Proofs.YtgihiaaodkkkbaaGreatDoor
namespace Go.Proofs.YtgihiaaodkkkbaaGreatDoor
open Go.RowKit

theorem mul_lt_pow {X Y b j k : Nat} (hx : X < b ^ j) (hy : Y < b ^ k) : X * Y < b ^ (j + k) := by
 rw [Nat.pow_add]
 exact Nat.mul_lt_mul'' hx hy

set_option maxRecDepth 100000 in
set_option maxHeartbeats 800000 in
theorem rtimes_any (n0 n1 : Bool) (s0 s1 : ByteArray) (w : World) (z0 : s0.size ≤ 40000) (z1 : s1.size ≤ 40000) :
  Calls Tryz.prog 88 #[.agg #[.bool n0, .string s0], .agg #[.bool n1, .string s1]] w fun e w' => e = .returned (zI (zOf n0 s0 * zOf n1 s1)) ∧ Below w.heap.size w w' := by
 have HM := shut (fun v0 v1 w r0 r1 => rmul_dig (X := natOf s0) (Y := natOf s1) (K := 10000) (by omega) (natOf_lt4 10000 (by omega)) (natOf_lt4 10000 (by omega)) v0 v1 w r0 r1)
 have HK := shut (fun v w h => show Calls Tryz.prog 97 #[.bool (n0 != n1), v] w fun e w' => e = .returned (zI (zOf n0 s0 * zOf n1 s1)) ∧ Below w.heap.size w w' from by
  have := make0_val (n0 != n1) (V := natOf s0 * natOf s1) (K := 10000 + 10000) (by omega) (mul_lt_pow (natOf_lt4 10000 (by omega)) (natOf_lt4 10000 (by omega))) v w h
  rwa [sgn_mul, sgn_natOf, sgn_natOf] at this)
 generalize hR : zI (zOf n0 s0 * zOf n1 s1) = R at *
 obtain ⟨za, zb, rfl⟩ : ∃ a b, R = .agg #[.bool a, .string b] := ⟨_, _, hR.symm⟩
 clear hR
 go_enter Tryz.func88, Tryz.ntmps88
 go_wp2
 obtain ⟨w0, hw0, k0, k1, k2, bb⟩ := rb3 w (.bool n0) (.string s0) (.bool n1) (.string s1)
 rw [← hw0]
 clear hw0
 have a0 := cel2_0' k0
 have a1 := cel2_1' k0
 have a2 := cel2_0' k1
 have a3 := cel2_1' k1
 go_region_held3 (fun w' => w'.cell? ⟨w.heap.size, 0, none⟩ = some (.bool n0) ∧ w'.cell? ⟨w.heap.size, 1, none⟩ = some (.string s0) ∧ w'.cell? ⟨w.heap.size + 1, 0, none⟩ = some (.bool n1) ∧ w'.cell? ⟨w.heap.size + 1, 1, none⟩ = some (.string s1)) (first | exact ⟨cel2_0' k0, cel2_1' k0, cel2_0' k1, cel2_1' k1⟩ | exact ⟨cel2_0' ((k0.other (by omega) _ _).other (by omega) _ _), cel2_1' ((k0.other (by omega) _ _).other (by omega) _ _), cel2_0' ((k1.other (by omega) _ _).other (by omega) _ _), cel2_1' ((k1.other (by omega) _ _).other (by omega) _ _)⟩) (first | (go_at_call 97; refine (HK.out _ w3 rv).mono ?_; rintro e w4 ⟨rfl, b4⟩; replace k0 := k0.below b4; replace k1 := k1.below b4; have q2 := k2.below b4; have e0 := cel2_0' q2; have e1 := cel2_1' q2; have f0 := q2.frozen 0; have f1 := q2.frozen 1; replace bb := Below.after bb b4) | (go_at_call 121; refine (HM.out _ _ w2 rx ry).mono ?_; rintro e w3 ⟨v, rfl, rv, b3⟩; obtain ⟨av, cv, rfl, -, -⟩ := id rv; replace k0 := k0.below b3; replace k1 := k1.below b3; replace k2 := k2.below b3; replace bb := Below.after bb b3; have g0 := cel2_0' k0; have g2 := cel2_0' k1) | (go_at_call 99; have _x := rx; refine (dig_any _ _ z1).mono ?_; rintro e w2 ⟨vy, rfl, ry, b2⟩; obtain ⟨ay, cy, rfl, -, -⟩ := id ry; replace rx := rx.below b2; replace k0 := k0.below b2; replace k1 := k1.below b2; replace k2 := k2.below b2; replace bb := Below.after bb b2; have h0 := cel2_0' k0; have h2 := cel2_0' k1) | (go_at_call 99; refine (dig_any _ _ z0).mono ?_; rintro e w1 ⟨vx, rfl, rx, b1⟩; obtain ⟨ax, cx, rfl, -, -⟩ := id rx; replace k0 := k0.below ⟨b1.os, b1.tape, b1.output, b1.size, b1.block⟩; replace k1 := k1.below ⟨b1.os, b1.tape, b1.output, b1.size, b1.block⟩; replace k2 := k2.below ⟨b1.os, b1.tape, b1.output, b1.size, b1.block⟩; replace bb := Below.after bb ⟨b1.os, b1.tape, b1.output, b1.size, b1.block⟩; have i0 := cel2_0' k0; have i2 := cel2_0' k1; have i3 := cel2_1' k1))
 all_goals try go_wp2
 all_goals exact post_z (p := 4) (by kernel_rfl) rfl rfl ((q2.set 0 _).set 1 _) ⟨rfl, (bb.setCell (by simp; omega) _).setCell (by simp; omega) _⟩
end Go.Proofs.YtgihiaaodkkkbaaGreatDoor
namespace Go.Proofs.YtgihiaaodkkkbaaGreatDoor
open Go.RowKit

end Go.Proofs.YtgihiaaodkkkbaaGreatDoor
namespace Go.Proofs.YtgihiaaodkkkbaaGreatDoor
open Go.RowKit

end Go.Proofs.YtgihiaaodkkkbaaGreatDoor
namespace Go.Proofs.YtgihiaaodkkkbaaGreatDoor
open Go.RowKit

end Go.Proofs.YtgihiaaodkkkbaaGreatDoor
