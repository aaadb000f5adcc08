/-
  Rational numbers as they are told: a sign, bytes above, bytes below. What numbers of so many bytes come to; numbers behind names.
  Package whole: times, turn; rows in blocks of whatever type.
  Package whole: the steps taken.
-/
import Derived.Laws.ResultCell
import Derived.Test.YtnplifkgeeicjaaGreatDoorU11
import Derived.Test.YtnplifkgeeicjaaGreatDoorU19
import Derived.Test.YtnplifkgeeicjaaGreatDoorU21
set_option maxRecDepth 100000
set_option maxHeartbeats 4000000
namespace Go.Proofs.YtnplifkgeeicjaaGreatDoor
open Go.RowKit
def Bd (z : Int) (k : Nat) : Prop := z.natAbs < 256 ^ k
theorem pow256_pos (k : Nat) : 0 < 256 ^ k := Nat.pow_pos (by omega)
theorem Bd.zero (k : Nat) : Bd 0 k := pow256_pos k
theorem bd_zOf {n : Bool} {s : ByteArray} {k : Nat} (h : s.size ≤ k) : Bd (zOf n s) k := by
 unfold Bd
 rw [natAbs_zOf]
 exact Nat.lt_of_lt_of_le (natOf_lt s) (Nat.pow_le_pow_right (by omega) h)
theorem Bd.le {x y : Int} {k : Nat} (hy : Bd y k) (h : x.natAbs ≤ y.natAbs) : Bd x k := Nat.lt_of_le_of_lt h hy
theorem Bd.nat {a b k : Nat} (hb : Bd (b : Int) k) (h : a ≤ b) : Bd (a : Int) k := hb.le (by simpa using h)
theorem Bd.size {z : Int} {k : Nat} (h : Bd z k) : (strOf z.natAbs).size ≤ k := strOf_lt h
theorem named : ∃ (nf : Int → Bool) (sf : Int → ByteArray), (∀ z, zI z = .agg #[.bool (nf z), .string (sf z)]) ∧ (∀ z, OkZ (nf z) (sf z)) ∧ (∀ z k, Bd z k → (sf z).size ≤ k) ∧ (∀ z, zOf (nf z) (sf z) = z) ∧ (∀ n s, OkZ n s → nf (zOf n s) = n ∧ sf (zOf n s) = s) ∧ (∀ z, natOf (sf z) = z.natAbs) ∧ (∀ z, nf z = decide (z < 0)) ∧ (∀ z, sf z = strOf z.natAbs) :=
 ⟨fun z => decide (z < 0), fun z => strOf z.natAbs, fun _ => rfl, okZ_zI, fun z k h => h.size, zOf_zI, fun n s h => by
  have e := zV_ok h
  unfold zI zV at e
  simp only [Value.agg.injEq] at e
  have e' : [Value.bool n, .string s] = [.bool (decide (zOf n s < 0)), .string (strOf (zOf n s).natAbs)] := congrArg Array.toList e
  simp only [List.cons.injEq, Value.bool.injEq, Value.string.injEq] at e'
  exact ⟨e'.1.symm, e'.2.1.symm⟩, fun z => natOf_strOf _, fun _ => rfl, fun _ => rfl⟩
theorem strOf_one : strOf 1 = ⟨#[1]⟩ := by decide +kernel
theorem natOf_one : natOf ⟨#[1]⟩ = 1 := by rw [← strOf_one, natOf_strOf]
theorem zI_one : zI 1 = .agg #[.bool false, .string ⟨#[1]⟩] := by
 show zV (decide ((1 : Int) < 0)) (strOf 1) = _
 rw [strOf_one]
 rfl
theorem okS_one {s : ByteArray} (hs : OkS s) : s = ⟨#[1]⟩ ↔ natOf s = 1 := by
 constructor
 ·intro h; rw [h, natOf_one]
 ·intro h; rw [← strOf_natOf hs, h, strOf_one]
theorem okS_nil {s : ByteArray} (hs : OkS s) : s.size = 0 ↔ natOf s = 0 := by
 constructor
 ·exact natOf_empty
 ·intro h
  refine Nat.eq_zero_of_not_pos fun hp => ?_
  have := natOf_pos hs hp
  omega
def OkQ (n : Bool) (s d : ByteArray) : Prop := OkZ n s ∧ OkS d ∧ 0 < natOf d ∧ Nat.gcd (natOf s) (natOf d) = 1
def qOf (n : Bool) (s d : ByteArray) : Rat := mkRat (zOf n s) (natOf d)
def qI (q : Rat) : Value := (qa1 (decide (q.num < 0)) (strOf q.num.natAbs) (strOf q.den))
theorem OkQ.low {n : Bool} {s d : ByteArray} (h : OkQ n s d) : (qOf n s d).num = zOf n s ∧ (qOf n s d).den = natOf d :=
 Q.mk_low h.2.2.1 (by rw [natAbs_zOf]; exact h.2.2.2)
theorem OkQ.parts {n : Bool} {s d : ByteArray} (h : OkQ n s d) : decide ((qOf n s d).num < 0) = n ∧ strOf (qOf n s d).num.natAbs = s ∧ strOf (qOf n s d).den = d := by
 rw [h.low.1, h.low.2, natAbs_zOf, strOf_natOf h.1.1, strOf_natOf h.2.1]
 refine ⟨?_, rfl, rfl⟩
 cases n with
 | false => simp [zOf]
 | true =>
  have := natOf_pos h.1.1 (h.1.2 rfl)
  simp [zOf]; omega
theorem okQ_qI (q : Rat) : OkQ (decide (q.num < 0)) (strOf q.num.natAbs) (strOf q.den) := by
 refine ⟨okZ_zI _, okS_strOf _, ?_, ?_⟩
 ·rw [natOf_strOf]; exact q.den_pos
 ·rw [natOf_strOf, natOf_strOf]; exact q.reduced
theorem qOf_qI (q : Rat) : qOf (decide (q.num < 0)) (strOf q.num.natAbs) (strOf q.den) = q := by
 unfold qOf
 rw [zOf_zI, natOf_strOf, Rat.mkRat_self]
theorem qI_of {q : Rat} {z : Int} {m : Nat} (h : q.num = z ∧ q.den = m) {n : Bool} {s d : ByteArray} (hz : zI z = .agg #[.bool n, .string s]) (hd : d = strOf m) : qI q = (qa1 n s d) := by
 obtain ⟨rfl, rfl⟩ := h
 subst hd
 have e : (#[.bool (decide (q.num < 0)), .string (strOf q.num.natAbs)] : Array Value) = #[.bool n, .string s] := by
  have : zI q.num = .agg #[.bool (decide (q.num < 0)), .string (strOf q.num.natAbs)] := rfl
  rw [this] at hz
  simpa using hz
 have e' : [Value.bool (decide (q.num < 0)), .string (strOf q.num.natAbs)] = [.bool n, .string s] := congrArg Array.toList e
 simp only [List.cons.injEq, Value.bool.injEq, Value.string.injEq, and_true] at e'
 unfold qI
 rw [e'.1, e'.2]
def Bq (q : Rat) (k : Nat) : Prop := Bd q.num k ∧ Bd (q.den : Int) k
theorem named3 : ∃ (nf : Rat → Bool) (sf df : Rat → ByteArray), (∀ q, qI q = (qa1 (nf q) (sf q) (df q))) ∧ (∀ q, OkQ (nf q) (sf q) (df q)) ∧ (∀ q k, Bq q k → (sf q).size ≤ k ∧ (df q).size ≤ k) ∧ (∀ q, qOf (nf q) (sf q) (df q) = q) ∧ (∀ n s d, OkQ n s d → nf (qOf n s d) = n ∧ sf (qOf n s d) = s ∧ df (qOf n s d) = d) :=
 ⟨fun q => decide (q.num < 0), fun q => strOf q.num.natAbs, fun q => strOf q.den, fun _ => rfl, okQ_qI, fun q k h => ⟨h.1.size, by have := h.2.size; simpa using this⟩, qOf_qI, fun n s d h => h.parts⟩
def chkq (n : Bool) (s d : ByteArray) : Nat := if 8000 < s.size ∨ 8000 < d.size then 5 else if chk n s ≠ 0 ∨ d.size = 0 ∨ lm (byts d) 0 = 0 ∨ Nat.gcd (natOf s) (natOf d) ≠ 1 then 1 else 0
theorem chkq_zero {n : Bool} {s d : ByteArray} (h : chkq n s d = 0) : OkQ n s d ∧ s.size ≤ 8000 ∧ d.size ≤ 8000 := by
 unfold chkq at h
 by_cases h1 : 8000 < s.size ∨ 8000 < d.size
 ·rw [if_pos h1] at h; omega
 ·rw [if_neg h1] at h
  by_cases h2 : chk n s ≠ 0 ∨ d.size = 0 ∨ lm (byts d) 0 = 0 ∨ Nat.gcd (natOf s) (natOf d) ≠ 1
  ·rw [if_pos h2] at h; omega
  ·have hs : s.size ≤ 8000 := by omega
   have c0 : chk n s = 0 := by
    refine Classical.byContradiction fun e => h2 (Or.inl e)
   have d0 : 0 < d.size := Nat.pos_of_ne_zero fun e => h2 (Or.inr (Or.inl e))
   have od : OkS d := fun _ e => h2 (Or.inr (Or.inr (Or.inl e)))
   have g1 : Nat.gcd (natOf s) (natOf d) = 1 := Classical.byContradiction fun e => h2 (Or.inr (Or.inr (Or.inr e)))
   exact ⟨⟨(chk_ok (by omega)).1 c0, od, natOf_pos od d0, g1⟩, hs, by omega⟩
theorem chkq_ok {n : Bool} {s d : ByteArray} (h : OkQ n s d) (hs : s.size ≤ 8000) (hd : d.size ≤ 8000) : chkq n s d = 0 := by
 unfold chkq
 rw [if_neg (by omega), if_neg]
 have d0 : 0 < d.size := Nat.pos_of_ne_zero fun e => by have := natOf_empty e; have := h.2.2.1; omega
 rintro (a | a | a | a)
 ·exact a ((chk_ok (by omega)).2 h.1)
 ·omega
 ·exact h.2.1 d0 a
 ·exact a h.2.2.2
def Bk (w : World) (g : Nat) (ys : List Nat) (t : TypeId) : Prop := w.heap[g]? = some (.cells (cellsOf ys) t (0, 0))
theorem Bk.lt {w : World} {g : Nat} {ys : List Nat} {t : TypeId} (h : Bk w g ys t) : g < w.heap.size := by
 unfold Bk at h
 by_cases hg : g < w.heap.size
 ·exact hg
 ·rw [Array.getElem?_eq_none (by omega)] at h; cases h
theorem Bk.cell {w : World} {g : Nat} {ys : List Nat} {t : TypeId} (h : Bk w g ys t) {j : Nat} (hj : j < ys.length) : w.cell? ⟨g, j, none⟩ = some (.int .u64 (lm ys j : Nat)) := by
 unfold Bk at h
 simp [World.cell?, h, cellsOf, lm, hj]
theorem Bk.frozen {w : World} {g : Nat} {ys : List Nat} {t : TypeId} (h : Bk w g ys t) (j : Nat) : w.frozen? ⟨g, j, none⟩ = false := by
 unfold Bk at h
 simp [World.frozen?, h]
theorem Bk.set {w : World} {g : Nat} {ys : List Nat} {t : TypeId} (h : Bk w g ys t) (j x : Nat) : Bk (w.setCell ⟨g, j, none⟩ (.int .u64 (x : Nat))) g (ys.set j x) t := by
 unfold Bk at h ⊢
 simp [World.setCell, Array.getElem?_modify, h, cellsOf]
theorem Bk.other {w : World} {g g' : Nat} {ys : List Nat} {t : TypeId} (h : Bk w g ys t) (hn : g ≠ g') (j : Nat) (v : Value) : Bk (w.setCell ⟨g', j, none⟩ v) g ys t := by
 unfold Bk at h ⊢
 rw [Below.heap_setCell _ _ _ _ (by exact hn)]; exact h
theorem Bk.below {w w' : World} {g : Nat} {ys : List Nat} {t : TypeId} (h : Bk w g ys t) (hb : Below w.heap.size w w') : Bk w' g ys t := by
 have := h.lt
 unfold Bk at h ⊢
 rw [hb.block g this]; exact h
theorem Bk.only {w w' : World} {g g' : Nat} {ys : List Nat} {t : TypeId} (h : Bk w g ys t) (k : Only g' w w') (hn : g ≠ g') : Bk w' g ys t := by
 unfold Bk at *; rw [k.block g hn]; exact h
theorem Bk.rd {w : World} {g : Nat} {ys q : List Nat} {t : TypeId} (h : Bk w g (ys ++ q) t) (cap : Nat) (hc : ys.length ≤ cap) : Rd w (.slice (some ⟨g, 0, none⟩) ys.length cap) ys := by
 refine ⟨_, cap, rfl, hc, fun j hj => ⟨g, 0, rfl, ?_⟩⟩
 rw [Nat.zero_add, h.cell (by simp; omega)]
 unfold lm
 rw [List.getD_eq_getElem?_getD, List.getD_eq_getElem?_getD, List.getElem?_append_left hj]
def tLo (x f m : Nat) : Nat := sum64 (mulLo x f) m 0
def tHi (x f m : Nat) : Nat := mulHi x f + car64 (mulLo x f) m 0
theorem t_facts {x f m : Nat} (hx : x < B64) (hf : f < B64) (hm : m < B64) : tHi x f m < B64 ∧ tLo x f m < B64 ∧ tLo x f m + B64 * tHi x f m = x * f + m := by
 have hp : x * f ≤ 18446744073709551615 * 18446744073709551615 := Nat.mul_le_mul (by unfold B64 at hx; omega) (by unfold B64 at hf; omega)
 unfold tHi tLo mulHi mulLo sum64 car64
 unfold B64 at *
 generalize x * f = P at *
 refine ⟨by omega, by omega, by omega⟩
theorem times_any (x f m : Nat) (hx : x < B64) (hf : f < B64) (hm : m < B64) (w : World) :
  Calls Tryz.prog 237 #[.int .u64 (x : Nat), .int .u64 (f : Nat), .int .u64 (m : Nat)] w fun e w' => e = .returned (.tuple #[.int .u64 (tLo x f m : Nat), .int .u64 (tHi x f m : Nat)]) ∧ w' = w := by
 have f1 := (t_facts hx hf hm).1
 unfold B64 at f1
 unfold tHi at f1
 go_enter Tryz.func237, Tryz.ntmps237
 go_wp2_with fail
 refine (mul64_any x f hx hf _).mono ?_
 rintro e w' ⟨rfl, rfl⟩
 go_wp2_with (first | simp only [add64_0 (mulLo x f) m])
 go_ret2
 exact ⟨by simp only [tLo, tHi, Int.natCast_add]; rfl, rfl⟩
def TuAt (s d : List Nat) (k c : Nat) : Prop := d.length = k ∧ M.Low B64 d ∧ c ≤ 1 ∧ M.val B64 d + M.val B64 (s.take k) = B64 ^ k * c
theorem TuAt.step {s d : List Nat} {k c : Nat} (ls : M.Low B64 s) (h : TuAt s d k c) : TuAt s (d ++ [dif64 0 (lm s k) c]) (k + 1) (bor64 0 (lm s k) c) := by
 obtain ⟨h1, h2, h3, h4⟩ := h
 have hl := lm_lt B64_pos ls k
 have f1 : dif64 0 (lm s k) c < B64 := by unfold dif64 B64; omega
 have f2 : bor64 0 (lm s k) c ≤ 1 := by unfold bor64; split <;> omega
 have f3 : dif64 0 (lm s k) c + lm s k + c = B64 * bor64 0 (lm s k) c := by
  unfold dif64 bor64
  unfold B64 at *
  split <;> omega
 refine ⟨by simp [h1], h2.snoc f1, f2, ?_⟩
 rw [M.val_snoc, h1, M.val_take_succ, Nat.pow_succ]
 have e : B64 ^ k * (dif64 0 (lm s k) c + lm s k + c) = B64 ^ k * (B64 * bor64 0 (lm s k) c) := by rw [f3]
 simp only [Nat.mul_add, ← Nat.mul_assoc] at e
 show _ + (_ + B64 ^ k * lm s k) = _
 omega
theorem sub64_x0 (y c : Nat) (hc : c ≤ 1) (w : World) : (callFunc 178 #[.int .u64 0, .int .u64 (y : Nat), .int .u64 (c : Nat)]).run Tryz.prog w =
  .ok (.value (.tuple #[.int .u64 (dif64 0 y c : Nat), .int .u64 (bor64 0 y c : Nat)])) w := sub64 0 y c hc w
theorem turn_any (g : Nat) (t : TypeId) (s q : List Nat) (cap : Nat) (w : World) (hb : Bk w g (s ++ q) t) (ls : M.Low B64 s) (hm : s.length ≤ 1000000) (h0 : M.val B64 s ≠ 0) :
  Calls Tryz.prog 238 #[.slice (some ⟨g, 0, none⟩) s.length cap] w fun e w' => ∃ (s' : List Nat), e = .returned (.tuple #[]) ∧ Bk w' g (s' ++ q) t ∧ s'.length = s.length ∧ M.Low B64 s' ∧
   M.val B64 s' + M.val B64 s = B64 ^ s.length ∧ Only g w w' := by
 have H0 : Hid (M.val B64 s ≠ 0) := h0
 clear h0
 go_enter Tryz.func238, Tryz.ntmps238
 go_wp2
 go_loopw [2, 7] (fun c i wr => ∃ (k cc : Nat) (d : List Nat), k ≤ s.length ∧ i = .int .i64 k ∧ c = .int .u64 cc ∧ TuAt s d k cc ∧ Bk wr g ([] ++ d ++ s.drop k ++ q) t ∧ Only g w wr) (fun _ i _ => s.length - (intOf i).toNat)
 case atStart => exact ⟨0, 0, [], by omega, rfl, rfl, ⟨rfl, M.Low.nil _, by omega, by simp [M.val]⟩, by simpa using hb, Only.refl _ _⟩
 case round =>
  obtain ⟨k, cc, d, hk, rfl, rfl, hat, hblk, hon⟩ := hrel
  have hdl : d.length = k := hat.1
  have hcc : cc ≤ 1 := hat.2.2.1
  by_cases hlt : k < s.length
  ·rw [drop_lm s k hlt] at hblk
   have hc1 := hblk.cell (j := k) (by simp; omega)
   have hf1 := hblk.frozen k
   have em := lm_mid [] d (s.drop (k + 1)) q (lm s k)
   rw [List.length_nil, Nat.zero_add, hdl] at em
   rw [em] at hc1
   have hset := hblk.set k (dif64 0 (lm s k) cc)
   have es := set_mid [] d (s.drop (k + 1)) q (lm s k) (dif64 0 (lm s k) cc)
   rw [List.length_nil, Nat.zero_add, hdl] at es
   rw [es] at hset
   have HST : Hid (TuAt s (d ++ [dif64 0 (lm s k) cc]) (k + 1) (bor64 0 (lm s k) cc)) := hat.step ls
   have HB := shut hset
   have hks : (k : Int) < s.length := by omega
   clear hset es em
   go_wp2_with (simp only [sub64_x0 (lm s k) cc hcc])
   exact ⟨⟨k + 1, _, _, by omega, by go_num, rfl, HST.out, HB.out, hon.setCell _ _⟩, by simp [intOf]; omega⟩
  ·have hke : k = s.length := by omega
   rw [List.drop_of_length_le (by omega), List.append_nil, List.nil_append] at hblk
   obtain ⟨h1, h2, h3, h4⟩ := hat
   rw [M.val_take_all _ _ _ (by omega), hke] at h4
   have h4' : M.val B64 d + M.val B64 s = B64 ^ s.length := by
    have := H0.out
    rcases (show cc = 0 ∨ cc = 1 by omega) with e | e
    ·rw [e, Nat.mul_zero] at h4; omega
    ·rwa [e, Nat.mul_one] at h4
   have H4 := shut h4'
   have HD : Hid (d.length = s.length) := by rw [← hke]; exact h1
   clear h4 h4' h1 hke hdl
   go_wp2
   go_end0
   exact ⟨d, rfl, hblk, HD.out, h2, H4.out, hon⟩
structure Grew2 (g g' : Nat) (w w' : World) : Prop where
 os : w'.os = w.os
 tape : w'.tape = w.tape
 output : w'.output = w.output
 size : w.heap.size ≤ w'.heap.size
 block : ∀ k, k < w.heap.size → k ≠ g → k ≠ g' → w'.heap[k]? = w.heap[k]?
theorem Grew2.trans {g g' : Nat} {a b c : World} (h : Grew2 g g' a b) (k : Grew2 g g' b c) : Grew2 g g' a c :=
 ⟨k.os.trans h.os, k.tape.trans h.tape, k.output.trans h.output, Nat.le_trans h.size k.size, fun i hl hi hj => (k.block i (Nat.lt_of_lt_of_le hl h.size) hi hj).trans (h.block i hl hi hj)⟩
theorem Grew2.left {g g' : Nat} {a b : World} (h : Only g a b) : Grew2 g g' a b := ⟨h.os, h.tape, h.output, by rw [h.size]; exact Nat.le_refl _, fun i _ hi _ => h.block i hi⟩
theorem Grew2.right {g g' : Nat} {a b : World} (h : Only g' a b) : Grew2 g g' a b := ⟨h.os, h.tape, h.output, by rw [h.size]; exact Nat.le_refl _, fun i _ _ hi => h.block i hi⟩
theorem Grew2.of {g g' : Nat} {a b : World} (h : Below a.heap.size a b) : Grew2 g g' a b := ⟨h.os, h.tape, h.output, h.size, fun i hl _ _ => h.block i hl⟩
theorem Grew2.set0 {g g' : Nat} {a w : World} (h : Grew2 g g' a w) (j : Nat) (u : Value) : Grew2 g g' a (w.setCell ⟨g, j, none⟩ u) := h.trans (Grew2.left ((Only.refl _ _).setCell _ _))
theorem Grew2.set1 {g g' : Nat} {a w : World} (h : Grew2 g g' a w) (j : Nat) (u : Value) : Grew2 g g' a (w.setCell ⟨g', j, none⟩ u) := h.trans (Grew2.right ((Only.refl _ _).setCell _ _))
theorem Grew2.below {g g' B : Nat} {a w w' : World} (h : Below B a w) (k : Grew2 g g' w w') (hB : B ≤ w.heap.size) (h0 : B ≤ g) (h1 : B ≤ g') : Below B a w' :=
 ⟨k.os.trans h.os, k.tape.trans h.tape, k.output.trans h.output, Nat.le_trans h.size k.size, fun i hi => (k.block i (by omega) (by omega) (by omega)).trans (h.block i hi)⟩
theorem Cel.grew2 {w w' : World} {g a b : Nat} {cs : List Value} {t : TypeId} (h : Cel w g cs t) (k : Grew2 a b w w') (ha : g ≠ a) (hb : g ≠ b) : Cel w' g cs t := by
 have := h.lt
 unfold Cel at h ⊢
 rw [k.block g this ha hb]; exact h
def TkAt (xs ys d : List Nat) (a b k p m l : Nat) : Prop :=
 d.length = k ∧ M.Low B64 d ∧ p < B64 ∧ m < B64 ∧ l ≤ 1 ∧ M.val B64 d + b * M.val B64 (ys.take k) + B64 ^ k * p = a * M.val B64 (xs.take k) + B64 ^ k * (m + l)
theorem tk_step {B P V X Y a b x y o lx hx ly hy p m l l' : Nat} (h : V + b * Y + P * p = a * X + P * (m + l)) (h1 : lx + B * hx = x * a + p) (h2 : ly + B * hy = y * b + m) (h3 : o + ly + l = lx + B * l') :
  (V + P * o) + b * (Y + P * y) + P * B * hx = a * (X + P * x) + P * B * (hy + l') := by
 have e1 : P * (lx + B * hx) = P * (x * a + p) := by rw [h1]
 have e2 : P * (ly + B * hy) = P * (y * b + m) := by rw [h2]
 have e3 : P * (o + ly + l) = P * (lx + B * l') := by rw [h3]
 grind
theorem TkAt.step {xs ys d : List Nat} {a b k p m l : Nat} (lx : M.Low B64 xs) (ly : M.Low B64 ys) (ha : a < B64) (hb : b < B64) (h : TkAt xs ys d a b k p m l) :
  TkAt xs ys (d ++ [dif64 (tLo (lm xs k) a p) (tLo (lm ys k) b m) l]) a b (k + 1) (tHi (lm xs k) a p) (tHi (lm ys k) b m) (bor64 (tLo (lm xs k) a p) (tLo (lm ys k) b m) l) := by
 obtain ⟨h1, h2, h3, h4, h5, h6⟩ := h
 obtain ⟨f1, f2, f3⟩ := t_facts (lm_lt B64_pos lx k) ha h3
 obtain ⟨g1, g2, g3⟩ := t_facts (lm_lt B64_pos ly k) hb h4
 generalize tLo (lm xs k) a p = u at *
 generalize tLo (lm ys k) b m = v at *
 have k1 : dif64 u v l < B64 := by unfold dif64 B64; omega
 have k2 : bor64 u v l ≤ 1 := by unfold bor64; split <;> omega
 have k3 : dif64 u v l + v + l = u + B64 * bor64 u v l := by
  unfold dif64 bor64
  unfold B64 at *
  split <;> omega
 refine ⟨by simp [h1], h2.snoc k1, f1, g1, k2, ?_⟩
 rw [M.val_snoc, h1, M.val_take_succ, M.val_take_succ, Nat.pow_succ]
 exact tk_step h6 f3 g3 k3
theorem tk_fin {P V A C p m l N : Nat} (h : V + C + P * p = A + P * (m + l)) (hV : V < P) (hN : N < P) (hl : l ≤ 1) (hA : A = C + N ∨ C = A + N) :
  (¬ (p < m ∨ (p = m ∧ l ≠ 0)) ∧ V = N) ∨ ((p < m ∨ (p = m ∧ l ≠ 0)) ∧ V ≠ 0 ∧ ∀ V', V' + V = P → V' = N) := by
 rcases hA with rfl | rfl
 ·left
  have h' : V + P * p = N + P * (m + l) := by omega
  have e : p = m + l := by
   rcases Nat.lt_trichotomy p (m + l) with g | g | g
   ·have := Nat.mul_le_mul_left P (show p + 1 ≤ m + l from g)
    rw [Nat.mul_add, Nat.mul_one] at this
    omega
   ·exact g
   ·have := Nat.mul_le_mul_left P (show m + l + 1 ≤ p from g)
    rw [Nat.mul_add, Nat.mul_one] at this
    omega
  rw [e] at h'
  exact ⟨by omega, by omega⟩
 ·have h' : V + N + P * p = P * (m + l) := by omega
  by_cases h0 : N = 0
  ·left
   subst h0
   have e : p = m + l := by
    rcases Nat.lt_trichotomy p (m + l) with g | g | g
    ·have := Nat.mul_le_mul_left P (show p + 1 ≤ m + l from g)
     rw [Nat.mul_add, Nat.mul_one] at this
     omega
    ·exact g
    ·have := Nat.mul_le_mul_left P (show m + l + 1 ≤ p from g)
     rw [Nat.mul_add, Nat.mul_one] at this
     omega
   rw [e] at h'
   exact ⟨by omega, by omega⟩
  ·right
   have e : m + l = p + 1 := by
    rcases Nat.lt_trichotomy (m + l) (p + 1) with g | g | g
    ·have := Nat.mul_le_mul_left P (show m + l ≤ p by omega)
     omega
    ·exact g
    ·have := Nat.mul_le_mul_left P (show p + 2 ≤ m + l from g)
     rw [Nat.mul_add] at this
     omega
   rw [e, Nat.mul_add, Nat.mul_one] at h'
   refine ⟨by omega, by omega, fun V' hV' => by omega⟩
theorem take_walk (a b c d g0 g1 : Nat) (t : TypeId) (xs ys q0 q1 : List Nat) (c0 n1 c1 : Nat) (w : World) (h0 : Bk w g0 (xs ++ q0) t) (h1 : Bk w g1 (ys ++ q1) t) (hg : g0 ≠ g1) (hxy : ys.length = xs.length)
  (ha : a < B64) (hb : b < B64) (hc : c < B64) (hd : d < B64) (lx : M.Low B64 xs) (ly : M.Low B64 ys) (hc1 : xs.length ≤ c1) (hm : xs.length ≤ 1000000)
  (X' Y' : Nat) (eX : a * M.val B64 xs = b * M.val B64 ys + X' ∨ b * M.val B64 ys = a * M.val B64 xs + X') (eY : c * M.val B64 xs = d * M.val B64 ys + Y' ∨ d * M.val B64 ys = c * M.val B64 xs + Y')
  (bX : X' < B64 ^ xs.length) (bY : Y' < B64 ^ xs.length) :
  Calls Tryz.prog 207 #[.agg #[.int .u64 (a : Nat), .int .u64 (b : Nat), .int .u64 (c : Nat), .int .u64 (d : Nat)], .slice (some ⟨g0, 0, none⟩) xs.length c0, .slice (some ⟨g1, 0, none⟩) n1 c1] w fun e w' =>
   ∃ xs' ys' : List Nat, e = .returned (.tuple #[]) ∧ Bk w' g0 (xs' ++ q0) t ∧ Bk w' g1 (ys' ++ q1) t ∧ xs'.length = xs.length ∧ ys'.length = xs.length ∧ M.Low B64 xs' ∧ M.Low B64 ys' ∧ M.val B64 xs' = X' ∧ M.val B64 ys' = Y' ∧ Grew2 g0 g1 w w' := by
 have hcc1 : (xs.length : Int) ≤ c1 := by omega
 have EX := shut eX
 have EY := shut eY
 have BX := shut bX
 have BY := shut bY
 clear eX eY bX bY
 go_enter Tryz.func207, Tryz.ntmps207
 go_wp2
 have kS := Cel.new w [.int .u64 (a : Nat), .int .u64 (b : Nat), .int .u64 (c : Nat), .int .u64 (d : Nat)] 276
 have gS : Grew2 g0 g1 w (w.alloc (.cells #[.int .u64 (a : Nat), .int .u64 (b : Nat), .int .u64 (c : Nat), .int .u64 (d : Nat)] 276)) := Grew2.of ((Below.refl _ _).alloc (Nat.le_refl _) _)
 have lt0 := h0.lt
 have lt1 := h1.lt
 go_loopw [6, 7, 8, 9, 10, 11, 23] (fun va vb vc vd vl vl' i wr => ∃ (k p m p' m' l l' : Nat) (u v : List Nat), k ≤ xs.length ∧ i = .int .i64 k ∧ va = .int .u64 p ∧ vb = .int .u64 m ∧ vc = .int .u64 p' ∧ vd = .int .u64 m' ∧ vl = .int .u64 l ∧ vl' = .int .u64 l' ∧
   TkAt xs ys u a b k p m l ∧ TkAt xs ys v c d k p' m' l' ∧ Bk wr g0 ([] ++ u ++ xs.drop k ++ q0) t ∧ Bk wr g1 ([] ++ v ++ ys.drop k ++ q1) t ∧ Cel wr w.heap.size [.int .u64 (a : Nat), .int .u64 (b : Nat), .int .u64 (c : Nat), .int .u64 (d : Nat)] 276 ∧ Grew2 g0 g1 w wr)
  (fun _ _ _ _ _ _ i _ => xs.length - (intOf i).toNat)
 case atStart => exact ⟨0, 0, 0, 0, 0, 0, 0, [], [], by omega, rfl, rfl, rfl, rfl, rfl, rfl, rfl, ⟨rfl, M.Low.nil _, B64_pos, B64_pos, by omega, by simp [M.val]⟩, ⟨rfl, M.Low.nil _, B64_pos, B64_pos, by omega, by simp [M.val]⟩,
   by simpa using h0.below ((Below.refl _ _).alloc (Nat.le_refl _) _), by simpa using h1.below ((Below.refl _ _).alloc (Nat.le_refl _) _), kS, gS⟩
 case round =>
  clear kS gS
  obtain ⟨k, p, m, p', m', l, l', u, v, hk, rfl, rfl, rfl, rfl, rfl, rfl, rfl, at1, at2, k0, k1, kS, gS⟩ := hrel
  have hul : u.length = k := at1.1
  have hvl : v.length = k := at2.1
  obtain ⟨-, -, ip, im, il, -⟩ := id at1
  obtain ⟨-, -, ip', im', il', -⟩ := id at2
  by_cases hlt : k < xs.length
  ·rw [drop_lm xs k hlt] at k0
   rw [drop_lm ys k (by omega)] at k1
   have x1 := k0.cell (j := k) (by simp; omega)
   have em := lm_mid [] u (xs.drop (k + 1)) q0 (lm xs k)
   rw [List.length_nil, Nat.zero_add, hul] at em
   rw [em] at x1
   have y1 := k1.cell (j := k) (by simp; omega)
   have em := lm_mid [] v (ys.drop (k + 1)) q1 (lm ys k)
   rw [List.length_nil, Nat.zero_add, hvl] at em
   rw [em] at y1
   have f0 := k0.frozen k
   have s0 := kS.cell 0
   have s1 := kS.cell 1
   have s2 := kS.cell 2
   have s3 := kS.cell 3
   simp only [List.getElem?_cons_zero, List.getElem?_cons_succ] at s0 s1 s2 s3
   have hks : (k : Int) < xs.length := by omega
   have hky : (k : Int) < ys.length := by omega
   have ixl := lm_lt B64_pos lx k
   have iyl := lm_lt B64_pos ly k
   have T1 := shut (at1.step lx ly ha hb)
   have T2 := shut (at2.step lx ly hc hd)
   have M1 := shut (fun w => times_any (lm xs k) a p ixl ha ip w)
   have M2 := shut (fun w => times_any (lm ys k) b m iyl hb im w)
   have M3 := shut (fun w => times_any (lm xs k) c p' ixl hc ip' w)
   have M4 := shut (fun w => times_any (lm ys k) d m' iyl hd im' w)
   clear ixl iyl at1 at2 em
   go_wp2_with fail
   refine (M1.out _).mono ?_
   rintro e w1 ⟨rfl, rfl⟩
   go_wp2_with fail
   refine (M2.out _).mono ?_
   rintro e w1 ⟨rfl, rfl⟩
   obtain ⟨o, ho⟩ : ∃ o, o = dif64 (tLo (lm xs k) a p) (tLo (lm ys k) b m) l := ⟨_, rfl⟩
   have HS1 := shut (fun w => sub64 (tLo (lm xs k) a p) (tLo (lm ys k) b m) l il w)
   obtain ⟨w2, hw2⟩ : ∃ w2, w2 = w1.setCell ⟨g0, k, none⟩ (.int .u64 (o : Nat)) := ⟨_, rfl⟩
   have j0 : Bk w2 g0 ([] ++ (u ++ [o]) ++ xs.drop (k + 1) ++ q0) t := by
    have hset := k0.set k o
    have es := set_mid [] u (xs.drop (k + 1)) q0 (lm xs k) o
    rw [List.length_nil, Nat.zero_add, hul] at es
    rw [es, ← hw2] at hset
    exact hset
   have j1 : Bk w2 g1 ([] ++ v ++ (lm ys k :: ys.drop (k + 1)) ++ q1) t := by rw [hw2]; exact k1.other (Ne.symm hg) _ _
   have jS : Cel w2 w.heap.size [.int .u64 (a : Nat), .int .u64 (b : Nat), .int .u64 (c : Nat), .int .u64 (d : Nat)] 276 := by rw [hw2]; exact kS.other (by omega) _ _
   have jG : Grew2 g0 g1 w w2 := by rw [hw2]; exact gS.set0 _ _
   have s2' := jS.cell 2
   have s3' := jS.cell 3
   have f1 := j1.frozen k
   have y2 := j1.cell (j := k) (by simp; omega)
   simp only [List.getElem?_cons_zero, List.getElem?_cons_succ] at s2' s3'
   rw [hw2, ho] at s2' s3' f1 y2
   go_wp2_with (first | simp only [HS1.out])
   rw [← ho, ← hw2]
   rw [← ho, ← hw2] at s2' s3' f1 y2
   have j0' := j0
   rw [ho] at j0'
   clear hw2 ho
   clear s0 s1 s2 s3 HS1 k0 k1 kS gS x1 y1 f0
   refine (M3.out _).mono ?_
   rintro e w3 ⟨rfl, rfl⟩
   go_wp2_with fail
   refine (M4.out _).mono ?_
   rintro e w3 ⟨rfl, rfl⟩
   have HS2 := shut (fun w => sub64 (tLo (lm xs k) c p') (tLo (lm ys k) d m') l' il' w)
   have z1 : Bk (w3.setCell ⟨g1, k, none⟩ (.int .u64 (dif64 (tLo (lm xs k) c p') (tLo (lm ys k) d m') l' : Nat))) g1 ([] ++ (v ++ [dif64 (tLo (lm xs k) c p') (tLo (lm ys k) d m') l']) ++ ys.drop (k + 1) ++ q1) t := by
    have hset := j1.set k (dif64 (tLo (lm xs k) c p') (tLo (lm ys k) d m') l')
    have es := set_mid [] v (ys.drop (k + 1)) q1 (lm ys k) (dif64 (tLo (lm xs k) c p') (tLo (lm ys k) d m') l')
    rw [List.length_nil, Nat.zero_add, hvl] at es
    rw [es] at hset
    exact hset
   have Z1 := shut z1
   have Z0 := shut (j0'.other hg k (.int .u64 (dif64 (tLo (lm xs k) c p') (tLo (lm ys k) d m') l' : Nat)))
   have ZS := shut (jS.other (show w.heap.size ≠ g1 by omega) k (.int .u64 (dif64 (tLo (lm xs k) c p') (tLo (lm ys k) d m') l' : Nat)))
   have ZG := shut (jG.set1 k (.int .u64 (dif64 (tLo (lm xs k) c p') (tLo (lm ys k) d m') l' : Nat)))
   clear z1
   go_wp2_with (first | simp only [HS2.out])
   exact ⟨⟨k + 1, _, _, _, _, _, _, _, _, by omega, by go_num, rfl, rfl, rfl, rfl, rfl, rfl, T1.out, T2.out, Z0.out, Z1.out, ZS.out, ZG.out⟩, by simp [intOf]; omega⟩
  ·have hke : k = xs.length := by omega
   rw [List.drop_of_length_le (by omega), List.append_nil, List.nil_append] at k0 k1
   obtain ⟨-, lu, -, -, -, e1⟩ := at1
   obtain ⟨-, lv, -, -, -, e2⟩ := at2
   rw [M.val_take_all _ _ _ (by omega), M.val_take_all _ _ _ (by omega), hke] at e1 e2
   have lu' := M.val_lt B64_pos lu
   have lv' := M.val_lt B64_pos lv
   rw [hul, hke] at lu'
   rw [hvl, hke] at lv'
   have F1 := shut (tk_fin e1 lu' BX.out il EX.out)
   have F2 := shut (tk_fin e2 lv' BY.out il' EY.out)
   have HU : Hid (u.length = xs.length) := by show _ = _; omega
   have HV : Hid (v.length = xs.length) := by show _ = _; omega
   have A1 : (p < m) ∨ (p = m ∧ l = 1) ∨ (p = m ∧ l = 0) ∨ (m < p) := by omega
   have A2 : (p' < m') ∨ (p' = m' ∧ l' = 1) ∨ (p' = m' ∧ l' = 0) ∨ (m' < p') := by omega
   clear e1 e2 lu' lv' hke hul hvl ip im il ip' im' il' ha hb hc hd lx ly h0 h1
   rcases A1 with h1 | ⟨rfl, rfl⟩ | ⟨rfl, rfl⟩ | h1
   ·have nz : M.val B64 u ≠ 0 ∧ ∀ V', V' + M.val B64 u = B64 ^ xs.length → V' = X' := by
     rcases F1.out with ⟨h, -⟩ | ⟨-, h⟩
     ·exact absurd (by first | exact Or.inl h1 | exact Or.inr ⟨rfl, by omega⟩) h
     ·exact h
    have NZ1 := shut nz
    have HT1 := shut (fun wx (hx : Bk wx g0 (u ++ q0) t) => turn_any g0 t u q0 c0 wx hx lu (by rw [HU.out]; exact hm) nz.1)
    rw [HU.out] at HT1
    clear nz
    go_wp2_with fail
    refine (HT1.out _ k0).mono ?_
    rintro e w5 ⟨u', rfl, k0', lv1, lu', lv3, ov⟩
    replace k1 := k1.only ov (by omega)
    replace gS := gS.trans (Grew2.left ov)
    have V1 := shut (NZ1.out.2 _ lv3)
    replace HU : Hid (u'.length = xs.length) := lv1
    clear lv3 lv1 HT1 NZ1 k0 lu F1 ov
    have k0 := k0'
    have lu := lu'
    clear k0' lu'
    rcases A2 with h2 | ⟨rfl, rfl⟩ | ⟨rfl, rfl⟩ | h2
    ·have nz : M.val B64 v ≠ 0 ∧ ∀ V', V' + M.val B64 v = B64 ^ xs.length → V' = Y' := by
      rcases F2.out with ⟨h, -⟩ | ⟨-, h⟩
      ·exact absurd (by first | exact Or.inl h2 | exact Or.inr ⟨rfl, by omega⟩) h
      ·exact h
     have NZ := shut nz
     have HT2 := shut (fun wx (hx : Bk wx g1 (v ++ q1) t) => turn_any g1 t v q1 c1 wx hx lv (by rw [HV.out]; exact hm) nz.1)
     rw [HV.out] at HT2
     clear nz
     go_wp2_with fail
     refine (HT2.out _ k1).mono ?_
     rintro e w5 ⟨v', rfl, k1', lv1, lv2, lv3, ov⟩
     have k0' := k0.only ov (by omega)
     have gS' := gS.trans (Grew2.right ov)
     have LV := shut (NZ.out.2 _ lv3)
     have LV1 := shut lv1
     clear lv3 lv1 HT2 NZ
     go_wp2
     go_end0
     exact ⟨_, v', rfl, k0', k1', HU.out, LV1.out, lu, lv2, V1.out, LV.out, gS'⟩
    ·have nz : M.val B64 v ≠ 0 ∧ ∀ V', V' + M.val B64 v = B64 ^ xs.length → V' = Y' := by
      rcases F2.out with ⟨h, -⟩ | ⟨-, h⟩
      ·exact absurd (by first | exact Or.inl h2 | exact Or.inr ⟨rfl, by omega⟩) h
      ·exact h
     have NZ := shut nz
     have HT2 := shut (fun wx (hx : Bk wx g1 (v ++ q1) t) => turn_any g1 t v q1 c1 wx hx lv (by rw [HV.out]; exact hm) nz.1)
     rw [HV.out] at HT2
     clear nz
     go_wp2_with fail
     refine (HT2.out _ k1).mono ?_
     rintro e w5 ⟨v', rfl, k1', lv1, lv2, lv3, ov⟩
     have k0' := k0.only ov (by omega)
     have gS' := gS.trans (Grew2.right ov)
     have LV := shut (NZ.out.2 _ lv3)
     have LV1 := shut lv1
     clear lv3 lv1 HT2 NZ
     go_wp2
     go_end0
     exact ⟨_, v', rfl, k0', k1', HU.out, LV1.out, lu, lv2, V1.out, LV.out, gS'⟩
    ·have V2 : Hid (M.val B64 v = Y') := by
      rcases F2.out with ⟨-, h⟩ | ⟨h, -⟩
      ·exact h
      ·exact absurd h (by omega)
     go_wp2_with fail
     go_end0
     first | exact ⟨_, v, rfl, k0, k1, HU.out, HV.out, lu, lv, V1.out, V2.out, gS⟩ | exact ⟨rfl, _, v, k0, k1, HU.out, HV.out, lu, lv, V1.out, V2.out, gS⟩ | exact ⟨rfl, _, k0, v, k1, HU.out, HV.out, lu, lv, V1.out, V2.out, gS⟩
    ·have V2 : Hid (M.val B64 v = Y') := by
      rcases F2.out with ⟨-, h⟩ | ⟨h, -⟩
      ·exact h
      ·exact absurd h (by omega)
     go_wp2_with fail
     go_end0
     first | exact ⟨_, v, rfl, k0, k1, HU.out, HV.out, lu, lv, V1.out, V2.out, gS⟩ | exact ⟨rfl, _, v, k0, k1, HU.out, HV.out, lu, lv, V1.out, V2.out, gS⟩ | exact ⟨rfl, _, k0, v, k1, HU.out, HV.out, lu, lv, V1.out, V2.out, gS⟩
   ·have nz : M.val B64 u ≠ 0 ∧ ∀ V', V' + M.val B64 u = B64 ^ xs.length → V' = X' := by
     rcases F1.out with ⟨h, -⟩ | ⟨-, h⟩
     ·exact absurd (by first | exact Or.inl h1 | exact Or.inr ⟨rfl, by omega⟩) h
     ·exact h
    have NZ1 := shut nz
    have HT1 := shut (fun wx (hx : Bk wx g0 (u ++ q0) t) => turn_any g0 t u q0 c0 wx hx lu (by rw [HU.out]; exact hm) nz.1)
    rw [HU.out] at HT1
    clear nz
    go_wp2_with fail
    refine (HT1.out _ k0).mono ?_
    rintro e w5 ⟨u', rfl, k0', lv1, lu', lv3, ov⟩
    replace k1 := k1.only ov (by omega)
    replace gS := gS.trans (Grew2.left ov)
    have V1 := shut (NZ1.out.2 _ lv3)
    replace HU : Hid (u'.length = xs.length) := lv1
    clear lv3 lv1 HT1 NZ1 k0 lu F1 ov
    have k0 := k0'
    have lu := lu'
    clear k0' lu'
    rcases A2 with h2 | ⟨rfl, rfl⟩ | ⟨rfl, rfl⟩ | h2
    ·have nz : M.val B64 v ≠ 0 ∧ ∀ V', V' + M.val B64 v = B64 ^ xs.length → V' = Y' := by
      rcases F2.out with ⟨h, -⟩ | ⟨-, h⟩
      ·exact absurd (by first | exact Or.inl h2 | exact Or.inr ⟨rfl, by omega⟩) h
      ·exact h
     have NZ := shut nz
     have HT2 := shut (fun wx (hx : Bk wx g1 (v ++ q1) t) => turn_any g1 t v q1 c1 wx hx lv (by rw [HV.out]; exact hm) nz.1)
     rw [HV.out] at HT2
     clear nz
     go_wp2_with fail
     refine (HT2.out _ k1).mono ?_
     rintro e w5 ⟨v', rfl, k1', lv1, lv2, lv3, ov⟩
     have k0' := k0.only ov (by omega)
     have gS' := gS.trans (Grew2.right ov)
     have LV := shut (NZ.out.2 _ lv3)
     have LV1 := shut lv1
     clear lv3 lv1 HT2 NZ
     go_wp2
     go_end0
     exact ⟨_, v', rfl, k0', k1', HU.out, LV1.out, lu, lv2, V1.out, LV.out, gS'⟩
    ·have nz : M.val B64 v ≠ 0 ∧ ∀ V', V' + M.val B64 v = B64 ^ xs.length → V' = Y' := by
      rcases F2.out with ⟨h, -⟩ | ⟨-, h⟩
      ·exact absurd (by first | exact Or.inl h2 | exact Or.inr ⟨rfl, by omega⟩) h
      ·exact h
     have NZ := shut nz
     have HT2 := shut (fun wx (hx : Bk wx g1 (v ++ q1) t) => turn_any g1 t v q1 c1 wx hx lv (by rw [HV.out]; exact hm) nz.1)
     rw [HV.out] at HT2
     clear nz
     go_wp2_with fail
     refine (HT2.out _ k1).mono ?_
     rintro e w5 ⟨v', rfl, k1', lv1, lv2, lv3, ov⟩
     have k0' := k0.only ov (by omega)
     have gS' := gS.trans (Grew2.right ov)
     have LV := shut (NZ.out.2 _ lv3)
     have LV1 := shut lv1
     clear lv3 lv1 HT2 NZ
     go_wp2
     go_end0
     exact ⟨_, v', rfl, k0', k1', HU.out, LV1.out, lu, lv2, V1.out, LV.out, gS'⟩
    ·have V2 : Hid (M.val B64 v = Y') := by
      rcases F2.out with ⟨-, h⟩ | ⟨h, -⟩
      ·exact h
      ·exact absurd h (by omega)
     go_wp2_with fail
     go_end0
     first | exact ⟨_, v, rfl, k0, k1, HU.out, HV.out, lu, lv, V1.out, V2.out, gS⟩ | exact ⟨rfl, _, v, k0, k1, HU.out, HV.out, lu, lv, V1.out, V2.out, gS⟩ | exact ⟨rfl, _, k0, v, k1, HU.out, HV.out, lu, lv, V1.out, V2.out, gS⟩
    ·have V2 : Hid (M.val B64 v = Y') := by
      rcases F2.out with ⟨-, h⟩ | ⟨h, -⟩
      ·exact h
      ·exact absurd h (by omega)
     go_wp2_with fail
     go_end0
     first | exact ⟨_, v, rfl, k0, k1, HU.out, HV.out, lu, lv, V1.out, V2.out, gS⟩ | exact ⟨rfl, _, v, k0, k1, HU.out, HV.out, lu, lv, V1.out, V2.out, gS⟩ | exact ⟨rfl, _, k0, v, k1, HU.out, HV.out, lu, lv, V1.out, V2.out, gS⟩
   ·have V1 : Hid (M.val B64 u = X') := by
     rcases F1.out with ⟨-, h⟩ | ⟨h, -⟩
     ·exact h
     ·exact absurd h (by omega)
    clear F1
    rcases A2 with h2 | ⟨rfl, rfl⟩ | ⟨rfl, rfl⟩ | h2
    ·have nz : M.val B64 v ≠ 0 ∧ ∀ V', V' + M.val B64 v = B64 ^ xs.length → V' = Y' := by
      rcases F2.out with ⟨h, -⟩ | ⟨-, h⟩
      ·exact absurd (by first | exact Or.inl h2 | exact Or.inr ⟨rfl, by omega⟩) h
      ·exact h
     have NZ := shut nz
     have HT2 := shut (fun wx (hx : Bk wx g1 (v ++ q1) t) => turn_any g1 t v q1 c1 wx hx lv (by rw [HV.out]; exact hm) nz.1)
     rw [HV.out] at HT2
     clear nz
     go_wp2_with fail
     refine (HT2.out _ k1).mono ?_
     rintro e w5 ⟨v', rfl, k1', lv1, lv2, lv3, ov⟩
     have k0' := k0.only ov (by omega)
     have gS' := gS.trans (Grew2.right ov)
     have LV := shut (NZ.out.2 _ lv3)
     have LV1 := shut lv1
     clear lv3 lv1 HT2 NZ
     go_wp2
     go_end0
     exact ⟨_, v', rfl, k0', k1', HU.out, LV1.out, lu, lv2, V1.out, LV.out, gS'⟩
    ·have nz : M.val B64 v ≠ 0 ∧ ∀ V', V' + M.val B64 v = B64 ^ xs.length → V' = Y' := by
      rcases F2.out with ⟨h, -⟩ | ⟨-, h⟩
      ·exact absurd (by first | exact Or.inl h2 | exact Or.inr ⟨rfl, by omega⟩) h
      ·exact h
     have NZ := shut nz
     have HT2 := shut (fun wx (hx : Bk wx g1 (v ++ q1) t) => turn_any g1 t v q1 c1 wx hx lv (by rw [HV.out]; exact hm) nz.1)
     rw [HV.out] at HT2
     clear nz
     go_wp2_with fail
     refine (HT2.out _ k1).mono ?_
     rintro e w5 ⟨v', rfl, k1', lv1, lv2, lv3, ov⟩
     have k0' := k0.only ov (by omega)
     have gS' := gS.trans (Grew2.right ov)
     have LV := shut (NZ.out.2 _ lv3)
     have LV1 := shut lv1
     clear lv3 lv1 HT2 NZ
     go_wp2
     go_end0
     exact ⟨_, v', rfl, k0', k1', HU.out, LV1.out, lu, lv2, V1.out, LV.out, gS'⟩
    ·have V2 : Hid (M.val B64 v = Y') := by
      rcases F2.out with ⟨-, h⟩ | ⟨h, -⟩
      ·exact h
      ·exact absurd h (by omega)
     go_wp2_with fail
     go_end0
     first | exact ⟨_, v, rfl, k0, k1, HU.out, HV.out, lu, lv, V1.out, V2.out, gS⟩ | exact ⟨rfl, _, v, k0, k1, HU.out, HV.out, lu, lv, V1.out, V2.out, gS⟩ | exact ⟨rfl, _, k0, v, k1, HU.out, HV.out, lu, lv, V1.out, V2.out, gS⟩
    ·have V2 : Hid (M.val B64 v = Y') := by
      rcases F2.out with ⟨-, h⟩ | ⟨h, -⟩
      ·exact h
      ·exact absurd h (by omega)
     go_wp2_with fail
     go_end0
     first | exact ⟨_, v, rfl, k0, k1, HU.out, HV.out, lu, lv, V1.out, V2.out, gS⟩ | exact ⟨rfl, _, v, k0, k1, HU.out, HV.out, lu, lv, V1.out, V2.out, gS⟩ | exact ⟨rfl, _, k0, v, k1, HU.out, HV.out, lu, lv, V1.out, V2.out, gS⟩
   ·have V1 : Hid (M.val B64 u = X') := by
     rcases F1.out with ⟨-, h⟩ | ⟨h, -⟩
     ·exact h
     ·exact absurd h (by omega)
    clear F1
    rcases A2 with h2 | ⟨rfl, rfl⟩ | ⟨rfl, rfl⟩ | h2
    ·have nz : M.val B64 v ≠ 0 ∧ ∀ V', V' + M.val B64 v = B64 ^ xs.length → V' = Y' := by
      rcases F2.out with ⟨h, -⟩ | ⟨-, h⟩
      ·exact absurd (by first | exact Or.inl h2 | exact Or.inr ⟨rfl, by omega⟩) h
      ·exact h
     have NZ := shut nz
     have HT2 := shut (fun wx (hx : Bk wx g1 (v ++ q1) t) => turn_any g1 t v q1 c1 wx hx lv (by rw [HV.out]; exact hm) nz.1)
     rw [HV.out] at HT2
     clear nz
     go_wp2_with fail
     refine (HT2.out _ k1).mono ?_
     rintro e w5 ⟨v', rfl, k1', lv1, lv2, lv3, ov⟩
     have k0' := k0.only ov (by omega)
     have gS' := gS.trans (Grew2.right ov)
     have LV := shut (NZ.out.2 _ lv3)
     have LV1 := shut lv1
     clear lv3 lv1 HT2 NZ
     go_wp2
     go_end0
     exact ⟨_, v', rfl, k0', k1', HU.out, LV1.out, lu, lv2, V1.out, LV.out, gS'⟩
    ·have nz : M.val B64 v ≠ 0 ∧ ∀ V', V' + M.val B64 v = B64 ^ xs.length → V' = Y' := by
      rcases F2.out with ⟨h, -⟩ | ⟨-, h⟩
      ·exact absurd (by first | exact Or.inl h2 | exact Or.inr ⟨rfl, by omega⟩) h
      ·exact h
     have NZ := shut nz
     have HT2 := shut (fun wx (hx : Bk wx g1 (v ++ q1) t) => turn_any g1 t v q1 c1 wx hx lv (by rw [HV.out]; exact hm) nz.1)
     rw [HV.out] at HT2
     clear nz
     go_wp2_with fail
     refine (HT2.out _ k1).mono ?_
     rintro e w5 ⟨v', rfl, k1', lv1, lv2, lv3, ov⟩
     have k0' := k0.only ov (by omega)
     have gS' := gS.trans (Grew2.right ov)
     have LV := shut (NZ.out.2 _ lv3)
     have LV1 := shut lv1
     clear lv3 lv1 HT2 NZ
     go_wp2
     go_end0
     exact ⟨_, v', rfl, k0', k1', HU.out, LV1.out, lu, lv2, V1.out, LV.out, gS'⟩
    ·have V2 : Hid (M.val B64 v = Y') := by
      rcases F2.out with ⟨-, h⟩ | ⟨h, -⟩
      ·exact h
      ·exact absurd h (by omega)
     go_wp2_with fail
     go_end0
     first | exact ⟨_, v, rfl, k0, k1, HU.out, HV.out, lu, lv, V1.out, V2.out, gS⟩ | exact ⟨rfl, _, v, k0, k1, HU.out, HV.out, lu, lv, V1.out, V2.out, gS⟩ | exact ⟨rfl, _, k0, v, k1, HU.out, HV.out, lu, lv, V1.out, V2.out, gS⟩
    ·have V2 : Hid (M.val B64 v = Y') := by
      rcases F2.out with ⟨-, h⟩ | ⟨h, -⟩
      ·exact h
      ·exact absurd h (by omega)
     go_wp2_with fail
     go_end0
     first | exact ⟨_, v, rfl, k0, k1, HU.out, HV.out, lu, lv, V1.out, V2.out, gS⟩ | exact ⟨rfl, _, v, k0, k1, HU.out, HV.out, lu, lv, V1.out, V2.out, gS⟩ | exact ⟨rfl, _, k0, v, k1, HU.out, HV.out, lu, lv, V1.out, V2.out, gS⟩
end Go.Proofs.YtnplifkgeeicjaaGreatDoor
