/-
  Package long: the contracts of numbers that are not long.
  Blocks by what stands at each place; package vec: cleared.
  Package vec: cleared.
  Package rat: reckon; Add, Sub, Mul, Div.
  Package rat: product, walked.
-/
import Derived.Test.YtiiigiggcbbgjaaGreatDoorH31
import Derived.Test.YtiiigiggcbbgjaaGreatDoorH35
import Derived.Test.YtiiigiggcbbgjaaGreatDoorH36
set_option maxRecDepth 100000
set_option maxHeartbeats 8000000
namespace Go.Proofs.YtiiigiggcbbgjaaGreatDoor
open Go.RowKit
def nfZ (z : Int) : Bool := decide (z < 0)
def sfZ (z : Int) : ByteArray := strOf z.natAbs
theorem zI_nz (z : Int) : zI z = .agg #[.bool (nfZ z), .string (sfZ z)] := rfl
theorem okS_sfZ (z : Int) : OkS (sfZ z) := okS_strOf _
theorem okZ_nz (z : Int) : OkZ (nfZ z) (sfZ z) := okZ_zI z
theorem zOf_nz (z : Int) : zOf (nfZ z) (sfZ z) = z := zOf_zI z
theorem natOf_sfZ (z : Int) : natOf (sfZ z) = z.natAbs := natOf_strOf _
theorem okZ_false {s : ByteArray} (h : OkS s) : OkZ false s := ⟨h, fun e => by cases e⟩
theorem zOf_f (s : ByteArray) : zOf false s = ((natOf s : Nat) : Int) := rfl
theorem lmul_nat (s0 s1 : ByteArray) (w : World) (o0 : OkS s0) (o1 : OkS s1) (z0 : s0.size ≤ 16000) (z1 : s1.size ≤ 16000) :
  Calls Tryz.prog 154 #[.string s0, .string s1] w (Re w (.string (strOf (natOf s0 * natOf s1)))) := by
 have key : ∀ (x y : ByteArray), OkS x → OkS y → x.size ≤ 16000 → y.size ≤ 16000 → Hid (∀ w1, Calls Tryz.prog 184 #[.agg #[.bool false, .string x], .agg #[.bool false, .string y]] w1 (Re w1 (.tuple #[.agg #[.bool (nfZ ((natOf x : Int) * (natOf y : Int))), .string (strOf (natOf x * natOf y))], .int .i64 0]))) := fun x y ox oy zx zy w1 => by
  have := zmul_ok false false x y w1 (okZ_false ox) (okZ_false oy) zx zy
  rw [zOf_f, zOf_f, zI_nz] at this
  have e : sfZ ((natOf x : Int) * (natOf y : Int)) = strOf (natOf x * natOf y) := by unfold sfZ; rw [Int.natAbs_mul]; rfl
  rw [e] at this
  exact this
 by_cases hl : s0.size < s1.size
 ·by_cases h1 : s0 = ⟨#[1]⟩
  ·subst h1
   have e : strOf (natOf ⟨#[1]⟩ * natOf s1) = s1 := by rw [natOf_one, Nat.one_mul, strOf_natOf o1]
   rw [e]
   exact lmul_swap1 s1 w (by have : (⟨#[1]⟩ : ByteArray).size = 1 := rfl; omega)
  ·have k := key s1 s0 o1 o0 z1 z0
   rw [Nat.mul_comm]
   exact lmul_swap s0 s1 _ _ w (by omega) (ne1 h1) (by omega) k
 ·by_cases h1 : s1 = ⟨#[1]⟩
  ·subst h1
   have e : strOf (natOf s0 * natOf ⟨#[1]⟩) = s0 := by rw [natOf_one, Nat.mul_one, strOf_natOf o0]
   rw [e]
   exact lmul_one s0 w (by have : (⟨#[1]⟩ : ByteArray).size = 1 := rfl; omega)
  ·exact lmul_walk s0 s1 _ _ w (by omega) (ne1 h1) (by omega) (key s0 s1 o0 o1 z0 z1)
theorem ladd_nat (s0 s1 : ByteArray) (w : World) (o0 : OkS s0) (o1 : OkS s1) (z0 : s0.size ≤ 16000) (z1 : s1.size ≤ 16000) :
  Calls Tryz.prog 185 #[.string s0, .string s1] w (Re w (.string (strOf (natOf s0 + natOf s1)))) := by
 refine ladd_walk s0 s1 _ (nfZ ((natOf s0 : Int) + (natOf s1 : Int))) w (by omega) (by omega) (fun w1 => ?_)
 have := zadd_ok false false s0 s1 w1 (okZ_false o0) (okZ_false o1) (by omega) (by omega)
 rw [zOf_f, zOf_f, zI_nz] at this
 have e : sfZ ((natOf s0 : Int) + (natOf s1 : Int)) = strOf (natOf s0 + natOf s1) := by unfold sfZ; rw [← Int.natCast_add]; rfl
 rw [e] at this
 exact this
theorem lsub_nat (s0 s1 : ByteArray) (w : World) (o0 : OkS s0) (o1 : OkS s1) (z0 : s0.size ≤ 16000) (z1 : s1.size ≤ 16000) (hle : natOf s1 ≤ natOf s0) :
  Calls Tryz.prog 191 #[.string s0, .string s1] w (Re w (.string (strOf (natOf s0 - natOf s1)))) := by
 refine lsub_walk s0 s1 _ (nfZ ((natOf s0 : Int) - (natOf s1 : Int))) w (by omega) (fun w1 => ?_)
 have := zsub_ok false false s0 s1 w1 (okZ_false o0) (okZ_false o1) (by omega) (by omega)
 rw [zOf_f, zOf_f, zI_nz] at this
 have e : sfZ ((natOf s0 : Int) - (natOf s1 : Int)) = strOf (natOf s0 - natOf s1) := by unfold sfZ; rw [← Int.ofNat_sub hle]; rfl
 rw [e] at this
 exact this
theorem ldivide_nat (s0 s1 : ByteArray) (w : World) (o0 : OkS s0) (o1 : OkS s1) (z0 : s0.size ≤ 16000) (z1 : s1.size ≤ 16000) (h : 0 < natOf s1) :
  Calls Tryz.prog 153 #[.string s0, .string s1] w (Re w (.tuple #[.string (strOf (natOf s0 / natOf s1)), .string (strOf (natOf s0 % natOf s1))])) := by
 refine ldivide_walk s0 s1 _ _ (nfZ ((natOf s0 : Int) / (natOf s1 : Int))) (nfZ ((natOf s0 : Int) % (natOf s1 : Int))) w (by omega) (fun w1 => ?_)
 have := zdiv_ok false false s0 s1 w1 (okZ_false o0) (okZ_false o1) (by omega) (by omega) h
 rw [zOf_f, zOf_f, zI_nz, zI_nz] at this
 exact this
theorem bytes_less : ∀ (x y : List UInt8), x.length = y.length → Op.bytesLess x y = decide (M.val 256 (x.map UInt8.toNat).reverse < M.val 256 (y.map UInt8.toNat).reverse)
 | [], [], _ => rfl
 | a :: x, b :: y, h => by
  have hl : x.length = y.length := by simpa using h
  have ih := bytes_less x y hl
  have hx := M.val_lt (b := 256) (by omega) (xs := (x.map UInt8.toNat).reverse) (Low_reverse (byts_low ⟨⟨x⟩⟩))
  have hy := M.val_lt (b := 256) (by omega) (xs := (y.map UInt8.toNat).reverse) (Low_reverse (byts_low ⟨⟨y⟩⟩))
  simp only [List.length_reverse, List.length_map, ← hl] at hx hy
  rw [List.map_cons, List.map_cons, List.reverse_cons, List.reverse_cons, M.val_snoc, M.val_snoc]
  simp only [List.length_reverse, List.length_map, ← hl]
  generalize M.val 256 (x.map UInt8.toNat).reverse = X at *
  generalize M.val 256 (y.map UInt8.toNat).reverse = Y at *
  generalize 256 ^ x.length = p at *
  unfold Op.bytesLess
  rw [ih]
  have la : a < b ↔ a.toNat < b.toNat := UInt8.lt_iff_toNat_lt
  have lb : a = b ↔ a.toNat = b.toNat := ⟨fun e => by rw [e], fun e => UInt8.toNat.inj e⟩
  generalize a.toNat = A at *
  generalize b.toNat = B at *
  rcases Nat.lt_trichotomy A B with c | c | c
  ·have e : p * (A + 1) ≤ p * B := Nat.mul_le_mul_left p c
   rw [Nat.mul_succ] at e
   rw [decide_eq_true (la.2 c), Bool.true_or, decide_eq_true (by omega)]
  ·have ha : ¬ a < b := fun q => by have := la.1 q; omega
   have hb : a = b := lb.2 c
   subst c
   rw [decide_eq_false ha, Bool.false_or, hb]
   simp
  ·have e : p * (B + 1) ≤ p * A := Nat.mul_le_mul_left p c
   rw [Nat.mul_succ] at e
   have ha : ¬ a < b := fun q => by have := la.1 q; omega
   have hb : ¬ a = b := fun q => by have := lb.1 q; omega
   rw [decide_eq_false ha, Bool.false_or, beq_eq_false_iff_ne.2 hb, Bool.false_and, decide_eq_false (by omega)]
theorem lless_nat (s0 s1 : ByteArray) (w : World) (o0 : OkS s0) (o1 : OkS s1) :
  Calls Tryz.prog 190 #[.string s0, .string s1] w (Re w (.bool (decide (natOf s0 < natOf s1)))) := by
 by_cases h : s0.size = s1.size
 ·refine (lless_walk s0 s1 w (by omega)).mono ?_
  rintro e w' ⟨rfl, rfl⟩
  refine ⟨?_, Below.refl _ _⟩
  rw [bytes_less _ _ (by rw [ByteArray.toList_eq, ByteArray.toList_eq]; exact h), ByteArray.toList_eq, ByteArray.toList_eq]
  rfl
 ·refine (lless_size s0 s1 w (by omega)).mono ?_
  rintro e w' ⟨rfl, rfl⟩
  refine ⟨?_, Below.refl _ _⟩
  have key : ∀ (x y : ByteArray), OkS y → x.size < y.size → natOf x < natOf y := fun x y oy hxy => by
   have h1 := natOf_lt x
   have h2 : 256 ^ x.size ≤ natOf y := by
    rcases Nat.lt_or_ge (natOf y) (256 ^ x.size) with c | c
    ·have := strOf_lt c
     rw [strOf_natOf oy] at this
     omega
    ·exact c
   omega
  rcases Nat.lt_or_ge s0.size s1.size with c | c
  ·rw [decide_eq_true c, decide_eq_true (key s0 s1 o1 c)]
  ·have := key s1 s0 o0 (by omega)
   rw [decide_eq_false (by omega), decide_eq_false (by omega)]
theorem lMul_any (x y : Int) (w : World) {K : Nat} (hK : K ≤ 16000) (bx : Bd x K) (bY : Bd y K) :
  Calls Tryz.prog 164 #[.agg #[.bool (nfZ x), .string (sfZ x)], .agg #[.bool (nfZ y), .string (sfZ y)]] w (Re w (.agg #[.bool (nfZ (x * y)), .string (sfZ (x * y))])) := by
 have H : Hid (∀ w1, Calls Tryz.prog 154 #[.string (sfZ x), .string (sfZ y)] w1 (Re w1 (.string (sfZ (x * y))))) := fun w1 => by
  have := lmul_nat (sfZ x) (sfZ y) w1 (okS_sfZ x) (okS_sfZ y) (Nat.le_trans bx.size hK) (Nat.le_trans bY.size hK)
  rw [natOf_sfZ, natOf_sfZ, ← Int.natAbs_mul] at this
  exact this
 by_cases h0 : x * y = 0
 ·have e1 : sfZ (x * y) = ⟨#[]⟩ := by rw [h0]; rfl
  have e2 : nfZ (x * y) = false := by rw [h0]; rfl
  rw [e1] at H
  rw [e1, e2]
  exact lMul_zero _ _ _ _ w H
 ·have e2 : nfZ (x * y) = (nfZ x != nfZ y) := by
   have hx : x ≠ 0 := fun e => h0 (by rw [e, Int.zero_mul])
   have hy : y ≠ 0 := fun e => h0 (by rw [e, Int.mul_zero])
   unfold nfZ
   rcases Int.lt_trichotomy x 0 with c | c | c
   ·rcases Int.lt_trichotomy y 0 with d | d | d
    ·have := Int.mul_pos_of_neg_of_neg c d
     rw [decide_eq_true c, decide_eq_true d, decide_eq_false (by omega)]; rfl
    ·exact absurd d hy
    ·have := Int.mul_neg_of_neg_of_pos c d
     rw [decide_eq_true c, decide_eq_false (show ¬ y < 0 by omega), decide_eq_true this]; rfl
   ·exact absurd c hx
   ·rcases Int.lt_trichotomy y 0 with d | d | d
    ·have := Int.mul_neg_of_pos_of_neg c d
     rw [decide_eq_false (show ¬ x < 0 by omega), decide_eq_true d, decide_eq_true this]; rfl
    ·exact absurd d hy
    ·have := Int.mul_pos c d
     rw [decide_eq_false (show ¬ x < 0 by omega), decide_eq_false (show ¬ y < 0 by omega), decide_eq_false (by omega)]; rfl
  rw [e2]
  refine lMul_some _ _ _ _ _ ?_ w H
  have hp : 0 < (sfZ (x * y)).size := strOf_pos (by omega)
  rw [ByteArray.toList_eq]
  generalize sfZ (x * y) = s at hp
  obtain ⟨⟨l⟩⟩ := s
  cases l with
  | nil => exact absurd hp (by decide)
  | cons _ _ => rfl
theorem bd_sf {z : Int} {K : Nat} (h : Bd z K) : (sfZ z).size ≤ K := h.size
theorem lAdd_any (x y : Int) (w : World) {K : Nat} (hK : K ≤ 16000) (bx : Bd x K) (bY : Bd y K) :
  Calls Tryz.prog 167 #[.agg #[.bool (nfZ x), .string (sfZ x)], .agg #[.bool (nfZ y), .string (sfZ y)]] w (Re w (.agg #[.bool (nfZ (x + y)), .string (sfZ (x + y))])) := by
 have z0 := Nat.le_trans (bd_sf bx) hK
 have z1 := Nat.le_trans (bd_sf bY) hK
 by_cases hn : nfZ x = nfZ y
 ·have H : Hid (∀ w1, Calls Tryz.prog 185 #[.string (sfZ x), .string (sfZ y)] w1 (Re w1 (.string (sfZ (x + y))))) := fun w1 => by
   have := ladd_nat (sfZ x) (sfZ y) w1 (okS_sfZ x) (okS_sfZ y) z0 z1
   rw [natOf_sfZ, natOf_sfZ] at this
   have e : strOf (x.natAbs + y.natAbs) = sfZ (x + y) := by
    unfold sfZ; congr 1
    unfold nfZ at hn
    by_cases c : x < 0
    ·rw [decide_eq_true c] at hn
     have := of_decide_eq_true hn.symm; omega
    ·rw [decide_eq_false c] at hn
     have := of_decide_eq_false hn.symm; omega
   rw [e] at this
   exact this
  have e : nfZ (x + y) = nfZ x := by
   unfold nfZ at hn ⊢
   by_cases c : x < 0
   ·rw [decide_eq_true c] at hn ⊢
    have := of_decide_eq_true hn.symm
    exact decide_eq_true (by omega)
   ·rw [decide_eq_false c] at hn ⊢
    have := of_decide_eq_false hn.symm
    exact decide_eq_false (by omega)
  rw [e]
  exact lAdd_like _ _ _ _ _ (by rw [hn]; exact beq_self_eq_true _) w H
 ·have hb : (nfZ x == nfZ y) = false := beq_eq_false_iff_ne.2 hn
  by_cases hs : sfZ x = sfZ y
  ·have hxy : x + y = 0 := by
    have e : x.natAbs = y.natAbs := by rw [← natOf_sfZ, hs, natOf_sfZ]
    rcases Int.natAbs_eq_natAbs_iff.1 e with c | c
    ·exact absurd (by rw [c]) hn
    ·omega
   rw [hxy]
   have := lAdd_null (nfZ x) (nfZ y) (sfZ x) hb w
   rw [← hs]
   exact this
  ·have hs' : ((sfZ x).toList == (sfZ y).toList) = false := by
    refine beq_eq_false_iff_ne.2 fun e => hs ?_
    rw [ByteArray.toList_eq, ByteArray.toList_eq] at e
    generalize sfZ x = X at *
    generalize sfZ y = Y at *
    obtain ⟨⟨l⟩⟩ := X
    obtain ⟨⟨m⟩⟩ := Y
    have e' : l = m := e
    rw [e']
   have HL : Hid (∀ w1, Calls Tryz.prog 190 #[.string (sfZ x), .string (sfZ y)] w1 (Re w1 (.bool (decide (x.natAbs < y.natAbs))))) := fun w1 => by
    have := lless_nat (sfZ x) (sfZ y) w1 (okS_sfZ x) (okS_sfZ y)
    rw [natOf_sfZ, natOf_sfZ] at this
    exact this
   have hne : x.natAbs ≠ y.natAbs := fun e => hs (by unfold sfZ; rw [e])
   have key : ∀ (u v : Int), nfZ u ≠ nfZ v → v.natAbs < u.natAbs → nfZ (u + v) = nfZ u ∧ (u + v).natAbs = u.natAbs - v.natAbs := fun u v hn hl => by
    unfold nfZ at hn ⊢
    by_cases c : u < 0
    ·by_cases d : v < 0
     ·rw [decide_eq_true c, decide_eq_true d] at hn; exact absurd rfl hn
     ·rw [decide_eq_true c]; exact ⟨decide_eq_true (by omega), by omega⟩
    ·by_cases d : v < 0
     ·rw [decide_eq_false c]; exact ⟨decide_eq_false (by omega), by omega⟩
     ·rw [decide_eq_false c, decide_eq_false d] at hn; exact absurd rfl hn
   by_cases hl : x.natAbs < y.natAbs
   ·rw [decide_eq_true hl] at HL
    obtain ⟨k1, k2⟩ := key y x (fun e => hn e.symm) hl
    rw [Int.add_comm y x] at k1 k2
    rw [k1]
    refine lAdd_less _ _ _ _ _ hb hs' w HL (fun w1 => ?_)
    have := lsub_nat (sfZ y) (sfZ x) w1 (okS_sfZ y) (okS_sfZ x) z1 z0 (by rw [natOf_sfZ, natOf_sfZ]; omega)
    rw [natOf_sfZ, natOf_sfZ, ← k2] at this
    exact this
   ·rw [decide_eq_false hl] at HL
    obtain ⟨k1, k2⟩ := key x y hn (by omega)
    rw [k1]
    refine lAdd_more _ _ _ _ _ hb hs' w HL (fun w1 => ?_)
    have := lsub_nat (sfZ x) (sfZ y) w1 (okS_sfZ x) (okS_sfZ y) z0 z1 (by rw [natOf_sfZ, natOf_sfZ]; omega)
    rw [natOf_sfZ, natOf_sfZ, ← k2] at this
    exact this
theorem lSub_any (x y : Int) (w : World) {K : Nat} (hK : K ≤ 16000) (bx : Bd x K) (bY : Bd y K) :
  Calls Tryz.prog 166 #[.agg #[.bool (nfZ x), .string (sfZ x)], .agg #[.bool (nfZ y), .string (sfZ y)]] w (Re w (.agg #[.bool (nfZ (x - y)), .string (sfZ (x - y))])) := by
 have H : Hid (∀ w1, Calls Tryz.prog 167 #[.agg #[.bool (nfZ x), .string (sfZ x)], .agg #[.bool (nfZ (-y)), .string (sfZ (-y))]] w1 (Re w1 (.agg #[.bool (nfZ (x - y)), .string (sfZ (x - y))]))) := fun w1 => by
  have := lAdd_any x (-y) w1 hK bx bY.neg
  rw [← Int.sub_eq_add_neg] at this
  exact this
 have es : sfZ (-y) = sfZ y := by unfold sfZ; rw [Int.natAbs_neg]
 rw [es] at H
 by_cases h0 : y = 0
 ·subst h0
  exact lSub_zero _ _ _ _ _ w H
 ·have en : nfZ (-y) = !nfZ y := by
   unfold nfZ
   by_cases c : y < 0
   ·rw [decide_eq_true c, decide_eq_false (by omega)]; rfl
   ·rw [decide_eq_false c, decide_eq_true (by omega)]; rfl
  rw [en] at H
  refine lSub_some _ _ _ _ _ _ ?_ w H
  have hp : 0 < (sfZ y).size := strOf_pos (by omega)
  rw [ByteArray.toList_eq]
  generalize sfZ y = s at hp
  obtain ⟨⟨l⟩⟩ := s
  cases l with
  | nil => exact absurd hp (by decide)
  | cons _ _ => rfl
def Cells (w : World) (g : Nat) (t : TypeId) (n : Nat) (f : Nat → Value) : Prop := ∃ cs : Array Value, w.heap[g]? = some (.cells cs t (0, 0)) ∧ cs.size = n ∧ ∀ i, i < n → cs[i]? = some (f i)
theorem Cells.cell {w : World} {g n : Nat} {t : TypeId} {f : Nat → Value} (h : Cells w g t n f) {i : Nat} (hi : i < n) : w.cell? ⟨g, i, none⟩ = some (f i) := by
 obtain ⟨cs, h1, h2, h3⟩ := h
 simp [World.cell?, h1, h3 i hi]
theorem Cells.frozen {w : World} {g n : Nat} {t : TypeId} {f : Nat → Value} (h : Cells w g t n f) (i : Nat) : w.frozen? ⟨g, i, none⟩ = false := by
 obtain ⟨cs, h1, h2, h3⟩ := h
 simp [World.frozen?, h1]
theorem Cells.lt {w : World} {g n : Nat} {t : TypeId} {f : Nat → Value} (h : Cells w g t n f) : g < w.heap.size := by
 obtain ⟨cs, h1, -⟩ := h
 by_cases hg : g < w.heap.size
 ·exact hg
 ·rw [Array.getElem?_eq_none (by omega)] at h1; cases h1
theorem Cells.below {w w' : World} {g n : Nat} {t : TypeId} {f : Nat → Value} (h : Cells w g t n f) (hb : Below w.heap.size w w') : Cells w' g t n f := by
 have hl := h.lt
 obtain ⟨cs, h1, h2, h3⟩ := h
 exact ⟨cs, by rw [hb.block g hl]; exact h1, h2, h3⟩
theorem Cells.alloc {w : World} {g n : Nat} {t : TypeId} {f : Nat → Value} (h : Cells w g t n f) (o : Obj) : Cells (w.alloc o) g t n f := h.below ((Below.refl _ _).alloc (Nat.le_refl _) o)
theorem Cells.other {w : World} {g g' n : Nat} {t : TypeId} {f : Nat → Value} (h : Cells w g t n f) (hne : g ≠ g') (j : Nat) (v : Value) : Cells (w.setCell ⟨g', j, none⟩ v) g t n f := by
 obtain ⟨cs, h1, h2, h3⟩ := h
 exact ⟨cs, by rw [Below.heap_setCell _ _ _ _ (by exact hne)]; exact h1, h2, h3⟩
theorem Cells.set {w : World} {g n : Nat} {t : TypeId} {f : Nat → Value} (h : Cells w g t n f) (j : Nat) (v : Value) : Cells (w.setCell ⟨g, j, none⟩ v) g t n (fun i => if i = j then v else f i) := by
 obtain ⟨cs, h1, h2, h3⟩ := h
 refine ⟨cs.setIfInBounds j v, by simp [World.setCell, Array.getElem?_modify, h1], by simp [h2], fun i hi => ?_⟩
 show _ = some (if i = j then v else f i)
 by_cases e : i = j
 ·subst e
  rw [if_pos rfl]
  simp [h2, hi]
 ·rw [if_neg e, Array.getElem?_setIfInBounds_ne (fun q => e q.symm)]
  exact h3 i hi
theorem Cells.congr {w : World} {g n : Nat} {t : TypeId} {f f' : Nat → Value} (h : Cells w g t n f) (he : ∀ i, i < n → f i = f' i) : Cells w g t n f' := by
 obtain ⟨cs, h1, h2, h3⟩ := h
 exact ⟨cs, h1, h2, fun i hi => by rw [← he i hi]; exact h3 i hi⟩
def fz (z : Nat → Int) (i : Nat) : Value := if i % 2 = 0 then .bool (nfZ (z (i / 2))) else .string (sfZ (z (i / 2)))
theorem fz_0 (z : Nat → Int) (j : Nat) : fz z (j * 2) = .bool (nfZ (z j)) := by
 unfold fz
 rw [if_pos (by omega), show j * 2 / 2 = j by omega]
theorem fz_1 (z : Nat → Int) (j : Nat) : fz z (j * 2 + 1) = .string (sfZ (z j)) := by
 unfold fz
 rw [if_neg (by omega), show (j * 2 + 1) / 2 = j by omega]
theorem Cells.z0 {w : World} {g n : Nat} {t : TypeId} {z : Nat → Int} (h : Cells w g t (n * 2) (fz z)) {j : Nat} (hj : j < n) : w.cell? ⟨g, j * 2, none⟩ = some (.bool (nfZ (z j))) := by
 rw [h.cell (by omega), fz_0]
theorem Cells.z1 {w : World} {g n : Nat} {t : TypeId} {z : Nat → Int} (h : Cells w g t (n * 2) (fz z)) {j : Nat} (hj : j < n) : w.cell? ⟨g, j * 2 + 1, none⟩ = some (.string (sfZ (z j))) := by
 rw [h.cell (by omega), fz_1]
def upZ (z : Nat → Int) (j : Nat) (x : Int) : Nat → Int := fun i => if i = j then x else z i
theorem Cells.putZ {w : World} {g n : Nat} {t : TypeId} {z : Nat → Int} (h : Cells w g t (n * 2) (fz z)) (j : Nat) (x : Int) : Cells ((w.setCell ⟨g, j * 2, none⟩ (.bool (nfZ x))).setCell ⟨g, j * 2 + 1, none⟩ (.string (sfZ x))) g t (n * 2) (fz (upZ z j x)) := by
 refine ((h.set (j * 2) _).set (j * 2 + 1) _).congr fun i hi => ?_
 show (if i = j * 2 + 1 then _ else if i = j * 2 then _ else _) = _
 by_cases e1 : i = j * 2 + 1
 ·subst e1
  rw [if_pos rfl, fz_1]; unfold upZ; rw [if_pos rfl]
 ·rw [if_neg e1]
  by_cases e0 : i = j * 2
  ·subst e0
   rw [if_pos rfl, fz_0]; unfold upZ; rw [if_pos rfl]
  ·rw [if_neg e0]
   have hij : ¬ i / 2 = j := by omega
   unfold fz upZ
   simp only [if_neg hij]
theorem cellsZ0 : Value.cells (.agg #[.bool false, .string { data := #[] }]) = #[.bool false, .string { data := #[] }] := by kernel_rfl
theorem run_mkZ (n : Nat) (hn : n ≤ 1000000) (w : World) :
  ∃ w', (Instr.makeSlice 105 (.int .i64 n) (.int .i64 n)).run Tryz.prog w = .ok (.slice (some ⟨w.heap.size, 0, none⟩) n n) w' ∧ Cells w' w.heap.size 24 (n * 2) (fz fun _ => 0) ∧ Below w.heap.size w w' := by
 obtain ⟨i0, hi, hz0, hz1, hz2⟩ := info_parts (show (Tryz.prog.info? 24).map (fun i => (i.zero, i.size, i.bytes)) = some (some (.agg #[.bool false, .string ⟨#[]⟩]), 2, 24) by kernel_rfl)
 have h := run_make (P := Tryz.prog) w 105 24 i0 (.agg #[.bool false, .string ⟨#[]⟩]) Tryz.underlying105 hi hz0 .i64 .i64 n n (by omega) (by omega) (by rw [hz2]; omega) (by omega)
 rw [hz1, cellsZ0, Int.toNat_natCast] at h
 refine ⟨_, h, ⟨_, heap_alloc_new w _, size_madeCells _ _, fun i hi => ?_⟩, (Below.refl _ _).alloc (Nat.le_refl _) _⟩
 have e : (madeCells #[Value.bool false, .string { data := #[] }] (n * 2))[i]? = some (#[Value.bool false, .string { data := #[] }][i % 2]!) := by
  simp [madeCells, hi]
 rw [e]
 unfold fz
 by_cases e0 : i % 2 = 0
 ·rw [if_pos e0, e0]; rfl
 ·rw [if_neg e0, show i % 2 = 1 by omega]; rfl
theorem wpList_mkZ {w : World} {ops : Array Oper} {rest : List Oper} {o : Oper} {a : Act} {Q : Exit → Act → World → Prop}
  (hg : o.guard = none) (l c : Operand) (hop : o.op = Op.makeSlice 105 l c) (L : Int) (n : Nat) (hl : a.eval l = .int .i64 L) (hc : a.eval c = .int .i64 L) (hL : L = (n : Int)) (hn : n ≤ 1000000)
  (hK : ∀ w1, Cells w1 w.heap.size 24 (n * 2) (fz fun _ => 0) → Below w.heap.size w w1 → wpList Tryz.prog ops Q rest (a.put o.dst (.slice (some ⟨w.heap.size, 0, none⟩) n n)) w1) :
  wpList Tryz.prog ops Q (o :: rest) a w := by
 refine wpList_plain hg fun K hK' => ?_
 subst hL
 obtain ⟨w', hrun, hc', hb⟩ := run_mkZ n hn w
 unfold Oper.wp
 simp [execOp, hop, hl, hc, hrun, Result.andThen]
 exact hK' _ _ (hK _ hc' hb)
def pex (d : ByteArray) : List ByteArray → Nat
 | [] => 1
 | x :: l => if x = d then pex d l else natOf x * pex d l
theorem pex_append (d : ByteArray) (l m : List ByteArray) : pex d (l ++ m) = pex d l * pex d m := by
 induction l with
 | nil => simp [pex]
 | cons x l ih =>
  show (if x = d then pex d (l ++ m) else natOf x * pex d (l ++ m)) = (if x = d then pex d l else natOf x * pex d l) * pex d m
  by_cases e : x = d
  ·rw [if_pos e, if_pos e, ih]
  ·rw [if_neg e, if_neg e, ih, Nat.mul_assoc]
theorem pex_take_succ (d : ByteArray) {L : List ByteArray} {k : Nat} (h : k < L.length) : pex d (L.take (k + 1)) = pex d (L.take k) * (if nt L k = d then 1 else natOf (nt L k)) := by
 rw [List.take_add_one, List.getElem?_eq_getElem h, pex_append]
 congr 1
 unfold nt
 rw [List.getD_eq_getElem?_getD, List.getElem?_eq_getElem h]
 simp [pex]
theorem bd_pex {d : ByteArray} {k : Nat} : ∀ {L : List ByteArray}, (∀ x ∈ L, x.size ≤ k) → Bd (pex d L : Int) (k * L.length + 1)
 | [], _ => by show (1 : Int).natAbs < 256 ^ (k * 0 + 1); simp
 | x :: l, h => by
  have ih := bd_pex (d := d) (L := l) (fun y hy => h y (by simp [hy]))
  show Bd ((if x = d then pex d l else natOf x * pex d l : Nat) : Int) (k * (l.length + 1) + 1)
  by_cases e : x = d
  ·rw [if_pos e]; exact ih.mono (Nat.succ_le_succ (Nat.mul_le_mul_left k (by omega)))
  ·rw [if_neg e, Int.natCast_mul, Nat.mul_succ, show k * l.length + k + 1 = k + (k * l.length + 1) by omega]
   exact Bd.mul (bd_zOf (n := false) (h x (by simp))) ih
def clr (q : Nat → Rat) (L : List ByteArray) (k : Nat) : Nat → Int := fun j => if j < k then (q j).num * (pex (strOf (q j).den) L : Nat) else 0
def clm (q : Nat → Rat) (L : List ByteArray) (k m : Nat) : Nat → Int := upZ (clr q L k) k ((q k).num * (pex (strOf (q k).den) (L.take m) : Nat))
theorem clm_all (q : Nat → Rat) (L : List ByteArray) (k : Nat) : clm q L k L.length = clr q L (k + 1) := by
 funext j
 unfold clm upZ clr
 rw [List.take_of_length_le (Nat.le_refl _)]
 by_cases e : j = k
 ·subst e; rw [if_pos rfl, if_pos (by omega)]
 ·rw [if_neg e]
  by_cases c : j < k
  ·rw [if_pos c, if_pos (by omega)]
  ·rw [if_neg c, if_neg (by omega)]
theorem upZ_up (z : Nat → Int) (k : Nat) (x y : Int) : upZ (upZ z k x) k y = upZ z k y := by
 funext j
 unfold upZ
 by_cases e : j = k
 ·rw [if_pos e, if_pos e]
 ·rw [if_neg e, if_neg e, if_neg e]
theorem upZ_at (z : Nat → Int) (k : Nat) (x : Int) : upZ z k x k = x := by unfold upZ; rw [if_pos rfl]
theorem nfZ_nat (m : Nat) : nfZ (m : Int) = false := by unfold nfZ; exact decide_eq_false (by omega)
theorem cleared_any (a : Option Addr) (n cap : Nat) (q : Nat → Rat) (vd : Value) (L : List ByteArray) (w : World) (hn : n ≤ 1000) (h : RdQ w a n (fun j => nfZ (q j).num) (fun j => sfZ (q j).num) (fun j => strOf (q j).den)) (hv : RdS w vd L) (hL : L.length ≤ 40) (ho : ∀ x ∈ L, OkS x ∧ x.size ≤ 170) (hb : ∀ j, j < n → Bd (q j).num 170) :
  Calls Tryz.prog 131 #[.slice a n cap, vd] w fun e w' => ∃ g, e = .returned (.slice (some ⟨g, 0, none⟩) n n) ∧ Cells w' g 24 (n * 2) (fz (clr q L n)) ∧ w.heap.size ≤ g ∧ Below w.heap.size w w' := by
 obtain ⟨ad, capd, rfl, -, -⟩ := id hv
 replace h := shut h
 replace hv := shut hv
 replace ho := shut ho
 replace hb := shut hb
 have HM : Hid (∀ (x y : Int) (w1 : World), Bd x 8081 → Bd y 8081 → Calls Tryz.prog 164 #[.agg #[.bool (nfZ x), .string (sfZ x)], .agg #[.bool (nfZ y), .string (sfZ y)]] w1 (Re w1 (.agg #[.bool (nfZ (x * y)), .string (sfZ (x * y))]))) := fun x y w1 bx bY => lMul_any x y w1 (by omega) bx bY
 generalize hM : L.length = m at *
 go_enter Tryz.func131, Tryz.ntmps131
 go_wp2_with (at_make; refine wpList_mkZ rfl _ _ rfl _ n rfl rfl (by omega) (by omega) ?_; intro w1 k1 b1)
 have K1 : Hid (Cells w1 w.heap.size 24 (n * 2) (fz (clr q L 0))) := by
  show Cells _ _ _ _ _
  refine k1.congr fun i hi => ?_
  unfold fz clr
  simp
 clear k1
 go_loopw [15] (fun i wr => ∃ k : Nat, k ≤ n ∧ i = .int .i64 k ∧ Cells wr w.heap.size 24 (n * 2) (fz (clr q L k)) ∧ Below w.heap.size w wr) (fun i _ => n - (intOf i).toNat)
 case atStart => exact ⟨0, by omega, rfl, K1.out, b1⟩
 case round =>
  clear K1 b1
  obtain ⟨k, hk, rfl, kg, bb⟩ := hrel
  by_cases hkn : k < n
  ·obtain ⟨b, off, rfl, h0, h1, h2⟩ := h.out.below bb k hkn
   have hne : Hid (¬ wr.heap.size = w.heap.size) := by have := kg.lt; show ¬ _; omega
   have c0 := (kg.alloc (.cells #[.bool (nfZ (q k).num), .string (sfZ (q k).num), .string (strOf (q k).den)] 26)).z0 hkn
   have c1 := (kg.alloc (.cells #[.bool (nfZ (q k).num), .string (sfZ (q k).num), .string (strOf (q k).den)] 26)).z1 hkn
   have f0 := (kg.alloc (.cells #[.bool (nfZ (q k).num), .string (sfZ (q k).num), .string (strOf (q k).den)] 26)).frozen (k * 2)
   have f1 := (kg.alloc (.cells #[.bool (nfZ (q k).num), .string (sfZ (q k).num), .string (strOf (q k).den)] 26)).frozen (k * 2 + 1)
   go_wp2_with fail
   obtain ⟨w2, hw⟩ : ∃ x, x = ((wr.alloc (.cells #[.bool (nfZ (q k).num), .string (sfZ (q k).num), .string (strOf (q k).den)] 26)).setCell ⟨w.heap.size, k * 2, none⟩ (.bool (nfZ (q k).num))).setCell ⟨w.heap.size, k * 2 + 1, none⟩ (.string (sfZ (q k).num)) := ⟨_, rfl⟩
   rw [← hw]
   have kz : Cells w2 w.heap.size 24 (n * 2) (fz (clm q L k 0)) := by
    have := (kg.alloc (.cells #[.bool (nfZ (q k).num), .string (sfZ (q k).num), .string (strOf (q k).den)] 26)).putZ k (q k).num
    rw [← hw] at this
    unfold clm
    rw [show (q k).num * ((pex (strOf (q k).den) (L.take 0) : Nat) : Int) = (q k).num by simp [pex]]
    exact this
   have kp : Cel w2 wr.heap.size [.bool (nfZ (q k).num), .string (sfZ (q k).num), .string (strOf (q k).den)] 26 := by
    rw [hw]
    exact ((Cel.new wr [.bool (nfZ (q k).num), .string (sfZ (q k).num), .string (strOf (q k).den)] 26).other hne.out _ _).other hne.out _ _
   have b2 : Below w.heap.size w w2 := by
    rw [hw]
    exact bset (bset (ba bb _) (Nat.le_refl _) _ _) (Nat.le_refl _) _ _
   clear hw c0 c1 f0 f1 h0 h1 h2 kg bb
   generalize wr.heap.size = p at *
   go_loopw [27] (fun i wi => ∃ l : Nat, l ≤ m ∧ i = .int .i64 l ∧ Cells wi w.heap.size 24 (n * 2) (fz (clm q L k l)) ∧ Cel wi p [.bool (nfZ (q k).num), .string (sfZ (q k).num), .string (strOf (q k).den)] 26 ∧ Below w.heap.size w wi) (fun i _ => m - (intOf i).toNat)
   case atStart => exact ⟨0, by omega, rfl, kz, kp, b2⟩
   case round =>
    clear kz kp b2
    obtain ⟨l, hl, rfl, kz, kp, bb⟩ := hrel
    by_cases hlm : l < m
    ·have hlL : l < L.length := by omega
     obtain ⟨ad', capd', e', -, hc⟩ := hv.out.below bb
     simp only [Value.slice.injEq] at e'
     obtain ⟨rfl, -, rfl⟩ := e'
     obtain ⟨bd, offd, rfl, d0⟩ := hc l (by omega)
     clear hc
     have p2 := cel3_2 kp
     have z0 := kz.z0 hkn
     have z1 := kz.z1 hkn
     have g0 := kz.frozen (k * 2)
     have g1 := kz.frozen (k * 2 + 1)
     have hp := pex_take_succ (strOf (q k).den) hlL
     by_cases he : nt L l = strOf (q k).den
     ·have he' : ((nt L l).toList == (strOf (q k).den).toList) = true := by rw [he]; exact beq_self_eq_true _
      have kz' : Hid (Cells wr w.heap.size 24 (n * 2) (fz (clm q L k (l + 1)))) := by
       show Cells _ _ _ _ _
       unfold clm at kz ⊢
       rw [hp, if_pos he, Nat.mul_one]
       exact kz
      clear he hp z0 z1 g0 g1
      go_wp2
      exact ⟨⟨l + 1, by omega, by go_num, kz'.out, kp, bb⟩, by simp [intOf]; omega⟩
     ·have he' : ((nt L l).toList == (strOf (q k).den).toList) = false := by rw [toList_eq_iff]; exact decide_eq_false he
      have ed : clm q L k l k = (q k).num * ((pex (strOf (q k).den) (L.take l) : Nat) : Int) := upZ_at _ _ _
      obtain ⟨x, hx⟩ : ∃ x, x = clm q L k l k := ⟨_, rfl⟩
      obtain ⟨y, hy⟩ : ∃ y : Int, y = ((natOf (nt L l) : Nat) : Int) := ⟨_, rfl⟩
      have od := ho.out _ (nt_mem hlL)
      have bx : Bd x 8081 := by
       rw [hx, ed]
       have := (Bd.mul (hb.out k hkn) (bd_pex (d := strOf (q k).den) (k := 170) (L := L.take l) (fun u hu => (ho.out u (List.mem_of_mem_take hu)).2)))
       refine this.mono ?_
       rw [List.length_take]
       omega
      have bY : Bd y 8081 := by rw [hy]; exact (bd_zOf (n := false) od.2).mono (by omega)
      have HX := shut (fun w1 => HM.out x y w1 bx bY)
      have ey : nfZ y = false ∧ sfZ y = nt L l := by rw [hy]; exact ⟨nfZ_nat _, strOf_natOf od.1⟩
      rw [ey.1, ey.2] at HX
      have ez : Hid (upZ (clm q L k l) k (x * y) = clm q L k (l + 1)) := by
       show _ = _
       rw [hx, ed, hy]
       unfold clm
       rw [upZ_up, hp, if_neg he, Int.natCast_mul, Int.mul_assoc]
      rw [← hx] at z0 z1
      clear hx hy ed bx bY ey he hp od
      go_wp2_with fail
      go_fit (HX.out _)
      rintro e w3 ⟨rfl, b1⟩
      replace kz := kz.below b1
      replace kp := kp.below b1
      replace bb := Below.after bb b1
      clear b1 z0 z1 g0 g1 p2 d0
      have z0 := kz.z0 hkn
      have z1 := kz.z1 hkn
      have g0 := kz.frozen (k * 2)
      have g1 := kz.frozen (k * 2 + 1)
      go_wp2
      refine ⟨⟨l + 1, by omega, by go_num, ?_, (kp.other hne.out _ _).other hne.out _ _, bset (bset bb (Nat.le_refl _) _ _) (Nat.le_refl _) _ _⟩, by simp [intOf]; omega⟩
      rw [← ez.out]
      exact kz.putZ k (x * y)
    ·obtain rfl : l = m := by omega
     have kz' : Hid (Cells wr w.heap.size 24 (n * 2) (fz (clr q L (k + 1)))) := by
      show Cells _ _ _ _ _
      rw [← hM, clm_all] at kz
      exact kz
     clear kz
     go_wp2
     exact ⟨⟨k + 1, by omega, by go_num, kz'.out, bb⟩, by simp [intOf]; omega⟩
  ·obtain rfl : k = n := by omega
   go_wp2
   go_ret
   exact ⟨w.heap.size, rfl, kg, by omega, bb⟩
theorem reckon_sum (n0 n1 pN : Bool) (s0 d0 s1 d1 pS qS : ByteArray) (EE : Int) (w : World)
  (HC : Hid (∀ (B : Nat) (w1 : World), Below w.heap.size w w1 → Cel w1 B [.bool n0, .string s0, .string d0, .bool n1, .string s1, .string d1] 26 → Calls Tryz.prog 133 #[.slice (some ⟨B, 0, none⟩) 2 2] w1 (Re w1 (.int .i64 0))))
  (H1 : Hid (∀ w1, Below w.heap.size w w1 → Calls Tryz.prog 135 #[.agg #[.bool n0, .string s0, .string d0], .agg #[.bool n1, .string s1, .string d1]] w1 (Re w1 (.tuple #[.agg #[.bool pN, .string pS, .string qS], .int .i64 EE])))) :
  Calls Tryz.prog 97 #[.agg #[.bool n0, .string s0, .string d0], .agg #[.bool n1, .string s1, .string d1], .func (.func 135) #[] #[]] w (Re w (.tuple #[.agg #[.bool pN, .string pS, .string qS], .int .i64 EE])) := by
 go_enter Tryz.func97, Tryz.ntmps97
 go_wp2_with fail
 obtain ⟨w1, hw, ka, kb, kr, kl, b1⟩ := mk4 w [.bool n0, .string s0, .string d0] [.bool n1, .string s1, .string d1] [.bool false, .string { data := #[] }, .string { data := #[] }] [.bool n0, .string s0, .string d0, .bool n1, .string s1, .string d1] 26 26 26 26
 rw [← hw]
 clear hw
 have sz := b1.size
 have ta := ka.lt
 have tb := kb.lt
 have tr := kr.lt
 have tl := kl.lt
 have bb := b1
 clear b1
 go_fit (HC.out _ _ bb kl)
 rintro e w2 ⟨rfl, b1⟩
 have sz := b1.size
 replace ka := ka.below b1
 replace kb := kb.below b1
 replace kr := kr.below b1
 replace kl := kl.below b1
 replace bb := Below.after bb b1
 clear b1
 clear kl
 obtain ⟨ca_0, ca_1, ca_2⟩ := xk3 ka
 obtain ⟨cb_3, cb_4, cb_5⟩ := xk3 kb
 go_wp2_with fail
 clear ca_0 ca_1 ca_2 cb_3 cb_4 cb_5
 go_fit (H1.out _ bb)
 rintro e w3 ⟨rfl, b1⟩
 have sz := b1.size
 replace ka := ka.below b1
 replace kb := kb.below b1
 replace kr := kr.below b1
 replace bb := Below.after bb b1
 clear b1
 have cr_0 := cel3_0 kr
 have fr_1 := Cel.frozen kr 0
 have cr_2 := cel3_1 kr
 have fr_3 := Cel.frozen kr 1
 have cr_4 := cel3_2 kr
 have fr_5 := Cel.frozen kr 2
 go_wp2
 exact post_q1 (p := 6) (u := 7) (v := .int .i64 EE) (by kernel_rfl) rfl rfl rfl (((kr.set 0 _).set 1 _).set 2 _) ⟨rfl, bset (bset (bset bb (by omega) 0 _) (by omega) 1 _) (by omega) 2 _⟩
theorem add_walk (n0 n1 pN : Bool) (s0 d0 s1 d1 pS qS : ByteArray) (EE : Int) (w : World)
  (H1 : Hid (∀ w1, Below w.heap.size w w1 → Calls Tryz.prog 97 #[.agg #[.bool n0, .string s0, .string d0], .agg #[.bool n1, .string s1, .string d1], .func (.func 135) #[] #[]] w1 (Re w1 (.tuple #[.agg #[.bool pN, .string pS, .string qS], .int .i64 EE])))) :
  Calls Tryz.prog 100 #[.agg #[.bool n0, .string s0, .string d0], .agg #[.bool n1, .string s1, .string d1]] w (Re w (.tuple #[.agg #[.bool pN, .string pS, .string qS], .int .i64 EE])) := by
 go_enter Tryz.func100, Tryz.ntmps100
 go_wp2_with fail
 go_fit (H1.out _ (ba (ba (ba (Below.refl _ _) _) _) _))
 rintro e w1 ⟨rfl, b1⟩
 obtain ⟨ka, kb, kr, b1⟩ := al3 b1
 have sz := b1.size
 have bb := b1
 clear b1
 have ta := ka.lt
 have tb := kb.lt
 have tr := kr.lt
 have cr_0 := cel3_0 kr
 have fr_1 := Cel.frozen kr 0
 have cr_2 := cel3_1 kr
 have fr_3 := Cel.frozen kr 1
 have cr_4 := cel3_2 kr
 have fr_5 := Cel.frozen kr 2
 go_wp2
 exact post_q1 (p := 4) (u := 5) (v := .int .i64 EE) (by kernel_rfl) rfl rfl rfl (((kr.set 0 _).set 1 _).set 2 _) ⟨rfl, bset (bset (bset bb (by omega) 0 _) (by omega) 1 _) (by omega) 2 _⟩
theorem reckon_difference (n0 n1 pN : Bool) (s0 d0 s1 d1 pS qS : ByteArray) (EE : Int) (w : World)
  (HC : Hid (∀ (B : Nat) (w1 : World), Below w.heap.size w w1 → Cel w1 B [.bool n0, .string s0, .string d0, .bool n1, .string s1, .string d1] 26 → Calls Tryz.prog 133 #[.slice (some ⟨B, 0, none⟩) 2 2] w1 (Re w1 (.int .i64 0))))
  (H1 : Hid (∀ w1, Below w.heap.size w w1 → Calls Tryz.prog 128 #[.agg #[.bool n0, .string s0, .string d0], .agg #[.bool n1, .string s1, .string d1]] w1 (Re w1 (.tuple #[.agg #[.bool pN, .string pS, .string qS], .int .i64 EE])))) :
  Calls Tryz.prog 97 #[.agg #[.bool n0, .string s0, .string d0], .agg #[.bool n1, .string s1, .string d1], .func (.func 128) #[] #[]] w (Re w (.tuple #[.agg #[.bool pN, .string pS, .string qS], .int .i64 EE])) := by
 go_enter Tryz.func97, Tryz.ntmps97
 go_wp2_with fail
 obtain ⟨w1, hw, ka, kb, kr, kl, b1⟩ := mk4 w [.bool n0, .string s0, .string d0] [.bool n1, .string s1, .string d1] [.bool false, .string { data := #[] }, .string { data := #[] }] [.bool n0, .string s0, .string d0, .bool n1, .string s1, .string d1] 26 26 26 26
 rw [← hw]
 clear hw
 have sz := b1.size
 have ta := ka.lt
 have tb := kb.lt
 have tr := kr.lt
 have tl := kl.lt
 have bb := b1
 clear b1
 go_fit (HC.out _ _ bb kl)
 rintro e w2 ⟨rfl, b1⟩
 have sz := b1.size
 replace ka := ka.below b1
 replace kb := kb.below b1
 replace kr := kr.below b1
 replace kl := kl.below b1
 replace bb := Below.after bb b1
 clear b1
 clear kl
 obtain ⟨ca_0, ca_1, ca_2⟩ := xk3 ka
 obtain ⟨cb_3, cb_4, cb_5⟩ := xk3 kb
 go_wp2_with fail
 clear ca_0 ca_1 ca_2 cb_3 cb_4 cb_5
 go_fit (H1.out _ bb)
 rintro e w3 ⟨rfl, b1⟩
 have sz := b1.size
 replace ka := ka.below b1
 replace kb := kb.below b1
 replace kr := kr.below b1
 replace bb := Below.after bb b1
 clear b1
 have cr_0 := cel3_0 kr
 have fr_1 := Cel.frozen kr 0
 have cr_2 := cel3_1 kr
 have fr_3 := Cel.frozen kr 1
 have cr_4 := cel3_2 kr
 have fr_5 := Cel.frozen kr 2
 go_wp2
 exact post_q1 (p := 6) (u := 7) (v := .int .i64 EE) (by kernel_rfl) rfl rfl rfl (((kr.set 0 _).set 1 _).set 2 _) ⟨rfl, bset (bset (bset bb (by omega) 0 _) (by omega) 1 _) (by omega) 2 _⟩
theorem sub_walk (n0 n1 pN : Bool) (s0 d0 s1 d1 pS qS : ByteArray) (EE : Int) (w : World)
  (H1 : Hid (∀ w1, Below w.heap.size w w1 → Calls Tryz.prog 97 #[.agg #[.bool n0, .string s0, .string d0], .agg #[.bool n1, .string s1, .string d1], .func (.func 128) #[] #[]] w1 (Re w1 (.tuple #[.agg #[.bool pN, .string pS, .string qS], .int .i64 EE])))) :
  Calls Tryz.prog 92 #[.agg #[.bool n0, .string s0, .string d0], .agg #[.bool n1, .string s1, .string d1]] w (Re w (.tuple #[.agg #[.bool pN, .string pS, .string qS], .int .i64 EE])) := by
 go_enter Tryz.func92, Tryz.ntmps92
 go_wp2_with fail
 go_fit (H1.out _ (ba (ba (ba (Below.refl _ _) _) _) _))
 rintro e w1 ⟨rfl, b1⟩
 obtain ⟨ka, kb, kr, b1⟩ := al3 b1
 have sz := b1.size
 have bb := b1
 clear b1
 have ta := ka.lt
 have tb := kb.lt
 have tr := kr.lt
 have cr_0 := cel3_0 kr
 have fr_1 := Cel.frozen kr 0
 have cr_2 := cel3_1 kr
 have fr_3 := Cel.frozen kr 1
 have cr_4 := cel3_2 kr
 have fr_5 := Cel.frozen kr 2
 go_wp2
 exact post_q1 (p := 4) (u := 5) (v := .int .i64 EE) (by kernel_rfl) rfl rfl rfl (((kr.set 0 _).set 1 _).set 2 _) ⟨rfl, bset (bset (bset bb (by omega) 0 _) (by omega) 1 _) (by omega) 2 _⟩
theorem reckon_product (n0 n1 pN : Bool) (s0 d0 s1 d1 pS qS : ByteArray) (EE : Int) (w : World)
  (HC : Hid (∀ (B : Nat) (w1 : World), Below w.heap.size w w1 → Cel w1 B [.bool n0, .string s0, .string d0, .bool n1, .string s1, .string d1] 26 → Calls Tryz.prog 133 #[.slice (some ⟨B, 0, none⟩) 2 2] w1 (Re w1 (.int .i64 0))))
  (H1 : Hid (∀ w1, Below w.heap.size w w1 → Calls Tryz.prog 134 #[.agg #[.bool n0, .string s0, .string d0], .agg #[.bool n1, .string s1, .string d1]] w1 (Re w1 (.tuple #[.agg #[.bool pN, .string pS, .string qS], .int .i64 EE])))) :
  Calls Tryz.prog 97 #[.agg #[.bool n0, .string s0, .string d0], .agg #[.bool n1, .string s1, .string d1], .func (.func 134) #[] #[]] w (Re w (.tuple #[.agg #[.bool pN, .string pS, .string qS], .int .i64 EE])) := by
 go_enter Tryz.func97, Tryz.ntmps97
 go_wp2_with fail
 obtain ⟨w1, hw, ka, kb, kr, kl, b1⟩ := mk4 w [.bool n0, .string s0, .string d0] [.bool n1, .string s1, .string d1] [.bool false, .string { data := #[] }, .string { data := #[] }] [.bool n0, .string s0, .string d0, .bool n1, .string s1, .string d1] 26 26 26 26
 rw [← hw]
 clear hw
 have sz := b1.size
 have ta := ka.lt
 have tb := kb.lt
 have tr := kr.lt
 have tl := kl.lt
 have bb := b1
 clear b1
 go_fit (HC.out _ _ bb kl)
 rintro e w2 ⟨rfl, b1⟩
 have sz := b1.size
 replace ka := ka.below b1
 replace kb := kb.below b1
 replace kr := kr.below b1
 replace kl := kl.below b1
 replace bb := Below.after bb b1
 clear b1
 clear kl
 obtain ⟨ca_0, ca_1, ca_2⟩ := xk3 ka
 obtain ⟨cb_3, cb_4, cb_5⟩ := xk3 kb
 go_wp2_with fail
 clear ca_0 ca_1 ca_2 cb_3 cb_4 cb_5
 go_fit (H1.out _ bb)
 rintro e w3 ⟨rfl, b1⟩
 have sz := b1.size
 replace ka := ka.below b1
 replace kb := kb.below b1
 replace kr := kr.below b1
 replace bb := Below.after bb b1
 clear b1
 have cr_0 := cel3_0 kr
 have fr_1 := Cel.frozen kr 0
 have cr_2 := cel3_1 kr
 have fr_3 := Cel.frozen kr 1
 have cr_4 := cel3_2 kr
 have fr_5 := Cel.frozen kr 2
 go_wp2
 exact post_q1 (p := 6) (u := 7) (v := .int .i64 EE) (by kernel_rfl) rfl rfl rfl (((kr.set 0 _).set 1 _).set 2 _) ⟨rfl, bset (bset (bset bb (by omega) 0 _) (by omega) 1 _) (by omega) 2 _⟩
theorem mul_walk (n0 n1 pN : Bool) (s0 d0 s1 d1 pS qS : ByteArray) (EE : Int) (w : World)
  (H1 : Hid (∀ w1, Below w.heap.size w w1 → Calls Tryz.prog 97 #[.agg #[.bool n0, .string s0, .string d0], .agg #[.bool n1, .string s1, .string d1], .func (.func 134) #[] #[]] w1 (Re w1 (.tuple #[.agg #[.bool pN, .string pS, .string qS], .int .i64 EE])))) :
  Calls Tryz.prog 99 #[.agg #[.bool n0, .string s0, .string d0], .agg #[.bool n1, .string s1, .string d1]] w (Re w (.tuple #[.agg #[.bool pN, .string pS, .string qS], .int .i64 EE])) := by
 go_enter Tryz.func99, Tryz.ntmps99
 go_wp2_with fail
 go_fit (H1.out _ (ba (ba (ba (Below.refl _ _) _) _) _))
 rintro e w1 ⟨rfl, b1⟩
 obtain ⟨ka, kb, kr, b1⟩ := al3 b1
 have sz := b1.size
 have bb := b1
 clear b1
 have ta := ka.lt
 have tb := kb.lt
 have tr := kr.lt
 have cr_0 := cel3_0 kr
 have fr_1 := Cel.frozen kr 0
 have cr_2 := cel3_1 kr
 have fr_3 := Cel.frozen kr 1
 have cr_4 := cel3_2 kr
 have fr_5 := Cel.frozen kr 2
 go_wp2
 exact post_q1 (p := 4) (u := 5) (v := .int .i64 EE) (by kernel_rfl) rfl rfl rfl (((kr.set 0 _).set 1 _).set 2 _) ⟨rfl, bset (bset (bset bb (by omega) 0 _) (by omega) 1 _) (by omega) 2 _⟩
theorem reckon_quotient (n0 n1 pN : Bool) (s0 d0 s1 d1 pS qS : ByteArray) (EE : Int) (w : World)
  (HC : Hid (∀ (B : Nat) (w1 : World), Below w.heap.size w w1 → Cel w1 B [.bool n0, .string s0, .string d0, .bool n1, .string s1, .string d1] 26 → Calls Tryz.prog 133 #[.slice (some ⟨B, 0, none⟩) 2 2] w1 (Re w1 (.int .i64 0))))
  (H1 : Hid (∀ w1, Below w.heap.size w w1 → Calls Tryz.prog 98 #[.agg #[.bool n0, .string s0, .string d0], .agg #[.bool n1, .string s1, .string d1]] w1 (Re w1 (.tuple #[.agg #[.bool pN, .string pS, .string qS], .int .i64 EE])))) :
  Calls Tryz.prog 97 #[.agg #[.bool n0, .string s0, .string d0], .agg #[.bool n1, .string s1, .string d1], .func (.func 98) #[] #[]] w (Re w (.tuple #[.agg #[.bool pN, .string pS, .string qS], .int .i64 EE])) := by
 go_enter Tryz.func97, Tryz.ntmps97
 go_wp2_with fail
 obtain ⟨w1, hw, ka, kb, kr, kl, b1⟩ := mk4 w [.bool n0, .string s0, .string d0] [.bool n1, .string s1, .string d1] [.bool false, .string { data := #[] }, .string { data := #[] }] [.bool n0, .string s0, .string d0, .bool n1, .string s1, .string d1] 26 26 26 26
 rw [← hw]
 clear hw
 have sz := b1.size
 have ta := ka.lt
 have tb := kb.lt
 have tr := kr.lt
 have tl := kl.lt
 have bb := b1
 clear b1
 go_fit (HC.out _ _ bb kl)
 rintro e w2 ⟨rfl, b1⟩
 have sz := b1.size
 replace ka := ka.below b1
 replace kb := kb.below b1
 replace kr := kr.below b1
 replace kl := kl.below b1
 replace bb := Below.after bb b1
 clear b1
 clear kl
 obtain ⟨ca_0, ca_1, ca_2⟩ := xk3 ka
 obtain ⟨cb_3, cb_4, cb_5⟩ := xk3 kb
 go_wp2_with fail
 clear ca_0 ca_1 ca_2 cb_3 cb_4 cb_5
 go_fit (H1.out _ bb)
 rintro e w3 ⟨rfl, b1⟩
 have sz := b1.size
 replace ka := ka.below b1
 replace kb := kb.below b1
 replace kr := kr.below b1
 replace bb := Below.after bb b1
 clear b1
 have cr_0 := cel3_0 kr
 have fr_1 := Cel.frozen kr 0
 have cr_2 := cel3_1 kr
 have fr_3 := Cel.frozen kr 1
 have cr_4 := cel3_2 kr
 have fr_5 := Cel.frozen kr 2
 go_wp2
 exact post_q1 (p := 6) (u := 7) (v := .int .i64 EE) (by kernel_rfl) rfl rfl rfl (((kr.set 0 _).set 1 _).set 2 _) ⟨rfl, bset (bset (bset bb (by omega) 0 _) (by omega) 1 _) (by omega) 2 _⟩
theorem div_walk (n0 n1 pN : Bool) (s0 d0 s1 d1 pS qS : ByteArray) (EE : Int) (w : World)
  (H1 : Hid (∀ w1, Below w.heap.size w w1 → Calls Tryz.prog 97 #[.agg #[.bool n0, .string s0, .string d0], .agg #[.bool n1, .string s1, .string d1], .func (.func 98) #[] #[]] w1 (Re w1 (.tuple #[.agg #[.bool pN, .string pS, .string qS], .int .i64 EE])))) :
  Calls Tryz.prog 51 #[.agg #[.bool n0, .string s0, .string d0], .agg #[.bool n1, .string s1, .string d1]] w (Re w (.tuple #[.agg #[.bool pN, .string pS, .string qS], .int .i64 EE])) := by
 go_enter Tryz.func51, Tryz.ntmps51
 go_wp2_with fail
 go_fit (H1.out _ (ba (ba (ba (Below.refl _ _) _) _) _))
 rintro e w1 ⟨rfl, b1⟩
 obtain ⟨ka, kb, kr, b1⟩ := al3 b1
 have sz := b1.size
 have bb := b1
 clear b1
 have ta := ka.lt
 have tb := kb.lt
 have tr := kr.lt
 have cr_0 := cel3_0 kr
 have fr_1 := Cel.frozen kr 0
 have cr_2 := cel3_1 kr
 have fr_3 := Cel.frozen kr 1
 have cr_4 := cel3_2 kr
 have fr_5 := Cel.frozen kr 2
 go_wp2
 exact post_q1 (p := 4) (u := 5) (v := .int .i64 EE) (by kernel_rfl) rfl rfl rfl (((kr.set 0 _).set 1 _).set 2 _) ⟨rfl, bset (bset (bset bb (by omega) 0 _) (by omega) 1 _) (by omega) 2 _⟩
theorem product_walk (n0 n1 gN eN aN bN pN cN dN qN : Bool) (s0 d0 s1 d1 gS eS aS bS pS cS dS qS : ByteArray) (w : World)
  (H1 : Hid (∀ w1, Below w.heap.size w w1 → Calls Tryz.prog 104 #[.agg #[.bool n0, .string s0], .agg #[.bool false, .string d1]] w1 (Re w1 (.agg #[.bool gN, .string gS]))))
  (H2 : Hid (∀ w1, Below w.heap.size w w1 → Calls Tryz.prog 104 #[.agg #[.bool n1, .string s1], .agg #[.bool false, .string d0]] w1 (Re w1 (.agg #[.bool eN, .string eS]))))
  (H3 : Hid (∀ w1, Calls Tryz.prog 105 #[.agg #[.bool n0, .string s0], .agg #[.bool gN, .string gS]] w1 (Re w1 (.agg #[.bool aN, .string aS]))))
  (H4 : Hid (∀ w1, Calls Tryz.prog 105 #[.agg #[.bool n1, .string s1], .agg #[.bool eN, .string eS]] w1 (Re w1 (.agg #[.bool bN, .string bS]))))
  (H5 : Hid (∀ w1, Calls Tryz.prog 156 #[.agg #[.bool aN, .string aS], .agg #[.bool bN, .string bS]] w1 (Re w1 (.agg #[.bool pN, .string pS]))))
  (H6 : Hid (∀ w1, Calls Tryz.prog 105 #[.agg #[.bool false, .string d0], .agg #[.bool eN, .string eS]] w1 (Re w1 (.agg #[.bool cN, .string cS]))))
  (H7 : Hid (∀ w1, Calls Tryz.prog 105 #[.agg #[.bool false, .string d1], .agg #[.bool gN, .string gS]] w1 (Re w1 (.agg #[.bool dN, .string dS]))))
  (H8 : Hid (∀ w1, Calls Tryz.prog 156 #[.agg #[.bool cN, .string cS], .agg #[.bool dN, .string dS]] w1 (Re w1 (.agg #[.bool qN, .string qS])))) :
  Calls Tryz.prog 134 #[.agg #[.bool n0, .string s0, .string d0], .agg #[.bool n1, .string s1, .string d1]] w (Re w (.tuple #[.agg #[.bool pN, .string pS, .string qS], .int .i64 0])) := by
 go_enter Tryz.func134, Tryz.ntmps134
 go_wp2_with fail
 obtain ⟨w1, hw, ka, kb, kr, b1⟩ := mk3 w [.bool n0, .string s0, .string d0] [.bool n1, .string s1, .string d1] [.bool false, .string { data := #[] }, .string { data := #[] }] 26 26 26
 rw [← hw]
 clear hw
 have sz := b1.size
 have ta := ka.lt
 have tb := kb.lt
 have tr := kr.lt
 have bb := b1
 clear b1
 have mk : Hid (∀ w', SB w1 w' → xc3 w' w.heap.size (.bool n0) (.string s0) (.string d0) ∧ xc3 w' (w.heap.size + 1) (.bool n1) (.string s1) (.string d1)) := fun w' h => ⟨xk3 (ka.below h), xk3 (kb.below h)⟩
 go_cut [6, 7] from 10 to 19 (fun v u wx => ∃ gc gd, v = .pointer (some ⟨gc, 0, none⟩) ∧ u = .pointer (some ⟨gd, 0, none⟩) ∧ w1.heap.size ≤ gc ∧ w1.heap.size ≤ gd ∧ Cel wx gc [.bool gN, .string gS] 24 ∧ Cel wx gd [.bool eN, .string eS] 24 ∧ Below w1.heap.size w1 wx)
 case first =>
  clear H3 H4 H5 H6 H7 H8 kr
  refine wp_region_held_drew (S := SB w1) (by kernel_rfl) (bdrew _) (fun bc => ?_)
  refine WA.start (n := 14) (by kernel_rfl) ?_
  refine WA.tl 0 rfl ?_
  refine WA.tl 1 rfl ?_
  refine WA.tl 2 rfl ?_
  refine WA.tl 5 rfl ?_
  refine WA.tl 6 rfl ?_
  refine WA.tl 7 rfl ?_
  refine WA.gen2 (i := 10) (s := 6) (i' := 11) (s' := 7) undef undef (Pt w1 [.bool false, .string { data := #[] }] 24) (Pt w1 [.bool false, .string { data := #[] }] 24) (fun b b' x x' hz hy hn => ?_)
  simp only [Act.put, List.setIfInBounds_toArray, List.set_cons_zero, List.set_cons_succ]
  replace hz := P2.mk hz hy hn
  clear hy hn
  revert b b' x x'
  refine WA.two 14 231 3 10 11 rfl rfl rfl bc ?_
  clear bc
  intro b b' x x' w' hz bx bc K hK
  clear bx
  simp only [List.getElem_toArray, List.getElem_cons_succ, List.getElem_cons_zero]
  go_simp
  go_fit (den_any n1 s1 d1 _)
  rintro e wn ⟨rfl, bn⟩
  replace bc := Below.after bc bn
  try go_wp2_with fail
  refine hK.out _ _ bc (fun _ => ?_)
  replace hz := hz.below bn
  clear hK K bn
  revert b b' x x'
  refine WA.two 14 239 4 10 11 rfl rfl rfl bc ?_
  clear bc
  intro b b' x x' w' hz bx bc K hK
  clear bx
  simp only [List.getElem_toArray, List.getElem_cons_succ, List.getElem_cons_zero]
  go_simp
  go_fit (H1.out _ ?_)
  ·exact Below.after bb bc
  rintro e wn ⟨rfl, bn⟩
  replace bc := Below.after bc bn
  try go_wp2_with fail
  refine hK.out _ _ bc (fun _ => ?_)
  replace hz := hz.below bn
  clear hK K bn
  revert b b' x x'
  refine WA.two 14 255 8 10 11 rfl rfl rfl bc ?_
  clear bc
  intro b b' x x' w' hz bx bc K hK
  clear bx
  simp only [List.getElem_toArray, List.getElem_cons_succ, List.getElem_cons_zero]
  go_simp
  go_fit (den_any n0 s0 d0 _)
  rintro e wn ⟨rfl, bn⟩
  replace bc := Below.after bc bn
  try go_wp2_with fail
  refine hK.out _ _ bc (fun _ => ?_)
  replace hz := hz.below bn
  clear hK K bn
  revert b b' x x'
  refine WA.two 14 511 9 10 11 rfl rfl rfl bc ?_
  clear bc
  intro b b' x x' w' hz bx bc K hK
  clear bx
  simp only [List.getElem_toArray, List.getElem_cons_succ, List.getElem_cons_zero]
  go_simp
  go_fit (H2.out _ ?_)
  ·exact Below.after bb bc
  rintro e wn ⟨rfl, bn⟩
  replace bc := Below.after bc bn
  try go_wp2_with fail
  refine hK.out _ _ bc (fun _ => ?_)
  replace hz := hz.below bn
  clear hK K bn
  revert b b' x x'
  refine WA.fin2 10 11 rfl rfl bc ?_
  clear bc
  intro x x' w' hz bx bc
  obtain ⟨g0, rfl, h0, k0⟩ := hz.p rfl
  obtain ⟨g1, rfl, h1, k1⟩ := hz.p' rfl
  have n01 : ¬ g0 = g1 := fun e => hz.ne rfl rfl (by rw [e])
  clear bx hz
  have e0_0 := cel2_0' k0
  have f0_0 := Cel.frozen k0 0
  have e0_1 := cel2_1' k0
  have f0_1 := Cel.frozen k0 1
  refine WA.call 12 rfl (fun K hK => ?_)
  simp only [List.getElem_toArray, List.getElem_cons_succ, List.getElem_cons_zero]
  go_simp
  try go_wp2_with fail
  clear e0_0 f0_0 e0_1 f0_1
  refine hK.out _ _ (bset (bset bc h0 0 (.bool gN)) h0 1 (.string gS)) (fun hS => ?_)
  clear hK K
  replace k0 := (Cel.set (Cel.set k0 0 (.bool gN)) 1 (.string gS))
  replace k1 := (Cel.other (Cel.other k1 (fun e => n01 e.symm) 0 (.bool gN)) (fun e => n01 e.symm) 1 (.string gS))
  replace bc := (bset (bset bc h0 0 (.bool gN)) h0 1 (.string gS))
  have e1_0 := cel2_0' k1
  have f1_0 := Cel.frozen k1 0
  have e1_1 := cel2_1' k1
  have f1_1 := Cel.frozen k1 1
  refine WA.call 13 rfl (fun K hK => ?_)
  simp only [List.getElem_toArray, List.getElem_cons_succ, List.getElem_cons_zero]
  go_simp
  try go_wp2_with fail
  clear e1_0 f1_0 e1_1 f1_1
  refine hK.out _ _ (bset (bset bc h1 0 (.bool eN)) h1 1 (.string eS)) (fun hS => ?_)
  clear hK K
  replace k0 := (Cel.other (Cel.other k0 n01 0 (.bool eN)) n01 1 (.string eS))
  replace k1 := (Cel.set (Cel.set k1 0 (.bool eN)) 1 (.string eS))
  replace bc := (bset (bset bc h1 0 (.bool eN)) h1 1 (.string eS))
  refine WA.done (by kernel_rfl) ?_
  go_wp2_with fail
  go_meet
  exact ⟨_, _, rfl, rfl, h0, h1, k0, k1, bc⟩
 case rest =>
 obtain ⟨gg, ge, rfl, rfl, lg, le, kg, ke, b1⟩ := hcut
 clear mk
 have sz := b1.size
 replace ka := ka.below b1
 replace kb := kb.below b1
 replace kr := kr.below b1
 replace bb := Below.after bb b1
 clear b1
 have tg := kg.lt
 have te := ke.lt
 go_wp2_with fail
 have mk : Hid (∀ w', SB wc w' → xc3 w' w.heap.size (.bool n0) (.string s0) (.string d0) ∧ xc3 w' (w.heap.size + 1) (.bool n1) (.string s1) (.string d1) ∧ xc2 w' gg (.bool gN) (.string gS) ∧ xc2 w' ge (.bool eN) (.string eS)) := fun w' h => ⟨xk3 (ka.below h), xk3 (kb.below h), xk2 (kg.below h), xk2 (ke.below h)⟩
 go_cut [8] from 20 to 28 (fun v wx => ∃ gc, v = .pointer (some ⟨gc, 0, none⟩) ∧ wc.heap.size ≤ gc ∧ Cel wx gc [.bool pN, .string pS] 24 ∧ Below wc.heap.size wc wx)
 case first =>
  clear H1 H2 H6 H7 H8 kr
  refine wp_region_held_drew (S := SB wc) (by kernel_rfl) (bdrew _) (fun bc => ?_)
  refine WA.start (n := 11) (by kernel_rfl) ?_
  refine WA.tl 0 rfl ?_
  refine WA.tl 1 rfl ?_
  refine WA.tl 2 rfl ?_
  refine WA.tl 4 rfl ?_
  refine WA.tl 5 rfl ?_
  refine WA.tl 6 rfl ?_
  refine WA.gen (i := 9) (s := 8) undef (Pt wc [.bool false, .string { data := #[] }] 24) (fun b x hz => ?_)
  simp only [Act.put, List.setIfInBounds_toArray, List.set_cons_zero, List.set_cons_succ]
  revert b x
  refine WA.one 11 119 3 9 rfl rfl bc ?_
  clear bc
  intro b x w' hz bx bc K hK
  clear bx
  simp only [List.getElem_toArray, List.getElem_cons_succ, List.getElem_cons_zero]
  go_simp
  go_fit (H3.out _)
  rintro e wn ⟨rfl, bn⟩
  replace bc := Below.after bc bn
  try go_wp2_with fail
  refine hK.out _ _ bc (fun _ => ?_)
  replace hz := fun h => (hz h).below bn
  clear hK K bn
  revert b x
  refine WA.one 11 127 7 9 rfl rfl bc ?_
  clear bc
  intro b x w' hz bx bc K hK
  clear bx
  simp only [List.getElem_toArray, List.getElem_cons_succ, List.getElem_cons_zero]
  go_simp
  go_fit (H4.out _)
  rintro e wn ⟨rfl, bn⟩
  replace bc := Below.after bc bn
  try go_wp2_with fail
  refine hK.out _ _ bc (fun _ => ?_)
  replace hz := fun h => (hz h).below bn
  clear hK K bn
  revert b x
  refine WA.one 11 255 8 9 rfl rfl bc ?_
  clear bc
  intro b x w' hz bx bc K hK
  clear bx
  simp only [List.getElem_toArray, List.getElem_cons_succ, List.getElem_cons_zero]
  go_simp
  go_fit (H5.out _)
  rintro e wn ⟨rfl, bn⟩
  replace bc := Below.after bc bn
  try go_wp2_with fail
  refine hK.out _ _ bc (fun _ => ?_)
  replace hz := fun h => (hz h).below bn
  clear hK K bn
  revert b x
  refine WA.fin 9 rfl bc ?_
  clear bc
  intro x w' hz bx bc
  obtain ⟨g0, rfl, h0, k0⟩ := hz
  clear bx
  have e0_0 := cel2_0' k0
  have f0_0 := Cel.frozen k0 0
  have e0_1 := cel2_1' k0
  have f0_1 := Cel.frozen k0 1
  refine WA.call 10 rfl (fun K hK => ?_)
  simp only [List.getElem_toArray, List.getElem_cons_succ, List.getElem_cons_zero]
  go_simp
  try go_wp2_with fail
  clear e0_0 f0_0 e0_1 f0_1
  refine hK.out _ _ (bset (bset bc h0 0 (.bool pN)) h0 1 (.string pS)) (fun hS => ?_)
  clear hK K
  replace k0 := (Cel.set (Cel.set k0 0 (.bool pN)) 1 (.string pS))
  replace bc := (bset (bset bc h0 0 (.bool pN)) h0 1 (.string pS))
  refine WA.done (by kernel_rfl) ?_
  go_wp2_with fail
  go_meet
  exact ⟨_, rfl, h0, k0, bc⟩
 case rest =>
 obtain ⟨gp, rfl, lp, kp, b1⟩ := hcut
 clear mk
 have sz := b1.size
 replace ka := ka.below b1
 replace kb := kb.below b1
 replace kr := kr.below b1
 replace kg := kg.below b1
 replace ke := ke.below b1
 replace bb := Below.after bb b1
 clear b1
 have tp := kp.lt
 go_wp2_with fail
 have mk : Hid (∀ w', SB wc w' → xc3 w' w.heap.size (.bool n0) (.string s0) (.string d0) ∧ xc3 w' (w.heap.size + 1) (.bool n1) (.string s1) (.string d1) ∧ xc2 w' gg (.bool gN) (.string gS) ∧ xc2 w' ge (.bool eN) (.string eS)) := fun w' h => ⟨xk3 (ka.below h), xk3 (kb.below h), xk2 (kg.below h), xk2 (ke.below h)⟩
 go_cut [9] from 29 to 37 (fun v wx => ∃ gc, v = .pointer (some ⟨gc, 0, none⟩) ∧ wc.heap.size ≤ gc ∧ Cel wx gc [.bool qN, .string qS] 24 ∧ Below wc.heap.size wc wx)
 case first =>
  clear H1 H2 H3 H4 H5 kr kp
  refine wp_region_held_drew (S := SB wc) (by kernel_rfl) (bdrew _) (fun bc => ?_)
  refine WA.start (n := 11) (by kernel_rfl) ?_
  refine WA.tl 0 rfl ?_
  refine WA.tl 2 rfl ?_
  refine WA.tl 4 rfl ?_
  refine WA.tl 6 rfl ?_
  refine WA.gen (i := 9) (s := 9) undef (Pt wc [.bool false, .string { data := #[] }] 24) (fun b x hz => ?_)
  simp only [Act.put, List.setIfInBounds_toArray, List.set_cons_zero, List.set_cons_succ]
  revert b x
  refine WA.one 11 85 1 9 rfl rfl bc ?_
  clear bc
  intro b x w' hz bx bc K hK
  clear bx
  simp only [List.getElem_toArray, List.getElem_cons_succ, List.getElem_cons_zero]
  go_simp
  go_fit (den_any n0 s0 d0 _)
  rintro e wn ⟨rfl, bn⟩
  replace bc := Below.after bc bn
  try go_wp2_with fail
  refine hK.out _ _ bc (fun _ => ?_)
  replace hz := fun h => (hz h).below bn
  clear hK K bn
  revert b x
  refine WA.one 11 87 3 9 rfl rfl bc ?_
  clear bc
  intro b x w' hz bx bc K hK
  clear bx
  simp only [List.getElem_toArray, List.getElem_cons_succ, List.getElem_cons_zero]
  go_simp
  go_fit (H6.out _)
  rintro e wn ⟨rfl, bn⟩
  replace bc := Below.after bc bn
  try go_wp2_with fail
  refine hK.out _ _ bc (fun _ => ?_)
  replace hz := fun h => (hz h).below bn
  clear hK K bn
  revert b x
  refine WA.one 11 95 5 9 rfl rfl bc ?_
  clear bc
  intro b x w' hz bx bc K hK
  clear bx
  simp only [List.getElem_toArray, List.getElem_cons_succ, List.getElem_cons_zero]
  go_simp
  go_fit (den_any n1 s1 d1 _)
  rintro e wn ⟨rfl, bn⟩
  replace bc := Below.after bc bn
  try go_wp2_with fail
  refine hK.out _ _ bc (fun _ => ?_)
  replace hz := fun h => (hz h).below bn
  clear hK K bn
  revert b x
  refine WA.one 11 127 7 9 rfl rfl bc ?_
  clear bc
  intro b x w' hz bx bc K hK
  clear bx
  simp only [List.getElem_toArray, List.getElem_cons_succ, List.getElem_cons_zero]
  go_simp
  go_fit (H7.out _)
  rintro e wn ⟨rfl, bn⟩
  replace bc := Below.after bc bn
  try go_wp2_with fail
  refine hK.out _ _ bc (fun _ => ?_)
  replace hz := fun h => (hz h).below bn
  clear hK K bn
  revert b x
  refine WA.one 11 255 8 9 rfl rfl bc ?_
  clear bc
  intro b x w' hz bx bc K hK
  clear bx
  simp only [List.getElem_toArray, List.getElem_cons_succ, List.getElem_cons_zero]
  go_simp
  go_fit (H8.out _)
  rintro e wn ⟨rfl, bn⟩
  replace bc := Below.after bc bn
  try go_wp2_with fail
  refine hK.out _ _ bc (fun _ => ?_)
  replace hz := fun h => (hz h).below bn
  clear hK K bn
  revert b x
  refine WA.fin 9 rfl bc ?_
  clear bc
  intro x w' hz bx bc
  obtain ⟨g0, rfl, h0, k0⟩ := hz
  clear bx
  have e0_0 := cel2_0' k0
  have f0_0 := Cel.frozen k0 0
  have e0_1 := cel2_1' k0
  have f0_1 := Cel.frozen k0 1
  refine WA.call 10 rfl (fun K hK => ?_)
  simp only [List.getElem_toArray, List.getElem_cons_succ, List.getElem_cons_zero]
  go_simp
  try go_wp2_with fail
  clear e0_0 f0_0 e0_1 f0_1
  refine hK.out _ _ (bset (bset bc h0 0 (.bool qN)) h0 1 (.string qS)) (fun hS => ?_)
  clear hK K
  replace k0 := (Cel.set (Cel.set k0 0 (.bool qN)) 1 (.string qS))
  replace bc := (bset (bset bc h0 0 (.bool qN)) h0 1 (.string qS))
  refine WA.done (by kernel_rfl) ?_
  go_wp2_with fail
  go_meet
  exact ⟨_, rfl, h0, k0, bc⟩
 case rest =>
 obtain ⟨gq, rfl, lq, kq, b1⟩ := hcut
 clear mk
 have sz := b1.size
 replace ka := ka.below b1
 replace kb := kb.below b1
 replace kr := kr.below b1
 replace kg := kg.below b1
 replace ke := ke.below b1
 replace kp := kp.below b1
 replace bb := Below.after bb b1
 clear b1
 have tq := kq.lt
 obtain ⟨cp_0, cp_1⟩ := xk2 kp
 obtain ⟨cq_2, cq_3⟩ := xk2 kq
 have cr_4 := cel3_0 kr
 have fr_5 := Cel.frozen kr 0
 have cr_6 := cel3_1 kr
 have fr_7 := Cel.frozen kr 1
 have cr_8 := cel3_2 kr
 have fr_9 := Cel.frozen kr 2
 go_wp2
 exact post_q1 (p := 4) (u := 5) (by kernel_rfl) rfl rfl rfl (((kr.set 0 _).set 1 _).set 2 _) ⟨rfl, bset (bset (bset bb (by omega) 0 _) (by omega) 1 _) (by omega) 2 _⟩
end Go.Proofs.YtiiigiggcbbgjaaGreatDoor
