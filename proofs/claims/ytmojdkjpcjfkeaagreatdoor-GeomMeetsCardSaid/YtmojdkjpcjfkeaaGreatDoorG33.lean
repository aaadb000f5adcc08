/-
  Package rat: Make, of any two numbers.
  Package rat: Cmp, Sign, Of.
  Package rat: tooLong, of two texts.
  Package whole: how commonDivisor's rows lie.
  Package long: the contracts of numbers that are not long.
  Blocks by what stands at each place; package vec: cleared.
  Package vec: cleared.
  Package rat: reckon; Add, Sub, Mul, Div.
-/
import Derived.ArgAppend
import Derived.Deep.Upon
import Derived.Lib.SliceRun
import Derived.Test.YtmojdkjpcjfkeaaGreatDoorG27
import Derived.Test.YtmojdkjpcjfkeaaGreatDoorG32
set_option maxRecDepth 100000
set_option maxHeartbeats 8000000
namespace Go.Proofs.YtmojdkjpcjfkeaaGreatDoor
open Go.RowKit
theorem isE {s : ByteArray} (h : 0 < natOf s) : s.toList.isEmpty = false := by
 have : 0 < s.size := Nat.pos_of_ne_zero fun e => by have := natOf_empty e; omega
 simpa using toList_ne this
open Go.RowKit
theorem qI_int (z : Int) {n : Bool} {s : ByteArray} (h : zI z = .agg #[.bool n, .string s]) : qI (z : Rat) = .agg #[.bool n, .string s, .string ⟨#[1]⟩] :=
 qI_of (q := (z : Rat)) (m := 1) ⟨rfl, rfl⟩ h strOf_one.symm
open Go.RowKit
theorem tooLong_no (B : Nat) (s d : ByteArray) (w : World) (hB : Cel w B [.string s, .string d] 22) (hs : s.size ≤ 8000) (hd : d.size ≤ 8000) :
  Calls Tryz.prog 131 #[.slice (some ⟨B, 0, none⟩) 2 2] w (Re w (.bool false)) := by
 have i0 : ¬ (8000 : Int) < s.size := by omega
 have i1 : ¬ (8000 : Int) < d.size := by omega
 obtain ⟨c0, c1⟩ := xk2 hB
 go_enter Tryz.func131, Tryz.ntmps131
 go_wp2
 go_loopw [7] (fun i wr => wr = w ∧ (i = .int .i64 0 ∨ i = .int .i64 1 ∨ i = .int .i64 2)) (fun i _ => 2 - (intOf i).toNat)
 case atStart => exact ⟨rfl, Or.inl rfl⟩
 case round =>
  obtain ⟨rfl, rfl | rfl | rfl⟩ := hrel
  ·go_wp2
   exact ⟨⟨trivial, Or.inr (Or.inl (by go_num))⟩, by simp [intOf]⟩
  ·go_wp2
   exact ⟨⟨trivial, Or.inr (Or.inr (by go_num))⟩, by simp [intOf]⟩
  ·go_wp2
   go_ret
   exact ⟨rfl, Below.refl _ _⟩
theorem tooLong_1 (B : Nat) (s d : ByteArray) (w : World) (hB : Cel w B [.string s, .string d] 22) (hs : 8000 < s.size) :
  Calls Tryz.prog 131 #[.slice (some ⟨B, 0, none⟩) 2 2] w (Re w (.bool true)) := by
 have i0 : (8000 : Int) < s.size := by omega
 obtain ⟨c0, c1⟩ := xk2 hB
 go_enter Tryz.func131, Tryz.ntmps131
 go_wp2
 go_loopw [7] (fun i wr => wr = w ∧ i = .int .i64 0) (fun i _ => 2 - (intOf i).toNat)
 case atStart => exact ⟨rfl, rfl⟩
 case round =>
  obtain ⟨rfl, rfl⟩ := hrel
  go_wp2
  go_ret
  exact ⟨rfl, Below.refl _ _⟩
theorem tooLong_2 (B : Nat) (s d : ByteArray) (w : World) (hB : Cel w B [.string s, .string d] 22) (hs : s.size ≤ 8000) (hd : 8000 < d.size) :
  Calls Tryz.prog 131 #[.slice (some ⟨B, 0, none⟩) 2 2] w (Re w (.bool true)) := by
 have i0 : ¬ (8000 : Int) < s.size := by omega
 have i1 : (8000 : Int) < d.size := by omega
 obtain ⟨c0, c1⟩ := xk2 hB
 go_enter Tryz.func131, Tryz.ntmps131
 go_wp2
 go_loopw [7] (fun i wr => wr = w ∧ (i = .int .i64 0 ∨ i = .int .i64 1)) (fun i _ => 2 - (intOf i).toNat)
 case atStart => exact ⟨rfl, Or.inl rfl⟩
 case round =>
  obtain ⟨rfl, rfl | rfl⟩ := hrel
  ·go_wp2
   exact ⟨⟨trivial, Or.inr (by go_num)⟩, by simp [intOf]⟩
  ·go_wp2
   go_ret
   exact ⟨rfl, Below.refl _ _⟩
theorem tooLong_any (s d : ByteArray) : ∃ t : Bool, (t = true ↔ 8000 < s.size ∨ 8000 < d.size) ∧ ∀ (B : Nat) (w : World) (_ : Cel w B [.string s, .string d] 22),
  Calls Tryz.prog 131 #[.slice (some ⟨B, 0, none⟩) 2 2] w (Re w (.bool t)) := by
 by_cases hs : 8000 < s.size
 ·exact ⟨true, ⟨fun _ => Or.inl hs, fun _ => rfl⟩, fun B w hB => tooLong_1 B s d w hB hs⟩
 ·by_cases hd : 8000 < d.size
  ·exact ⟨true, ⟨fun _ => Or.inr hd, fun _ => rfl⟩, fun B w hB => tooLong_2 B s d w hB (by omega) hd⟩
  ·exact ⟨false, ⟨fun h => (by cases h), fun h => (by omega)⟩, fun B w hB => tooLong_no B s d w hB (by omega) (by omega)⟩
end Go.Proofs.YtmojdkjpcjfkeaaGreatDoor
namespace Go.Proofs.YtmojdkjpcjfkeaaGreatDoor
open Go.RowKit Go.Shelf
theorem Grew2.put {g0 g1 ga gb : Nat} {w wr w' : World} (h : Grew2 g0 g1 w wr) (k : Grew2 ga gb wr w') (fa : ga = g0 ∨ ga = g1 ∨ w.heap.size ≤ ga) (fb : gb = g0 ∨ gb = g1 ∨ w.heap.size ≤ gb) : Grew2 g0 g1 w w' :=
 ⟨k.os.trans h.os, k.tape.trans h.tape, k.output.trans h.output, Nat.le_trans h.size k.size, fun i hi h0 h1 => (k.block i (Nat.lt_of_lt_of_le hi h.size) (by omega) (by omega)).trans (h.block i hi h0 h1)⟩
theorem Blk.u64 {w : World} {g : Nat} {ys : List Nat} (h : Blk w g ys) {j : Nat} {v : Value} (hc : w.cell? ⟨g, j, none⟩ = some v) : ∃ n : Int, v = .int .u64 n := by
 by_cases hj : j < ys.length
 ·rw [h.cell hj] at hc
  exact ⟨_, (Option.some.inj hc).symm⟩
 ·unfold Blk at h
  have hn : ys[j]? = none := List.getElem?_eq_none (by omega)
  simp [World.cell?, h, cellsOf, hn] at hc
theorem Tab.grew2 {ga gb : Nat} {w w' : World} {ya yb : List Nat} (h : Tab w) (ka : Blk w ga ya) (kb : Blk w gb yb) (k : Grew2 ga gb w w') : Tab w' := fun j hj => by
 have hc := h j hj
 have hlt := World.block_lt_of_cell? w _ hc
 have na : lays729_ren.g 1 ≠ ga := fun e => by
  rw [e] at hc
  obtain ⟨n, hn⟩ := ka.u64 hc
  cases hn
 have nb : lays729_ren.g 1 ≠ gb := fun e => by
  rw [e] at hc
  obtain ⟨n, hn⟩ := kb.u64 hc
  cases hn
 rw [World.cell?_of_block (w := w) (k.block _ hlt na nb)]
 exact hc
theorem Grew2.of_only {g0 g1 g : Nat} {w wr w' : World} (h : Grew2 g0 g1 w wr) (k : Only g wr w') (f : g = g0 ∨ g = g1 ∨ w.heap.size ≤ g) : Grew2 g0 g1 w w' :=
 h.put (Grew2.left (g' := g) k) f f
theorem Grew2.of_below {g0 g1 : Nat} {w wr w' : World} (h : Grew2 g0 g1 w wr) (k : Below wr.heap.size wr w') : Grew2 g0 g1 w w' := h.trans (Grew2.of k)
structure Rows2 (g0 g1 G : Nat) (w wr : World) (ga gb A B : Nat) (qa qb : List Nat) : Prop where
 ka : Blk wr ga (M.digs B64 A ++ qa)
 kb : Blk wr gb (M.digs B64 B ++ qb)
 ne : ga ≠ gb
 fa : ga = g0 ∨ ga = g1 ∨ w.heap.size ≤ ga
 fb : gb = g0 ∨ gb = g1 ∨ w.heap.size ≤ gb
 cap : (M.digs B64 A).length ≤ (M.digs B64 B ++ qb).length
 le : B ≤ A
 gcd : Nat.gcd A B = G
 size : (M.digs B64 A).length ≤ 4000
 tab : Tab wr
 gr : Grew2 g0 g1 w wr
def slX (g A : Nat) (q : List Nat) : Value := .slice (some ⟨g, 0, none⟩) (M.digs B64 A).length (M.digs B64 A ++ q).length
theorem Rows2.rdA {g0 g1 G : Nat} {w wr : World} {ga gb A B : Nat} {qa qb : List Nat} (h : Rows2 g0 g1 G w wr ga gb A B qa qb) : Rd wr (slX ga A qa) (M.digs B64 A) := Bk.rd (t := 120) h.ka _ (by simp)
theorem Rows2.rdB {g0 g1 G : Nat} {w wr : World} {ga gb A B : Nat} {qa qb : List Nat} (h : Rows2 g0 g1 G w wr ga gb A B qa qb) : Rd wr (slX gb B qb) (M.digs B64 B) := Bk.rd (t := 120) h.kb _ (by simp)
theorem Rows2.below {g0 g1 G : Nat} {w wr w' : World} {ga gb A B : Nat} {qa qb : List Nat} (h : Rows2 g0 g1 G w wr ga gb A B qa qb) (k : Below wr.heap.size wr w') : Rows2 g0 g1 G w w' ga gb A B qa qb :=
 ⟨h.ka.below k, h.kb.below k, h.ne, h.fa, h.fb, h.cap, h.le, h.gcd, h.size, h.tab.below k, h.gr.of_below k⟩
theorem digs_mono' {A B : Nat} (h : B ≤ A) : (M.digs B64 B).length ≤ (M.digs B64 A).length := digs_mono B64_two h
def rowN (v : Value) (w : World) : Nat := match v with
 | .slice (some a) n _ => M.val B64 ((List.range n).map fun j => match w.cell? ⟨a.block, j, none⟩ with | some (.int _ z) => z.toNat | _ => 0)
 | _ => 0
theorem rowN_eq {w : World} {g A : Nat} {q : List Nat} (h : Blk w g (M.digs B64 A ++ q)) : rowN (slX g A q) w = A := by
 have e : ((List.range (M.digs B64 A).length).map fun j => match w.cell? ⟨g, j, none⟩ with | some (.int _ z) => z.toNat | _ => 0) = M.digs B64 A := by
  apply List.ext_getElem
  ·simp
  ·intro i h1 h2
   have hc := h.cell (j := i) (by rw [List.length_append]; omega)
   simp only [List.getElem_map, List.getElem_range, hc]
   simp [lm, List.getElem?_append_left h2, h2]
 show M.val B64 _ = A
 rw [e, M.val_digs B64_two]
theorem Rows2.divided {g0 g1 G : Nat} {w wr w' : World} {ga gb A B : Nat} {qa qb : List Nat} (h : Rows2 g0 g1 G w wr ga gb A B qa qb) (hB : 0 < B)
  (k : Blk w' ga (M.digs B64 (A % B) ++ (M.digs B64 A ++ qa).drop (M.digs B64 (A % B)).length)) (o : Only ga wr w') :
  Rows2 g0 g1 G w w' gb ga B (A % B) qb ((M.digs B64 A ++ qa).drop (M.digs B64 (A % B)).length) := by
 have hlt : A % B < B := Nat.mod_lt _ hB
 refine ⟨?_, k, h.ne.symm, h.fb, h.fa, ?_, by omega, ?_, Nat.le_trans (digs_mono' h.le) h.size, h.tab.grew2 h.ka h.ka (Grew2.left o), h.gr.of_only o h.fa⟩
 ·have := h.kb
  unfold Blk at this ⊢
  rw [o.block gb h.ne.symm]; exact this
 ·have l1 := digs_mono' h.le
  have l2 := digs_mono' (Nat.le_of_lt hlt)
  rw [List.length_append, List.length_drop, List.length_append]
  omega
 ·rw [Nat.gcd_comm, ← Nat.gcd_rec, Nat.gcd_comm]
  exact h.gcd
open Go.RowKit
def nfZ (z : Int) : Bool := decide (z < 0)
def sfZ (z : Int) : ByteArray := strOf z.natAbs
theorem zI_nz (z : Int) : zI z = .agg #[.bool (nfZ z), .string (sfZ z)] := rfl
theorem okS_sfZ (z : Int) : OkS (sfZ z) := okS_strOf _
theorem okZ_nz (z : Int) : OkZ (nfZ z) (sfZ z) := okZ_zI z
theorem zOf_nz (z : Int) : zOf (nfZ z) (sfZ z) = z := zOf_zI z
theorem natOf_sfZ (z : Int) : natOf (sfZ z) = z.natAbs := natOf_strOf _
theorem okZ_false {s : ByteArray} (h : OkS s) : OkZ false s := ⟨h, fun e => by cases e⟩
theorem zOf_f (s : ByteArray) : zOf false s = ((natOf s : Nat) : Int) := rfl
theorem lmul_nat (s0 s1 : ByteArray) (w : World) (o0 : OkS s0) (o1 : OkS s1) (z0 : s0.size ≤ 16000) (z1 : s1.size ≤ 16000) :
  Calls Tryz.prog 143 #[.string s0, .string s1] w (Re w (.string (strOf (natOf s0 * natOf s1)))) := by
 have key : ∀ (x y : ByteArray), OkS x → OkS y → x.size ≤ 16000 → y.size ≤ 16000 → Hid (∀ w1, Calls Tryz.prog 177 #[.agg #[.bool false, .string x], .agg #[.bool false, .string y]] w1 (Re w1 (.tuple #[.agg #[.bool (nfZ ((natOf x : Int) * (natOf y : Int))), .string (strOf (natOf x * natOf y))], .int .i64 0]))) := fun x y ox oy zx zy w1 => by
  have := zmul_ok false false x y w1 (okZ_false ox) (okZ_false oy) zx zy
  rw [zOf_f, zOf_f, zI_nz] at this
  have e : sfZ ((natOf x : Int) * (natOf y : Int)) = strOf (natOf x * natOf y) := by unfold sfZ; rw [Int.natAbs_mul]; rfl
  rw [e] at this
  exact this
 by_cases hl : s0.size < s1.size
 ·by_cases h1 : s0 = ⟨#[1]⟩
  ·subst h1
   have e : strOf (natOf ⟨#[1]⟩ * natOf s1) = s1 := by rw [natOf_one, Nat.one_mul, strOf_natOf o1]
   rw [e]
   exact lmul_swap1 s1 w (by have : (⟨#[1]⟩ : ByteArray).size = 1 := rfl; omega)
  ·have k := key s1 s0 o1 o0 z1 z0
   rw [Nat.mul_comm]
   exact lmul_swap s0 s1 _ _ w (by omega) (ne1 h1) (by omega) k
 ·by_cases h1 : s1 = ⟨#[1]⟩
  ·subst h1
   have e : strOf (natOf s0 * natOf ⟨#[1]⟩) = s0 := by rw [natOf_one, Nat.mul_one, strOf_natOf o0]
   rw [e]
   exact lmul_one s0 w (by have : (⟨#[1]⟩ : ByteArray).size = 1 := rfl; omega)
  ·exact lmul_walk s0 s1 _ _ w (by omega) (ne1 h1) (by omega) (key s0 s1 o0 o1 z0 z1)
theorem ladd_nat (s0 s1 : ByteArray) (w : World) (o0 : OkS s0) (o1 : OkS s1) (z0 : s0.size ≤ 16000) (z1 : s1.size ≤ 16000) :
  Calls Tryz.prog 178 #[.string s0, .string s1] w (Re w (.string (strOf (natOf s0 + natOf s1)))) := by
 refine ladd_walk s0 s1 _ (nfZ ((natOf s0 : Int) + (natOf s1 : Int))) w (by omega) (by omega) (fun w1 => ?_)
 have := zadd_ok false false s0 s1 w1 (okZ_false o0) (okZ_false o1) (by omega) (by omega)
 rw [zOf_f, zOf_f, zI_nz] at this
 have e : sfZ ((natOf s0 : Int) + (natOf s1 : Int)) = strOf (natOf s0 + natOf s1) := by unfold sfZ; rw [← Int.natCast_add]; rfl
 rw [e] at this
 exact this
theorem lsub_nat (s0 s1 : ByteArray) (w : World) (o0 : OkS s0) (o1 : OkS s1) (z0 : s0.size ≤ 16000) (z1 : s1.size ≤ 16000) (hle : natOf s1 ≤ natOf s0) :
  Calls Tryz.prog 185 #[.string s0, .string s1] w (Re w (.string (strOf (natOf s0 - natOf s1)))) := by
 refine lsub_walk s0 s1 _ (nfZ ((natOf s0 : Int) - (natOf s1 : Int))) w (by omega) (fun w1 => ?_)
 have := zsub_ok false false s0 s1 w1 (okZ_false o0) (okZ_false o1) (by omega) (by omega)
 rw [zOf_f, zOf_f, zI_nz] at this
 have e : sfZ ((natOf s0 : Int) - (natOf s1 : Int)) = strOf (natOf s0 - natOf s1) := by unfold sfZ; rw [← Int.ofNat_sub hle]; rfl
 rw [e] at this
 exact this
theorem ldivide_nat (s0 s1 : ByteArray) (w : World) (o0 : OkS s0) (o1 : OkS s1) (z0 : s0.size ≤ 16000) (z1 : s1.size ≤ 16000) (h : 0 < natOf s1) :
  Calls Tryz.prog 141 #[.string s0, .string s1] w (Re w (.tuple #[.string (strOf (natOf s0 / natOf s1)), .string (strOf (natOf s0 % natOf s1))])) := by
 refine ldivide_walk s0 s1 _ _ (nfZ ((natOf s0 : Int) / (natOf s1 : Int))) (nfZ ((natOf s0 : Int) % (natOf s1 : Int))) w (by omega) (fun w1 => ?_)
 have := zdiv_ok false false s0 s1 w1 (okZ_false o0) (okZ_false o1) (by omega) (by omega) h
 rw [zOf_f, zOf_f, zI_nz, zI_nz] at this
 exact this
theorem bytes_less : ∀ (x y : List UInt8), x.length = y.length → Op.bytesLess x y = decide (M.val 256 (x.map UInt8.toNat).reverse < M.val 256 (y.map UInt8.toNat).reverse)
 | [], [], _ => rfl
 | a :: x, b :: y, h => by
  have hl : x.length = y.length := by simpa using h
  have ih := bytes_less x y hl
  have hx := M.val_lt (b := 256) (by omega) (xs := (x.map UInt8.toNat).reverse) (Low_reverse (byts_low ⟨⟨x⟩⟩))
  have hy := M.val_lt (b := 256) (by omega) (xs := (y.map UInt8.toNat).reverse) (Low_reverse (byts_low ⟨⟨y⟩⟩))
  simp only [List.length_reverse, List.length_map, ← hl] at hx hy
  rw [List.map_cons, List.map_cons, List.reverse_cons, List.reverse_cons, M.val_snoc, M.val_snoc]
  simp only [List.length_reverse, List.length_map, ← hl]
  generalize M.val 256 (x.map UInt8.toNat).reverse = X at *
  generalize M.val 256 (y.map UInt8.toNat).reverse = Y at *
  generalize 256 ^ x.length = p at *
  unfold Op.bytesLess
  rw [ih]
  have la : a < b ↔ a.toNat < b.toNat := UInt8.lt_iff_toNat_lt
  have lb : a = b ↔ a.toNat = b.toNat := ⟨fun e => by rw [e], fun e => UInt8.toNat.inj e⟩
  generalize a.toNat = A at *
  generalize b.toNat = B at *
  rcases Nat.lt_trichotomy A B with c | c | c
  ·have e : p * (A + 1) ≤ p * B := Nat.mul_le_mul_left p c
   rw [Nat.mul_succ] at e
   rw [decide_eq_true (la.2 c), Bool.true_or, decide_eq_true (by omega)]
  ·have ha : ¬ a < b := fun q => by have := la.1 q; omega
   have hb : a = b := lb.2 c
   subst c
   rw [decide_eq_false ha, Bool.false_or, hb]
   simp
  ·have e : p * (B + 1) ≤ p * A := Nat.mul_le_mul_left p c
   rw [Nat.mul_succ] at e
   have ha : ¬ a < b := fun q => by have := la.1 q; omega
   have hb : ¬ a = b := fun q => by have := lb.1 q; omega
   rw [decide_eq_false ha, Bool.false_or, beq_eq_false_iff_ne.2 hb, Bool.false_and, decide_eq_false (by omega)]
theorem lless_nat (s0 s1 : ByteArray) (w : World) (o0 : OkS s0) (o1 : OkS s1) :
  Calls Tryz.prog 184 #[.string s0, .string s1] w (Re w (.bool (decide (natOf s0 < natOf s1)))) := by
 by_cases h : s0.size = s1.size
 ·refine (lless_walk s0 s1 w (by omega)).mono ?_
  rintro e w' ⟨rfl, rfl⟩
  refine ⟨?_, Below.refl _ _⟩
  rw [bytes_less _ _ (by rw [ByteArray.toList_eq, ByteArray.toList_eq]; exact h), ByteArray.toList_eq, ByteArray.toList_eq]
  rfl
 ·refine (lless_size s0 s1 w (by omega)).mono ?_
  rintro e w' ⟨rfl, rfl⟩
  refine ⟨?_, Below.refl _ _⟩
  have key : ∀ (x y : ByteArray), OkS y → x.size < y.size → natOf x < natOf y := fun x y oy hxy => by
   have h1 := natOf_lt x
   have h2 : 256 ^ x.size ≤ natOf y := by
    rcases Nat.lt_or_ge (natOf y) (256 ^ x.size) with c | c
    ·have := strOf_lt c
     rw [strOf_natOf oy] at this
     omega
    ·exact c
   omega
  rcases Nat.lt_or_ge s0.size s1.size with c | c
  ·rw [decide_eq_true c, decide_eq_true (key s0 s1 o1 c)]
  ·have := key s1 s0 o0 (by omega)
   rw [decide_eq_false (by omega), decide_eq_false (by omega)]
theorem lMul_any (x y : Int) (w : World) {K : Nat} (hK : K ≤ 16000) (bx : Bd x K) (bY : Bd y K) :
  Calls Tryz.prog 154 #[.agg #[.bool (nfZ x), .string (sfZ x)], .agg #[.bool (nfZ y), .string (sfZ y)]] w (Re w (.agg #[.bool (nfZ (x * y)), .string (sfZ (x * y))])) := by
 have H : Hid (∀ w1, Calls Tryz.prog 143 #[.string (sfZ x), .string (sfZ y)] w1 (Re w1 (.string (sfZ (x * y))))) := fun w1 => by
  have := lmul_nat (sfZ x) (sfZ y) w1 (okS_sfZ x) (okS_sfZ y) (Nat.le_trans bx.size hK) (Nat.le_trans bY.size hK)
  rw [natOf_sfZ, natOf_sfZ, ← Int.natAbs_mul] at this
  exact this
 by_cases h0 : x * y = 0
 ·have e1 : sfZ (x * y) = ⟨#[]⟩ := by rw [h0]; rfl
  have e2 : nfZ (x * y) = false := by rw [h0]; rfl
  rw [e1] at H
  rw [e1, e2]
  exact lMul_zero _ _ _ _ w H
 ·have e2 : nfZ (x * y) = (nfZ x != nfZ y) := by
   have hx : x ≠ 0 := fun e => h0 (by rw [e, Int.zero_mul])
   have hy : y ≠ 0 := fun e => h0 (by rw [e, Int.mul_zero])
   unfold nfZ
   rcases Int.lt_trichotomy x 0 with c | c | c
   ·rcases Int.lt_trichotomy y 0 with d | d | d
    ·have := Int.mul_pos_of_neg_of_neg c d
     rw [decide_eq_true c, decide_eq_true d, decide_eq_false (by omega)]; rfl
    ·exact absurd d hy
    ·have := Int.mul_neg_of_neg_of_pos c d
     rw [decide_eq_true c, decide_eq_false (show ¬ y < 0 by omega), decide_eq_true this]; rfl
   ·exact absurd c hx
   ·rcases Int.lt_trichotomy y 0 with d | d | d
    ·have := Int.mul_neg_of_pos_of_neg c d
     rw [decide_eq_false (show ¬ x < 0 by omega), decide_eq_true d, decide_eq_true this]; rfl
    ·exact absurd d hy
    ·have := Int.mul_pos c d
     rw [decide_eq_false (show ¬ x < 0 by omega), decide_eq_false (show ¬ y < 0 by omega), decide_eq_false (by omega)]; rfl
  rw [e2]
  refine lMul_some _ _ _ _ _ ?_ w H
  have hp : 0 < (sfZ (x * y)).size := strOf_pos (by omega)
  rw [ByteArray.toList_eq]
  generalize sfZ (x * y) = s at hp
  obtain ⟨⟨l⟩⟩ := s
  cases l with
  | nil => exact absurd hp (by decide)
  | cons _ _ => rfl
theorem bd_sf {z : Int} {K : Nat} (h : Bd z K) : (sfZ z).size ≤ K := h.size
theorem lAdd_any (x y : Int) (w : World) {K : Nat} (hK : K ≤ 16000) (bx : Bd x K) (bY : Bd y K) :
  Calls Tryz.prog 157 #[.agg #[.bool (nfZ x), .string (sfZ x)], .agg #[.bool (nfZ y), .string (sfZ y)]] w (Re w (.agg #[.bool (nfZ (x + y)), .string (sfZ (x + y))])) := by
 have z0 := Nat.le_trans (bd_sf bx) hK
 have z1 := Nat.le_trans (bd_sf bY) hK
 by_cases hn : nfZ x = nfZ y
 ·have H : Hid (∀ w1, Calls Tryz.prog 178 #[.string (sfZ x), .string (sfZ y)] w1 (Re w1 (.string (sfZ (x + y))))) := fun w1 => by
   have := ladd_nat (sfZ x) (sfZ y) w1 (okS_sfZ x) (okS_sfZ y) z0 z1
   rw [natOf_sfZ, natOf_sfZ] at this
   have e : strOf (x.natAbs + y.natAbs) = sfZ (x + y) := by
    unfold sfZ; congr 1
    unfold nfZ at hn
    by_cases c : x < 0
    ·rw [decide_eq_true c] at hn
     have := of_decide_eq_true hn.symm; omega
    ·rw [decide_eq_false c] at hn
     have := of_decide_eq_false hn.symm; omega
   rw [e] at this
   exact this
  have e : nfZ (x + y) = nfZ x := by
   unfold nfZ at hn ⊢
   by_cases c : x < 0
   ·rw [decide_eq_true c] at hn ⊢
    have := of_decide_eq_true hn.symm
    exact decide_eq_true (by omega)
   ·rw [decide_eq_false c] at hn ⊢
    have := of_decide_eq_false hn.symm
    exact decide_eq_false (by omega)
  rw [e]
  exact lAdd_like _ _ _ _ _ (by rw [hn]; exact beq_self_eq_true _) w H
 ·have hb : (nfZ x == nfZ y) = false := beq_eq_false_iff_ne.2 hn
  by_cases hs : sfZ x = sfZ y
  ·have hxy : x + y = 0 := by
    have e : x.natAbs = y.natAbs := by rw [← natOf_sfZ, hs, natOf_sfZ]
    rcases Int.natAbs_eq_natAbs_iff.1 e with c | c
    ·exact absurd (by rw [c]) hn
    ·omega
   rw [hxy]
   have := lAdd_null (nfZ x) (nfZ y) (sfZ x) hb w
   rw [← hs]
   exact this
  ·have hs' : ((sfZ x).toList == (sfZ y).toList) = false := by
    refine beq_eq_false_iff_ne.2 fun e => hs ?_
    rw [ByteArray.toList_eq, ByteArray.toList_eq] at e
    generalize sfZ x = X at *
    generalize sfZ y = Y at *
    obtain ⟨⟨l⟩⟩ := X
    obtain ⟨⟨m⟩⟩ := Y
    have e' : l = m := e
    rw [e']
   have HL : Hid (∀ w1, Calls Tryz.prog 184 #[.string (sfZ x), .string (sfZ y)] w1 (Re w1 (.bool (decide (x.natAbs < y.natAbs))))) := fun w1 => by
    have := lless_nat (sfZ x) (sfZ y) w1 (okS_sfZ x) (okS_sfZ y)
    rw [natOf_sfZ, natOf_sfZ] at this
    exact this
   have hne : x.natAbs ≠ y.natAbs := fun e => hs (by unfold sfZ; rw [e])
   have key : ∀ (u v : Int), nfZ u ≠ nfZ v → v.natAbs < u.natAbs → nfZ (u + v) = nfZ u ∧ (u + v).natAbs = u.natAbs - v.natAbs := fun u v hn hl => by
    unfold nfZ at hn ⊢
    by_cases c : u < 0
    ·by_cases d : v < 0
     ·rw [decide_eq_true c, decide_eq_true d] at hn; exact absurd rfl hn
     ·rw [decide_eq_true c]; exact ⟨decide_eq_true (by omega), by omega⟩
    ·by_cases d : v < 0
     ·rw [decide_eq_false c]; exact ⟨decide_eq_false (by omega), by omega⟩
     ·rw [decide_eq_false c, decide_eq_false d] at hn; exact absurd rfl hn
   by_cases hl : x.natAbs < y.natAbs
   ·rw [decide_eq_true hl] at HL
    obtain ⟨k1, k2⟩ := key y x (fun e => hn e.symm) hl
    rw [Int.add_comm y x] at k1 k2
    rw [k1]
    refine lAdd_less _ _ _ _ _ hb hs' w HL (fun w1 => ?_)
    have := lsub_nat (sfZ y) (sfZ x) w1 (okS_sfZ y) (okS_sfZ x) z1 z0 (by rw [natOf_sfZ, natOf_sfZ]; omega)
    rw [natOf_sfZ, natOf_sfZ, ← k2] at this
    exact this
   ·rw [decide_eq_false hl] at HL
    obtain ⟨k1, k2⟩ := key x y hn (by omega)
    rw [k1]
    refine lAdd_more _ _ _ _ _ hb hs' w HL (fun w1 => ?_)
    have := lsub_nat (sfZ x) (sfZ y) w1 (okS_sfZ x) (okS_sfZ y) z0 z1 (by rw [natOf_sfZ, natOf_sfZ]; omega)
    rw [natOf_sfZ, natOf_sfZ, ← k2] at this
    exact this
theorem lSub_any (x y : Int) (w : World) {K : Nat} (hK : K ≤ 16000) (bx : Bd x K) (bY : Bd y K) :
  Calls Tryz.prog 156 #[.agg #[.bool (nfZ x), .string (sfZ x)], .agg #[.bool (nfZ y), .string (sfZ y)]] w (Re w (.agg #[.bool (nfZ (x - y)), .string (sfZ (x - y))])) := by
 have H : Hid (∀ w1, Calls Tryz.prog 157 #[.agg #[.bool (nfZ x), .string (sfZ x)], .agg #[.bool (nfZ (-y)), .string (sfZ (-y))]] w1 (Re w1 (.agg #[.bool (nfZ (x - y)), .string (sfZ (x - y))]))) := fun w1 => by
  have := lAdd_any x (-y) w1 hK bx bY.neg
  rw [← Int.sub_eq_add_neg] at this
  exact this
 have es : sfZ (-y) = sfZ y := by unfold sfZ; rw [Int.natAbs_neg]
 rw [es] at H
 by_cases h0 : y = 0
 ·subst h0
  exact lSub_zero _ _ _ _ _ w H
 ·have en : nfZ (-y) = !nfZ y := by
   unfold nfZ
   by_cases c : y < 0
   ·rw [decide_eq_true c, decide_eq_false (by omega)]; rfl
   ·rw [decide_eq_false c, decide_eq_true (by omega)]; rfl
  rw [en] at H
  refine lSub_some _ _ _ _ _ _ ?_ w H
  have hp : 0 < (sfZ y).size := strOf_pos (by omega)
  rw [ByteArray.toList_eq]
  generalize sfZ y = s at hp
  obtain ⟨⟨l⟩⟩ := s
  cases l with
  | nil => exact absurd hp (by decide)
  | cons _ _ => rfl
open Go.RowKit
def Cells (w : World) (g : Nat) (t : TypeId) (n : Nat) (f : Nat → Value) : Prop := ∃ cs : Array Value, w.heap[g]? = some (.cells cs t (0, 0)) ∧ cs.size = n ∧ ∀ i, i < n → cs[i]? = some (f i)
theorem Cells.cell {w : World} {g n : Nat} {t : TypeId} {f : Nat → Value} (h : Cells w g t n f) {i : Nat} (hi : i < n) : w.cell? ⟨g, i, none⟩ = some (f i) := by
 obtain ⟨cs, h1, h2, h3⟩ := h
 simp [World.cell?, h1, h3 i hi]
theorem Cells.frozen {w : World} {g n : Nat} {t : TypeId} {f : Nat → Value} (h : Cells w g t n f) (i : Nat) : w.frozen? ⟨g, i, none⟩ = false := by
 obtain ⟨cs, h1, h2, h3⟩ := h
 simp [World.frozen?, h1]
theorem Cells.lt {w : World} {g n : Nat} {t : TypeId} {f : Nat → Value} (h : Cells w g t n f) : g < w.heap.size := by
 obtain ⟨cs, h1, -⟩ := h
 by_cases hg : g < w.heap.size
 ·exact hg
 ·rw [Array.getElem?_eq_none (by omega)] at h1; cases h1
theorem Cells.below {w w' : World} {g n : Nat} {t : TypeId} {f : Nat → Value} (h : Cells w g t n f) (hb : Below w.heap.size w w') : Cells w' g t n f := by
 have hl := h.lt
 obtain ⟨cs, h1, h2, h3⟩ := h
 exact ⟨cs, by rw [hb.block g hl]; exact h1, h2, h3⟩
theorem Cells.alloc {w : World} {g n : Nat} {t : TypeId} {f : Nat → Value} (h : Cells w g t n f) (o : Obj) : Cells (w.alloc o) g t n f := h.below ((Below.refl _ _).alloc (Nat.le_refl _) o)
theorem Cells.other {w : World} {g g' n : Nat} {t : TypeId} {f : Nat → Value} (h : Cells w g t n f) (hne : g ≠ g') (j : Nat) (v : Value) : Cells (w.setCell ⟨g', j, none⟩ v) g t n f := by
 obtain ⟨cs, h1, h2, h3⟩ := h
 exact ⟨cs, by rw [Below.heap_setCell _ _ _ _ (by exact hne)]; exact h1, h2, h3⟩
theorem Cells.set {w : World} {g n : Nat} {t : TypeId} {f : Nat → Value} (h : Cells w g t n f) (j : Nat) (v : Value) : Cells (w.setCell ⟨g, j, none⟩ v) g t n (fun i => if i = j then v else f i) := by
 obtain ⟨cs, h1, h2, h3⟩ := h
 refine ⟨cs.setIfInBounds j v, by simp [World.setCell, Array.getElem?_modify, h1], by simp [h2], fun i hi => ?_⟩
 show _ = some (if i = j then v else f i)
 by_cases e : i = j
 ·subst e
  rw [if_pos rfl]
  simp [h2, hi]
 ·rw [if_neg e, Array.getElem?_setIfInBounds_ne (fun q => e q.symm)]
  exact h3 i hi
theorem Cells.congr {w : World} {g n : Nat} {t : TypeId} {f f' : Nat → Value} (h : Cells w g t n f) (he : ∀ i, i < n → f i = f' i) : Cells w g t n f' := by
 obtain ⟨cs, h1, h2, h3⟩ := h
 exact ⟨cs, h1, h2, fun i hi => by rw [← he i hi]; exact h3 i hi⟩
def fz (z : Nat → Int) (i : Nat) : Value := if i % 2 = 0 then .bool (nfZ (z (i / 2))) else .string (sfZ (z (i / 2)))
theorem fz_0 (z : Nat → Int) (j : Nat) : fz z (j * 2) = .bool (nfZ (z j)) := by
 unfold fz
 rw [if_pos (by omega), show j * 2 / 2 = j by omega]
theorem fz_1 (z : Nat → Int) (j : Nat) : fz z (j * 2 + 1) = .string (sfZ (z j)) := by
 unfold fz
 rw [if_neg (by omega), show (j * 2 + 1) / 2 = j by omega]
theorem Cells.z0 {w : World} {g n : Nat} {t : TypeId} {z : Nat → Int} (h : Cells w g t (n * 2) (fz z)) {j : Nat} (hj : j < n) : w.cell? ⟨g, j * 2, none⟩ = some (.bool (nfZ (z j))) := by
 rw [h.cell (by omega), fz_0]
theorem Cells.z1 {w : World} {g n : Nat} {t : TypeId} {z : Nat → Int} (h : Cells w g t (n * 2) (fz z)) {j : Nat} (hj : j < n) : w.cell? ⟨g, j * 2 + 1, none⟩ = some (.string (sfZ (z j))) := by
 rw [h.cell (by omega), fz_1]
def upZ (z : Nat → Int) (j : Nat) (x : Int) : Nat → Int := fun i => if i = j then x else z i
theorem Cells.putZ {w : World} {g n : Nat} {t : TypeId} {z : Nat → Int} (h : Cells w g t (n * 2) (fz z)) (j : Nat) (x : Int) : Cells ((w.setCell ⟨g, j * 2, none⟩ (.bool (nfZ x))).setCell ⟨g, j * 2 + 1, none⟩ (.string (sfZ x))) g t (n * 2) (fz (upZ z j x)) := by
 refine ((h.set (j * 2) _).set (j * 2 + 1) _).congr fun i hi => ?_
 show (if i = j * 2 + 1 then _ else if i = j * 2 then _ else _) = _
 by_cases e1 : i = j * 2 + 1
 ·subst e1
  rw [if_pos rfl, fz_1]; unfold upZ; rw [if_pos rfl]
 ·rw [if_neg e1]
  by_cases e0 : i = j * 2
  ·subst e0
   rw [if_pos rfl, fz_0]; unfold upZ; rw [if_pos rfl]
  ·rw [if_neg e0]
   have hij : ¬ i / 2 = j := by omega
   unfold fz upZ
   simp only [if_neg hij]
theorem cellsZ0 : Value.cells (.agg #[.bool false, .string { data := #[] }]) = #[.bool false, .string { data := #[] }] := by kernel_rfl
theorem run_mkZ (n : Nat) (hn : n ≤ 1000000) (w : World) :
  ∃ w', (Instr.makeSlice 131 (.int .i64 n) (.int .i64 n)).run Tryz.prog w = .ok (.slice (some ⟨w.heap.size, 0, none⟩) n n) w' ∧ Cells w' w.heap.size 24 (n * 2) (fz fun _ => 0) ∧ Below w.heap.size w w' := by
 obtain ⟨i0, hi, hz0, hz1, hz2⟩ := info_parts (show (Tryz.prog.info? 24).map (fun i => (i.zero, i.size, i.bytes)) = some (some (.agg #[.bool false, .string ⟨#[]⟩]), 2, 24) by kernel_rfl)
 have h := run_make (P := Tryz.prog) w 131 24 i0 (.agg #[.bool false, .string ⟨#[]⟩]) Tryz.underlying131 hi hz0 .i64 .i64 n n (by omega) (by omega) (by rw [hz2]; omega) (by omega)
 rw [hz1, cellsZ0, Int.toNat_natCast] at h
 refine ⟨_, h, ⟨_, heap_alloc_new w _, size_madeCells _ _, fun i hi => ?_⟩, (Below.refl _ _).alloc (Nat.le_refl _) _⟩
 have e : (madeCells #[Value.bool false, .string { data := #[] }] (n * 2))[i]? = some (#[Value.bool false, .string { data := #[] }][i % 2]!) := by
  simp [madeCells, hi]
 rw [e]
 unfold fz
 by_cases e0 : i % 2 = 0
 ·rw [if_pos e0, e0]; rfl
 ·rw [if_neg e0, show i % 2 = 1 by omega]; rfl
theorem wpList_mkZ {w : World} {ops : Array Oper} {rest : List Oper} {o : Oper} {a : Act} {Q : Exit → Act → World → Prop}
  (hg : o.guard = none) (l c : Operand) (hop : o.op = Op.makeSlice 131 l c) (L : Int) (n : Nat) (hl : a.eval l = .int .i64 L) (hc : a.eval c = .int .i64 L) (hL : L = (n : Int)) (hn : n ≤ 1000000)
  (hK : ∀ w1, Cells w1 w.heap.size 24 (n * 2) (fz fun _ => 0) → Below w.heap.size w w1 → wpList Tryz.prog ops Q rest (a.put o.dst (.slice (some ⟨w.heap.size, 0, none⟩) n n)) w1) :
  wpList Tryz.prog ops Q (o :: rest) a w := by
 refine wpList_plain hg fun K hK' => ?_
 subst hL
 obtain ⟨w', hrun, hc', hb⟩ := run_mkZ n hn w
 unfold Oper.wp
 simp [execOp, hop, hl, hc, hrun, Result.andThen]
 exact hK' _ _ (hK _ hc' hb)
def pex (d : ByteArray) : List ByteArray → Nat
 | [] => 1
 | x :: l => if x = d then pex d l else natOf x * pex d l
theorem pex_append (d : ByteArray) (l m : List ByteArray) : pex d (l ++ m) = pex d l * pex d m := by
 induction l with
 | nil => simp [pex]
 | cons x l ih =>
  show (if x = d then pex d (l ++ m) else natOf x * pex d (l ++ m)) = (if x = d then pex d l else natOf x * pex d l) * pex d m
  by_cases e : x = d
  ·rw [if_pos e, if_pos e, ih]
  ·rw [if_neg e, if_neg e, ih, Nat.mul_assoc]
theorem pex_take_succ (d : ByteArray) {L : List ByteArray} {k : Nat} (h : k < L.length) : pex d (L.take (k + 1)) = pex d (L.take k) * (if nt L k = d then 1 else natOf (nt L k)) := by
 rw [List.take_add_one, List.getElem?_eq_getElem h, pex_append]
 congr 1
 unfold nt
 rw [List.getD_eq_getElem?_getD, List.getElem?_eq_getElem h]
 simp [pex]
theorem bd_pex {d : ByteArray} {k : Nat} : ∀ {L : List ByteArray}, (∀ x ∈ L, x.size ≤ k) → Bd (pex d L : Int) (k * L.length + 1)
 | [], _ => by show (1 : Int).natAbs < 256 ^ (k * 0 + 1); simp
 | x :: l, h => by
  have ih := bd_pex (d := d) (L := l) (fun y hy => h y (by simp [hy]))
  show Bd ((if x = d then pex d l else natOf x * pex d l : Nat) : Int) (k * (l.length + 1) + 1)
  by_cases e : x = d
  ·rw [if_pos e]; exact ih.mono (Nat.succ_le_succ (Nat.mul_le_mul_left k (by omega)))
  ·rw [if_neg e, Int.natCast_mul, Nat.mul_succ, show k * l.length + k + 1 = k + (k * l.length + 1) by omega]
   exact Bd.mul (bd_zOf (n := false) (h x (by simp))) ih
open Go.RowKit
def clr (q : Nat → Rat) (L : List ByteArray) (k : Nat) : Nat → Int := fun j => if j < k then (q j).num * (pex (strOf (q j).den) L : Nat) else 0
def clm (q : Nat → Rat) (L : List ByteArray) (k m : Nat) : Nat → Int := upZ (clr q L k) k ((q k).num * (pex (strOf (q k).den) (L.take m) : Nat))
theorem clm_all (q : Nat → Rat) (L : List ByteArray) (k : Nat) : clm q L k L.length = clr q L (k + 1) := by
 funext j
 unfold clm upZ clr
 rw [List.take_of_length_le (Nat.le_refl _)]
 by_cases e : j = k
 ·subst e; rw [if_pos rfl, if_pos (by omega)]
 ·rw [if_neg e]
  by_cases c : j < k
  ·rw [if_pos c, if_pos (by omega)]
  ·rw [if_neg c, if_neg (by omega)]
theorem upZ_up (z : Nat → Int) (k : Nat) (x y : Int) : upZ (upZ z k x) k y = upZ z k y := by
 funext j
 unfold upZ
 by_cases e : j = k
 ·rw [if_pos e, if_pos e]
 ·rw [if_neg e, if_neg e, if_neg e]
theorem upZ_at (z : Nat → Int) (k : Nat) (x : Int) : upZ z k x k = x := by unfold upZ; rw [if_pos rfl]
theorem nfZ_nat (m : Nat) : nfZ (m : Int) = false := by unfold nfZ; exact decide_eq_false (by omega)
theorem cleared_any (a : Option Addr) (n cap : Nat) (q : Nat → Rat) (vd : Value) (L : List ByteArray) (w : World) (hn : n ≤ 1000) (h : RdQ w a n (fun j => nfZ (q j).num) (fun j => sfZ (q j).num) (fun j => strOf (q j).den)) (hv : RdS w vd L) (hL : L.length ≤ 40) (ho : ∀ x ∈ L, OkS x ∧ x.size ≤ 170) (hb : ∀ j, j < n → Bd (q j).num 170) :
  Calls Tryz.prog 124 #[.slice a n cap, vd] w fun e w' => ∃ g, e = .returned (.slice (some ⟨g, 0, none⟩) n n) ∧ Cells w' g 24 (n * 2) (fz (clr q L n)) ∧ w.heap.size ≤ g ∧ Below w.heap.size w w' := by
 obtain ⟨ad, capd, rfl, -, -⟩ := id hv
 replace h := shut h
 replace hv := shut hv
 replace ho := shut ho
 replace hb := shut hb
 have HM : Hid (∀ (x y : Int) (w1 : World), Bd x 8081 → Bd y 8081 → Calls Tryz.prog 154 #[.agg #[.bool (nfZ x), .string (sfZ x)], .agg #[.bool (nfZ y), .string (sfZ y)]] w1 (Re w1 (.agg #[.bool (nfZ (x * y)), .string (sfZ (x * y))]))) := fun x y w1 bx bY => lMul_any x y w1 (by omega) bx bY
 generalize hM : L.length = m at *
 go_enter Tryz.func124, Tryz.ntmps124
 go_wp2_with (at_make; refine wpList_mkZ rfl _ _ rfl _ n rfl rfl (by omega) (by omega) ?_; intro w1 k1 b1)
 have K1 : Hid (Cells w1 w.heap.size 24 (n * 2) (fz (clr q L 0))) := by
  show Cells _ _ _ _ _
  refine k1.congr fun i hi => ?_
  unfold fz clr
  simp
 clear k1
 go_loopw [15] (fun i wr => ∃ k : Nat, k ≤ n ∧ i = .int .i64 k ∧ Cells wr w.heap.size 24 (n * 2) (fz (clr q L k)) ∧ Below w.heap.size w wr) (fun i _ => n - (intOf i).toNat)
 case atStart => exact ⟨0, by omega, rfl, K1.out, b1⟩
 case round =>
  clear K1 b1
  obtain ⟨k, hk, rfl, kg, bb⟩ := hrel
  by_cases hkn : k < n
  ·obtain ⟨b, off, rfl, h0, h1, h2⟩ := h.out.below bb k hkn
   have hne : Hid (¬ wr.heap.size = w.heap.size) := by have := kg.lt; show ¬ _; omega
   have c0 := (kg.alloc (.cells #[.bool (nfZ (q k).num), .string (sfZ (q k).num), .string (strOf (q k).den)] 26)).z0 hkn
   have c1 := (kg.alloc (.cells #[.bool (nfZ (q k).num), .string (sfZ (q k).num), .string (strOf (q k).den)] 26)).z1 hkn
   have f0 := (kg.alloc (.cells #[.bool (nfZ (q k).num), .string (sfZ (q k).num), .string (strOf (q k).den)] 26)).frozen (k * 2)
   have f1 := (kg.alloc (.cells #[.bool (nfZ (q k).num), .string (sfZ (q k).num), .string (strOf (q k).den)] 26)).frozen (k * 2 + 1)
   go_wp2_with fail
   obtain ⟨w2, hw⟩ : ∃ x, x = ((wr.alloc (.cells #[.bool (nfZ (q k).num), .string (sfZ (q k).num), .string (strOf (q k).den)] 26)).setCell ⟨w.heap.size, k * 2, none⟩ (.bool (nfZ (q k).num))).setCell ⟨w.heap.size, k * 2 + 1, none⟩ (.string (sfZ (q k).num)) := ⟨_, rfl⟩
   rw [← hw]
   have kz : Cells w2 w.heap.size 24 (n * 2) (fz (clm q L k 0)) := by
    have := (kg.alloc (.cells #[.bool (nfZ (q k).num), .string (sfZ (q k).num), .string (strOf (q k).den)] 26)).putZ k (q k).num
    rw [← hw] at this
    unfold clm
    rw [show (q k).num * ((pex (strOf (q k).den) (L.take 0) : Nat) : Int) = (q k).num by simp [pex]]
    exact this
   have kp : Cel w2 wr.heap.size [.bool (nfZ (q k).num), .string (sfZ (q k).num), .string (strOf (q k).den)] 26 := by
    rw [hw]
    exact ((Cel.new wr [.bool (nfZ (q k).num), .string (sfZ (q k).num), .string (strOf (q k).den)] 26).other hne.out _ _).other hne.out _ _
   have b2 : Below w.heap.size w w2 := by
    rw [hw]
    exact bset (bset (ba bb _) (Nat.le_refl _) _ _) (Nat.le_refl _) _ _
   clear hw c0 c1 f0 f1 h0 h1 h2 kg bb
   generalize wr.heap.size = p at *
   go_loopw [27] (fun i wi => ∃ l : Nat, l ≤ m ∧ i = .int .i64 l ∧ Cells wi w.heap.size 24 (n * 2) (fz (clm q L k l)) ∧ Cel wi p [.bool (nfZ (q k).num), .string (sfZ (q k).num), .string (strOf (q k).den)] 26 ∧ Below w.heap.size w wi) (fun i _ => m - (intOf i).toNat)
   case atStart => exact ⟨0, by omega, rfl, kz, kp, b2⟩
   case round =>
    clear kz kp b2
    obtain ⟨l, hl, rfl, kz, kp, bb⟩ := hrel
    by_cases hlm : l < m
    ·have hlL : l < L.length := by omega
     obtain ⟨ad', capd', e', -, hc⟩ := hv.out.below bb
     simp only [Value.slice.injEq] at e'
     obtain ⟨rfl, -, rfl⟩ := e'
     obtain ⟨bd, offd, rfl, d0⟩ := hc l (by omega)
     clear hc
     have p2 := cel3_2 kp
     have z0 := kz.z0 hkn
     have z1 := kz.z1 hkn
     have g0 := kz.frozen (k * 2)
     have g1 := kz.frozen (k * 2 + 1)
     have hp := pex_take_succ (strOf (q k).den) hlL
     by_cases he : nt L l = strOf (q k).den
     ·have he' : ((nt L l).toList == (strOf (q k).den).toList) = true := by rw [he]; exact beq_self_eq_true _
      have kz' : Hid (Cells wr w.heap.size 24 (n * 2) (fz (clm q L k (l + 1)))) := by
       show Cells _ _ _ _ _
       unfold clm at kz ⊢
       rw [hp, if_pos he, Nat.mul_one]
       exact kz
      clear he hp z0 z1 g0 g1
      go_wp2
      exact ⟨⟨l + 1, by omega, by go_num, kz'.out, kp, bb⟩, by simp [intOf]; omega⟩
     ·have he' : ((nt L l).toList == (strOf (q k).den).toList) = false := by rw [toList_eq_iff]; exact decide_eq_false he
      have ed : clm q L k l k = (q k).num * ((pex (strOf (q k).den) (L.take l) : Nat) : Int) := upZ_at _ _ _
      obtain ⟨x, hx⟩ : ∃ x, x = clm q L k l k := ⟨_, rfl⟩
      obtain ⟨y, hy⟩ : ∃ y : Int, y = ((natOf (nt L l) : Nat) : Int) := ⟨_, rfl⟩
      have od := ho.out _ (nt_mem hlL)
      have bx : Bd x 8081 := by
       rw [hx, ed]
       have := (Bd.mul (hb.out k hkn) (bd_pex (d := strOf (q k).den) (k := 170) (L := L.take l) (fun u hu => (ho.out u (List.mem_of_mem_take hu)).2)))
       refine this.mono ?_
       rw [List.length_take]
       omega
      have bY : Bd y 8081 := by rw [hy]; exact (bd_zOf (n := false) od.2).mono (by omega)
      have HX := shut (fun w1 => HM.out x y w1 bx bY)
      have ey : nfZ y = false ∧ sfZ y = nt L l := by rw [hy]; exact ⟨nfZ_nat _, strOf_natOf od.1⟩
      rw [ey.1, ey.2] at HX
      have ez : Hid (upZ (clm q L k l) k (x * y) = clm q L k (l + 1)) := by
       show _ = _
       rw [hx, ed, hy]
       unfold clm
       rw [upZ_up, hp, if_neg he, Int.natCast_mul, Int.mul_assoc]
      rw [← hx] at z0 z1
      clear hx hy ed bx bY ey he hp od
      go_wp2_with fail
      go_fit (HX.out _)
      rintro e w3 ⟨rfl, b1⟩
      replace kz := kz.below b1
      replace kp := kp.below b1
      replace bb := Below.after bb b1
      clear b1 z0 z1 g0 g1 p2 d0
      have z0 := kz.z0 hkn
      have z1 := kz.z1 hkn
      have g0 := kz.frozen (k * 2)
      have g1 := kz.frozen (k * 2 + 1)
      go_wp2
      refine ⟨⟨l + 1, by omega, by go_num, ?_, (kp.other hne.out _ _).other hne.out _ _, bset (bset bb (Nat.le_refl _) _ _) (Nat.le_refl _) _ _⟩, by simp [intOf]; omega⟩
      rw [← ez.out]
      exact kz.putZ k (x * y)
    ·obtain rfl : l = m := by omega
     have kz' : Hid (Cells wr w.heap.size 24 (n * 2) (fz (clr q L (k + 1)))) := by
      show Cells _ _ _ _ _
      rw [← hM, clm_all] at kz
      exact kz
     clear kz
     go_wp2
     exact ⟨⟨k + 1, by omega, by go_num, kz'.out, bb⟩, by simp [intOf]; omega⟩
  ·obtain rfl : k = n := by omega
   go_wp2
   go_ret
   exact ⟨w.heap.size, rfl, kg, by omega, bb⟩
open Go.RowKit
theorem reckon_sum (n0 n1 pN : Bool) (s0 d0 s1 d1 pS qS : ByteArray) (EE : Int) (w : World)
  (HC : Hid (∀ (B : Nat) (w1 : World), Below w.heap.size w w1 → Cel w1 B [.bool n0, .string s0, .string d0, .bool n1, .string s1, .string d1] 26 → Calls Tryz.prog 126 #[.slice (some ⟨B, 0, none⟩) 2 2] w1 (Re w1 (.int .i64 0))))
  (H1 : Hid (∀ w1, Below w.heap.size w w1 → Calls Tryz.prog 128 #[.agg #[.bool n0, .string s0, .string d0], .agg #[.bool n1, .string s1, .string d1]] w1 (Re w1 (.tuple #[.agg #[.bool pN, .string pS, .string qS], .int .i64 EE])))) :
  Calls Tryz.prog 91 #[.agg #[.bool n0, .string s0, .string d0], .agg #[.bool n1, .string s1, .string d1], .func (.func 128) #[] #[]] w (Re w (.tuple #[.agg #[.bool pN, .string pS, .string qS], .int .i64 EE])) := by
 go_enter Tryz.func91, Tryz.ntmps91
 go_wp2_with fail
 obtain ⟨w1, hw, ka, kb, kr, kl, b1⟩ := mk4 w [.bool n0, .string s0, .string d0] [.bool n1, .string s1, .string d1] [.bool false, .string { data := #[] }, .string { data := #[] }] [.bool n0, .string s0, .string d0, .bool n1, .string s1, .string d1] 26 26 26 26
 rw [← hw]
 clear hw
 have sz := b1.size
 have ta := ka.lt
 have tb := kb.lt
 have tr := kr.lt
 have tl := kl.lt
 have bb := b1
 clear b1
 go_fit (HC.out _ _ bb kl)
 rintro e w2 ⟨rfl, b1⟩
 have sz := b1.size
 replace ka := ka.below b1
 replace kb := kb.below b1
 replace kr := kr.below b1
 replace kl := kl.below b1
 replace bb := Below.after bb b1
 clear b1
 clear kl
 obtain ⟨ca_0, ca_1, ca_2⟩ := xk3 ka
 obtain ⟨cb_3, cb_4, cb_5⟩ := xk3 kb
 go_wp2_with fail
 clear ca_0 ca_1 ca_2 cb_3 cb_4 cb_5
 go_fit (H1.out _ bb)
 rintro e w3 ⟨rfl, b1⟩
 have sz := b1.size
 replace ka := ka.below b1
 replace kb := kb.below b1
 replace kr := kr.below b1
 replace bb := Below.after bb b1
 clear b1
 have cr_0 := cel3_0 kr
 have fr_1 := Cel.frozen kr 0
 have cr_2 := cel3_1 kr
 have fr_3 := Cel.frozen kr 1
 have cr_4 := cel3_2 kr
 have fr_5 := Cel.frozen kr 2
 go_wp2
 exact post_q1 (p := 6) (u := 7) (v := .int .i64 EE) (by kernel_rfl) rfl rfl rfl (((kr.set 0 _).set 1 _).set 2 _) ⟨rfl, bset (bset (bset bb (by omega) 0 _) (by omega) 1 _) (by omega) 2 _⟩
theorem add_walk (n0 n1 pN : Bool) (s0 d0 s1 d1 pS qS : ByteArray) (EE : Int) (w : World)
  (H1 : Hid (∀ w1, Below w.heap.size w w1 → Calls Tryz.prog 91 #[.agg #[.bool n0, .string s0, .string d0], .agg #[.bool n1, .string s1, .string d1], .func (.func 128) #[] #[]] w1 (Re w1 (.tuple #[.agg #[.bool pN, .string pS, .string qS], .int .i64 EE])))) :
  Calls Tryz.prog 94 #[.agg #[.bool n0, .string s0, .string d0], .agg #[.bool n1, .string s1, .string d1]] w (Re w (.tuple #[.agg #[.bool pN, .string pS, .string qS], .int .i64 EE])) := by
 go_enter Tryz.func94, Tryz.ntmps94
 go_wp2_with fail
 go_fit (H1.out _ (ba (ba (ba (Below.refl _ _) _) _) _))
 rintro e w1 ⟨rfl, b1⟩
 obtain ⟨ka, kb, kr, b1⟩ := al3 b1
 have sz := b1.size
 have bb := b1
 clear b1
 have ta := ka.lt
 have tb := kb.lt
 have tr := kr.lt
 have cr_0 := cel3_0 kr
 have fr_1 := Cel.frozen kr 0
 have cr_2 := cel3_1 kr
 have fr_3 := Cel.frozen kr 1
 have cr_4 := cel3_2 kr
 have fr_5 := Cel.frozen kr 2
 go_wp2
 exact post_q1 (p := 4) (u := 5) (v := .int .i64 EE) (by kernel_rfl) rfl rfl rfl (((kr.set 0 _).set 1 _).set 2 _) ⟨rfl, bset (bset (bset bb (by omega) 0 _) (by omega) 1 _) (by omega) 2 _⟩
theorem reckon_difference (n0 n1 pN : Bool) (s0 d0 s1 d1 pS qS : ByteArray) (EE : Int) (w : World)
  (HC : Hid (∀ (B : Nat) (w1 : World), Below w.heap.size w w1 → Cel w1 B [.bool n0, .string s0, .string d0, .bool n1, .string s1, .string d1] 26 → Calls Tryz.prog 126 #[.slice (some ⟨B, 0, none⟩) 2 2] w1 (Re w1 (.int .i64 0))))
  (H1 : Hid (∀ w1, Below w.heap.size w w1 → Calls Tryz.prog 121 #[.agg #[.bool n0, .string s0, .string d0], .agg #[.bool n1, .string s1, .string d1]] w1 (Re w1 (.tuple #[.agg #[.bool pN, .string pS, .string qS], .int .i64 EE])))) :
  Calls Tryz.prog 91 #[.agg #[.bool n0, .string s0, .string d0], .agg #[.bool n1, .string s1, .string d1], .func (.func 121) #[] #[]] w (Re w (.tuple #[.agg #[.bool pN, .string pS, .string qS], .int .i64 EE])) := by
 go_enter Tryz.func91, Tryz.ntmps91
 go_wp2_with fail
 obtain ⟨w1, hw, ka, kb, kr, kl, b1⟩ := mk4 w [.bool n0, .string s0, .string d0] [.bool n1, .string s1, .string d1] [.bool false, .string { data := #[] }, .string { data := #[] }] [.bool n0, .string s0, .string d0, .bool n1, .string s1, .string d1] 26 26 26 26
 rw [← hw]
 clear hw
 have sz := b1.size
 have ta := ka.lt
 have tb := kb.lt
 have tr := kr.lt
 have tl := kl.lt
 have bb := b1
 clear b1
 go_fit (HC.out _ _ bb kl)
 rintro e w2 ⟨rfl, b1⟩
 have sz := b1.size
 replace ka := ka.below b1
 replace kb := kb.below b1
 replace kr := kr.below b1
 replace kl := kl.below b1
 replace bb := Below.after bb b1
 clear b1
 clear kl
 obtain ⟨ca_0, ca_1, ca_2⟩ := xk3 ka
 obtain ⟨cb_3, cb_4, cb_5⟩ := xk3 kb
 go_wp2_with fail
 clear ca_0 ca_1 ca_2 cb_3 cb_4 cb_5
 go_fit (H1.out _ bb)
 rintro e w3 ⟨rfl, b1⟩
 have sz := b1.size
 replace ka := ka.below b1
 replace kb := kb.below b1
 replace kr := kr.below b1
 replace bb := Below.after bb b1
 clear b1
 have cr_0 := cel3_0 kr
 have fr_1 := Cel.frozen kr 0
 have cr_2 := cel3_1 kr
 have fr_3 := Cel.frozen kr 1
 have cr_4 := cel3_2 kr
 have fr_5 := Cel.frozen kr 2
 go_wp2
 exact post_q1 (p := 6) (u := 7) (v := .int .i64 EE) (by kernel_rfl) rfl rfl rfl (((kr.set 0 _).set 1 _).set 2 _) ⟨rfl, bset (bset (bset bb (by omega) 0 _) (by omega) 1 _) (by omega) 2 _⟩
theorem sub_walk (n0 n1 pN : Bool) (s0 d0 s1 d1 pS qS : ByteArray) (EE : Int) (w : World)
  (H1 : Hid (∀ w1, Below w.heap.size w w1 → Calls Tryz.prog 91 #[.agg #[.bool n0, .string s0, .string d0], .agg #[.bool n1, .string s1, .string d1], .func (.func 121) #[] #[]] w1 (Re w1 (.tuple #[.agg #[.bool pN, .string pS, .string qS], .int .i64 EE])))) :
  Calls Tryz.prog 86 #[.agg #[.bool n0, .string s0, .string d0], .agg #[.bool n1, .string s1, .string d1]] w (Re w (.tuple #[.agg #[.bool pN, .string pS, .string qS], .int .i64 EE])) := by
 go_enter Tryz.func86, Tryz.ntmps86
 go_wp2_with fail
 go_fit (H1.out _ (ba (ba (ba (Below.refl _ _) _) _) _))
 rintro e w1 ⟨rfl, b1⟩
 obtain ⟨ka, kb, kr, b1⟩ := al3 b1
 have sz := b1.size
 have bb := b1
 clear b1
 have ta := ka.lt
 have tb := kb.lt
 have tr := kr.lt
 have cr_0 := cel3_0 kr
 have fr_1 := Cel.frozen kr 0
 have cr_2 := cel3_1 kr
 have fr_3 := Cel.frozen kr 1
 have cr_4 := cel3_2 kr
 have fr_5 := Cel.frozen kr 2
 go_wp2
 exact post_q1 (p := 4) (u := 5) (v := .int .i64 EE) (by kernel_rfl) rfl rfl rfl (((kr.set 0 _).set 1 _).set 2 _) ⟨rfl, bset (bset (bset bb (by omega) 0 _) (by omega) 1 _) (by omega) 2 _⟩
theorem reckon_product (n0 n1 pN : Bool) (s0 d0 s1 d1 pS qS : ByteArray) (EE : Int) (w : World)
  (HC : Hid (∀ (B : Nat) (w1 : World), Below w.heap.size w w1 → Cel w1 B [.bool n0, .string s0, .string d0, .bool n1, .string s1, .string d1] 26 → Calls Tryz.prog 126 #[.slice (some ⟨B, 0, none⟩) 2 2] w1 (Re w1 (.int .i64 0))))
  (H1 : Hid (∀ w1, Below w.heap.size w w1 → Calls Tryz.prog 127 #[.agg #[.bool n0, .string s0, .string d0], .agg #[.bool n1, .string s1, .string d1]] w1 (Re w1 (.tuple #[.agg #[.bool pN, .string pS, .string qS], .int .i64 EE])))) :
  Calls Tryz.prog 91 #[.agg #[.bool n0, .string s0, .string d0], .agg #[.bool n1, .string s1, .string d1], .func (.func 127) #[] #[]] w (Re w (.tuple #[.agg #[.bool pN, .string pS, .string qS], .int .i64 EE])) := by
 go_enter Tryz.func91, Tryz.ntmps91
 go_wp2_with fail
 obtain ⟨w1, hw, ka, kb, kr, kl, b1⟩ := mk4 w [.bool n0, .string s0, .string d0] [.bool n1, .string s1, .string d1] [.bool false, .string { data := #[] }, .string { data := #[] }] [.bool n0, .string s0, .string d0, .bool n1, .string s1, .string d1] 26 26 26 26
 rw [← hw]
 clear hw
 have sz := b1.size
 have ta := ka.lt
 have tb := kb.lt
 have tr := kr.lt
 have tl := kl.lt
 have bb := b1
 clear b1
 go_fit (HC.out _ _ bb kl)
 rintro e w2 ⟨rfl, b1⟩
 have sz := b1.size
 replace ka := ka.below b1
 replace kb := kb.below b1
 replace kr := kr.below b1
 replace kl := kl.below b1
 replace bb := Below.after bb b1
 clear b1
 clear kl
 obtain ⟨ca_0, ca_1, ca_2⟩ := xk3 ka
 obtain ⟨cb_3, cb_4, cb_5⟩ := xk3 kb
 go_wp2_with fail
 clear ca_0 ca_1 ca_2 cb_3 cb_4 cb_5
 go_fit (H1.out _ bb)
 rintro e w3 ⟨rfl, b1⟩
 have sz := b1.size
 replace ka := ka.below b1
 replace kb := kb.below b1
 replace kr := kr.below b1
 replace bb := Below.after bb b1
 clear b1
 have cr_0 := cel3_0 kr
 have fr_1 := Cel.frozen kr 0
 have cr_2 := cel3_1 kr
 have fr_3 := Cel.frozen kr 1
 have cr_4 := cel3_2 kr
 have fr_5 := Cel.frozen kr 2
 go_wp2
 exact post_q1 (p := 6) (u := 7) (v := .int .i64 EE) (by kernel_rfl) rfl rfl rfl (((kr.set 0 _).set 1 _).set 2 _) ⟨rfl, bset (bset (bset bb (by omega) 0 _) (by omega) 1 _) (by omega) 2 _⟩
theorem mul_walk (n0 n1 pN : Bool) (s0 d0 s1 d1 pS qS : ByteArray) (EE : Int) (w : World)
  (H1 : Hid (∀ w1, Below w.heap.size w w1 → Calls Tryz.prog 91 #[.agg #[.bool n0, .string s0, .string d0], .agg #[.bool n1, .string s1, .string d1], .func (.func 127) #[] #[]] w1 (Re w1 (.tuple #[.agg #[.bool pN, .string pS, .string qS], .int .i64 EE])))) :
  Calls Tryz.prog 93 #[.agg #[.bool n0, .string s0, .string d0], .agg #[.bool n1, .string s1, .string d1]] w (Re w (.tuple #[.agg #[.bool pN, .string pS, .string qS], .int .i64 EE])) := by
 go_enter Tryz.func93, Tryz.ntmps93
 go_wp2_with fail
 go_fit (H1.out _ (ba (ba (ba (Below.refl _ _) _) _) _))
 rintro e w1 ⟨rfl, b1⟩
 obtain ⟨ka, kb, kr, b1⟩ := al3 b1
 have sz := b1.size
 have bb := b1
 clear b1
 have ta := ka.lt
 have tb := kb.lt
 have tr := kr.lt
 have cr_0 := cel3_0 kr
 have fr_1 := Cel.frozen kr 0
 have cr_2 := cel3_1 kr
 have fr_3 := Cel.frozen kr 1
 have cr_4 := cel3_2 kr
 have fr_5 := Cel.frozen kr 2
 go_wp2
 exact post_q1 (p := 4) (u := 5) (v := .int .i64 EE) (by kernel_rfl) rfl rfl rfl (((kr.set 0 _).set 1 _).set 2 _) ⟨rfl, bset (bset (bset bb (by omega) 0 _) (by omega) 1 _) (by omega) 2 _⟩
theorem reckon_quotient (n0 n1 pN : Bool) (s0 d0 s1 d1 pS qS : ByteArray) (EE : Int) (w : World)
  (HC : Hid (∀ (B : Nat) (w1 : World), Below w.heap.size w w1 → Cel w1 B [.bool n0, .string s0, .string d0, .bool n1, .string s1, .string d1] 26 → Calls Tryz.prog 126 #[.slice (some ⟨B, 0, none⟩) 2 2] w1 (Re w1 (.int .i64 0))))
  (H1 : Hid (∀ w1, Below w.heap.size w w1 → Calls Tryz.prog 92 #[.agg #[.bool n0, .string s0, .string d0], .agg #[.bool n1, .string s1, .string d1]] w1 (Re w1 (.tuple #[.agg #[.bool pN, .string pS, .string qS], .int .i64 EE])))) :
  Calls Tryz.prog 91 #[.agg #[.bool n0, .string s0, .string d0], .agg #[.bool n1, .string s1, .string d1], .func (.func 92) #[] #[]] w (Re w (.tuple #[.agg #[.bool pN, .string pS, .string qS], .int .i64 EE])) := by
 go_enter Tryz.func91, Tryz.ntmps91
 go_wp2_with fail
 obtain ⟨w1, hw, ka, kb, kr, kl, b1⟩ := mk4 w [.bool n0, .string s0, .string d0] [.bool n1, .string s1, .string d1] [.bool false, .string { data := #[] }, .string { data := #[] }] [.bool n0, .string s0, .string d0, .bool n1, .string s1, .string d1] 26 26 26 26
 rw [← hw]
 clear hw
 have sz := b1.size
 have ta := ka.lt
 have tb := kb.lt
 have tr := kr.lt
 have tl := kl.lt
 have bb := b1
 clear b1
 go_fit (HC.out _ _ bb kl)
 rintro e w2 ⟨rfl, b1⟩
 have sz := b1.size
 replace ka := ka.below b1
 replace kb := kb.below b1
 replace kr := kr.below b1
 replace kl := kl.below b1
 replace bb := Below.after bb b1
 clear b1
 clear kl
 obtain ⟨ca_0, ca_1, ca_2⟩ := xk3 ka
 obtain ⟨cb_3, cb_4, cb_5⟩ := xk3 kb
 go_wp2_with fail
 clear ca_0 ca_1 ca_2 cb_3 cb_4 cb_5
 go_fit (H1.out _ bb)
 rintro e w3 ⟨rfl, b1⟩
 have sz := b1.size
 replace ka := ka.below b1
 replace kb := kb.below b1
 replace kr := kr.below b1
 replace bb := Below.after bb b1
 clear b1
 have cr_0 := cel3_0 kr
 have fr_1 := Cel.frozen kr 0
 have cr_2 := cel3_1 kr
 have fr_3 := Cel.frozen kr 1
 have cr_4 := cel3_2 kr
 have fr_5 := Cel.frozen kr 2
 go_wp2
 exact post_q1 (p := 6) (u := 7) (v := .int .i64 EE) (by kernel_rfl) rfl rfl rfl (((kr.set 0 _).set 1 _).set 2 _) ⟨rfl, bset (bset (bset bb (by omega) 0 _) (by omega) 1 _) (by omega) 2 _⟩
theorem div_walk (n0 n1 pN : Bool) (s0 d0 s1 d1 pS qS : ByteArray) (EE : Int) (w : World)
  (H1 : Hid (∀ w1, Below w.heap.size w w1 → Calls Tryz.prog 91 #[.agg #[.bool n0, .string s0, .string d0], .agg #[.bool n1, .string s1, .string d1], .func (.func 92) #[] #[]] w1 (Re w1 (.tuple #[.agg #[.bool pN, .string pS, .string qS], .int .i64 EE])))) :
  Calls Tryz.prog 44 #[.agg #[.bool n0, .string s0, .string d0], .agg #[.bool n1, .string s1, .string d1]] w (Re w (.tuple #[.agg #[.bool pN, .string pS, .string qS], .int .i64 EE])) := by
 go_enter Tryz.func44, Tryz.ntmps44
 go_wp2_with fail
 go_fit (H1.out _ (ba (ba (ba (Below.refl _ _) _) _) _))
 rintro e w1 ⟨rfl, b1⟩
 obtain ⟨ka, kb, kr, b1⟩ := al3 b1
 have sz := b1.size
 have bb := b1
 clear b1
 have ta := ka.lt
 have tb := kb.lt
 have tr := kr.lt
 have cr_0 := cel3_0 kr
 have fr_1 := Cel.frozen kr 0
 have cr_2 := cel3_1 kr
 have fr_3 := Cel.frozen kr 1
 have cr_4 := cel3_2 kr
 have fr_5 := Cel.frozen kr 2
 go_wp2
 exact post_q1 (p := 4) (u := 5) (v := .int .i64 EE) (by kernel_rfl) rfl rfl rfl (((kr.set 0 _).set 1 _).set 2 _) ⟨rfl, bset (bset (bset bb (by omega) 0 _) (by omega) 1 _) (by omega) 2 _⟩
end Go.Proofs.YtmojdkjpcjfkeaaGreatDoor
