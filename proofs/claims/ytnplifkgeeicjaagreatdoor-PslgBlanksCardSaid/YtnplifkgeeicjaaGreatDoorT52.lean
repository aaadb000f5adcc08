/-
  PslgBlanks, walked.
-/
import Derived.Lib.AppendStr
import Derived.Lib.SlBytesConst
import Derived.Test.YtnplifkgeeicjaaGreatDoorT49
set_option maxRecDepth 20000
set_option maxHeartbeats 8000000
namespace Go.Proofs.YtnplifkgeeicjaaGreatDoor
open Go.RowKit
theorem bcells_len (l : List UInt8) : (Lib.byteCells l).length = l.length := Lib.byteCells_length l
theorem own_up {w' : World} {B : Nat} {v' : Value} {D : List UInt8} (x : UInt8) (h : w'.ownsRow B 5 1 v' (D.length + 1) (Lib.byteCells D ++ [.int .u8 (x.toNat : Nat)])) : w'.ownsRow B 5 1 v' (D ++ [x]).length (Lib.byteCells (D ++ [x])) := by
 rw [Lib.byteCells_append, List.length_append]
 exact h
theorem own_text {w : World} {B : Nat} {v : Value} {D : List UInt8} (h : w.ownsRow B 5 1 v D.length (Lib.byteCells D)) : (convert 55 9 v).run Tryz.prog w = .ok (.string ⟨D.toArray⟩) w := by
 rcases h.2 with ⟨rfl, hn⟩ | ⟨g, cap, cur, rfl, -⟩
 ·have : D = [] := List.eq_nil_of_length_eq_zero hn
  subst this
  exact run_convert_bytes_nil w 55 5 Tryz.underlying55 Tryz.underlying5 0 0 9 Tryz.underlying9
 ·have hc := h.cells (g := g) rfl
  have := run_convert_bytes_arg w 55 5 Tryz.underlying55 Tryz.underlying5 g 0 D.length cap (D.map fun x => ((x.toNat : Nat) : Int)) (by simp) (fun i hi => by
   have := hc i (.int .u8 (D[i].toNat : Nat)) (by unfold Lib.byteCells; simp [hi])
   rw [show (⟨g, 0, none⟩ : Addr).add i = ⟨g, 0 + i, none⟩ by simp [Addr.add]; omega] at this
   rw [this]
   simp [List.getD_eq_getElem?_getD, hi]) 9 Tryz.underlying9
  have e := strB_eq (D.map UInt8.toNat)
  rw [List.map_map] at e
  have e2 : strB (D.map UInt8.toNat) = ⟨D.toArray⟩ := by
   unfold strB
   rw [List.map_map, (List.map_congr_left (fun x _ => by simp) : D.map (UInt8.ofNat ∘ UInt8.toNat) = D.map id), List.map_id]
  have e3 : strOfNums (D.map fun x => ((x.toNat : Nat) : Int)) = ⟨D.toArray⟩ := by
   rw [← e2, ← e]
   rfl
  rw [this, e3]
def RowM (w : World) (B : Nat) (v : Value) (D : List UInt8) : Prop := w.ownsRow B 5 1 v D.length (Lib.byteCells D) ∨ ∃ g, B ≤ g ∧ g < w.heap.size ∧ v = .slice (some ⟨g, 0, none⟩) 3 3 ∧ D.length = 3 ∧ ∀ j u, (Lib.byteCells D)[j]? = some u → w.cell? ⟨g, j, none⟩ = some u
theorem RowM.val {w : World} {B : Nat} {v : Value} {D : List UInt8} (h : RowM w B v D) : ∃ a n c, v = .slice a n c := by
 rcases h with h | ⟨g, h1, h2, h3, h4, h5⟩
 ·obtain ⟨a, c, rfl⟩ := own_val h
  exact ⟨a, _, c, rfl⟩
 ·exact ⟨_, _, _, h3⟩
theorem RowM.alloc {w : World} {B : Nat} {v : Value} {D : List UInt8} (h : RowM w B v D) (o : Obj) : RowM (w.alloc o) B v D := by
 rcases h with h | ⟨g, h1, h2, h3, h4, h5⟩
 ·exact Or.inl (h.alloc o)
 ·refine Or.inr ⟨g, h1, by simp; omega, h3, h4, fun j u hj => ?_⟩
  rw [← h5 j u hj]
  have b1 := (Below.refl w.heap.size w).alloc (Nat.le_refl _) o
  exact b1.cell (World.block_lt_of_cell? w _ (h5 j u hj))
theorem wpList_ap8 {w : World} {ops : Array Oper} {rest : List Oper} {o : Oper} {a : Act} {Q : Exit → Act → World → Prop} (hgd : o.guard = none) (s x : Operand) (hop : o.op = Op.call { callee := Callee.builtin Builtin.append, args := #[s, x], argTypes := #[55, 55] })
  (v : Value) (D : List UInt8) (hs : a.eval s = v) (B : Nat) (hown : RowM w B v D) (hB : B ≤ w.heap.size) (y : UInt8) (b c : Nat) (hx : a.eval x = .slice (some ⟨b, 0, none⟩) 1 c) (hc : Cel w b [.int .u8 (y.toNat : Nat)] 5) (hn : D.length ≤ 1000000)
  (hK : ∀ v' w', w'.ownsRow B 5 1 v' (D ++ [y]).length (Lib.byteCells (D ++ [y])) → Below B w w' → wpList Tryz.prog ops Q rest (a.put o.dst v') w') :
  wpList Tryz.prog ops Q (o :: rest) a w := by
 obtain ⟨i0, hi, hz0, hz1, hz2⟩ := info_parts (show (Tryz.prog.info? 5).map (fun i => (i.zero, i.size, i.bytes)) = some (some (.int .u8 0), 1, 1) by kernel_rfl)
 have hnew : ∀ j u, ([.int .u8 (y.toNat : Nat)] : List Value)[j]? = some u → w.cell? ((⟨b, 0, none⟩ : Addr).add j) = some u := fun j u hj => by
  rw [show (⟨b, 0, none⟩ : Addr).add j = ⟨b, j, none⟩ by simp [Addr.add]; omega, hc.cell j]
  exact hj
 have h1 : ∀ u ∈ ([.int .u8 (y.toNat : Nat)] : List Value), u.oneCell' = true := by simp [Value.oneCell']
 rcases hown with hown | ⟨g, hg, hgl, rfl, h3, hcs⟩
 ·refine wpList_append_own w hgd s x 55 hop B 5 i0 (.int .u8 0) 1 1 Tryz.underlying55 hi hz0 hz1 hz2 rfl (by decide) v D.length _ hs hown ⟨b, 0, none⟩ 1 c _ hx rfl hnew h1 (by unfold maxLen; omega) (by omega) hB (fun v' w' k1 k2 _ => hK v' w' (own_up y k1) ?_)
  exact (Below.refl B w).grown k2 hB fun k hk => (hown.lt k hk).1
 ·refine wpList_append_grows w hgd s x 55 hop 5 i0 (.int .u8 0) 1 1 Tryz.underlying55 hi hz0 hz1 hz2 rfl (by decide) (some ⟨g, 0, none⟩) 3 3 (Lib.byteCells D) hs (fun h => by cases h) (by rw [bcells_len, h3]) (fun b' hb' j u hj => ?_) ⟨b, 0, none⟩ 1 c _ hx rfl hnew h1 (by omega) (by unfold maxLen; omega) (by omega) (fun v' w' k1 k2 => hK v' w' (own_up y ?_) ?_)
  ·injection hb' with hb'
   subst hb'
   rw [show (⟨g, 0, none⟩ : Addr).add j = ⟨g, j, none⟩ by simp [Addr.add]; omega]
   exact hcs j u hj
  ·rw [h3]
   exact own_mono k1 hB
  ·exact (Below.refl B w).grown k2 hB fun k hk => by cases hk
theorem wpList_aps8 {w : World} {ops : Array Oper} {rest : List Oper} {o : Oper} {a : Act} {Q : Exit → Act → World → Prop} (hgd : o.guard = none) (s x : Operand) (hop : o.op = Op.call { callee := Callee.builtin Builtin.append, args := #[s, x], argTypes := #[55, 9] })
  (v : Value) (D : List UInt8) (hs : a.eval s = v) (B : Nat) (hown : RowM w B v D) (hB : B ≤ w.heap.size) (t : ByteArray) (hx : a.eval x = .string t) (ht : 0 < t.size) (ht2 : t.size ≤ 1000) (hn : D.length ≤ 1000000)
  (hK : ∀ v' w', w'.ownsRow B 5 1 v' (D ++ t.data.toList).length (Lib.byteCells (D ++ t.data.toList)) → Below B w w' → wpList Tryz.prog ops Q rest (a.put o.dst v') w') :
  wpList Tryz.prog ops Q (o :: rest) a w := by
 obtain ⟨i0, hi, hz0, hz1, hz2⟩ := info_parts (show (Tryz.prog.info? 5).map (fun i => (i.zero, i.size, i.bytes)) = some (some (.int .u8 0), 1, 1) by kernel_rfl)
 have hl : t.data.toList.length = t.size := Array.length_toList
 have up : ∀ {v' : Value} {w' : World}, w'.ownsRow B 5 1 v' (D.length + t.size) (Lib.byteCells D ++ Lib.strCells t) → w'.ownsRow B 5 1 v' (D ++ t.data.toList).length (Lib.byteCells (D ++ t.data.toList)) := fun h => by
  rw [Lib.byteCells_append, List.length_append, hl, ← Lib.strCells_eq]
  exact h
 rcases hown with hown | ⟨g, hg, hgl, rfl, h3, hcs⟩
 ·refine Lib.wpList_append_own_string w hgd s x 55 9 hop B 5 i0 Tryz.underlying55 Tryz.underlying9 hi hz0 hz1 hz2 v D.length _ hs hown t hx (by unfold maxLen; omega) (by omega) hB (fun v' w' k1 k2 _ => hK v' w' (up k1) ?_)
  exact (Below.refl B w).grown k2 hB fun k hk => (hown.lt k hk).1
 ·refine wpList_plain hgd fun K hK' => ?_
  have hg4 : (3 : Nat) < 3 + t.size := by omega
  have hr := Lib.run_append_grow_string (P := Tryz.prog) (w := w) 55 9 o.type 5 i0 (.int .u8 0) Tryz.underlying55 Tryz.underlying9 hi hz0 ⟨g, 0, none⟩ 3 3 (Lib.byteCells D) (by rw [bcells_len, h3, hz1]) (fun j u hj => by
   rw [show (⟨g, 0, none⟩ : Addr).add j = ⟨g, j, none⟩ by simp [Addr.add]; omega]
   exact hcs j u hj) t hg4 (by omega) (by rw [hz2]; exact growslice_fits hg4 (by omega))
  have hge := grownCap_ge w (3 + t.size) 3 5
  have hcm : grownCap w (3 + t.size) 3 5 ≤ maxLen := grownCap_le_maxLen w (3 + t.size) 3 5 (by unfold maxLen; omega)
  unfold Oper.wp execOp
  simp only [hop, resolve, invoke, builtin, Sem.run_bind, Sem.run_pure, Result.andThen_ok, List.map_toArray, List.map_cons, List.map_nil, hs, hx, hr]
  refine hK' _ _ (hK _ _ (up ?_) ?_)
  ·rw [h3]
   refine ⟨by rw [List.length_append, bcells_len, Lib.strCells_length, h3, Nat.mul_one], .inr ⟨w.heap.size, _, _, rfl, hB, heap_alloc_new w.drew _, hge, hcm, ?_, ?_⟩⟩
   ·simp only [Array.size_append, List.size_toArray, size_zeroCells, bcells_len, Lib.strCells_length, h3]
    show 3 + t.size + (_ - (3 + t.size)) * 1 = _ * 1
    omega
   ·simp only [Array.toList_append]
    have e : (Lib.byteCells D ++ Lib.strCells t).length = (3 + t.size) * 1 := by rw [List.length_append, bcells_len, Lib.strCells_length, h3, Nat.mul_one]
    rw [← e]
    exact List.take_left
  ·exact ⟨rfl, rfl, rfl, by simp, fun k hk => heap_alloc_old w.drew _ (Nat.lt_of_lt_of_le hk hB)⟩
theorem row_first (w : World) : RowM (w.alloc (.cells #[.int .u8 10, .int .u8 9, .int .u8 32] 5 (3, 4))) w.heap.size (.slice (some ⟨w.heap.size, 0, none⟩) 3 3) [10, 9, 32] := by
 refine Or.inr ⟨w.heap.size, Nat.le_refl _, by simp, rfl, rfl, fun j u hj => ?_⟩
 have : (w.alloc (.cells #[.int .u8 10, .int .u8 9, .int .u8 32] 5 (3, 4))).heap[w.heap.size]? = some (.cells #[.int .u8 10, .int .u8 9, .int .u8 32] 5 (3, 4)) := heap_alloc_new w _
 unfold World.cell?
 rw [this]
 rw [← hj]
 exact (Array.getElem?_toList ..).symm
theorem bk8_next (l : List UInt8) (k : Nat) (hk : k < l.length) : bk8 (l.take (k + 1)) = bk8 (l.take k) ++ bk8 [l[k]] := by
 rw [List.take_succ_eq_append_getElem hk, bk8_app]
theorem bk8_len3 (l : List UInt8) (k : Nat) (h : l.length ≤ 9000) : ([10, 9, 32] ++ bk8 (l.take k)).length ≤ 18003 := by
 have h1 := bk8_len (l.take k)
 have h2 : (l.take k).length ≤ l.length := by rw [List.length_take]; omega
 rw [List.length_append]
 show 3 + _ ≤ _
 omega
theorem blanks8_long (s : ByteArray) (w : World) (hs : 9000 < s.size) (HL : Hid (∀ wi, Below w.heap.size w wi → Calls Tryz.prog 21 #[] wi (Re wi (.bool true)))) :
  Calls Tryz.prog 7 #[.string s] w (Re w (.bool true)) := by
 have hs' : (9000 : Int) < (s.size : Int) := by omega
 go_enter Tryz.func7, Tryz.ntmps7
 go_wp2_with (go_at_call 21; refine (HL.out w (Below.refl _ _)).mono ?_; rintro e w1 ⟨rfl, b1⟩)
 go_ret
 exact ⟨rfl, b1⟩
theorem blanks8_walk (s t : ByteArray) (p : Pl) (e0 : Int) (w : World) (hs : s.size ≤ 9000) (ht : t = ⟨([10, 9, 32] ++ bk8 s.data.toList ++ [32, 10]).toArray⟩) (l1 : p.pts.length ≤ 100000) (l2 : p.segs.length ≤ 100000) (l3 : p.holes.length ≤ 100000) (HL : Hid (∀ wi, Below w.heap.size w wi → Calls Tryz.prog 21 #[] wi (Re wi (.bool true))))
  (HA : Hid (∀ wi, Below w.heap.size w wi → Calls Tryz.prog 18 #[.string s] wi fun e w' => ∃ cs : List Value, e = .returned (.tuple #[.agg cs.toArray, .int .i64 e0]) ∧ PlanAt w' wi.heap.size cs p ∧ Below wi.heap.size wi w'))
  (HB : Hid (∀ wi, Below w.heap.size w wi → Calls Tryz.prog 18 #[.string t] wi fun e w' => ∃ cs : List Value, e = .returned (.tuple #[.agg cs.toArray, .int .i64 e0]) ∧ PlanAt w' wi.heap.size cs p ∧ Below wi.heap.size wi w')) :
  Calls Tryz.prog 7 #[.string s] w (Re w (.bool true)) := by
 have hs' : ¬ (9000 : Int) < (s.size : Int) := by omega
 have HS := shut (fun wi cs ds B C (k1 : PlanAt wi B cs p) (k2 : PlanAt wi C ds p) => rsame_pl p cs ds B C wi k1 k2 l1 l2 l3)
 have hl : s.data.toList.length = s.size := Array.length_toList
 have HT := shut ht
 clear l1 l2 l3 ht
 have hcv := fun (w : World) (C : Array Value) (n c : Nat) => Lib.run_convert_bytes_const (P := Tryz.prog) w 55 5 C n c Tryz.underlying55 Tryz.underlying5
 go_enter Tryz.func7, Tryz.ntmps7
 go_wp2_with fail
 have o0 := row_first w
 have B0 := (Below.refl w.heap.size w).alloc (Nat.le_refl _) (.cells #[.int .u8 10, .int .u8 9, .int .u8 32] 5 (3, 4))
 clear hcv
 go_loopw [3, 4] (fun v i wr => ∃ (k : Nat) (D : List UInt8), k ≤ s.size ∧ i = .int .i64 (k : Nat) ∧ RowM wr w.heap.size v D ∧ Below w.heap.size w wr ∧ Hid (D = [10, 9, 32] ++ bk8 (s.data.toList.take k))) (fun _ i _ => s.size - (intOf i).toNat)
 case atStart => exact ⟨0, [10, 9, 32], Nat.zero_le _, rfl, o0, B0, rfl⟩
 case round =>
  obtain ⟨k, D, hk, rfl, ho, BB, HD⟩ := hrel
  have hB : w.heap.size ≤ wr.heap.size := BB.size
  obtain ⟨av, nv, cv, rfl⟩ := ho.val
  have hD : D.length ≤ 18003 := by rw [HD.out]; exact bk8_len3 _ k (by omega)
  by_cases hlt : k < s.size
  ·have hlt' : (k : Int) < (s.size : Int) := by omega
   have q1 := lm_at s k hlt
   have hkl : k < s.data.toList.length := by omega
   obtain ⟨x, hx⟩ : ∃ x : UInt8, x = s.data.toList[k] := ⟨_, rfl⟩
   have hxz : (s[k]'hlt) = x := by rw [hx]; rfl
   have HN : Hid (bk8 (s.data.toList.take (k + 1)) = bk8 (s.data.toList.take k) ++ bk8 [x]) := by rw [hx]; exact bk8_next _ k hkl
   rw [hxz] at q1
   have x1 : (x = 32 ↔ lm (byts s) k = 32) := by
    constructor
    ·rintro rfl; have : ((32 : UInt8).toNat : Int) = 32 := rfl; omega
    ·intro h; apply UInt8.toNat_inj.1; show x.toNat = 32; omega
   have x2 : (x = 10 ↔ lm (byts s) k = 10) := by
    constructor
    ·rintro rfl; have : ((10 : UInt8).toNat : Int) = 10 := rfl; omega
    ·intro h; apply UInt8.toNat_inj.1; show x.toNat = 10; omega
   have hq := q1
   rw [← hxz] at hq
   have HX := shut (show D ++ bk8 [x] = [10, 9, 32] ++ bk8 (s.data.toList.take (k + 1)) by rw [HN.out, HD.out, List.append_assoc])
   clear HN HD hx hkl
   by_cases hb : x = 32 ∨ x = 10
   ·have HE : Hid (bk8 [x] = [x, 9]) := if_pos hb
    by_cases h32 : x = 32
    ·have z1 := x1.1 h32
     have z1' : ((lm (byts s) k : Nat) : Int) = 32 := by omega
     have q2 : ((x.toNat : Nat) : Int) = 32 := by omega
     clear x1 x2 hb h32
     generalize lm (byts s) k = z at *
     go_wp2_with (first | (refine wpList_ap8 rfl (.tmp 21) (.tmp 25) rfl _ D rfl w.heap.size (ho.alloc _) (Nat.le_trans hB (by simp)) x wr.heap.size 1 rfl (by rw [q2]; exact Cel.new _ _ _) (by omega) ?_; intro v1 w1 h1 B1; have hB1 : w.heap.size ≤ w1.heap.size := Nat.le_trans (Nat.le_trans hB (by simp)) B1.size) | (refine wpList_ap8 rfl (.tmp 37) (.tmp 38) rfl _ (D ++ [x]) rfl w.heap.size (RowM.alloc (Or.inl h1) _) (Nat.le_trans hB1 (by simp)) 9 w1.heap.size 1 rfl (Cel.new _ _ _) (by rw [List.length_append]; show D.length + 1 ≤ _; omega) ?_; intro v2 w2 h2 B2))
     go_roundw
     case rel =>
      refine ⟨k + 1, D ++ bk8 [x], by omega, by go_num, Or.inl ?_, (((BB.alloc hB _).trans B1).alloc hB1 _).trans B2, HX.out⟩
      rw [HE.out, show D ++ [x, 9] = (D ++ [x]) ++ [9] by simp]
      exact h2
     case measure => simp [intOf]; omega
    ·have z1 : ¬ lm (byts s) k = 32 := fun h => h32 (x1.2 h)
     have h10 : x = 10 := hb.resolve_left h32
     have z2 := x2.1 h10
     have z1' : ¬ ((lm (byts s) k : Nat) : Int) = 32 := by omega
     have z2' : ((lm (byts s) k : Nat) : Int) = 10 := by omega
     have q2 : ((x.toNat : Nat) : Int) = 10 := by omega
     clear x1 x2 hb h32 h10
     generalize lm (byts s) k = z at *
     go_wp2_with (first | (refine wpList_ap8 rfl (.tmp 21) (.tmp 25) rfl _ D rfl w.heap.size (ho.alloc _) (Nat.le_trans hB (by simp)) x wr.heap.size 1 rfl (by rw [q2]; exact Cel.new _ _ _) (by omega) ?_; intro v1 w1 h1 B1; have hB1 : w.heap.size ≤ w1.heap.size := Nat.le_trans (Nat.le_trans hB (by simp)) B1.size) | (refine wpList_ap8 rfl (.tmp 37) (.tmp 38) rfl _ (D ++ [x]) rfl w.heap.size (RowM.alloc (Or.inl h1) _) (Nat.le_trans hB1 (by simp)) 9 w1.heap.size 1 rfl (Cel.new _ _ _) (by rw [List.length_append]; show D.length + 1 ≤ _; omega) ?_; intro v2 w2 h2 B2))
     go_roundw
     case rel =>
      refine ⟨k + 1, D ++ bk8 [x], by omega, by go_num, Or.inl ?_, (((BB.alloc hB _).trans B1).alloc hB1 _).trans B2, HX.out⟩
      rw [HE.out, show D ++ [x, 9] = (D ++ [x]) ++ [9] by simp]
      exact h2
     case measure => simp [intOf]; omega
   ·have HE : Hid (bk8 [x] = [x]) := if_neg hb
    have z1 : ¬ lm (byts s) k = 32 := fun h => hb (Or.inl (x1.2 h))
    have z2 : ¬ lm (byts s) k = 10 := fun h => hb (Or.inr (x2.2 h))
    have z1' : ¬ ((lm (byts s) k : Nat) : Int) = 32 := by omega
    have z2' : ¬ ((lm (byts s) k : Nat) : Int) = 10 := by omega
    have y1 : (((lm (byts s) k : Nat) : Int) == 32) = false := by simpa using z1'
    have y2 : (((lm (byts s) k : Nat) : Int) == 10) = false := by simpa using z2'
    clear x1 x2 hb z1 z2 z1' z2'
    generalize lm (byts s) k = z at *
    go_wp2_with (refine wpList_ap8 rfl (.tmp 21) (.tmp 25) rfl _ D rfl w.heap.size (ho.alloc _) (Nat.le_trans hB (by simp)) x wr.heap.size 1 rfl (by rw [q1]; exact Cel.new _ _ _) (by omega) ?_; intro v1 w1 h1 B1; have hB1 : w.heap.size ≤ w1.heap.size := Nat.le_trans (Nat.le_trans hB (by simp)) B1.size)
    go_roundw
    case rel =>
     refine ⟨k + 1, D ++ bk8 [x], by omega, by go_num, Or.inl ?_, (BB.alloc hB _).trans B1, HX.out⟩
     rw [HE.out]
     exact h1
    case measure => simp [intOf]; omega
  ·obtain rfl : k = s.size := by omega
   have hge : ¬ (s.size : Int) < (s.size : Int) := by omega
   have HD2 := shut (show (⟨(D ++ [32, 10]).toArray⟩ : ByteArray) = t by rw [HT.out, HD.out, List.take_of_length_le (by omega)])
   clear HD HT
   go_upto_region 12 with (first | (refine wpList_aps8 rfl (.tmp 40) (.const (.string ⟨#[32, 10]⟩)) rfl _ D rfl w.heap.size ho hB ⟨#[32, 10]⟩ rfl (by decide) (by decide) (by omega) ?_; intro v3 w3 h3 B3) | (go_at_call 18; refine (HA.out w3 (BB.trans B3)).mono ?_; rintro e w4 ⟨cs, rfl, hp, b4⟩; have hlen := hp.len; obtain ⟨w5, hst, k5, b5⟩ := fresh39 w4 cs hp.len hp.one))
   have B5 := Below.after (Below.after (BB.trans B3) b4) b5
   have hp5 := hp.below b5
   have h5 := own_below (own_below h3 b4) b5
   have hcv := own_text h5
   rw [show D ++ (⟨#[32, 10]⟩ : ByteArray).data.toList = D ++ [32, 10] from rfl, HD2.out] at hcv
   obtain ⟨a3, c3, rfl⟩ := own_val h5
   clear hst b4 b5 hp h3 h5 B3 BB ho HA HD2 hD
   generalize (D ++ (⟨#[32, 10]⟩ : ByteArray).data.toList).length = n3 at hcv ⊢
   go_upto_region 13 with (go_at_call 18; refine (HB.out w5 B5).mono ?_; rintro e w6 ⟨ds, rfl, hq, b6⟩; have hlen' := hq.len; obtain ⟨w7, hst, k7, b7⟩ := fresh39 w6 ds hq.len hq.one)
   have B7 := Below.after (Below.after B5 b6) b7
   have hp7 := (hp5.below b6).below b7
   have hq7 := hq.below b7
   have rz := celA ((k5.below b6).below b7)
   have rd := celA k7
   clear hst b6 b7 hq hp5 k5 k7 HB B5 hcv
   go_wp2_with (first | (refine wpList_load_midG (by rfl) 46 _ rfl w4.heap.size 0 rfl cs _ rz Tryz.underlying46 rfl (by rw [hlen]; kernel_rfl) ?_) | (refine wpList_load_midG (by rfl) 46 _ rfl w6.heap.size 0 rfl ds _ rd Tryz.underlying46 rfl (by rw [hlen']; kernel_rfl) ?_) | (go_at_call 20; refine (HS.out w7 cs ds _ _ hp7 hq7).mono ?_; rintro e w8 ⟨rfl, b8⟩; have B8 := Below.after B7 b8) | (go_at_call 21; refine (HL.out w8 B8).mono ?_; rintro e w9 ⟨rfl, b9⟩; have B9 := Below.after B8 b9))
   go_ret
   exact ⟨rfl, B9⟩
theorem blanks8_law (s : ByteArray) (w : World) (aL : Addr) (h : Env8 w aL) (hP : TabP w) : Calls Tryz.prog 7 #[.string s] w (Re w (.bool true)) := by
 obtain ⟨P, E, h1, -⟩ := ex_PR
 have HL := shut (fun wi (b : Below w.heap.size w wi) => live8_any wi aL (h.below b) (hP.bel b))
 by_cases hs : 9000 < s.size
 ·exact blanks8_long s w hs HL
 ·have hl : s.data.toList.length = s.size := Array.length_toList
  obtain ⟨z1, z2, z3⟩ := psp_len8 P E s
  have et : toks ⟨([10, 9, 32] ++ bk8 s.data.toList ++ [32, 10]).toArray⟩ = toks s := by
   rw [toks_tl, toks_tl]
   show tl8 ([10, 9, 32] ++ bk8 s.data.toList ++ [32, 10]).toArray.toList [] = _
   rw [List.toList_toArray]
   have := tl8_blanks s.data.toList
   simpa using this
  have ep : psp P E ⟨([10, 9, 32] ++ bk8 s.data.toList ++ [32, 10]).toArray⟩ = psp P E s := by
   unfold psp
   have hb := bk8_len s.data.toList
   have hz : (⟨([10, 9, 32] ++ bk8 s.data.toList ++ [32, 10]).toArray⟩ : ByteArray).size ≤ 20000 := by
    show ([10, 9, 32] ++ bk8 s.data.toList ++ [32, 10]).toArray.size ≤ 20000
    rw [List.size_toArray, List.length_append, List.length_append]
    show 3 + _ + 2 ≤ 20000
    omega
   rw [if_neg (by omega), if_neg (by omega), et]
  have HB := fun wi (b : Below w.heap.size w wi) => parse_any P E h1 ⟨([10, 9, 32] ++ bk8 s.data.toList ++ [32, 10]).toArray⟩ wi aL (h.below b)
  rw [ep] at HB
  have HA := fun wi (b : Below w.heap.size w wi) => parse_any P E h1 s wi aL (h.below b)
  generalize psp P E s = r at *
  obtain ⟨p, e0⟩ := r
  exact blanks8_walk s _ p e0 w (by omega) rfl z1 z2 z3 HL HA HB
end Go.Proofs.YtnplifkgeeicjaaGreatDoor
