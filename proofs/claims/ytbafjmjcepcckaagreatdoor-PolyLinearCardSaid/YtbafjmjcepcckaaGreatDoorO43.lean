/-
  Integrals over both halves of a triangle: the mathematics; parts of rows.
  gussetref07: Add; stores into the middle of a row.
  gussetlaw07: PolyLinear, walked where it is not asked.
-/
import Derived.Deep.MidRow
import Derived.Test.YtbafjmjcepcckaaGreatDoorO41
set_option maxRecDepth 100000
set_option maxHeartbeats 16000000
namespace Go.Proofs.YtbafjmjcepcckaaGreatDoor
open Go.RowKit
theorem Cel.rg {w : World} {g : Nat} {L : List Value} {t : TypeId} (h : Cel w g L t) (o : Nat) (cs post : List Value) (e : L.drop o = cs ++ post) : w.rangeAt g o cs := fun j v hv => by
 rw [h.cell (o + j), ← List.getElem?_drop, e, List.getElem?_append_left (List.getElem?_eq_some_iff.1 hv).1]
 exact hv
def q6 (a b c d e f : Rat) : Rat := a * (6*a - b - c - 4*e) + b * (-a + 6*b - c - 4*f) + c * (-a - b + 6*c - 4*d) + d * (-4*c + 32*d+16*e+16*f) + e * (-4*a+16*d+32*e+16*f) + f * (-4*b+16*d+16*e+32*f)
def b6 (F0 F1 F2 F3 F4 F5 a b c : Rat) : Rat := a * (2 * a - 1) * F0 + b * (2 * b - 1) * F1 + c * (2 * c - 1) * F2 + 4 * (a * b) * F3 + 4 * (b * c) * F4 + 4 * (a * c) * F5
def upd (L : List Value) : Nat → List Value → List Value
 | _, [] => L
 | o, v :: r => upd (L.set o v) (o + 1) r
theorem Cel.midS {w : World} {g : Nat} {L : List Value} {t : TypeId} (h : Cel w g L t) (o : Nat) (vs : List Value) : Cel (w.setCells g o vs) g (upd L o vs) t := by
 induction vs generalizing w L o with
 | nil => exact h
 | cons v r ih => exact ih (h.set o v) (o + 1)
theorem Cel.midO {w : World} {g g' : Nat} {L : List Value} {t : TypeId} (h : Cel w g L t) (hne : g ≠ g') (o : Nat) (vs : List Value) : Cel (w.setCells g' o vs) g L t := by
 induction vs generalizing w o with
 | nil => exact h
 | cons v r ih => exact ih (h.other hne o v) (o + 1)
theorem bmid {N : Nat} {w wn : World} {g : Nat} (b : Below N w wn) (h : N ≤ g) (o : Nat) (vs : List Value) : Below N w (wn.setCells g o vs) := by
 induction vs generalizing wn o with
 | nil => exact b
 | cons v r ih => exact ih (b.setCell h v) (o + 1)
theorem Cel.there {w : World} {g : Nat} {L : List Value} {t : TypeId} (h : Cel w g L t) (o n : Nat) (hl : o + n ≤ L.length) : w.there g o n := fun j hj => by
 refine ⟨?_, h.frozen _⟩
 rw [h.cell (o + j), List.getElem?_eq_getElem (by omega)]
 rfl
theorem add7_walk (fN gN mN rN : Nat → Bool) (fS fD gS gD mS mD rS rD : Nat → ByteArray) (kN : Bool) (kS kD : ByteArray) (w : World)
  (H1 : Hid (∀ i w1, i < 6 → Calls Tryz.prog 40 #[.agg #[.bool (gN i), .string (gS i), .string (gD i)], .agg #[.bool kN, .string kS, .string kD]] w1 (Re w1 (.agg #[.bool (mN i), .string (mS i), .string (mD i)]))))
  (H2 : Hid (∀ i w1, i < 6 → Calls Tryz.prog 24 #[.agg #[.bool (fN i), .string (fS i), .string (fD i)], .agg #[.bool (mN i), .string (mS i), .string (mD i)]] w1 (Re w1 (.agg #[.bool (rN i), .string (rS i), .string (rD i)])))) :
  Calls Tryz.prog 22 #[.agg #[.bool (fN 0), .string (fS 0), .string (fD 0), .bool (fN 1), .string (fS 1), .string (fD 1), .bool (fN 2), .string (fS 2), .string (fD 2), .bool (fN 3), .string (fS 3), .string (fD 3), .bool (fN 4), .string (fS 4), .string (fD 4), .bool (fN 5), .string (fS 5), .string (fD 5)], .agg #[.bool (gN 0), .string (gS 0), .string (gD 0), .bool (gN 1), .string (gS 1), .string (gD 1), .bool (gN 2), .string (gS 2), .string (gD 2), .bool (gN 3), .string (gS 3), .string (gD 3), .bool (gN 4), .string (gS 4), .string (gD 4), .bool (gN 5), .string (gS 5), .string (gD 5)], .agg #[.bool kN, .string kS, .string kD]] w (Re w (.agg #[.bool (rN 0), .string (rS 0), .string (rD 0), .bool (rN 1), .string (rS 1), .string (rD 1), .bool (rN 2), .string (rS 2), .string (rD 2), .bool (rN 3), .string (rS 3), .string (rD 3), .bool (rN 4), .string (rS 4), .string (rD 4), .bool (rN 5), .string (rS 5), .string (rD 5)])) := by
 go_enter Tryz.func22, Tryz.ntmps22
 go_upto_region 2 with fail
 obtain ⟨w0, hq, kf, kg, kk, kr, ko, bb⟩ := mk5 w [.bool (fN 0), .string (fS 0), .string (fD 0), .bool (fN 1), .string (fS 1), .string (fD 1), .bool (fN 2), .string (fS 2), .string (fD 2), .bool (fN 3), .string (fS 3), .string (fD 3), .bool (fN 4), .string (fS 4), .string (fD 4), .bool (fN 5), .string (fS 5), .string (fD 5)] [.bool (gN 0), .string (gS 0), .string (gD 0), .bool (gN 1), .string (gS 1), .string (gD 1), .bool (gN 2), .string (gS 2), .string (gD 2), .bool (gN 3), .string (gS 3), .string (gD 3), .bool (gN 4), .string (gS 4), .string (gD 4), .bool (gN 5), .string (gS 5), .string (gD 5)] [.bool kN, .string kS, .string kD] [.bool false, .string { data := #[] }, .string { data := #[] }, .bool false, .string { data := #[] }, .string { data := #[] }, .bool false, .string { data := #[] }, .string { data := #[] }, .bool false, .string { data := #[] }, .string { data := #[] }, .bool false, .string { data := #[] }, .string { data := #[] }, .bool false, .string { data := #[] }, .string { data := #[] }] [.bool false, .string { data := #[] }, .string { data := #[] }, .bool false, .string { data := #[] }, .string { data := #[] }, .bool false, .string { data := #[] }, .string { data := #[] }, .bool false, .string { data := #[] }, .string { data := #[] }, .bool false, .string { data := #[] }, .string { data := #[] }, .bool false, .string { data := #[] }, .string { data := #[] }] 28 28 26 28 28
 rw [← hq]
 clear hq
 go_wp2_with fail
 refine wp_loop_rounds 7 ?_
 rw [rounds_succ]
 go_wp2_with fail
 have bd := bdrew w0
 replace kf := kf.below bd
 replace kg := kg.below bd
 replace kk := kk.below bd
 replace kr := kr.below bd
 replace ko := ko.below bd
 replace bb := Below.after bb bd
 clear bd
 refine wp_region_held_drew (S := fun w' => w'.rangeAt (w.heap.size) 0 [.bool (fN 0), .string (fS 0), .string (fD 0)] ∧ w'.rangeAt (w.heap.size + 1) 0 [.bool (gN 0), .string (gS 0), .string (gD 0)] ∧ w'.rangeAt (w.heap.size + 1 + 1) 0 [.bool kN, .string kS, .string kD]) (by kernel_rfl) ⟨kf.rg 0 [.bool (fN 0), .string (fS 0), .string (fD 0)] [.bool (fN 1), .string (fS 1), .string (fD 1), .bool (fN 2), .string (fS 2), .string (fD 2), .bool (fN 3), .string (fS 3), .string (fD 3), .bool (fN 4), .string (fS 4), .string (fD 4), .bool (fN 5), .string (fS 5), .string (fD 5)] rfl, kg.rg 0 [.bool (gN 0), .string (gS 0), .string (gD 0)] [.bool (gN 1), .string (gS 1), .string (gD 1), .bool (gN 2), .string (gS 2), .string (gD 2), .bool (gN 3), .string (gS 3), .string (gD 3), .bool (gN 4), .string (gS 4), .string (gD 4), .bool (gN 5), .string (gS 5), .string (gD 5)] rfl, kk.rg 0 [.bool kN, .string kS, .string kD] [] rfl⟩ (fun hS => ?_)
 generalize w0.drew = wd0 at *
 refine WA.start (n := 12) (by kernel_rfl) ?_
 refine WA.tp 0 rfl ?_
 refine WA.tp 1 rfl ?_
 refine WA.tp 2 rfl ?_
 refine WA.tp 3 rfl ?_ (hy := yieldsIf_load_mid (by rfl) 26 _ rfl (w.heap.size) 0 rfl [.bool (fN 0), .string (fS 0), .string (fD 0)] _ (fun w' h => h.1) Tryz.underlying26 rfl (by kernel_rfl))
 refine WA.tp 4 rfl ?_
 refine WA.tp 5 rfl ?_
 refine WA.tp 6 rfl ?_ (hy := yieldsIf_load_mid (by rfl) 26 _ rfl (w.heap.size + 1) 0 rfl [.bool (gN 0), .string (gS 0), .string (gD 0)] _ (fun w' h => h.2.1) Tryz.underlying26 rfl (by kernel_rfl))
 refine WA.tp 7 rfl ?_ (hy := yieldsIf_load_mid (by rfl) 26 _ rfl (w.heap.size + 1 + 1) 0 rfl [.bool kN, .string kS, .string kD] _ (fun w' h => h.2.2) Tryz.underlying26 rfl (by kernel_rfl))
 clear hS
 refine WA.cal 8 rfl (fun K hK => ?_)
 simp only [List.getElem_toArray, List.getElem_cons_succ, List.getElem_cons_zero]
 go_simp
 go_fit (H1.out 0 _ (by omega))
 rintro e wm8 ⟨rfl, b1⟩
 replace kf := kf.below b1
 replace kg := kg.below b1
 replace kk := kk.below b1
 replace kr := kr.below b1
 replace ko := ko.below b1
 replace bb := Below.after bb b1
 clear b1
 try go_wp2_with fail
 refine hK.out _ _ ⟨kf.rg 0 [.bool (fN 0), .string (fS 0), .string (fD 0)] [.bool (fN 1), .string (fS 1), .string (fD 1), .bool (fN 2), .string (fS 2), .string (fD 2), .bool (fN 3), .string (fS 3), .string (fD 3), .bool (fN 4), .string (fS 4), .string (fD 4), .bool (fN 5), .string (fS 5), .string (fD 5)] rfl, kg.rg 0 [.bool (gN 0), .string (gS 0), .string (gD 0)] [.bool (gN 1), .string (gS 1), .string (gD 1), .bool (gN 2), .string (gS 2), .string (gD 2), .bool (gN 3), .string (gS 3), .string (gD 3), .bool (gN 4), .string (gS 4), .string (gD 4), .bool (gN 5), .string (gS 5), .string (gD 5)] rfl, kk.rg 0 [.bool kN, .string kS, .string kD] [] rfl⟩ (fun hS => ?_)
 clear hK K
 clear hS
 refine WA.cal 9 rfl (fun K hK => ?_)
 simp only [List.getElem_toArray, List.getElem_cons_succ, List.getElem_cons_zero]
 go_simp
 go_fit (H2.out 0 _ (by omega))
 rintro e wm9 ⟨rfl, b1⟩
 replace kf := kf.below b1
 replace kg := kg.below b1
 replace kk := kk.below b1
 replace kr := kr.below b1
 replace ko := ko.below b1
 replace bb := Below.after bb b1
 clear b1
 try go_wp2_with fail
 refine hK.out _ _ ⟨kf.rg 0 [.bool (fN 0), .string (fS 0), .string (fD 0)] [.bool (fN 1), .string (fS 1), .string (fD 1), .bool (fN 2), .string (fS 2), .string (fD 2), .bool (fN 3), .string (fS 3), .string (fD 3), .bool (fN 4), .string (fS 4), .string (fD 4), .bool (fN 5), .string (fS 5), .string (fD 5)] rfl, kg.rg 0 [.bool (gN 0), .string (gS 0), .string (gD 0)] [.bool (gN 1), .string (gS 1), .string (gD 1), .bool (gN 2), .string (gS 2), .string (gD 2), .bool (gN 3), .string (gS 3), .string (gD 3), .bool (gN 4), .string (gS 4), .string (gD 4), .bool (gN 5), .string (gS 5), .string (gD 5)] rfl, kk.rg 0 [.bool kN, .string kS, .string kD] [] rfl⟩ (fun hS => ?_)
 clear hK K
 refine WA.tp 10 rfl ?_
 clear hS
 refine WA.cal 11 rfl (fun K hK => ?_)
 rw [if_pos (by rfl)]
 refine wp_store_mid 26 _ _ rfl (w.heap.size + 1 + 1 + 1 + 1) 0 #[.bool (rN 0), .string (rS 0), .string (rD 0)] rfl rfl (ko.there 0 3 (Nat.le_of_ble_eq_true rfl)) (by kernel_rfl) (by kernel_rfl) ?_
 replace bb := bmid bb (show _ ≤ w.heap.size + 1 + 1 + 1 + 1 from (by omega)) 0 [.bool (rN 0), .string (rS 0), .string (rD 0)]
 replace kf := Cel.midO (g' := w.heap.size + 1 + 1 + 1 + 1) kf (by omega) 0 [.bool (rN 0), .string (rS 0), .string (rD 0)]
 replace kg := Cel.midO (g' := w.heap.size + 1 + 1 + 1 + 1) kg (by omega) 0 [.bool (rN 0), .string (rS 0), .string (rD 0)]
 replace kk := Cel.midO (g' := w.heap.size + 1 + 1 + 1 + 1) kk (by omega) 0 [.bool (rN 0), .string (rS 0), .string (rD 0)]
 replace kr := Cel.midO (g' := w.heap.size + 1 + 1 + 1 + 1) kr (by omega) 0 [.bool (rN 0), .string (rS 0), .string (rD 0)]
 replace ko : Cel (World.setCells _ _ 0 [.bool (rN 0), .string (rS 0), .string (rD 0)]) _ [.bool (rN 0), .string (rS 0), .string (rD 0), .bool false, .string { data := #[] }, .string { data := #[] }, .bool false, .string { data := #[] }, .string { data := #[] }, .bool false, .string { data := #[] }, .string { data := #[] }, .bool false, .string { data := #[] }, .string { data := #[] }, .bool false, .string { data := #[] }, .string { data := #[] }] 28 := Cel.midS ko 0 [.bool (rN 0), .string (rS 0), .string (rD 0)]
 refine hK.out _ _ ⟨kf.rg 0 [.bool (fN 0), .string (fS 0), .string (fD 0)] [.bool (fN 1), .string (fS 1), .string (fD 1), .bool (fN 2), .string (fS 2), .string (fD 2), .bool (fN 3), .string (fS 3), .string (fD 3), .bool (fN 4), .string (fS 4), .string (fD 4), .bool (fN 5), .string (fS 5), .string (fD 5)] rfl, kg.rg 0 [.bool (gN 0), .string (gS 0), .string (gD 0)] [.bool (gN 1), .string (gS 1), .string (gD 1), .bool (gN 2), .string (gS 2), .string (gD 2), .bool (gN 3), .string (gS 3), .string (gD 3), .bool (gN 4), .string (gS 4), .string (gD 4), .bool (gN 5), .string (gS 5), .string (gD 5)] rfl, kk.rg 0 [.bool kN, .string kS, .string kD] [] rfl⟩ (fun hS => ?_)
 clear hK K
 refine WA.done (by kernel_rfl) ?_
 clear hS
 go_wp2_with fail
 generalize World.setCells _ _ 0 _ = wx0 at *
 rw [rounds_succ]
 go_wp2_with fail
 have bd := bdrew wx0
 replace kf := kf.below bd
 replace kg := kg.below bd
 replace kk := kk.below bd
 replace kr := kr.below bd
 replace ko := ko.below bd
 replace bb := Below.after bb bd
 clear bd
 refine wp_region_held_drew (S := fun w' => w'.rangeAt (w.heap.size) 3 [.bool (fN 1), .string (fS 1), .string (fD 1)] ∧ w'.rangeAt (w.heap.size + 1) 3 [.bool (gN 1), .string (gS 1), .string (gD 1)] ∧ w'.rangeAt (w.heap.size + 1 + 1) 0 [.bool kN, .string kS, .string kD]) (by kernel_rfl) ⟨kf.rg 3 [.bool (fN 1), .string (fS 1), .string (fD 1)] [.bool (fN 2), .string (fS 2), .string (fD 2), .bool (fN 3), .string (fS 3), .string (fD 3), .bool (fN 4), .string (fS 4), .string (fD 4), .bool (fN 5), .string (fS 5), .string (fD 5)] rfl, kg.rg 3 [.bool (gN 1), .string (gS 1), .string (gD 1)] [.bool (gN 2), .string (gS 2), .string (gD 2), .bool (gN 3), .string (gS 3), .string (gD 3), .bool (gN 4), .string (gS 4), .string (gD 4), .bool (gN 5), .string (gS 5), .string (gD 5)] rfl, kk.rg 0 [.bool kN, .string kS, .string kD] [] rfl⟩ (fun hS => ?_)
 generalize wx0.drew = wd1 at *
 refine WA.start (n := 12) (by kernel_rfl) ?_
 refine WA.tp 0 rfl ?_
 refine WA.tp 1 rfl ?_
 refine WA.tp 2 rfl ?_
 refine WA.tp 3 rfl ?_ (hy := yieldsIf_load_mid (by rfl) 26 _ rfl (w.heap.size) 3 rfl [.bool (fN 1), .string (fS 1), .string (fD 1)] _ (fun w' h => h.1) Tryz.underlying26 rfl (by kernel_rfl))
 refine WA.tp 4 rfl ?_
 refine WA.tp 5 rfl ?_
 refine WA.tp 6 rfl ?_ (hy := yieldsIf_load_mid (by rfl) 26 _ rfl (w.heap.size + 1) 3 rfl [.bool (gN 1), .string (gS 1), .string (gD 1)] _ (fun w' h => h.2.1) Tryz.underlying26 rfl (by kernel_rfl))
 refine WA.tp 7 rfl ?_ (hy := yieldsIf_load_mid (by rfl) 26 _ rfl (w.heap.size + 1 + 1) 0 rfl [.bool kN, .string kS, .string kD] _ (fun w' h => h.2.2) Tryz.underlying26 rfl (by kernel_rfl))
 clear hS
 refine WA.cal 8 rfl (fun K hK => ?_)
 simp only [List.getElem_toArray, List.getElem_cons_succ, List.getElem_cons_zero]
 go_simp
 go_fit (H1.out 1 _ (by omega))
 rintro e wm8 ⟨rfl, b1⟩
 replace kf := kf.below b1
 replace kg := kg.below b1
 replace kk := kk.below b1
 replace kr := kr.below b1
 replace ko := ko.below b1
 replace bb := Below.after bb b1
 clear b1
 try go_wp2_with fail
 refine hK.out _ _ ⟨kf.rg 3 [.bool (fN 1), .string (fS 1), .string (fD 1)] [.bool (fN 2), .string (fS 2), .string (fD 2), .bool (fN 3), .string (fS 3), .string (fD 3), .bool (fN 4), .string (fS 4), .string (fD 4), .bool (fN 5), .string (fS 5), .string (fD 5)] rfl, kg.rg 3 [.bool (gN 1), .string (gS 1), .string (gD 1)] [.bool (gN 2), .string (gS 2), .string (gD 2), .bool (gN 3), .string (gS 3), .string (gD 3), .bool (gN 4), .string (gS 4), .string (gD 4), .bool (gN 5), .string (gS 5), .string (gD 5)] rfl, kk.rg 0 [.bool kN, .string kS, .string kD] [] rfl⟩ (fun hS => ?_)
 clear hK K
 clear hS
 refine WA.cal 9 rfl (fun K hK => ?_)
 simp only [List.getElem_toArray, List.getElem_cons_succ, List.getElem_cons_zero]
 go_simp
 go_fit (H2.out 1 _ (by omega))
 rintro e wm9 ⟨rfl, b1⟩
 replace kf := kf.below b1
 replace kg := kg.below b1
 replace kk := kk.below b1
 replace kr := kr.below b1
 replace ko := ko.below b1
 replace bb := Below.after bb b1
 clear b1
 try go_wp2_with fail
 refine hK.out _ _ ⟨kf.rg 3 [.bool (fN 1), .string (fS 1), .string (fD 1)] [.bool (fN 2), .string (fS 2), .string (fD 2), .bool (fN 3), .string (fS 3), .string (fD 3), .bool (fN 4), .string (fS 4), .string (fD 4), .bool (fN 5), .string (fS 5), .string (fD 5)] rfl, kg.rg 3 [.bool (gN 1), .string (gS 1), .string (gD 1)] [.bool (gN 2), .string (gS 2), .string (gD 2), .bool (gN 3), .string (gS 3), .string (gD 3), .bool (gN 4), .string (gS 4), .string (gD 4), .bool (gN 5), .string (gS 5), .string (gD 5)] rfl, kk.rg 0 [.bool kN, .string kS, .string kD] [] rfl⟩ (fun hS => ?_)
 clear hK K
 refine WA.tp 10 rfl ?_
 clear hS
 refine WA.cal 11 rfl (fun K hK => ?_)
 rw [if_pos (by rfl)]
 refine wp_store_mid 26 _ _ rfl (w.heap.size + 1 + 1 + 1 + 1) 3 #[.bool (rN 1), .string (rS 1), .string (rD 1)] rfl rfl (ko.there 3 3 (Nat.le_of_ble_eq_true rfl)) (by kernel_rfl) (by kernel_rfl) ?_
 replace bb := bmid bb (show _ ≤ w.heap.size + 1 + 1 + 1 + 1 from (by omega)) 3 [.bool (rN 1), .string (rS 1), .string (rD 1)]
 replace kf := Cel.midO (g' := w.heap.size + 1 + 1 + 1 + 1) kf (by omega) 3 [.bool (rN 1), .string (rS 1), .string (rD 1)]
 replace kg := Cel.midO (g' := w.heap.size + 1 + 1 + 1 + 1) kg (by omega) 3 [.bool (rN 1), .string (rS 1), .string (rD 1)]
 replace kk := Cel.midO (g' := w.heap.size + 1 + 1 + 1 + 1) kk (by omega) 3 [.bool (rN 1), .string (rS 1), .string (rD 1)]
 replace kr := Cel.midO (g' := w.heap.size + 1 + 1 + 1 + 1) kr (by omega) 3 [.bool (rN 1), .string (rS 1), .string (rD 1)]
 replace ko : Cel (World.setCells _ _ 3 [.bool (rN 1), .string (rS 1), .string (rD 1)]) _ [.bool (rN 0), .string (rS 0), .string (rD 0), .bool (rN 1), .string (rS 1), .string (rD 1), .bool false, .string { data := #[] }, .string { data := #[] }, .bool false, .string { data := #[] }, .string { data := #[] }, .bool false, .string { data := #[] }, .string { data := #[] }, .bool false, .string { data := #[] }, .string { data := #[] }] 28 := Cel.midS ko 3 [.bool (rN 1), .string (rS 1), .string (rD 1)]
 refine hK.out _ _ ⟨kf.rg 3 [.bool (fN 1), .string (fS 1), .string (fD 1)] [.bool (fN 2), .string (fS 2), .string (fD 2), .bool (fN 3), .string (fS 3), .string (fD 3), .bool (fN 4), .string (fS 4), .string (fD 4), .bool (fN 5), .string (fS 5), .string (fD 5)] rfl, kg.rg 3 [.bool (gN 1), .string (gS 1), .string (gD 1)] [.bool (gN 2), .string (gS 2), .string (gD 2), .bool (gN 3), .string (gS 3), .string (gD 3), .bool (gN 4), .string (gS 4), .string (gD 4), .bool (gN 5), .string (gS 5), .string (gD 5)] rfl, kk.rg 0 [.bool kN, .string kS, .string kD] [] rfl⟩ (fun hS => ?_)
 clear hK K
 refine WA.done (by kernel_rfl) ?_
 clear hS
 go_wp2_with fail
 generalize World.setCells _ _ 3 _ = wx1 at *
 rw [rounds_succ]
 go_wp2_with fail
 have bd := bdrew wx1
 replace kf := kf.below bd
 replace kg := kg.below bd
 replace kk := kk.below bd
 replace kr := kr.below bd
 replace ko := ko.below bd
 replace bb := Below.after bb bd
 clear bd
 refine wp_region_held_drew (S := fun w' => w'.rangeAt (w.heap.size) 6 [.bool (fN 2), .string (fS 2), .string (fD 2)] ∧ w'.rangeAt (w.heap.size + 1) 6 [.bool (gN 2), .string (gS 2), .string (gD 2)] ∧ w'.rangeAt (w.heap.size + 1 + 1) 0 [.bool kN, .string kS, .string kD]) (by kernel_rfl) ⟨kf.rg 6 [.bool (fN 2), .string (fS 2), .string (fD 2)] [.bool (fN 3), .string (fS 3), .string (fD 3), .bool (fN 4), .string (fS 4), .string (fD 4), .bool (fN 5), .string (fS 5), .string (fD 5)] rfl, kg.rg 6 [.bool (gN 2), .string (gS 2), .string (gD 2)] [.bool (gN 3), .string (gS 3), .string (gD 3), .bool (gN 4), .string (gS 4), .string (gD 4), .bool (gN 5), .string (gS 5), .string (gD 5)] rfl, kk.rg 0 [.bool kN, .string kS, .string kD] [] rfl⟩ (fun hS => ?_)
 generalize wx1.drew = wd2 at *
 refine WA.start (n := 12) (by kernel_rfl) ?_
 refine WA.tp 0 rfl ?_
 refine WA.tp 1 rfl ?_
 refine WA.tp 2 rfl ?_
 refine WA.tp 3 rfl ?_ (hy := yieldsIf_load_mid (by rfl) 26 _ rfl (w.heap.size) 6 rfl [.bool (fN 2), .string (fS 2), .string (fD 2)] _ (fun w' h => h.1) Tryz.underlying26 rfl (by kernel_rfl))
 refine WA.tp 4 rfl ?_
 refine WA.tp 5 rfl ?_
 refine WA.tp 6 rfl ?_ (hy := yieldsIf_load_mid (by rfl) 26 _ rfl (w.heap.size + 1) 6 rfl [.bool (gN 2), .string (gS 2), .string (gD 2)] _ (fun w' h => h.2.1) Tryz.underlying26 rfl (by kernel_rfl))
 refine WA.tp 7 rfl ?_ (hy := yieldsIf_load_mid (by rfl) 26 _ rfl (w.heap.size + 1 + 1) 0 rfl [.bool kN, .string kS, .string kD] _ (fun w' h => h.2.2) Tryz.underlying26 rfl (by kernel_rfl))
 clear hS
 refine WA.cal 8 rfl (fun K hK => ?_)
 simp only [List.getElem_toArray, List.getElem_cons_succ, List.getElem_cons_zero]
 go_simp
 go_fit (H1.out 2 _ (by omega))
 rintro e wm8 ⟨rfl, b1⟩
 replace kf := kf.below b1
 replace kg := kg.below b1
 replace kk := kk.below b1
 replace kr := kr.below b1
 replace ko := ko.below b1
 replace bb := Below.after bb b1
 clear b1
 try go_wp2_with fail
 refine hK.out _ _ ⟨kf.rg 6 [.bool (fN 2), .string (fS 2), .string (fD 2)] [.bool (fN 3), .string (fS 3), .string (fD 3), .bool (fN 4), .string (fS 4), .string (fD 4), .bool (fN 5), .string (fS 5), .string (fD 5)] rfl, kg.rg 6 [.bool (gN 2), .string (gS 2), .string (gD 2)] [.bool (gN 3), .string (gS 3), .string (gD 3), .bool (gN 4), .string (gS 4), .string (gD 4), .bool (gN 5), .string (gS 5), .string (gD 5)] rfl, kk.rg 0 [.bool kN, .string kS, .string kD] [] rfl⟩ (fun hS => ?_)
 clear hK K
 clear hS
 refine WA.cal 9 rfl (fun K hK => ?_)
 simp only [List.getElem_toArray, List.getElem_cons_succ, List.getElem_cons_zero]
 go_simp
 go_fit (H2.out 2 _ (by omega))
 rintro e wm9 ⟨rfl, b1⟩
 replace kf := kf.below b1
 replace kg := kg.below b1
 replace kk := kk.below b1
 replace kr := kr.below b1
 replace ko := ko.below b1
 replace bb := Below.after bb b1
 clear b1
 try go_wp2_with fail
 refine hK.out _ _ ⟨kf.rg 6 [.bool (fN 2), .string (fS 2), .string (fD 2)] [.bool (fN 3), .string (fS 3), .string (fD 3), .bool (fN 4), .string (fS 4), .string (fD 4), .bool (fN 5), .string (fS 5), .string (fD 5)] rfl, kg.rg 6 [.bool (gN 2), .string (gS 2), .string (gD 2)] [.bool (gN 3), .string (gS 3), .string (gD 3), .bool (gN 4), .string (gS 4), .string (gD 4), .bool (gN 5), .string (gS 5), .string (gD 5)] rfl, kk.rg 0 [.bool kN, .string kS, .string kD] [] rfl⟩ (fun hS => ?_)
 clear hK K
 refine WA.tp 10 rfl ?_
 clear hS
 refine WA.cal 11 rfl (fun K hK => ?_)
 rw [if_pos (by rfl)]
 refine wp_store_mid 26 _ _ rfl (w.heap.size + 1 + 1 + 1 + 1) 6 #[.bool (rN 2), .string (rS 2), .string (rD 2)] rfl rfl (ko.there 6 3 (Nat.le_of_ble_eq_true rfl)) (by kernel_rfl) (by kernel_rfl) ?_
 replace bb := bmid bb (show _ ≤ w.heap.size + 1 + 1 + 1 + 1 from (by omega)) 6 [.bool (rN 2), .string (rS 2), .string (rD 2)]
 replace kf := Cel.midO (g' := w.heap.size + 1 + 1 + 1 + 1) kf (by omega) 6 [.bool (rN 2), .string (rS 2), .string (rD 2)]
 replace kg := Cel.midO (g' := w.heap.size + 1 + 1 + 1 + 1) kg (by omega) 6 [.bool (rN 2), .string (rS 2), .string (rD 2)]
 replace kk := Cel.midO (g' := w.heap.size + 1 + 1 + 1 + 1) kk (by omega) 6 [.bool (rN 2), .string (rS 2), .string (rD 2)]
 replace kr := Cel.midO (g' := w.heap.size + 1 + 1 + 1 + 1) kr (by omega) 6 [.bool (rN 2), .string (rS 2), .string (rD 2)]
 replace ko : Cel (World.setCells _ _ 6 [.bool (rN 2), .string (rS 2), .string (rD 2)]) _ [.bool (rN 0), .string (rS 0), .string (rD 0), .bool (rN 1), .string (rS 1), .string (rD 1), .bool (rN 2), .string (rS 2), .string (rD 2), .bool false, .string { data := #[] }, .string { data := #[] }, .bool false, .string { data := #[] }, .string { data := #[] }, .bool false, .string { data := #[] }, .string { data := #[] }] 28 := Cel.midS ko 6 [.bool (rN 2), .string (rS 2), .string (rD 2)]
 refine hK.out _ _ ⟨kf.rg 6 [.bool (fN 2), .string (fS 2), .string (fD 2)] [.bool (fN 3), .string (fS 3), .string (fD 3), .bool (fN 4), .string (fS 4), .string (fD 4), .bool (fN 5), .string (fS 5), .string (fD 5)] rfl, kg.rg 6 [.bool (gN 2), .string (gS 2), .string (gD 2)] [.bool (gN 3), .string (gS 3), .string (gD 3), .bool (gN 4), .string (gS 4), .string (gD 4), .bool (gN 5), .string (gS 5), .string (gD 5)] rfl, kk.rg 0 [.bool kN, .string kS, .string kD] [] rfl⟩ (fun hS => ?_)
 clear hK K
 refine WA.done (by kernel_rfl) ?_
 clear hS
 go_wp2_with fail
 generalize World.setCells _ _ 6 _ = wx2 at *
 rw [rounds_succ]
 go_wp2_with fail
 have bd := bdrew wx2
 replace kf := kf.below bd
 replace kg := kg.below bd
 replace kk := kk.below bd
 replace kr := kr.below bd
 replace ko := ko.below bd
 replace bb := Below.after bb bd
 clear bd
 refine wp_region_held_drew (S := fun w' => w'.rangeAt (w.heap.size) 9 [.bool (fN 3), .string (fS 3), .string (fD 3)] ∧ w'.rangeAt (w.heap.size + 1) 9 [.bool (gN 3), .string (gS 3), .string (gD 3)] ∧ w'.rangeAt (w.heap.size + 1 + 1) 0 [.bool kN, .string kS, .string kD]) (by kernel_rfl) ⟨kf.rg 9 [.bool (fN 3), .string (fS 3), .string (fD 3)] [.bool (fN 4), .string (fS 4), .string (fD 4), .bool (fN 5), .string (fS 5), .string (fD 5)] rfl, kg.rg 9 [.bool (gN 3), .string (gS 3), .string (gD 3)] [.bool (gN 4), .string (gS 4), .string (gD 4), .bool (gN 5), .string (gS 5), .string (gD 5)] rfl, kk.rg 0 [.bool kN, .string kS, .string kD] [] rfl⟩ (fun hS => ?_)
 generalize wx2.drew = wd3 at *
 refine WA.start (n := 12) (by kernel_rfl) ?_
 refine WA.tp 0 rfl ?_
 refine WA.tp 1 rfl ?_
 refine WA.tp 2 rfl ?_
 refine WA.tp 3 rfl ?_ (hy := yieldsIf_load_mid (by rfl) 26 _ rfl (w.heap.size) 9 rfl [.bool (fN 3), .string (fS 3), .string (fD 3)] _ (fun w' h => h.1) Tryz.underlying26 rfl (by kernel_rfl))
 refine WA.tp 4 rfl ?_
 refine WA.tp 5 rfl ?_
 refine WA.tp 6 rfl ?_ (hy := yieldsIf_load_mid (by rfl) 26 _ rfl (w.heap.size + 1) 9 rfl [.bool (gN 3), .string (gS 3), .string (gD 3)] _ (fun w' h => h.2.1) Tryz.underlying26 rfl (by kernel_rfl))
 refine WA.tp 7 rfl ?_ (hy := yieldsIf_load_mid (by rfl) 26 _ rfl (w.heap.size + 1 + 1) 0 rfl [.bool kN, .string kS, .string kD] _ (fun w' h => h.2.2) Tryz.underlying26 rfl (by kernel_rfl))
 clear hS
 refine WA.cal 8 rfl (fun K hK => ?_)
 simp only [List.getElem_toArray, List.getElem_cons_succ, List.getElem_cons_zero]
 go_simp
 go_fit (H1.out 3 _ (by omega))
 rintro e wm8 ⟨rfl, b1⟩
 replace kf := kf.below b1
 replace kg := kg.below b1
 replace kk := kk.below b1
 replace kr := kr.below b1
 replace ko := ko.below b1
 replace bb := Below.after bb b1
 clear b1
 try go_wp2_with fail
 refine hK.out _ _ ⟨kf.rg 9 [.bool (fN 3), .string (fS 3), .string (fD 3)] [.bool (fN 4), .string (fS 4), .string (fD 4), .bool (fN 5), .string (fS 5), .string (fD 5)] rfl, kg.rg 9 [.bool (gN 3), .string (gS 3), .string (gD 3)] [.bool (gN 4), .string (gS 4), .string (gD 4), .bool (gN 5), .string (gS 5), .string (gD 5)] rfl, kk.rg 0 [.bool kN, .string kS, .string kD] [] rfl⟩ (fun hS => ?_)
 clear hK K
 clear hS
 refine WA.cal 9 rfl (fun K hK => ?_)
 simp only [List.getElem_toArray, List.getElem_cons_succ, List.getElem_cons_zero]
 go_simp
 go_fit (H2.out 3 _ (by omega))
 rintro e wm9 ⟨rfl, b1⟩
 replace kf := kf.below b1
 replace kg := kg.below b1
 replace kk := kk.below b1
 replace kr := kr.below b1
 replace ko := ko.below b1
 replace bb := Below.after bb b1
 clear b1
 try go_wp2_with fail
 refine hK.out _ _ ⟨kf.rg 9 [.bool (fN 3), .string (fS 3), .string (fD 3)] [.bool (fN 4), .string (fS 4), .string (fD 4), .bool (fN 5), .string (fS 5), .string (fD 5)] rfl, kg.rg 9 [.bool (gN 3), .string (gS 3), .string (gD 3)] [.bool (gN 4), .string (gS 4), .string (gD 4), .bool (gN 5), .string (gS 5), .string (gD 5)] rfl, kk.rg 0 [.bool kN, .string kS, .string kD] [] rfl⟩ (fun hS => ?_)
 clear hK K
 refine WA.tp 10 rfl ?_
 clear hS
 refine WA.cal 11 rfl (fun K hK => ?_)
 rw [if_pos (by rfl)]
 refine wp_store_mid 26 _ _ rfl (w.heap.size + 1 + 1 + 1 + 1) 9 #[.bool (rN 3), .string (rS 3), .string (rD 3)] rfl rfl (ko.there 9 3 (Nat.le_of_ble_eq_true rfl)) (by kernel_rfl) (by kernel_rfl) ?_
 replace bb := bmid bb (show _ ≤ w.heap.size + 1 + 1 + 1 + 1 from (by omega)) 9 [.bool (rN 3), .string (rS 3), .string (rD 3)]
 replace kf := Cel.midO (g' := w.heap.size + 1 + 1 + 1 + 1) kf (by omega) 9 [.bool (rN 3), .string (rS 3), .string (rD 3)]
 replace kg := Cel.midO (g' := w.heap.size + 1 + 1 + 1 + 1) kg (by omega) 9 [.bool (rN 3), .string (rS 3), .string (rD 3)]
 replace kk := Cel.midO (g' := w.heap.size + 1 + 1 + 1 + 1) kk (by omega) 9 [.bool (rN 3), .string (rS 3), .string (rD 3)]
 replace kr := Cel.midO (g' := w.heap.size + 1 + 1 + 1 + 1) kr (by omega) 9 [.bool (rN 3), .string (rS 3), .string (rD 3)]
 replace ko : Cel (World.setCells _ _ 9 [.bool (rN 3), .string (rS 3), .string (rD 3)]) _ [.bool (rN 0), .string (rS 0), .string (rD 0), .bool (rN 1), .string (rS 1), .string (rD 1), .bool (rN 2), .string (rS 2), .string (rD 2), .bool (rN 3), .string (rS 3), .string (rD 3), .bool false, .string { data := #[] }, .string { data := #[] }, .bool false, .string { data := #[] }, .string { data := #[] }] 28 := Cel.midS ko 9 [.bool (rN 3), .string (rS 3), .string (rD 3)]
 refine hK.out _ _ ⟨kf.rg 9 [.bool (fN 3), .string (fS 3), .string (fD 3)] [.bool (fN 4), .string (fS 4), .string (fD 4), .bool (fN 5), .string (fS 5), .string (fD 5)] rfl, kg.rg 9 [.bool (gN 3), .string (gS 3), .string (gD 3)] [.bool (gN 4), .string (gS 4), .string (gD 4), .bool (gN 5), .string (gS 5), .string (gD 5)] rfl, kk.rg 0 [.bool kN, .string kS, .string kD] [] rfl⟩ (fun hS => ?_)
 clear hK K
 refine WA.done (by kernel_rfl) ?_
 clear hS
 go_wp2_with fail
 generalize World.setCells _ _ 9 _ = wx3 at *
 rw [rounds_succ]
 go_wp2_with fail
 have bd := bdrew wx3
 replace kf := kf.below bd
 replace kg := kg.below bd
 replace kk := kk.below bd
 replace kr := kr.below bd
 replace ko := ko.below bd
 replace bb := Below.after bb bd
 clear bd
 refine wp_region_held_drew (S := fun w' => w'.rangeAt (w.heap.size) 12 [.bool (fN 4), .string (fS 4), .string (fD 4)] ∧ w'.rangeAt (w.heap.size + 1) 12 [.bool (gN 4), .string (gS 4), .string (gD 4)] ∧ w'.rangeAt (w.heap.size + 1 + 1) 0 [.bool kN, .string kS, .string kD]) (by kernel_rfl) ⟨kf.rg 12 [.bool (fN 4), .string (fS 4), .string (fD 4)] [.bool (fN 5), .string (fS 5), .string (fD 5)] rfl, kg.rg 12 [.bool (gN 4), .string (gS 4), .string (gD 4)] [.bool (gN 5), .string (gS 5), .string (gD 5)] rfl, kk.rg 0 [.bool kN, .string kS, .string kD] [] rfl⟩ (fun hS => ?_)
 generalize wx3.drew = wd4 at *
 refine WA.start (n := 12) (by kernel_rfl) ?_
 refine WA.tp 0 rfl ?_
 refine WA.tp 1 rfl ?_
 refine WA.tp 2 rfl ?_
 refine WA.tp 3 rfl ?_ (hy := yieldsIf_load_mid (by rfl) 26 _ rfl (w.heap.size) 12 rfl [.bool (fN 4), .string (fS 4), .string (fD 4)] _ (fun w' h => h.1) Tryz.underlying26 rfl (by kernel_rfl))
 refine WA.tp 4 rfl ?_
 refine WA.tp 5 rfl ?_
 refine WA.tp 6 rfl ?_ (hy := yieldsIf_load_mid (by rfl) 26 _ rfl (w.heap.size + 1) 12 rfl [.bool (gN 4), .string (gS 4), .string (gD 4)] _ (fun w' h => h.2.1) Tryz.underlying26 rfl (by kernel_rfl))
 refine WA.tp 7 rfl ?_ (hy := yieldsIf_load_mid (by rfl) 26 _ rfl (w.heap.size + 1 + 1) 0 rfl [.bool kN, .string kS, .string kD] _ (fun w' h => h.2.2) Tryz.underlying26 rfl (by kernel_rfl))
 clear hS
 refine WA.cal 8 rfl (fun K hK => ?_)
 simp only [List.getElem_toArray, List.getElem_cons_succ, List.getElem_cons_zero]
 go_simp
 go_fit (H1.out 4 _ (by omega))
 rintro e wm8 ⟨rfl, b1⟩
 replace kf := kf.below b1
 replace kg := kg.below b1
 replace kk := kk.below b1
 replace kr := kr.below b1
 replace ko := ko.below b1
 replace bb := Below.after bb b1
 clear b1
 try go_wp2_with fail
 refine hK.out _ _ ⟨kf.rg 12 [.bool (fN 4), .string (fS 4), .string (fD 4)] [.bool (fN 5), .string (fS 5), .string (fD 5)] rfl, kg.rg 12 [.bool (gN 4), .string (gS 4), .string (gD 4)] [.bool (gN 5), .string (gS 5), .string (gD 5)] rfl, kk.rg 0 [.bool kN, .string kS, .string kD] [] rfl⟩ (fun hS => ?_)
 clear hK K
 clear hS
 refine WA.cal 9 rfl (fun K hK => ?_)
 simp only [List.getElem_toArray, List.getElem_cons_succ, List.getElem_cons_zero]
 go_simp
 go_fit (H2.out 4 _ (by omega))
 rintro e wm9 ⟨rfl, b1⟩
 replace kf := kf.below b1
 replace kg := kg.below b1
 replace kk := kk.below b1
 replace kr := kr.below b1
 replace ko := ko.below b1
 replace bb := Below.after bb b1
 clear b1
 try go_wp2_with fail
 refine hK.out _ _ ⟨kf.rg 12 [.bool (fN 4), .string (fS 4), .string (fD 4)] [.bool (fN 5), .string (fS 5), .string (fD 5)] rfl, kg.rg 12 [.bool (gN 4), .string (gS 4), .string (gD 4)] [.bool (gN 5), .string (gS 5), .string (gD 5)] rfl, kk.rg 0 [.bool kN, .string kS, .string kD] [] rfl⟩ (fun hS => ?_)
 clear hK K
 refine WA.tp 10 rfl ?_
 clear hS
 refine WA.cal 11 rfl (fun K hK => ?_)
 rw [if_pos (by rfl)]
 refine wp_store_mid 26 _ _ rfl (w.heap.size + 1 + 1 + 1 + 1) 12 #[.bool (rN 4), .string (rS 4), .string (rD 4)] rfl rfl (ko.there 12 3 (Nat.le_of_ble_eq_true rfl)) (by kernel_rfl) (by kernel_rfl) ?_
 replace bb := bmid bb (show _ ≤ w.heap.size + 1 + 1 + 1 + 1 from (by omega)) 12 [.bool (rN 4), .string (rS 4), .string (rD 4)]
 replace kf := Cel.midO (g' := w.heap.size + 1 + 1 + 1 + 1) kf (by omega) 12 [.bool (rN 4), .string (rS 4), .string (rD 4)]
 replace kg := Cel.midO (g' := w.heap.size + 1 + 1 + 1 + 1) kg (by omega) 12 [.bool (rN 4), .string (rS 4), .string (rD 4)]
 replace kk := Cel.midO (g' := w.heap.size + 1 + 1 + 1 + 1) kk (by omega) 12 [.bool (rN 4), .string (rS 4), .string (rD 4)]
 replace kr := Cel.midO (g' := w.heap.size + 1 + 1 + 1 + 1) kr (by omega) 12 [.bool (rN 4), .string (rS 4), .string (rD 4)]
 replace ko : Cel (World.setCells _ _ 12 [.bool (rN 4), .string (rS 4), .string (rD 4)]) _ [.bool (rN 0), .string (rS 0), .string (rD 0), .bool (rN 1), .string (rS 1), .string (rD 1), .bool (rN 2), .string (rS 2), .string (rD 2), .bool (rN 3), .string (rS 3), .string (rD 3), .bool (rN 4), .string (rS 4), .string (rD 4), .bool false, .string { data := #[] }, .string { data := #[] }] 28 := Cel.midS ko 12 [.bool (rN 4), .string (rS 4), .string (rD 4)]
 refine hK.out _ _ ⟨kf.rg 12 [.bool (fN 4), .string (fS 4), .string (fD 4)] [.bool (fN 5), .string (fS 5), .string (fD 5)] rfl, kg.rg 12 [.bool (gN 4), .string (gS 4), .string (gD 4)] [.bool (gN 5), .string (gS 5), .string (gD 5)] rfl, kk.rg 0 [.bool kN, .string kS, .string kD] [] rfl⟩ (fun hS => ?_)
 clear hK K
 refine WA.done (by kernel_rfl) ?_
 clear hS
 go_wp2_with fail
 generalize World.setCells _ _ 12 _ = wx4 at *
 rw [rounds_succ]
 go_wp2_with fail
 have bd := bdrew wx4
 replace kf := kf.below bd
 replace kg := kg.below bd
 replace kk := kk.below bd
 replace kr := kr.below bd
 replace ko := ko.below bd
 replace bb := Below.after bb bd
 clear bd
 refine wp_region_held_drew (S := fun w' => w'.rangeAt (w.heap.size) 15 [.bool (fN 5), .string (fS 5), .string (fD 5)] ∧ w'.rangeAt (w.heap.size + 1) 15 [.bool (gN 5), .string (gS 5), .string (gD 5)] ∧ w'.rangeAt (w.heap.size + 1 + 1) 0 [.bool kN, .string kS, .string kD]) (by kernel_rfl) ⟨kf.rg 15 [.bool (fN 5), .string (fS 5), .string (fD 5)] [] rfl, kg.rg 15 [.bool (gN 5), .string (gS 5), .string (gD 5)] [] rfl, kk.rg 0 [.bool kN, .string kS, .string kD] [] rfl⟩ (fun hS => ?_)
 generalize wx4.drew = wd5 at *
 refine WA.start (n := 12) (by kernel_rfl) ?_
 refine WA.tp 0 rfl ?_
 refine WA.tp 1 rfl ?_
 refine WA.tp 2 rfl ?_
 refine WA.tp 3 rfl ?_ (hy := yieldsIf_load_mid (by rfl) 26 _ rfl (w.heap.size) 15 rfl [.bool (fN 5), .string (fS 5), .string (fD 5)] _ (fun w' h => h.1) Tryz.underlying26 rfl (by kernel_rfl))
 refine WA.tp 4 rfl ?_
 refine WA.tp 5 rfl ?_
 refine WA.tp 6 rfl ?_ (hy := yieldsIf_load_mid (by rfl) 26 _ rfl (w.heap.size + 1) 15 rfl [.bool (gN 5), .string (gS 5), .string (gD 5)] _ (fun w' h => h.2.1) Tryz.underlying26 rfl (by kernel_rfl))
 refine WA.tp 7 rfl ?_ (hy := yieldsIf_load_mid (by rfl) 26 _ rfl (w.heap.size + 1 + 1) 0 rfl [.bool kN, .string kS, .string kD] _ (fun w' h => h.2.2) Tryz.underlying26 rfl (by kernel_rfl))
 clear hS
 refine WA.cal 8 rfl (fun K hK => ?_)
 simp only [List.getElem_toArray, List.getElem_cons_succ, List.getElem_cons_zero]
 go_simp
 go_fit (H1.out 5 _ (by omega))
 rintro e wm8 ⟨rfl, b1⟩
 replace kf := kf.below b1
 replace kg := kg.below b1
 replace kk := kk.below b1
 replace kr := kr.below b1
 replace ko := ko.below b1
 replace bb := Below.after bb b1
 clear b1
 try go_wp2_with fail
 refine hK.out _ _ ⟨kf.rg 15 [.bool (fN 5), .string (fS 5), .string (fD 5)] [] rfl, kg.rg 15 [.bool (gN 5), .string (gS 5), .string (gD 5)] [] rfl, kk.rg 0 [.bool kN, .string kS, .string kD] [] rfl⟩ (fun hS => ?_)
 clear hK K
 clear hS
 refine WA.cal 9 rfl (fun K hK => ?_)
 simp only [List.getElem_toArray, List.getElem_cons_succ, List.getElem_cons_zero]
 go_simp
 go_fit (H2.out 5 _ (by omega))
 rintro e wm9 ⟨rfl, b1⟩
 replace kf := kf.below b1
 replace kg := kg.below b1
 replace kk := kk.below b1
 replace kr := kr.below b1
 replace ko := ko.below b1
 replace bb := Below.after bb b1
 clear b1
 try go_wp2_with fail
 refine hK.out _ _ ⟨kf.rg 15 [.bool (fN 5), .string (fS 5), .string (fD 5)] [] rfl, kg.rg 15 [.bool (gN 5), .string (gS 5), .string (gD 5)] [] rfl, kk.rg 0 [.bool kN, .string kS, .string kD] [] rfl⟩ (fun hS => ?_)
 clear hK K
 refine WA.tp 10 rfl ?_
 clear hS
 refine WA.cal 11 rfl (fun K hK => ?_)
 rw [if_pos (by rfl)]
 refine wp_store_mid 26 _ _ rfl (w.heap.size + 1 + 1 + 1 + 1) 15 #[.bool (rN 5), .string (rS 5), .string (rD 5)] rfl rfl (ko.there 15 3 (Nat.le_of_ble_eq_true rfl)) (by kernel_rfl) (by kernel_rfl) ?_
 replace bb := bmid bb (show _ ≤ w.heap.size + 1 + 1 + 1 + 1 from (by omega)) 15 [.bool (rN 5), .string (rS 5), .string (rD 5)]
 replace kf := Cel.midO (g' := w.heap.size + 1 + 1 + 1 + 1) kf (by omega) 15 [.bool (rN 5), .string (rS 5), .string (rD 5)]
 replace kg := Cel.midO (g' := w.heap.size + 1 + 1 + 1 + 1) kg (by omega) 15 [.bool (rN 5), .string (rS 5), .string (rD 5)]
 replace kk := Cel.midO (g' := w.heap.size + 1 + 1 + 1 + 1) kk (by omega) 15 [.bool (rN 5), .string (rS 5), .string (rD 5)]
 replace kr := Cel.midO (g' := w.heap.size + 1 + 1 + 1 + 1) kr (by omega) 15 [.bool (rN 5), .string (rS 5), .string (rD 5)]
 replace ko : Cel (World.setCells _ _ 15 [.bool (rN 5), .string (rS 5), .string (rD 5)]) _ [.bool (rN 0), .string (rS 0), .string (rD 0), .bool (rN 1), .string (rS 1), .string (rD 1), .bool (rN 2), .string (rS 2), .string (rD 2), .bool (rN 3), .string (rS 3), .string (rD 3), .bool (rN 4), .string (rS 4), .string (rD 4), .bool (rN 5), .string (rS 5), .string (rD 5)] 28 := Cel.midS ko 15 [.bool (rN 5), .string (rS 5), .string (rD 5)]
 refine hK.out _ _ ⟨kf.rg 15 [.bool (fN 5), .string (fS 5), .string (fD 5)] [] rfl, kg.rg 15 [.bool (gN 5), .string (gS 5), .string (gD 5)] [] rfl, kk.rg 0 [.bool kN, .string kS, .string kD] [] rfl⟩ (fun hS => ?_)
 clear hK K
 refine WA.done (by kernel_rfl) ?_
 clear hS
 go_wp2_with fail
 generalize World.setCells _ _ 15 _ = wx5 at *
 rw [rounds_succ]
 go_upto_region 6 with fail
 refine wp_region_lit ?_
 refine wpList_load_row rfl 28 _ rfl _ rfl 28 _ (0, 0) _ ko Tryz.underlying28 rfl (by kernel_rfl) ?_
 refine wpList_store_mid rfl 28 _ _ rfl (w.heap.size + 1 + 1 + 1) 0 #[.bool (rN 0), .string (rS 0), .string (rD 0), .bool (rN 1), .string (rS 1), .string (rD 1), .bool (rN 2), .string (rS 2), .string (rD 2), .bool (rN 3), .string (rS 3), .string (rD 3), .bool (rN 4), .string (rS 4), .string (rD 4), .bool (rN 5), .string (rS 5), .string (rD 5)] rfl rfl (kr.there 0 18 (Nat.le_of_ble_eq_true rfl)) (by kernel_rfl) (by kernel_rfl) ?_
 generalize hW : World.setCells _ _ 0 _ = wy
 replace bb : Below w.heap.size w wy := by rw [← hW]; exact bmid bb (by omega) 0 _
 replace kr : Cel wy (w.heap.size + 1 + 1 + 1) [.bool (rN 0), .string (rS 0), .string (rD 0), .bool (rN 1), .string (rS 1), .string (rD 1), .bool (rN 2), .string (rS 2), .string (rD 2), .bool (rN 3), .string (rS 3), .string (rD 3), .bool (rN 4), .string (rS 4), .string (rD 4), .bool (rN 5), .string (rS 5), .string (rD 5)] 28 := by rw [← hW]; exact kr.midS 0 [.bool (rN 0), .string (rS 0), .string (rD 0), .bool (rN 1), .string (rS 1), .string (rD 1), .bool (rN 2), .string (rS 2), .string (rD 2), .bool (rN 3), .string (rS 3), .string (rD 3), .bool (rN 4), .string (rS 4), .string (rD 4), .bool (rN 5), .string (rS 5), .string (rD 5)]
 clear hW kf kg kk ko
 go_wp2_with fail
 exact post_f18 (p := 6) (by kernel_rfl) rfl rfl kr rfl ⟨rfl, bb⟩
theorem linear_l1 (n0 n1 n2 n3 n4 n5 p0 p1 p2 p3 p4 p5 : Bool) (s0 d0 s1 d1 s2 d2 s3 d3 s4 d4 s5 d5 q0 r0 q1 r1 q2 r2 q3 r3 q4 r4 q5 r5 : ByteArray) (g0N g1N g2N g3N g4N g5N : Bool) (g0S g0D g1S g1D g2S g2D g3S g3D g4S g4D g5S g5D : ByteArray) (w : World)
  (HF : Hid (∀ w1, Below w.heap.size w w1 → Calls Tryz.prog 8 #[.agg #[.bool n0, .string s0, .string d0, .bool n1, .string s1, .string d1, .bool n2, .string s2, .string d2, .bool n3, .string s3, .string d3, .bool n4, .string s4, .string d4, .bool n5, .string s5, .string d5], .agg #[.bool p0, .string q0, .string r0, .bool p1, .string q1, .string r1, .bool p2, .string q2, .string r2, .bool p3, .string q3, .string r3, .bool p4, .string q4, .string r4, .bool p5, .string q5, .string r5]] w1 (Re w1 (.bool false))))
  (HL : Hid (∀ w1, Below w.heap.size w w1 → Calls Tryz.prog 9 #[] w1 (Re w1 (.bool true)))) :
  Calls Tryz.prog 5 #[.agg #[.bool n0, .string s0, .string d0, .bool n1, .string s1, .string d1, .bool n2, .string s2, .string d2, .bool n3, .string s3, .string d3, .bool n4, .string s4, .string d4, .bool n5, .string s5, .string d5], .agg #[.bool g0N, .string g0S, .string g0D, .bool g1N, .string g1S, .string g1D, .bool g2N, .string g2S, .string g2D, .bool g3N, .string g3S, .string g3D, .bool g4N, .string g4S, .string g4D, .bool g5N, .string g5S, .string g5D], .agg #[.bool p0, .string q0, .string r0, .bool p1, .string q1, .string r1, .bool p2, .string q2, .string r2, .bool p3, .string q3, .string r3, .bool p4, .string q4, .string r4, .bool p5, .string q5, .string r5]] w (Re w (.bool true)) := by
 go_enter Tryz.func5, Tryz.ntmps5
 go_upto_region 1 with fail
 obtain ⟨w0, hq, kf, kg, kt, bb⟩ := mk3 w [.bool n0, .string s0, .string d0, .bool n1, .string s1, .string d1, .bool n2, .string s2, .string d2, .bool n3, .string s3, .string d3, .bool n4, .string s4, .string d4, .bool n5, .string s5, .string d5] [.bool g0N, .string g0S, .string g0D, .bool g1N, .string g1S, .string g1D, .bool g2N, .string g2S, .string g2D, .bool g3N, .string g3S, .string g3D, .bool g4N, .string g4S, .string g4D, .bool g5N, .string g5S, .string g5D] [.bool p0, .string q0, .string r0, .bool p1, .string q1, .string r1, .bool p2, .string q2, .string r2, .bool p3, .string q3, .string r3, .bool p4, .string q4, .string r4, .bool p5, .string q5, .string r5] 28 28 32
 rw [← hq]
 clear hq
 go_wp2_with (first | (refine wpList_load_row rfl 28 _ rfl _ rfl 28 _ (0, 0) _ kf Tryz.underlying28 rfl (by kernel_rfl) ?_) | (refine wpList_load_row rfl 32 _ rfl _ rfl 32 _ (0, 0) _ kt Tryz.underlying32 rfl (by kernel_rfl) ?_))
 go_fit (HF.out _ bb)
 rintro e w1 ⟨rfl, b1⟩
 replace kf := kf.below b1
 replace kg := kg.below b1
 replace kt := kt.below b1
 replace bb := Below.after bb b1
 clear b1
 clear kf kg kt
 go_wp2_with fail
 go_fit (HL.out _ bb)
 rintro e w9 ⟨rfl, b1⟩
 replace bb := Below.after bb b1
 clear b1
 go_wp2
 go_ret
 exact ⟨rfl, bb⟩
theorem linear_l2 (n0 n1 n2 n3 n4 n5 p0 p1 p2 p3 p4 p5 : Bool) (s0 d0 s1 d1 s2 d2 s3 d3 s4 d4 s5 d5 q0 r0 q1 r1 q2 r2 q3 r3 q4 r4 q5 r5 : ByteArray) (g0N g1N g2N g3N g4N g5N : Bool) (g0S g0D g1S g1D g2S g2D g3S g3D g4S g4D g5S g5D : ByteArray) (w : World)
  (HF : Hid (∀ w1, Below w.heap.size w w1 → Calls Tryz.prog 8 #[.agg #[.bool n0, .string s0, .string d0, .bool n1, .string s1, .string d1, .bool n2, .string s2, .string d2, .bool n3, .string s3, .string d3, .bool n4, .string s4, .string d4, .bool n5, .string s5, .string d5], .agg #[.bool p0, .string q0, .string r0, .bool p1, .string q1, .string r1, .bool p2, .string q2, .string r2, .bool p3, .string q3, .string r3, .bool p4, .string q4, .string r4, .bool p5, .string q5, .string r5]] w1 (Re w1 (.bool true))))
  (HG : Hid (∀ w1, Below w.heap.size w w1 → Calls Tryz.prog 8 #[.agg #[.bool g0N, .string g0S, .string g0D, .bool g1N, .string g1S, .string g1D, .bool g2N, .string g2S, .string g2D, .bool g3N, .string g3S, .string g3D, .bool g4N, .string g4S, .string g4D, .bool g5N, .string g5S, .string g5D], .agg #[.bool p0, .string q0, .string r0, .bool p1, .string q1, .string r1, .bool p2, .string q2, .string r2, .bool p3, .string q3, .string r3, .bool p4, .string q4, .string r4, .bool p5, .string q5, .string r5]] w1 (Re w1 (.bool false))))
  (HL : Hid (∀ w1, Below w.heap.size w w1 → Calls Tryz.prog 9 #[] w1 (Re w1 (.bool true)))) :
  Calls Tryz.prog 5 #[.agg #[.bool n0, .string s0, .string d0, .bool n1, .string s1, .string d1, .bool n2, .string s2, .string d2, .bool n3, .string s3, .string d3, .bool n4, .string s4, .string d4, .bool n5, .string s5, .string d5], .agg #[.bool g0N, .string g0S, .string g0D, .bool g1N, .string g1S, .string g1D, .bool g2N, .string g2S, .string g2D, .bool g3N, .string g3S, .string g3D, .bool g4N, .string g4S, .string g4D, .bool g5N, .string g5S, .string g5D], .agg #[.bool p0, .string q0, .string r0, .bool p1, .string q1, .string r1, .bool p2, .string q2, .string r2, .bool p3, .string q3, .string r3, .bool p4, .string q4, .string r4, .bool p5, .string q5, .string r5]] w (Re w (.bool true)) := by
 go_enter Tryz.func5, Tryz.ntmps5
 go_upto_region 1 with fail
 obtain ⟨w0, hq, kf, kg, kt, bb⟩ := mk3 w [.bool n0, .string s0, .string d0, .bool n1, .string s1, .string d1, .bool n2, .string s2, .string d2, .bool n3, .string s3, .string d3, .bool n4, .string s4, .string d4, .bool n5, .string s5, .string d5] [.bool g0N, .string g0S, .string g0D, .bool g1N, .string g1S, .string g1D, .bool g2N, .string g2S, .string g2D, .bool g3N, .string g3S, .string g3D, .bool g4N, .string g4S, .string g4D, .bool g5N, .string g5S, .string g5D] [.bool p0, .string q0, .string r0, .bool p1, .string q1, .string r1, .bool p2, .string q2, .string r2, .bool p3, .string q3, .string r3, .bool p4, .string q4, .string r4, .bool p5, .string q5, .string r5] 28 28 32
 rw [← hq]
 clear hq
 go_wp2_with (first | (refine wpList_load_row rfl 28 _ rfl _ rfl 28 _ (0, 0) _ kf Tryz.underlying28 rfl (by kernel_rfl) ?_) | (refine wpList_load_row rfl 32 _ rfl _ rfl 32 _ (0, 0) _ kt Tryz.underlying32 rfl (by kernel_rfl) ?_))
 go_fit (HF.out _ bb)
 rintro e w1 ⟨rfl, b1⟩
 replace kf := kf.below b1
 replace kg := kg.below b1
 replace kt := kt.below b1
 replace bb := Below.after bb b1
 clear b1
 go_wp2_with (first | (refine wpList_load_rowG (by rfl) 28 _ rfl _ rfl 28 _ (0, 0) _ kg Tryz.underlying28 rfl (by kernel_rfl) ?_) | (refine wpList_load_rowG (by rfl) 32 _ rfl _ rfl 32 _ (0, 0) _ kt Tryz.underlying32 rfl (by kernel_rfl) ?_))
 go_fit (HG.out _ bb)
 rintro e w2 ⟨rfl, b1⟩
 replace kf := kf.below b1
 replace kg := kg.below b1
 replace kt := kt.below b1
 replace bb := Below.after bb b1
 clear b1
 clear kf kg kt
 go_wp2_with fail
 go_fit (HL.out _ bb)
 rintro e w9 ⟨rfl, b1⟩
 replace bb := Below.after bb b1
 clear b1
 go_wp2
 go_ret
 exact ⟨rfl, bb⟩
theorem linear_n (n0 n1 n2 n3 n4 n5 p0 p1 p2 p3 p4 p5 : Bool) (s0 d0 s1 d1 s2 d2 s3 d3 s4 d4 s5 d5 q0 r0 q1 r1 q2 r2 q3 r3 q4 r4 q5 r5 : ByteArray) (g0N g1N g2N g3N g4N g5N : Bool) (g0S g0D g1S g1D g2S g2D g3S g3D g4S g4D g5S g5D : ByteArray) (E : Int) (hE : ¬ E = 0) (w : World)
  (HF : Hid (∀ w1, Below w.heap.size w w1 → Calls Tryz.prog 8 #[.agg #[.bool n0, .string s0, .string d0, .bool n1, .string s1, .string d1, .bool n2, .string s2, .string d2, .bool n3, .string s3, .string d3, .bool n4, .string s4, .string d4, .bool n5, .string s5, .string d5], .agg #[.bool p0, .string q0, .string r0, .bool p1, .string q1, .string r1, .bool p2, .string q2, .string r2, .bool p3, .string q3, .string r3, .bool p4, .string q4, .string r4, .bool p5, .string q5, .string r5]] w1 (Re w1 (.bool true))))
  (HG : Hid (∀ w1, Below w.heap.size w w1 → Calls Tryz.prog 8 #[.agg #[.bool g0N, .string g0S, .string g0D, .bool g1N, .string g1S, .string g1D, .bool g2N, .string g2S, .string g2D, .bool g3N, .string g3S, .string g3D, .bool g4N, .string g4S, .string g4D, .bool g5N, .string g5S, .string g5D], .agg #[.bool p0, .string q0, .string r0, .bool p1, .string q1, .string r1, .bool p2, .string q2, .string r2, .bool p3, .string q3, .string r3, .bool p4, .string q4, .string r4, .bool p5, .string q5, .string r5]] w1 (Re w1 (.bool true))))
  (HT : Hid (∀ w1, Below w.heap.size w w1 → Calls Tryz.prog 18 #[.agg #[.bool n0, .string s0, .string d0, .bool n1, .string s1, .string d1, .bool n2, .string s2, .string d2, .bool n3, .string s3, .string d3, .bool n4, .string s4, .string d4, .bool n5, .string s5, .string d5], .agg #[.bool p0, .string q0, .string r0, .bool p1, .string q1, .string r1, .bool p2, .string q2, .string r2, .bool p3, .string q3, .string r3, .bool p4, .string q4, .string r4, .bool p5, .string q5, .string r5]] w1 (Re w1 (.int .i64 E))))
  (HL : Hid (∀ w1, Below w.heap.size w w1 → Calls Tryz.prog 9 #[] w1 (Re w1 (.bool true)))) :
  Calls Tryz.prog 5 #[.agg #[.bool n0, .string s0, .string d0, .bool n1, .string s1, .string d1, .bool n2, .string s2, .string d2, .bool n3, .string s3, .string d3, .bool n4, .string s4, .string d4, .bool n5, .string s5, .string d5], .agg #[.bool g0N, .string g0S, .string g0D, .bool g1N, .string g1S, .string g1D, .bool g2N, .string g2S, .string g2D, .bool g3N, .string g3S, .string g3D, .bool g4N, .string g4S, .string g4D, .bool g5N, .string g5S, .string g5D], .agg #[.bool p0, .string q0, .string r0, .bool p1, .string q1, .string r1, .bool p2, .string q2, .string r2, .bool p3, .string q3, .string r3, .bool p4, .string q4, .string r4, .bool p5, .string q5, .string r5]] w (Re w (.bool true)) := by
 go_enter Tryz.func5, Tryz.ntmps5
 go_upto_region 1 with fail
 obtain ⟨w0, hq, kf, kg, kt, bb⟩ := mk3 w [.bool n0, .string s0, .string d0, .bool n1, .string s1, .string d1, .bool n2, .string s2, .string d2, .bool n3, .string s3, .string d3, .bool n4, .string s4, .string d4, .bool n5, .string s5, .string d5] [.bool g0N, .string g0S, .string g0D, .bool g1N, .string g1S, .string g1D, .bool g2N, .string g2S, .string g2D, .bool g3N, .string g3S, .string g3D, .bool g4N, .string g4S, .string g4D, .bool g5N, .string g5S, .string g5D] [.bool p0, .string q0, .string r0, .bool p1, .string q1, .string r1, .bool p2, .string q2, .string r2, .bool p3, .string q3, .string r3, .bool p4, .string q4, .string r4, .bool p5, .string q5, .string r5] 28 28 32
 rw [← hq]
 clear hq
 go_wp2_with (first | (refine wpList_load_row rfl 28 _ rfl _ rfl 28 _ (0, 0) _ kf Tryz.underlying28 rfl (by kernel_rfl) ?_) | (refine wpList_load_row rfl 32 _ rfl _ rfl 32 _ (0, 0) _ kt Tryz.underlying32 rfl (by kernel_rfl) ?_))
 go_fit (HF.out _ bb)
 rintro e w1 ⟨rfl, b1⟩
 replace kf := kf.below b1
 replace kg := kg.below b1
 replace kt := kt.below b1
 replace bb := Below.after bb b1
 clear b1
 go_wp2_with (first | (refine wpList_load_rowG (by rfl) 28 _ rfl _ rfl 28 _ (0, 0) _ kg Tryz.underlying28 rfl (by kernel_rfl) ?_) | (refine wpList_load_rowG (by rfl) 32 _ rfl _ rfl 32 _ (0, 0) _ kt Tryz.underlying32 rfl (by kernel_rfl) ?_))
 go_fit (HG.out _ bb)
 rintro e w2 ⟨rfl, b1⟩
 replace kf := kf.below b1
 replace kg := kg.below b1
 replace kt := kt.below b1
 replace bb := Below.after bb b1
 clear b1
 go_wp2_with (first | (refine wpList_load_rowG (by rfl) 28 _ rfl _ rfl 28 _ (0, 0) _ kf Tryz.underlying28 rfl (by kernel_rfl) ?_) | (refine wpList_load_rowG (by rfl) 32 _ rfl _ rfl 32 _ (0, 0) _ kt Tryz.underlying32 rfl (by kernel_rfl) ?_))
 go_fit (HT.out _ bb)
 rintro e w3 ⟨rfl, b1⟩
 replace kf := kf.below b1
 replace kg := kg.below b1
 replace kt := kt.below b1
 replace bb := Below.after bb b1
 clear b1
 clear kf kg kt
 go_wp2_with fail
 go_fit (HL.out _ bb)
 rintro e w9 ⟨rfl, b1⟩
 replace bb := Below.after bb b1
 clear b1
 go_wp2
 go_ret
 exact ⟨rfl, bb⟩
theorem linear_c (n0 n1 n2 n3 n4 n5 p0 p1 p2 p3 p4 p5 : Bool) (s0 d0 s1 d1 s2 d2 s3 d3 s4 d4 s5 d5 q0 r0 q1 r1 q2 r2 q3 r3 q4 r4 q5 r5 : ByteArray) (g0N g1N g2N g3N g4N g5N : Bool) (g0S g0D g1S g1D g2S g2D g3S g3D g4S g4D g5S g5D : ByteArray) (E : Int) (hE : ¬ E = 0) (w : World)
  (HF : Hid (∀ w1, Below w.heap.size w w1 → Calls Tryz.prog 8 #[.agg #[.bool n0, .string s0, .string d0, .bool n1, .string s1, .string d1, .bool n2, .string s2, .string d2, .bool n3, .string s3, .string d3, .bool n4, .string s4, .string d4, .bool n5, .string s5, .string d5], .agg #[.bool p0, .string q0, .string r0, .bool p1, .string q1, .string r1, .bool p2, .string q2, .string r2, .bool p3, .string q3, .string r3, .bool p4, .string q4, .string r4, .bool p5, .string q5, .string r5]] w1 (Re w1 (.bool true))))
  (HG : Hid (∀ w1, Below w.heap.size w w1 → Calls Tryz.prog 8 #[.agg #[.bool g0N, .string g0S, .string g0D, .bool g1N, .string g1S, .string g1D, .bool g2N, .string g2S, .string g2D, .bool g3N, .string g3S, .string g3D, .bool g4N, .string g4S, .string g4D, .bool g5N, .string g5S, .string g5D], .agg #[.bool p0, .string q0, .string r0, .bool p1, .string q1, .string r1, .bool p2, .string q2, .string r2, .bool p3, .string q3, .string r3, .bool p4, .string q4, .string r4, .bool p5, .string q5, .string r5]] w1 (Re w1 (.bool true))))
  (HT : Hid (∀ w1, Below w.heap.size w w1 → Calls Tryz.prog 18 #[.agg #[.bool n0, .string s0, .string d0, .bool n1, .string s1, .string d1, .bool n2, .string s2, .string d2, .bool n3, .string s3, .string d3, .bool n4, .string s4, .string d4, .bool n5, .string s5, .string d5], .agg #[.bool p0, .string q0, .string r0, .bool p1, .string q1, .string r1, .bool p2, .string q2, .string r2, .bool p3, .string q3, .string r3, .bool p4, .string q4, .string r4, .bool p5, .string q5, .string r5]] w1 (Re w1 (.int .i64 0))))
  (HC : Hid (∀ w1, Below w.heap.size w w1 → Calls Tryz.prog 11 #[.agg #[.bool g0N, .string g0S, .string g0D, .bool g1N, .string g1S, .string g1D, .bool g2N, .string g2S, .string g2D, .bool g3N, .string g3S, .string g3D, .bool g4N, .string g4S, .string g4D, .bool g5N, .string g5S, .string g5D]] w1 (Re w1 (.int .i64 E))))
  (HL : Hid (∀ w1, Below w.heap.size w w1 → Calls Tryz.prog 9 #[] w1 (Re w1 (.bool true)))) :
  Calls Tryz.prog 5 #[.agg #[.bool n0, .string s0, .string d0, .bool n1, .string s1, .string d1, .bool n2, .string s2, .string d2, .bool n3, .string s3, .string d3, .bool n4, .string s4, .string d4, .bool n5, .string s5, .string d5], .agg #[.bool g0N, .string g0S, .string g0D, .bool g1N, .string g1S, .string g1D, .bool g2N, .string g2S, .string g2D, .bool g3N, .string g3S, .string g3D, .bool g4N, .string g4S, .string g4D, .bool g5N, .string g5S, .string g5D], .agg #[.bool p0, .string q0, .string r0, .bool p1, .string q1, .string r1, .bool p2, .string q2, .string r2, .bool p3, .string q3, .string r3, .bool p4, .string q4, .string r4, .bool p5, .string q5, .string r5]] w (Re w (.bool true)) := by
 go_enter Tryz.func5, Tryz.ntmps5
 go_upto_region 1 with fail
 obtain ⟨w0, hq, kf, kg, kt, bb⟩ := mk3 w [.bool n0, .string s0, .string d0, .bool n1, .string s1, .string d1, .bool n2, .string s2, .string d2, .bool n3, .string s3, .string d3, .bool n4, .string s4, .string d4, .bool n5, .string s5, .string d5] [.bool g0N, .string g0S, .string g0D, .bool g1N, .string g1S, .string g1D, .bool g2N, .string g2S, .string g2D, .bool g3N, .string g3S, .string g3D, .bool g4N, .string g4S, .string g4D, .bool g5N, .string g5S, .string g5D] [.bool p0, .string q0, .string r0, .bool p1, .string q1, .string r1, .bool p2, .string q2, .string r2, .bool p3, .string q3, .string r3, .bool p4, .string q4, .string r4, .bool p5, .string q5, .string r5] 28 28 32
 rw [← hq]
 clear hq
 go_wp2_with (first | (refine wpList_load_row rfl 28 _ rfl _ rfl 28 _ (0, 0) _ kf Tryz.underlying28 rfl (by kernel_rfl) ?_) | (refine wpList_load_row rfl 32 _ rfl _ rfl 32 _ (0, 0) _ kt Tryz.underlying32 rfl (by kernel_rfl) ?_))
 go_fit (HF.out _ bb)
 rintro e w1 ⟨rfl, b1⟩
 replace kf := kf.below b1
 replace kg := kg.below b1
 replace kt := kt.below b1
 replace bb := Below.after bb b1
 clear b1
 go_wp2_with (first | (refine wpList_load_rowG (by rfl) 28 _ rfl _ rfl 28 _ (0, 0) _ kg Tryz.underlying28 rfl (by kernel_rfl) ?_) | (refine wpList_load_rowG (by rfl) 32 _ rfl _ rfl 32 _ (0, 0) _ kt Tryz.underlying32 rfl (by kernel_rfl) ?_))
 go_fit (HG.out _ bb)
 rintro e w2 ⟨rfl, b1⟩
 replace kf := kf.below b1
 replace kg := kg.below b1
 replace kt := kt.below b1
 replace bb := Below.after bb b1
 clear b1
 go_wp2_with (first | (refine wpList_load_rowG (by rfl) 28 _ rfl _ rfl 28 _ (0, 0) _ kf Tryz.underlying28 rfl (by kernel_rfl) ?_) | (refine wpList_load_rowG (by rfl) 32 _ rfl _ rfl 32 _ (0, 0) _ kt Tryz.underlying32 rfl (by kernel_rfl) ?_))
 go_fit (HT.out _ bb)
 rintro e w3 ⟨rfl, b1⟩
 replace kf := kf.below b1
 replace kg := kg.below b1
 replace kt := kt.below b1
 replace bb := Below.after bb b1
 clear b1
 go_wp2_with (first | (refine wpList_load_rowG (by rfl) 28 _ rfl _ rfl 28 _ (0, 0) _ kg Tryz.underlying28 rfl (by kernel_rfl) ?_))
 go_fit (HC.out _ bb)
 rintro e w4 ⟨rfl, b1⟩
 replace kf := kf.below b1
 replace kg := kg.below b1
 replace kt := kt.below b1
 replace bb := Below.after bb b1
 clear b1
 clear kf kg kt
 go_wp2_with fail
 go_fit (HL.out _ bb)
 rintro e w9 ⟨rfl, b1⟩
 replace bb := Below.after bb b1
 clear b1
 go_wp2
 go_ret
 exact ⟨rfl, bb⟩
end Go.Proofs.YtbafjmjcepcckaaGreatDoor
