/-
  the text of a plan.
  two plans held against each other.
  plans held against each other, and read, once more.
  package pslg's Print.
-/
import Derived.Test.YtnplifkgeeicjaaGreatDoorT46
set_option maxRecDepth 20000
set_option maxHeartbeats 8000000
namespace Go.Proofs.YtnplifkgeeicjaaGreatDoor
open Go.RowKit
theorem row2 {w : World} {g : Nat} {a d : Bool} {b c e f : ByteArray} {t : TypeId} (k : Cel w g (ql2 a b c d e f) t) : RowR w 3 (.slice (some ⟨g, 0, none⟩) 2 2) ([((a, b, c) : Q3), (d, e, f)].map cQ) := by
 refine ⟨_, 2, rfl, Nat.le_refl _, fun j q hq => ⟨g, 0, rfl, k.lt, fun i v hv => ?_⟩⟩
 rw [k.cell]
 match j, hq with
 | 0, hq => injection hq with hq; subst hq; match i, hv with | 0, hv => exact hv | 1, hv => exact hv | 2, hv => exact hv
 | 1, hq => injection hq with hq; subst hq; match i, hv with | 0, hv => exact hv | 1, hv => exact hv | 2, hv => exact hv
theorem lnP_len (T : Q3 → ByteArray) (l : List (Q3 × Q3)) (k : Nat) : (lnP T (l.take k)).length ≤ k := by
 unfold lnP
 rw [List.length_map, List.length_take]
 omega
theorem lnP_up (T : Q3 → ByteArray) (l : List (Q3 × Q3)) (k : Nat) (q : Q3 × Q3) (h : l[k]? = some q) (L : List (List ByteArray)) : (L ++ lnP T (l.take k)) ++ [[T q.1, T q.2]] = L ++ lnP T (l.take (k + 1)) := by
 rw [List.take_add_one, h]
 unfold lnP
 simp
theorem lnS_len (l : List (Nat × Nat × Bool)) (k : Nat) : (lnS (l.take k)).length ≤ k := by
 unfold lnS
 rw [List.length_map, List.length_take]
 omega
theorem lnS_up (l : List (Nat × Nat × Bool)) (k : Nat) (q : Nat × Nat × Bool) (h : l[k]? = some q) (L : List (List ByteArray)) : (L ++ lnS (l.take k)) ++ [[dg q.1, dg q.2.1, kd8 q.2.2]] = L ++ lnS (l.take (k + 1)) := by
 rw [List.take_add_one, h]
 unfold lnS
 simp
theorem rg_cel {w : World} {g : Nat} {cs : List Value} {t : TypeId} (k : Cel w g cs t) (o n : Nat) : w.rangeAt g o ((cs.drop o).take n) := fun j v hv => by
 rw [k.cell, ← List.getElem?_drop]
 rw [List.getElem?_take] at hv
 split at hv
 ·exact hv
 ·cases hv
theorem row6 {w : World} {g : Nat} {cs : List Value} {t : TypeId} (k : Cel w g cs t) (o : Nat) (x : Nat → Q3) (h : (cs.drop o).take 18 = L18 x) : RowR w 3 (.slice (some ⟨g, o, none⟩) 6 6) ([x 0, x 1, x 2, x 3, x 4, x 5].map cQ) := by
 refine ⟨_, 6, rfl, Nat.le_refl _, fun j q hq => ⟨g, o, rfl, k.lt, fun i v hv => ?_⟩⟩
 rw [k.cell, Nat.add_assoc, ← List.getElem?_drop]
 have hL : (L18 x)[j * 3 + i]? = some v := by
  match j, hq with
  | 0, hq => injection hq with hq; subst hq; match i, hv with | 0, hv => exact hv | 1, hv => exact hv | 2, hv => exact hv
  | 1, hq => injection hq with hq; subst hq; match i, hv with | 0, hv => exact hv | 1, hv => exact hv | 2, hv => exact hv
  | 2, hq => injection hq with hq; subst hq; match i, hv with | 0, hv => exact hv | 1, hv => exact hv | 2, hv => exact hv
  | 3, hq => injection hq with hq; subst hq; match i, hv with | 0, hv => exact hv | 1, hv => exact hv | 2, hv => exact hv
  | 4, hq => injection hq with hq; subst hq; match i, hv with | 0, hv => exact hv | 1, hv => exact hv | 2, hv => exact hv
  | 5, hq => injection hq with hq; subst hq; match i, hv with | 0, hv => exact hv | 1, hv => exact hv | 2, hv => exact hv
 rw [← h] at hL
 rw [List.getElem?_take] at hL
 split at hL
 ·exact hL
 ·cases hL
theorem tx_six {T : Q3 → ByteArray} {x : Nat → Q3} {w : World} (h : ∀ i, TX T (x i) w) (q : Q3) (hq : q ∈ [x 0, x 1, x 2, x 3, x 4, x 5]) : TX T q w := by
 rcases List.mem_cons.1 hq with rfl | hq
 ·exact h 0
 rcases List.mem_cons.1 hq with rfl | hq
 ·exact h 1
 rcases List.mem_cons.1 hq with rfl | hq
 ·exact h 2
 rcases List.mem_cons.1 hq with rfl | hq
 ·exact h 3
 rcases List.mem_cons.1 hq with rfl | hq
 ·exact h 4
 rw [List.mem_singleton.1 hq]
 exact h 5
theorem written_any (T : Q3 → ByteArray) (A1 A3 : List (Q3 × Q3)) (A2 : List (Nat × Nat × Bool)) (a1 a2 a3 : Option Addr) (n1 n2 n3 m1 m2 m3 : Nat) (x y : Nat → Q3) (w : World) (e1 : A1.length = n1) (e2 : A2.length = n2) (e3 : A3.length = n3)
  (h1 : n1 < 100) (h2 : n2 < 100) (h3 : n3 < 100) (r1 : RowR w 6 (.slice a1 n1 m1) (A1.map cP)) (r2 : RowR w 3 (.slice a2 n2 m2) (A2.map cS)) (r3 : RowR w 6 (.slice a3 n3 m3) (A3.map cP))
  (t1 : ∀ q, q ∈ A1 → TX T q.1 w ∧ TX T q.2 w) (t3 : ∀ q, q ∈ A3 → TX T q.1 w ∧ TX T q.2 w) (tx : ∀ i, TX T (x i) w) (ty : ∀ i, TX T (y i) w) (s2 : ∀ s, s ∈ A2 → s.1 < 100 ∧ s.2.1 < 100) (zT : ∀ q, (T q).size ≤ 1000) :
  Calls Tryz.prog 52 #[.agg #[.slice a1 n1 m1, .slice a2 n2 m2, .slice a3 n3 m3, .bool (x 0).1, .string (x 0).2.1, .string (x 0).2.2, .bool (x 1).1, .string (x 1).2.1, .string (x 1).2.2, .bool (x 2).1, .string (x 2).2.1, .string (x 2).2.2, .bool (x 3).1, .string (x 3).2.1, .string (x 3).2.2, .bool (x 4).1, .string (x 4).2.1, .string (x 4).2.2, .bool (x 5).1, .string (x 5).2.1, .string (x 5).2.2, .bool (y 0).1, .string (y 0).2.1, .string (y 0).2.2, .bool (y 1).1, .string (y 1).2.1, .string (y 1).2.2, .bool (y 2).1, .string (y 2).2.1, .string (y 2).2.2, .bool (y 3).1, .string (y 3).2.1, .string (y 3).2.2, .bool (y 4).1, .string (y 4).2.1, .string (y 4).2.2, .bool (y 5).1, .string (y 5).2.1, .string (y 5).2.2]] w (Re w (.string (wtx T ⟨A1, A2, A3, [x 0, x 1, x 2, x 3, x 4, x 5], [y 0, y 1, y 2, y 3, y 4, y 5]⟩))) := by
 go_enter Tryz.func52, Tryz.ntmps52
 go_upto_region 1 with fail
 obtain ⟨w0, hq, kz, b0⟩ := mk1 w [.slice a1 n1 m1, .slice a2 n2 m2, .slice a3 n3 m3, .bool (x 0).1, .string (x 0).2.1, .string (x 0).2.2, .bool (x 1).1, .string (x 1).2.1, .string (x 1).2.2, .bool (x 2).1, .string (x 2).2.1, .string (x 2).2.2, .bool (x 3).1, .string (x 3).2.1, .string (x 3).2.2, .bool (x 4).1, .string (x 4).2.1, .string (x 4).2.2, .bool (x 5).1, .string (x 5).2.1, .string (x 5).2.2, .bool (y 0).1, .string (y 0).2.1, .string (y 0).2.2, .bool (y 1).1, .string (y 1).2.1, .string (y 1).2.2, .bool (y 2).1, .string (y 2).2.1, .string (y 2).2.2, .bool (y 3).1, .string (y 3).2.1, .string (y 3).2.2, .bool (y 4).1, .string (y 4).2.1, .string (y 4).2.2, .bool (y 5).1, .string (y 5).2.1, .string (y 5).2.2] 46
 rw [← hq]
 clear hq
 have R1 := shut (fun wi (b : Below w0.heap.size w0 wi) => (r1.below b0).below b)
 have R2 := shut (fun wi (b : Below w0.heap.size w0 wi) => (r2.below b0).below b)
 have R3 := shut (fun wi (b : Below w0.heap.size w0 wi) => (r3.below b0).below b)
 have T1 := shut (fun q hq => And.intro ((t1 q hq).1.below b0) ((t1 q hq).2.below b0))
 have T3 := shut (fun q hq => And.intro ((t3 q hq).1.below b0) ((t3 q hq).2.below b0))
 have TX' := shut (fun i => (tx i).below b0)
 have TY := shut (fun i => (ty i).below b0)
 have hG := kz.lt
 have ZT := shut zT
 have S2 := shut s2
 have E1 := shut e1
 have E2 := shut e2
 have E3 := shut e3
 clear r1 r2 r3 t1 t3 tx ty zT s2 e1 e2 e3
 obtain ⟨G, hGG⟩ : ∃ G, G = w.heap.size := ⟨_, rfl⟩
 rw [← hGG] at kz hG ⊢
 have kz' : Cel w0 G (pl39 (.slice a1 n1 m1) (.slice a2 n2 m2) (.slice a3 n3 m3) (L18 x) (L18 y)) 46 := kz
 clear kz hGG
 obtain ⟨cs, hcs⟩ : ∃ cs : List Value, cs = pl39 (.slice a1 n1 m1) (.slice a2 n2 m2) (.slice a3 n3 m3) (L18 x) (L18 y) := ⟨_, rfl⟩
 rw [← hcs] at kz'
 have C0 : Hid (∀ wi, Cel wi G cs 46 → wi.cell? ⟨G, 0, none⟩ = some (.slice a1 n1 m1)) := fun wi k => by rw [k.cell 0, hcs]; rfl
 have C1 : Hid (∀ wi, Cel wi G cs 46 → wi.cell? ⟨G, 1, none⟩ = some (.slice a2 n2 m2)) := fun wi k => by rw [k.cell 1, hcs]; rfl
 have C2 : Hid (∀ wi, Cel wi G cs 46 → wi.cell? ⟨G, 2, none⟩ = some (.slice a3 n3 m3)) := fun wi k => by rw [k.cell 2, hcs]; rfl
 have CF : Hid (∀ wi, Cel wi G cs 46 → RowR wi 3 (.slice (some ⟨G, 3, none⟩) 6 6) ([x 0, x 1, x 2, x 3, x 4, x 5].map cQ)) := fun wi k => row6 k 3 x (by rw [hcs]; rfl)
 have CG : Hid (∀ wi, Cel wi G cs 46 → RowR wi 3 (.slice (some ⟨G, 21, none⟩) 6 6) ([y 0, y 1, y 2, y 3, y 4, y 5].map cQ)) := fun wi k => row6 k 21 y (by rw [hcs]; rfl)
 clear hcs
 go_upto_region 2 with fail
 obtain ⟨w2, hq, ka, kb, b2⟩ := mk2 w0 [.string wP] [.slice (some ⟨w0.heap.size, 0, none⟩) 1 1] 9 91
 rw [← hq]
 clear hq
 generalize Value.agg _ = V0
 have H2 : WL w0 G cs (.slice (some ⟨w0.heap.size + 1, 0, none⟩) 1 1) [[wP]] w2 := by
  refine ⟨kz'.below b2, ⟨[.slice (some ⟨w0.heap.size, 0, none⟩) 1 1], own_cel kb (by omega) rfl (by decide), fun j l hj => ?_⟩, b2, hG⟩
  cases j with
  | zero => injection hj with hj; subst hj; exact ⟨_, rfl, own_cel ka (Nat.le_refl _) rfl (by decide)⟩
  | succ j => simp at hj
 clear ka kb kz'
 have c0 := C0.out _ H2.kz
 have HI := shut (fun w1 => itoa_any n1 h1 w1)
 have zz : ([[wP]]).length + 1 ≤ 1000000 := by decide
 go_upto_region 3 with (first | (go_at_call 96; refine (HI.out _).mono ?_; rintro e w3 ⟨rfl, b3⟩; have K3 := H2.below b3) | (refine wpList_ap9 rfl _ _ rfl (.slice (some ⟨w0.heap.size + 1, 0, none⟩) 1 1) w0.heap.size ([[wP]]) rfl (w3.alloc (.cells [.string wV, .string (dg n1)].toArray 9)) (.slice (some ⟨w3.heap.size, 0, none⟩) 2 2) [wV, dg n1] rfl (K3.ln.below (ba1 _)) (Nat.le_trans K3.bw.size (ba1 _).size) (w3.heap.size + 1) (by simp) rfl (own_cel (Cel.new _ _ _) K3.bw.size rfl (by decide)) zz ?_; intro v3 w4 l4 b4))
 have H3 := K3.app (ba1 _) l4 b4
 clear H2 K3 l4 b4 b3 c0 HI zz
 obtain ⟨L1, hL1⟩ : ∃ L, L = [[wP]] ++ [[wV, dg n1]] := ⟨_, rfl⟩
 rw [← hL1] at H3
 have zL1 : L1.length ≤ 2 := by rw [hL1]; exact Nat.le_refl 2
 have HL1 := shut hL1
 clear hL1
 have c0 := C0.out _ H3.kz
 go_upto_region 4 with fail
 clear c0
 go_loopw [3, 26] (fun v i wr => ∃ k : Nat, k ≤ n1 ∧ i = .int .i64 (k : Nat) ∧ WL w0 G cs v (L1 ++ lnP T (A1.take k)) wr) (fun _ i _ => n1 - (intOf i).toNat)
 case atStart => exact ⟨0, Nat.zero_le _, rfl, by simpa [lnP, lnS] using H3⟩
 case round =>
  clear H3
  obtain ⟨k, hk, rfl, HW⟩ := hrel
  by_cases hgo : k < n1
  ·have hgo' : (k : Int) < (n1 : Int) := by omega
   obtain ⟨q, hq⟩ : ∃ q, A1[k]? = some q := ⟨_, List.getElem?_eq_getElem (by rw [E1.out]; exact hgo)⟩
   obtain ⟨a, c, ea, -, hR⟩ := R1.out _ HW.bw
   obtain ⟨g, o, eg, -, hc⟩ := hR k _ (by rw [List.getElem?_map, hq]; rfl)
   replace ea := (Value.slice.inj ea).1
   rw [eg] at ea
   subst ea
   obtain ⟨tqx, tqy⟩ := T1.out q (List.mem_of_getElem? hq)
   have hup := shut (lnP_up T A1 k q hq L1)
   obtain ⟨⟨xn, xs, xd⟩, yn, ys, yd⟩ := q
   have qA : wr.rangeAt g (o + k * 6) (ql2 xn xs xd yn ys yd) := hc
   have hlen := lnP_len T A1 k
   clear hc hR eg hq
   go_upto_region 6 with (refine wpList_load_mid rfl 30 _ rfl g (o + k * 6) rfl (ql2 xn xs xd yn ys yd) _ qA Tryz.underlying30 rfl (by kernel_rfl) ?_)
   obtain ⟨w5, hq, kp, b5⟩ := mk1 wr (ql2 xn xs xd yn ys yd) 30
   rw [← hq]
   clear hq qA
   have K5 := HW.below b5
   have rX : w5.rangeAt wr.heap.size 0 (ql1 xn xs xd) := rg_cel kp 0 3
   have rY : w5.rangeAt wr.heap.size 3 (ql1 yn ys yd) := rg_cel kp 3 3
   have HTX : Hid (∀ q, q ∈ [((xn, xs, xd) : Q3), (yn, ys, yd)] → TX T q (w5.alloc (.cells (ql2 xn xs xd yn ys yd).toArray 26))) := fun q hq => by
    have hb := Below.after K5.bw (ba1 (.cells (ql2 xn xs xd yn ys yd).toArray 26))
    rcases List.mem_cons.1 hq with rfl | hq
    ·exact tqx.below hb
    ·rw [List.mem_singleton.1 hq]; exact tqy.below hb
   have hlen' : (L1 ++ lnP T (A1.take k)).length + 1 ≤ 1000000 := by rw [List.length_append]; omega
   clear kp b5 HW tqx tqy hlen
   generalize L1 ++ lnP T (A1.take k) = LL at *
   go_upto_region 7 with (first | (refine wpList_load_mid rfl 26 _ rfl wr.heap.size 0 rfl (ql1 xn xs xd) _ rX Tryz.underlying26 rfl (by kernel_rfl) ?_) | (refine wpList_load_mid rfl 26 _ rfl wr.heap.size 3 rfl (ql1 yn ys yd) _ rY Tryz.underlying26 rfl (by kernel_rfl) ?_) | (go_at_call 97; refine (texts_any T [(xn, xs, xd), (yn, ys, yd)] (Nat.le_of_ble_eq_true rfl) _ _ (row2 (Cel.new w5 _ 26)) HTX.out).mono ?_; rintro e w6 ⟨v6, rfl, o5, b6⟩; have K6 := (K5.below (ba1 _)).below b6; have o6 : w6.ownsRow _ 9 1 v6 2 ([T (xn, xs, xd), T (yn, ys, yd)].map Value.string) := o5; obtain ⟨a6, c6, rfl⟩ := own_val o6) | (refine wpList_ap9 rfl _ _ rfl u3 w0.heap.size LL rfl w6 (.slice a6 2 c6) [T (xn, xs, xd), T (yn, ys, yd)] rfl K6.ln K6.bw.size w6.heap.size rfl rfl (own_mono o6 (Nat.le_trans K5.bw.size (ba1 _).size)) hlen' ?_; intro v7 w7 l7 b7))
   have K7 := WL.app K6 (Below.refl _ _) l7 b7
   rw [hup.out] at K7
   clear K6 K5 l7 b7 o6 o5 b6 HTX rX rY hlen' hup
   go_wp2
   go_roundw
   case rel => exact ⟨k + 1, by omega, by go_num, K7⟩
   case measure => simp [intOf]; omega
  ·have hgo' : ¬ (k : Int) < (n1 : Int) := by omega
   have hkn : k = A1.length := by rw [E1.out]; omega
   rw [hkn, List.take_length] at HW
   clear hgo hk
   obtain ⟨L2, hL2⟩ : ∃ L, L = L1 ++ lnP T A1 := ⟨_, rfl⟩
   rw [← hL2] at HW
   have zL2 : L2.length ≤ 102 := by rw [hL2]; rw [List.length_append]; unfold lnP; rw [List.length_map, E1.out]; omega
   have HL2 := shut hL2
   clear hL2
   go_upto_region 8 with fail
   have c0 := C1.out _ HW.kz
   have HI := shut (fun w1 => itoa_any n2 h2 w1)
   have zz : (L2).length + 1 ≤ 1000000 := by omega
   go_upto_region 9 with (first | (go_at_call 96; refine (HI.out _).mono ?_; rintro e w3 ⟨rfl, b3⟩; have K3 := HW.below b3) | (refine wpList_ap9 rfl _ _ rfl u3 w0.heap.size (L2) rfl (w3.alloc (.cells [.string wS, .string (dg n2)].toArray 9)) (.slice (some ⟨w3.heap.size, 0, none⟩) 2 2) [wS, dg n2] rfl (K3.ln.below (ba1 _)) (Nat.le_trans K3.bw.size (ba1 _).size) (w3.heap.size + 1) (by simp) rfl (own_cel (Cel.new _ _ _) K3.bw.size rfl (by decide)) zz ?_; intro v3 w4 l4 b4))
   have H4 := K3.app (ba1 _) l4 b4
   clear HW K3 l4 b4 b3 c0 HI zz
   obtain ⟨L3, hL3⟩ : ∃ L, L = L2 ++ [[wS, dg n2]] := ⟨_, rfl⟩
   rw [← hL3] at H4
   have zL3 : L3.length ≤ 103 := by rw [hL3]; rw [List.length_append]; exact Nat.add_le_add_right zL2 1
   have HL3 := shut hL3
   clear hL3
   have c0 := C1.out _ H4.kz
   go_upto_region 10 with fail
   clear c0
   go_loopw [3, 51] (fun v i wr => ∃ k : Nat, k ≤ n2 ∧ i = .int .i64 (k : Nat) ∧ WL w0 G cs v (L3 ++ lnS (A2.take k)) wr) (fun _ i _ => n2 - (intOf i).toNat)
   case atStart => exact ⟨0, Nat.zero_le _, rfl, by simpa [lnP, lnS] using H4⟩
   case round =>
    clear H4
    obtain ⟨k, hk, rfl, HW⟩ := hrel
    by_cases hgo : k < n2
    ·have hgo' : (k : Int) < (n2 : Int) := by omega
     obtain ⟨q, hq⟩ : ∃ q, A2[k]? = some q := ⟨_, List.getElem?_eq_getElem (by rw [E2.out]; exact hgo)⟩
     obtain ⟨a, c, ea, -, hR⟩ := R2.out _ HW.bw
     obtain ⟨g, o, eg, -, hc⟩ := hR k _ (by rw [List.getElem?_map, hq]; rfl)
     replace ea := (Value.slice.inj ea).1
     rw [eg] at ea
     subst ea
     obtain ⟨sa, sb⟩ := S2.out q (List.mem_of_getElem? hq)
     have hup := shut (lnS_up A2 k q hq L3)
     obtain ⟨a, b, f⟩ := q
     have qA : wr.rangeAt g (o + k * 3) [.int .i64 (a : Nat), .int .i64 (b : Nat), .bool f] := hc
     have hlen := lnS_len A2 k
     clear hc hR eg hq
     go_upto_region 12 with (refine wpList_load_mid rfl 103 _ rfl g (o + k * 3) rfl [.int .i64 (a : Nat), .int .i64 (b : Nat), .bool f] _ qA Tryz.underlying103 rfl (by kernel_rfl) ?_)
     obtain ⟨w5, hq, kp, b5⟩ := mk1 wr [.int .i64 (a : Nat), .int .i64 (b : Nat), .bool f] 103
     rw [← hq]
     clear hq qA
     have K5 := (HW.below b5).below (bdrew w5)
     have kp' := kp.below (bdrew w5)
     have hlen' : (L3 ++ lnS (A2.take k)).length + 1 ≤ 1000000 := by rw [List.length_append]; omega
     have I1 := shut (fun w1 => itoa_any a sa w1)
     have I2 := shut (fun w1 => itoa_any b sb w1)
     have I3 := shut (fun w1 => kind_any a b f w1)
     clear b5 HW hlen kp
     generalize L3 ++ lnS (A2.take k) = LL at *
     obtain ⟨gS, hgS⟩ : ∃ g, g = wr.heap.size := ⟨_, rfl⟩
     rw [← hgS] at kp' ⊢
     clear hgS
     refine wp_region_held_drew (S := fun w' => w'.cell? ⟨gS, 0, none⟩ = some (.int .i64 (a : Nat)) ∧ w'.cell? ⟨gS, 1, none⟩ = some (.int .i64 (b : Nat)) ∧ w'.rangeAt gS 0 [.int .i64 (a : Nat), .int .i64 (b : Nat), .bool f]) (by kernel_rfl) ⟨kp'.cell 0, kp'.cell 1, rg_cel kp' 0 3⟩ (fun hS => ?_)
     generalize w5.drew = wd at *
     refine WA.start (n := 13) (by kernel_rfl) ?_
     refine WA.tp 0 rfl ?_
     refine WA.tp 1 rfl ?_
     refine WA.tp 2 rfl ?_
     refine WA.tp 4 rfl ?_
     refine WA.tp 5 rfl ?_
     refine WA.tp 7 rfl ?_ (hy := yieldsIf_load_mid (by rfl) 103 _ rfl gS 0 rfl [.int .i64 (a : Nat), .int .i64 (b : Nat), .bool f] _ (fun w' h => h.2.2) Tryz.underlying103 rfl (by kernel_rfl))
     refine WA.cal 3 rfl (fun K hK => ?_)
     simp only [List.getElem_toArray, List.getElem_cons_succ, List.getElem_cons_zero]
     go_simp
     go_fit (I1.out _)
     rintro e wa ⟨rfl, bq⟩
     have Kwa := K5.below bq
     replace kp' := kp'.below bq
     try go_wp2_with fail
     refine hK.out _ _ ⟨cell_below hS.1 bq, cell_below hS.2.1 bq, fun i v hv => cell_below (hS.2.2 i v hv) bq⟩ (fun hS => ?_)
     clear hK K bq K5
     refine WA.cal 6 rfl (fun K hK => ?_)
     simp only [List.getElem_toArray, List.getElem_cons_succ, List.getElem_cons_zero]
     go_simp
     go_fit (I2.out _)
     rintro e wb ⟨rfl, bq⟩
     have Kwb := Kwa.below bq
     replace kp' := kp'.below bq
     try go_wp2_with fail
     refine hK.out _ _ ⟨cell_below hS.1 bq, cell_below hS.2.1 bq, fun i v hv => cell_below (hS.2.2 i v hv) bq⟩ (fun hS => ?_)
     clear hK K bq Kwa
     refine WA.cal 8 rfl (fun K hK => ?_)
     simp only [List.getElem_toArray, List.getElem_cons_succ, List.getElem_cons_zero]
     go_simp
     go_fit (I3.out _)
     rintro e wc ⟨rfl, bq⟩
     have Kwc := Kwb.below bq
     replace kp' := kp'.below bq
     try go_wp2_with fail
     refine hK.out _ _ ⟨cell_below hS.1 bq, cell_below hS.2.1 bq, fun i v hv => cell_below (hS.2.2 i v hv) bq⟩ (fun hS => ?_)
     clear hK K bq Kwb
     have kq := kp'.below (ba1 (.cells [.string (dg a), .string (dg b), .string (kd8 f)].toArray 9))
     have kr := kq.below (ba1 (.cells [.slice (some ⟨wc.heap.size, 0, none⟩) 3 3].toArray 91))
     refine WA.cal 9 rfl (fun K hK => ?_)
     rw [if_pos (by rfl)]
     unfold Oper.wp execOp
     go_simp
     refine hK.out _ _ ⟨kq.cell 0, kq.cell 1, rg_cel kq 0 3⟩ (fun hS => ?_)
     clear hK K
     refine WA.cal 10 rfl (fun K hK => ?_)
     rw [if_pos (by rfl)]
     unfold Oper.wp execOp
     go_simp
     refine hK.out _ _ ⟨kr.cell 0, kr.cell 1, rg_cel kr 0 3⟩ (fun hS => ?_)
     clear hK K
     refine WA.cal 11 rfl (fun K hK => ?_)
     rw [if_pos (by rfl)]
     refine wp_ap9 _ _ rfl u3 w0.heap.size LL rfl (wc.alloc (.cells [.string (dg a), .string (dg b), .string (kd8 f)].toArray 9)) (.slice (some ⟨wc.heap.size, 0, none⟩) 3 3) [dg a, dg b, kd8 f] rfl (Kwc.ln.below (ba1 _)) (Nat.le_trans Kwc.bw.size (ba1 _).size) (wc.heap.size + 1) (by simp) rfl (own_cel (Cel.new _ _ _) Kwc.bw.size rfl (by decide)) hlen' ?_
     intro v7 w7 l7 b7 q7
     have ks := q7 _ _ _ (by decide) kq
     refine hK.out _ _ ⟨ks.cell 0, ks.cell 1, rg_cel ks 0 3⟩ (fun hS => ?_)
     clear hK K q7
     refine WA.tp 12 rfl ?_
     refine WA.done (by kernel_rfl) ?_
     have K7 := Kwc.app (ba1 _) l7 b7
     rw [hup.out] at K7
     clear hS ks kr kq kp' Kwc l7 b7 I1 I2 I3 hlen' hup sa sb
     go_wp2
     go_roundw
     case rel => exact ⟨k + 1, by omega, by go_num, K7⟩
     case measure => simp [intOf]; omega
    ·have hgo' : ¬ (k : Int) < (n2 : Int) := by omega
     have hkn : k = A2.length := by rw [E2.out]; omega
     rw [hkn, List.take_length] at HW
     clear hgo hk
     obtain ⟨L4, hL4⟩ : ∃ L, L = L3 ++ lnS A2 := ⟨_, rfl⟩
     rw [← hL4] at HW
     have zL4 : L4.length ≤ 203 := by rw [hL4]; rw [List.length_append]; unfold lnS; rw [List.length_map, E2.out]; omega
     have HL4 := shut hL4
     clear hL4
     go_upto_region 14 with fail
     have c0 := C2.out _ HW.kz
     have HI := shut (fun w1 => itoa_any n3 h3 w1)
     have zz : (L4).length + 1 ≤ 1000000 := by omega
     go_upto_region 15 with (first | (go_at_call 96; refine (HI.out _).mono ?_; rintro e w3 ⟨rfl, b3⟩; have K3 := HW.below b3) | (refine wpList_ap9 rfl _ _ rfl u3 w0.heap.size (L4) rfl (w3.alloc (.cells [.string wH, .string (dg n3)].toArray 9)) (.slice (some ⟨w3.heap.size, 0, none⟩) 2 2) [wH, dg n3] rfl (K3.ln.below (ba1 _)) (Nat.le_trans K3.bw.size (ba1 _).size) (w3.heap.size + 1) (by simp) rfl (own_cel (Cel.new _ _ _) K3.bw.size rfl (by decide)) zz ?_; intro v3 w4 l4 b4))
     have H5 := K3.app (ba1 _) l4 b4
     clear HW K3 l4 b4 b3 c0 HI zz
     obtain ⟨L5, hL5⟩ : ∃ L, L = L4 ++ [[wH, dg n3]] := ⟨_, rfl⟩
     rw [← hL5] at H5
     have zL5 : L5.length ≤ 204 := by rw [hL5]; rw [List.length_append]; exact Nat.add_le_add_right zL4 1
     have HL5 := shut hL5
     clear hL5
     have c0 := C2.out _ H5.kz
     go_upto_region 16 with fail
     clear c0
     go_loopw [3, 79] (fun v i wr => ∃ k : Nat, k ≤ n3 ∧ i = .int .i64 (k : Nat) ∧ WL w0 G cs v (L5 ++ lnP T (A3.take k)) wr) (fun _ i _ => n3 - (intOf i).toNat)
     case atStart => exact ⟨0, Nat.zero_le _, rfl, by simpa [lnP, lnS] using H5⟩
     case round =>
      clear H5
      obtain ⟨k, hk, rfl, HW⟩ := hrel
      by_cases hgo : k < n3
      ·have hgo' : (k : Int) < (n3 : Int) := by omega
       obtain ⟨q, hq⟩ : ∃ q, A3[k]? = some q := ⟨_, List.getElem?_eq_getElem (by rw [E3.out]; exact hgo)⟩
       obtain ⟨a, c, ea, -, hR⟩ := R3.out _ HW.bw
       obtain ⟨g, o, eg, -, hc⟩ := hR k _ (by rw [List.getElem?_map, hq]; rfl)
       replace ea := (Value.slice.inj ea).1
       rw [eg] at ea
       subst ea
       obtain ⟨tqx, tqy⟩ := T3.out q (List.mem_of_getElem? hq)
       have hup := shut (lnP_up T A3 k q hq L5)
       obtain ⟨⟨xn, xs, xd⟩, yn, ys, yd⟩ := q
       have qA : wr.rangeAt g (o + k * 6) (ql2 xn xs xd yn ys yd) := hc
       have hlen := lnP_len T A3 k
       clear hc hR eg hq
       go_upto_region 18 with (refine wpList_load_mid rfl 30 _ rfl g (o + k * 6) rfl (ql2 xn xs xd yn ys yd) _ qA Tryz.underlying30 rfl (by kernel_rfl) ?_)
       obtain ⟨w5, hq, kp, b5⟩ := mk1 wr (ql2 xn xs xd yn ys yd) 30
       rw [← hq]
       clear hq qA
       have K5 := HW.below b5
       have rX : w5.rangeAt wr.heap.size 0 (ql1 xn xs xd) := rg_cel kp 0 3
       have rY : w5.rangeAt wr.heap.size 3 (ql1 yn ys yd) := rg_cel kp 3 3
       have HTX : Hid (∀ q, q ∈ [((xn, xs, xd) : Q3), (yn, ys, yd)] → TX T q (w5.alloc (.cells (ql2 xn xs xd yn ys yd).toArray 26))) := fun q hq => by
        have hb := Below.after K5.bw (ba1 (.cells (ql2 xn xs xd yn ys yd).toArray 26))
        rcases List.mem_cons.1 hq with rfl | hq
        ·exact tqx.below hb
        ·rw [List.mem_singleton.1 hq]; exact tqy.below hb
       have hlen' : (L5 ++ lnP T (A3.take k)).length + 1 ≤ 1000000 := by rw [List.length_append]; omega
       clear kp b5 HW tqx tqy hlen
       generalize L5 ++ lnP T (A3.take k) = LL at *
       go_upto_region 19 with (first | (refine wpList_load_mid rfl 26 _ rfl wr.heap.size 0 rfl (ql1 xn xs xd) _ rX Tryz.underlying26 rfl (by kernel_rfl) ?_) | (refine wpList_load_mid rfl 26 _ rfl wr.heap.size 3 rfl (ql1 yn ys yd) _ rY Tryz.underlying26 rfl (by kernel_rfl) ?_) | (go_at_call 97; refine (texts_any T [(xn, xs, xd), (yn, ys, yd)] (Nat.le_of_ble_eq_true rfl) _ _ (row2 (Cel.new w5 _ 26)) HTX.out).mono ?_; rintro e w6 ⟨v6, rfl, o5, b6⟩; have K6 := (K5.below (ba1 _)).below b6; have o6 : w6.ownsRow _ 9 1 v6 2 ([T (xn, xs, xd), T (yn, ys, yd)].map Value.string) := o5; obtain ⟨a6, c6, rfl⟩ := own_val o6) | (refine wpList_ap9 rfl _ _ rfl u3 w0.heap.size LL rfl w6 (.slice a6 2 c6) [T (xn, xs, xd), T (yn, ys, yd)] rfl K6.ln K6.bw.size w6.heap.size rfl rfl (own_mono o6 (Nat.le_trans K5.bw.size (ba1 _).size)) hlen' ?_; intro v7 w7 l7 b7))
       have K7 := WL.app K6 (Below.refl _ _) l7 b7
       rw [hup.out] at K7
       clear K6 K5 l7 b7 o6 o5 b6 HTX rX rY hlen' hup
       go_wp2
       go_roundw
       case rel => exact ⟨k + 1, by omega, by go_num, K7⟩
       case measure => simp [intOf]; omega
      ·have hgo' : ¬ (k : Int) < (n3 : Int) := by omega
       have hkn : k = A3.length := by rw [E3.out]; omega
       rw [hkn, List.take_length] at HW
       clear hgo hk
       obtain ⟨L6, hL6⟩ : ∃ L, L = L5 ++ lnP T A3 := ⟨_, rfl⟩
       rw [← hL6] at HW
       have zL6 : L6.length ≤ 304 := by rw [hL6]; rw [List.length_append]; unfold lnP; rw [List.length_map, E3.out]; omega
       have HL6 := shut hL6
       clear hL6
       go_upto_region 20 with fail
       have K5 := HW.below (bdrew wr)
       have hlen := zL6
       refine wp_region_held_drew (S := SB w0) (by kernel_rfl) K5.bw (fun hS => ?_)
       clear HW
       generalize wr.drew = wd at *
       refine WA.start (n := 17) (by kernel_rfl) ?_
       refine WA.tp 0 rfl ?_
       refine WA.tp 2 rfl ?_
       refine WA.tp 3 rfl ?_
       refine WA.tp 8 rfl ?_
       refine WA.tp 9 rfl ?_
       have HF := shut (fun w1 (b : Below wd.heap.size wd w1) => texts_any T [x 0, x 1, x 2, x 3, x 4, x 5] (Nat.le_of_ble_eq_true rfl) _ w1 (CF.out _ (K5.below b).kz) (fun q hq => tx_six (fun i => (TX'.out i).below (K5.below b).bw) q hq))
       refine WA.genr3 (W := w0) (i1 := 1) (s1 := 94) (i2 := 7) (s2 := 100) (i3 := 13) (s3 := 106) undef undef undef [.string wF] [.string wG] [.string wE] 9 ?_
       refine WA.rows3 4 1 7 13 false false false rfl rfl rfl rfl hS ?_ (hR := by intro b1 b2 b3; cases b1 <;> cases b2 <;> cases b3 <;> decide +kernel)
       intro b1 b2 b3 x1 x2 x3 w6 f1 f2 f3 q1 q2 q3 hS6 bn K hK
       clear q1 q2 q3
       simp only [ly]
       go_simp
       go_fit (HF.out _ bn)
       rintro e w7 ⟨v7, rfl, o7, b7⟩
       have o8 : w7.ownsRow _ 9 1 v7 6 (([x 0, x 1, x 2, x 3, x 4, x 5].map T).map Value.string) := o7
       obtain ⟨a7, c7, rfl⟩ := own_val o8
       try go_wp2_with fail
       refine hK.out _ _ (Below.after hS6 b7) (fun hS => ?_)
       clear hK K
       replace K5 := (K5.below bn).below b7
       replace o8 := own_mono o8 hS6.size
       replace f1 := fun e => (f1 e).below b7
       replace f2 := fun e => (f2 e).below b7
       replace f3 := fun e => (f3 e).below b7
       clear o7 b7 bn HF hS6
       revert b1 b2 b3 x1 x2 x3 f1 f2 f3
       refine WA.rows3 5 1 7 13 true false false rfl rfl rfl rfl hS ?_ (hR := by intro b1 b2 b3; cases b1 <;> cases b2 <;> cases b3 <;> decide +kernel)
       intro b1 b2 b3 x1 x2 x3 w8 f1 f2 f3 r1 q2 q3 hS8 bn K hK
       clear q2 q3
       have r2 := r1 rfl
       subst r2
       obtain ⟨g1, rfl, hg1, k1⟩ := f1 rfl
       simp only [ly]
       rw [if_pos (by rfl)]
       unfold Oper.wp execOp
       go_simp
       refine hK.out _ _ (ba2 hS8) (fun hS => ?_)
       clear hK K
       obtain ⟨w9, hq, k9, b9⟩ := mk1 w8 [.slice (some ⟨g1, 0, none⟩) 1 1, .slice a7 6 c7] 91
       rw [← hq] at hS ⊢
       clear hq
       replace K5 := (K5.below bn).below b9
       replace o8 := own_below (own_below o8 bn) b9
       replace k1 := k1.below b9
       replace f2 := fun e => (f2 e).below b9
       replace f3 := fun e => (f3 e).below b9
       have HC := shut (fun w1 (b : Below w9.heap.size w9 w1) => concat_str _ _ _ wF (T (x 0)) [] [T (x 1), T (x 2), T (x 3), T (x 4), T (x 5)] w1 (k9.below b) ((rowS_pt ⟨g1, rfl, k1⟩).below b) ((rowS_own o8).below b) (Nat.le_of_ble_eq_true rfl))
       clear bn f1 r1 b9 hS8
       revert b2 b3 x2 x3 f2 f3
       refine WA.rows2 6 7 13 false false rfl rfl rfl hS ?_ (hR := by intro b2 b3; cases b2 <;> cases b3 <;> decide +kernel)
       intro b2 b3 x2 x3 w10 f2 f3 q2 q3 hS10 bn K hK
       clear q2 q3
       simp only [ly]
       go_simp
       go_fit (HC.out _ bn)
       rintro e w11 ⟨v11, rfl, o11, b11⟩
       have oF : w11.ownsRow _ 9 1 v11 7 (([wF] ++ [x 0, x 1, x 2, x 3, x 4, x 5].map T).map Value.string) := o11
       obtain ⟨aF, cF, rfl⟩ := own_val oF
       try go_wp2_with fail
       refine hK.out _ _ (Below.after hS10 b11) (fun hS => ?_)
       clear hK K
       replace K5 := (K5.below bn).below b11
       replace oF := own_mono oF hS10.size
       replace f2 := fun e => (f2 e).below b11
       replace f3 := fun e => (f3 e).below b11
       clear o11 b11 bn HC hS10 k9 o8 k1 hg1
       have HG := shut (fun w1 (b : Below w11.heap.size w11 w1) => texts_any T [y 0, y 1, y 2, y 3, y 4, y 5] (Nat.le_of_ble_eq_true rfl) _ w1 (CG.out _ (K5.below b).kz) (fun q hq => tx_six (fun i => (TY.out i).below (K5.below b).bw) q hq))
       revert b2 b3 x2 x3 f2 f3
       refine WA.rows2 10 7 13 false false rfl rfl rfl hS ?_ (hR := by intro b2 b3; cases b2 <;> cases b3 <;> decide +kernel)
       intro b2 b3 x2 x3 w12 f2 f3 q2 q3 hS12 bn K hK
       clear q2 q3
       simp only [ly]
       go_simp
       go_fit (HG.out _ bn)
       rintro e w13 ⟨v13, rfl, o13, b13⟩
       have oY : w13.ownsRow _ 9 1 v13 6 (([y 0, y 1, y 2, y 3, y 4, y 5].map T).map Value.string) := o13
       obtain ⟨aY, cY, rfl⟩ := own_val oY
       try go_wp2_with fail
       refine hK.out _ _ (Below.after hS12 b13) (fun hS => ?_)
       clear hK K
       replace K5 := (K5.below bn).below b13
       replace oF := own_below (own_below oF bn) b13
       replace oY := own_mono oY hS12.size
       replace f2 := fun e => (f2 e).below b13
       replace f3 := fun e => (f3 e).below b13
       clear o13 b13 bn HG hS12
       revert b2 b3 x2 x3 f2 f3
       refine WA.rows2 11 7 13 true false rfl rfl rfl hS ?_ (hR := by intro b2 b3; cases b2 <;> cases b3 <;> decide +kernel)
       intro b2 b3 x2 x3 w14 f2 f3 r2 q3 hS14 bn K hK
       clear q3
       have r3 := r2 rfl
       subst r3
       obtain ⟨g2, rfl, hg2, k2⟩ := f2 rfl
       simp only [ly]
       rw [if_pos (by rfl)]
       unfold Oper.wp execOp
       go_simp
       refine hK.out _ _ (ba2 hS14) (fun hS => ?_)
       clear hK K
       obtain ⟨w15, hq, k15, b15⟩ := mk1 w14 [.slice (some ⟨g2, 0, none⟩) 1 1, .slice aY 6 cY] 91
       rw [← hq] at hS ⊢
       clear hq
       replace K5 := (K5.below bn).below b15
       replace oF := own_below (own_below oF bn) b15
       replace oY := own_below (own_below oY bn) b15
       replace k2 := k2.below b15
       replace f3 := fun e => (f3 e).below b15
       have HC := shut (fun w1 (b : Below w15.heap.size w15 w1) => concat_str _ _ _ wG (T (y 0)) [] [T (y 1), T (y 2), T (y 3), T (y 4), T (y 5)] w1 (k15.below b) ((rowS_pt ⟨g2, rfl, k2⟩).below b) ((rowS_own oY).below b) (Nat.le_of_ble_eq_true rfl))
       clear bn f2 r2 b15 hS14
       revert b3 x3 f3
       refine WA.rows1 12 13 false rfl rfl hS ?_ (hR := by intro b3; cases b3 <;> decide +kernel)
       intro b3 x3 w16 f3 q3 hS16 bn K hK
       clear q3
       simp only [ly]
       go_simp
       go_fit (HC.out _ bn)
       rintro e w17 ⟨v17, rfl, o17, b17⟩
       have oG : w17.ownsRow _ 9 1 v17 7 (([wG] ++ [y 0, y 1, y 2, y 3, y 4, y 5].map T).map Value.string) := o17
       obtain ⟨aG, cG, rfl⟩ := own_val oG
       try go_wp2_with fail
       refine hK.out _ _ (Below.after hS16 b17) (fun hS => ?_)
       clear hK K
       replace K5 := (K5.below bn).below b17
       replace oF := own_below (own_below oF bn) b17
       replace oG := own_mono oG hS16.size
       replace f3 := fun e => (f3 e).below b17
       clear o17 b17 bn HC hS16 k15 oY k2 hg2
       revert b3 x3 f3
       refine WA.rows1 14 13 true rfl rfl hS ?_ (hR := by intro b3; cases b3 <;> decide +kernel)
       intro b3 x3 w18 f3 r3 hS18 bn K hK
       have r4 := r3 rfl
       subst r4
       obtain ⟨g3, rfl, hg3, k3⟩ := f3 rfl
       simp only [ly]
       rw [if_pos (by rfl)]
       unfold Oper.wp execOp
       go_simp
       refine hK.out _ _ (ba2 hS18) (fun hS => ?_)
       clear hK K
       obtain ⟨w19, hq, k19, b19⟩ := mk1 w18 [.slice aF 7 cF, .slice aG 7 cG, .slice (some ⟨g3, 0, none⟩) 1 1] 91
       rw [← hq] at hS ⊢
       clear hq
       replace K5 := (K5.below bn).below b19
       replace oF := own_below (own_below oF bn) b19
       replace oG := own_below (own_below oG bn) b19
       have oE : w19.ownsRow w0.heap.size 9 1 (.slice (some ⟨g3, 0, none⟩) 1 1) 1 ([wE].map Value.string) := own_cel (k3.below b19) hg3 rfl (by decide)
       clear bn f3 r3 b19 hS18 k3
       refine WA.cal 15 rfl (fun K hK => ?_)
       rw [if_pos (by rfl)]
       refine wp_apL _ _ rfl u3 w0.heap.size L6 rfl K5.ln K5.bw.size w18.heap.size 3 3 rfl [.slice aF 7 cF, .slice aG 7 cG, .slice (some ⟨g3, 0, none⟩) 1 1] [[wF] ++ [x 0, x 1, x 2, x 3, x 4, x 5].map T, [wG] ++ [y 0, y 1, y 2, y 3, y 4, y 5].map T, [wE]] k19 rfl rfl (fun j l hj => ?_) (fun u hu => ?_) (by omega) ?_
       ·match j, hj with
        | 0, hj => injection hj with hj; subst hj; exact ⟨_, rfl, oF⟩
        | 1, hj => injection hj with hj; subst hj; exact ⟨_, rfl, oG⟩
        | 2, hj => injection hj with hj; subst hj; exact ⟨_, rfl, oE⟩
       ·rcases List.mem_cons.1 hu with rfl | hu
        ·rfl
        rcases List.mem_cons.1 hu with rfl | hu
        ·rfl
        rw [List.mem_singleton.1 hu]; rfl
       intro v20 w20 l20 b20 q20
       refine hK.out _ _ (K5.bw.trans b20) (fun hS => ?_)
       clear hK K q20
       refine WA.tp 16 rfl ?_
       refine WA.done (by kernel_rfl) ?_
       have K20 := K5.app (Below.refl _ _) l20 b20
       clear hS K5 l20 b20 k19 oF oG oE hg3 hlen
       obtain ⟨LA, hLA⟩ : ∃ L, L = L6 ++ [[wF] ++ [x 0, x 1, x 2, x 3, x 4, x 5].map T, [wG] ++ [y 0, y 1, y 2, y 3, y 4, y 5].map T, [wE]] := ⟨_, rfl⟩
       rw [← hLA] at K20
       have HLA : Hid (LA = lines8 T ⟨A1, A2, A3, [x 0, x 1, x 2, x 3, x 4, x 5], [y 0, y 1, y 2, y 3, y 4, y 5]⟩) := by
        show LA = _
        rw [hLA, HL6.out, HL5.out, HL4.out, HL3.out, HL2.out, HL1.out]
        unfold lines8
        rw [E1.out, E2.out, E3.out]
       have hok := shut (show LnOk LA by rw [HLA.out]; exact lines_ok ZT.out A1 A3 A2 _ _ (by rw [E1.out]; exact h1) (by rw [E2.out]; exact h2) (by rw [E3.out]; exact h3) (by simp) (by simp) S2.out)
       obtain ⟨nL, hnL⟩ : ∃ n, n = LA.length := ⟨_, rfl⟩
       have znL : nL ≤ 400 := by rw [hnL, hLA, List.length_append]; show L6.length + 3 ≤ 400; omega
       obtain ⟨vs, oL, hL⟩ := K20.ln
       rw [← hnL] at oL
       obtain ⟨aL, cL, rfl⟩ := own_val oL
       have B20 := K20.bw
       have HRd := shut (fun j l hl => line_at oL hL j l hl)
       have HnL := shut hnL
       clear K20 oL hL hLA hnL HL1 HL2 HL3 HL4 HL5 HL6 zL1 zL2 zL3 zL4 zL5 zL6 R1 R2 R3 T1 T3 TX' TY S2 ZT C0 C1 C2 CF CG E1 E2 E3
       go_upto_region 22 with fail
       obtain ⟨w21, hq, kb, b21⟩ := mk1 w20 [.pointer none, .slice none 0 0] 158
       rw [← hq]
       clear hq
       have A21 : Lib.IsBuilder 158 5 w20.heap.size w20.heap.size (Lib.byteCells []) w21 := Or.inl ⟨Nat.le_refl _, .slice none 0 0, kb, World.ownsRow_nil _ _ _ _, by intro h; cases h⟩
       go_upto_region 23 with fail
       go_loopw [111] (fun i wr => ∃ (k : Nat) (Lb : List UInt8), k ≤ nL ∧ i = .int .i64 (k : Nat) ∧ Lib.IsBuilder 158 5 w20.heap.size w20.heap.size (Lib.byteCells Lb) wr ∧ Lb.length ≤ 20000 * k ∧ Below w20.heap.size w20 wr ∧ Hid (Lb = wtL (LA.take k))) (fun i _ => nL - (intOf i).toNat)
       case atStart => exact ⟨0, [], Nat.zero_le _, rfl, A21, Nat.le_refl _, b21, rfl⟩
       case round =>
        clear A21 kb b21
        obtain ⟨k, Lb, hk, rfl, A, hLb, bw, HB⟩ := hrel
        by_cases hgo : k < nL
        ·have hgo' : (k : Int) < (nL : Int) := by omega
         obtain ⟨l, hl⟩ : ∃ l, LA[k]? = some l := ⟨_, List.getElem?_eq_getElem (by rw [← HnL.out]; exact hgo)⟩
         obtain ⟨g, o, au, cu, rfl, hc, hr⟩ := HRd.out k l hl
         obtain ⟨ok1, ok2, ok3⟩ := hok.out l (List.mem_of_getElem? hl)
         have c1 : wr.cell? ⟨g, o + k, none⟩ = some (.slice au l.length cu) := cell_below hc bw
         have HJ := shut (join_any l (.slice au l.length cu) wr (hr.below bw) ok1 ok2 ok3)
         have hjl := jnL_len l ok3
         have hjl' : (jnL l).length ≤ 10010 := Nat.le_trans hjl (Nat.mul_le_mul_right 1001 ok2)
         have hup := shut (wtL_up LA k l hl)
         have hsz := bw.size
         clear hc hr ok1 ok2 ok3 hjl hl
         go_upto_region 26 with (first | (go_at_call 101; refine HJ.out.mono ?_; rintro e w6 ⟨rfl, b6⟩; have A6 := isb_below A b6) | (go_at_call 100; refine (write_line w20.heap.size Lb (jnL l) w6 A6 (by omega) (Nat.le_trans hsz b6.size)).mono ?_; rintro e w7 ⟨nn, rfl, A7, b7⟩))
         have B7 := (bw.trans (b6.mono hsz)).trans b7
         have e7 : Lb ++ (jnL l ++ [10]) = wtL (LA.take (k + 1)) := by rw [HB.out]; exact hup.out
         have E7 := shut e7
         have l7 : (Lb ++ (jnL l ++ [10])).length ≤ 20000 * (k + 1) := by rw [List.length_append, List.length_append, List.length_cons, List.length_nil]; omega
         clear A A6 b6 b7 bw c1 HJ hup e7 HB hLb hjl' hsz
         go_wp2
         go_roundw
         case rel => exact ⟨k + 1, Lb ++ (jnL l ++ [10]), by omega, by go_num, A7, l7, B7, E7.out⟩
         case measure => simp [intOf]; omega
        ·have hgo' : ¬ (k : Int) < (nL : Int) := by omega
         have e8 : Lb = wtL (lines8 T ⟨A1, A2, A3, [x 0, x 1, x 2, x 3, x 4, x 5], [y 0, y 1, y 2, y 3, y 4, y 5]⟩) := by rw [HB.out, show k = LA.length by rw [← HnL.out]; omega, List.take_length, HLA.out]
         have HS := shut (String_any w20.heap.size w20.heap.size Lb wr A bw.size)
         rw [e8] at HS
         have hf : Below w.heap.size w w20 := Below.after b0 B20
         clear A HB hLb HRd hok e8
         go_wp2_with (go_at_call 102; refine HS.out.mono ?_; rintro e w9 ⟨rfl, b9⟩)
         go_ret
         exact ⟨rfl, Below.after hf (bw.trans b9)⟩
theorem wpList_load_midG {ops : Array Oper} {rest : List Oper} {op : Oper} {a : Act} {w : World} {Q : Exit → Act → World → Prop} (hgw : Region.wanted op (yielded ops a.tmps) = true) (ty : TypeId) (x : Operand) (ho : op.op = .load ty x)
  (b o : Nat) (hx : a.eval x = .pointer (some ⟨b, o, none⟩)) (cs : List Value) (d : TypeDesc) (hc : w.rangeAt b o cs)
  (hu : Tryz.prog.underlying ty = some d) (hd : d.isRow = true) (hi : (Tryz.prog.info? ty).map (·.size) = some cs.length)
  (h : wpList Tryz.prog ops Q rest (a.put op.dst (.agg cs.toArray)) w) : wpList Tryz.prog ops Q (op :: rest) a w :=
 wpList_step fun _ hK => by rw [if_pos hgw]; exact wp_load_mid ty x ho b o hx cs d hc hu hd hi (hK _ _ h)
theorem eqPoly (x : Nat → Q3) (w1 : World) : (Op.equalIn 10000 28 (.agg #[.bool (x 0).1, .string (x 0).2.1, .string (x 0).2.2, .bool (x 1).1, .string (x 1).2.1, .string (x 1).2.2, .bool (x 2).1, .string (x 2).2.1, .string (x 2).2.2, .bool (x 3).1, .string (x 3).2.1, .string (x 3).2.2, .bool (x 4).1, .string (x 4).2.1, .string (x 4).2.2, .bool (x 5).1, .string (x 5).2.1, .string (x 5).2.2]) (.agg #[.bool (x 0).1, .string (x 0).2.1, .string (x 0).2.2, .bool (x 1).1, .string (x 1).2.1, .string (x 1).2.2, .bool (x 2).1, .string (x 2).2.1, .string (x 2).2.2, .bool (x 3).1, .string (x 3).2.1, .string (x 3).2.2, .bool (x 4).1, .string (x 4).2.1, .string (x 4).2.2, .bool (x 5).1, .string (x 5).2.1, .string (x 5).2.2])).run Tryz.prog w1 = .ok true w1 := by
 have hm : (Tryz.prog.info? 26).isSome = true := by kernel_rfl
 obtain ⟨i, hi⟩ := Option.isSome_iff_exists.1 hm
 have hc : Tryz.prog.cellsOf 26 = 3 := by kernel_rfl
 rw [show (10000 : Nat) = 9999 + 1 from rfl, run_equalIn_array w1 9999 _ _ Tryz.underlying28 hi, hc, show List.range 6 = [0, 1, 2, 3, 4, 5] from rfl]
 clear hm hi hc
 simp only [Op.eqItems]
 go_simp
theorem psame_any (A1 A3 : List (Q3 × Q3)) (A2 : List (Nat × Nat × Bool)) (a1 a2 a3 b1 b2 b3 : Option Addr) (n1 n2 n3 m1 m2 m3 k1 k2 k3 : Nat) (x y : Nat → Q3) (w : World) (h1 : A1.length ≤ 100000) (h2 : A2.length ≤ 100000) (h3 : A3.length ≤ 100000)
  (r1 : RowR w 6 (.slice a1 n1 m1) (A1.map cP)) (r2 : RowR w 3 (.slice a2 n2 m2) (A2.map cS)) (r3 : RowR w 6 (.slice a3 n3 m3) (A3.map cP)) (s1 : RowR w 6 (.slice b1 n1 k1) (A1.map cP)) (s2 : RowR w 3 (.slice b2 n2 k2) (A2.map cS)) (s3 : RowR w 6 (.slice b3 n3 k3) (A3.map cP)) :
  Calls Tryz.prog 53 #[.agg #[.slice a1 n1 m1, .slice a2 n2 m2, .slice a3 n3 m3, .bool (x 0).1, .string (x 0).2.1, .string (x 0).2.2, .bool (x 1).1, .string (x 1).2.1, .string (x 1).2.2, .bool (x 2).1, .string (x 2).2.1, .string (x 2).2.2, .bool (x 3).1, .string (x 3).2.1, .string (x 3).2.2, .bool (x 4).1, .string (x 4).2.1, .string (x 4).2.2, .bool (x 5).1, .string (x 5).2.1, .string (x 5).2.2, .bool (y 0).1, .string (y 0).2.1, .string (y 0).2.2, .bool (y 1).1, .string (y 1).2.1, .string (y 1).2.2, .bool (y 2).1, .string (y 2).2.1, .string (y 2).2.2, .bool (y 3).1, .string (y 3).2.1, .string (y 3).2.2, .bool (y 4).1, .string (y 4).2.1, .string (y 4).2.2, .bool (y 5).1, .string (y 5).2.1, .string (y 5).2.2], .agg #[.slice b1 n1 k1, .slice b2 n2 k2, .slice b3 n3 k3, .bool (x 0).1, .string (x 0).2.1, .string (x 0).2.2, .bool (x 1).1, .string (x 1).2.1, .string (x 1).2.2, .bool (x 2).1, .string (x 2).2.1, .string (x 2).2.2, .bool (x 3).1, .string (x 3).2.1, .string (x 3).2.2, .bool (x 4).1, .string (x 4).2.1, .string (x 4).2.2, .bool (x 5).1, .string (x 5).2.1, .string (x 5).2.2, .bool (y 0).1, .string (y 0).2.1, .string (y 0).2.2, .bool (y 1).1, .string (y 1).2.1, .string (y 1).2.2, .bool (y 2).1, .string (y 2).2.1, .string (y 2).2.2, .bool (y 3).1, .string (y 3).2.1, .string (y 3).2.2, .bool (y 4).1, .string (y 4).2.1, .string (y 4).2.2, .bool (y 5).1, .string (y 5).2.1, .string (y 5).2.2]] w (Re w (.bool true)) := by
 have P1 := shut (fun wi (b : Below w.heap.size w wi) => sl_pts _ _ A1 h1 wi (r1.below b) (s1.below b))
 have P2 := shut (fun wi (b : Below w.heap.size w wi) => sl_seg _ _ A2 h2 wi (r2.below b) (s2.below b))
 have P3 := shut (fun wi (b : Below w.heap.size w wi) => sl_pts _ _ A3 h3 wi (r3.below b) (s3.below b))
 clear r1 r2 r3 s1 s2 s3 h1 h2 h3
 go_enter Tryz.func53, Tryz.ntmps53
 go_upto_region 1 with fail
 obtain ⟨w0, hq, kz, ky, b0⟩ := mk2 w [.slice a1 n1 m1, .slice a2 n2 m2, .slice a3 n3 m3, .bool (x 0).1, .string (x 0).2.1, .string (x 0).2.2, .bool (x 1).1, .string (x 1).2.1, .string (x 1).2.2, .bool (x 2).1, .string (x 2).2.1, .string (x 2).2.2, .bool (x 3).1, .string (x 3).2.1, .string (x 3).2.2, .bool (x 4).1, .string (x 4).2.1, .string (x 4).2.2, .bool (x 5).1, .string (x 5).2.1, .string (x 5).2.2, .bool (y 0).1, .string (y 0).2.1, .string (y 0).2.2, .bool (y 1).1, .string (y 1).2.1, .string (y 1).2.2, .bool (y 2).1, .string (y 2).2.1, .string (y 2).2.2, .bool (y 3).1, .string (y 3).2.1, .string (y 3).2.2, .bool (y 4).1, .string (y 4).2.1, .string (y 4).2.2, .bool (y 5).1, .string (y 5).2.1, .string (y 5).2.2] [.slice b1 n1 k1, .slice b2 n2 k2, .slice b3 n3 k3, .bool (x 0).1, .string (x 0).2.1, .string (x 0).2.2, .bool (x 1).1, .string (x 1).2.1, .string (x 1).2.2, .bool (x 2).1, .string (x 2).2.1, .string (x 2).2.2, .bool (x 3).1, .string (x 3).2.1, .string (x 3).2.2, .bool (x 4).1, .string (x 4).2.1, .string (x 4).2.2, .bool (x 5).1, .string (x 5).2.1, .string (x 5).2.2, .bool (y 0).1, .string (y 0).2.1, .string (y 0).2.2, .bool (y 1).1, .string (y 1).2.1, .string (y 1).2.2, .bool (y 2).1, .string (y 2).2.1, .string (y 2).2.2, .bool (y 3).1, .string (y 3).2.1, .string (y 3).2.2, .bool (y 4).1, .string (y 4).2.1, .string (y 4).2.2, .bool (y 5).1, .string (y 5).2.1, .string (y 5).2.2] 46 46
 rw [← hq]
 clear hq
 have kz' : Cel w0 w.heap.size (pl39 (.slice a1 n1 m1) (.slice a2 n2 m2) (.slice a3 n3 m3) (L18 x) (L18 y)) 46 := kz
 have ky' : Cel w0 (w.heap.size + 1) (pl39 (.slice b1 n1 k1) (.slice b2 n2 k2) (.slice b3 n3 k3) (L18 x) (L18 y)) 46 := ky
 clear kz ky
 obtain ⟨cs, hcs⟩ : ∃ cs : List Value, cs = pl39 (.slice a1 n1 m1) (.slice a2 n2 m2) (.slice a3 n3 m3) (L18 x) (L18 y) := ⟨_, rfl⟩
 obtain ⟨ds, hds⟩ : ∃ ds : List Value, ds = pl39 (.slice b1 n1 k1) (.slice b2 n2 k2) (.slice b3 n3 k3) (L18 x) (L18 y) := ⟨_, rfl⟩
 rw [← hcs] at kz'
 rw [← hds] at ky'
 obtain ⟨g, hg⟩ : ∃ g, g = w.heap.size := ⟨_, rfl⟩
 rw [← hg] at kz' ky' ⊢
 obtain ⟨f, hf⟩ : ∃ f, f = g + 1 := ⟨_, rfl⟩
 rw [← hf] at ky' ⊢
 have C0 : Hid (∀ wi, Cel wi g cs 46 → wi.cell? ⟨g, 0, none⟩ = some (.slice a1 n1 m1)) := fun wi k => by rw [k.cell 0, hcs]; rfl
 have C1 : Hid (∀ wi, Cel wi g cs 46 → wi.cell? ⟨g, 1, none⟩ = some (.slice a2 n2 m2)) := fun wi k => by rw [k.cell 1, hcs]; rfl
 have C2 : Hid (∀ wi, Cel wi g cs 46 → wi.cell? ⟨g, 2, none⟩ = some (.slice a3 n3 m3)) := fun wi k => by rw [k.cell 2, hcs]; rfl
 have D0 : Hid (∀ wi, Cel wi f ds 46 → wi.cell? ⟨f, 0, none⟩ = some (.slice b1 n1 k1)) := fun wi k => by rw [k.cell 0, hds]; rfl
 have D1 : Hid (∀ wi, Cel wi f ds 46 → wi.cell? ⟨f, 1, none⟩ = some (.slice b2 n2 k2)) := fun wi k => by rw [k.cell 1, hds]; rfl
 have D2 : Hid (∀ wi, Cel wi f ds 46 → wi.cell? ⟨f, 2, none⟩ = some (.slice b3 n3 k3)) := fun wi k => by rw [k.cell 2, hds]; rfl
 have CF : Hid (∀ wi, Cel wi g cs 46 → wi.rangeAt g 3 [.bool (x 0).1, .string (x 0).2.1, .string (x 0).2.2, .bool (x 1).1, .string (x 1).2.1, .string (x 1).2.2, .bool (x 2).1, .string (x 2).2.1, .string (x 2).2.2, .bool (x 3).1, .string (x 3).2.1, .string (x 3).2.2, .bool (x 4).1, .string (x 4).2.1, .string (x 4).2.2, .bool (x 5).1, .string (x 5).2.1, .string (x 5).2.2]) := fun wi k => by have := rg_cel k 3 18; rw [hcs] at this; exact this
 have CG : Hid (∀ wi, Cel wi g cs 46 → wi.rangeAt g 21 [.bool (y 0).1, .string (y 0).2.1, .string (y 0).2.2, .bool (y 1).1, .string (y 1).2.1, .string (y 1).2.2, .bool (y 2).1, .string (y 2).2.1, .string (y 2).2.2, .bool (y 3).1, .string (y 3).2.1, .string (y 3).2.2, .bool (y 4).1, .string (y 4).2.1, .string (y 4).2.2, .bool (y 5).1, .string (y 5).2.1, .string (y 5).2.2]) := fun wi k => by have := rg_cel k 21 18; rw [hcs] at this; exact this
 have DF : Hid (∀ wi, Cel wi f ds 46 → wi.rangeAt f 3 [.bool (x 0).1, .string (x 0).2.1, .string (x 0).2.2, .bool (x 1).1, .string (x 1).2.1, .string (x 1).2.2, .bool (x 2).1, .string (x 2).2.1, .string (x 2).2.2, .bool (x 3).1, .string (x 3).2.1, .string (x 3).2.2, .bool (x 4).1, .string (x 4).2.1, .string (x 4).2.2, .bool (x 5).1, .string (x 5).2.1, .string (x 5).2.2]) := fun wi k => by have := rg_cel k 3 18; rw [hds] at this; exact this
 have DG : Hid (∀ wi, Cel wi f ds 46 → wi.rangeAt f 21 [.bool (y 0).1, .string (y 0).2.1, .string (y 0).2.2, .bool (y 1).1, .string (y 1).2.1, .string (y 1).2.2, .bool (y 2).1, .string (y 2).2.1, .string (y 2).2.2, .bool (y 3).1, .string (y 3).2.1, .string (y 3).2.2, .bool (y 4).1, .string (y 4).2.1, .string (y 4).2.2, .bool (y 5).1, .string (y 5).2.1, .string (y 5).2.2]) := fun wi k => by have := rg_cel k 21 18; rw [hds] at this; exact this
 have EF := fun w1 => eqPoly x w1
 have EG := fun w1 => eqPoly y w1
 have Hg := shut hg
 clear hcs hds hg hf
 generalize Value.agg #[.slice a1 n1 m1, .slice a2 n2 m2, .slice a3 n3 m3, .bool (x 0).1, .string (x 0).2.1, .string (x 0).2.2, .bool (x 1).1, .string (x 1).2.1, .string (x 1).2.2, .bool (x 2).1, .string (x 2).2.1, .string (x 2).2.2, .bool (x 3).1, .string (x 3).2.1, .string (x 3).2.2, .bool (x 4).1, .string (x 4).2.1, .string (x 4).2.2, .bool (x 5).1, .string (x 5).2.1, .string (x 5).2.2, .bool (y 0).1, .string (y 0).2.1, .string (y 0).2.2, .bool (y 1).1, .string (y 1).2.1, .string (y 1).2.2, .bool (y 2).1, .string (y 2).2.1, .string (y 2).2.2, .bool (y 3).1, .string (y 3).2.1, .string (y 3).2.2, .bool (y 4).1, .string (y 4).2.1, .string (y 4).2.2, .bool (y 5).1, .string (y 5).2.1, .string (y 5).2.2] = V0
 generalize Value.agg #[.slice b1 n1 k1, .slice b2 n2 k2, .slice b3 n3 k3, .bool (x 0).1, .string (x 0).2.1, .string (x 0).2.2, .bool (x 1).1, .string (x 1).2.1, .string (x 1).2.2, .bool (x 2).1, .string (x 2).2.1, .string (x 2).2.2, .bool (x 3).1, .string (x 3).2.1, .string (x 3).2.2, .bool (x 4).1, .string (x 4).2.1, .string (x 4).2.2, .bool (x 5).1, .string (x 5).2.1, .string (x 5).2.2, .bool (y 0).1, .string (y 0).2.1, .string (y 0).2.2, .bool (y 1).1, .string (y 1).2.1, .string (y 1).2.2, .bool (y 2).1, .string (y 2).2.1, .string (y 2).2.2, .bool (y 3).1, .string (y 3).2.1, .string (y 3).2.2, .bool (y 4).1, .string (y 4).2.1, .string (y 4).2.2, .bool (y 5).1, .string (y 5).2.1, .string (y 5).2.2] = V1
 have c0 := C0.out _ kz'
 have d0 := D0.out _ ky'
 go_wp2_with (first | (go_at_call 103; first | (go_fit (P1.out w0 b0); rintro e w1 ⟨rfl, b1⟩; have B1 := Below.after b0 b1; have kz1 := kz'.below b1; have ky1 := ky'.below b1; have c1 := C1.out _ kz1; have d1 := D1.out _ ky1) | (go_fit (P3.out w2 B2); rintro e w3 ⟨rfl, b3⟩; have B3 := Below.after B2 b3; have kz3 := kz2.below b3; have ky3 := ky2.below b3; have cf := CF.out _ kz3; have cg := CG.out _ kz3; have df := DF.out _ ky3; have dh := DG.out _ ky3)) | (go_at_call 104; refine (P2.out w1 B1).mono ?_; rintro e w2 ⟨rfl, b2⟩; have B2 := Below.after B1 b2; have kz2 := kz1.below b2; have ky2 := ky1.below b2; have c2 := C2.out _ kz2; have d2 := D2.out _ ky2) | (refine wpList_load_midG (by rfl) 28 _ rfl g 3 rfl [.bool (x 0).1, .string (x 0).2.1, .string (x 0).2.2, .bool (x 1).1, .string (x 1).2.1, .string (x 1).2.2, .bool (x 2).1, .string (x 2).2.1, .string (x 2).2.2, .bool (x 3).1, .string (x 3).2.1, .string (x 3).2.2, .bool (x 4).1, .string (x 4).2.1, .string (x 4).2.2, .bool (x 5).1, .string (x 5).2.1, .string (x 5).2.2] _ cf Tryz.underlying28 rfl (by kernel_rfl) ?_) | (refine wpList_load_midG (by rfl) 28 _ rfl f 3 rfl [.bool (x 0).1, .string (x 0).2.1, .string (x 0).2.2, .bool (x 1).1, .string (x 1).2.1, .string (x 1).2.2, .bool (x 2).1, .string (x 2).2.1, .string (x 2).2.2, .bool (x 3).1, .string (x 3).2.1, .string (x 3).2.2, .bool (x 4).1, .string (x 4).2.1, .string (x 4).2.2, .bool (x 5).1, .string (x 5).2.1, .string (x 5).2.2] _ df Tryz.underlying28 rfl (by kernel_rfl) ?_) | (refine wpList_load_midG (by rfl) 28 _ rfl g 21 rfl [.bool (y 0).1, .string (y 0).2.1, .string (y 0).2.2, .bool (y 1).1, .string (y 1).2.1, .string (y 1).2.2, .bool (y 2).1, .string (y 2).2.1, .string (y 2).2.2, .bool (y 3).1, .string (y 3).2.1, .string (y 3).2.2, .bool (y 4).1, .string (y 4).2.1, .string (y 4).2.2, .bool (y 5).1, .string (y 5).2.1, .string (y 5).2.2] _ cg Tryz.underlying28 rfl (by kernel_rfl) ?_) | (refine wpList_load_midG (by rfl) 28 _ rfl f 21 rfl [.bool (y 0).1, .string (y 0).2.1, .string (y 0).2.2, .bool (y 1).1, .string (y 1).2.1, .string (y 1).2.2, .bool (y 2).1, .string (y 2).2.1, .string (y 2).2.2, .bool (y 3).1, .string (y 3).2.1, .string (y 3).2.2, .bool (y 4).1, .string (y 4).2.1, .string (y 4).2.2, .bool (y 5).1, .string (y 5).2.1, .string (y 5).2.2] _ dh Tryz.underlying28 rfl (by kernel_rfl) ?_))
 go_ret
 exact ⟨rfl, B3⟩
theorem rsame_any (A1 A3 : List (Q3 × Q3)) (A2 : List (Nat × Nat × Bool)) (a1 a2 a3 b1 b2 b3 : Option Addr) (n1 n2 n3 m1 m2 m3 k1 k2 k3 : Nat) (x y : Nat → Q3) (w : World) (h1 : A1.length ≤ 100000) (h2 : A2.length ≤ 100000) (h3 : A3.length ≤ 100000)
  (r1 : RowR w 6 (.slice a1 n1 m1) (A1.map cP)) (r2 : RowR w 3 (.slice a2 n2 m2) (A2.map cS)) (r3 : RowR w 6 (.slice a3 n3 m3) (A3.map cP)) (s1 : RowR w 6 (.slice b1 n1 k1) (A1.map cP)) (s2 : RowR w 3 (.slice b2 n2 k2) (A2.map cS)) (s3 : RowR w 6 (.slice b3 n3 k3) (A3.map cP)) :
  Calls Tryz.prog 20 #[.agg #[.slice a1 n1 m1, .slice a2 n2 m2, .slice a3 n3 m3, .bool (x 0).1, .string (x 0).2.1, .string (x 0).2.2, .bool (x 1).1, .string (x 1).2.1, .string (x 1).2.2, .bool (x 2).1, .string (x 2).2.1, .string (x 2).2.2, .bool (x 3).1, .string (x 3).2.1, .string (x 3).2.2, .bool (x 4).1, .string (x 4).2.1, .string (x 4).2.2, .bool (x 5).1, .string (x 5).2.1, .string (x 5).2.2, .bool (y 0).1, .string (y 0).2.1, .string (y 0).2.2, .bool (y 1).1, .string (y 1).2.1, .string (y 1).2.2, .bool (y 2).1, .string (y 2).2.1, .string (y 2).2.2, .bool (y 3).1, .string (y 3).2.1, .string (y 3).2.2, .bool (y 4).1, .string (y 4).2.1, .string (y 4).2.2, .bool (y 5).1, .string (y 5).2.1, .string (y 5).2.2], .agg #[.slice b1 n1 k1, .slice b2 n2 k2, .slice b3 n3 k3, .bool (x 0).1, .string (x 0).2.1, .string (x 0).2.2, .bool (x 1).1, .string (x 1).2.1, .string (x 1).2.2, .bool (x 2).1, .string (x 2).2.1, .string (x 2).2.2, .bool (x 3).1, .string (x 3).2.1, .string (x 3).2.2, .bool (x 4).1, .string (x 4).2.1, .string (x 4).2.2, .bool (x 5).1, .string (x 5).2.1, .string (x 5).2.2, .bool (y 0).1, .string (y 0).2.1, .string (y 0).2.2, .bool (y 1).1, .string (y 1).2.1, .string (y 1).2.2, .bool (y 2).1, .string (y 2).2.1, .string (y 2).2.2, .bool (y 3).1, .string (y 3).2.1, .string (y 3).2.2, .bool (y 4).1, .string (y 4).2.1, .string (y 4).2.2, .bool (y 5).1, .string (y 5).2.1, .string (y 5).2.2]] w (Re w (.bool true)) := by
 have P1 := shut (fun wi (b : Below w.heap.size w wi) => same_pts _ _ A1 h1 wi (r1.below b) (s1.below b))
 have P2 := shut (fun wi (b : Below w.heap.size w wi) => same_seg _ _ A2 h2 wi (r2.below b) (s2.below b))
 have P3 := shut (fun wi (b : Below w.heap.size w wi) => same_pts _ _ A3 h3 wi (r3.below b) (s3.below b))
 clear r1 r2 r3 s1 s2 s3 h1 h2 h3
 go_enter Tryz.func20, Tryz.ntmps20
 go_upto_region 1 with fail
 obtain ⟨w0, hq, kz, ky, b0⟩ := mk2 w [.slice a1 n1 m1, .slice a2 n2 m2, .slice a3 n3 m3, .bool (x 0).1, .string (x 0).2.1, .string (x 0).2.2, .bool (x 1).1, .string (x 1).2.1, .string (x 1).2.2, .bool (x 2).1, .string (x 2).2.1, .string (x 2).2.2, .bool (x 3).1, .string (x 3).2.1, .string (x 3).2.2, .bool (x 4).1, .string (x 4).2.1, .string (x 4).2.2, .bool (x 5).1, .string (x 5).2.1, .string (x 5).2.2, .bool (y 0).1, .string (y 0).2.1, .string (y 0).2.2, .bool (y 1).1, .string (y 1).2.1, .string (y 1).2.2, .bool (y 2).1, .string (y 2).2.1, .string (y 2).2.2, .bool (y 3).1, .string (y 3).2.1, .string (y 3).2.2, .bool (y 4).1, .string (y 4).2.1, .string (y 4).2.2, .bool (y 5).1, .string (y 5).2.1, .string (y 5).2.2] [.slice b1 n1 k1, .slice b2 n2 k2, .slice b3 n3 k3, .bool (x 0).1, .string (x 0).2.1, .string (x 0).2.2, .bool (x 1).1, .string (x 1).2.1, .string (x 1).2.2, .bool (x 2).1, .string (x 2).2.1, .string (x 2).2.2, .bool (x 3).1, .string (x 3).2.1, .string (x 3).2.2, .bool (x 4).1, .string (x 4).2.1, .string (x 4).2.2, .bool (x 5).1, .string (x 5).2.1, .string (x 5).2.2, .bool (y 0).1, .string (y 0).2.1, .string (y 0).2.2, .bool (y 1).1, .string (y 1).2.1, .string (y 1).2.2, .bool (y 2).1, .string (y 2).2.1, .string (y 2).2.2, .bool (y 3).1, .string (y 3).2.1, .string (y 3).2.2, .bool (y 4).1, .string (y 4).2.1, .string (y 4).2.2, .bool (y 5).1, .string (y 5).2.1, .string (y 5).2.2] 46 46
 rw [← hq]
 clear hq
 have kz' : Cel w0 w.heap.size (pl39 (.slice a1 n1 m1) (.slice a2 n2 m2) (.slice a3 n3 m3) (L18 x) (L18 y)) 46 := kz
 have ky' : Cel w0 (w.heap.size + 1) (pl39 (.slice b1 n1 k1) (.slice b2 n2 k2) (.slice b3 n3 k3) (L18 x) (L18 y)) 46 := ky
 clear kz ky
 obtain ⟨cs, hcs⟩ : ∃ cs : List Value, cs = pl39 (.slice a1 n1 m1) (.slice a2 n2 m2) (.slice a3 n3 m3) (L18 x) (L18 y) := ⟨_, rfl⟩
 obtain ⟨ds, hds⟩ : ∃ ds : List Value, ds = pl39 (.slice b1 n1 k1) (.slice b2 n2 k2) (.slice b3 n3 k3) (L18 x) (L18 y) := ⟨_, rfl⟩
 rw [← hcs] at kz'
 rw [← hds] at ky'
 obtain ⟨g, hg⟩ : ∃ g, g = w.heap.size := ⟨_, rfl⟩
 rw [← hg] at kz' ky' ⊢
 obtain ⟨f, hf⟩ : ∃ f, f = g + 1 := ⟨_, rfl⟩
 rw [← hf] at ky' ⊢
 have C0 : Hid (∀ wi, Cel wi g cs 46 → wi.cell? ⟨g, 0, none⟩ = some (.slice a1 n1 m1)) := fun wi k => by rw [k.cell 0, hcs]; rfl
 have C1 : Hid (∀ wi, Cel wi g cs 46 → wi.cell? ⟨g, 1, none⟩ = some (.slice a2 n2 m2)) := fun wi k => by rw [k.cell 1, hcs]; rfl
 have C2 : Hid (∀ wi, Cel wi g cs 46 → wi.cell? ⟨g, 2, none⟩ = some (.slice a3 n3 m3)) := fun wi k => by rw [k.cell 2, hcs]; rfl
 have D0 : Hid (∀ wi, Cel wi f ds 46 → wi.cell? ⟨f, 0, none⟩ = some (.slice b1 n1 k1)) := fun wi k => by rw [k.cell 0, hds]; rfl
 have D1 : Hid (∀ wi, Cel wi f ds 46 → wi.cell? ⟨f, 1, none⟩ = some (.slice b2 n2 k2)) := fun wi k => by rw [k.cell 1, hds]; rfl
 have D2 : Hid (∀ wi, Cel wi f ds 46 → wi.cell? ⟨f, 2, none⟩ = some (.slice b3 n3 k3)) := fun wi k => by rw [k.cell 2, hds]; rfl
 have CF : Hid (∀ wi, Cel wi g cs 46 → wi.rangeAt g 3 [.bool (x 0).1, .string (x 0).2.1, .string (x 0).2.2, .bool (x 1).1, .string (x 1).2.1, .string (x 1).2.2, .bool (x 2).1, .string (x 2).2.1, .string (x 2).2.2, .bool (x 3).1, .string (x 3).2.1, .string (x 3).2.2, .bool (x 4).1, .string (x 4).2.1, .string (x 4).2.2, .bool (x 5).1, .string (x 5).2.1, .string (x 5).2.2]) := fun wi k => by have := rg_cel k 3 18; rw [hcs] at this; exact this
 have CG : Hid (∀ wi, Cel wi g cs 46 → wi.rangeAt g 21 [.bool (y 0).1, .string (y 0).2.1, .string (y 0).2.2, .bool (y 1).1, .string (y 1).2.1, .string (y 1).2.2, .bool (y 2).1, .string (y 2).2.1, .string (y 2).2.2, .bool (y 3).1, .string (y 3).2.1, .string (y 3).2.2, .bool (y 4).1, .string (y 4).2.1, .string (y 4).2.2, .bool (y 5).1, .string (y 5).2.1, .string (y 5).2.2]) := fun wi k => by have := rg_cel k 21 18; rw [hcs] at this; exact this
 have DF : Hid (∀ wi, Cel wi f ds 46 → wi.rangeAt f 3 [.bool (x 0).1, .string (x 0).2.1, .string (x 0).2.2, .bool (x 1).1, .string (x 1).2.1, .string (x 1).2.2, .bool (x 2).1, .string (x 2).2.1, .string (x 2).2.2, .bool (x 3).1, .string (x 3).2.1, .string (x 3).2.2, .bool (x 4).1, .string (x 4).2.1, .string (x 4).2.2, .bool (x 5).1, .string (x 5).2.1, .string (x 5).2.2]) := fun wi k => by have := rg_cel k 3 18; rw [hds] at this; exact this
 have DG : Hid (∀ wi, Cel wi f ds 46 → wi.rangeAt f 21 [.bool (y 0).1, .string (y 0).2.1, .string (y 0).2.2, .bool (y 1).1, .string (y 1).2.1, .string (y 1).2.2, .bool (y 2).1, .string (y 2).2.1, .string (y 2).2.2, .bool (y 3).1, .string (y 3).2.1, .string (y 3).2.2, .bool (y 4).1, .string (y 4).2.1, .string (y 4).2.2, .bool (y 5).1, .string (y 5).2.1, .string (y 5).2.2]) := fun wi k => by have := rg_cel k 21 18; rw [hds] at this; exact this
 have EF := fun w1 => eqPoly x w1
 have EG := fun w1 => eqPoly y w1
 have Hg := shut hg
 clear hcs hds hg hf
 generalize Value.agg #[.slice a1 n1 m1, .slice a2 n2 m2, .slice a3 n3 m3, .bool (x 0).1, .string (x 0).2.1, .string (x 0).2.2, .bool (x 1).1, .string (x 1).2.1, .string (x 1).2.2, .bool (x 2).1, .string (x 2).2.1, .string (x 2).2.2, .bool (x 3).1, .string (x 3).2.1, .string (x 3).2.2, .bool (x 4).1, .string (x 4).2.1, .string (x 4).2.2, .bool (x 5).1, .string (x 5).2.1, .string (x 5).2.2, .bool (y 0).1, .string (y 0).2.1, .string (y 0).2.2, .bool (y 1).1, .string (y 1).2.1, .string (y 1).2.2, .bool (y 2).1, .string (y 2).2.1, .string (y 2).2.2, .bool (y 3).1, .string (y 3).2.1, .string (y 3).2.2, .bool (y 4).1, .string (y 4).2.1, .string (y 4).2.2, .bool (y 5).1, .string (y 5).2.1, .string (y 5).2.2] = V0
 generalize Value.agg #[.slice b1 n1 k1, .slice b2 n2 k2, .slice b3 n3 k3, .bool (x 0).1, .string (x 0).2.1, .string (x 0).2.2, .bool (x 1).1, .string (x 1).2.1, .string (x 1).2.2, .bool (x 2).1, .string (x 2).2.1, .string (x 2).2.2, .bool (x 3).1, .string (x 3).2.1, .string (x 3).2.2, .bool (x 4).1, .string (x 4).2.1, .string (x 4).2.2, .bool (x 5).1, .string (x 5).2.1, .string (x 5).2.2, .bool (y 0).1, .string (y 0).2.1, .string (y 0).2.2, .bool (y 1).1, .string (y 1).2.1, .string (y 1).2.2, .bool (y 2).1, .string (y 2).2.1, .string (y 2).2.2, .bool (y 3).1, .string (y 3).2.1, .string (y 3).2.2, .bool (y 4).1, .string (y 4).2.1, .string (y 4).2.2, .bool (y 5).1, .string (y 5).2.1, .string (y 5).2.2] = V1
 have c0 := C0.out _ kz'
 have d0 := D0.out _ ky'
 go_wp2_with (first | (go_at_call 50; first | (go_fit (P1.out w0 b0); rintro e w1 ⟨rfl, b1⟩; have B1 := Below.after b0 b1; have kz1 := kz'.below b1; have ky1 := ky'.below b1; have c1 := C1.out _ kz1; have d1 := D1.out _ ky1) | (go_fit (P3.out w2 B2); rintro e w3 ⟨rfl, b3⟩; have B3 := Below.after B2 b3; have kz3 := kz2.below b3; have ky3 := ky2.below b3; have cf := CF.out _ kz3; have cg := CG.out _ kz3; have df := DF.out _ ky3; have dh := DG.out _ ky3)) | (go_at_call 51; refine (P2.out w1 B1).mono ?_; rintro e w2 ⟨rfl, b2⟩; have B2 := Below.after B1 b2; have kz2 := kz1.below b2; have ky2 := ky1.below b2; have c2 := C2.out _ kz2; have d2 := D2.out _ ky2) | (refine wpList_load_midG (by rfl) 28 _ rfl g 3 rfl [.bool (x 0).1, .string (x 0).2.1, .string (x 0).2.2, .bool (x 1).1, .string (x 1).2.1, .string (x 1).2.2, .bool (x 2).1, .string (x 2).2.1, .string (x 2).2.2, .bool (x 3).1, .string (x 3).2.1, .string (x 3).2.2, .bool (x 4).1, .string (x 4).2.1, .string (x 4).2.2, .bool (x 5).1, .string (x 5).2.1, .string (x 5).2.2] _ cf Tryz.underlying28 rfl (by kernel_rfl) ?_) | (refine wpList_load_midG (by rfl) 28 _ rfl f 3 rfl [.bool (x 0).1, .string (x 0).2.1, .string (x 0).2.2, .bool (x 1).1, .string (x 1).2.1, .string (x 1).2.2, .bool (x 2).1, .string (x 2).2.1, .string (x 2).2.2, .bool (x 3).1, .string (x 3).2.1, .string (x 3).2.2, .bool (x 4).1, .string (x 4).2.1, .string (x 4).2.2, .bool (x 5).1, .string (x 5).2.1, .string (x 5).2.2] _ df Tryz.underlying28 rfl (by kernel_rfl) ?_) | (refine wpList_load_midG (by rfl) 28 _ rfl g 21 rfl [.bool (y 0).1, .string (y 0).2.1, .string (y 0).2.2, .bool (y 1).1, .string (y 1).2.1, .string (y 1).2.2, .bool (y 2).1, .string (y 2).2.1, .string (y 2).2.2, .bool (y 3).1, .string (y 3).2.1, .string (y 3).2.2, .bool (y 4).1, .string (y 4).2.1, .string (y 4).2.2, .bool (y 5).1, .string (y 5).2.1, .string (y 5).2.2] _ cg Tryz.underlying28 rfl (by kernel_rfl) ?_) | (refine wpList_load_midG (by rfl) 28 _ rfl f 21 rfl [.bool (y 0).1, .string (y 0).2.1, .string (y 0).2.2, .bool (y 1).1, .string (y 1).2.1, .string (y 1).2.2, .bool (y 2).1, .string (y 2).2.1, .string (y 2).2.2, .bool (y 3).1, .string (y 3).2.1, .string (y 3).2.2, .bool (y 4).1, .string (y 4).2.1, .string (y 4).2.2, .bool (y 5).1, .string (y 5).2.1, .string (y 5).2.2] _ dh Tryz.underlying28 rfl (by kernel_rfl) ?_))
 go_ret
 exact ⟨rfl, B3⟩
theorem L18_eq {x y : Nat → Q3} (h : [x 0, x 1, x 2, x 3, x 4, x 5] = [y 0, y 1, y 2, y 3, y 4, y 5]) : L18 x = L18 y := by
 injection h with h0 h
 injection h with h1 h
 injection h with h2 h
 injection h with h3 h
 injection h with h4 h
 injection h with h5 _
 unfold L18
 rw [h0, h1, h2, h3, h4, h5]
theorem psame_pl (p : Pl) (cs ds : List Value) (B C : Nat) (w : World) (h : PlanAt w B cs p) (k : PlanAt w C ds p) (h1 : p.pts.length ≤ 100000) (h2 : p.segs.length ≤ 100000) (h3 : p.holes.length ≤ 100000) :
  Calls Tryz.prog 53 #[.agg cs.toArray, .agg ds.toArray] w (Re w (.bool true)) := by
 obtain ⟨v1, v2, v3, x, y, rfl, o1, o2, o3, hF, hG⟩ := h
 obtain ⟨u1, u2, u3, x', y', rfl, q1, q2, q3, kF, kG⟩ := k
 have r1 := RowR.of cP cP_len o1
 have r2 := RowR.of cS cS_len o2
 have r3 := RowR.of cP cP_len o3
 have s1 := RowR.of cP cP_len q1
 have s2 := RowR.of cS cS_len q2
 have s3 := RowR.of cP cP_len q3
 obtain ⟨a1, c1, rfl⟩ := own_val o1
 obtain ⟨a2, c2, rfl⟩ := own_val o2
 obtain ⟨a3, c3, rfl⟩ := own_val o3
 obtain ⟨b1, d1, rfl⟩ := own_val q1
 obtain ⟨b2, d2, rfl⟩ := own_val q2
 obtain ⟨b3, d3, rfl⟩ := own_val q3
 rw [L18_eq (kF.symm.trans hF), L18_eq (kG.symm.trans hG)]
 exact psame_any p.pts p.holes p.segs a1 a2 a3 b1 b2 b3 _ _ _ c1 c2 c3 d1 d2 d3 x y w h1 h2 h3 r1 r2 r3 s1 s2 s3
theorem rsame_pl (p : Pl) (cs ds : List Value) (B C : Nat) (w : World) (h : PlanAt w B cs p) (k : PlanAt w C ds p) (h1 : p.pts.length ≤ 100000) (h2 : p.segs.length ≤ 100000) (h3 : p.holes.length ≤ 100000) :
  Calls Tryz.prog 20 #[.agg cs.toArray, .agg ds.toArray] w (Re w (.bool true)) := by
 obtain ⟨v1, v2, v3, x, y, rfl, o1, o2, o3, hF, hG⟩ := h
 obtain ⟨u1, u2, u3, x', y', rfl, q1, q2, q3, kF, kG⟩ := k
 have r1 := RowR.of cP cP_len o1
 have r2 := RowR.of cS cS_len o2
 have r3 := RowR.of cP cP_len o3
 have s1 := RowR.of cP cP_len q1
 have s2 := RowR.of cS cS_len q2
 have s3 := RowR.of cP cP_len q3
 obtain ⟨a1, c1, rfl⟩ := own_val o1
 obtain ⟨a2, c2, rfl⟩ := own_val o2
 obtain ⟨a3, c3, rfl⟩ := own_val o3
 obtain ⟨b1, d1, rfl⟩ := own_val q1
 obtain ⟨b2, d2, rfl⟩ := own_val q2
 obtain ⟨b3, d3, rfl⟩ := own_val q3
 rw [L18_eq (kF.symm.trans hF), L18_eq (kG.symm.trans hG)]
 exact rsame_any p.pts p.holes p.segs a1 a2 a3 b1 b2 b3 _ _ _ c1 c2 c3 d1 d2 d3 x y w h1 h2 h3 r1 r2 r3 s1 s2 s3
theorem read_two (P : ByteArray → Q3) (E : ByteArray → Int) (hP : PR P E) (s : ByteArray) (w : World) (aL : Addr) (h : Env8 w aL) :
  Calls Tryz.prog 42 #[.string s] w fun e w' => ∃ (cs : List Value) (er : Value) (p : Pl), e = .returned (.tuple #[.agg cs.toArray, er]) ∧ PlanAt w' w.heap.size cs p ∧ Below w.heap.size w w' ∧
   ((psp P E s).2 = 0 → p = (psp P E s).1 ∧ er = .nilIface) ∧ ((psp P E s).2 ≠ 0 → ∃ q, er = .iface 132 (.pointer (some ⟨q, 0, none⟩))) := by
 unfold psp
 by_cases hs : 20000 < s.size
 ·rw [if_pos hs]
  refine (read_long s w hs aL h.sens.1.2.2.1).mono ?_
  rintro e w' ⟨p, z, rfl, kp, b⟩
  exact ⟨Z39, _, zPl, rfl, planAt_zero _ _, b, (fun h => by cases h), fun _ => ⟨p, rfl⟩⟩
 ·rw [if_neg hs]
  refine (read_ok P E hP s w (by omega) aL h.sens h.tab h.tabB).mono ?_
  rintro e w' ⟨v1, v2, v3, er, x, y, rfl, o1, o2, o3, hF, hG, hok, hbad, b⟩
  have hp := planAt_of o1 o2 o3 hF hG
  unfold plan rpl
  generalize (r1 P E (toks s)).1 = A1 at *
  generalize (r2 P E (toks s)).1 = A2 at *
  generalize (r3 P E (toks s)).1 = A3 at *
  generalize (r4 P E (toks s)).1 = A4 at *
  generalize (r5 P E (toks s)).1 = A5 at *
  generalize r6 P E (toks s) = A6 at *
  by_cases h6 : A6 = some []
  ·rw [if_pos h6]
   obtain rfl := hok h6
   exact ⟨_, _, _, rfl, hp, b, fun _ => ⟨rfl, rfl⟩, fun h => absurd rfl h⟩
  ·rw [if_neg h6]
   obtain ⟨p, z, a, rfl, -⟩ := hbad h6
   exact ⟨_, _, _, rfl, hp, b, (fun h => by cases h), fun _ => ⟨p, rfl⟩⟩
theorem pprint_ex (P : ByteArray → Q3) (E : ByteArray → Int) (hP : PR P E) (T : Q3 → ByteArray) (A1 A3 : List (Q3 × Q3)) (A2 : List (Nat × Nat × Bool)) (a1 a2 a3 : Option Addr) (n1 n2 n3 m1 m2 m3 : Nat) (x y : Nat → Q3) (B : Nat) (w : World) (aL : Addr) (h : Env8 w aL) (e1 : A1.length = n1) (e2 : A2.length = n2) (e3 : A3.length = n3)
  (h1 : n1 ≤ 40) (h2 : n2 ≤ 60) (h3 : n3 ≤ 10) (r1 : RowR w 6 (.slice a1 n1 m1) (A1.map cP)) (r2 : RowR w 3 (.slice a2 n2 m2) (A2.map cS)) (r3 : RowR w 6 (.slice a3 n3 m3) (A3.map cP))
  (t1 : ∀ q, q ∈ A1 → TX T q.1 w ∧ TX T q.2 w) (t3 : ∀ q, q ∈ A3 → TX T q.1 w ∧ TX T q.2 w) (tx : ∀ i, TX T (x i) w) (ty : ∀ i, TX T (y i) w) (s2 : ∀ s, s ∈ A2 → s.1 < 100 ∧ s.2.1 < 100) (zT : ∀ q, (T q).size ≤ 1000)
  (hp : PlanAt w B (pl39 (.slice a1 n1 m1) (.slice a2 n2 m2) (.slice a3 n3 m3) (L18 x) (L18 y)) ⟨A1, A2, A3, [x 0, x 1, x 2, x 3, x 4, x 5], [y 0, y 1, y 2, y 3, y 4, y 5]⟩)
  (s : ByteArray) (hs : s = wtx T ⟨A1, A2, A3, [x 0, x 1, x 2, x 3, x 4, x 5], [y 0, y 1, y 2, y 3, y 4, y 5]⟩) (hr : (psp P E s).2 = 0 → (psp P E s).1 = ⟨A1, A2, A3, [x 0, x 1, x 2, x 3, x 4, x 5], [y 0, y 1, y 2, y 3, y 4, y 5]⟩) :
  Calls Tryz.prog 23 #[.agg #[.slice a1 n1 m1, .slice a2 n2 m2, .slice a3 n3 m3, .bool (x 0).1, .string (x 0).2.1, .string (x 0).2.2, .bool (x 1).1, .string (x 1).2.1, .string (x 1).2.2, .bool (x 2).1, .string (x 2).2.1, .string (x 2).2.2, .bool (x 3).1, .string (x 3).2.1, .string (x 3).2.2, .bool (x 4).1, .string (x 4).2.1, .string (x 4).2.2, .bool (x 5).1, .string (x 5).2.1, .string (x 5).2.2, .bool (y 0).1, .string (y 0).2.1, .string (y 0).2.2, .bool (y 1).1, .string (y 1).2.1, .string (y 1).2.2, .bool (y 2).1, .string (y 2).2.1, .string (y 2).2.2, .bool (y 3).1, .string (y 3).2.1, .string (y 3).2.2, .bool (y 4).1, .string (y 4).2.1, .string (y 4).2.2, .bool (y 5).1, .string (y 5).2.1, .string (y 5).2.2]] w (Re w (.tuple #[.string (if (psp P E s).2 = 0 then s else eS), .int .i64 (if (psp P E s).2 = 0 then 0 else 1)])) := by
 have HW0 := fun wi (b : Below w.heap.size w wi) => written_any T A1 A3 A2 a1 a2 a3 n1 n2 n3 m1 m2 m3 x y wi e1 e2 e3 (by omega) (by omega) (by omega) (r1.below b) (r2.below b) (r3.below b) (fun q hq => ⟨(t1 q hq).1.below b, (t1 q hq).2.below b⟩) (fun q hq => ⟨(t3 q hq).1.below b, (t3 q hq).2.below b⟩) (fun i => (tx i).below b) (fun i => (ty i).below b) s2 zT
 rw [← hs] at HW0
 have HRd := shut (fun wi (b : Below w.heap.size w wi) => read_two P E hP s wi aL (h.below b))
 obtain ⟨p, hpp⟩ : ∃ p : Pl, p = ⟨A1, A2, A3, [x 0, x 1, x 2, x 3, x 4, x 5], [y 0, y 1, y 2, y 3, y 4, y 5]⟩ := ⟨_, rfl⟩
 rw [← hpp] at hp hr
 have l1 : p.pts.length ≤ 100000 := by rw [hpp]; show A1.length ≤ _; omega
 have l2 : p.segs.length ≤ 100000 := by rw [hpp]; show A2.length ≤ _; omega
 have l3 : p.holes.length ≤ 100000 := by rw [hpp]; show A3.length ≤ _; omega
 obtain ⟨cs, hcs⟩ : ∃ cs : List Value, cs = pl39 (.slice a1 n1 m1) (.slice a2 n2 m2) (.slice a3 n3 m3) (L18 x) (L18 y) := ⟨_, rfl⟩
 have HW : Hid (∀ wi, Below w.heap.size w wi → Calls Tryz.prog 52 #[.agg cs.toArray] wi (Re wi (.string s))) := by rw [hcs]; exact HW0
 rw [← hcs] at hp
 have HS := shut (fun wi (b : Below w.heap.size w wi) ds C (k : PlanAt wi C ds p) => psame_pl p cs ds B C wi (hp.below b) k l1 l2 l3)
 have hlc := hp.len
 clear HW0 hpp hs r1 r2 r3 t1 t3 tx ty s2 zT h l1 l2 l3 hp e1 e2 e3
 generalize psp P E s = r at *
 obtain ⟨pr, er0⟩ := r
 have g1 : ¬ 40 < n1 := by omega
 have g2 : ¬ 60 < n2 := by omega
 have g3 : ¬ 10 < n3 := by omega
 have g1' : ¬ (40 : Int) < (n1 : Int) := by omega
 have g2' : ¬ (60 : Int) < (n2 : Int) := by omega
 have g3' : ¬ (10 : Int) < (n3 : Int) := by omega
 clear h1 h2 h3
 go_enter Tryz.func23, Tryz.ntmps23
 go_upto_region 1 with fail
 obtain ⟨w0, hq, kz, b0⟩ := mk1 w [.slice a1 n1 m1, .slice a2 n2 m2, .slice a3 n3 m3, .bool (x 0).1, .string (x 0).2.1, .string (x 0).2.2, .bool (x 1).1, .string (x 1).2.1, .string (x 1).2.2, .bool (x 2).1, .string (x 2).2.1, .string (x 2).2.2, .bool (x 3).1, .string (x 3).2.1, .string (x 3).2.2, .bool (x 4).1, .string (x 4).2.1, .string (x 4).2.2, .bool (x 5).1, .string (x 5).2.1, .string (x 5).2.2, .bool (y 0).1, .string (y 0).2.1, .string (y 0).2.2, .bool (y 1).1, .string (y 1).2.1, .string (y 1).2.2, .bool (y 2).1, .string (y 2).2.1, .string (y 2).2.2, .bool (y 3).1, .string (y 3).2.1, .string (y 3).2.2, .bool (y 4).1, .string (y 4).2.1, .string (y 4).2.2, .bool (y 5).1, .string (y 5).2.1, .string (y 5).2.2] 46
 rw [← hq]
 clear hq
 have kz' : Cel w0 w.heap.size (pl39 (.slice a1 n1 m1) (.slice a2 n2 m2) (.slice a3 n3 m3) (L18 x) (L18 y)) 46 := kz
 clear kz
 rw [← hcs] at kz'
 generalize Value.agg #[.slice a1 n1 m1, .slice a2 n2 m2, .slice a3 n3 m3, .bool (x 0).1, .string (x 0).2.1, .string (x 0).2.2, .bool (x 1).1, .string (x 1).2.1, .string (x 1).2.2, .bool (x 2).1, .string (x 2).2.1, .string (x 2).2.2, .bool (x 3).1, .string (x 3).2.1, .string (x 3).2.2, .bool (x 4).1, .string (x 4).2.1, .string (x 4).2.2, .bool (x 5).1, .string (x 5).2.1, .string (x 5).2.2, .bool (y 0).1, .string (y 0).2.1, .string (y 0).2.2, .bool (y 1).1, .string (y 1).2.1, .string (y 1).2.2, .bool (y 2).1, .string (y 2).2.1, .string (y 2).2.2, .bool (y 3).1, .string (y 3).2.1, .string (y 3).2.2, .bool (y 4).1, .string (y 4).2.1, .string (y 4).2.2, .bool (y 5).1, .string (y 5).2.1, .string (y 5).2.2] = V0
 have c0 : w0.cell? ⟨w.heap.size, 0, none⟩ = some (.slice a1 n1 m1) := by rw [kz'.cell 0, hcs]; rfl
 have c1 : w0.cell? ⟨w.heap.size, 1, none⟩ = some (.slice a2 n2 m2) := by rw [kz'.cell 1, hcs]; rfl
 have c2 : w0.cell? ⟨w.heap.size, 2, none⟩ = some (.slice a3 n3 m3) := by rw [kz'.cell 2, hcs]; rfl
 clear hcs
 go_upto_region 3 with fail
 clear c0 c1 c2 g1 g2 g3 g1' g2' g3'
 go_upto_region 4 with (first | (refine wpList_load_row rfl 46 _ rfl _ rfl 46 cs.toArray (0, 0) _ kz' Tryz.underlying46 rfl (by rw [List.size_toArray, hlc]; kernel_rfl) ?_) | (go_at_call 52; refine (HW.out _ b0).mono ?_; rintro e w1 ⟨rfl, b1⟩; have B1 := Below.after b0 b1))
 have kz1 := kz'.below b1
 go_upto_region 5 with (go_at_call 42; refine (HRd.out _ B1).mono ?_; rintro e w2 ⟨ds, er, p', rfl, hq, b2, q0, q1⟩; have hlen := hq.len; obtain ⟨w3, hst, k3, b3⟩ := fresh39 w2 ds hq.len hq.one)
 have kz3 := (kz1.below b2).below b3
 have hq3 := hq.below b3
 have B3 := Below.after (Below.after B1 b2) b3
 clear hst hq b3 b2 b1 kz1 kz' b0 B1 HW HRd
 have rz := celA kz3
 have rd := celA k3
 by_cases he : er0 = 0
 ·obtain ⟨rfl, rfl⟩ := q0 he
  have hpe := hr he
  subst he
  rw [hpe] at hq3
  clear q0 q1 hr kz3 k3
  go_wp2_with (first | (refine wpList_load_midG (by rfl) 46 _ rfl w.heap.size 0 rfl cs _ rz Tryz.underlying46 rfl (by rw [hlc]; kernel_rfl) ?_) | (refine wpList_load_midG (by rfl) 46 _ rfl w2.heap.size 0 rfl ds _ rd Tryz.underlying46 rfl (by rw [hlen]; kernel_rfl) ?_) | (go_at_call 53; refine (HS.out _ B3 ds _ hq3).mono ?_; rintro e w4 ⟨rfl, b4⟩))
  go_ret2
  exact ⟨rfl, Below.after B3 b4⟩
 ·obtain ⟨q, rfl⟩ := q1 he
  clear q0 q1 hr kz3 k3 rz rd hq3
  go_wp2
  go_ret2
  exact ⟨rfl, B3⟩
end Go.Proofs.YtnplifkgeeicjaaGreatDoor
