/-
  gussetref03: Lowest where nothing is to be cut; Frac.
  What these laws reach and the others do not.
  Package rat: Print.
  Package whole: Parse of what Print prints; of one.
  gussetref03: den, Check, Both.
  gussetref03: Lowest, where something is to be cut.
  gussetref03: Lowest, where the divisor is below 0; Lowest, of any.
  What these laws reach and the others do not.
  What these laws reach and the others do not.
-/
import Derived.Test.YtnplifkgeeicjaaGreatDoorU33
import Derived.Test.YtnplifkgeeicjaaGreatDoorU39
set_option maxRecDepth 100000
set_option maxHeartbeats 8000000
namespace Go.Proofs.YtnplifkgeeicjaaGreatDoor
open Go.RowKit Go.Shelf
theorem low_one (n0 gN : Bool) (s0 s1 gS : ByteArray) (w : World) (hg : (gS.toList == [1]) = true)
  (H1 : Hid (∀ w1, Calls Tryz.prog 110 #[.agg #[.bool n0, .string s0], .agg #[.bool false, .string s1]] w1 (Re w1 (.agg #[.bool gN, .string gS])))) :
  Calls Tryz.prog 57 #[.agg #[.bool n0, .string s0], .agg #[.bool false, .string s1]] w (Re w ((qa1 n0 s0 s1))) := by
 go_enter Tryz.func57, Tryz.ntmps57
 go_wp2_with fail
 go_fit (H1.out _)
 rintro e w1 ⟨rfl, b1⟩
 obtain ⟨ka, kb, kr, b1⟩ := al3 b1
 have sz := b1.size
 have bb := b1
 clear b1
 have ta := ka.lt
 have tb := kb.lt
 have tr := kr.lt
 clear ta tb tr
 obtain ⟨ca_0, ca_1⟩ := xk2 (ka.alloc (.cells #[.bool gN, .string gS] 24))
 obtain ⟨cb_2, cb_3⟩ := xk2 (kb.alloc (.cells #[.bool gN, .string gS] 24))
 have cr_4 := cel3_0 (kr.alloc (.cells #[.bool gN, .string gS] 24))
 have fr_5 := Cel.frozen (kr.alloc (.cells #[.bool gN, .string gS] 24)) 0
 have cr_6 := cel3_1 (kr.alloc (.cells #[.bool gN, .string gS] 24))
 have fr_7 := Cel.frozen (kr.alloc (.cells #[.bool gN, .string gS] 24)) 1
 have cr_8 := cel3_2 (kr.alloc (.cells #[.bool gN, .string gS] 24))
 have fr_9 := Cel.frozen (kr.alloc (.cells #[.bool gN, .string gS] 24)) 2
 go_wp2
 have kr' := kr.alloc (.cells #[.bool gN, .string gS] 24)
 exact post_q (p := 4) (by kernel_rfl) rfl rfl (((kr'.set 0 _).set 1 _).set 2 _) ⟨rfl, bset (bset (bset (ba bb _) (by omega) 0 _) (by omega) 1 _) (by omega) 2 _⟩
end Go.Proofs.YtnplifkgeeicjaaGreatDoor
namespace Go.Proofs.YtnplifkgeeicjaaGreatDoor
theorem dt_nil : dt 0 = [] := rfl
section
open Go.RowKit Go.Shelf
theorem decTo_take (b : List Nat) (m : Nat) : ∀ k, k ≤ m → decTo (b.take m) k = decTo b k
 | 0, _ => rfl
 | k + 1, h => by
  unfold decTo
  rw [decTo_take b m k (by omega), lm_take (by omega)]
end
section
open Go.RowKit Go.Shelf
theorem ne_m0 {s : ByteArray} (h : s ≠ ⟨#[45, 48]⟩) : (s.toList == [45, 48]) = false := by
 rw [beq_eq_false_iff_ne]
 intro e
 rw [ByteArray.toList_eq] at e
 apply h
 obtain ⟨⟨l⟩⟩ := s
 have e' : l = [45, 48] := e
 rw [e']
theorem parse_neg (s : ByteArray) (w : World) (hn : 0 < s.size ∧ lm (byts s) 0 = 45) (h0 : s ≠ ⟨#[45, 48]⟩) (h : NatS (byts (s.extract 1 s.size))) :
  Calls Tryz.prog 216 #[.string s] w (Re w (.tuple #[zI (sgn true (decTo (byts (s.extract 1 s.size)) (s.extract 1 s.size).size)), .int .i64 0])) := by
 have hp := pfx s
 rw [decide_eq_true hn] at hp
 have hs1 : ¬ (s.size : Int) < 1 := by omega
 have hs2 : 1 ≤ s.size := by omega
 have hne := ne_m0 h0
 have hne' : ¬ s.toList = [45, 48] := by simpa using hne
 obtain ⟨t, ht⟩ : ∃ t, t = s.extract 1 s.size := ⟨_, rfl⟩
 rw [← ht] at h ⊢
 have HI := shut (fun w => isnat_any t w true (by simp [h]))
 have HRo := shut (fun w => rowOf_any t w (by have := h.2.1; rwa [byts_length] at this) (fun j hj => h.2.2.2 j (by rwa [byts_length])))
 have h4 := dec_lt4 h
 rw [byts_length] at h4
 have HT := shut (fun v w hr => tell_row true v w h4 hr)
 generalize hR : zI (sgn true (decTo (byts t) t.size)) = R at *
 obtain ⟨za, zb, rfl⟩ : ∃ a b, R = .agg #[.bool a, .string b] := ⟨_, _, hR.symm⟩
 have HPx := shut hp
 have HTT := shut ht
 clear hR h4 h hp ht
 go_enter Tryz.func216, Tryz.ntmps216
 go_wp2_with fail
 obtain ⟨w0, hw0⟩ : ∃ w0, w0 = (w.alloc (.cells #[.bool false, .string { data := #[] }] 24)).alloc (.cells #[.bool false, .slice none 0 0] 228) := ⟨_, rfl⟩
 have k0 : Cel w0 w.heap.size [.bool false, .string { data := #[] }] 24 := by rw [hw0]; exact (Cel.new w _ _).alloc _
 have k1 : Cel w0 (w.heap.size + 1) [.bool false, .slice none 0 0] 228 := by
  rw [hw0]
  have := Cel.new (w.alloc (.cells #[.bool false, .string { data := #[] }] 24)) [.bool false, .slice none 0 0] 228
  simpa using this
 have hb0 : Below w.heap.size w w0 := by rw [hw0]; go_grown
 rw [← hw0]
 clear hw0
 refine (strings_HasPrefix _ _ w0).mono ?_
 rintro e w1 ⟨rfl, hw⟩
 subst hw
 rw [HPx.out]
 have c0 := cel2_0' k1
 have f0 := k1.frozen 0
 go_wp2_with fail
 rw [← HTT.out]
 obtain ⟨wa, hwa⟩ : ∃ wa, wa = w1.setCell ⟨w.heap.size + 1, 0, none⟩ (.bool true) := ⟨_, rfl⟩
 have k0' : Cel wa w.heap.size [.bool false, .string { data := #[] }] 24 := by rw [hwa]; exact k0.other (by omega) _ _
 have k1' : Cel wa (w.heap.size + 1) [.bool true, .slice none 0 0] 228 := by rw [hwa]; exact k1.set 0 _
 have hb0' : Below w.heap.size w wa := by rw [hwa]; exact hb0.setCell (by simp) _
 rw [← hwa]
 clear hwa c0 f0 k0 k1 hb0
 have k0 := k0'
 have k1 := k1'
 have hb0 := hb0'
 clear k0' k1' hb0'
 refine (HI.out wa).mono ?_
 rintro e w2 ⟨rfl, b2⟩
 replace k0 := k0.below b2
 replace k1 := k1.below b2
 replace hb0 := Below.after hb0 b2
 clear b2
 go_wp2_with fail
 refine (HRo.out w2).mono ?_
 rintro e w3 ⟨v, rfl, rv, b3⟩
 obtain ⟨av, cv, rfl, -, -⟩ := id rv
 replace k0 := k0.below b3
 replace k1 := k1.below b3
 replace hb0 := Below.after hb0 b3
 clear b3
 obtain ⟨c0, c1⟩ := xk2 k1
 have f1 := k1.frozen 1
 obtain ⟨e0, e1⟩ := xk2 (k1.set 1 (.slice av (M.digs B64 (decTo (byts t) t.size)).length cv))
 go_wp2_with fail
 have rx := (rdx_of_cel rv k1 (no_ints1 _ _ _ _)).setX 1 (.slice av (M.digs B64 (decTo (byts t) t.size)).length cv)
 obtain ⟨w4, hw4⟩ : ∃ w4, w4 = w3.setCell ⟨w.heap.size + 1, 1, none⟩ (.slice av (M.digs B64 (decTo (byts t) t.size)).length cv) := ⟨_, rfl⟩
 have k4 : Cel w4 w.heap.size [.bool false, .string { data := #[] }] 24 := by rw [hw4]; exact k0.other (by omega) _ _
 have b4 : Below w.heap.size w w4 := by rw [hw4]; exact hb0.setCell (by simp) _
 rw [← hw4] at rx ⊢
 clear hw4 c0 c1 f1 e0 e1 k0 k1 hb0 rv
 refine (HT.out _ w4 rx.rd).mono ?_
 rintro e w5 ⟨rfl, b5⟩
 replace k4 := k4.below b5
 replace b4 := Below.after b4 b5
 obtain ⟨g0, g1⟩ := xk2 k4
 have q0 := k4.frozen 0
 have q1 := k4.frozen 1
 go_wp2
 exact post_z1 (p := 2) (u := 3) (by kernel_rfl) rfl rfl rfl ((k4.set 0 _).set 1 _) ⟨rfl, (b4.setCell (by simp) _).setCell (by simp) _⟩
end
section
open Go.RowKit Go.Shelf
theorem dt_low (n : Nat) : M.Low 256 (dt n) := by
 intro x hx
 unfold dt at hx
 rw [List.mem_reverse, List.mem_map] at hx
 obtain ⟨y, hy, rfl⟩ := hx
 have := M.digs_lt (b := 10) (by omega) n y hy
 omega
end
section
open Go.RowKit Go.Shelf
theorem decTo_app (b c : List Nat) (k : Nat) (hk : k ≤ b.length) : decTo (b ++ c) k = decTo b k := by
 rw [← decTo_take (b ++ c) b.length k hk, List.take_left' rfl]
theorem lm_appl (b c : List Nat) (k : Nat) (hk : k < b.length) : lm (b ++ c) k = lm b k := by
 unfold lm
 rw [List.getD_eq_getElem?_getD, List.getD_eq_getElem?_getD, List.getElem?_append_left hk]
theorem dt_dec : ∀ (n V : Nat), V < n → decTo (dt V) (dt V).length = V
 | 0, V, h => absurd h (Nat.not_lt_zero _)
 | n + 1, V, h => by
  by_cases h0 : V = 0
  ·subst h0; rfl
  ·rw [dt_pos (by omega), List.length_append, List.length_singleton]
   unfold decTo
   rw [decTo_app _ _ _ (Nat.le_refl _), dt_dec n (V / 10) (by omega), lm_in _ _ _ _ rfl]
   omega
theorem dt_dig (V j : Nat) (h : j < (dt V).length) : 48 ≤ lm (dt V) j ∧ lm (dt V) j ≤ 57 := by
 have hm : lm (dt V) j ∈ dt V := by
  unfold lm
  rw [List.getD_eq_getElem?_getD, List.getElem?_eq_getElem h]
  exact List.getElem_mem h
 generalize lm (dt V) j = x at hm ⊢
 unfold dt at hm
 rw [List.mem_reverse, List.mem_map] at hm
 obtain ⟨y, hy, rfl⟩ := hm
 have := M.digs_lt (b := 10) (by omega) V y hy
 omega
theorem dt_head : ∀ (n V : Nat), V < n → 0 < V → 0 < (dt V).length ∧ lm (dt V) 0 ≠ 48
 | 0, V, h, _ => absurd h (Nat.not_lt_zero _)
 | n + 1, V, h, h0 => by
  by_cases h1 : V < 10
  ·rw [dt_pos h0, Nat.div_eq_of_lt h1, Nat.mod_eq_of_lt h1, dt_nil]
   refine ⟨by simp, ?_⟩
   show 48 + V ≠ 48
   omega
  ·obtain ⟨a, b⟩ := dt_head n (V / 10) (by omega) (by omega)
   rw [dt_pos h0, List.length_append]
   refine ⟨by omega, ?_⟩
   rw [lm_appl _ _ _ a]
   exact b
theorem dt_nats {V : Nat} (h0 : 0 < V) (h : V < 256 ^ 24) : NatS (dt V) := by
 obtain ⟨a, b⟩ := dt_head (V + 1) V (by omega) h0
 refine ⟨a, ?_, fun e => absurd e b, fun j hj => dt_dig V j hj⟩
 unfold dt
 rw [List.length_reverse, List.length_map]
 refine Nat.le_trans (M.digs_len_of_lt (k := 58) (by omega) (Nat.lt_of_lt_of_le h (by decide))) (by omega)
theorem byts_dt (V : Nat) : byts (strB (dt V)) = dt V := byts_strB (dt_low V)
theorem byts_mdt (V : Nat) : byts (strB (45 :: dt V)) = 45 :: dt V := byts_strB (fun x hx => by
 rcases List.mem_cons.1 hx with rfl | hx
 ·omega
 ·exact dt_low V x hx)
theorem tail_dt (V : Nat) : (strB (45 :: dt V)).extract 1 (strB (45 :: dt V)).size = strB (dt V) := by
 rw [← strB_byts ((strB (45 :: dt V)).extract 1 (strB (45 :: dt V)).size), byts_extract, byts_mdt, strB_size]
 congr 1
 rw [List.take_of_length_le (Nat.le_refl _)]
 rfl
theorem parse_text (n0 : Bool) (s : ByteArray) (w : World) (o : OkZ n0 s) (z : s.size ≤ 24) (T : List Nat) (hT : T = dt (natOf s)) :
  Calls Tryz.prog 216 #[.string (if T = [] then ⟨#[48]⟩ else if n0 then strB (45 :: T) else strB T)] w (Re w (.tuple #[.agg #[.bool n0, .string s], .int .i64 0])) := by
 have hz : Value.agg #[.bool n0, .string s] = zI (sgn n0 (natOf s)) := zV_ok o
 rw [hz]
 have hlt : natOf s < 256 ^ 24 := Nat.lt_of_lt_of_le (natOf_lt s) (Nat.pow_le_pow_right (by omega) z)
 by_cases h0 : natOf s = 0
 ·have ht : T = [] := by rw [hT, h0, dt_nil]
  have hs : ¬ 0 < s.size := fun h => by have := natOf_pos o.1 h; omega
  have hn : n0 = false := by
   cases n0 with
   | false => rfl
   | true => exact absurd (o.2 rfl) hs
  rw [if_pos ht, h0, hn]
  exact parse_pos ⟨#[48]⟩ w (by decide) (by
   refine ⟨by decide, by decide, fun _ => by decide, fun j hj => ?_⟩
   have : j = 0 := by have : j < 1 := hj; omega
   subst this
   decide)
 ·have hp : 0 < natOf s := by omega
  have ns := dt_nats hp hlt
  have hne : T ≠ [] := by
   intro e
   have := ns.1
   rw [← hT, e] at this
   simp at this
  rw [if_neg hne]
  subst hT
  cases n0 with
  | false =>
   rw [if_neg (by simp)]
   have := parse_pos (strB (dt (natOf s))) w (by
    rw [byts_dt]
    intro h
    have := (dt_dig (natOf s) 0 ns.1).1
    omega) (by rw [byts_dt]; exact ns)
   rw [byts_dt, strB_size, dt_dec _ _ (Nat.lt_succ_self _)] at this
   exact this
  | true =>
   rw [if_pos rfl]
   have := parse_neg (strB (45 :: dt (natOf s))) w (by
    rw [byts_mdt, strB_size]
    exact ⟨by simp, rfl⟩) (by
    intro e
    have e2 := congrArg byts e
    rw [byts_mdt] at e2
    have e3 : dt (natOf s) = [48] := (List.cons.inj e2).2
    have := (dt_head _ _ (Nat.lt_succ_self _) hp).2
    rw [e3] at this
    exact this rfl) (by rw [tail_dt, byts_dt]; exact ns)
   rw [tail_dt, byts_dt, strB_size, dt_dec _ _ (Nat.lt_succ_self _)] at this
   exact this
end
end Go.Proofs.YtnplifkgeeicjaaGreatDoor
namespace Go.Proofs.YtnplifkgeeicjaaGreatDoor
open Go.RowKit Go.Shelf
theorem print_one (n : Bool) (s d t : ByteArray) (w : World) (hd : (d.toList == [1]) = true)
  (HC : Hid (∀ w1, Below w.heap.size w w1 → Calls Tryz.prog 163 #[(qa1 n s d)] w1 (Re w1 (.int .i64 0))))
  (H1 : Hid (∀ w1, Below w.heap.size w w1 → Calls Tryz.prog 189 #[.agg #[.bool n, .string s]] w1 (Re w1 (.tuple #[.string t, .int .i64 0])))) :
  Calls Tryz.prog 155 #[(qa1 n s d)] w (Re w (.tuple #[.string t, .int .i64 0])) := by
 go_enter Tryz.func155, Tryz.ntmps155
 go_wp2_with fail
 go_fit (HC.out _ (ba (Below.refl _ _) _))
 rintro e w1 ⟨rfl, b1⟩
 obtain ⟨ka, b1⟩ := al1 b1
 have sz := b1.size
 have bb := b1
 clear b1
 have ta := ka.lt
 obtain ⟨ca_0, ca_1, ca_2⟩ := xk3 ka
 go_wp2_with fail
 clear ca_0 ca_1 ca_2
 go_fit (H1.out _ bb)
 rintro e w2 ⟨rfl, b1⟩
 have sz := b1.size
 replace ka := ka.below b1
 replace bb := Below.after bb b1
 clear b1
 obtain ⟨ca_0, ca_1, ca_2⟩ := xk3 ka
 go_wp2
 go_ret2
 exact ⟨rfl, bb⟩
theorem print_two (n : Bool) (s d t u : ByteArray) (w : World) (hd : (d.toList == [1]) = false) (ht : t.size ≤ 10000) (hu : u.size ≤ 10000)
  (HC : Hid (∀ w1, Below w.heap.size w w1 → Calls Tryz.prog 163 #[(qa1 n s d)] w1 (Re w1 (.int .i64 0))))
  (H1 : Hid (∀ w1, Below w.heap.size w w1 → Calls Tryz.prog 189 #[.agg #[.bool n, .string s]] w1 (Re w1 (.tuple #[.string t, .int .i64 0]))))
  (H2 : Hid (∀ w1, Below w.heap.size w w1 → Calls Tryz.prog 189 #[.agg #[.bool false, .string d]] w1 (Re w1 (.tuple #[.string u, .int .i64 0])))) :
  Calls Tryz.prog 155 #[(qa1 n s d)] w (Re w (.tuple #[.string ((t ++ ⟨#[47]⟩) ++ u), .int .i64 0])) := by
 go_enter Tryz.func155, Tryz.ntmps155
 go_wp2_with fail
 go_fit (HC.out _ (ba (Below.refl _ _) _))
 rintro e w1 ⟨rfl, b1⟩
 obtain ⟨ka, b1⟩ := al1 b1
 have sz := b1.size
 have bb := b1
 clear b1
 have ta := ka.lt
 obtain ⟨ca_0, ca_1, ca_2⟩ := xk3 ka
 go_wp2_with fail
 clear ca_0 ca_1 ca_2
 go_fit (H1.out _ bb)
 rintro e w2 ⟨rfl, b1⟩
 have sz := b1.size
 replace ka := ka.below b1
 replace bb := Below.after bb b1
 clear b1
 obtain ⟨ca_0, ca_1, ca_2⟩ := xk3 ka
 go_wp2_with fail
 clear ca_0 ca_1 ca_2
 go_fit (den_any _ _ _ _)
 rintro e w3 ⟨rfl, b1⟩
 have sz := b1.size
 replace ka := ka.below b1
 replace bb := Below.after bb b1
 clear b1
 go_wp2_with fail
 go_fit (H2.out _ bb)
 rintro e w4 ⟨rfl, b1⟩
 have sz := b1.size
 replace ka := ka.below b1
 replace bb := Below.after bb b1
 clear b1
 go_wp2
 go_ret2
 exact ⟨rfl, bb⟩
def ptxt (n : Bool) (s : ByteArray) : ByteArray := if dt (natOf s) = [] then ⟨#[48]⟩ else if n then strB (45 :: dt (natOf s)) else strB (dt (natOf s))
theorem ptxt_size (n : Bool) (s : ByteArray) (h : s.size ≤ 400) : (ptxt n s).size ≤ 1201 := by
 have := dt_size s 400 h
 unfold ptxt
 split
 ·decide
 ·split
  ·rw [strB_size, List.length_cons]; omega
  ·rw [strB_size]; omega
theorem pint (n : Bool) (s : ByteArray) (w : World) (hT : TabP w) (o : OkZ n s) (z : s.size ≤ 400) :
  Calls Tryz.prog 189 #[.agg #[.bool n, .string s]] w (Re w (.tuple #[.string (ptxt n s), .int .i64 0])) := print_any n s w hT o z _ rfl
theorem TabP.bel {w w' : World} (h : TabP w) (b : Below w.heap.size w w') : TabP w' := h.below b h.lt
def qtxt (n : Bool) (s d : ByteArray) : ByteArray := if natOf d = 1 then ptxt n s else (ptxt n s ++ ⟨#[47]⟩) ++ ptxt false d
theorem qprint_ok (n : Bool) (s d : ByteArray) (w : World) (hT : Tab w) (hP : TabP w) (h : chkq n s d = 0) (zs : s.size ≤ 400) (zd : d.size ≤ 400) :
  Calls Tryz.prog 155 #[(qa1 n s d)] w (Re w (.tuple #[.string (qtxt n s d), .int .i64 0])) := by
 obtain ⟨o, -, -⟩ := chkq_zero h
 have HC : Hid (∀ w1, Below w.heap.size w w1 → Calls Tryz.prog 163 #[(qa1 n s d)] w1 (Re w1 (.int .i64 0))) := by
  intro w1 b
  have := rchk_any n s d w1 (hT.below b)
  rwa [h] at this
 unfold qtxt
 by_cases h1 : natOf d = 1
 ·rw [if_pos h1]
  exact print_one n s d _ w (eq1 ((okS_one o.2.1).2 h1)) HC (fun w1 b => pint n s w1 (hP.bel b) o.1 zs)
 ·rw [if_neg h1]
  exact print_two n s d _ _ w (ne1 fun e => h1 ((okS_one o.2.1).1 e)) (Nat.le_trans (ptxt_size n s zs) (by omega)) (Nat.le_trans (ptxt_size false d zd) (by omega)) HC (fun w1 b => pint n s w1 (hP.bel b) o.1 zs) (fun w1 b => pint false d w1 (hP.bel b) ⟨o.2.1, fun h => by cases h⟩ zd)
end Go.Proofs.YtnplifkgeeicjaaGreatDoor
namespace Go.Proofs.YtnplifkgeeicjaaGreatDoor
open Go.RowKit Go.Shelf
theorem parse_ptxt (n : Bool) (s : ByteArray) (w : World) (o : OkZ n s) (z : s.size ≤ 24) :
  Calls Tryz.prog 216 #[.string (ptxt n s)] w (Re w (.tuple #[.agg #[.bool n, .string s], .int .i64 0])) := parse_text n s w o z _ rfl
theorem ptxt_one : ptxt false ⟨#[1]⟩ = ⟨#[49]⟩ := by
 unfold ptxt
 rw [natOf_one]
 decide
theorem ok_one : OkZ false ⟨#[1]⟩ := ⟨(okS_strOf 1) |> fun h => by rwa [strOf_one] at h, fun h => by cases h⟩
end Go.Proofs.YtnplifkgeeicjaaGreatDoor
namespace Go.Proofs.YtnplifkgeeicjaaGreatDoor
open Go.RowKit Go.Shelf
theorem rden_any (n : Bool) (s d : ByteArray) (w : World) :
  Calls Tryz.prog 75 #[(qa1 n s d)] w (Re w (.agg #[.bool false, .string d])) := by
 go_enter Tryz.func75, Tryz.ntmps75
 go_wp2
 obtain ⟨w0, hw, k0, k1, b⟩ := mk2 w (ql1 n s d) [.bool false, .string d] 26 24
 rw [← hw]
 exact post_z (p := 2) (by kernel_rfl) rfl rfl k1 ⟨rfl, b⟩
end Go.Proofs.YtnplifkgeeicjaaGreatDoor
namespace Go.Proofs.YtnplifkgeeicjaaGreatDoor
open Go.RowKit Go.Shelf
theorem rdivN {s g : ByteArray} (hs : s.size ≤ 20000) (hg : g.size ≤ 20000) (hG : 0 < natOf g) (v0 v1 : Value) (w : World) (r0 : Rd w v0 (M.digs D32 (natOf s))) (r1 : Rd w v1 (M.digs D32 (natOf g))) :
  Calls Tryz.prog 112 #[v0, v1] w fun e w' => ∃ q r, e = .returned (.tuple #[q, r]) ∧ Rd w' q (M.digs D32 (natOf s / natOf g)) ∧ Rd w' r (M.digs D32 (natOf s % natOf g)) ∧ Below w.heap.size w w' :=
 rdiv_dig (X := natOf s) (Y := natOf g) (K := 5000) (by omega) (natOf_lt4 5000 (by omega)) (natOf_lt4 5000 (by omega)) hG v0 v1 w r0 r1
theorem natN {s : ByteArray} {g : Nat} (hs : s.size ≤ 20000) (v : Value) (w : World) (r : Rd w v (M.digs D32 (natOf s / g))) :
  Calls Tryz.prog 114 #[v] w (Re w (.string (strOf (natOf s / g)))) := by
 have h : natOf s / g < D32 ^ 5000 := Nat.lt_of_le_of_lt (Nat.div_le_self _ _) (natOf_lt4 5000 (by omega))
 have := rnat_any v _ w r (M.Low.digs D32_two _) (Nat.le_trans (dlen h) (by omega))
 rwa [M.val_digs D32_two] at this
theorem low_cut (n0 gN : Bool) (s0 s1 gS : ByteArray) (w : World) (hg : (gS.toList == [1]) = false) (z0 : s0.size ≤ 20000) (z1 : s1.size ≤ 20000) (zg : gS.size ≤ 20000) (hG : 0 < natOf gS)
  (H1 : Hid (∀ w1, Calls Tryz.prog 110 #[.agg #[.bool n0, .string s0], .agg #[.bool false, .string s1]] w1 (Re w1 (.agg #[.bool gN, .string gS])))) :
  Calls Tryz.prog 57 #[.agg #[.bool n0, .string s0], .agg #[.bool false, .string s1]] w (Re w ((qa1 n0 (strOf (natOf s0 / natOf gS)) (strOf (natOf s1 / natOf gS))))) := by
 have HD0 := shut (fun v0 v1 w r0 r1 => rdivN (s := s0) (g := gS) z0 zg hG v0 v1 w r0 r1)
 have HD1 := shut (fun v0 v1 w r0 r1 => rdivN (s := s1) (g := gS) z1 zg hG v0 v1 w r0 r1)
 have HN0 := shut (fun v w r => natN (s := s0) (g := natOf gS) z0 v w r)
 have HN1 := shut (fun v w r => natN (s := s1) (g := natOf gS) z1 v w r)
 clear hG
 generalize strOf (natOf s0 / natOf gS) = S at *
 generalize strOf (natOf s1 / natOf gS) = D at *
 go_enter Tryz.func57, Tryz.ntmps57
 go_wp2_with fail
 go_fit (H1.out _)
 rintro e w1 ⟨rfl, b1⟩
 obtain ⟨ka, kb, kr, bb⟩ := al3 b1
 clear b1
 obtain ⟨c0, c1⟩ := xk2 (ka.alloc (.cells #[.bool gN, .string gS] 24))
 obtain ⟨c2, c3⟩ := xk2 (kb.alloc (.cells #[.bool gN, .string gS] 24))
 go_wp2_with fail
 clear c0 c1 c2 c3
 obtain ⟨w2, hw, kg, b1⟩ := mk1 w1 [.bool gN, .string gS] 24
 rw [← hw]
 clear hw
 replace ka := ka.below b1
 replace kb := kb.below b1
 replace kr := kr.below b1
 replace bb := Below.after bb b1
 clear b1
 go_region_held3 (fun w' => xc2 w' w.heap.size (.bool n0) (.string s0) ∧ xc2 w' w1.heap.size (.bool gN) (.string gS)) (exact ⟨xk2 ka, xk2 kg⟩) (first | (go_at_call 112; refine (HD0.out _ _ _ rx ry).mono ?_; rintro e wn ⟨vq, vr, rfl, rq, rr, bn⟩; obtain ⟨aq, cq, rfl, -, -⟩ := id rq; obtain ⟨ar, cr, rfl, -, -⟩ := id rr; replace ka := ka.below bn; replace kb := kb.below bn; replace kr := kr.below bn; replace kg := kg.below bn; replace bb := Below.after bb bn; clear bn) | (go_at_call 113; go_fit (dig_any s0 _ (by omega)); rintro e wn ⟨vx, rfl, rx, bn⟩; obtain ⟨ax, cx, rfl, -, -⟩ := id rx; replace ka := ka.below (un bn); replace kb := kb.below (un bn); replace kr := kr.below (un bn); replace kg := kg.below (un bn); replace bb := Below.after bb (un bn); clear bn) | (go_at_call 113; go_fit (dig_any gS _ (by omega)); rintro e wn ⟨vy, rfl, ry, bn⟩; obtain ⟨ay, cy, rfl, -, -⟩ := id ry; replace rx := rx.below bn; replace ka := ka.below bn; replace kb := kb.below bn; replace kr := kr.below bn; replace kg := kg.below bn; replace bb := Below.after bb bn; clear bn))
 go_wp2_with fail
 clear rx ry rr
 go_region_held3 (fun w' => xc2 w' (w.heap.size + 1) (.bool false) (.string s1) ∧ xc2 w' w1.heap.size (.bool gN) (.string gS)) (exact ⟨xk2 kb, xk2 kg⟩) (first | (go_at_call 112; refine (HD1.out _ _ _ rx ry).mono ?_; rintro e wn ⟨vp, vr, rfl, rp, rr, bn⟩; obtain ⟨ap, cp, rfl, -, -⟩ := id rp; obtain ⟨ar, cr, rfl, -, -⟩ := id rr; replace rq := rq.below bn; replace ka := ka.below bn; replace kb := kb.below bn; replace kr := kr.below bn; replace kg := kg.below bn; replace bb := Below.after bb bn; clear bn) | (go_at_call 113; go_fit (dig_any s1 _ (by omega)); rintro e wn ⟨vx, rfl, rx, bn⟩; obtain ⟨ax, cx, rfl, -, -⟩ := id rx; replace rq := rq.below (un bn); replace ka := ka.below (un bn); replace kb := kb.below (un bn); replace kr := kr.below (un bn); replace kg := kg.below (un bn); replace bb := Below.after bb (un bn); clear bn) | (go_at_call 113; go_fit (dig_any gS _ (by omega)); rintro e wn ⟨vy, rfl, ry, bn⟩; obtain ⟨ay, cy, rfl, -, -⟩ := id ry; replace rx := rx.below bn; replace rq := rq.below bn; replace ka := ka.below bn; replace kb := kb.below bn; replace kr := kr.below bn; replace kg := kg.below bn; replace bb := Below.after bb bn; clear bn))
 go_wp2_with fail
 clear rx ry rr
 have qa : w.heap.size ≠ w.heap.size + 1 + 1 := by omega
 go_region_held3 (fun w' => xc2 w' w.heap.size (.bool n0) (.string s0)) (first | exact (xk2 ka) | exact (xk2 (Cel.other (Cel.other (Cel.other ka qa 0 _) qa 1 _) qa 2 _))) (first | (go_at_call 114; go_fit (HN0.out _ _ ?_); (first | exact rq | exact rq.drew); rintro e wn ⟨rfl, bn⟩; replace rp := rp.below (un bn); replace ka := ka.below (un bn); replace kb := kb.below (un bn); replace kr := kr.below (un bn); replace kg := kg.below (un bn); replace bb := Below.after bb (un bn); clear bn) | (go_at_call 114; go_fit (HN1.out _ _ ?_); exact rp; rintro e wn ⟨rfl, bn⟩; replace ka := ka.below bn; replace kb := kb.below bn; replace kr := kr.below bn; replace kg := kg.below bn; replace bb := Below.after bb bn; clear bn; have e0 := cel3_0 kr; have e1 := cel3_1 kr; have e2 := cel3_2 kr; have f0 := kr.frozen 0; have f1 := kr.frozen 1; have f2 := kr.frozen 2))
 go_wp2
 exact post_q (p := 4) (by kernel_rfl) rfl rfl (((kr.set 0 _).set 1 _).set 2 _) ⟨rfl, bset (bset (bset bb (by omega) 0 _) (by omega) 1 _) (by omega) 2 _⟩
end Go.Proofs.YtnplifkgeeicjaaGreatDoor
namespace Go.Proofs.YtnplifkgeeicjaaGreatDoor
open Go.RowKit Go.Shelf
theorem low_ncut (n0 m0 gN : Bool) (s0 s1 gS : ByteArray) (w : World) (hg : (gS.toList == [1]) = false) (z0 : s0.size ≤ 20000) (z1 : s1.size ≤ 20000) (zg : gS.size ≤ 20000) (hG : 0 < natOf gS)
  (H1 : Hid (∀ w1, Calls Tryz.prog 110 #[.agg #[.bool n0, .string s0], .agg #[.bool true, .string s1]] w1 (Re w1 (.agg #[.bool gN, .string gS]))))
  (H2 : Hid (∀ w1, Calls Tryz.prog 111 #[.agg #[.bool n0, .string s0]] w1 (Re w1 (.agg #[.bool m0, .string s0]))))
  (H3 : Hid (∀ w1, Calls Tryz.prog 111 #[.agg #[.bool true, .string s1]] w1 (Re w1 (.agg #[.bool false, .string s1])))) :
  Calls Tryz.prog 57 #[.agg #[.bool n0, .string s0], .agg #[.bool true, .string s1]] w (Re w ((qa1 m0 (strOf (natOf s0 / natOf gS)) (strOf (natOf s1 / natOf gS))))) := by
 have HD0 := shut (fun v0 v1 w r0 r1 => rdivN (s := s0) (g := gS) z0 zg hG v0 v1 w r0 r1)
 have HD1 := shut (fun v0 v1 w r0 r1 => rdivN (s := s1) (g := gS) z1 zg hG v0 v1 w r0 r1)
 have HN0 := shut (fun v w r => natN (s := s0) (g := natOf gS) z0 v w r)
 have HN1 := shut (fun v w r => natN (s := s1) (g := natOf gS) z1 v w r)
 clear hG
 generalize strOf (natOf s0 / natOf gS) = S at *
 generalize strOf (natOf s1 / natOf gS) = D at *
 go_enter Tryz.func57, Tryz.ntmps57
 go_wp2_with fail
 go_fit (H1.out _)
 rintro e w1 ⟨rfl, b1⟩
 obtain ⟨ka, kb, kr, bb⟩ := al3 b1
 clear b1
 obtain ⟨c2, c3⟩ := xk2 (kb.alloc (.cells #[.bool gN, .string gS] 24))
 obtain ⟨c0, c1⟩ := xk2 (ka.alloc (.cells #[.bool gN, .string gS] 24))
 go_wp2_with fail
 clear c0 c1 c2 c3
 have t0 := kr.lt
 go_fit (H2.out _)
 rintro e w2 ⟨rfl, b1⟩
 obtain ⟨kg, b1⟩ := al1 b1
 replace ka := ka.below b1
 replace kb := kb.below b1
 replace kr := kr.below b1
 replace bb := Below.after bb b1
 clear b1
 obtain ⟨w3, hw⟩ : ∃ x, x = (w2.setCell ⟨w.heap.size, 0, none⟩ (.bool m0)).setCell ⟨w.heap.size, 1, none⟩ (.string s0) := ⟨_, rfl⟩
 have kb1 := Cel.other (g' := w.heap.size) (Cel.other (g' := w.heap.size) kb (by omega) 0 (.bool m0)) (by omega) 1 (.string s0)
 have kr1 := Cel.other (g' := w.heap.size) (Cel.other (g' := w.heap.size) kr (by omega) 0 (.bool m0)) (by omega) 1 (.string s0)
 have kg1 := Cel.other (g' := w.heap.size) (Cel.other (g' := w.heap.size) kg (by omega) 0 (.bool m0)) (by omega) 1 (.string s0)
 have ka1 := (ka.set 0 (.bool m0)).set 1 (.string s0)
 have bb1 := bset (g := w.heap.size) (bset (g := w.heap.size) bb (by omega) 0 (.bool m0)) (by omega) 1 (.string s0)
 obtain ⟨c0, c1⟩ := xk2 ka
 have f0 := ka.frozen 0
 have f1 := ka.frozen 1
 obtain ⟨c2, c3⟩ := xk2 kb1
 have tt := t0
 clear t0
 go_wp2_with fail
 rw [← hw]
 rw [← hw] at ka1 kb1 kr1 kg1 bb1
 clear hw c0 c1 f0 f1 c2 c3 ka kb kr kg bb
 go_fit (H3.out _)
 rintro e w4 ⟨rfl, b1⟩
 have ka := ka1.below b1
 have kb := kb1.below b1
 have kr := kr1.below b1
 have kg := kg1.below b1
 have bb := Below.after bb1 b1
 clear b1 ka1 kb1 kr1 kg1 bb1
 obtain ⟨w5, hw⟩ : ∃ x, x = (w4.setCell ⟨w.heap.size + 1, 0, none⟩ (.bool false)).setCell ⟨w.heap.size + 1, 1, none⟩ (.string s1) := ⟨_, rfl⟩
 have ka1 := Cel.other (g' := w.heap.size + 1) (Cel.other (g' := w.heap.size + 1) ka (by omega) 0 (.bool false)) (by omega) 1 (.string s1)
 have kr1 := Cel.other (g' := w.heap.size + 1) (Cel.other (g' := w.heap.size + 1) kr (by omega) 0 (.bool false)) (by omega) 1 (.string s1)
 have kg1 := Cel.other (g' := w.heap.size + 1) (Cel.other (g' := w.heap.size + 1) kg (by omega) 0 (.bool false)) (by omega) 1 (.string s1)
 have kb1 := (kb.set 0 (.bool false)).set 1 (.string s1)
 have bb1 := bset (g := w.heap.size + 1) (bset (g := w.heap.size + 1) bb (by omega) 0 (.bool false)) (by omega) 1 (.string s1)
 obtain ⟨c0, c1⟩ := xk2 kb
 have f0 := kb.frozen 0
 have f1 := kb.frozen 1
 obtain ⟨c2, c3⟩ := xk2 kg1
 go_wp2_with fail
 rw [← hw]
 rw [← hw] at ka1 kb1 kr1 kg1 bb1
 clear hw c0 c1 f0 f1 c2 c3 ka kb kr kg bb
 have ka := ka1
 have kb := kb1
 have kr := kr1
 have kg := kg1
 have bb := bb1
 clear ka1 kb1 kr1 kg1 bb1
 go_region_held3 (fun w' => xc2 w' w.heap.size (.bool m0) (.string s0) ∧ xc2 w' w1.heap.size (.bool gN) (.string gS)) (exact ⟨xk2 ka, xk2 kg⟩) (first | (go_at_call 112; refine (HD0.out _ _ _ rx ry).mono ?_; rintro e wn ⟨vq, vr, rfl, rq, rr, bn⟩; obtain ⟨aq, cq, rfl, -, -⟩ := id rq; obtain ⟨ar, cr, rfl, -, -⟩ := id rr; replace ka := ka.below bn; replace kb := kb.below bn; replace kr := kr.below bn; replace kg := kg.below bn; replace bb := Below.after bb bn; clear bn) | (go_at_call 113; go_fit (dig_any s0 _ (by omega)); rintro e wn ⟨vx, rfl, rx, bn⟩; obtain ⟨ax, cx, rfl, -, -⟩ := id rx; replace ka := ka.below (un bn); replace kb := kb.below (un bn); replace kr := kr.below (un bn); replace kg := kg.below (un bn); replace bb := Below.after bb (un bn); clear bn) | (go_at_call 113; go_fit (dig_any gS _ (by omega)); rintro e wn ⟨vy, rfl, ry, bn⟩; obtain ⟨ay, cy, rfl, -, -⟩ := id ry; replace rx := rx.below bn; replace ka := ka.below bn; replace kb := kb.below bn; replace kr := kr.below bn; replace kg := kg.below bn; replace bb := Below.after bb bn; clear bn))
 go_wp2_with fail
 clear rx ry rr
 go_region_held3 (fun w' => xc2 w' (w.heap.size + 1) (.bool false) (.string s1) ∧ xc2 w' w1.heap.size (.bool gN) (.string gS)) (exact ⟨xk2 kb, xk2 kg⟩) (first | (go_at_call 112; refine (HD1.out _ _ _ rx ry).mono ?_; rintro e wn ⟨vp, vr, rfl, rp, rr, bn⟩; obtain ⟨ap, cp, rfl, -, -⟩ := id rp; obtain ⟨ar, cr, rfl, -, -⟩ := id rr; replace rq := rq.below bn; replace ka := ka.below bn; replace kb := kb.below bn; replace kr := kr.below bn; replace kg := kg.below bn; replace bb := Below.after bb bn; clear bn) | (go_at_call 113; go_fit (dig_any s1 _ (by omega)); rintro e wn ⟨vx, rfl, rx, bn⟩; obtain ⟨ax, cx, rfl, -, -⟩ := id rx; replace rq := rq.below (un bn); replace ka := ka.below (un bn); replace kb := kb.below (un bn); replace kr := kr.below (un bn); replace kg := kg.below (un bn); replace bb := Below.after bb (un bn); clear bn) | (go_at_call 113; go_fit (dig_any gS _ (by omega)); rintro e wn ⟨vy, rfl, ry, bn⟩; obtain ⟨ay, cy, rfl, -, -⟩ := id ry; replace rx := rx.below bn; replace rq := rq.below bn; replace ka := ka.below bn; replace kb := kb.below bn; replace kr := kr.below bn; replace kg := kg.below bn; replace bb := Below.after bb bn; clear bn))
 go_wp2_with fail
 clear rx ry rr
 have qa : w.heap.size ≠ w.heap.size + 1 + 1 := by omega
 go_region_held3 (fun w' => xc2 w' w.heap.size (.bool m0) (.string s0)) (first | exact (xk2 ka) | exact (xk2 (Cel.other (Cel.other (Cel.other ka qa 0 _) qa 1 _) qa 2 _))) (first | (go_at_call 114; go_fit (HN0.out _ _ ?_); (first | exact rq | exact rq.drew); rintro e wn ⟨rfl, bn⟩; replace rp := rp.below (un bn); replace ka := ka.below (un bn); replace kb := kb.below (un bn); replace kr := kr.below (un bn); replace kg := kg.below (un bn); replace bb := Below.after bb (un bn); clear bn) | (go_at_call 114; go_fit (HN1.out _ _ ?_); exact rp; rintro e wn ⟨rfl, bn⟩; replace ka := ka.below bn; replace kb := kb.below bn; replace kr := kr.below bn; replace kg := kg.below bn; replace bb := Below.after bb bn; clear bn; have e0 := cel3_0 kr; have e1 := cel3_1 kr; have e2 := cel3_2 kr; have f0 := kr.frozen 0; have f1 := kr.frozen 1; have f2 := kr.frozen 2))
 go_wp2
 exact post_q (p := 4) (by kernel_rfl) rfl rfl (((kr.set 0 _).set 1 _).set 2 _) ⟨rfl, bset (bset (bset bb (by omega) 0 _) (by omega) 1 _) (by omega) 2 _⟩
theorem low_none (n0 m0 gN : Bool) (s0 s1 gS : ByteArray) (w : World) (hg : (gS.toList == [1]) = true)
  (H1 : Hid (∀ w1, Calls Tryz.prog 110 #[.agg #[.bool n0, .string s0], .agg #[.bool true, .string s1]] w1 (Re w1 (.agg #[.bool gN, .string gS]))))
  (H2 : Hid (∀ w1, Calls Tryz.prog 111 #[.agg #[.bool n0, .string s0]] w1 (Re w1 (.agg #[.bool m0, .string s0]))))
  (H3 : Hid (∀ w1, Calls Tryz.prog 111 #[.agg #[.bool true, .string s1]] w1 (Re w1 (.agg #[.bool false, .string s1])))) :
  Calls Tryz.prog 57 #[.agg #[.bool n0, .string s0], .agg #[.bool true, .string s1]] w (Re w ((qa1 m0 s0 s1))) := by
 go_enter Tryz.func57, Tryz.ntmps57
 go_wp2_with fail
 go_fit (H1.out _)
 rintro e w1 ⟨rfl, b1⟩
 obtain ⟨ka, kb, kr, bb⟩ := al3 b1
 clear b1
 obtain ⟨c2, c3⟩ := xk2 (kb.alloc (.cells #[.bool gN, .string gS] 24))
 obtain ⟨c0, c1⟩ := xk2 (ka.alloc (.cells #[.bool gN, .string gS] 24))
 go_wp2_with fail
 clear c0 c1 c2 c3
 have t0 := kr.lt
 go_fit (H2.out _)
 rintro e w2 ⟨rfl, b1⟩
 obtain ⟨kg, b1⟩ := al1 b1
 replace ka := ka.below b1
 replace kb := kb.below b1
 replace kr := kr.below b1
 replace bb := Below.after bb b1
 clear b1
 obtain ⟨w3, hw⟩ : ∃ x, x = (w2.setCell ⟨w.heap.size, 0, none⟩ (.bool m0)).setCell ⟨w.heap.size, 1, none⟩ (.string s0) := ⟨_, rfl⟩
 have kb1 := Cel.other (g' := w.heap.size) (Cel.other (g' := w.heap.size) kb (by omega) 0 (.bool m0)) (by omega) 1 (.string s0)
 have kr1 := Cel.other (g' := w.heap.size) (Cel.other (g' := w.heap.size) kr (by omega) 0 (.bool m0)) (by omega) 1 (.string s0)
 have kg1 := Cel.other (g' := w.heap.size) (Cel.other (g' := w.heap.size) kg (by omega) 0 (.bool m0)) (by omega) 1 (.string s0)
 have ka1 := (ka.set 0 (.bool m0)).set 1 (.string s0)
 have bb1 := bset (g := w.heap.size) (bset (g := w.heap.size) bb (by omega) 0 (.bool m0)) (by omega) 1 (.string s0)
 obtain ⟨c0, c1⟩ := xk2 ka
 have f0 := ka.frozen 0
 have f1 := ka.frozen 1
 obtain ⟨c2, c3⟩ := xk2 kb1
 have tt := t0
 clear t0
 go_wp2_with fail
 rw [← hw]
 rw [← hw] at ka1 kb1 kr1 kg1 bb1
 clear hw c0 c1 f0 f1 c2 c3 ka kb kr kg bb
 go_fit (H3.out _)
 rintro e w4 ⟨rfl, b1⟩
 have ka := ka1.below b1
 have kb := kb1.below b1
 have kr := kr1.below b1
 have kg := kg1.below b1
 have bb := Below.after bb1 b1
 clear b1 ka1 kb1 kr1 kg1 bb1
 obtain ⟨w5, hw⟩ : ∃ x, x = (w4.setCell ⟨w.heap.size + 1, 0, none⟩ (.bool false)).setCell ⟨w.heap.size + 1, 1, none⟩ (.string s1) := ⟨_, rfl⟩
 have ka1 := Cel.other (g' := w.heap.size + 1) (Cel.other (g' := w.heap.size + 1) ka (by omega) 0 (.bool false)) (by omega) 1 (.string s1)
 have kr1 := Cel.other (g' := w.heap.size + 1) (Cel.other (g' := w.heap.size + 1) kr (by omega) 0 (.bool false)) (by omega) 1 (.string s1)
 have kg1 := Cel.other (g' := w.heap.size + 1) (Cel.other (g' := w.heap.size + 1) kg (by omega) 0 (.bool false)) (by omega) 1 (.string s1)
 have kb1 := (kb.set 0 (.bool false)).set 1 (.string s1)
 have bb1 := bset (g := w.heap.size + 1) (bset (g := w.heap.size + 1) bb (by omega) 0 (.bool false)) (by omega) 1 (.string s1)
 obtain ⟨c0, c1⟩ := xk2 kb
 have f0 := kb.frozen 0
 have f1 := kb.frozen 1
 obtain ⟨c2, c3⟩ := xk2 kg1
 obtain ⟨e0, e1⟩ := xk2 ka1
 obtain ⟨e2, e3⟩ := xk2 kb1
 obtain ⟨r0, r1, r2⟩ := xk3 kr1
 have g0 := kr1.frozen 0
 have g1 := kr1.frozen 1
 have g2 := kr1.frozen 2
 go_wp2
 exact post_q (p := 4) (by kernel_rfl) rfl rfl (((kr1.set 0 _).set 1 _).set 2 _) ⟨rfl, bset (bset (bset bb1 (by omega) 0 _) (by omega) 1 _) (by omega) 2 _⟩
theorem rneg_some (n : Bool) (s : ByteArray) (w : World) (hs : s.toList.isEmpty = false) :
  Calls Tryz.prog 111 #[.agg #[.bool n, .string s]] w (Re w (.agg #[.bool (!n), .string s])) := by
 cases n
 ·go_enter Tryz.func111, Tryz.ntmps111
  go_wp2
  obtain ⟨w0, hw, k0, k1, b⟩ := mk2 w [.bool false, .string s] [.bool true, .string s] 24 24
  rw [← hw]
  exact post_z (p := 2) (by kernel_rfl) rfl rfl k1 ⟨rfl, b⟩
 ·go_enter Tryz.func111, Tryz.ntmps111
  go_wp2
  obtain ⟨w0, hw, k0, k1, b⟩ := mk2 w [.bool true, .string s] [.bool false, .string s] 24 24
  rw [← hw]
  exact post_z (p := 2) (by kernel_rfl) rfl rfl k1 ⟨rfl, b⟩
theorem rneg_none (w : World) :
  Calls Tryz.prog 111 #[.agg #[.bool false, .string ByteArray.empty]] w (Re w (.agg #[.bool false, .string ByteArray.empty])) := by
 go_enter Tryz.func111, Tryz.ntmps111
 go_wp2
 obtain ⟨w0, hw, k0, k1, b⟩ := mk2 w [.bool false, .string ByteArray.empty] [.bool false, .string ByteArray.empty] 24 24
 rw [← hw]
 exact post_z (p := 2) (by kernel_rfl) rfl rfl k1 ⟨rfl, b⟩
theorem rneg_ok (n : Bool) (s : ByteArray) (o : OkZ n s) : ∃ m, zOf m s = -zOf n s ∧ OkZ m s ∧ ∀ w, Calls Tryz.prog 111 #[.agg #[.bool n, .string s]] w (Re w (.agg #[.bool m, .string s])) := by
 by_cases hs : 0 < s.size
 ·exact ⟨!n, by cases n <;> simp [zOf], ⟨o.1, fun _ => hs⟩, fun w => rneg_some n s w (by simpa using toList_ne hs)⟩
 ·have g3 : s = ByteArray.empty := ByteArray.size_eq_zero_iff.1 (by omega)
  subst g3
  have hn : n = false := by
   cases n with
   | false => rfl
   | true => exact absurd (o.2 rfl) hs
  subst hn
  exact ⟨false, rfl, o, fun w => rneg_none w⟩
theorem zI_quot {n : Bool} {s : ByteArray} {G : Nat} (o : OkZ n s) (hG : 0 < G) (hd : G ∣ natOf s) : zI (zOf n s / (G : Int)) = .agg #[.bool n, .string (strOf (natOf s / G))] := by
 obtain ⟨k, hk⟩ := hd
 have hne : (G : Int) ≠ 0 := by omega
 have e : zOf n s / (G : Int) = if n then -(k : Int) else (k : Int) := by
  cases n with
  | false => rw [show zOf false s = (G : Int) * k by simp [zOf, hk], Int.mul_ediv_cancel_left _ hne]; rfl
  | true => rw [show zOf true s = (G : Int) * (-(k : Int)) by simp [zOf, hk, Int.mul_neg], Int.mul_ediv_cancel_left _ hne]; rfl
 rw [e, hk, Nat.mul_div_cancel_left k hG]
 cases n with
 | false => show zV (decide (((k : Nat) : Int) < 0)) (strOf ((k : Nat) : Int).natAbs) = _; rw [show decide (((k : Nat) : Int) < 0) = false by simp]; rfl
 | true =>
  have hp := natOf_pos o.1 (o.2 rfl)
  have hkp : 0 < k := Nat.pos_of_ne_zero fun e => by rw [e, Nat.mul_zero] at hk; omega
  show zV (decide (-((k : Nat) : Int) < 0)) (strOf (-((k : Nat) : Int)).natAbs) = _
  rw [show decide (-((k : Nat) : Int) < 0) = true by simp; omega, show (-((k : Nat) : Int)).natAbs = k by omega]
  rfl
theorem low_any (n0 n1 : Bool) (s0 s1 : ByteArray) (w : World) (o0 : OkZ n0 s0) (o1 : OkZ n1 s1) (z0 : s0.size ≤ 20000) (z1 : s1.size ≤ 20000) (hp : 0 < natOf s1) :
  Calls Tryz.prog 57 #[.agg #[.bool n0, .string s0], .agg #[.bool n1, .string s1]] w (Re w (qI (Rat.divInt (zOf n0 s0) (zOf n1 s1)))) := by
 obtain ⟨G, hG⟩ : ∃ G, G = Nat.gcd (natOf s0) (natOf s1) := ⟨_, rfl⟩
 have hGp : 0 < G := by rw [hG]; exact Nat.gcd_pos_of_pos_right _ hp
 have d0 : G ∣ natOf s0 := by rw [hG]; exact Nat.gcd_dvd_left _ _
 have hd : zOf n1 s1 ≠ 0 := fun e => by have := natAbs_zOf n1 s1; rw [e] at this; simp at this; omega
 have key := Q.make_low (zOf n0 s0) (zOf n1 s1) hd G (by rw [natAbs_zOf, natAbs_zOf]; exact hG)
 rw [natAbs_zOf] at key
 have H1 : Hid (∀ w1, Calls Tryz.prog 110 #[.agg #[.bool n0, .string s0], .agg #[.bool n1, .string s1]] w1 (Re w1 (.agg #[.bool false, .string (strOf G)]))) := by
  intro w1
  have := rcommon_any n0 n1 s0 s1 w1 (by omega) (by omega)
  rw [← hG] at this
  have e : zI ((G : Nat) : Int) = .agg #[.bool false, .string (strOf G)] := by
   show zV _ _ = _
   rw [Int.natAbs_natCast, show decide (((G : Nat) : Int) < 0) = false by simp]
   rfl
  rwa [e] at this
 have zG : (strOf G).size ≤ 20000 := by
  have hb : Bd (G : Int) s1.size := (bd_nat (Nat.le_refl _)).nat (by rw [hG]; exact Nat.le_of_dvd hp (Nat.gcd_dvd_right _ _))
  have := hb.size
  rw [Int.natAbs_natCast] at this
  omega
 have nG : natOf (strOf G) = G := natOf_strOf G
 cases n1 with
 | false =>
  rw [if_neg (show ¬ zOf false s1 < 0 by simp [zOf])] at key
  rw [qI_of key (zI_quot o0 hGp d0) rfl]
  by_cases hg : G = 1
  ·rw [hg, Nat.div_one, Nat.div_one, strOf_natOf o0.1, strOf_natOf o1.1]
   exact low_one n0 false s0 s1 (strOf G) w (eq1 (by rw [hg, strOf_one])) H1
  ·have := low_cut n0 false s0 s1 (strOf G) w (ne1 fun e => hg (by rw [← nG, e, natOf_one])) z0 z1 zG (by omega) H1
   rwa [nG] at this
 | true =>
  have hs0 : (if zOf true s1 < 0 then -zOf n0 s0 else zOf n0 s0) = -zOf n0 s0 := if_pos (by simp [zOf]; omega)
  rw [hs0] at key
  obtain ⟨m0, em, om, hm⟩ := rneg_ok n0 s0 o0
  rw [← em] at key
  rw [qI_of key (zI_quot om hGp d0) rfl]
  have H3 : Hid (∀ w1, Calls Tryz.prog 111 #[.agg #[.bool true, .string s1]] w1 (Re w1 (.agg #[.bool false, .string s1]))) := fun w1 => rneg_some true s1 w1 (isE hp)
  by_cases hg : G = 1
  ·rw [hg, Nat.div_one, Nat.div_one, strOf_natOf o0.1, strOf_natOf o1.1]
   exact low_none n0 m0 false s0 s1 (strOf G) w (eq1 (by rw [hg, strOf_one])) H1 hm H3
  ·have := low_ncut n0 m0 false s0 s1 (strOf G) w (ne1 fun e => hg (by rw [← nG, e, natOf_one])) z0 z1 zG (by omega) H1 hm H3
   rwa [nG] at this
end Go.Proofs.YtnplifkgeeicjaaGreatDoor
namespace Go.Proofs.YtnplifkgeeicjaaGreatDoor
section
open Go.RowKit
end
section
open Go.RowKit
end
section
open Go.RowKit Go.Shelf
theorem dt_zero : dt 0 = [] := rfl
def strSz : Value → Nat
 | .string s => s.size
 | _ => 0
theorem bxt (w : World) (x0 x1 : Value) : ∃ w0, w0 = w.alloc (.cells #[x0, x1] 24) ∧ Cel w0 w.heap.size [x0, x1] 24 ∧ Below w.heap.size w w0 :=
 ⟨_, rfl, Cel.new w _ _, (Below.refl _ _).alloc (Nat.le_refl _) _⟩
theorem run_one (w : World) (d : Nat) : (convert 55 9 (.slice (some ⟨w.heap.size, 0, none⟩) 1 1)).run Tryz.prog (w.alloc (.cells #[.int .u8 (d : Int)] 5)) = .ok (.string (strB [d])) (w.alloc (.cells #[.int .u8 (d : Int)] 5)) := by
 rw [← strB_eq]
 refine run_convert_bytes_arg _ 55 5 Tryz.underlying55 Tryz.underlying5 w.heap.size 0 1 1 _ (by simp) ?_ 9 Tryz.underlying9
 intro i hi
 obtain rfl : i = 0 := by omega
 exact (Cel.new w [.int .u8 (d : Int)] 5).cell 0
theorem ten_lt : 10 < D32 ^ 200 := Nat.lt_of_lt_of_le (show 10 < D32 ^ 1 by decide) (Nat.pow_le_pow_right (by decide) (by omega))
theorem ten_dig : M.digs D32 10 = [10] := by unfold D32; decide
theorem mod_dig (m : Nat) : M.digs D32 (m % 10) = if m % 10 = 0 then [] else [m % 10] := by
 by_cases h : m % 10 = 0
 ·rw [if_pos h, h, M.digs_zero]
 ·rw [if_neg h, M.digs_pos D32_two (by omega), Nat.mod_eq_of_lt (by unfold D32; omega), Nat.div_eq_of_lt (by unfold D32; omega), M.digs_zero]
theorem rtext_loop (n0 : Bool) (s : ByteArray) (w : World) (hs : s.size ≤ 400) (T : List Nat) (hT : T = dt (natOf s)) :
  Calls Tryz.prog 109 #[.agg #[.bool n0, .string s]] w (Re w (.string (if T = [] then ⟨#[48]⟩ else if n0 then strB (45 :: T) else strB T))) := by
 have HG := shut (fun w => digits_any s w (by omega))
 obtain ⟨TT, hTT⟩ : ∃ t, t = (if T = [] then (⟨#[48]⟩ : ByteArray) else if n0 then strB (45 :: T) else strB T) := ⟨_, rfl⟩
 rw [← hTT]
 have HTT := shut hTT
 have HT := shut hT
 clear hTT hT
 go_enter Tryz.func109, Tryz.ntmps109
 go_wp2_with fail
 obtain ⟨w0, hw0, k0, bb⟩ := bxt w (.bool n0) (.string s)
 rw [← hw0]
 clear hw0
 refine (HG.out w0).mono ?_
 rintro e w1 ⟨v1, rfl, r1, b1⟩
 obtain ⟨a1, c1, rfl, -, -⟩ := id r1
 replace k0 := k0.below b1
 replace bb := Below.after bb b1
 clear b1 HG
 go_wp2
 go_loopw [3, 4] (fun nv sv wr => ∃ (m : Nat) (t : List Nat), m ≤ natOf s ∧ sv = .string (strB t) ∧ Rd wr nv (M.digs D32 m) ∧ Hid (dt (natOf s) = dt m ++ t) ∧ Cel wr w.heap.size [.bool n0, .string s] 24 ∧ Below w.heap.size w wr) (fun _ sv _ => (dt (natOf s)).length - strSz sv)
 case atStart => exact ⟨natOf s, [], Nat.le_refl _, rfl, r1, shut (by simp), k0, bb⟩
 case round =>
  clear r1 k0 bb
  obtain ⟨m, t, hm, rfl, rn, HD, kc, bb⟩ := hrel
  obtain ⟨an, cn, rfl, -, -⟩ := id rn
  have hlt : t.length ≤ 1200 := by
   have h1 := dt_size s 400 hs
   rw [HD.out, List.length_append] at h1
   omega
  have hsz : (strB t).size ≤ 1200 := by rw [strB_size]; exact hlt
  by_cases hm0 : m = 0
  ·subst hm0
   have e0 : (M.digs D32 0).length = 0 := rfl
   have c0 := cel2_0' kc
   have HE : Hid (T = t) := by show T = t; rw [HT.out, HD.out, dt_zero]; rfl
   clear rn HD HT
   rw [e0]
   by_cases ht : t = []
   ·subst ht
    have E0 : (strB []) = ⟨#[]⟩ := rfl
    rw [E0]
    go_wp2
    go_ret
    exact ⟨by rw [HTT.out, HE.out]; rfl, bb⟩
   ·have HN := shut ht
    have hne := strB_ne ht
    clear ht e0
    cases n0 with
    | false =>
     go_wp2
     go_ret
     exact ⟨by rw [HTT.out, HE.out, if_neg HN.out]; rfl, bb⟩
    | true =>
     go_wp2
     go_ret
     exact ⟨by rw [HTT.out, HE.out, if_neg HN.out, if_pos trivial, strB_cons]; rfl, bb⟩
  ·have hp : 0 < (M.digs D32 m).length := digs_pos D32_two (by omega)
   have hp' : ((M.digs D32 m).length : Int) > 0 := by omega
   have HDv := shut (fun v0 v1 w r0 r1 => rdiv_dig (X := m) (Y := 10) (K := 200) (by omega) (Nat.lt_of_le_of_lt hm (natOf_lt4 200 (by omega))) ten_lt (by omega) v0 v1 w r0 r1)
   rw [ten_dig, mod_dig] at HDv
   have HDT : Hid (dt (natOf s) = dt (m / 10) ++ ((48 + m % 10) :: t)) := by
    show _ = _
    rw [HD.out, dt_pos (by omega), List.append_assoc]; rfl
   have HSZ : Hid ((dt (natOf s)).length - (strB ((48 + m % 10) :: t)).size < (dt (natOf s)).length - (strB t).size) := by
    show _ < _
    rw [HDT.out, strB_size, strB_size]
    simp
    omega
   have HM : Hid (m / 10 ≤ natOf s) := Nat.le_trans (Nat.div_le_self _ _) hm
   clear HD HT HTT hm
   generalize hq : m / 10 = q at *
   generalize hl : (M.digs D32 m).length = L at *
   generalize hx : m % 10 = x at *
   have hx10 : x < 10 := by omega
   by_cases h0 : x = 0
   ·subst h0
    rw [if_pos rfl] at HDv
    clear hq hx hm0
    go_wp2_with fail
    obtain ⟨w2, hw2⟩ : ∃ w2, w2 = wr.alloc (.cells #[.int .u64 10] 170) := ⟨_, rfl⟩
    have b2 : Below wr.heap.size wr w2 := by rw [hw2]; exact (Below.refl _ _).alloc (Nat.le_refl _) _
    have rP : Rd w2 (.slice (some ⟨wr.heap.size, 0, none⟩) 1 1) [10] := by rw [hw2]; exact rd1 wr rfl 10
    rw [← hw2]
    clear hw2
    refine (HDv.out _ _ w2 (rn.below b2) rP).mono ?_
    rintro e w3 ⟨vq, vr, rfl, rq, rr, b3⟩
    obtain ⟨aq, cq, rfl, -, -⟩ := id rq
    obtain ⟨ar, cr, rfl, -, -⟩ := id rr
    have bx := Below.after b2 b3
    replace kc := kc.below bx
    replace bb := Below.after bb bx
    clear rn HDv bx b2 b3 rP rr hl hp hp'
    have hcv := run_one w3 48
    rw [show ((48 : Nat) : Int) = 48 from rfl] at hcv
    have hs1 : (strB [48]).size ≤ 1 := by rw [strB_size]; exact Nat.le_refl _
    have b4 : Below w3.heap.size w3 (w3.alloc (.cells #[.int .u8 ((48 : Nat) : Int)] 5)) := (Below.refl _ _).alloc (Nat.le_refl _) _
    have R4 := shut (rq.below b4)
    have K4 := shut (kc.below b4)
    have B4 := shut (Below.after bb b4)
    clear rq kc bb b4
    go_wp2
    refine ⟨⟨q, 48 :: t, HM.out, ?_, R4.out, HDT, K4.out, B4.out⟩, ?_⟩
    ·rw [strB_cons 48 t]
    ·have h := HSZ.out
     rw [show 48 + 0 = 48 from rfl, strB_cons 48 t] at h
     exact h
   ·rw [if_neg h0] at HDv
    clear hq hx hm0
    go_wp2_with fail
    obtain ⟨w2, hw2⟩ : ∃ w2, w2 = wr.alloc (.cells #[.int .u64 10] 170) := ⟨_, rfl⟩
    have b2 : Below wr.heap.size wr w2 := by rw [hw2]; exact (Below.refl _ _).alloc (Nat.le_refl _) _
    have rP : Rd w2 (.slice (some ⟨wr.heap.size, 0, none⟩) 1 1) [10] := by rw [hw2]; exact rd1 wr rfl 10
    rw [← hw2]
    clear hw2
    refine (HDv.out _ _ w2 (rn.below b2) rP).mono ?_
    rintro e w3 ⟨vq, vr, rfl, rq, rr, b3⟩
    obtain ⟨aq, cq, rfl, -, -⟩ := id rq
    obtain ⟨ar, cr, rfl, -, hcl⟩ := id rr
    obtain ⟨g, off, rfl, hc0⟩ := hcl 0 (by simp)
    have bx := Below.after b2 b3
    replace kc := kc.below bx
    replace bb := Below.after bb bx
    clear rn HDv bx b2 b3 rP rr hl hp hp' hcl
    have hc1 : w3.cell? ⟨g, off, none⟩ = some (.int .u64 (x : Nat)) := hc0
    have y1 : IntKind.u64.wrap (48 + (x : Int)) = ((48 + x : Nat) : Int) := by simp only [IntKind.wrap_u64]; omega
    have y2 : IntKind.u8.wrap ((48 + x : Nat) : Int) = ((48 + x : Nat) : Int) := by simp only [IntKind.wrap_u8]; omega
    have hcv := run_one w3 (48 + x)
    have b4 : Below w3.heap.size w3 (w3.alloc (.cells #[.int .u8 ((48 + x : Nat) : Int)] 5)) := (Below.refl _ _).alloc (Nat.le_refl _) _
    have R4 := shut (rq.below b4)
    have K4 := shut (kc.below b4)
    have B4 := shut (Below.after bb b4)
    clear rq kc bb b4 hc0
    generalize hD : 48 + x = D at *
    have hs1 : (strB [D]).size ≤ 1 := by rw [strB_size]; exact Nat.le_refl _
    go_wp2
    refine ⟨⟨q, D :: t, HM.out, ?_, R4.out, HDT, K4.out, B4.out⟩, ?_⟩
    ·rw [strB_cons D t]
    ·have h := HSZ.out
     rw [strB_cons D t] at h
     exact h
end
section
open Go.RowKit Go.Shelf
end
end Go.Proofs.YtnplifkgeeicjaaGreatDoor
namespace Go.Proofs.YtnplifkgeeicjaaGreatDoor
section
open Go.RowKit
theorem zI_zero : zI 0 = .agg #[.bool false, .string { data := #[] }] := rfl
end
section
open Go.RowKit Go.Shelf
theorem parse_posbad (s : ByteArray) (w : World) (hn : ¬ (0 < s.size ∧ lm (byts s) 0 = 45)) (h : ¬ NatS (byts s)) :
  Calls Tryz.prog 216 #[.string s] w (Re w (.tuple #[zI 0, .int .i64 4])) := by
 have hp := pfx s
 rw [decide_eq_false hn] at hp
 have HI := shut (fun w => isnat_any s w false (by simp [h]))
 rw [zI_zero]
 have HPx := shut hp
 clear h hn hp
 go_enter Tryz.func216, Tryz.ntmps216
 go_wp2_with fail
 obtain ⟨w0, hw0⟩ : ∃ w0, w0 = (w.alloc (.cells #[.bool false, .string { data := #[] }] 24)).alloc (.cells #[.bool false, .slice none 0 0] 228) := ⟨_, rfl⟩
 have k0 : Cel w0 w.heap.size [.bool false, .string { data := #[] }] 24 := by rw [hw0]; exact (Cel.new w _ _).alloc _
 have k1 : Cel w0 (w.heap.size + 1) [.bool false, .slice none 0 0] 228 := by
  rw [hw0]
  have := Cel.new (w.alloc (.cells #[.bool false, .string { data := #[] }] 24)) [.bool false, .slice none 0 0] 228
  simpa using this
 have hb0 : Below w.heap.size w w0 := by rw [hw0]; go_grown
 rw [← hw0]
 clear hw0
 refine (strings_HasPrefix _ _ w0).mono ?_
 rintro e w1 ⟨rfl, hw⟩
 subst hw
 rw [HPx.out]
 go_wp2_with fail
 refine (HI.out w1).mono ?_
 rintro e w2 ⟨rfl, b2⟩
 replace k0 := k0.below b2
 replace hb0 := Below.after hb0 b2
 clear b2
 obtain ⟨g0, g1⟩ := xk2 k0
 have q0 := k0.frozen 0
 have q1 := k0.frozen 1
 go_wp2
 exact post_z1 (p := 2) (u := 3) (by kernel_rfl) rfl rfl rfl ((k0.set 0 _).set 1 _) ⟨rfl, (hb0.setCell (by simp) _).setCell (by simp) _⟩
theorem parse_negbad (s : ByteArray) (w : World) (hn : 0 < s.size ∧ lm (byts s) 0 = 45) (h0 : s ≠ ⟨#[45, 48]⟩) (h : ¬ NatS (byts (s.extract 1 s.size))) :
  Calls Tryz.prog 216 #[.string s] w (Re w (.tuple #[zI 0, .int .i64 4])) := by
 have hp := pfx s
 rw [decide_eq_true hn] at hp
 have hs1 : ¬ (s.size : Int) < 1 := by omega
 have hs2 : 1 ≤ s.size := by omega
 have hne := ne_m0 h0
 have hne' : ¬ s.toList = [45, 48] := by simpa using hne
 obtain ⟨t, ht⟩ : ∃ t, t = s.extract 1 s.size := ⟨_, rfl⟩
 rw [← ht] at h
 have HI := shut (fun w => isnat_any t w false (by simp [h]))
 rw [zI_zero]
 have HPx := shut hp
 have HTT := shut ht
 clear h hp ht
 go_enter Tryz.func216, Tryz.ntmps216
 go_wp2_with fail
 obtain ⟨w0, hw0⟩ : ∃ w0, w0 = (w.alloc (.cells #[.bool false, .string { data := #[] }] 24)).alloc (.cells #[.bool false, .slice none 0 0] 228) := ⟨_, rfl⟩
 have k0 : Cel w0 w.heap.size [.bool false, .string { data := #[] }] 24 := by rw [hw0]; exact (Cel.new w _ _).alloc _
 have k1 : Cel w0 (w.heap.size + 1) [.bool false, .slice none 0 0] 228 := by
  rw [hw0]
  have := Cel.new (w.alloc (.cells #[.bool false, .string { data := #[] }] 24)) [.bool false, .slice none 0 0] 228
  simpa using this
 have hb0 : Below w.heap.size w w0 := by rw [hw0]; go_grown
 rw [← hw0]
 clear hw0
 refine (strings_HasPrefix _ _ w0).mono ?_
 rintro e w1 ⟨rfl, hw⟩
 subst hw
 rw [HPx.out]
 have c0 := cel2_0' k1
 have f0 := k1.frozen 0
 go_wp2_with fail
 rw [← HTT.out]
 obtain ⟨wa, hwa⟩ : ∃ wa, wa = w1.setCell ⟨w.heap.size + 1, 0, none⟩ (.bool true) := ⟨_, rfl⟩
 have k0' : Cel wa w.heap.size [.bool false, .string { data := #[] }] 24 := by rw [hwa]; exact k0.other (by omega) _ _
 have k1' : Cel wa (w.heap.size + 1) [.bool true, .slice none 0 0] 228 := by rw [hwa]; exact k1.set 0 _
 have hb0' : Below w.heap.size w wa := by rw [hwa]; exact hb0.setCell (by simp) _
 rw [← hwa]
 clear hwa c0 f0 k0 k1 hb0
 have k0 := k0'
 have k1 := k1'
 have hb0 := hb0'
 clear k0' k1' hb0'
 refine (HI.out wa).mono ?_
 rintro e w2 ⟨rfl, b2⟩
 replace k0 := k0.below b2
 replace hb0 := Below.after hb0 b2
 clear b2
 obtain ⟨g0, g1⟩ := xk2 k0
 have q0 := k0.frozen 0
 have q1 := k0.frozen 1
 go_wp2
 exact post_z1 (p := 2) (u := 3) (by kernel_rfl) rfl rfl rfl ((k0.set 0 _).set 1 _) ⟨rfl, (hb0.setCell (by simp) _).setCell (by simp) _⟩
end
section
open Go.RowKit Go.Shelf
theorem rmul_ten {D : Nat} (hD : D < D32 ^ 8) (v0 v1 : Value) (w : World) (r0 : Rd w v0 (M.digs D32 D)) (r1 : Rd w v1 [10]) :
  Calls Tryz.prog 135 #[v0, v1] w fun e w' => ∃ v, e = .returned v ∧ Rd w' v (M.digs D32 (10 * D)) ∧ Below w.heap.size w w' := by
 have := rmul_any v0 v1 _ _ w r0 r1 (M.Low.digs D32_two _) (low_of_all (by decide)) (Nat.le_trans (dlen hD) (by omega)) (by simp)
 rwa [M.val_digs D32_two, show M.val D32 [10] = 10 from by rw [M.val_cons, M.val_nil]; omega, Nat.mul_comm] at this
theorem radd_small {D x : Nat} (hD : D < D32 ^ 9) (hx : x < 10) (v0 v1 : Value) (w : World) (r0 : Rd w v0 (M.digs D32 D)) (r1 : Rd w v1 [x]) :
  Calls Tryz.prog 141 #[v0, v1] w fun e w' => ∃ v, e = .returned v ∧ Rd w' v (M.digs D32 (D + x)) ∧ Below w.heap.size w w' := by
 have := radd_any v0 v1 _ _ w r0 r1 (M.Low.digs D32_two _) (low_of_all (by simp; unfold D32; omega)) (Nat.le_trans (dlen hD) (by omega)) (by simp)
 rwa [M.val_digs D32_two, show M.val D32 [x] = x from by rw [M.val_cons, M.val_nil]; omega] at this
theorem dec_lt8 {b : List Nat} {k : Nat} (hk : k ≤ 60) (h : ∀ j, j < k → lm b j ≤ 57) : decTo b k < D32 ^ 8 := by
 have l := decTo_lt (b := b) k h
 have l2 : 10 ^ k ≤ 10 ^ 60 := Nat.pow_le_pow_right (by omega) hk
 exact Nat.lt_of_lt_of_le l (Nat.le_trans l2 (by unfold D32; decide))
theorem lt9 {D : Nat} (h : D < D32 ^ 8) : 10 * D < D32 ^ 9 := by
 have e : D32 ^ 9 = D32 ^ 8 * D32 := Nat.pow_succ ..
 rw [e]
 generalize D32 ^ 8 = p at *
 unfold D32
 omega
theorem rparse_pos (s : ByteArray) (w : World) (hn : ¬ (0 < s.size ∧ lm (byts s) 0 = 45)) (h1 : 1 ≤ s.size) (h2 : s.size ≤ 60) (h3 : lm (byts s) 0 = 48 → s.size ≤ 1) (r : Bool) (hr : r = true ↔ ∀ j, j < s.size → 48 ≤ lm (byts s) j ∧ lm (byts s) j ≤ 57) :
  Calls Tryz.prog 187 #[.string s] w (Re w (.tuple #[zI (if r then sgn false (decTo (byts s) s.size) else 0), .int .i64 (if r then 0 else 4)])) := by
 obtain ⟨ZR, hZR⟩ : ∃ Z, Z = zI (if r then sgn false (decTo (byts s) s.size) else 0) := ⟨_, rfl⟩
 obtain ⟨ER, hER⟩ : ∃ E : Int, E = if r then 0 else 4 := ⟨_, rfl⟩
 rw [← hZR, ← hER]
 have HZR := shut hZR
 have HER := shut hER
 clear hZR hER
 have HR := shut hr
 have h4 : r = true → decTo (byts s) s.size < D32 ^ 8 := fun h => dec_lt8 h2 (fun j hj => (hr.1 h j hj).2)
 have HM := shut (fun (h : r = true) v w hv => make0_val false (K := 8) (by omega) (h4 h) v w hv)
 clear hr h4
 have g0 : ¬ (s.size : Int) < 1 := by omega
 have g1 : ¬ (s.size : Int) > 60 := by omega
 have hs : 0 < s.size := by omega
 have p1 : ¬ (s[0]).toNat = 45 := fun h => hn ⟨hs, by rw [← byts_at s 0 hs]; exact h⟩
 have p2 : ¬ ((s[0]).toNat : Int) = 45 := by omega
 have p3 : ¬ s[0] = 45 := fun h => p1 (by rw [h]; rfl)
 clear hn
 have hz : (((s[0]).toNat : Int) = 48 ∧ s[0] = 48 ∧ ¬ (s.size : Int) > 1) ∨ (¬ ((s[0]).toNat : Int) = 48 ∧ ¬ s[0] = 48) := by
  by_cases g2 : lm (byts s) 0 = 48
  ·have g3 := h3 g2
   have k3 : (s[0]).toNat = 48 := by rw [byts_at s 0 hs, g2]
   exact Or.inl ⟨by omega, UInt8.toNat.inj k3, by omega⟩
  ·have k1 : ¬ ((s[0]).toNat : Int) = 48 := by rw [byts_at s 0 hs]; omega
   exact Or.inr ⟨k1, fun h => k1 (by rw [h]; rfl)⟩
 clear h3
 rcases hz with ⟨z1, z2, z3⟩ | ⟨z1, z2⟩ <;>
 ·go_enter Tryz.func187, Tryz.ntmps187
  go_wp2
  obtain ⟨w0, hw0⟩ : ∃ w0, w0 = w.alloc (.cells #[.bool false, .string { data := #[] }] 24) := ⟨_, rfl⟩
  have k0 : Cel w0 w.heap.size [.bool false, .string { data := #[] }] 24 := by rw [hw0]; exact Cel.new w _ _
  have hb0 : Below w.heap.size w w0 := by rw [hw0]; exact (Below.refl _ _).alloc (Nat.le_refl _) _
  rw [← hw0]
  clear hw0
  go_loopw [6, 7] (fun nv i wr => ∃ k : Nat, k ≤ s.size ∧ i = .int .i64 (k : Nat) ∧ Rd wr nv (M.digs D32 (decTo (byts s) k)) ∧ Hid (∀ j, j < k → 48 ≤ lm (byts s) j ∧ lm (byts s) j ≤ 57) ∧ Cel wr w.heap.size [.bool false, .string { data := #[] }] 24 ∧ Below w.heap.size w wr) (fun _ i _ => s.size - (intOf i).toNat)
  case atStart => exact ⟨0, Nat.zero_le _, rfl, rd_none _, fun j hj => absurd hj (Nat.not_lt_zero _), k0, hb0⟩
  case round =>
   clear k0 hb0
   obtain ⟨k, hk, rfl, rn, HA, kc, bb⟩ := hrel
   obtain ⟨an, cn, rfl, -, -⟩ := id rn
   by_cases hlt : k < s.size
   ·have hlt' : (k : Int) < (s.size : Int) := by omega
    have a1 := byts_at s k hlt
    by_cases hok : 48 ≤ lm (byts s) k ∧ lm (byts s) k ≤ 57
    ·have HN : Hid (∀ j, j < k + 1 → 48 ≤ lm (byts s) j ∧ lm (byts s) j ≤ 57) := fun j hj => by
      by_cases e : j = k
      ·rw [e]; exact hok
      ·exact HA.out j (by omega)
     have hD8 := dec_lt8 (b := byts s) (k := k) (by omega) (fun j hj => (HA.out j hj).2)
     have HMul := shut (fun v0 v1 w r0 r1 => rmul_ten hD8 v0 v1 w r0 r1)
     obtain ⟨x, hx⟩ : ∃ x, x = lm (byts s) k := ⟨_, rfl⟩
     rw [← hx] at hok a1
     obtain ⟨hx1, hx2⟩ := hok
     have hde : decTo (byts s) (k + 1) = 10 * decTo (byts s) k + (x - 48) := by rw [hx]; rfl
     have HAdd := shut (fun v0 v1 w r0 r1 => radd_small (D := 10 * decTo (byts s) k) (x := x - 48) (lt9 hD8) (by omega) v0 v1 w r0 r1)
     rw [← hde] at HAdd
     have HDE := shut hde
     clear hde hx hD8
     have y1 : ¬ (x : Int) < 48 := by omega
     have y2 : ¬ (x : Int) > 57 := by omega
     generalize hdk : decTo (byts s) k = D at *
     generalize hdk1 : decTo (byts s) (k + 1) = D1 at *
     have HD1 := shut hdk1
     clear hdk hdk1 HA HR HM
     by_cases hx0 : x = 48
     ·have y3 : ¬ (x : Int) > 48 := by omega
      have e1 : 10 * D = D1 := by have := HDE.out; omega
      rw [e1] at HMul
      clear HAdd HDE
      go_wp2_with fail
      obtain ⟨w2, hw2⟩ : ∃ w2, w2 = wr.alloc (.cells #[.int .u64 10] 170) := ⟨_, rfl⟩
      have b2 : Below wr.heap.size wr w2 := by rw [hw2]; exact (Below.refl _ _).alloc (Nat.le_refl _) _
      have rP : Rd w2 (.slice (some ⟨wr.heap.size, 0, none⟩) 1 1) [10] := by rw [hw2]; exact rd1 wr rfl 10
      rw [← hw2]
      clear hw2
      refine (HMul.out _ _ w2 (rn.below b2) rP).mono ?_
      rintro e w3 ⟨v3, rfl, r3, b3⟩
      obtain ⟨a3, c3, rfl, -, -⟩ := id r3
      have bx := Below.after b2 b3
      replace kc := kc.below bx
      replace bb := Below.after bb bx
      clear rn HMul bx b2 b3 rP
      have R3 : Hid (Rd w3 (.slice a3 (M.digs D32 D1).length c3) (M.digs D32 (decTo (byts s) (k + 1)))) := by
       show Rd _ _ _
       rw [HD1.out]; exact r3
      clear r3 HD1
      go_wp2
      exact ⟨⟨k + 1, by omega, by go_num, R3.out, HN, kc, bb⟩, by simp [intOf]; omega⟩
     ·have y3 : (x : Int) > 48 := by omega
      have y4 : IntKind.u8.wrap ((x : Int) - 48) = ((x - 48 : Nat) : Int) := by simp only [IntKind.wrap_u8]; omega
      have y5 : IntKind.u64.wrap ((x - 48 : Nat) : Int) = ((x - 48 : Nat) : Int) := by simp only [IntKind.wrap_u64]; omega
      obtain ⟨X, hX⟩ : ∃ X, X = x - 48 := ⟨_, rfl⟩
      rw [← hX] at y4 y5 HAdd
      clear hX HDE
      go_wp2_with fail
      obtain ⟨w2, hw2⟩ : ∃ w2, w2 = wr.alloc (.cells #[.int .u64 10] 170) := ⟨_, rfl⟩
      have b2 : Below wr.heap.size wr w2 := by rw [hw2]; exact (Below.refl _ _).alloc (Nat.le_refl _) _
      have rP : Rd w2 (.slice (some ⟨wr.heap.size, 0, none⟩) 1 1) [10] := by rw [hw2]; exact rd1 wr rfl 10
      rw [← hw2]
      clear hw2
      refine (HMul.out _ _ w2 (rn.below b2) rP).mono ?_
      rintro e w3 ⟨v3, rfl, r3, b3⟩
      obtain ⟨a3, c3, rfl, -, -⟩ := id r3
      have bx := Below.after b2 b3
      replace kc := kc.below bx
      replace bb := Below.after bb bx
      clear rn HMul bx b2 b3 rP
      go_wp2_with fail
      obtain ⟨w4, hw4⟩ : ∃ w4, w4 = w3.alloc (.cells #[.int .u64 (X : Nat)] 170) := ⟨_, rfl⟩
      have b4 : Below w3.heap.size w3 w4 := by rw [hw4]; exact (Below.refl _ _).alloc (Nat.le_refl _) _
      have rV : Rd w4 (.slice (some ⟨w3.heap.size, 0, none⟩) 1 1) [X] := by rw [hw4]; exact rd1 w3 rfl X
      rw [← hw4]
      clear hw4
      refine (HAdd.out _ _ w4 (r3.below b4) rV).mono ?_
      rintro e w5 ⟨v5, rfl, r5, b5⟩
      obtain ⟨a5, c5, rfl, -, -⟩ := id r5
      have by1 := Below.after b4 b5
      replace kc := kc.below by1
      replace bb := Below.after bb by1
      clear r3 HAdd by1 b4 b5 rV
      have R5 : Hid (Rd w5 (.slice a5 (M.digs D32 D1).length c5) (M.digs D32 (decTo (byts s) (k + 1)))) := by
       show Rd _ _ _
       rw [HD1.out]; exact r5
      clear r5 HD1
      go_wp2
      exact ⟨⟨k + 1, by omega, by go_num, R5.out, HN, kc, bb⟩, by simp [intOf]; omega⟩
    ·have hrf : r = false := by
      cases hr : r with
      | false => rfl
      | true => exact absurd (HR.out.1 hr k hlt) hok
     have HRF := shut hrf
     obtain ⟨x, hx⟩ : ∃ x, x = lm (byts s) k := ⟨_, rfl⟩
     rw [← hx] at hok a1
     clear HA HR HM hx rn hrf
     obtain ⟨c0, c1⟩ := xk2 kc
     have f0 := kc.frozen 0
     have f1 := kc.frozen 1
     by_cases y1 : x < 48
     ·have y1' : (x : Int) < 48 := by omega
      go_wp2
      exact post_z1 (p := 2) (u := 3) (by kernel_rfl) rfl rfl rfl ((kc.set 0 _).set 1 _) ⟨by rw [HZR.out, HER.out, HRF.out]; rfl, (bb.setCell (by simp) _).setCell (by simp) _⟩
     ·have y1' : ¬ (x : Int) < 48 := by omega
      have y2' : (x : Int) > 57 := by omega
      go_wp2
      exact post_z1 (p := 2) (u := 3) (by kernel_rfl) rfl rfl rfl ((kc.set 0 _).set 1 _) ⟨by rw [HZR.out, HER.out, HRF.out]; rfl, (bb.setCell (by simp) _).setCell (by simp) _⟩
   ·have hke : k = s.size := by omega
    have hrt : r = true := HR.out.2 (fun j hj => HA.out j (by omega))
    rw [hke] at rn
    have HK := shut (HM.out hrt _ wr rn)
    have HRT := shut hrt
    subst hke
    clear HA HR HM hrt rn
    generalize hRR : zI (sgn false (decTo (byts s) s.size)) = RR at *
    obtain ⟨za, zb, rfl⟩ : ∃ a b, RR = .agg #[.bool a, .string b] := ⟨_, _, hRR.symm⟩
    have HRR := shut hRR
    clear hRR
    go_wp2_with fail
    refine HK.out.mono ?_
    rintro e w6 ⟨rfl, b6⟩
    replace kc := kc.below b6
    replace bb := Below.after bb b6
    obtain ⟨c0, c1⟩ := xk2 kc
    have f0 := kc.frozen 0
    have f1 := kc.frozen 1
    go_wp2
    exact post_z1 (p := 2) (u := 3) (by kernel_rfl) rfl rfl rfl ((kc.set 0 _).set 1 _) ⟨by rw [HZR.out, HER.out, if_pos HRT.out, if_pos HRT.out, HRR.out]; rfl, (bb.setCell (by simp) _).setCell (by simp) _⟩
end
section
open Go.RowKit Go.Shelf
theorem rparse_neg (s : ByteArray) (w : World) (hn : 0 < s.size ∧ lm (byts s) 0 = 45) (t : ByteArray) (ht : s.extract 1 s.size = t) (h1 : 1 ≤ t.size) (h2 : t.size ≤ 60) (h3 : lm (byts t) 0 = 48 → False) (r : Bool) (hr : r = true ↔ ∀ j, j < t.size → 48 ≤ lm (byts t) j ∧ lm (byts t) j ≤ 57) :
  Calls Tryz.prog 187 #[.string s] w (Re w (.tuple #[zI (if r then sgn true (decTo (byts t) t.size) else 0), .int .i64 (if r then 0 else 4)])) := by
 obtain ⟨ZR, hZR⟩ : ∃ Z, Z = zI (if r then sgn true (decTo (byts t) t.size) else 0) := ⟨_, rfl⟩
 obtain ⟨ER, hER⟩ : ∃ E : Int, E = if r then 0 else 4 := ⟨_, rfl⟩
 rw [← hZR, ← hER]
 have HZR := shut hZR
 have HER := shut hER
 clear hZR hER
 have HR := shut hr
 have h4 : r = true → decTo (byts t) t.size < D32 ^ 8 := fun h => dec_lt8 h2 (fun j hj => (hr.1 h j hj).2)
 have HM := shut (fun (h : r = true) v w hv => make0_val true (K := 8) (by omega) (h4 h) v w hv)
 clear hr h4
 have g0 : ¬ (t.size : Int) < 1 := by omega
 have g1 : ¬ (t.size : Int) > 60 := by omega
 have hs : 0 < t.size := by omega
 obtain ⟨p0, hn2⟩ := hn
 have p1 : (s[0]).toNat = 45 := by rw [byts_at s 0 p0]; exact hn2
 have p2 : ((s[0]).toNat : Int) = 45 := by omega
 have p3 : s[0] = 45 := UInt8.toNat.inj p1
 have p5 : 1 ≤ s.size := p0
 have p6 : s.size - 1 = t.size := by rw [← ht, ByteArray.size_extract]; omega
 have k0 : ¬ lm (byts t) 0 = 48 := h3
 have k1 : ¬ ((t[0]).toNat : Int) = 48 := by rw [byts_at t 0 hs]; omega
 have k2 : ¬ t[0] = 48 := fun h => k1 (by rw [h]; rfl)
 clear h3 k0 hn2
 go_enter Tryz.func187, Tryz.ntmps187
 go_wp2
 obtain ⟨w0, hw0⟩ : ∃ w0, w0 = w.alloc (.cells #[.bool false, .string { data := #[] }] 24) := ⟨_, rfl⟩
 have k0 : Cel w0 w.heap.size [.bool false, .string { data := #[] }] 24 := by rw [hw0]; exact Cel.new w _ _
 have hb0 : Below w.heap.size w w0 := by rw [hw0]; exact (Below.refl _ _).alloc (Nat.le_refl _) _
 rw [← hw0]
 clear hw0
 go_loopw [6, 7] (fun nv i wr => ∃ k : Nat, k ≤ t.size ∧ i = .int .i64 (k : Nat) ∧ Rd wr nv (M.digs D32 (decTo (byts t) k)) ∧ Hid (∀ j, j < k → 48 ≤ lm (byts t) j ∧ lm (byts t) j ≤ 57) ∧ Cel wr w.heap.size [.bool false, .string { data := #[] }] 24 ∧ Below w.heap.size w wr) (fun _ i _ => t.size - (intOf i).toNat)
 case atStart => exact ⟨0, Nat.zero_le _, rfl, rd_none _, fun j hj => absurd hj (Nat.not_lt_zero _), k0, hb0⟩
 case round =>
  clear k0 hb0
  obtain ⟨k, hk, rfl, rn, HA, kc, bb⟩ := hrel
  obtain ⟨an, cn, rfl, -, -⟩ := id rn
  by_cases hlt : k < t.size
  ·have hlt' : (k : Int) < (t.size : Int) := by omega
   have a1 := byts_at t k hlt
   by_cases hok : 48 ≤ lm (byts t) k ∧ lm (byts t) k ≤ 57
   ·have HN : Hid (∀ j, j < k + 1 → 48 ≤ lm (byts t) j ∧ lm (byts t) j ≤ 57) := fun j hj => by
     by_cases e : j = k
     ·rw [e]; exact hok
     ·exact HA.out j (by omega)
    have hD8 := dec_lt8 (b := byts t) (k := k) (by omega) (fun j hj => (HA.out j hj).2)
    have HMul := shut (fun v0 v1 w r0 r1 => rmul_ten hD8 v0 v1 w r0 r1)
    obtain ⟨x, hx⟩ : ∃ x, x = lm (byts t) k := ⟨_, rfl⟩
    rw [← hx] at hok a1
    obtain ⟨hx1, hx2⟩ := hok
    have hde : decTo (byts t) (k + 1) = 10 * decTo (byts t) k + (x - 48) := by rw [hx]; rfl
    have HAdd := shut (fun v0 v1 w r0 r1 => radd_small (D := 10 * decTo (byts t) k) (x := x - 48) (lt9 hD8) (by omega) v0 v1 w r0 r1)
    rw [← hde] at HAdd
    have HDE := shut hde
    clear hde hx hD8
    have y1 : ¬ (x : Int) < 48 := by omega
    have y2 : ¬ (x : Int) > 57 := by omega
    generalize hdk : decTo (byts t) k = D at *
    generalize hdk1 : decTo (byts t) (k + 1) = D1 at *
    have HD1 := shut hdk1
    clear hdk hdk1 HA HR HM
    by_cases hx0 : x = 48
    ·have y3 : ¬ (x : Int) > 48 := by omega
     have e1 : 10 * D = D1 := by have := HDE.out; omega
     rw [e1] at HMul
     clear HAdd HDE
     go_wp2_with fail
     obtain ⟨w2, hw2⟩ : ∃ w2, w2 = wr.alloc (.cells #[.int .u64 10] 170) := ⟨_, rfl⟩
     have b2 : Below wr.heap.size wr w2 := by rw [hw2]; exact (Below.refl _ _).alloc (Nat.le_refl _) _
     have rP : Rd w2 (.slice (some ⟨wr.heap.size, 0, none⟩) 1 1) [10] := by rw [hw2]; exact rd1 wr rfl 10
     rw [← hw2]
     clear hw2
     refine (HMul.out _ _ w2 (rn.below b2) rP).mono ?_
     rintro e w3 ⟨v3, rfl, r3, b3⟩
     obtain ⟨a3, c3, rfl, -, -⟩ := id r3
     have bx := Below.after b2 b3
     replace kc := kc.below bx
     replace bb := Below.after bb bx
     clear rn HMul bx b2 b3 rP
     have R3 : Hid (Rd w3 (.slice a3 (M.digs D32 D1).length c3) (M.digs D32 (decTo (byts t) (k + 1)))) := by
      show Rd _ _ _
      rw [HD1.out]; exact r3
     clear r3 HD1
     go_wp2
     exact ⟨⟨k + 1, by omega, by go_num, R3.out, HN, kc, bb⟩, by simp [intOf]; omega⟩
    ·have y3 : (x : Int) > 48 := by omega
     have y4 : IntKind.u8.wrap ((x : Int) - 48) = ((x - 48 : Nat) : Int) := by simp only [IntKind.wrap_u8]; omega
     have y5 : IntKind.u64.wrap ((x - 48 : Nat) : Int) = ((x - 48 : Nat) : Int) := by simp only [IntKind.wrap_u64]; omega
     obtain ⟨X, hX⟩ : ∃ X, X = x - 48 := ⟨_, rfl⟩
     rw [← hX] at y4 y5 HAdd
     clear hX HDE
     go_wp2_with fail
     obtain ⟨w2, hw2⟩ : ∃ w2, w2 = wr.alloc (.cells #[.int .u64 10] 170) := ⟨_, rfl⟩
     have b2 : Below wr.heap.size wr w2 := by rw [hw2]; exact (Below.refl _ _).alloc (Nat.le_refl _) _
     have rP : Rd w2 (.slice (some ⟨wr.heap.size, 0, none⟩) 1 1) [10] := by rw [hw2]; exact rd1 wr rfl 10
     rw [← hw2]
     clear hw2
     refine (HMul.out _ _ w2 (rn.below b2) rP).mono ?_
     rintro e w3 ⟨v3, rfl, r3, b3⟩
     obtain ⟨a3, c3, rfl, -, -⟩ := id r3
     have bx := Below.after b2 b3
     replace kc := kc.below bx
     replace bb := Below.after bb bx
     clear rn HMul bx b2 b3 rP
     go_wp2_with fail
     obtain ⟨w4, hw4⟩ : ∃ w4, w4 = w3.alloc (.cells #[.int .u64 (X : Nat)] 170) := ⟨_, rfl⟩
     have b4 : Below w3.heap.size w3 w4 := by rw [hw4]; exact (Below.refl _ _).alloc (Nat.le_refl _) _
     have rV : Rd w4 (.slice (some ⟨w3.heap.size, 0, none⟩) 1 1) [X] := by rw [hw4]; exact rd1 w3 rfl X
     rw [← hw4]
     clear hw4
     refine (HAdd.out _ _ w4 (r3.below b4) rV).mono ?_
     rintro e w5 ⟨v5, rfl, r5, b5⟩
     obtain ⟨a5, c5, rfl, -, -⟩ := id r5
     have by1 := Below.after b4 b5
     replace kc := kc.below by1
     replace bb := Below.after bb by1
     clear r3 HAdd by1 b4 b5 rV
     have R5 : Hid (Rd w5 (.slice a5 (M.digs D32 D1).length c5) (M.digs D32 (decTo (byts t) (k + 1)))) := by
      show Rd _ _ _
      rw [HD1.out]; exact r5
     clear r5 HD1
     go_wp2
     exact ⟨⟨k + 1, by omega, by go_num, R5.out, HN, kc, bb⟩, by simp [intOf]; omega⟩
   ·have hrf : r = false := by
     cases hr : r with
     | false => rfl
     | true => exact absurd (HR.out.1 hr k hlt) hok
    have HRF := shut hrf
    obtain ⟨x, hx⟩ : ∃ x, x = lm (byts t) k := ⟨_, rfl⟩
    rw [← hx] at hok a1
    clear HA HR HM hx rn hrf
    obtain ⟨c0, c1⟩ := xk2 kc
    have f0 := kc.frozen 0
    have f1 := kc.frozen 1
    by_cases y1 : x < 48
    ·have y1' : (x : Int) < 48 := by omega
     go_wp2
     exact post_z1 (p := 2) (u := 3) (by kernel_rfl) rfl rfl rfl ((kc.set 0 _).set 1 _) ⟨by rw [HZR.out, HER.out, HRF.out]; rfl, (bb.setCell (by simp) _).setCell (by simp) _⟩
    ·have y1' : ¬ (x : Int) < 48 := by omega
     have y2' : (x : Int) > 57 := by omega
     go_wp2
     exact post_z1 (p := 2) (u := 3) (by kernel_rfl) rfl rfl rfl ((kc.set 0 _).set 1 _) ⟨by rw [HZR.out, HER.out, HRF.out]; rfl, (bb.setCell (by simp) _).setCell (by simp) _⟩
  ·have hke : k = t.size := by omega
   have hrt : r = true := HR.out.2 (fun j hj => HA.out j (by omega))
   rw [hke] at rn
   have HK := shut (HM.out hrt _ wr rn)
   have HRT := shut hrt
   subst hke
   clear HA HR HM hrt rn
   generalize hRR : zI (sgn true (decTo (byts t) t.size)) = RR at *
   obtain ⟨za, zb, rfl⟩ : ∃ a b, RR = .agg #[.bool a, .string b] := ⟨_, _, hRR.symm⟩
   have HRR := shut hRR
   clear hRR
   go_wp2_with fail
   refine HK.out.mono ?_
   rintro e w6 ⟨rfl, b6⟩
   replace kc := kc.below b6
   replace bb := Below.after bb b6
   obtain ⟨c0, c1⟩ := xk2 kc
   have f0 := kc.frozen 0
   have f1 := kc.frozen 1
   go_wp2
   exact post_z1 (p := 2) (u := 3) (by kernel_rfl) rfl rfl rfl ((kc.set 0 _).set 1 _) ⟨by rw [HZR.out, HER.out, if_pos HRT.out, if_pos HRT.out, HRR.out]; rfl, (bb.setCell (by simp) _).setCell (by simp) _⟩
end
section
open Go.RowKit Go.Shelf
theorem rpbad_pos (s : ByteArray) (w : World) (hn : ¬ (0 < s.size ∧ lm (byts s) 0 = 45)) (hb : s.size < 1 ∨ 60 < s.size ∨ (lm (byts s) 0 = 48 ∧ 1 < s.size)) :
  Calls Tryz.prog 187 #[.string s] w (Re w (.tuple #[zI 0, .int .i64 4])) := by
 by_cases h0 : s.size < 1
 ·obtain rfl : s = ⟨#[]⟩ := by
   obtain ⟨⟨l⟩⟩ := s
   cases l with
   | nil => rfl
   | cons x l => exact absurd h0 (by simp [ByteArray.size])
  clear hn hb h0
  go_enter Tryz.func187, Tryz.ntmps187
  go_wp2
  exact post_z1 (p := 2) (u := 3) (by kernel_rfl) rfl rfl rfl (Cel.new w _ _) ⟨rfl, (Below.refl _ _).alloc (Nat.le_refl _) _⟩
 have hs : 0 < s.size := by omega
 have p1 : ¬ (s[0]).toNat = 45 := fun h => hn ⟨hs, by rw [← byts_at s 0 hs]; exact h⟩
 have p2 : ¬ ((s[0]).toNat : Int) = 45 := by omega
 have p3 : ¬ s[0] = 45 := fun h => p1 (by rw [h]; rfl)
 have g0 : ¬ (s.size : Int) < 1 := by omega
 clear hn
 by_cases h1 : 60 < s.size
 ·have g1 : (s.size : Int) > 60 := by omega
  clear hb h0 h1
  go_enter Tryz.func187, Tryz.ntmps187
  go_wp2
  exact post_z1 (p := 2) (u := 3) (by kernel_rfl) rfl rfl rfl (Cel.new w _ _) ⟨rfl, (Below.refl _ _).alloc (Nat.le_refl _) _⟩
 ·have g1 : ¬ (s.size : Int) > 60 := by omega
  have h2 : lm (byts s) 0 = 48 ∧ 1 < s.size := by omega
  have k3 : (s[0]).toNat = 48 := by rw [byts_at s 0 hs, h2.1]
  have z1 : ((s[0]).toNat : Int) = 48 := by omega
  have z2 : s[0] = 48 := UInt8.toNat.inj k3
  have z3 : (s.size : Int) > 1 := by omega
  clear hb h0 h1 h2 k3
  go_enter Tryz.func187, Tryz.ntmps187
  go_wp2
  exact post_z1 (p := 2) (u := 3) (by kernel_rfl) rfl rfl rfl (Cel.new w _ _) ⟨rfl, (Below.refl _ _).alloc (Nat.le_refl _) _⟩
theorem rpbad_neg (s : ByteArray) (w : World) (hn : 0 < s.size ∧ lm (byts s) 0 = 45) (t : ByteArray) (ht : s.extract 1 s.size = t) (hb : t.size < 1 ∨ 60 < t.size ∨ lm (byts t) 0 = 48) :
  Calls Tryz.prog 187 #[.string s] w (Re w (.tuple #[zI 0, .int .i64 4])) := by
 obtain ⟨p0, hn2⟩ := hn
 have p1 : (s[0]).toNat = 45 := by rw [byts_at s 0 p0]; exact hn2
 have p2 : ((s[0]).toNat : Int) = 45 := by omega
 have p3 : s[0] = 45 := UInt8.toNat.inj p1
 have p5 : 1 ≤ s.size := p0
 have p6 : s.size - 1 = t.size := by rw [← ht, ByteArray.size_extract]; omega
 clear hn2
 by_cases h0 : t.size < 1
 ·have p7 : s.size = 1 := by omega
  obtain rfl : s = ⟨#[45]⟩ := by
   obtain ⟨⟨l⟩⟩ := s
   cases l with
   | nil => exact absurd p7 (by simp [ByteArray.size])
   | cons x l => cases l with
    | nil => exact congrArg (fun x => ByteArray.mk #[x]) (show x = 45 from p3)
    | cons y l => exact absurd p7 (by simp [ByteArray.size])
  clear hb h0 ht p0 p1 p2 p3 p5 p6 p7
  go_enter Tryz.func187, Tryz.ntmps187
  go_wp2
  exact post_z1 (p := 2) (u := 3) (by kernel_rfl) rfl rfl rfl (Cel.new w _ _) ⟨rfl, (Below.refl _ _).alloc (Nat.le_refl _) _⟩
 have hs : 0 < t.size := by omega
 have g0 : ¬ (t.size : Int) < 1 := by omega
 by_cases h1 : 60 < t.size
 ·have g1 : (t.size : Int) > 60 := by omega
  clear hb h0 h1
  go_enter Tryz.func187, Tryz.ntmps187
  go_wp2
  exact post_z1 (p := 2) (u := 3) (by kernel_rfl) rfl rfl rfl (Cel.new w _ _) ⟨rfl, (Below.refl _ _).alloc (Nat.le_refl _) _⟩
 ·have g1 : ¬ (t.size : Int) > 60 := by omega
  have h2 : lm (byts t) 0 = 48 := by omega
  have k3 : (t[0]).toNat = 48 := by rw [byts_at t 0 hs, h2]
  have z1 : ((t[0]).toNat : Int) = 48 := by omega
  have z2 : t[0] = 48 := UInt8.toNat.inj k3
  clear hb h0 h1 h2 k3
  go_enter Tryz.func187, Tryz.ntmps187
  go_wp2
  all_goals exact post_z1 (p := 2) (u := 3) (by kernel_rfl) rfl rfl rfl (Cel.new w _ _) ⟨rfl, (Below.refl _ _).alloc (Nat.le_refl _) _⟩
end
section
open Go.RowKit Go.Shelf
theorem parse_m0 (w : World) :
  Calls Tryz.prog 216 #[.string ⟨#[45, 48]⟩] w (Re w (.tuple #[zI 0, .int .i64 4])) := by
 have h : ¬ NatS (byts ⟨#[45, 48]⟩) := fun h => absurd (h.2.2.2 0 (by decide)).1 (by decide)
 have HI := shut (fun w => isnat_any ⟨#[45, 48]⟩ w false (by simp [h]))
 rw [zI_zero]
 clear h
 go_enter Tryz.func216, Tryz.ntmps216
 go_wp2_with fail
 obtain ⟨w0, hw0⟩ : ∃ w0, w0 = (w.alloc (.cells #[.bool false, .string { data := #[] }] 24)).alloc (.cells #[.bool false, .slice none 0 0] 228) := ⟨_, rfl⟩
 have k0 : Cel w0 w.heap.size [.bool false, .string { data := #[] }] 24 := by rw [hw0]; exact (Cel.new w _ _).alloc _
 have hb0 : Below w.heap.size w w0 := by rw [hw0]; go_grown
 rw [← hw0]
 clear hw0
 refine (strings_HasPrefix _ _ w0).mono ?_
 rintro e w1 ⟨rfl, hw⟩
 subst hw
 rw [show Lib.hasPrefix (ByteArray.mk #[45, 48]).data.toList (ByteArray.mk #[45]).data.toList = true from by decide]
 go_wp2_with fail
 refine (HI.out w1).mono ?_
 rintro e w2 ⟨rfl, b2⟩
 replace k0 := k0.below b2
 replace hb0 := Below.after hb0 b2
 clear b2
 obtain ⟨g0, g1⟩ := xk2 k0
 have q0 := k0.frozen 0
 have q1 := k0.frozen 1
 go_wp2
 exact post_z1 (p := 2) (u := 3) (by kernel_rfl) rfl rfl rfl ((k0.set 0 _).set 1 _) ⟨rfl, (hb0.setCell (by simp) _).setCell (by simp) _⟩
theorem two_list (l : List UInt8) (h2 : l.length = 2) (h0 : lm (byts ⟨⟨l⟩⟩) 0 = 45) (h1 : lm (byts ((ByteArray.mk ⟨l⟩).extract 1 2)) 0 = 48) : ByteArray.mk ⟨l⟩ = ⟨#[45, 48]⟩ := by
 match l, h2, h0, h1 with
 | [x, y], _, h0, h1 =>
  have ex : x = 45 := UInt8.toNat.inj h0
  have ey : y = 48 := UInt8.toNat.inj h1
  rw [ex, ey]
theorem two_bytes (s : ByteArray) (h2 : s.size = 2) (h0 : lm (byts s) 0 = 45) (h1 : lm (byts (s.extract 1 2)) 0 = 48) : s = ⟨#[45, 48]⟩ := by
 obtain ⟨⟨l⟩⟩ := s
 exact two_list l h2 h0 h1
end
end Go.Proofs.YtnplifkgeeicjaaGreatDoor
