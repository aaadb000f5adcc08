/-
  What these laws reach and the others do not.
  Package whole: Parse of what Print prints; of one.
-/
import Derived.Test.YtdbnkcimcpnpdaaGreatDoorG37
namespace Go.Proofs.YtdbnkcimcpnpdaaGreatDoor
theorem dt_nil : dt 0 = [] := rfl
section
open Go.RowKit Go.Shelf
theorem decTo_take (b : List Nat) (m : Nat) : ∀ k, k ≤ m → decTo (b.take m) k = decTo b k
 | 0, _ => rfl
 | k + 1, h => by
  unfold decTo
  rw [decTo_take b m k (by omega), lm_take (by omega)]

end

section
open Go.RowKit Go.Shelf
theorem ne_m0 {s : ByteArray} (h : s ≠ ⟨#[45, 48]⟩) : (s.toList == [45, 48]) = false := by
 rw [beq_eq_false_iff_ne]
 intro e
 rw [ByteArray.toList_eq] at e
 apply h
 obtain ⟨⟨l⟩⟩ := s
 have e' : l = [45, 48] := e
 rw [e']

set_option maxRecDepth 100000 in
set_option maxHeartbeats 2000000 in
theorem parse_neg (s : ByteArray) (w : World) (hn : 0 < s.size ∧ lm (byts s) 0 = 45) (h0 : s ≠ ⟨#[45, 48]⟩) (h : NatS (byts (s.extract 1 s.size))) :
  Calls Tryz.prog 54 #[.string s] w fun e w' => e = .returned (.tuple #[zI (sgn true (decTo (byts (s.extract 1 s.size)) (s.extract 1 s.size).size)), .int .i64 0]) ∧ Below w.heap.size w w' := by
 have hp := pfx s
 rw [decide_eq_true hn] at hp
 have hs1 : ¬ (s.size : Int) < 1 := by omega
 have hs2 : 1 ≤ s.size := by omega
 have hne := ne_m0 h0
 have hne' : ¬ s.toList = [45, 48] := by simpa using hne
 obtain ⟨t, ht⟩ : ∃ t, t = s.extract 1 s.size := ⟨_, rfl⟩
 rw [← ht] at h ⊢
 have HI := shut (fun w => isnat_any t w true (by simp [h]))
 have HRo := shut (fun w => rowOf_any t w (by have := h.2.1; rwa [byts_length] at this) (fun j hj => h.2.2.2 j (by rwa [byts_length])))
 have h4 := dec_lt4 h
 rw [byts_length] at h4
 have HT := shut (fun v w hr => tell_row true v w h4 hr)
 generalize hR : zI (sgn true (decTo (byts t) t.size)) = R at *
 obtain ⟨za, zb, rfl⟩ : ∃ a b, R = .agg #[.bool a, .string b] := ⟨_, _, hR.symm⟩
 have HPx := shut hp
 have HTT := shut ht
 clear hR h4 h hp ht
 go_enter Tryz.func54, Tryz.ntmps54
 go_wp2_with fail
 obtain ⟨w0, hw0⟩ : ∃ w0, w0 = (w.alloc (.cells #[.bool false, .string { data := #[] }] 24)).alloc (.cells #[.bool false, .slice none 0 0] 89) := ⟨_, rfl⟩
 have k0 : Cel w0 w.heap.size [.bool false, .string { data := #[] }] 24 := by rw [hw0]; exact (Cel.new w _ _).alloc _
 have k1 : Cel w0 (w.heap.size + 1) [.bool false, .slice none 0 0] 89 := by
  rw [hw0]
  have := Cel.new (w.alloc (.cells #[.bool false, .string { data := #[] }] 24)) [.bool false, .slice none 0 0] 89
  simpa using this
 have hb0 : Below w.heap.size w w0 := by rw [hw0]; go_grown
 rw [← hw0]
 clear hw0
 refine (strings_HasPrefix _ _ w0).mono ?_
 rintro e w1 ⟨rfl, hw⟩
 subst hw
 rw [HPx.out]
 have c0 := cel2_0' k1
 have f0 := k1.frozen 0
 go_wp2_with fail
 rw [← HTT.out]
 obtain ⟨wa, hwa⟩ : ∃ wa, wa = w1.setCell ⟨w.heap.size + 1, 0, none⟩ (.bool true) := ⟨_, rfl⟩
 have k0' : Cel wa w.heap.size [.bool false, .string { data := #[] }] 24 := by rw [hwa]; exact k0.other (by omega) _ _
 have k1' : Cel wa (w.heap.size + 1) [.bool true, .slice none 0 0] 89 := by rw [hwa]; exact k1.set 0 _
 have hb0' : Below w.heap.size w wa := by rw [hwa]; exact hb0.setCell (by simp) _
 rw [← hwa]
 clear hwa c0 f0 k0 k1 hb0
 have k0 := k0'
 have k1 := k1'
 have hb0 := hb0'
 clear k0' k1' hb0'
 refine (HI.out wa).mono ?_
 rintro e w2 ⟨rfl, b2⟩
 replace k0 := k0.below b2
 replace k1 := k1.below b2
 replace hb0 := Below.after hb0 b2
 clear b2
 go_wp2_with fail
 refine (HRo.out w2).mono ?_
 rintro e w3 ⟨v, rfl, rv, b3⟩
 obtain ⟨av, cv, rfl, -, -⟩ := id rv
 replace k0 := k0.below b3
 replace k1 := k1.below b3
 replace hb0 := Below.after hb0 b3
 clear b3
 have c0 := cel2_0' k1
 have c1 := cel2_1' k1
 have f1 := k1.frozen 1
 have e0 := cel2_0' (k1.set 1 (.slice av (M.digs B64 (decTo (byts t) t.size)).length cv))
 have e1 := cel2_1' (k1.set 1 (.slice av (M.digs B64 (decTo (byts t) t.size)).length cv))
 go_wp2_with fail
 have rx := (rdx_of_cel rv k1 (no_ints1 _ _ _ _)).setX 1 (.slice av (M.digs B64 (decTo (byts t) t.size)).length cv)
 obtain ⟨w4, hw4⟩ : ∃ w4, w4 = w3.setCell ⟨w.heap.size + 1, 1, none⟩ (.slice av (M.digs B64 (decTo (byts t) t.size)).length cv) := ⟨_, rfl⟩
 have k4 : Cel w4 w.heap.size [.bool false, .string { data := #[] }] 24 := by rw [hw4]; exact k0.other (by omega) _ _
 have b4 : Below w.heap.size w w4 := by rw [hw4]; exact hb0.setCell (by simp) _
 rw [← hw4] at rx ⊢
 clear hw4 c0 c1 f1 e0 e1 k0 k1 hb0 rv
 refine (HT.out _ w4 rx.rd).mono ?_
 rintro e w5 ⟨rfl, b5⟩
 replace k4 := k4.below b5
 replace b4 := Below.after b4 b5
 have g0 := cel2_0' k4
 have g1 := cel2_1' k4
 have q0 := k4.frozen 0
 have q1 := k4.frozen 1
 go_wp2
 exact post_z1 (p := 2) (u := 3) (by kernel_rfl) rfl rfl rfl ((k4.set 0 _).set 1 _) ⟨rfl, (b4.setCell (by simp) _).setCell (by simp) _⟩

end

section
open Go.RowKit Go.Shelf
theorem dt_low (n : Nat) : M.Low 256 (dt n) := by
 intro x hx
 unfold dt at hx
 rw [List.mem_reverse, List.mem_map] at hx
 obtain ⟨y, hy, rfl⟩ := hx
 have := M.digs_lt (b := 10) (by omega) n y hy
 omega
end

section
open Go.RowKit Go.Shelf
theorem decTo_app (b c : List Nat) (k : Nat) (hk : k ≤ b.length) : decTo (b ++ c) k = decTo b k := by
 rw [← decTo_take (b ++ c) b.length k hk, List.take_left' rfl]
theorem lm_appl (b c : List Nat) (k : Nat) (hk : k < b.length) : lm (b ++ c) k = lm b k := by
 unfold lm
 rw [List.getD_eq_getElem?_getD, List.getD_eq_getElem?_getD, List.getElem?_append_left hk]
theorem dt_dec : ∀ (n V : Nat), V < n → decTo (dt V) (dt V).length = V
 | 0, V, h => absurd h (Nat.not_lt_zero _)
 | n + 1, V, h => by
  by_cases h0 : V = 0
  ·subst h0; rfl
  ·rw [dt_pos (by omega), List.length_append, List.length_singleton]
   unfold decTo
   rw [decTo_app _ _ _ (Nat.le_refl _), dt_dec n (V / 10) (by omega), lm_in _ _ _ _ rfl]
   omega
theorem dt_dig (V j : Nat) (h : j < (dt V).length) : 48 ≤ lm (dt V) j ∧ lm (dt V) j ≤ 57 := by
 have hm : lm (dt V) j ∈ dt V := by
  unfold lm
  rw [List.getD_eq_getElem?_getD, List.getElem?_eq_getElem h]
  exact List.getElem_mem h
 generalize lm (dt V) j = x at hm ⊢
 unfold dt at hm
 rw [List.mem_reverse, List.mem_map] at hm
 obtain ⟨y, hy, rfl⟩ := hm
 have := M.digs_lt (b := 10) (by omega) V y hy
 omega
theorem dt_head : ∀ (n V : Nat), V < n → 0 < V → 0 < (dt V).length ∧ lm (dt V) 0 ≠ 48
 | 0, V, h, _ => absurd h (Nat.not_lt_zero _)
 | n + 1, V, h, h0 => by
  by_cases h1 : V < 10
  ·rw [dt_pos h0, Nat.div_eq_of_lt h1, Nat.mod_eq_of_lt h1, dt_nil]
   refine ⟨by simp, ?_⟩
   show 48 + V ≠ 48
   omega
  ·obtain ⟨a, b⟩ := dt_head n (V / 10) (by omega) (by omega)
   rw [dt_pos h0, List.length_append]
   refine ⟨by omega, ?_⟩
   rw [lm_appl _ _ _ a]
   exact b
theorem dt_nats {V : Nat} (h0 : 0 < V) (h : V < 256 ^ 24) : NatS (dt V) := by
 obtain ⟨a, b⟩ := dt_head (V + 1) V (by omega) h0
 refine ⟨a, ?_, fun e => absurd e b, fun j hj => dt_dig V j hj⟩
 unfold dt
 rw [List.length_reverse, List.length_map]
 refine Nat.le_trans (M.digs_len_of_lt (k := 58) (by omega) (Nat.lt_of_lt_of_le h (by decide))) (by omega)
theorem byts_dt (V : Nat) : byts (strB (dt V)) = dt V := byts_strB (dt_low V)
theorem byts_mdt (V : Nat) : byts (strB (45 :: dt V)) = 45 :: dt V := byts_strB (fun x hx => by
 rcases List.mem_cons.1 hx with rfl | hx
 ·omega
 ·exact dt_low V x hx)
theorem tail_dt (V : Nat) : (strB (45 :: dt V)).extract 1 (strB (45 :: dt V)).size = strB (dt V) := by
 rw [← strB_byts ((strB (45 :: dt V)).extract 1 (strB (45 :: dt V)).size), byts_extract, byts_mdt, strB_size]
 congr 1
 rw [List.take_of_length_le (Nat.le_refl _)]
 rfl
/-- What is printed is read as it was. -/
theorem parse_text (n0 : Bool) (s : ByteArray) (w : World) (o : OkZ n0 s) (z : s.size ≤ 24) (T : List Nat) (hT : T = dt (natOf s)) :
  Calls Tryz.prog 54 #[.string (if T = [] then ⟨#[48]⟩ else if n0 then strB (45 :: T) else strB T)] w fun e w' => e = .returned (.tuple #[.agg #[.bool n0, .string s], .int .i64 0]) ∧ Below w.heap.size w w' := by
 have hz : Value.agg #[.bool n0, .string s] = zI (sgn n0 (natOf s)) := zV_ok o
 rw [hz]
 have hlt : natOf s < 256 ^ 24 := Nat.lt_of_lt_of_le (natOf_lt s) (Nat.pow_le_pow_right (by omega) z)
 by_cases h0 : natOf s = 0
 ·have ht : T = [] := by rw [hT, h0, dt_nil]
  have hs : ¬ 0 < s.size := fun h => by have := natOf_pos o.1 h; omega
  have hn : n0 = false := by
   cases n0 with
   | false => rfl
   | true => exact absurd (o.2 rfl) hs
  rw [if_pos ht, h0, hn]
  exact parse_pos ⟨#[48]⟩ w (by decide) (by
   refine ⟨by decide, by decide, fun _ => by decide, fun j hj => ?_⟩
   have : j = 0 := by have : j < 1 := hj; omega
   subst this
   decide)
 ·have hp : 0 < natOf s := by omega
  have ns := dt_nats hp hlt
  have hne : T ≠ [] := by
   intro e
   have := ns.1
   rw [← hT, e] at this
   simp at this
  rw [if_neg hne]
  subst hT
  cases n0 with
  | false =>
   rw [if_neg (by simp)]
   have := parse_pos (strB (dt (natOf s))) w (by
    rw [byts_dt]
    intro h
    have := (dt_dig (natOf s) 0 ns.1).1
    omega) (by rw [byts_dt]; exact ns)
   rw [byts_dt, strB_size, dt_dec _ _ (Nat.lt_succ_self _)] at this
   exact this
  | true =>
   rw [if_pos rfl]
   have := parse_neg (strB (45 :: dt (natOf s))) w (by
    rw [byts_mdt, strB_size]
    exact ⟨by simp, rfl⟩) (by
    intro e
    have e2 := congrArg byts e
    rw [byts_mdt] at e2
    have e3 : dt (natOf s) = [48] := (List.cons.inj e2).2
    have := (dt_head _ _ (Nat.lt_succ_self _) hp).2
    rw [e3] at this
    exact this rfl) (by rw [tail_dt, byts_dt]; exact ns)
   rw [tail_dt, byts_dt, strB_size, dt_dec _ _ (Nat.lt_succ_self _)] at this
   exact this
end
end Go.Proofs.YtdbnkcimcpnpdaaGreatDoor
namespace Go.Proofs.YtdbnkcimcpnpdaaGreatDoor
open Go.RowKit Go.Shelf

theorem parse_ptxt (n : Bool) (s : ByteArray) (w : World) (o : OkZ n s) (z : s.size ≤ 24) :
  Calls Tryz.prog 54 #[.string (ptxt n s)] w fun e w' => e = .returned (.tuple #[.agg #[.bool n, .string s], .int .i64 0]) ∧ Below w.heap.size w w' := parse_text n s w o z _ rfl
theorem ptxt_one : ptxt false ⟨#[1]⟩ = ⟨#[49]⟩ := by
 unfold ptxt
 rw [natOf_one]
 decide
theorem ok_one : OkZ false ⟨#[1]⟩ := ⟨(okS_strOf 1) |> fun h => by rwa [strOf_one] at h, fun h => by cases h⟩
end Go.Proofs.YtdbnkcimcpnpdaaGreatDoor
