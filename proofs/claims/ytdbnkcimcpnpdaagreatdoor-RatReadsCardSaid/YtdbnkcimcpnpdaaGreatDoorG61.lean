/-
  strings.Cut around one sign, for a text of any length.
  What these laws reach and the others do not.
  Package rat: Parse of what is refused, walked.
  gussetref03: Parse, walked.
-/
import Derived.Test.YtdbnkcimcpnpdaaGreatDoorG57
import Derived.Test.YtdbnkcimcpnpdaaGreatDoorG59
namespace Go.Proofs.YtdbnkcimcpnpdaaGreatDoor
open Go.RowKit Go.Shelf

theorem index_one' (s : ByteArray) (w : World) :
  Calls Tryz.prog 105 #[.string s, .string ⟨#[47]⟩] w fun e w' => e = .returned (.int .i64 (Lib.index s.data.toList [47])) ∧ w' = w := by
 rw [Lib.index_one]
 exact Any.stringslite_Index_one (ρ := lays145_ren) { lays145 with } s 47 w
set_option maxHeartbeats 2000000 in
set_option maxRecDepth 100000 in
theorem slcut_none (s : ByteArray) (w : World) (h : Lib.index s.data.toList [47] = -1) :
  Calls Tryz.prog 82 #[.string s, .string ⟨#[47]⟩] w fun e w' => e = .returned (.tuple #[.string s, .string ⟨#[]⟩, .bool false]) ∧ Below w.heap.size w w' := by
 have H := index_one' s
 rw [h] at H
 replace H := shut H
 clear h
 go_enter Tryz.func82, Tryz.ntmps82
 go_wp2_with fail
 go_fit (H.out _)
 rintro e w1 ⟨rfl, rfl⟩
 go_wp2
 go_ret3
 exact ⟨rfl, Below.refl _ _⟩
set_option maxHeartbeats 2000000 in
set_option maxRecDepth 100000 in
theorem slcut_hit (s : ByteArray) (i : Nat) (w : World) (h : Lib.index s.data.toList [47] = (i : Int)) (hi : i + 1 ≤ s.size) (hz : s.size ≤ 9223372036854775807) :
  Calls Tryz.prog 82 #[.string s, .string ⟨#[47]⟩] w fun e w' => e = .returned (.tuple #[.string (s.extract 0 i), .string (s.extract (i + 1) s.size), .bool true]) ∧ Below w.heap.size w w' := by
 have H := index_one' s
 rw [h] at H
 replace H := shut H
 have c1 : (0 : Int) ≤ (i : Int) := by omega
 have c2 : (i : Int) ≤ (s.size : Int) := by omega
 have c3 : (0 : Int) ≤ (i : Int) + 1 := by omega
 have c4 : (i : Int) + 1 ≤ (s.size : Int) := by omega
 have c5 : (s.size : Int) ≤ 9223372036854775807 := by omega
 clear h
 go_enter Tryz.func82, Tryz.ntmps82
 go_wp2_with fail
 go_fit (H.out _)
 rintro e w1 ⟨rfl, rfl⟩
 go_wp2_with fail
 go_quiet (fail)
 go_wp2
 go_ret3
 exact ⟨rfl, below_drewN (Below.refl _ _) _⟩
set_option maxHeartbeats 2000000 in
theorem scut1_none (s : ByteArray) (w : World) (h : Lib.index s.data.toList [47] = -1) :
  Calls Tryz.prog 53 #[.string s, .string ⟨#[47]⟩] w fun e w' => e = .returned (.tuple #[.string s, .string ⟨#[]⟩, .bool false]) ∧ Below w.heap.size w w' := by
 have H := shut (fun w => slcut_none s w h)
 clear h
 go_enter Tryz.func53, Tryz.ntmps53
 go_wp2_with fail
 go_fit (H.out _)
 rintro e w1 ⟨rfl, b1⟩
 go_wp2
 go_ret3
 exact ⟨rfl, b1⟩
set_option maxHeartbeats 2000000 in
theorem scut1_hit (s : ByteArray) (i : Nat) (w : World) (h : Lib.index s.data.toList [47] = (i : Int)) (hi : i + 1 ≤ s.size) (hz : s.size ≤ 9223372036854775807) :
  Calls Tryz.prog 53 #[.string s, .string ⟨#[47]⟩] w fun e w' => e = .returned (.tuple #[.string (s.extract 0 i), .string (s.extract (i + 1) s.size), .bool true]) ∧ Below w.heap.size w w' := by
 have H := shut (fun w => slcut_hit s i w h hi hz)
 clear h
 go_enter Tryz.func53, Tryz.ntmps53
 go_wp2_with fail
 go_fit (H.out _)
 rintro e w1 ⟨rfl, b1⟩
 go_wp2
 go_ret3
 exact ⟨rfl, b1⟩
end Go.Proofs.YtdbnkcimcpnpdaaGreatDoor
namespace Go.Proofs.YtdbnkcimcpnpdaaGreatDoor
section
open Go.RowKit
theorem zI_zero : zI 0 = .agg #[.bool false, .string { data := #[] }] := rfl

end

section
open Go.RowKit Go.Shelf
set_option maxRecDepth 100000 in
set_option maxHeartbeats 2000000 in
theorem parse_posbad (s : ByteArray) (w : World) (hn : ¬ (0 < s.size ∧ lm (byts s) 0 = 45)) (h : ¬ NatS (byts s)) :
  Calls Tryz.prog 54 #[.string s] w fun e w' => e = .returned (.tuple #[zI 0, .int .i64 4]) ∧ Below w.heap.size w w' := by
 have hp := pfx s
 rw [decide_eq_false hn] at hp
 have HI := shut (fun w => isnat_any s w false (by simp [h]))
 rw [zI_zero]
 have HPx := shut hp
 clear h hn hp
 go_enter Tryz.func54, Tryz.ntmps54
 go_wp2_with fail
 obtain ⟨w0, hw0⟩ : ∃ w0, w0 = (w.alloc (.cells #[.bool false, .string { data := #[] }] 24)).alloc (.cells #[.bool false, .slice none 0 0] 89) := ⟨_, rfl⟩
 have k0 : Cel w0 w.heap.size [.bool false, .string { data := #[] }] 24 := by rw [hw0]; exact (Cel.new w _ _).alloc _
 have k1 : Cel w0 (w.heap.size + 1) [.bool false, .slice none 0 0] 89 := by
  rw [hw0]
  have := Cel.new (w.alloc (.cells #[.bool false, .string { data := #[] }] 24)) [.bool false, .slice none 0 0] 89
  simpa using this
 have hb0 : Below w.heap.size w w0 := by rw [hw0]; go_grown
 rw [← hw0]
 clear hw0
 refine (strings_HasPrefix _ _ w0).mono ?_
 rintro e w1 ⟨rfl, hw⟩
 subst hw
 rw [HPx.out]
 go_wp2_with fail
 refine (HI.out w1).mono ?_
 rintro e w2 ⟨rfl, b2⟩
 replace k0 := k0.below b2
 replace hb0 := Below.after hb0 b2
 clear b2
 have g0 := cel2_0' k0
 have g1 := cel2_1' k0
 have q0 := k0.frozen 0
 have q1 := k0.frozen 1
 go_wp2
 exact post_z1 (p := 2) (u := 3) (by kernel_rfl) rfl rfl rfl ((k0.set 0 _).set 1 _) ⟨rfl, (hb0.setCell (by simp) _).setCell (by simp) _⟩

set_option maxRecDepth 100000 in
set_option maxHeartbeats 2000000 in
theorem parse_negbad (s : ByteArray) (w : World) (hn : 0 < s.size ∧ lm (byts s) 0 = 45) (h0 : s ≠ ⟨#[45, 48]⟩) (h : ¬ NatS (byts (s.extract 1 s.size))) :
  Calls Tryz.prog 54 #[.string s] w fun e w' => e = .returned (.tuple #[zI 0, .int .i64 4]) ∧ Below w.heap.size w w' := by
 have hp := pfx s
 rw [decide_eq_true hn] at hp
 have hs1 : ¬ (s.size : Int) < 1 := by omega
 have hs2 : 1 ≤ s.size := by omega
 have hne := ne_m0 h0
 have hne' : ¬ s.toList = [45, 48] := by simpa using hne
 obtain ⟨t, ht⟩ : ∃ t, t = s.extract 1 s.size := ⟨_, rfl⟩
 rw [← ht] at h
 have HI := shut (fun w => isnat_any t w false (by simp [h]))
 rw [zI_zero]
 have HPx := shut hp
 have HTT := shut ht
 clear h hp ht
 go_enter Tryz.func54, Tryz.ntmps54
 go_wp2_with fail
 obtain ⟨w0, hw0⟩ : ∃ w0, w0 = (w.alloc (.cells #[.bool false, .string { data := #[] }] 24)).alloc (.cells #[.bool false, .slice none 0 0] 89) := ⟨_, rfl⟩
 have k0 : Cel w0 w.heap.size [.bool false, .string { data := #[] }] 24 := by rw [hw0]; exact (Cel.new w _ _).alloc _
 have k1 : Cel w0 (w.heap.size + 1) [.bool false, .slice none 0 0] 89 := by
  rw [hw0]
  have := Cel.new (w.alloc (.cells #[.bool false, .string { data := #[] }] 24)) [.bool false, .slice none 0 0] 89
  simpa using this
 have hb0 : Below w.heap.size w w0 := by rw [hw0]; go_grown
 rw [← hw0]
 clear hw0
 refine (strings_HasPrefix _ _ w0).mono ?_
 rintro e w1 ⟨rfl, hw⟩
 subst hw
 rw [HPx.out]
 have c0 := cel2_0' k1
 have f0 := k1.frozen 0
 go_wp2_with fail
 rw [← HTT.out]
 obtain ⟨wa, hwa⟩ : ∃ wa, wa = w1.setCell ⟨w.heap.size + 1, 0, none⟩ (.bool true) := ⟨_, rfl⟩
 have k0' : Cel wa w.heap.size [.bool false, .string { data := #[] }] 24 := by rw [hwa]; exact k0.other (by omega) _ _
 have k1' : Cel wa (w.heap.size + 1) [.bool true, .slice none 0 0] 89 := by rw [hwa]; exact k1.set 0 _
 have hb0' : Below w.heap.size w wa := by rw [hwa]; exact hb0.setCell (by simp) _
 rw [← hwa]
 clear hwa c0 f0 k0 k1 hb0
 have k0 := k0'
 have k1 := k1'
 have hb0 := hb0'
 clear k0' k1' hb0'
 refine (HI.out wa).mono ?_
 rintro e w2 ⟨rfl, b2⟩
 replace k0 := k0.below b2
 replace hb0 := Below.after hb0 b2
 clear b2
 have g0 := cel2_0' k0
 have g1 := cel2_1' k0
 have q0 := k0.frozen 0
 have q1 := k0.frozen 1
 go_wp2
 exact post_z1 (p := 2) (u := 3) (by kernel_rfl) rfl rfl rfl ((k0.set 0 _).set 1 _) ⟨rfl, (hb0.setCell (by simp) _).setCell (by simp) _⟩
end

section
open Go.RowKit Go.Shelf
theorem rmul_ten {D : Nat} (hD : D < D32 ^ 8) (v0 v1 : Value) (w : World) (r0 : Rd w v0 (M.digs D32 D)) (r1 : Rd w v1 [10]) :
  Calls Tryz.prog 64 #[v0, v1] w fun e w' => ∃ v, e = .returned v ∧ Rd w' v (M.digs D32 (10 * D)) ∧ Below w.heap.size w w' := by
 have := rmul_any v0 v1 _ _ w r0 r1 (M.Low.digs D32_two _) (low_of_all (by decide)) (Nat.le_trans (dlen hD) (by omega)) (by simp)
 rwa [M.val_digs D32_two, show M.val D32 [10] = 10 from by rw [M.val_cons, M.val_nil]; omega, Nat.mul_comm] at this
theorem radd_small {D x : Nat} (hD : D < D32 ^ 9) (hx : x < 10) (v0 v1 : Value) (w : World) (r0 : Rd w v0 (M.digs D32 D)) (r1 : Rd w v1 [x]) :
  Calls Tryz.prog 65 #[v0, v1] w fun e w' => ∃ v, e = .returned v ∧ Rd w' v (M.digs D32 (D + x)) ∧ Below w.heap.size w w' := by
 have := radd_any v0 v1 _ _ w r0 r1 (M.Low.digs D32_two _) (low_of_all (by simp; unfold D32; omega)) (Nat.le_trans (dlen hD) (by omega)) (by simp)
 rwa [M.val_digs D32_two, show M.val D32 [x] = x from by rw [M.val_cons, M.val_nil]; omega] at this
theorem dec_lt8 {b : List Nat} {k : Nat} (hk : k ≤ 60) (h : ∀ j, j < k → lm b j ≤ 57) : decTo b k < D32 ^ 8 := by
 have l := decTo_lt (b := b) k h
 have l2 : 10 ^ k ≤ 10 ^ 60 := Nat.pow_le_pow_right (by omega) hk
 exact Nat.lt_of_lt_of_le l (Nat.le_trans l2 (by unfold D32; decide))
theorem lt9 {D : Nat} (h : D < D32 ^ 8) : 10 * D < D32 ^ 9 := by
 have e : D32 ^ 9 = D32 ^ 8 * D32 := Nat.pow_succ ..
 rw [e]
 generalize D32 ^ 8 = p at *
 unfold D32
 omega

set_option maxRecDepth 100000 in
set_option maxHeartbeats 4000000 in
theorem rparse_pos (s : ByteArray) (w : World) (hn : ¬ (0 < s.size ∧ lm (byts s) 0 = 45)) (h1 : 1 ≤ s.size) (h2 : s.size ≤ 60) (h3 : lm (byts s) 0 = 48 → s.size ≤ 1) (r : Bool) (hr : r = true ↔ ∀ j, j < s.size → 48 ≤ lm (byts s) j ∧ lm (byts s) j ≤ 57) :
  Calls Tryz.prog 30 #[.string s] w fun e w' => e = .returned (.tuple #[zI (if r then sgn false (decTo (byts s) s.size) else 0), .int .i64 (if r then 0 else 4)]) ∧ Below w.heap.size w w' := by
 obtain ⟨ZR, hZR⟩ : ∃ Z, Z = zI (if r then sgn false (decTo (byts s) s.size) else 0) := ⟨_, rfl⟩
 obtain ⟨ER, hER⟩ : ∃ E : Int, E = if r then 0 else 4 := ⟨_, rfl⟩
 rw [← hZR, ← hER]
 have HZR := shut hZR
 have HER := shut hER
 clear hZR hER
 have HR := shut hr
 have h4 : r = true → decTo (byts s) s.size < D32 ^ 8 := fun h => dec_lt8 h2 (fun j hj => (hr.1 h j hj).2)
 have HM := shut (fun (h : r = true) v w hv => make0_val false (K := 8) (by omega) (h4 h) v w hv)
 clear hr h4
 have g0 : ¬ (s.size : Int) < 1 := by omega
 have g1 : ¬ (s.size : Int) > 60 := by omega
 have hs : 0 < s.size := by omega
 have p1 : ¬ (s[0]).toNat = 45 := fun h => hn ⟨hs, by rw [← byts_at s 0 hs]; exact h⟩
 have p2 : ¬ ((s[0]).toNat : Int) = 45 := by omega
 have p3 : ¬ s[0] = 45 := fun h => p1 (by rw [h]; rfl)
 clear hn
 have hz : (((s[0]).toNat : Int) = 48 ∧ s[0] = 48 ∧ ¬ (s.size : Int) > 1) ∨ (¬ ((s[0]).toNat : Int) = 48 ∧ ¬ s[0] = 48) := by
  by_cases g2 : lm (byts s) 0 = 48
  ·have g3 := h3 g2
   have k3 : (s[0]).toNat = 48 := by rw [byts_at s 0 hs, g2]
   exact Or.inl ⟨by omega, UInt8.toNat.inj k3, by omega⟩
  ·have k1 : ¬ ((s[0]).toNat : Int) = 48 := by rw [byts_at s 0 hs]; omega
   exact Or.inr ⟨k1, fun h => k1 (by rw [h]; rfl)⟩
 clear h3
 rcases hz with ⟨z1, z2, z3⟩ | ⟨z1, z2⟩ <;>
 ·go_enter Tryz.func30, Tryz.ntmps30
  go_wp2
  obtain ⟨w0, hw0⟩ : ∃ w0, w0 = w.alloc (.cells #[.bool false, .string { data := #[] }] 24) := ⟨_, rfl⟩
  have k0 : Cel w0 w.heap.size [.bool false, .string { data := #[] }] 24 := by rw [hw0]; exact Cel.new w _ _
  have hb0 : Below w.heap.size w w0 := by rw [hw0]; exact (Below.refl _ _).alloc (Nat.le_refl _) _
  rw [← hw0]
  clear hw0
  go_loopw [6, 7] (fun nv i wr => ∃ k : Nat, k ≤ s.size ∧ i = .int .i64 (k : Nat) ∧ Rd wr nv (M.digs D32 (decTo (byts s) k)) ∧ Hid (∀ j, j < k → 48 ≤ lm (byts s) j ∧ lm (byts s) j ≤ 57) ∧ Cel wr w.heap.size [.bool false, .string { data := #[] }] 24 ∧ Below w.heap.size w wr) (fun _ i _ => s.size - (intOf i).toNat)
  case atStart => exact ⟨0, Nat.zero_le _, rfl, rd_none _, fun j hj => absurd hj (Nat.not_lt_zero _), k0, hb0⟩
  case round =>
   clear k0 hb0
   obtain ⟨k, hk, rfl, rn, HA, kc, bb⟩ := hrel
   obtain ⟨an, cn, rfl, -, -⟩ := id rn
   by_cases hlt : k < s.size
   ·have hlt' : (k : Int) < (s.size : Int) := by omega
    have a1 := byts_at s k hlt
    by_cases hok : 48 ≤ lm (byts s) k ∧ lm (byts s) k ≤ 57
    ·have HN : Hid (∀ j, j < k + 1 → 48 ≤ lm (byts s) j ∧ lm (byts s) j ≤ 57) := fun j hj => by
      by_cases e : j = k
      ·rw [e]; exact hok
      ·exact HA.out j (by omega)
     have hD8 := dec_lt8 (b := byts s) (k := k) (by omega) (fun j hj => (HA.out j hj).2)
     have HMul := shut (fun v0 v1 w r0 r1 => rmul_ten hD8 v0 v1 w r0 r1)
     obtain ⟨x, hx⟩ : ∃ x, x = lm (byts s) k := ⟨_, rfl⟩
     rw [← hx] at hok a1
     obtain ⟨hx1, hx2⟩ := hok
     have hde : decTo (byts s) (k + 1) = 10 * decTo (byts s) k + (x - 48) := by rw [hx]; rfl
     have HAdd := shut (fun v0 v1 w r0 r1 => radd_small (D := 10 * decTo (byts s) k) (x := x - 48) (lt9 hD8) (by omega) v0 v1 w r0 r1)
     rw [← hde] at HAdd
     have HDE := shut hde
     clear hde hx hD8
     have y1 : ¬ (x : Int) < 48 := by omega
     have y2 : ¬ (x : Int) > 57 := by omega
     generalize hdk : decTo (byts s) k = D at *
     generalize hdk1 : decTo (byts s) (k + 1) = D1 at *
     have HD1 := shut hdk1
     clear hdk hdk1 HA HR HM
     by_cases hx0 : x = 48
     ·have y3 : ¬ (x : Int) > 48 := by omega
      have e1 : 10 * D = D1 := by have := HDE.out; omega
      rw [e1] at HMul
      clear HAdd HDE
      go_wp2_with fail
      obtain ⟨w2, hw2⟩ : ∃ w2, w2 = wr.alloc (.cells #[.int .u64 10] 73) := ⟨_, rfl⟩
      have b2 : Below wr.heap.size wr w2 := by rw [hw2]; exact (Below.refl _ _).alloc (Nat.le_refl _) _
      have rP : Rd w2 (.slice (some ⟨wr.heap.size, 0, none⟩) 1 1) [10] := by rw [hw2]; exact rd1 wr rfl 10
      rw [← hw2]
      clear hw2
      refine (HMul.out _ _ w2 (rn.below b2) rP).mono ?_
      rintro e w3 ⟨v3, rfl, r3, b3⟩
      obtain ⟨a3, c3, rfl, -, -⟩ := id r3
      have bx := Below.after b2 b3
      replace kc := kc.below bx
      replace bb := Below.after bb bx
      clear rn HMul bx b2 b3 rP
      have R3 : Hid (Rd w3 (.slice a3 (M.digs D32 D1).length c3) (M.digs D32 (decTo (byts s) (k + 1)))) := by
       show Rd _ _ _
       rw [HD1.out]; exact r3
      clear r3 HD1
      go_wp2
      exact ⟨⟨k + 1, by omega, by go_num, R3.out, HN, kc, bb⟩, by simp [intOf]; omega⟩
     ·have y3 : (x : Int) > 48 := by omega
      have y4 : IntKind.u8.wrap ((x : Int) - 48) = ((x - 48 : Nat) : Int) := by simp only [IntKind.wrap_u8]; omega
      have y5 : IntKind.u64.wrap ((x - 48 : Nat) : Int) = ((x - 48 : Nat) : Int) := by simp only [IntKind.wrap_u64]; omega
      obtain ⟨X, hX⟩ : ∃ X, X = x - 48 := ⟨_, rfl⟩
      rw [← hX] at y4 y5 HAdd
      clear hX HDE
      go_wp2_with fail
      obtain ⟨w2, hw2⟩ : ∃ w2, w2 = wr.alloc (.cells #[.int .u64 10] 73) := ⟨_, rfl⟩
      have b2 : Below wr.heap.size wr w2 := by rw [hw2]; exact (Below.refl _ _).alloc (Nat.le_refl _) _
      have rP : Rd w2 (.slice (some ⟨wr.heap.size, 0, none⟩) 1 1) [10] := by rw [hw2]; exact rd1 wr rfl 10
      rw [← hw2]
      clear hw2
      refine (HMul.out _ _ w2 (rn.below b2) rP).mono ?_
      rintro e w3 ⟨v3, rfl, r3, b3⟩
      obtain ⟨a3, c3, rfl, -, -⟩ := id r3
      have bx := Below.after b2 b3
      replace kc := kc.below bx
      replace bb := Below.after bb bx
      clear rn HMul bx b2 b3 rP
      go_wp2_with fail
      obtain ⟨w4, hw4⟩ : ∃ w4, w4 = w3.alloc (.cells #[.int .u64 (X : Nat)] 73) := ⟨_, rfl⟩
      have b4 : Below w3.heap.size w3 w4 := by rw [hw4]; exact (Below.refl _ _).alloc (Nat.le_refl _) _
      have rV : Rd w4 (.slice (some ⟨w3.heap.size, 0, none⟩) 1 1) [X] := by rw [hw4]; exact rd1 w3 rfl X
      rw [← hw4]
      clear hw4
      refine (HAdd.out _ _ w4 (r3.below b4) rV).mono ?_
      rintro e w5 ⟨v5, rfl, r5, b5⟩
      obtain ⟨a5, c5, rfl, -, -⟩ := id r5
      have by1 := Below.after b4 b5
      replace kc := kc.below by1
      replace bb := Below.after bb by1
      clear r3 HAdd by1 b4 b5 rV
      have R5 : Hid (Rd w5 (.slice a5 (M.digs D32 D1).length c5) (M.digs D32 (decTo (byts s) (k + 1)))) := by
       show Rd _ _ _
       rw [HD1.out]; exact r5
      clear r5 HD1
      go_wp2
      exact ⟨⟨k + 1, by omega, by go_num, R5.out, HN, kc, bb⟩, by simp [intOf]; omega⟩
    ·have hrf : r = false := by
      cases hr : r with
      | false => rfl
      | true => exact absurd (HR.out.1 hr k hlt) hok
     have HRF := shut hrf
     obtain ⟨x, hx⟩ : ∃ x, x = lm (byts s) k := ⟨_, rfl⟩
     rw [← hx] at hok a1
     clear HA HR HM hx rn hrf
     have c0 := cel2_0' kc
     have c1 := cel2_1' kc
     have f0 := kc.frozen 0
     have f1 := kc.frozen 1
     by_cases y1 : x < 48
     ·have y1' : (x : Int) < 48 := by omega
      go_wp2
      exact post_z1 (p := 2) (u := 3) (by kernel_rfl) rfl rfl rfl ((kc.set 0 _).set 1 _) ⟨by rw [HZR.out, HER.out, HRF.out]; rfl, (bb.setCell (by simp) _).setCell (by simp) _⟩
     ·have y1' : ¬ (x : Int) < 48 := by omega
      have y2' : (x : Int) > 57 := by omega
      go_wp2
      exact post_z1 (p := 2) (u := 3) (by kernel_rfl) rfl rfl rfl ((kc.set 0 _).set 1 _) ⟨by rw [HZR.out, HER.out, HRF.out]; rfl, (bb.setCell (by simp) _).setCell (by simp) _⟩
   ·have hke : k = s.size := by omega
    have hrt : r = true := HR.out.2 (fun j hj => HA.out j (by omega))
    rw [hke] at rn
    have HK := shut (HM.out hrt _ wr rn)
    have HRT := shut hrt
    subst hke
    clear HA HR HM hrt rn
    generalize hRR : zI (sgn false (decTo (byts s) s.size)) = RR at *
    obtain ⟨za, zb, rfl⟩ : ∃ a b, RR = .agg #[.bool a, .string b] := ⟨_, _, hRR.symm⟩
    have HRR := shut hRR
    clear hRR
    go_wp2_with fail
    refine HK.out.mono ?_
    rintro e w6 ⟨rfl, b6⟩
    replace kc := kc.below b6
    replace bb := Below.after bb b6
    have c0 := cel2_0' kc
    have c1 := cel2_1' kc
    have f0 := kc.frozen 0
    have f1 := kc.frozen 1
    go_wp2
    exact post_z1 (p := 2) (u := 3) (by kernel_rfl) rfl rfl rfl ((kc.set 0 _).set 1 _) ⟨by rw [HZR.out, HER.out, if_pos HRT.out, if_pos HRT.out, HRR.out]; rfl, (bb.setCell (by simp) _).setCell (by simp) _⟩
end

section
open Go.RowKit Go.Shelf
set_option maxRecDepth 100000 in
set_option maxHeartbeats 4000000 in
theorem rparse_neg (s : ByteArray) (w : World) (hn : 0 < s.size ∧ lm (byts s) 0 = 45) (t : ByteArray) (ht : s.extract 1 s.size = t) (h1 : 1 ≤ t.size) (h2 : t.size ≤ 60) (h3 : lm (byts t) 0 = 48 → False) (r : Bool) (hr : r = true ↔ ∀ j, j < t.size → 48 ≤ lm (byts t) j ∧ lm (byts t) j ≤ 57) :
  Calls Tryz.prog 30 #[.string s] w fun e w' => e = .returned (.tuple #[zI (if r then sgn true (decTo (byts t) t.size) else 0), .int .i64 (if r then 0 else 4)]) ∧ Below w.heap.size w w' := by
 obtain ⟨ZR, hZR⟩ : ∃ Z, Z = zI (if r then sgn true (decTo (byts t) t.size) else 0) := ⟨_, rfl⟩
 obtain ⟨ER, hER⟩ : ∃ E : Int, E = if r then 0 else 4 := ⟨_, rfl⟩
 rw [← hZR, ← hER]
 have HZR := shut hZR
 have HER := shut hER
 clear hZR hER
 have HR := shut hr
 have h4 : r = true → decTo (byts t) t.size < D32 ^ 8 := fun h => dec_lt8 h2 (fun j hj => (hr.1 h j hj).2)
 have HM := shut (fun (h : r = true) v w hv => make0_val true (K := 8) (by omega) (h4 h) v w hv)
 clear hr h4
 have g0 : ¬ (t.size : Int) < 1 := by omega
 have g1 : ¬ (t.size : Int) > 60 := by omega
 have hs : 0 < t.size := by omega
 obtain ⟨p0, hn2⟩ := hn
 have p1 : (s[0]).toNat = 45 := by rw [byts_at s 0 p0]; exact hn2
 have p2 : ((s[0]).toNat : Int) = 45 := by omega
 have p3 : s[0] = 45 := UInt8.toNat.inj p1
 have p5 : 1 ≤ s.size := p0
 have p6 : s.size - 1 = t.size := by rw [← ht, ByteArray.size_extract]; omega
 have k0 : ¬ lm (byts t) 0 = 48 := h3
 have k1 : ¬ ((t[0]).toNat : Int) = 48 := by rw [byts_at t 0 hs]; omega
 have k2 : ¬ t[0] = 48 := fun h => k1 (by rw [h]; rfl)
 clear h3 k0 hn2
 go_enter Tryz.func30, Tryz.ntmps30
 go_wp2
 obtain ⟨w0, hw0⟩ : ∃ w0, w0 = w.alloc (.cells #[.bool false, .string { data := #[] }] 24) := ⟨_, rfl⟩
 have k0 : Cel w0 w.heap.size [.bool false, .string { data := #[] }] 24 := by rw [hw0]; exact Cel.new w _ _
 have hb0 : Below w.heap.size w w0 := by rw [hw0]; exact (Below.refl _ _).alloc (Nat.le_refl _) _
 rw [← hw0]
 clear hw0
 go_loopw [6, 7] (fun nv i wr => ∃ k : Nat, k ≤ t.size ∧ i = .int .i64 (k : Nat) ∧ Rd wr nv (M.digs D32 (decTo (byts t) k)) ∧ Hid (∀ j, j < k → 48 ≤ lm (byts t) j ∧ lm (byts t) j ≤ 57) ∧ Cel wr w.heap.size [.bool false, .string { data := #[] }] 24 ∧ Below w.heap.size w wr) (fun _ i _ => t.size - (intOf i).toNat)
 case atStart => exact ⟨0, Nat.zero_le _, rfl, rd_none _, fun j hj => absurd hj (Nat.not_lt_zero _), k0, hb0⟩
 case round =>
  clear k0 hb0
  obtain ⟨k, hk, rfl, rn, HA, kc, bb⟩ := hrel
  obtain ⟨an, cn, rfl, -, -⟩ := id rn
  by_cases hlt : k < t.size
  ·have hlt' : (k : Int) < (t.size : Int) := by omega
   have a1 := byts_at t k hlt
   by_cases hok : 48 ≤ lm (byts t) k ∧ lm (byts t) k ≤ 57
   ·have HN : Hid (∀ j, j < k + 1 → 48 ≤ lm (byts t) j ∧ lm (byts t) j ≤ 57) := fun j hj => by
     by_cases e : j = k
     ·rw [e]; exact hok
     ·exact HA.out j (by omega)
    have hD8 := dec_lt8 (b := byts t) (k := k) (by omega) (fun j hj => (HA.out j hj).2)
    have HMul := shut (fun v0 v1 w r0 r1 => rmul_ten hD8 v0 v1 w r0 r1)
    obtain ⟨x, hx⟩ : ∃ x, x = lm (byts t) k := ⟨_, rfl⟩
    rw [← hx] at hok a1
    obtain ⟨hx1, hx2⟩ := hok
    have hde : decTo (byts t) (k + 1) = 10 * decTo (byts t) k + (x - 48) := by rw [hx]; rfl
    have HAdd := shut (fun v0 v1 w r0 r1 => radd_small (D := 10 * decTo (byts t) k) (x := x - 48) (lt9 hD8) (by omega) v0 v1 w r0 r1)
    rw [← hde] at HAdd
    have HDE := shut hde
    clear hde hx hD8
    have y1 : ¬ (x : Int) < 48 := by omega
    have y2 : ¬ (x : Int) > 57 := by omega
    generalize hdk : decTo (byts t) k = D at *
    generalize hdk1 : decTo (byts t) (k + 1) = D1 at *
    have HD1 := shut hdk1
    clear hdk hdk1 HA HR HM
    by_cases hx0 : x = 48
    ·have y3 : ¬ (x : Int) > 48 := by omega
     have e1 : 10 * D = D1 := by have := HDE.out; omega
     rw [e1] at HMul
     clear HAdd HDE
     go_wp2_with fail
     obtain ⟨w2, hw2⟩ : ∃ w2, w2 = wr.alloc (.cells #[.int .u64 10] 73) := ⟨_, rfl⟩
     have b2 : Below wr.heap.size wr w2 := by rw [hw2]; exact (Below.refl _ _).alloc (Nat.le_refl _) _
     have rP : Rd w2 (.slice (some ⟨wr.heap.size, 0, none⟩) 1 1) [10] := by rw [hw2]; exact rd1 wr rfl 10
     rw [← hw2]
     clear hw2
     refine (HMul.out _ _ w2 (rn.below b2) rP).mono ?_
     rintro e w3 ⟨v3, rfl, r3, b3⟩
     obtain ⟨a3, c3, rfl, -, -⟩ := id r3
     have bx := Below.after b2 b3
     replace kc := kc.below bx
     replace bb := Below.after bb bx
     clear rn HMul bx b2 b3 rP
     have R3 : Hid (Rd w3 (.slice a3 (M.digs D32 D1).length c3) (M.digs D32 (decTo (byts t) (k + 1)))) := by
      show Rd _ _ _
      rw [HD1.out]; exact r3
     clear r3 HD1
     go_wp2
     exact ⟨⟨k + 1, by omega, by go_num, R3.out, HN, kc, bb⟩, by simp [intOf]; omega⟩
    ·have y3 : (x : Int) > 48 := by omega
     have y4 : IntKind.u8.wrap ((x : Int) - 48) = ((x - 48 : Nat) : Int) := by simp only [IntKind.wrap_u8]; omega
     have y5 : IntKind.u64.wrap ((x - 48 : Nat) : Int) = ((x - 48 : Nat) : Int) := by simp only [IntKind.wrap_u64]; omega
     obtain ⟨X, hX⟩ : ∃ X, X = x - 48 := ⟨_, rfl⟩
     rw [← hX] at y4 y5 HAdd
     clear hX HDE
     go_wp2_with fail
     obtain ⟨w2, hw2⟩ : ∃ w2, w2 = wr.alloc (.cells #[.int .u64 10] 73) := ⟨_, rfl⟩
     have b2 : Below wr.heap.size wr w2 := by rw [hw2]; exact (Below.refl _ _).alloc (Nat.le_refl _) _
     have rP : Rd w2 (.slice (some ⟨wr.heap.size, 0, none⟩) 1 1) [10] := by rw [hw2]; exact rd1 wr rfl 10
     rw [← hw2]
     clear hw2
     refine (HMul.out _ _ w2 (rn.below b2) rP).mono ?_
     rintro e w3 ⟨v3, rfl, r3, b3⟩
     obtain ⟨a3, c3, rfl, -, -⟩ := id r3
     have bx := Below.after b2 b3
     replace kc := kc.below bx
     replace bb := Below.after bb bx
     clear rn HMul bx b2 b3 rP
     go_wp2_with fail
     obtain ⟨w4, hw4⟩ : ∃ w4, w4 = w3.alloc (.cells #[.int .u64 (X : Nat)] 73) := ⟨_, rfl⟩
     have b4 : Below w3.heap.size w3 w4 := by rw [hw4]; exact (Below.refl _ _).alloc (Nat.le_refl _) _
     have rV : Rd w4 (.slice (some ⟨w3.heap.size, 0, none⟩) 1 1) [X] := by rw [hw4]; exact rd1 w3 rfl X
     rw [← hw4]
     clear hw4
     refine (HAdd.out _ _ w4 (r3.below b4) rV).mono ?_
     rintro e w5 ⟨v5, rfl, r5, b5⟩
     obtain ⟨a5, c5, rfl, -, -⟩ := id r5
     have by1 := Below.after b4 b5
     replace kc := kc.below by1
     replace bb := Below.after bb by1
     clear r3 HAdd by1 b4 b5 rV
     have R5 : Hid (Rd w5 (.slice a5 (M.digs D32 D1).length c5) (M.digs D32 (decTo (byts t) (k + 1)))) := by
      show Rd _ _ _
      rw [HD1.out]; exact r5
     clear r5 HD1
     go_wp2
     exact ⟨⟨k + 1, by omega, by go_num, R5.out, HN, kc, bb⟩, by simp [intOf]; omega⟩
   ·have hrf : r = false := by
     cases hr : r with
     | false => rfl
     | true => exact absurd (HR.out.1 hr k hlt) hok
    have HRF := shut hrf
    obtain ⟨x, hx⟩ : ∃ x, x = lm (byts t) k := ⟨_, rfl⟩
    rw [← hx] at hok a1
    clear HA HR HM hx rn hrf
    have c0 := cel2_0' kc
    have c1 := cel2_1' kc
    have f0 := kc.frozen 0
    have f1 := kc.frozen 1
    by_cases y1 : x < 48
    ·have y1' : (x : Int) < 48 := by omega
     go_wp2
     exact post_z1 (p := 2) (u := 3) (by kernel_rfl) rfl rfl rfl ((kc.set 0 _).set 1 _) ⟨by rw [HZR.out, HER.out, HRF.out]; rfl, (bb.setCell (by simp) _).setCell (by simp) _⟩
    ·have y1' : ¬ (x : Int) < 48 := by omega
     have y2' : (x : Int) > 57 := by omega
     go_wp2
     exact post_z1 (p := 2) (u := 3) (by kernel_rfl) rfl rfl rfl ((kc.set 0 _).set 1 _) ⟨by rw [HZR.out, HER.out, HRF.out]; rfl, (bb.setCell (by simp) _).setCell (by simp) _⟩
  ·have hke : k = t.size := by omega
   have hrt : r = true := HR.out.2 (fun j hj => HA.out j (by omega))
   rw [hke] at rn
   have HK := shut (HM.out hrt _ wr rn)
   have HRT := shut hrt
   subst hke
   clear HA HR HM hrt rn
   generalize hRR : zI (sgn true (decTo (byts t) t.size)) = RR at *
   obtain ⟨za, zb, rfl⟩ : ∃ a b, RR = .agg #[.bool a, .string b] := ⟨_, _, hRR.symm⟩
   have HRR := shut hRR
   clear hRR
   go_wp2_with fail
   refine HK.out.mono ?_
   rintro e w6 ⟨rfl, b6⟩
   replace kc := kc.below b6
   replace bb := Below.after bb b6
   have c0 := cel2_0' kc
   have c1 := cel2_1' kc
   have f0 := kc.frozen 0
   have f1 := kc.frozen 1
   go_wp2
   exact post_z1 (p := 2) (u := 3) (by kernel_rfl) rfl rfl rfl ((kc.set 0 _).set 1 _) ⟨by rw [HZR.out, HER.out, if_pos HRT.out, if_pos HRT.out, HRR.out]; rfl, (bb.setCell (by simp) _).setCell (by simp) _⟩
end

section
open Go.RowKit Go.Shelf
set_option maxRecDepth 100000 in
set_option maxHeartbeats 4000000 in
theorem rpbad_pos (s : ByteArray) (w : World) (hn : ¬ (0 < s.size ∧ lm (byts s) 0 = 45)) (hb : s.size < 1 ∨ 60 < s.size ∨ (lm (byts s) 0 = 48 ∧ 1 < s.size)) :
  Calls Tryz.prog 30 #[.string s] w fun e w' => e = .returned (.tuple #[zI 0, .int .i64 4]) ∧ Below w.heap.size w w' := by
 by_cases h0 : s.size < 1
 ·obtain rfl : s = ⟨#[]⟩ := by
   obtain ⟨⟨l⟩⟩ := s
   cases l with
   | nil => rfl
   | cons x l => exact absurd h0 (by simp [ByteArray.size])
  clear hn hb h0
  go_enter Tryz.func30, Tryz.ntmps30
  go_wp2
  exact post_z1 (p := 2) (u := 3) (by kernel_rfl) rfl rfl rfl (Cel.new w _ _) ⟨rfl, (Below.refl _ _).alloc (Nat.le_refl _) _⟩
 have hs : 0 < s.size := by omega
 have p1 : ¬ (s[0]).toNat = 45 := fun h => hn ⟨hs, by rw [← byts_at s 0 hs]; exact h⟩
 have p2 : ¬ ((s[0]).toNat : Int) = 45 := by omega
 have p3 : ¬ s[0] = 45 := fun h => p1 (by rw [h]; rfl)
 have g0 : ¬ (s.size : Int) < 1 := by omega
 clear hn
 by_cases h1 : 60 < s.size
 ·have g1 : (s.size : Int) > 60 := by omega
  clear hb h0 h1
  go_enter Tryz.func30, Tryz.ntmps30
  go_wp2
  exact post_z1 (p := 2) (u := 3) (by kernel_rfl) rfl rfl rfl (Cel.new w _ _) ⟨rfl, (Below.refl _ _).alloc (Nat.le_refl _) _⟩
 ·have g1 : ¬ (s.size : Int) > 60 := by omega
  have h2 : lm (byts s) 0 = 48 ∧ 1 < s.size := by omega
  have k3 : (s[0]).toNat = 48 := by rw [byts_at s 0 hs, h2.1]
  have z1 : ((s[0]).toNat : Int) = 48 := by omega
  have z2 : s[0] = 48 := UInt8.toNat.inj k3
  have z3 : (s.size : Int) > 1 := by omega
  clear hb h0 h1 h2 k3
  go_enter Tryz.func30, Tryz.ntmps30
  go_wp2
  exact post_z1 (p := 2) (u := 3) (by kernel_rfl) rfl rfl rfl (Cel.new w _ _) ⟨rfl, (Below.refl _ _).alloc (Nat.le_refl _) _⟩

set_option maxRecDepth 100000 in
set_option maxHeartbeats 4000000 in
theorem rpbad_neg (s : ByteArray) (w : World) (hn : 0 < s.size ∧ lm (byts s) 0 = 45) (t : ByteArray) (ht : s.extract 1 s.size = t) (hb : t.size < 1 ∨ 60 < t.size ∨ lm (byts t) 0 = 48) :
  Calls Tryz.prog 30 #[.string s] w fun e w' => e = .returned (.tuple #[zI 0, .int .i64 4]) ∧ Below w.heap.size w w' := by
 obtain ⟨p0, hn2⟩ := hn
 have p1 : (s[0]).toNat = 45 := by rw [byts_at s 0 p0]; exact hn2
 have p2 : ((s[0]).toNat : Int) = 45 := by omega
 have p3 : s[0] = 45 := UInt8.toNat.inj p1
 have p5 : 1 ≤ s.size := p0
 have p6 : s.size - 1 = t.size := by rw [← ht, ByteArray.size_extract]; omega
 clear hn2
 by_cases h0 : t.size < 1
 ·have p7 : s.size = 1 := by omega
  obtain rfl : s = ⟨#[45]⟩ := by
   obtain ⟨⟨l⟩⟩ := s
   cases l with
   | nil => exact absurd p7 (by simp [ByteArray.size])
   | cons x l => cases l with
    | nil => exact congrArg (fun x => ByteArray.mk #[x]) (show x = 45 from p3)
    | cons y l => exact absurd p7 (by simp [ByteArray.size])
  clear hb h0 ht p0 p1 p2 p3 p5 p6 p7
  go_enter Tryz.func30, Tryz.ntmps30
  go_wp2
  exact post_z1 (p := 2) (u := 3) (by kernel_rfl) rfl rfl rfl (Cel.new w _ _) ⟨rfl, (Below.refl _ _).alloc (Nat.le_refl _) _⟩
 have hs : 0 < t.size := by omega
 have g0 : ¬ (t.size : Int) < 1 := by omega
 by_cases h1 : 60 < t.size
 ·have g1 : (t.size : Int) > 60 := by omega
  clear hb h0 h1
  go_enter Tryz.func30, Tryz.ntmps30
  go_wp2
  exact post_z1 (p := 2) (u := 3) (by kernel_rfl) rfl rfl rfl (Cel.new w _ _) ⟨rfl, (Below.refl _ _).alloc (Nat.le_refl _) _⟩
 ·have g1 : ¬ (t.size : Int) > 60 := by omega
  have h2 : lm (byts t) 0 = 48 := by omega
  have k3 : (t[0]).toNat = 48 := by rw [byts_at t 0 hs, h2]
  have z1 : ((t[0]).toNat : Int) = 48 := by omega
  have z2 : t[0] = 48 := UInt8.toNat.inj k3
  clear hb h0 h1 h2 k3
  go_enter Tryz.func30, Tryz.ntmps30
  go_wp2
  all_goals exact post_z1 (p := 2) (u := 3) (by kernel_rfl) rfl rfl rfl (Cel.new w _ _) ⟨rfl, (Below.refl _ _).alloc (Nat.le_refl _) _⟩
end

section
open Go.RowKit Go.Shelf
set_option maxRecDepth 100000 in
set_option maxHeartbeats 2000000 in
theorem parse_m0 (w : World) :
  Calls Tryz.prog 54 #[.string ⟨#[45, 48]⟩] w fun e w' => e = .returned (.tuple #[zI 0, .int .i64 4]) ∧ Below w.heap.size w w' := by
 have h : ¬ NatS (byts ⟨#[45, 48]⟩) := fun h => absurd (h.2.2.2 0 (by decide)).1 (by decide)
 have HI := shut (fun w => isnat_any ⟨#[45, 48]⟩ w false (by simp [h]))
 rw [zI_zero]
 clear h
 go_enter Tryz.func54, Tryz.ntmps54
 go_wp2_with fail
 obtain ⟨w0, hw0⟩ : ∃ w0, w0 = (w.alloc (.cells #[.bool false, .string { data := #[] }] 24)).alloc (.cells #[.bool false, .slice none 0 0] 89) := ⟨_, rfl⟩
 have k0 : Cel w0 w.heap.size [.bool false, .string { data := #[] }] 24 := by rw [hw0]; exact (Cel.new w _ _).alloc _
 have hb0 : Below w.heap.size w w0 := by rw [hw0]; go_grown
 rw [← hw0]
 clear hw0
 refine (strings_HasPrefix _ _ w0).mono ?_
 rintro e w1 ⟨rfl, hw⟩
 subst hw
 rw [show Lib.hasPrefix (ByteArray.mk #[45, 48]).data.toList (ByteArray.mk #[45]).data.toList = true from by decide]
 go_wp2_with fail
 refine (HI.out w1).mono ?_
 rintro e w2 ⟨rfl, b2⟩
 replace k0 := k0.below b2
 replace hb0 := Below.after hb0 b2
 clear b2
 have g0 := cel2_0' k0
 have g1 := cel2_1' k0
 have q0 := k0.frozen 0
 have q1 := k0.frozen 1
 go_wp2
 exact post_z1 (p := 2) (u := 3) (by kernel_rfl) rfl rfl rfl ((k0.set 0 _).set 1 _) ⟨rfl, (hb0.setCell (by simp) _).setCell (by simp) _⟩

theorem two_list (l : List UInt8) (h2 : l.length = 2) (h0 : lm (byts ⟨⟨l⟩⟩) 0 = 45) (h1 : lm (byts ((ByteArray.mk ⟨l⟩).extract 1 2)) 0 = 48) : ByteArray.mk ⟨l⟩ = ⟨#[45, 48]⟩ := by
 match l, h2, h0, h1 with
 | [x, y], _, h0, h1 =>
  have ex : x = 45 := UInt8.toNat.inj h0
  have ey : y = 48 := UInt8.toNat.inj h1
  rw [ex, ey]
theorem two_bytes (s : ByteArray) (h2 : s.size = 2) (h0 : lm (byts s) 0 = 45) (h1 : lm (byts (s.extract 1 2)) 0 = 48) : s = ⟨#[45, 48]⟩ := by
 obtain ⟨⟨l⟩⟩ := s
 exact two_list l h2 h0 h1

end
end Go.Proofs.YtdbnkcimcpnpdaaGreatDoor
namespace Go.Proofs.YtdbnkcimcpnpdaaGreatDoor
open Go.RowKit Go.Shelf

set_option maxRecDepth 100000 in
set_option maxHeartbeats 4000000 in
theorem qparse_nbad1 (nN : Bool) (s o u nS : ByteArray) (c : Int) (hc : ¬ c = 0) (w : World)
  (HC : Hid (∀ w1, Below w.heap.size w w1 → Calls Tryz.prog 53 #[.string s, .string ⟨#[47]⟩] w1 fun e w' => e = .returned (.tuple #[.string o, .string u, .bool true]) ∧ Below w1.heap.size w1 w'))
  (HN : Hid (∀ w1, Calls Tryz.prog 54 #[.string o] w1 fun e w' => e = .returned (.tuple #[.agg #[.bool nN, .string nS], .int .i64 c]) ∧ Below w1.heap.size w1 w')) :
  Calls Tryz.prog 23 #[.string s] w fun e w' => e = .returned (.tuple #[.agg #[.bool false, .string { data := #[] }, .string { data := #[] }], .int .i64 c]) ∧ Below w.heap.size w w' := by
 go_enter Tryz.func23, Tryz.ntmps23
 go_wp2_with fail
 go_fit (HC.out _ (ba (Below.refl _ _) _))
 rintro e w1 ⟨rfl, b1⟩
 obtain ⟨kr, b1⟩ := al1 b1
 have sz := b1.size
 have bb := b1
 clear b1
 have tr := kr.lt
 go_wp2_with fail
 go_fit (HN.out _)
 rintro e w2 ⟨rfl, b1⟩
 have sz := b1.size
 replace kr := kr.below b1
 replace bb := Below.after bb b1
 clear b1
 have cr_0 := cel3_0 kr
 have fr_1 := Cel.frozen kr 0
 have cr_2 := cel3_1 kr
 have fr_3 := Cel.frozen kr 1
 have cr_4 := cel3_2 kr
 have fr_5 := Cel.frozen kr 2
 have cr_6 := cel3_0 (kr.alloc (.cells #[.bool nN, .string nS] 24))
 have fr_7 := Cel.frozen (kr.alloc (.cells #[.bool nN, .string nS] 24)) 0
 have cr_8 := cel3_1 (kr.alloc (.cells #[.bool nN, .string nS] 24))
 have fr_9 := Cel.frozen (kr.alloc (.cells #[.bool nN, .string nS] 24)) 1
 have cr_10 := cel3_2 (kr.alloc (.cells #[.bool nN, .string nS] 24))
 have fr_11 := Cel.frozen (kr.alloc (.cells #[.bool nN, .string nS] 24)) 2
 go_wp2
 exact post_q1 (p := 2) (u := 3) (by kernel_rfl) rfl rfl rfl ((((kr.alloc _).set 0 _).set 1 _).set 2 _) ⟨rfl, bset (bset (bset (ba bb _) (by omega) 0 _) (by omega) 1 _) (by omega) 2 _⟩
set_option maxRecDepth 100000 in
set_option maxHeartbeats 4000000 in
theorem qparse_nbad0 (nN : Bool) (s o u nS : ByteArray) (c : Int) (hc : ¬ c = 0) (w : World)
  (HC : Hid (∀ w1, Below w.heap.size w w1 → Calls Tryz.prog 53 #[.string s, .string ⟨#[47]⟩] w1 fun e w' => e = .returned (.tuple #[.string o, .string u, .bool false]) ∧ Below w1.heap.size w1 w'))
  (HN : Hid (∀ w1, Calls Tryz.prog 54 #[.string o] w1 fun e w' => e = .returned (.tuple #[.agg #[.bool nN, .string nS], .int .i64 c]) ∧ Below w1.heap.size w1 w')) :
  Calls Tryz.prog 23 #[.string s] w fun e w' => e = .returned (.tuple #[.agg #[.bool false, .string { data := #[] }, .string { data := #[] }], .int .i64 c]) ∧ Below w.heap.size w w' := by
 go_enter Tryz.func23, Tryz.ntmps23
 go_wp2_with fail
 go_fit (HC.out _ (ba (Below.refl _ _) _))
 rintro e w1 ⟨rfl, b1⟩
 obtain ⟨kr, b1⟩ := al1 b1
 have sz := b1.size
 have bb := b1
 clear b1
 have tr := kr.lt
 go_wp2_with fail
 go_fit (HN.out _)
 rintro e w2 ⟨rfl, b1⟩
 have sz := b1.size
 replace kr := kr.below b1
 replace bb := Below.after bb b1
 clear b1
 have cr_0 := cel3_0 kr
 have fr_1 := Cel.frozen kr 0
 have cr_2 := cel3_1 kr
 have fr_3 := Cel.frozen kr 1
 have cr_4 := cel3_2 kr
 have fr_5 := Cel.frozen kr 2
 have cr_6 := cel3_0 (kr.alloc (.cells #[.bool nN, .string nS] 24))
 have fr_7 := Cel.frozen (kr.alloc (.cells #[.bool nN, .string nS] 24)) 0
 have cr_8 := cel3_1 (kr.alloc (.cells #[.bool nN, .string nS] 24))
 have fr_9 := Cel.frozen (kr.alloc (.cells #[.bool nN, .string nS] 24)) 1
 have cr_10 := cel3_2 (kr.alloc (.cells #[.bool nN, .string nS] 24))
 have fr_11 := Cel.frozen (kr.alloc (.cells #[.bool nN, .string nS] 24)) 2
 go_wp2
 exact post_q1 (p := 2) (u := 3) (by kernel_rfl) rfl rfl rfl ((((kr.alloc _).set 0 _).set 1 _).set 2 _) ⟨rfl, bset (bset (bset (ba bb _) (by omega) 0 _) (by omega) 1 _) (by omega) 2 _⟩
set_option maxRecDepth 100000 in
set_option maxHeartbeats 4000000 in
theorem qparse_dbad1 (nN : Bool) (s o u nS : ByteArray) (dN : Bool) (dS : ByteArray) (c : Int) (hc : ¬ c = 0) (w : World)
  (HC : Hid (∀ w1, Below w.heap.size w w1 → Calls Tryz.prog 53 #[.string s, .string ⟨#[47]⟩] w1 fun e w' => e = .returned (.tuple #[.string o, .string u, .bool true]) ∧ Below w1.heap.size w1 w'))
  (HN : Hid (∀ w1, Calls Tryz.prog 54 #[.string o] w1 fun e w' => e = .returned (.tuple #[.agg #[.bool nN, .string nS], .int .i64 0]) ∧ Below w1.heap.size w1 w'))
  (HD : Hid (∀ w1, Calls Tryz.prog 54 #[.string u] w1 fun e w' => e = .returned (.tuple #[.agg #[.bool dN, .string dS], .int .i64 c]) ∧ Below w1.heap.size w1 w')) :
  Calls Tryz.prog 23 #[.string s] w fun e w' => e = .returned (.tuple #[.agg #[.bool false, .string { data := #[] }, .string { data := #[] }], .int .i64 4]) ∧ Below w.heap.size w w' := by
 go_enter Tryz.func23, Tryz.ntmps23
 go_wp2_with fail
 go_fit (HC.out _ (ba (Below.refl _ _) _))
 rintro e w1 ⟨rfl, b1⟩
 obtain ⟨kr, b1⟩ := al1 b1
 have sz := b1.size
 have bb := b1
 clear b1
 have tr := kr.lt
 go_wp2_with fail
 go_fit (HN.out _)
 rintro e w2 ⟨rfl, b1⟩
 have sz := b1.size
 replace kr := kr.below b1
 replace bb := Below.after bb b1
 clear b1
 go_wp2_with fail
 go_fit (HD.out _)
 rintro e w3 ⟨rfl, b1⟩
 obtain ⟨kn, b1⟩ := al1 b1
 have sz := b1.size
 replace kr := kr.below b1
 replace bb := Below.after bb b1
 clear b1
 have tn := kn.lt
 have cr_0 := cel3_0 kr
 have fr_1 := Cel.frozen kr 0
 have cr_2 := cel3_1 kr
 have fr_3 := Cel.frozen kr 1
 have cr_4 := cel3_2 kr
 have fr_5 := Cel.frozen kr 2
 have cr_6 := cel3_0 (kr.alloc (.cells #[.bool dN, .string dS] 24))
 have fr_7 := Cel.frozen (kr.alloc (.cells #[.bool dN, .string dS] 24)) 0
 have cr_8 := cel3_1 (kr.alloc (.cells #[.bool dN, .string dS] 24))
 have fr_9 := Cel.frozen (kr.alloc (.cells #[.bool dN, .string dS] 24)) 1
 have cr_10 := cel3_2 (kr.alloc (.cells #[.bool dN, .string dS] 24))
 have fr_11 := Cel.frozen (kr.alloc (.cells #[.bool dN, .string dS] 24)) 2
 go_wp2
 exact post_q1 (p := 2) (u := 3) (by kernel_rfl) rfl rfl rfl ((((kr.alloc _).set 0 _).set 1 _).set 2 _) ⟨rfl, bset (bset (bset (ba bb _) (by omega) 0 _) (by omega) 1 _) (by omega) 2 _⟩
set_option maxRecDepth 100000 in
set_option maxHeartbeats 4000000 in
theorem qparse_dbad2 (nN : Bool) (s o u nS : ByteArray) (dS : ByteArray) (w : World)
  (HC : Hid (∀ w1, Below w.heap.size w w1 → Calls Tryz.prog 53 #[.string s, .string ⟨#[47]⟩] w1 fun e w' => e = .returned (.tuple #[.string o, .string u, .bool true]) ∧ Below w1.heap.size w1 w'))
  (HN : Hid (∀ w1, Calls Tryz.prog 54 #[.string o] w1 fun e w' => e = .returned (.tuple #[.agg #[.bool nN, .string nS], .int .i64 0]) ∧ Below w1.heap.size w1 w'))
  (HD : Hid (∀ w1, Calls Tryz.prog 54 #[.string u] w1 fun e w' => e = .returned (.tuple #[.agg #[.bool true, .string dS], .int .i64 0]) ∧ Below w1.heap.size w1 w')) :
  Calls Tryz.prog 23 #[.string s] w fun e w' => e = .returned (.tuple #[.agg #[.bool false, .string { data := #[] }, .string { data := #[] }], .int .i64 4]) ∧ Below w.heap.size w w' := by
 go_enter Tryz.func23, Tryz.ntmps23
 go_wp2_with fail
 go_fit (HC.out _ (ba (Below.refl _ _) _))
 rintro e w1 ⟨rfl, b1⟩
 obtain ⟨kr, b1⟩ := al1 b1
 have sz := b1.size
 have bb := b1
 clear b1
 have tr := kr.lt
 go_wp2_with fail
 go_fit (HN.out _)
 rintro e w2 ⟨rfl, b1⟩
 have sz := b1.size
 replace kr := kr.below b1
 replace bb := Below.after bb b1
 clear b1
 go_wp2_with fail
 go_fit (HD.out _)
 rintro e w3 ⟨rfl, b1⟩
 obtain ⟨kn, b1⟩ := al1 b1
 have sz := b1.size
 replace kr := kr.below b1
 replace bb := Below.after bb b1
 clear b1
 have tn := kn.lt
 have cr_0 := cel3_0 kr
 have fr_1 := Cel.frozen kr 0
 have cr_2 := cel3_1 kr
 have fr_3 := Cel.frozen kr 1
 have cr_4 := cel3_2 kr
 have fr_5 := Cel.frozen kr 2
 have cr_6 := cel3_0 (kr.alloc (.cells #[.bool true, .string dS] 24))
 have fr_7 := Cel.frozen (kr.alloc (.cells #[.bool true, .string dS] 24)) 0
 have cr_8 := cel3_1 (kr.alloc (.cells #[.bool true, .string dS] 24))
 have fr_9 := Cel.frozen (kr.alloc (.cells #[.bool true, .string dS] 24)) 1
 have cr_10 := cel3_2 (kr.alloc (.cells #[.bool true, .string dS] 24))
 have fr_11 := Cel.frozen (kr.alloc (.cells #[.bool true, .string dS] 24)) 2
 go_wp2
 exact post_q1 (p := 2) (u := 3) (by kernel_rfl) rfl rfl rfl ((((kr.alloc _).set 0 _).set 1 _).set 2 _) ⟨rfl, bset (bset (bset (ba bb _) (by omega) 0 _) (by omega) 1 _) (by omega) 2 _⟩
set_option maxRecDepth 100000 in
set_option maxHeartbeats 4000000 in
theorem qparse_dbad3 (nN : Bool) (s o u nS : ByteArray) (w : World)
  (HC : Hid (∀ w1, Below w.heap.size w w1 → Calls Tryz.prog 53 #[.string s, .string ⟨#[47]⟩] w1 fun e w' => e = .returned (.tuple #[.string o, .string u, .bool true]) ∧ Below w1.heap.size w1 w'))
  (HN : Hid (∀ w1, Calls Tryz.prog 54 #[.string o] w1 fun e w' => e = .returned (.tuple #[.agg #[.bool nN, .string nS], .int .i64 0]) ∧ Below w1.heap.size w1 w'))
  (HD : Hid (∀ w1, Calls Tryz.prog 54 #[.string u] w1 fun e w' => e = .returned (.tuple #[.agg #[.bool false, .string { data := #[] }], .int .i64 0]) ∧ Below w1.heap.size w1 w')) :
  Calls Tryz.prog 23 #[.string s] w fun e w' => e = .returned (.tuple #[.agg #[.bool false, .string { data := #[] }, .string { data := #[] }], .int .i64 4]) ∧ Below w.heap.size w w' := by
 go_enter Tryz.func23, Tryz.ntmps23
 go_wp2_with fail
 go_fit (HC.out _ (ba (Below.refl _ _) _))
 rintro e w1 ⟨rfl, b1⟩
 obtain ⟨kr, b1⟩ := al1 b1
 have sz := b1.size
 have bb := b1
 clear b1
 have tr := kr.lt
 go_wp2_with fail
 go_fit (HN.out _)
 rintro e w2 ⟨rfl, b1⟩
 have sz := b1.size
 replace kr := kr.below b1
 replace bb := Below.after bb b1
 clear b1
 go_wp2_with fail
 go_fit (HD.out _)
 rintro e w3 ⟨rfl, b1⟩
 obtain ⟨kn, b1⟩ := al1 b1
 have sz := b1.size
 replace kr := kr.below b1
 replace bb := Below.after bb b1
 clear b1
 have tn := kn.lt
 have cr_0 := cel3_0 kr
 have fr_1 := Cel.frozen kr 0
 have cr_2 := cel3_1 kr
 have fr_3 := Cel.frozen kr 1
 have cr_4 := cel3_2 kr
 have fr_5 := Cel.frozen kr 2
 have cr_6 := cel3_0 (kr.alloc (.cells #[.bool false, .string { data := #[] }] 24))
 have fr_7 := Cel.frozen (kr.alloc (.cells #[.bool false, .string { data := #[] }] 24)) 0
 have cr_8 := cel3_1 (kr.alloc (.cells #[.bool false, .string { data := #[] }] 24))
 have fr_9 := Cel.frozen (kr.alloc (.cells #[.bool false, .string { data := #[] }] 24)) 1
 have cr_10 := cel3_2 (kr.alloc (.cells #[.bool false, .string { data := #[] }] 24))
 have fr_11 := Cel.frozen (kr.alloc (.cells #[.bool false, .string { data := #[] }] 24)) 2
 go_wp2
 exact post_q1 (p := 2) (u := 3) (by kernel_rfl) rfl rfl rfl ((((kr.alloc _).set 0 _).set 1 _).set 2 _) ⟨rfl, bset (bset (bset (ba bb _) (by omega) 0 _) (by omega) 1 _) (by omega) 2 _⟩
end Go.Proofs.YtdbnkcimcpnpdaaGreatDoor
namespace Go.Proofs.YtdbnkcimcpnpdaaGreatDoor
open Go.RowKit Go.Shelf

set_option maxRecDepth 100000 in
set_option maxHeartbeats 8000000 in
theorem rparseq_a0 (s : ByteArray) (hz : s.size ≤ 9223372036854775807) (hA : ∀ (i : Nat) (h : i < s.size), ¬ s[i]'h = 47) (nN : Bool) (nS : ByteArray) (c : Int) (hc : ¬ c = 0) (w : World)
  (HN : Hid (∀ w1, Calls Tryz.prog 30 #[.string s] w1 fun e w' => e = .returned (.tuple #[.agg #[.bool nN, .string nS], .int .i64 c]) ∧ Below w1.heap.size w1 w')) :
  Calls Tryz.prog 24 #[.string s] w fun e w' => e = .returned (.tuple #[.agg #[.bool false, .string { data := #[] }, .string { data := #[] }], .int .i64 c]) ∧ Below w.heap.size w w' := by
 go_enter Tryz.func24, Tryz.ntmps24
 go_wp2_with fail
 obtain ⟨w1, hw, kr, b1⟩ := mk1 w [.bool false, .string { data := #[] }, .string { data := #[] }] 26
 rw [← hw]
 clear hw
 have sz := b1.size
 have tr := kr.lt
 have bb := b1
 clear b1
 go_wp2
 go_loopw [4, 5] (fun av iv wr => ∃ i : Nat, av = .int .i64 (-1) ∧ iv = .int .i64 (i : Int) ∧ i ≤ s.size ∧ wr = w1) (fun _ iv _ => s.size - (intOf iv).toNat)
 case atStart => exact ⟨0, rfl, rfl, by omega, rfl⟩
 case round =>
  obtain ⟨i, rfl, rfl, hi, rfl⟩ := hrel
  by_cases hlt : i < s.size
  ·have hlt' : (i : Int) < (s.size : Int) := by omega
   have p3 := hA i hlt
   have p2 : ¬ ((s[i]).toNat : Int) = 47 := fun h => p3 (UInt8.toNat.inj (by show _ = 47; omega))
   clear hA
   go_wp2
   refine ⟨⟨i + 1, rfl, by simp, by omega, by first | rfl | trivial⟩, ?_⟩
   simp [intOf]; omega
  ·have hge : ¬ (i : Int) < (s.size : Int) := by omega
   clear hA
   go_wp2_with fail
   go_fit (HN.out _)
   rintro e w2 ⟨rfl, b1⟩
   have sz := b1.size
   replace kr := kr.below b1
   replace bb := Below.after bb b1
   clear b1
   have cr_0 := cel3_0 kr
   have fr_1 := Cel.frozen kr 0
   have cr_2 := cel3_1 kr
   have fr_3 := Cel.frozen kr 1
   have cr_4 := cel3_2 kr
   have fr_5 := Cel.frozen kr 2
   have cr_6 := cel3_0 (kr.alloc (.cells #[.bool nN, .string nS] 24))
   have fr_7 := Cel.frozen (kr.alloc (.cells #[.bool nN, .string nS] 24)) 0
   have cr_8 := cel3_1 (kr.alloc (.cells #[.bool nN, .string nS] 24))
   have fr_9 := Cel.frozen (kr.alloc (.cells #[.bool nN, .string nS] 24)) 1
   have cr_10 := cel3_2 (kr.alloc (.cells #[.bool nN, .string nS] 24))
   have fr_11 := Cel.frozen (kr.alloc (.cells #[.bool nN, .string nS] 24)) 2
   go_wp2
   exact post_q1 (p := 2) (u := 3) (by kernel_rfl) rfl rfl rfl ((((kr.alloc _).set 0 _).set 1 _).set 2 _) ⟨rfl, bset (bset (bset (ba bb _) (by omega) 0 _) (by omega) 1 _) (by omega) 2 _⟩
set_option maxRecDepth 100000 in
set_option maxHeartbeats 8000000 in
theorem rparseq_a1 (s : ByteArray) (hz : s.size ≤ 9223372036854775807) (hA : ∀ (i : Nat) (h : i < s.size), ¬ s[i]'h = 47) (nN : Bool) (nS : ByteArray) (w : World)
  (HN : Hid (∀ w1, Calls Tryz.prog 30 #[.string s] w1 fun e w' => e = .returned (.tuple #[.agg #[.bool nN, .string nS], .int .i64 0]) ∧ Below w1.heap.size w1 w')) :
  Calls Tryz.prog 24 #[.string s] w fun e w' => e = .returned (.tuple #[.agg #[.bool nN, .string nS, .string ⟨#[1]⟩], .int .i64 0]) ∧ Below w.heap.size w w' := by
 go_enter Tryz.func24, Tryz.ntmps24
 go_wp2_with fail
 obtain ⟨w1, hw, kr, b1⟩ := mk1 w [.bool false, .string { data := #[] }, .string { data := #[] }] 26
 rw [← hw]
 clear hw
 have sz := b1.size
 have tr := kr.lt
 have bb := b1
 clear b1
 go_wp2
 go_loopw [4, 5] (fun av iv wr => ∃ i : Nat, av = .int .i64 (-1) ∧ iv = .int .i64 (i : Int) ∧ i ≤ s.size ∧ wr = w1) (fun _ iv _ => s.size - (intOf iv).toNat)
 case atStart => exact ⟨0, rfl, rfl, by omega, rfl⟩
 case round =>
  obtain ⟨i, rfl, rfl, hi, rfl⟩ := hrel
  by_cases hlt : i < s.size
  ·have hlt' : (i : Int) < (s.size : Int) := by omega
   have p3 := hA i hlt
   have p2 : ¬ ((s[i]).toNat : Int) = 47 := fun h => p3 (UInt8.toNat.inj (by show _ = 47; omega))
   clear hA
   go_wp2
   refine ⟨⟨i + 1, rfl, by simp, by omega, by first | rfl | trivial⟩, ?_⟩
   simp [intOf]; omega
  ·have hge : ¬ (i : Int) < (s.size : Int) := by omega
   clear hA
   go_wp2_with fail
   go_fit (HN.out _)
   rintro e w2 ⟨rfl, b1⟩
   have sz := b1.size
   replace kr := kr.below b1
   replace bb := Below.after bb b1
   clear b1
   have cr_0 := cel3_0 kr
   have fr_1 := Cel.frozen kr 0
   have cr_2 := cel3_1 kr
   have fr_3 := Cel.frozen kr 1
   have cr_4 := cel3_2 kr
   have fr_5 := Cel.frozen kr 2
   have cr_6 := cel3_0 (kr.alloc (.cells #[.bool nN, .string nS] 24))
   have fr_7 := Cel.frozen (kr.alloc (.cells #[.bool nN, .string nS] 24)) 0
   have cr_8 := cel3_1 (kr.alloc (.cells #[.bool nN, .string nS] 24))
   have fr_9 := Cel.frozen (kr.alloc (.cells #[.bool nN, .string nS] 24)) 1
   have cr_10 := cel3_2 (kr.alloc (.cells #[.bool nN, .string nS] 24))
   have fr_11 := Cel.frozen (kr.alloc (.cells #[.bool nN, .string nS] 24)) 2
   go_wp2
   exact post_q1 (p := 2) (u := 3) (by kernel_rfl) rfl rfl rfl ((((kr.alloc _).set 0 _).set 1 _).set 2 _) ⟨rfl, bset (bset (bset (ba bb _) (by omega) 0 _) (by omega) 1 _) (by omega) 2 _⟩
set_option maxRecDepth 100000 in
set_option maxHeartbeats 8000000 in
theorem rparseq_b0 (s o u : ByteArray) (hz : s.size ≤ 9223372036854775807) (K : Nat) (hK : K < s.size) (hB : ∀ (i : Nat) (h : i < K), ¬ s[i]'(Nat.lt_trans h hK) = 47) (hk : s[K]'hK = 47) (HO : Hid (s.extract 0 K = o)) (HU : Hid (s.extract (K + 1) s.size = u)) (nN : Bool) (nS : ByteArray) (dN : Bool) (dS : ByteArray) (c c2 : Int) (hc : ¬ c = 0) (w : World)
  (HN : Hid (∀ w1, Calls Tryz.prog 30 #[.string o] w1 fun e w' => e = .returned (.tuple #[.agg #[.bool nN, .string nS], .int .i64 c]) ∧ Below w1.heap.size w1 w'))
  (HD : Hid (∀ w1, Calls Tryz.prog 30 #[.string u] w1 fun e w' => e = .returned (.tuple #[.agg #[.bool dN, .string dS], .int .i64 c2]) ∧ Below w1.heap.size w1 w')) :
  Calls Tryz.prog 24 #[.string s] w fun e w' => e = .returned (.tuple #[.agg #[.bool false, .string { data := #[] }, .string { data := #[] }], .int .i64 4]) ∧ Below w.heap.size w w' := by
 go_enter Tryz.func24, Tryz.ntmps24
 go_wp2_with fail
 obtain ⟨w1, hw, kr, b1⟩ := mk1 w [.bool false, .string { data := #[] }, .string { data := #[] }] 26
 rw [← hw]
 clear hw
 have sz := b1.size
 have tr := kr.lt
 have bb := b1
 clear b1
 go_wp2
 go_loopw [4, 5] (fun av iv wr => ∃ i : Nat, ((i ≤ K ∧ av = .int .i64 (-1)) ∨ (K < i ∧ av = .int .i64 (K : Int))) ∧ iv = .int .i64 (i : Int) ∧ i ≤ s.size ∧ wr = w1) (fun _ iv _ => s.size - (intOf iv).toNat)
 case atStart => exact ⟨0, Or.inl ⟨by omega, rfl⟩, rfl, by omega, rfl⟩
 case round =>
  obtain ⟨i, hcase, rfl, hi, rfl⟩ := hrel
  by_cases hlt : i < s.size
  ·have hlt' : (i : Int) < (s.size : Int) := by omega
   rcases hcase with ⟨hc, rfl⟩ | ⟨hc, rfl⟩
   ·by_cases hk0 : i < K
    ·have p3 := hB i hk0
     have p2 : ¬ ((s[i]).toNat : Int) = 47 := fun h => p3 (UInt8.toNat.inj (by show _ = 47; omega))
     clear hB hk
     go_wp2
     refine ⟨⟨i + 1, Or.inl ⟨by omega, rfl⟩, by simp, by omega, by first | rfl | trivial⟩, ?_⟩
     simp [intOf]; omega
    ·obtain rfl : i = K := by omega
     have p2 : ((s[i]).toNat : Int) = 47 := by rw [hk]; rfl
     clear hB
     go_wp2
     refine ⟨⟨i + 1, Or.inr ⟨by omega, rfl⟩, by simp, by omega, by first | rfl | trivial⟩, ?_⟩
     simp [intOf]; omega
   ·have q1 : ¬ ((K : Int) < 0) := by omega
    clear hB hk
    by_cases p3 : s[i] = 47
    ·have p2 : ((s[i]).toNat : Int) = 47 := by rw [p3]; rfl
     go_wp2
     refine ⟨⟨i + 1, Or.inr ⟨by omega, rfl⟩, by simp, by omega, by first | rfl | trivial⟩, ?_⟩
     simp [intOf]; omega
    ·have p2 : ¬ ((s[i]).toNat : Int) = 47 := fun h => p3 (UInt8.toNat.inj (by show _ = 47; omega))
     go_wp2
     refine ⟨⟨i + 1, Or.inr ⟨by omega, rfl⟩, by simp, by omega, by first | rfl | trivial⟩, ?_⟩
     simp [intOf]; omega
  ·have hge : ¬ (i : Int) < (s.size : Int) := by omega
   rcases hcase with ⟨hc, rfl⟩ | ⟨hc, rfl⟩
   ·omega
   have q1 : ¬ ((K : Int) < 0) := by omega
   have q2 : (K : Int) ≤ (s.size : Int) := by omega
   have q3 : (K : Int) + 1 ≤ (s.size : Int) := by omega
   have q4 : (s.size : Int) ≤ 9223372036854775807 := by omega
   clear hB hk
   have hO := HO.out
   have hU := HU.out
   go_wp2_with fail
   go_fit (HN.out _)
   rintro e w2 ⟨rfl, b1⟩
   have sz := b1.size
   replace kr := kr.below b1
   replace bb := Below.after bb b1
   clear b1
   go_wp2_with fail
   go_fit (HD.out _)
   rintro e w3 ⟨rfl, b1⟩
   obtain ⟨kn, b1⟩ := al1 b1
   have sz := b1.size
   replace kr := kr.below b1
   replace bb := Below.after bb b1
   clear b1
   have tn := kn.lt
   have cr_0 := cel3_0 kr
   have fr_1 := Cel.frozen kr 0
   have cr_2 := cel3_1 kr
   have fr_3 := Cel.frozen kr 1
   have cr_4 := cel3_2 kr
   have fr_5 := Cel.frozen kr 2
   have cr_6 := cel3_0 (kr.alloc (.cells #[.bool dN, .string dS] 24))
   have fr_7 := Cel.frozen (kr.alloc (.cells #[.bool dN, .string dS] 24)) 0
   have cr_8 := cel3_1 (kr.alloc (.cells #[.bool dN, .string dS] 24))
   have fr_9 := Cel.frozen (kr.alloc (.cells #[.bool dN, .string dS] 24)) 1
   have cr_10 := cel3_2 (kr.alloc (.cells #[.bool dN, .string dS] 24))
   have fr_11 := Cel.frozen (kr.alloc (.cells #[.bool dN, .string dS] 24)) 2
   go_wp2
   exact post_q1 (p := 2) (u := 3) (by kernel_rfl) rfl rfl rfl ((((kr.alloc _).set 0 _).set 1 _).set 2 _) ⟨rfl, bset (bset (bset (ba bb _) (by omega) 0 _) (by omega) 1 _) (by omega) 2 _⟩
set_option maxRecDepth 100000 in
set_option maxHeartbeats 8000000 in
theorem rparseq_b1 (s o u : ByteArray) (hz : s.size ≤ 9223372036854775807) (K : Nat) (hK : K < s.size) (hB : ∀ (i : Nat) (h : i < K), ¬ s[i]'(Nat.lt_trans h hK) = 47) (hk : s[K]'hK = 47) (HO : Hid (s.extract 0 K = o)) (HU : Hid (s.extract (K + 1) s.size = u)) (nN : Bool) (nS : ByteArray) (dN : Bool) (dS : ByteArray) (c : Int) (hc : ¬ c = 0) (w : World)
  (HN : Hid (∀ w1, Calls Tryz.prog 30 #[.string o] w1 fun e w' => e = .returned (.tuple #[.agg #[.bool nN, .string nS], .int .i64 0]) ∧ Below w1.heap.size w1 w'))
  (HD : Hid (∀ w1, Calls Tryz.prog 30 #[.string u] w1 fun e w' => e = .returned (.tuple #[.agg #[.bool dN, .string dS], .int .i64 c]) ∧ Below w1.heap.size w1 w')) :
  Calls Tryz.prog 24 #[.string s] w fun e w' => e = .returned (.tuple #[.agg #[.bool false, .string { data := #[] }, .string { data := #[] }], .int .i64 4]) ∧ Below w.heap.size w w' := by
 go_enter Tryz.func24, Tryz.ntmps24
 go_wp2_with fail
 obtain ⟨w1, hw, kr, b1⟩ := mk1 w [.bool false, .string { data := #[] }, .string { data := #[] }] 26
 rw [← hw]
 clear hw
 have sz := b1.size
 have tr := kr.lt
 have bb := b1
 clear b1
 go_wp2
 go_loopw [4, 5] (fun av iv wr => ∃ i : Nat, ((i ≤ K ∧ av = .int .i64 (-1)) ∨ (K < i ∧ av = .int .i64 (K : Int))) ∧ iv = .int .i64 (i : Int) ∧ i ≤ s.size ∧ wr = w1) (fun _ iv _ => s.size - (intOf iv).toNat)
 case atStart => exact ⟨0, Or.inl ⟨by omega, rfl⟩, rfl, by omega, rfl⟩
 case round =>
  obtain ⟨i, hcase, rfl, hi, rfl⟩ := hrel
  by_cases hlt : i < s.size
  ·have hlt' : (i : Int) < (s.size : Int) := by omega
   rcases hcase with ⟨hc, rfl⟩ | ⟨hc, rfl⟩
   ·by_cases hk0 : i < K
    ·have p3 := hB i hk0
     have p2 : ¬ ((s[i]).toNat : Int) = 47 := fun h => p3 (UInt8.toNat.inj (by show _ = 47; omega))
     clear hB hk
     go_wp2
     refine ⟨⟨i + 1, Or.inl ⟨by omega, rfl⟩, by simp, by omega, by first | rfl | trivial⟩, ?_⟩
     simp [intOf]; omega
    ·obtain rfl : i = K := by omega
     have p2 : ((s[i]).toNat : Int) = 47 := by rw [hk]; rfl
     clear hB
     go_wp2
     refine ⟨⟨i + 1, Or.inr ⟨by omega, rfl⟩, by simp, by omega, by first | rfl | trivial⟩, ?_⟩
     simp [intOf]; omega
   ·have q1 : ¬ ((K : Int) < 0) := by omega
    clear hB hk
    by_cases p3 : s[i] = 47
    ·have p2 : ((s[i]).toNat : Int) = 47 := by rw [p3]; rfl
     go_wp2
     refine ⟨⟨i + 1, Or.inr ⟨by omega, rfl⟩, by simp, by omega, by first | rfl | trivial⟩, ?_⟩
     simp [intOf]; omega
    ·have p2 : ¬ ((s[i]).toNat : Int) = 47 := fun h => p3 (UInt8.toNat.inj (by show _ = 47; omega))
     go_wp2
     refine ⟨⟨i + 1, Or.inr ⟨by omega, rfl⟩, by simp, by omega, by first | rfl | trivial⟩, ?_⟩
     simp [intOf]; omega
  ·have hge : ¬ (i : Int) < (s.size : Int) := by omega
   rcases hcase with ⟨hc, rfl⟩ | ⟨hc, rfl⟩
   ·omega
   have q1 : ¬ ((K : Int) < 0) := by omega
   have q2 : (K : Int) ≤ (s.size : Int) := by omega
   have q3 : (K : Int) + 1 ≤ (s.size : Int) := by omega
   have q4 : (s.size : Int) ≤ 9223372036854775807 := by omega
   clear hB hk
   have hO := HO.out
   have hU := HU.out
   go_wp2_with fail
   go_fit (HN.out _)
   rintro e w2 ⟨rfl, b1⟩
   have sz := b1.size
   replace kr := kr.below b1
   replace bb := Below.after bb b1
   clear b1
   go_wp2_with fail
   go_fit (HD.out _)
   rintro e w3 ⟨rfl, b1⟩
   obtain ⟨kn, b1⟩ := al1 b1
   have sz := b1.size
   replace kr := kr.below b1
   replace bb := Below.after bb b1
   clear b1
   have tn := kn.lt
   have cr_0 := cel3_0 kr
   have fr_1 := Cel.frozen kr 0
   have cr_2 := cel3_1 kr
   have fr_3 := Cel.frozen kr 1
   have cr_4 := cel3_2 kr
   have fr_5 := Cel.frozen kr 2
   have cr_6 := cel3_0 (kr.alloc (.cells #[.bool dN, .string dS] 24))
   have fr_7 := Cel.frozen (kr.alloc (.cells #[.bool dN, .string dS] 24)) 0
   have cr_8 := cel3_1 (kr.alloc (.cells #[.bool dN, .string dS] 24))
   have fr_9 := Cel.frozen (kr.alloc (.cells #[.bool dN, .string dS] 24)) 1
   have cr_10 := cel3_2 (kr.alloc (.cells #[.bool dN, .string dS] 24))
   have fr_11 := Cel.frozen (kr.alloc (.cells #[.bool dN, .string dS] 24)) 2
   go_wp2
   exact post_q1 (p := 2) (u := 3) (by kernel_rfl) rfl rfl rfl ((((kr.alloc _).set 0 _).set 1 _).set 2 _) ⟨rfl, bset (bset (bset (ba bb _) (by omega) 0 _) (by omega) 1 _) (by omega) 2 _⟩
set_option maxRecDepth 100000 in
set_option maxHeartbeats 8000000 in
theorem rparseq_b2 (s o u : ByteArray) (hz : s.size ≤ 9223372036854775807) (K : Nat) (hK : K < s.size) (hB : ∀ (i : Nat) (h : i < K), ¬ s[i]'(Nat.lt_trans h hK) = 47) (hk : s[K]'hK = 47) (HO : Hid (s.extract 0 K = o)) (HU : Hid (s.extract (K + 1) s.size = u)) (nN : Bool) (nS : ByteArray) (dS : ByteArray) (w : World)
  (HN : Hid (∀ w1, Calls Tryz.prog 30 #[.string o] w1 fun e w' => e = .returned (.tuple #[.agg #[.bool nN, .string nS], .int .i64 0]) ∧ Below w1.heap.size w1 w'))
  (HD : Hid (∀ w1, Calls Tryz.prog 30 #[.string u] w1 fun e w' => e = .returned (.tuple #[.agg #[.bool true, .string dS], .int .i64 0]) ∧ Below w1.heap.size w1 w')) :
  Calls Tryz.prog 24 #[.string s] w fun e w' => e = .returned (.tuple #[.agg #[.bool false, .string { data := #[] }, .string { data := #[] }], .int .i64 4]) ∧ Below w.heap.size w w' := by
 go_enter Tryz.func24, Tryz.ntmps24
 go_wp2_with fail
 obtain ⟨w1, hw, kr, b1⟩ := mk1 w [.bool false, .string { data := #[] }, .string { data := #[] }] 26
 rw [← hw]
 clear hw
 have sz := b1.size
 have tr := kr.lt
 have bb := b1
 clear b1
 go_wp2
 go_loopw [4, 5] (fun av iv wr => ∃ i : Nat, ((i ≤ K ∧ av = .int .i64 (-1)) ∨ (K < i ∧ av = .int .i64 (K : Int))) ∧ iv = .int .i64 (i : Int) ∧ i ≤ s.size ∧ wr = w1) (fun _ iv _ => s.size - (intOf iv).toNat)
 case atStart => exact ⟨0, Or.inl ⟨by omega, rfl⟩, rfl, by omega, rfl⟩
 case round =>
  obtain ⟨i, hcase, rfl, hi, rfl⟩ := hrel
  by_cases hlt : i < s.size
  ·have hlt' : (i : Int) < (s.size : Int) := by omega
   rcases hcase with ⟨hc, rfl⟩ | ⟨hc, rfl⟩
   ·by_cases hk0 : i < K
    ·have p3 := hB i hk0
     have p2 : ¬ ((s[i]).toNat : Int) = 47 := fun h => p3 (UInt8.toNat.inj (by show _ = 47; omega))
     clear hB hk
     go_wp2
     refine ⟨⟨i + 1, Or.inl ⟨by omega, rfl⟩, by simp, by omega, by first | rfl | trivial⟩, ?_⟩
     simp [intOf]; omega
    ·obtain rfl : i = K := by omega
     have p2 : ((s[i]).toNat : Int) = 47 := by rw [hk]; rfl
     clear hB
     go_wp2
     refine ⟨⟨i + 1, Or.inr ⟨by omega, rfl⟩, by simp, by omega, by first | rfl | trivial⟩, ?_⟩
     simp [intOf]; omega
   ·have q1 : ¬ ((K : Int) < 0) := by omega
    clear hB hk
    by_cases p3 : s[i] = 47
    ·have p2 : ((s[i]).toNat : Int) = 47 := by rw [p3]; rfl
     go_wp2
     refine ⟨⟨i + 1, Or.inr ⟨by omega, rfl⟩, by simp, by omega, by first | rfl | trivial⟩, ?_⟩
     simp [intOf]; omega
    ·have p2 : ¬ ((s[i]).toNat : Int) = 47 := fun h => p3 (UInt8.toNat.inj (by show _ = 47; omega))
     go_wp2
     refine ⟨⟨i + 1, Or.inr ⟨by omega, rfl⟩, by simp, by omega, by first | rfl | trivial⟩, ?_⟩
     simp [intOf]; omega
  ·have hge : ¬ (i : Int) < (s.size : Int) := by omega
   rcases hcase with ⟨hc, rfl⟩ | ⟨hc, rfl⟩
   ·omega
   have q1 : ¬ ((K : Int) < 0) := by omega
   have q2 : (K : Int) ≤ (s.size : Int) := by omega
   have q3 : (K : Int) + 1 ≤ (s.size : Int) := by omega
   have q4 : (s.size : Int) ≤ 9223372036854775807 := by omega
   clear hB hk
   have hO := HO.out
   have hU := HU.out
   go_wp2_with fail
   go_fit (HN.out _)
   rintro e w2 ⟨rfl, b1⟩
   have sz := b1.size
   replace kr := kr.below b1
   replace bb := Below.after bb b1
   clear b1
   go_wp2_with fail
   go_fit (HD.out _)
   rintro e w3 ⟨rfl, b1⟩
   obtain ⟨kn, b1⟩ := al1 b1
   have sz := b1.size
   replace kr := kr.below b1
   replace bb := Below.after bb b1
   clear b1
   have tn := kn.lt
   have cr_0 := cel3_0 kr
   have fr_1 := Cel.frozen kr 0
   have cr_2 := cel3_1 kr
   have fr_3 := Cel.frozen kr 1
   have cr_4 := cel3_2 kr
   have fr_5 := Cel.frozen kr 2
   have cr_6 := cel3_0 (kr.alloc (.cells #[.bool true, .string dS] 24))
   have fr_7 := Cel.frozen (kr.alloc (.cells #[.bool true, .string dS] 24)) 0
   have cr_8 := cel3_1 (kr.alloc (.cells #[.bool true, .string dS] 24))
   have fr_9 := Cel.frozen (kr.alloc (.cells #[.bool true, .string dS] 24)) 1
   have cr_10 := cel3_2 (kr.alloc (.cells #[.bool true, .string dS] 24))
   have fr_11 := Cel.frozen (kr.alloc (.cells #[.bool true, .string dS] 24)) 2
   go_wp2
   exact post_q1 (p := 2) (u := 3) (by kernel_rfl) rfl rfl rfl ((((kr.alloc _).set 0 _).set 1 _).set 2 _) ⟨rfl, bset (bset (bset (ba bb _) (by omega) 0 _) (by omega) 1 _) (by omega) 2 _⟩
set_option maxRecDepth 100000 in
set_option maxHeartbeats 8000000 in
theorem rparseq_b3 (s o u : ByteArray) (hz : s.size ≤ 9223372036854775807) (K : Nat) (hK : K < s.size) (hB : ∀ (i : Nat) (h : i < K), ¬ s[i]'(Nat.lt_trans h hK) = 47) (hk : s[K]'hK = 47) (HO : Hid (s.extract 0 K = o)) (HU : Hid (s.extract (K + 1) s.size = u)) (nN : Bool) (nS : ByteArray) (w : World)
  (HN : Hid (∀ w1, Calls Tryz.prog 30 #[.string o] w1 fun e w' => e = .returned (.tuple #[.agg #[.bool nN, .string nS], .int .i64 0]) ∧ Below w1.heap.size w1 w'))
  (HD : Hid (∀ w1, Calls Tryz.prog 30 #[.string u] w1 fun e w' => e = .returned (.tuple #[.agg #[.bool false, .string { data := #[] }], .int .i64 0]) ∧ Below w1.heap.size w1 w')) :
  Calls Tryz.prog 24 #[.string s] w fun e w' => e = .returned (.tuple #[.agg #[.bool false, .string { data := #[] }, .string { data := #[] }], .int .i64 4]) ∧ Below w.heap.size w w' := by
 go_enter Tryz.func24, Tryz.ntmps24
 go_wp2_with fail
 obtain ⟨w1, hw, kr, b1⟩ := mk1 w [.bool false, .string { data := #[] }, .string { data := #[] }] 26
 rw [← hw]
 clear hw
 have sz := b1.size
 have tr := kr.lt
 have bb := b1
 clear b1
 go_wp2
 go_loopw [4, 5] (fun av iv wr => ∃ i : Nat, ((i ≤ K ∧ av = .int .i64 (-1)) ∨ (K < i ∧ av = .int .i64 (K : Int))) ∧ iv = .int .i64 (i : Int) ∧ i ≤ s.size ∧ wr = w1) (fun _ iv _ => s.size - (intOf iv).toNat)
 case atStart => exact ⟨0, Or.inl ⟨by omega, rfl⟩, rfl, by omega, rfl⟩
 case round =>
  obtain ⟨i, hcase, rfl, hi, rfl⟩ := hrel
  by_cases hlt : i < s.size
  ·have hlt' : (i : Int) < (s.size : Int) := by omega
   rcases hcase with ⟨hc, rfl⟩ | ⟨hc, rfl⟩
   ·by_cases hk0 : i < K
    ·have p3 := hB i hk0
     have p2 : ¬ ((s[i]).toNat : Int) = 47 := fun h => p3 (UInt8.toNat.inj (by show _ = 47; omega))
     clear hB hk
     go_wp2
     refine ⟨⟨i + 1, Or.inl ⟨by omega, rfl⟩, by simp, by omega, by first | rfl | trivial⟩, ?_⟩
     simp [intOf]; omega
    ·obtain rfl : i = K := by omega
     have p2 : ((s[i]).toNat : Int) = 47 := by rw [hk]; rfl
     clear hB
     go_wp2
     refine ⟨⟨i + 1, Or.inr ⟨by omega, rfl⟩, by simp, by omega, by first | rfl | trivial⟩, ?_⟩
     simp [intOf]; omega
   ·have q1 : ¬ ((K : Int) < 0) := by omega
    clear hB hk
    by_cases p3 : s[i] = 47
    ·have p2 : ((s[i]).toNat : Int) = 47 := by rw [p3]; rfl
     go_wp2
     refine ⟨⟨i + 1, Or.inr ⟨by omega, rfl⟩, by simp, by omega, by first | rfl | trivial⟩, ?_⟩
     simp [intOf]; omega
    ·have p2 : ¬ ((s[i]).toNat : Int) = 47 := fun h => p3 (UInt8.toNat.inj (by show _ = 47; omega))
     go_wp2
     refine ⟨⟨i + 1, Or.inr ⟨by omega, rfl⟩, by simp, by omega, by first | rfl | trivial⟩, ?_⟩
     simp [intOf]; omega
  ·have hge : ¬ (i : Int) < (s.size : Int) := by omega
   rcases hcase with ⟨hc, rfl⟩ | ⟨hc, rfl⟩
   ·omega
   have q1 : ¬ ((K : Int) < 0) := by omega
   have q2 : (K : Int) ≤ (s.size : Int) := by omega
   have q3 : (K : Int) + 1 ≤ (s.size : Int) := by omega
   have q4 : (s.size : Int) ≤ 9223372036854775807 := by omega
   clear hB hk
   have hO := HO.out
   have hU := HU.out
   go_wp2_with fail
   go_fit (HN.out _)
   rintro e w2 ⟨rfl, b1⟩
   have sz := b1.size
   replace kr := kr.below b1
   replace bb := Below.after bb b1
   clear b1
   go_wp2_with fail
   go_fit (HD.out _)
   rintro e w3 ⟨rfl, b1⟩
   obtain ⟨kn, b1⟩ := al1 b1
   have sz := b1.size
   replace kr := kr.below b1
   replace bb := Below.after bb b1
   clear b1
   have tn := kn.lt
   have cr_0 := cel3_0 kr
   have fr_1 := Cel.frozen kr 0
   have cr_2 := cel3_1 kr
   have fr_3 := Cel.frozen kr 1
   have cr_4 := cel3_2 kr
   have fr_5 := Cel.frozen kr 2
   have cr_6 := cel3_0 (kr.alloc (.cells #[.bool false, .string { data := #[] }] 24))
   have fr_7 := Cel.frozen (kr.alloc (.cells #[.bool false, .string { data := #[] }] 24)) 0
   have cr_8 := cel3_1 (kr.alloc (.cells #[.bool false, .string { data := #[] }] 24))
   have fr_9 := Cel.frozen (kr.alloc (.cells #[.bool false, .string { data := #[] }] 24)) 1
   have cr_10 := cel3_2 (kr.alloc (.cells #[.bool false, .string { data := #[] }] 24))
   have fr_11 := Cel.frozen (kr.alloc (.cells #[.bool false, .string { data := #[] }] 24)) 2
   go_wp2
   exact post_q1 (p := 2) (u := 3) (by kernel_rfl) rfl rfl rfl ((((kr.alloc _).set 0 _).set 1 _).set 2 _) ⟨rfl, bset (bset (bset (ba bb _) (by omega) 0 _) (by omega) 1 _) (by omega) 2 _⟩
set_option maxRecDepth 100000 in
set_option maxHeartbeats 8000000 in
theorem rparseq_b4 (s o u : ByteArray) (hz : s.size ≤ 9223372036854775807) (K : Nat) (hK : K < s.size) (hB : ∀ (i : Nat) (h : i < K), ¬ s[i]'(Nat.lt_trans h hK) = 47) (hk : s[K]'hK = 47) (HO : Hid (s.extract 0 K = o)) (HU : Hid (s.extract (K + 1) s.size = u)) (nN : Bool) (nS : ByteArray) (rN : Bool) (dS rS rD : ByteArray) (hd : dS.toList.isEmpty = false) (w : World)
  (HN : Hid (∀ w1, Calls Tryz.prog 30 #[.string o] w1 fun e w' => e = .returned (.tuple #[.agg #[.bool nN, .string nS], .int .i64 0]) ∧ Below w1.heap.size w1 w'))
  (HD : Hid (∀ w1, Calls Tryz.prog 30 #[.string u] w1 fun e w' => e = .returned (.tuple #[.agg #[.bool false, .string dS], .int .i64 0]) ∧ Below w1.heap.size w1 w'))
  (HL : Hid (∀ w1, Calls Tryz.prog 33 #[.agg #[.bool nN, .string nS], .agg #[.bool false, .string dS]] w1 fun e w' => e = .returned (.agg #[.bool rN, .string rS, .string rD]) ∧ Below w1.heap.size w1 w')) :
  Calls Tryz.prog 24 #[.string s] w fun e w' => e = .returned (.tuple #[.agg #[.bool rN, .string rS, .string rD], .int .i64 0]) ∧ Below w.heap.size w w' := by
 go_enter Tryz.func24, Tryz.ntmps24
 go_wp2_with fail
 obtain ⟨w1, hw, kr, b1⟩ := mk1 w [.bool false, .string { data := #[] }, .string { data := #[] }] 26
 rw [← hw]
 clear hw
 have sz := b1.size
 have tr := kr.lt
 have bb := b1
 clear b1
 go_wp2
 go_loopw [4, 5] (fun av iv wr => ∃ i : Nat, ((i ≤ K ∧ av = .int .i64 (-1)) ∨ (K < i ∧ av = .int .i64 (K : Int))) ∧ iv = .int .i64 (i : Int) ∧ i ≤ s.size ∧ wr = w1) (fun _ iv _ => s.size - (intOf iv).toNat)
 case atStart => exact ⟨0, Or.inl ⟨by omega, rfl⟩, rfl, by omega, rfl⟩
 case round =>
  obtain ⟨i, hcase, rfl, hi, rfl⟩ := hrel
  by_cases hlt : i < s.size
  ·have hlt' : (i : Int) < (s.size : Int) := by omega
   rcases hcase with ⟨hc, rfl⟩ | ⟨hc, rfl⟩
   ·by_cases hk0 : i < K
    ·have p3 := hB i hk0
     have p2 : ¬ ((s[i]).toNat : Int) = 47 := fun h => p3 (UInt8.toNat.inj (by show _ = 47; omega))
     clear hB hk
     go_wp2
     refine ⟨⟨i + 1, Or.inl ⟨by omega, rfl⟩, by simp, by omega, by first | rfl | trivial⟩, ?_⟩
     simp [intOf]; omega
    ·obtain rfl : i = K := by omega
     have p2 : ((s[i]).toNat : Int) = 47 := by rw [hk]; rfl
     clear hB
     go_wp2
     refine ⟨⟨i + 1, Or.inr ⟨by omega, rfl⟩, by simp, by omega, by first | rfl | trivial⟩, ?_⟩
     simp [intOf]; omega
   ·have q1 : ¬ ((K : Int) < 0) := by omega
    clear hB hk
    by_cases p3 : s[i] = 47
    ·have p2 : ((s[i]).toNat : Int) = 47 := by rw [p3]; rfl
     go_wp2
     refine ⟨⟨i + 1, Or.inr ⟨by omega, rfl⟩, by simp, by omega, by first | rfl | trivial⟩, ?_⟩
     simp [intOf]; omega
    ·have p2 : ¬ ((s[i]).toNat : Int) = 47 := fun h => p3 (UInt8.toNat.inj (by show _ = 47; omega))
     go_wp2
     refine ⟨⟨i + 1, Or.inr ⟨by omega, rfl⟩, by simp, by omega, by first | rfl | trivial⟩, ?_⟩
     simp [intOf]; omega
  ·have hge : ¬ (i : Int) < (s.size : Int) := by omega
   rcases hcase with ⟨hc, rfl⟩ | ⟨hc, rfl⟩
   ·omega
   have q1 : ¬ ((K : Int) < 0) := by omega
   have q2 : (K : Int) ≤ (s.size : Int) := by omega
   have q3 : (K : Int) + 1 ≤ (s.size : Int) := by omega
   have q4 : (s.size : Int) ≤ 9223372036854775807 := by omega
   clear hB hk
   have hO := HO.out
   have hU := HU.out
   go_wp2_with fail
   go_fit (HN.out _)
   rintro e w2 ⟨rfl, b1⟩
   have sz := b1.size
   replace kr := kr.below b1
   replace bb := Below.after bb b1
   clear b1
   go_wp2_with fail
   go_fit (HD.out _)
   rintro e w3 ⟨rfl, b1⟩
   obtain ⟨kn, b1⟩ := al1 b1
   have sz := b1.size
   replace kr := kr.below b1
   replace bb := Below.after bb b1
   clear b1
   have tn := kn.lt
   have cn_0 := cel2_0' kn
   have cn_1 := cel2_1' kn
   have cn_2 := cel2_0' (kn.alloc (.cells #[.bool false, .string dS] 24))
   have cn_3 := cel2_1' (kn.alloc (.cells #[.bool false, .string dS] 24))
   go_wp2_with fail
   clear cn_0 cn_1 cn_2 cn_3
   go_fit (HL.out _)
   rintro e w4 ⟨rfl, b1⟩
   obtain ⟨kd, b1⟩ := al1 b1
   have sz := b1.size
   replace kr := kr.below b1
   replace kn := kn.below b1
   replace bb := Below.after bb b1
   clear b1
   have td := kd.lt
   have cr_0 := cel3_0 kr
   have fr_1 := Cel.frozen kr 0
   have cr_2 := cel3_1 kr
   have fr_3 := Cel.frozen kr 1
   have cr_4 := cel3_2 kr
   have fr_5 := Cel.frozen kr 2
   go_wp2
   exact post_q1 (p := 2) (u := 3) (by kernel_rfl) rfl rfl rfl (((kr.set 0 _).set 1 _).set 2 _) ⟨rfl, bset (bset (bset bb (by omega) 0 _) (by omega) 1 _) (by omega) 2 _⟩
end Go.Proofs.YtdbnkcimcpnpdaaGreatDoor
