/-
  What these laws reach and the others do not.
-/
import Derived.Test.YtdbnkcimcpnpdaaGreatDoorG33
import Derived.Test.YtdbnkcimcpnpdaaGreatDoorG36
namespace Go.Proofs.YtdbnkcimcpnpdaaGreatDoor
section
open Go.RowKit
end

section
open Go.RowKit Go.Shelf
end

section
open Go.RowKit Go.Shelf
theorem rmul_ten {D : Nat} (hD : D < D32 ^ 8) (v0 v1 : Value) (w : World) (r0 : Rd w v0 (M.digs D32 D)) (r1 : Rd w v1 [10]) :
  Calls Tryz.prog 64 #[v0, v1] w fun e w' => ∃ v, e = .returned v ∧ Rd w' v (M.digs D32 (10 * D)) ∧ Below w.heap.size w w' := by
 have := rmul_any v0 v1 _ _ w r0 r1 (M.Low.digs D32_two _) (low_of_all (by decide)) (Nat.le_trans (dlen hD) (by omega)) (by simp)
 rwa [M.val_digs D32_two, show M.val D32 [10] = 10 from by rw [M.val_cons, M.val_nil]; omega, Nat.mul_comm] at this
theorem radd_small {D x : Nat} (hD : D < D32 ^ 9) (hx : x < 10) (v0 v1 : Value) (w : World) (r0 : Rd w v0 (M.digs D32 D)) (r1 : Rd w v1 [x]) :
  Calls Tryz.prog 65 #[v0, v1] w fun e w' => ∃ v, e = .returned v ∧ Rd w' v (M.digs D32 (D + x)) ∧ Below w.heap.size w w' := by
 have := radd_any v0 v1 _ _ w r0 r1 (M.Low.digs D32_two _) (low_of_all (by simp; unfold D32; omega)) (Nat.le_trans (dlen hD) (by omega)) (by simp)
 rwa [M.val_digs D32_two, show M.val D32 [x] = x from by rw [M.val_cons, M.val_nil]; omega] at this
theorem dec_lt8 {b : List Nat} {k : Nat} (hk : k ≤ 60) (h : ∀ j, j < k → lm b j ≤ 57) : decTo b k < D32 ^ 8 := by
 have l := decTo_lt (b := b) k h
 have l2 : 10 ^ k ≤ 10 ^ 60 := Nat.pow_le_pow_right (by omega) hk
 exact Nat.lt_of_lt_of_le l (Nat.le_trans l2 (by unfold D32; decide))
theorem lt9 {D : Nat} (h : D < D32 ^ 8) : 10 * D < D32 ^ 9 := by
 have e : D32 ^ 9 = D32 ^ 8 * D32 := Nat.pow_succ ..
 rw [e]
 generalize D32 ^ 8 = p at *
 unfold D32
 omega

set_option maxRecDepth 100000 in
set_option maxHeartbeats 4000000 in
theorem rparse_pos (s : ByteArray) (w : World) (hn : ¬ (0 < s.size ∧ lm (byts s) 0 = 45)) (h1 : 1 ≤ s.size) (h2 : s.size ≤ 60) (h3 : lm (byts s) 0 = 48 → s.size ≤ 1) (r : Bool) (hr : r = true ↔ ∀ j, j < s.size → 48 ≤ lm (byts s) j ∧ lm (byts s) j ≤ 57) :
  Calls Tryz.prog 30 #[.string s] w fun e w' => e = .returned (.tuple #[zI (if r then sgn false (decTo (byts s) s.size) else 0), .int .i64 (if r then 0 else 4)]) ∧ Below w.heap.size w w' := by
 obtain ⟨ZR, hZR⟩ : ∃ Z, Z = zI (if r then sgn false (decTo (byts s) s.size) else 0) := ⟨_, rfl⟩
 obtain ⟨ER, hER⟩ : ∃ E : Int, E = if r then 0 else 4 := ⟨_, rfl⟩
 rw [← hZR, ← hER]
 have HZR := shut hZR
 have HER := shut hER
 clear hZR hER
 have HR := shut hr
 have h4 : r = true → decTo (byts s) s.size < D32 ^ 8 := fun h => dec_lt8 h2 (fun j hj => (hr.1 h j hj).2)
 have HM := shut (fun (h : r = true) v w hv => make0_val false (K := 8) (by omega) (h4 h) v w hv)
 clear hr h4
 have g0 : ¬ (s.size : Int) < 1 := by omega
 have g1 : ¬ (s.size : Int) > 60 := by omega
 have hs : 0 < s.size := by omega
 have p1 : ¬ (s[0]).toNat = 45 := fun h => hn ⟨hs, by rw [← byts_at s 0 hs]; exact h⟩
 have p2 : ¬ ((s[0]).toNat : Int) = 45 := by omega
 have p3 : ¬ s[0] = 45 := fun h => p1 (by rw [h]; rfl)
 clear hn
 have hz : (((s[0]).toNat : Int) = 48 ∧ s[0] = 48 ∧ ¬ (s.size : Int) > 1) ∨ (¬ ((s[0]).toNat : Int) = 48 ∧ ¬ s[0] = 48) := by
  by_cases g2 : lm (byts s) 0 = 48
  ·have g3 := h3 g2
   have k3 : (s[0]).toNat = 48 := by rw [byts_at s 0 hs, g2]
   exact Or.inl ⟨by omega, UInt8.toNat.inj k3, by omega⟩
  ·have k1 : ¬ ((s[0]).toNat : Int) = 48 := by rw [byts_at s 0 hs]; omega
   exact Or.inr ⟨k1, fun h => k1 (by rw [h]; rfl)⟩
 clear h3
 rcases hz with ⟨z1, z2, z3⟩ | ⟨z1, z2⟩ <;>
 ·go_enter Tryz.func30, Tryz.ntmps30
  go_wp2
  obtain ⟨w0, hw0⟩ : ∃ w0, w0 = w.alloc (.cells #[.bool false, .string { data := #[] }] 24) := ⟨_, rfl⟩
  have k0 : Cel w0 w.heap.size [.bool false, .string { data := #[] }] 24 := by rw [hw0]; exact Cel.new w _ _
  have hb0 : Below w.heap.size w w0 := by rw [hw0]; exact (Below.refl _ _).alloc (Nat.le_refl _) _
  rw [← hw0]
  clear hw0
  go_loopw [6, 7] (fun nv i wr => ∃ k : Nat, k ≤ s.size ∧ i = .int .i64 (k : Nat) ∧ Rd wr nv (M.digs D32 (decTo (byts s) k)) ∧ Hid (∀ j, j < k → 48 ≤ lm (byts s) j ∧ lm (byts s) j ≤ 57) ∧ Cel wr w.heap.size [.bool false, .string { data := #[] }] 24 ∧ Below w.heap.size w wr) (fun _ i _ => s.size - (intOf i).toNat)
  case atStart => exact ⟨0, Nat.zero_le _, rfl, rd_none _, fun j hj => absurd hj (Nat.not_lt_zero _), k0, hb0⟩
  case round =>
   clear k0 hb0
   obtain ⟨k, hk, rfl, rn, HA, kc, bb⟩ := hrel
   obtain ⟨an, cn, rfl, -, -⟩ := id rn
   by_cases hlt : k < s.size
   ·have hlt' : (k : Int) < (s.size : Int) := by omega
    have a1 := byts_at s k hlt
    by_cases hok : 48 ≤ lm (byts s) k ∧ lm (byts s) k ≤ 57
    ·have HN : Hid (∀ j, j < k + 1 → 48 ≤ lm (byts s) j ∧ lm (byts s) j ≤ 57) := fun j hj => by
      by_cases e : j = k
      ·rw [e]; exact hok
      ·exact HA.out j (by omega)
     have hD8 := dec_lt8 (b := byts s) (k := k) (by omega) (fun j hj => (HA.out j hj).2)
     have HMul := shut (fun v0 v1 w r0 r1 => rmul_ten hD8 v0 v1 w r0 r1)
     obtain ⟨x, hx⟩ : ∃ x, x = lm (byts s) k := ⟨_, rfl⟩
     rw [← hx] at hok a1
     obtain ⟨hx1, hx2⟩ := hok
     have hde : decTo (byts s) (k + 1) = 10 * decTo (byts s) k + (x - 48) := by rw [hx]; rfl
     have HAdd := shut (fun v0 v1 w r0 r1 => radd_small (D := 10 * decTo (byts s) k) (x := x - 48) (lt9 hD8) (by omega) v0 v1 w r0 r1)
     rw [← hde] at HAdd
     have HDE := shut hde
     clear hde hx hD8
     have y1 : ¬ (x : Int) < 48 := by omega
     have y2 : ¬ (x : Int) > 57 := by omega
     generalize hdk : decTo (byts s) k = D at *
     generalize hdk1 : decTo (byts s) (k + 1) = D1 at *
     have HD1 := shut hdk1
     clear hdk hdk1 HA HR HM
     by_cases hx0 : x = 48
     ·have y3 : ¬ (x : Int) > 48 := by omega
      have e1 : 10 * D = D1 := by have := HDE.out; omega
      rw [e1] at HMul
      clear HAdd HDE
      go_wp2_with fail
      obtain ⟨w2, hw2⟩ : ∃ w2, w2 = wr.alloc (.cells #[.int .u64 10] 73) := ⟨_, rfl⟩
      have b2 : Below wr.heap.size wr w2 := by rw [hw2]; exact (Below.refl _ _).alloc (Nat.le_refl _) _
      have rP : Rd w2 (.slice (some ⟨wr.heap.size, 0, none⟩) 1 1) [10] := by rw [hw2]; exact rd1 wr rfl 10
      rw [← hw2]
      clear hw2
      refine (HMul.out _ _ w2 (rn.below b2) rP).mono ?_
      rintro e w3 ⟨v3, rfl, r3, b3⟩
      obtain ⟨a3, c3, rfl, -, -⟩ := id r3
      have bx := Below.after b2 b3
      replace kc := kc.below bx
      replace bb := Below.after bb bx
      clear rn HMul bx b2 b3 rP
      have R3 : Hid (Rd w3 (.slice a3 (M.digs D32 D1).length c3) (M.digs D32 (decTo (byts s) (k + 1)))) := by
       show Rd _ _ _
       rw [HD1.out]; exact r3
      clear r3 HD1
      go_wp2
      exact ⟨⟨k + 1, by omega, by go_num, R3.out, HN, kc, bb⟩, by simp [intOf]; omega⟩
     ·have y3 : (x : Int) > 48 := by omega
      have y4 : IntKind.u8.wrap ((x : Int) - 48) = ((x - 48 : Nat) : Int) := by simp only [IntKind.wrap_u8]; omega
      have y5 : IntKind.u64.wrap ((x - 48 : Nat) : Int) = ((x - 48 : Nat) : Int) := by simp only [IntKind.wrap_u64]; omega
      obtain ⟨X, hX⟩ : ∃ X, X = x - 48 := ⟨_, rfl⟩
      rw [← hX] at y4 y5 HAdd
      clear hX HDE
      go_wp2_with fail
      obtain ⟨w2, hw2⟩ : ∃ w2, w2 = wr.alloc (.cells #[.int .u64 10] 73) := ⟨_, rfl⟩
      have b2 : Below wr.heap.size wr w2 := by rw [hw2]; exact (Below.refl _ _).alloc (Nat.le_refl _) _
      have rP : Rd w2 (.slice (some ⟨wr.heap.size, 0, none⟩) 1 1) [10] := by rw [hw2]; exact rd1 wr rfl 10
      rw [← hw2]
      clear hw2
      refine (HMul.out _ _ w2 (rn.below b2) rP).mono ?_
      rintro e w3 ⟨v3, rfl, r3, b3⟩
      obtain ⟨a3, c3, rfl, -, -⟩ := id r3
      have bx := Below.after b2 b3
      replace kc := kc.below bx
      replace bb := Below.after bb bx
      clear rn HMul bx b2 b3 rP
      go_wp2_with fail
      obtain ⟨w4, hw4⟩ : ∃ w4, w4 = w3.alloc (.cells #[.int .u64 (X : Nat)] 73) := ⟨_, rfl⟩
      have b4 : Below w3.heap.size w3 w4 := by rw [hw4]; exact (Below.refl _ _).alloc (Nat.le_refl _) _
      have rV : Rd w4 (.slice (some ⟨w3.heap.size, 0, none⟩) 1 1) [X] := by rw [hw4]; exact rd1 w3 rfl X
      rw [← hw4]
      clear hw4
      refine (HAdd.out _ _ w4 (r3.below b4) rV).mono ?_
      rintro e w5 ⟨v5, rfl, r5, b5⟩
      obtain ⟨a5, c5, rfl, -, -⟩ := id r5
      have by1 := Below.after b4 b5
      replace kc := kc.below by1
      replace bb := Below.after bb by1
      clear r3 HAdd by1 b4 b5 rV
      have R5 : Hid (Rd w5 (.slice a5 (M.digs D32 D1).length c5) (M.digs D32 (decTo (byts s) (k + 1)))) := by
       show Rd _ _ _
       rw [HD1.out]; exact r5
      clear r5 HD1
      go_wp2
      exact ⟨⟨k + 1, by omega, by go_num, R5.out, HN, kc, bb⟩, by simp [intOf]; omega⟩
    ·have hrf : r = false := by
      cases hr : r with
      | false => rfl
      | true => exact absurd (HR.out.1 hr k hlt) hok
     have HRF := shut hrf
     obtain ⟨x, hx⟩ : ∃ x, x = lm (byts s) k := ⟨_, rfl⟩
     rw [← hx] at hok a1
     clear HA HR HM hx rn hrf
     have c0 := cel2_0' kc
     have c1 := cel2_1' kc
     have f0 := kc.frozen 0
     have f1 := kc.frozen 1
     by_cases y1 : x < 48
     ·have y1' : (x : Int) < 48 := by omega
      go_wp2
      exact post_z1 (p := 2) (u := 3) (by kernel_rfl) rfl rfl rfl ((kc.set 0 _).set 1 _) ⟨by rw [HZR.out, HER.out, HRF.out]; rfl, (bb.setCell (by simp) _).setCell (by simp) _⟩
     ·have y1' : ¬ (x : Int) < 48 := by omega
      have y2' : (x : Int) > 57 := by omega
      go_wp2
      exact post_z1 (p := 2) (u := 3) (by kernel_rfl) rfl rfl rfl ((kc.set 0 _).set 1 _) ⟨by rw [HZR.out, HER.out, HRF.out]; rfl, (bb.setCell (by simp) _).setCell (by simp) _⟩
   ·have hke : k = s.size := by omega
    have hrt : r = true := HR.out.2 (fun j hj => HA.out j (by omega))
    rw [hke] at rn
    have HK := shut (HM.out hrt _ wr rn)
    have HRT := shut hrt
    subst hke
    clear HA HR HM hrt rn
    generalize hRR : zI (sgn false (decTo (byts s) s.size)) = RR at *
    obtain ⟨za, zb, rfl⟩ : ∃ a b, RR = .agg #[.bool a, .string b] := ⟨_, _, hRR.symm⟩
    have HRR := shut hRR
    clear hRR
    go_wp2_with fail
    refine HK.out.mono ?_
    rintro e w6 ⟨rfl, b6⟩
    replace kc := kc.below b6
    replace bb := Below.after bb b6
    have c0 := cel2_0' kc
    have c1 := cel2_1' kc
    have f0 := kc.frozen 0
    have f1 := kc.frozen 1
    go_wp2
    exact post_z1 (p := 2) (u := 3) (by kernel_rfl) rfl rfl rfl ((kc.set 0 _).set 1 _) ⟨by rw [HZR.out, HER.out, if_pos HRT.out, if_pos HRT.out, HRR.out]; rfl, (bb.setCell (by simp) _).setCell (by simp) _⟩
end

section
open Go.RowKit Go.Shelf
set_option maxRecDepth 100000 in
set_option maxHeartbeats 4000000 in
theorem rparse_neg (s : ByteArray) (w : World) (hn : 0 < s.size ∧ lm (byts s) 0 = 45) (t : ByteArray) (ht : s.extract 1 s.size = t) (h1 : 1 ≤ t.size) (h2 : t.size ≤ 60) (h3 : lm (byts t) 0 = 48 → False) (r : Bool) (hr : r = true ↔ ∀ j, j < t.size → 48 ≤ lm (byts t) j ∧ lm (byts t) j ≤ 57) :
  Calls Tryz.prog 30 #[.string s] w fun e w' => e = .returned (.tuple #[zI (if r then sgn true (decTo (byts t) t.size) else 0), .int .i64 (if r then 0 else 4)]) ∧ Below w.heap.size w w' := by
 obtain ⟨ZR, hZR⟩ : ∃ Z, Z = zI (if r then sgn true (decTo (byts t) t.size) else 0) := ⟨_, rfl⟩
 obtain ⟨ER, hER⟩ : ∃ E : Int, E = if r then 0 else 4 := ⟨_, rfl⟩
 rw [← hZR, ← hER]
 have HZR := shut hZR
 have HER := shut hER
 clear hZR hER
 have HR := shut hr
 have h4 : r = true → decTo (byts t) t.size < D32 ^ 8 := fun h => dec_lt8 h2 (fun j hj => (hr.1 h j hj).2)
 have HM := shut (fun (h : r = true) v w hv => make0_val true (K := 8) (by omega) (h4 h) v w hv)
 clear hr h4
 have g0 : ¬ (t.size : Int) < 1 := by omega
 have g1 : ¬ (t.size : Int) > 60 := by omega
 have hs : 0 < t.size := by omega
 obtain ⟨p0, hn2⟩ := hn
 have p1 : (s[0]).toNat = 45 := by rw [byts_at s 0 p0]; exact hn2
 have p2 : ((s[0]).toNat : Int) = 45 := by omega
 have p3 : s[0] = 45 := UInt8.toNat.inj p1
 have p5 : 1 ≤ s.size := p0
 have p6 : s.size - 1 = t.size := by rw [← ht, ByteArray.size_extract]; omega
 have k0 : ¬ lm (byts t) 0 = 48 := h3
 have k1 : ¬ ((t[0]).toNat : Int) = 48 := by rw [byts_at t 0 hs]; omega
 have k2 : ¬ t[0] = 48 := fun h => k1 (by rw [h]; rfl)
 clear h3 k0 hn2
 go_enter Tryz.func30, Tryz.ntmps30
 go_wp2
 obtain ⟨w0, hw0⟩ : ∃ w0, w0 = w.alloc (.cells #[.bool false, .string { data := #[] }] 24) := ⟨_, rfl⟩
 have k0 : Cel w0 w.heap.size [.bool false, .string { data := #[] }] 24 := by rw [hw0]; exact Cel.new w _ _
 have hb0 : Below w.heap.size w w0 := by rw [hw0]; exact (Below.refl _ _).alloc (Nat.le_refl _) _
 rw [← hw0]
 clear hw0
 go_loopw [6, 7] (fun nv i wr => ∃ k : Nat, k ≤ t.size ∧ i = .int .i64 (k : Nat) ∧ Rd wr nv (M.digs D32 (decTo (byts t) k)) ∧ Hid (∀ j, j < k → 48 ≤ lm (byts t) j ∧ lm (byts t) j ≤ 57) ∧ Cel wr w.heap.size [.bool false, .string { data := #[] }] 24 ∧ Below w.heap.size w wr) (fun _ i _ => t.size - (intOf i).toNat)
 case atStart => exact ⟨0, Nat.zero_le _, rfl, rd_none _, fun j hj => absurd hj (Nat.not_lt_zero _), k0, hb0⟩
 case round =>
  clear k0 hb0
  obtain ⟨k, hk, rfl, rn, HA, kc, bb⟩ := hrel
  obtain ⟨an, cn, rfl, -, -⟩ := id rn
  by_cases hlt : k < t.size
  ·have hlt' : (k : Int) < (t.size : Int) := by omega
   have a1 := byts_at t k hlt
   by_cases hok : 48 ≤ lm (byts t) k ∧ lm (byts t) k ≤ 57
   ·have HN : Hid (∀ j, j < k + 1 → 48 ≤ lm (byts t) j ∧ lm (byts t) j ≤ 57) := fun j hj => by
     by_cases e : j = k
     ·rw [e]; exact hok
     ·exact HA.out j (by omega)
    have hD8 := dec_lt8 (b := byts t) (k := k) (by omega) (fun j hj => (HA.out j hj).2)
    have HMul := shut (fun v0 v1 w r0 r1 => rmul_ten hD8 v0 v1 w r0 r1)
    obtain ⟨x, hx⟩ : ∃ x, x = lm (byts t) k := ⟨_, rfl⟩
    rw [← hx] at hok a1
    obtain ⟨hx1, hx2⟩ := hok
    have hde : decTo (byts t) (k + 1) = 10 * decTo (byts t) k + (x - 48) := by rw [hx]; rfl
    have HAdd := shut (fun v0 v1 w r0 r1 => radd_small (D := 10 * decTo (byts t) k) (x := x - 48) (lt9 hD8) (by omega) v0 v1 w r0 r1)
    rw [← hde] at HAdd
    have HDE := shut hde
    clear hde hx hD8
    have y1 : ¬ (x : Int) < 48 := by omega
    have y2 : ¬ (x : Int) > 57 := by omega
    generalize hdk : decTo (byts t) k = D at *
    generalize hdk1 : decTo (byts t) (k + 1) = D1 at *
    have HD1 := shut hdk1
    clear hdk hdk1 HA HR HM
    by_cases hx0 : x = 48
    ·have y3 : ¬ (x : Int) > 48 := by omega
     have e1 : 10 * D = D1 := by have := HDE.out; omega
     rw [e1] at HMul
     clear HAdd HDE
     go_wp2_with fail
     obtain ⟨w2, hw2⟩ : ∃ w2, w2 = wr.alloc (.cells #[.int .u64 10] 73) := ⟨_, rfl⟩
     have b2 : Below wr.heap.size wr w2 := by rw [hw2]; exact (Below.refl _ _).alloc (Nat.le_refl _) _
     have rP : Rd w2 (.slice (some ⟨wr.heap.size, 0, none⟩) 1 1) [10] := by rw [hw2]; exact rd1 wr rfl 10
     rw [← hw2]
     clear hw2
     refine (HMul.out _ _ w2 (rn.below b2) rP).mono ?_
     rintro e w3 ⟨v3, rfl, r3, b3⟩
     obtain ⟨a3, c3, rfl, -, -⟩ := id r3
     have bx := Below.after b2 b3
     replace kc := kc.below bx
     replace bb := Below.after bb bx
     clear rn HMul bx b2 b3 rP
     have R3 : Hid (Rd w3 (.slice a3 (M.digs D32 D1).length c3) (M.digs D32 (decTo (byts t) (k + 1)))) := by
      show Rd _ _ _
      rw [HD1.out]; exact r3
     clear r3 HD1
     go_wp2
     exact ⟨⟨k + 1, by omega, by go_num, R3.out, HN, kc, bb⟩, by simp [intOf]; omega⟩
    ·have y3 : (x : Int) > 48 := by omega
     have y4 : IntKind.u8.wrap ((x : Int) - 48) = ((x - 48 : Nat) : Int) := by simp only [IntKind.wrap_u8]; omega
     have y5 : IntKind.u64.wrap ((x - 48 : Nat) : Int) = ((x - 48 : Nat) : Int) := by simp only [IntKind.wrap_u64]; omega
     obtain ⟨X, hX⟩ : ∃ X, X = x - 48 := ⟨_, rfl⟩
     rw [← hX] at y4 y5 HAdd
     clear hX HDE
     go_wp2_with fail
     obtain ⟨w2, hw2⟩ : ∃ w2, w2 = wr.alloc (.cells #[.int .u64 10] 73) := ⟨_, rfl⟩
     have b2 : Below wr.heap.size wr w2 := by rw [hw2]; exact (Below.refl _ _).alloc (Nat.le_refl _) _
     have rP : Rd w2 (.slice (some ⟨wr.heap.size, 0, none⟩) 1 1) [10] := by rw [hw2]; exact rd1 wr rfl 10
     rw [← hw2]
     clear hw2
     refine (HMul.out _ _ w2 (rn.below b2) rP).mono ?_
     rintro e w3 ⟨v3, rfl, r3, b3⟩
     obtain ⟨a3, c3, rfl, -, -⟩ := id r3
     have bx := Below.after b2 b3
     replace kc := kc.below bx
     replace bb := Below.after bb bx
     clear rn HMul bx b2 b3 rP
     go_wp2_with fail
     obtain ⟨w4, hw4⟩ : ∃ w4, w4 = w3.alloc (.cells #[.int .u64 (X : Nat)] 73) := ⟨_, rfl⟩
     have b4 : Below w3.heap.size w3 w4 := by rw [hw4]; exact (Below.refl _ _).alloc (Nat.le_refl _) _
     have rV : Rd w4 (.slice (some ⟨w3.heap.size, 0, none⟩) 1 1) [X] := by rw [hw4]; exact rd1 w3 rfl X
     rw [← hw4]
     clear hw4
     refine (HAdd.out _ _ w4 (r3.below b4) rV).mono ?_
     rintro e w5 ⟨v5, rfl, r5, b5⟩
     obtain ⟨a5, c5, rfl, -, -⟩ := id r5
     have by1 := Below.after b4 b5
     replace kc := kc.below by1
     replace bb := Below.after bb by1
     clear r3 HAdd by1 b4 b5 rV
     have R5 : Hid (Rd w5 (.slice a5 (M.digs D32 D1).length c5) (M.digs D32 (decTo (byts t) (k + 1)))) := by
      show Rd _ _ _
      rw [HD1.out]; exact r5
     clear r5 HD1
     go_wp2
     exact ⟨⟨k + 1, by omega, by go_num, R5.out, HN, kc, bb⟩, by simp [intOf]; omega⟩
   ·have hrf : r = false := by
     cases hr : r with
     | false => rfl
     | true => exact absurd (HR.out.1 hr k hlt) hok
    have HRF := shut hrf
    obtain ⟨x, hx⟩ : ∃ x, x = lm (byts t) k := ⟨_, rfl⟩
    rw [← hx] at hok a1
    clear HA HR HM hx rn hrf
    have c0 := cel2_0' kc
    have c1 := cel2_1' kc
    have f0 := kc.frozen 0
    have f1 := kc.frozen 1
    by_cases y1 : x < 48
    ·have y1' : (x : Int) < 48 := by omega
     go_wp2
     exact post_z1 (p := 2) (u := 3) (by kernel_rfl) rfl rfl rfl ((kc.set 0 _).set 1 _) ⟨by rw [HZR.out, HER.out, HRF.out]; rfl, (bb.setCell (by simp) _).setCell (by simp) _⟩
    ·have y1' : ¬ (x : Int) < 48 := by omega
     have y2' : (x : Int) > 57 := by omega
     go_wp2
     exact post_z1 (p := 2) (u := 3) (by kernel_rfl) rfl rfl rfl ((kc.set 0 _).set 1 _) ⟨by rw [HZR.out, HER.out, HRF.out]; rfl, (bb.setCell (by simp) _).setCell (by simp) _⟩
  ·have hke : k = t.size := by omega
   have hrt : r = true := HR.out.2 (fun j hj => HA.out j (by omega))
   rw [hke] at rn
   have HK := shut (HM.out hrt _ wr rn)
   have HRT := shut hrt
   subst hke
   clear HA HR HM hrt rn
   generalize hRR : zI (sgn true (decTo (byts t) t.size)) = RR at *
   obtain ⟨za, zb, rfl⟩ : ∃ a b, RR = .agg #[.bool a, .string b] := ⟨_, _, hRR.symm⟩
   have HRR := shut hRR
   clear hRR
   go_wp2_with fail
   refine HK.out.mono ?_
   rintro e w6 ⟨rfl, b6⟩
   replace kc := kc.below b6
   replace bb := Below.after bb b6
   have c0 := cel2_0' kc
   have c1 := cel2_1' kc
   have f0 := kc.frozen 0
   have f1 := kc.frozen 1
   go_wp2
   exact post_z1 (p := 2) (u := 3) (by kernel_rfl) rfl rfl rfl ((kc.set 0 _).set 1 _) ⟨by rw [HZR.out, HER.out, if_pos HRT.out, if_pos HRT.out, HRR.out]; rfl, (bb.setCell (by simp) _).setCell (by simp) _⟩
end

section
open Go.RowKit Go.Shelf
end

section
open Go.RowKit Go.Shelf
end
end Go.Proofs.YtdbnkcimcpnpdaaGreatDoor
