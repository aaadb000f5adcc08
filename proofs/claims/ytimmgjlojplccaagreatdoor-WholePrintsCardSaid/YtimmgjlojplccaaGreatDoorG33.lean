/-
  Package whole: isNatural.
-/
import Derived.Test.YtimmgjlojplccaaGreatDoorG22
import Derived.Test.YtimmgjlojplccaaGreatDoorG25
namespace Go.Proofs.YtimmgjlojplccaaGreatDoor
open Go.RowKit Go.Shelf

/-- The text of a natural number, of few enough digits. -/
def NatS (b : List Nat) : Prop := 1 ≤ b.length ∧ b.length ≤ 60 ∧ (lm b 0 = 48 → b.length ≤ 1) ∧ ∀ j, j < b.length → 48 ≤ lm b j ∧ lm b j ≤ 57

set_option maxRecDepth 100000 in
set_option maxHeartbeats 2000000 in
theorem isnat_long (s : ByteArray) (w : World) (h : s.size < 1 ∨ 60 < s.size ∨ (lm (byts s) 0 = 48 ∧ 1 < s.size)) :
    Calls Tryz.prog 43 #[.string s] w fun e w' => e = .returned (.bool false) ∧ Below w.heap.size w w' := by
  by_cases h1 : s.size < 1
  · go_enter Tryz.func43, Tryz.ntmps43
    go_wp2
    go_ret
    exact ⟨rfl, Below.refl _ _⟩
  · by_cases h2 : 60 < s.size
    · go_enter Tryz.func43, Tryz.ntmps43
      go_wp2
      go_ret
      exact ⟨rfl, Below.refl _ _⟩
    · have h3 : lm (byts s) 0 = 48 ∧ 1 < s.size := by
        rcases h with h | h | h
        · omega
        · omega
        · exact h
      have hs : 0 < s.size := by omega
      have g1 : ((s[0]).toNat : Int) = 48 := by rw [byts_at s 0 hs, h3.1]; rfl
      have g3 : (s[0]).toNat = 48 := by omega
      have g2 : s[0] = 48 := UInt8.toNat.inj g3
      have g4 := h3.2
      clear h h3
      go_enter Tryz.func43, Tryz.ntmps43
      go_wp2
      go_ret
      exact ⟨rfl, Below.refl _ _⟩

set_option maxRecDepth 100000 in
set_option maxHeartbeats 2000000 in
theorem isnat_loop (s : ByteArray) (w : World) (h1 : 1 ≤ s.size) (h2 : s.size ≤ 60) (h3 : lm (byts s) 0 = 48 → s.size ≤ 1) (r : Bool) (hr : r = true ↔ ∀ j, j < s.size → 48 ≤ lm (byts s) j ∧ lm (byts s) j ≤ 57) :
    Calls Tryz.prog 43 #[.string s] w fun e w' => e = .returned (.bool r) ∧ Below w.heap.size w w' := by
  have hcv := Lib.run_convert_string_bytes (P := Tryz.prog) w 9 59 5 s Tryz.underlying9 Tryz.underlying59 Tryz.underlying5
  have hcell : ∀ j, j < s.size → (Lib.bytesWorld w 5 s).cell? ⟨w.heap.size, j, none⟩ = some (.int .u8 (lm (byts s) j : Nat)) := fun j hj => by rw [Lib.bytesWorld_cell w 5 s j hj, byts_at' s j hj]
  have hb := Below.bytes w 5 s
  have HC := shut hcell
  have HR := shut hr
  clear hcell hr
  generalize Lib.bytesWorld w 5 s = w1 at *
  have g0 : ¬ (s.size : Int) < 1 := by omega
  have g1 : ¬ (s.size : Int) > 60 := by omega
  have hs : 0 < s.size := by omega
  by_cases g2 : lm (byts s) 0 = 48
  · have g3 := h3 g2
    have g5 : ¬ (s.size : Int) > 1 := by omega
    have k1 : ((s[0]).toNat : Int) = 48 := by rw [byts_at s 0 hs, g2]; rfl
    have k3 : (s[0]).toNat = 48 := by omega
    have k2 : s[0] = 48 := UInt8.toNat.inj k3
    clear h3 g2
    go_enter Tryz.func43, Tryz.ntmps43
    go_wp2
    go_loop [26] (fun i => ∃ k : Nat, k ≤ s.size ∧ i = .int .i64 (k : Nat) ∧ Hid (∀ j, j < k → 48 ≤ lm (byts s) j ∧ lm (byts s) j ≤ 57)) (fun i => s.size - (intOf i).toNat)
    case atStart => exact ⟨0, Nat.zero_le _, rfl, fun j hj => absurd hj (Nat.not_lt_zero _)⟩
    case round =>
      obtain ⟨k, hk, rfl, HA⟩ := hrel
      by_cases hlt : k < s.size
      · have q1 := HC.out k hlt
        have hlt' : (k : Int) < (s.size : Int) := by omega
        by_cases hok : 48 ≤ lm (byts s) k ∧ lm (byts s) k ≤ 57
        · have HN : Hid (∀ j, j < k + 1 → 48 ≤ lm (byts s) j ∧ lm (byts s) j ≤ 57) := fun j hj => by
            by_cases e : j = k
            · rw [e]; exact hok
            · exact HA.out j (by omega)
          obtain ⟨hx1, hx2⟩ := hok
          generalize lm (byts s) k = x at q1 hx1 hx2
          have y1 : ¬ (x : Int) < 48 := by omega
          have y2 : ¬ (x : Int) > 57 := by omega
          clear HA HR HC
          go_wp2
          go_round
          case rel => exact ⟨k + 1, by omega, by go_num, HN⟩
          case measure => simp [intOf]; omega
        · have hrf : Hid (r = false) := by
            show r = false
            cases hr : r with
            | false => rfl
            | true => exact absurd (HR.out.1 hr k hlt) hok
          generalize lm (byts s) k = x at q1 hok
          clear HA HR HC
          by_cases y1 : x < 48
          · have y1' : (x : Int) < 48 := by omega
            go_wp2
            go_ret
            exact ⟨by rw [hrf.out]; rfl, hb⟩
          · have y1' : ¬ (x : Int) < 48 := by omega
            have y2' : (x : Int) > 57 := by omega
            go_wp2
            go_ret
            exact ⟨by rw [hrf.out]; rfl, hb⟩
      · have hke : k = s.size := by omega
        have hrt : Hid (r = true) := HR.out.2 (fun j hj => HA.out j (by omega))
        clear HA HR HC
        go_wp2
        go_ret
        exact ⟨by rw [hrt.out]; rfl, hb⟩
  · have k1 : ¬ ((s[0]).toNat : Int) = 48 := by rw [byts_at s 0 hs]; omega
    have k2 : ¬ s[0] = 48 := fun h => k1 (by rw [h]; rfl)
    clear h3 g2
    go_enter Tryz.func43, Tryz.ntmps43
    go_wp2
    go_loop [26] (fun i => ∃ k : Nat, k ≤ s.size ∧ i = .int .i64 (k : Nat) ∧ Hid (∀ j, j < k → 48 ≤ lm (byts s) j ∧ lm (byts s) j ≤ 57)) (fun i => s.size - (intOf i).toNat)
    case atStart => exact ⟨0, Nat.zero_le _, rfl, fun j hj => absurd hj (Nat.not_lt_zero _)⟩
    case round =>
      obtain ⟨k, hk, rfl, HA⟩ := hrel
      by_cases hlt : k < s.size
      · have q1 := HC.out k hlt
        have hlt' : (k : Int) < (s.size : Int) := by omega
        by_cases hok : 48 ≤ lm (byts s) k ∧ lm (byts s) k ≤ 57
        · have HN : Hid (∀ j, j < k + 1 → 48 ≤ lm (byts s) j ∧ lm (byts s) j ≤ 57) := fun j hj => by
            by_cases e : j = k
            · rw [e]; exact hok
            · exact HA.out j (by omega)
          obtain ⟨hx1, hx2⟩ := hok
          generalize lm (byts s) k = x at q1 hx1 hx2
          have y1 : ¬ (x : Int) < 48 := by omega
          have y2 : ¬ (x : Int) > 57 := by omega
          clear HA HR HC
          go_wp2
          go_round
          case rel => exact ⟨k + 1, by omega, by go_num, HN⟩
          case measure => simp [intOf]; omega
        · have hrf : Hid (r = false) := by
            show r = false
            cases hr : r with
            | false => rfl
            | true => exact absurd (HR.out.1 hr k hlt) hok
          generalize lm (byts s) k = x at q1 hok
          clear HA HR HC
          by_cases y1 : x < 48
          · have y1' : (x : Int) < 48 := by omega
            go_wp2
            go_ret
            exact ⟨by rw [hrf.out]; rfl, hb⟩
          · have y1' : ¬ (x : Int) < 48 := by omega
            have y2' : (x : Int) > 57 := by omega
            go_wp2
            go_ret
            exact ⟨by rw [hrf.out]; rfl, hb⟩
      · have hke : k = s.size := by omega
        have hrt : Hid (r = true) := HR.out.2 (fun j hj => HA.out j (by omega))
        clear HA HR HC
        go_wp2
        go_ret
        exact ⟨by rw [hrt.out]; rfl, hb⟩

theorem isnat_any (s : ByteArray) (w : World) (r : Bool) (hr : r = true ↔ NatS (byts s)) :
    Calls Tryz.prog 43 #[.string s] w fun e w' => e = .returned (.bool r) ∧ Below w.heap.size w w' := by
  by_cases h : s.size < 1 ∨ 60 < s.size ∨ (lm (byts s) 0 = 48 ∧ 1 < s.size)
  · have e : r = false := by
      cases hh : r with
      | false => rfl
      | true =>
        obtain ⟨a, b, c, -⟩ := hr.1 hh
        rw [byts_length] at a b c
        rcases h with h | h | ⟨h, h'⟩
        · omega
        · omega
        · have := c h; omega
    rw [e]
    exact isnat_long s w h
  · refine isnat_loop s w (by omega) (by omega) (fun h0 => ?_) r ?_
    · rcases Nat.lt_or_ge 1 s.size with h1 | h1
      · exact absurd (Or.inr (Or.inr ⟨h0, h1⟩)) h
      · exact h1
    · rw [hr]
      unfold NatS
      rw [byts_length]
      constructor
      · exact fun h => h.2.2.2
      · intro hd
        refine ⟨by omega, by omega, fun h0 => ?_, hd⟩
        rcases Nat.lt_or_ge 1 s.size with h1 | h1
        · exact absurd (Or.inr (Or.inr ⟨h0, h1⟩)) h
        · exact h1
end Go.Proofs.YtimmgjlojplccaaGreatDoor
