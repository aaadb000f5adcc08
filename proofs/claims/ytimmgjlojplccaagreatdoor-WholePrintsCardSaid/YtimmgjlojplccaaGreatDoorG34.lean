/-
  Rows that are too long: what limb refuses.
-/
import Derived.Test.YtimmgjlojplccaaGreatDoorG04
namespace Go.Proofs.YtimmgjlojplccaaGreatDoor
open Go.RowKit

theorem rd_none (w : World) : Rd w (.slice none 0 0) [] := ⟨none, 0, rfl, by simp, fun j hj => by simp at hj⟩
theorem shut' {p : Prop} (h : p) : Hid p := h
theorem tooLong2_yes (a b : Option Addr) (m n c d B o : Nat) (cap : Nat) (w : World) (ha : w.cell? ⟨B, o, none⟩ = some (.slice a m c)) (hb : w.cell? ⟨B, o + 1, none⟩ = some (.slice b n d)) (h : 4000 < m ∨ 4000 < n) :
    Calls Tryz.prog 46 #[.slice (some ⟨B, o, none⟩) 2 cap] w fun e w' => e = .returned (.bool true) ∧ w' = w := by
  by_cases hm : 4000 < m
  · go_enter Tryz.func46, Tryz.ntmps46
    go_wp2
    go_rounds 1
    go_ret
    exact ⟨rfl, rfl⟩
  · have hn : 4000 < n := h.resolve_left hm
    clear h
    go_enter Tryz.func46, Tryz.ntmps46
    go_wp2
    go_rounds 2
    go_ret
    exact ⟨rfl, rfl⟩
theorem tooLong1_yes (a : Option Addr) (m c B o : Nat) (cap : Nat) (w : World) (ha : w.cell? ⟨B, o, none⟩ = some (.slice a m c)) (hm : 4000 < m) :
    Calls Tryz.prog 46 #[.slice (some ⟨B, o, none⟩) 1 cap] w fun e w' => e = .returned (.bool true) ∧ w' = w := by
  go_enter Tryz.func46, Tryz.ntmps46
  go_wp2
  go_rounds 1
  go_ret
  exact ⟨rfl, rfl⟩

theorem add_long (a b : Option Addr) (m n c d : Nat) (w : World) (h : 4000 < m ∨ 4000 < n) :
    Calls Tryz.prog 29 #[.slice a m c, .slice b n d] w fun e w' => e = .returned (.tuple #[.slice none 0 0, .int .i64 5]) ∧ Below w.heap.size w w' := by
  have H := shut' h
  clear h
  go_enter Tryz.func29, Tryz.ntmps29
  go_wp2_with fail
  refine (tooLong2_yes a b m n c d _ 0 2 _ (by simp [go_sem]) (by simp [go_sem]) H.out).mono ?_
  rintro e w1 ⟨rfl, rfl⟩
  go_wp2
  go_ret2
  exact ⟨rfl, by go_grown⟩

theorem sub_long (a b : Option Addr) (m n c d : Nat) (w : World) (h : 4000 < m ∨ 4000 < n) :
    Calls Tryz.prog 30 #[.slice a m c, .slice b n d] w fun e w' => e = .returned (.tuple #[.slice none 0 0, .int .i64 5]) ∧ Below w.heap.size w w' := by
  have H := shut' h
  clear h
  go_enter Tryz.func30, Tryz.ntmps30
  go_wp2_with fail
  refine (tooLong2_yes a b m n c d _ 0 2 _ (by simp [go_sem]) (by simp [go_sem]) H.out).mono ?_
  rintro e w1 ⟨rfl, rfl⟩
  go_wp2
  go_ret2
  exact ⟨rfl, by go_grown⟩

theorem mul_long (a b : Option Addr) (m n c d : Nat) (w : World) (h : 4000 < m ∨ 4000 < n) :
    Calls Tryz.prog 26 #[.slice a m c, .slice b n d] w fun e w' => e = .returned (.tuple #[.slice none 0 0, .int .i64 5]) ∧ Below w.heap.size w w' := by
  have H := shut' h
  clear h
  go_enter Tryz.func26, Tryz.ntmps26
  go_wp2_with fail
  refine (tooLong2_yes a b m n c d _ 0 2 _ (by simp [go_sem]) (by simp [go_sem]) H.out).mono ?_
  rintro e w1 ⟨rfl, rfl⟩
  go_wp2
  go_ret2
  exact ⟨rfl, by go_grown⟩

theorem divmod_long (a b : Option Addr) (m n c d : Nat) (w : World) (h : 4000 < m ∨ 4000 < n) :
    Calls Tryz.prog 28 #[.slice a m c, .slice b n d] w fun e w' => e = .returned (.tuple #[.slice none 0 0, .slice none 0 0, .int .i64 5]) ∧ Below w.heap.size w w' := by
  have H := shut' h
  clear h
  go_enter Tryz.func28, Tryz.ntmps28
  go_wp2_with fail
  refine (tooLong2_yes a b m n c d _ 0 2 _ (by simp [go_sem]) (by simp [go_sem]) H.out).mono ?_
  rintro e w1 ⟨rfl, rfl⟩
  go_wp2
  go_ret3
  exact ⟨rfl, by go_grown⟩

theorem cmp_long (a b : Option Addr) (m n c d : Nat) (w : World) (h : 4000 < m ∨ 4000 < n) :
    Calls Tryz.prog 24 #[.slice a m c, .slice b n d] w fun e w' => e = .returned (.tuple #[.int .i64 0, .int .i64 5]) ∧ Below w.heap.size w w' := by
  have H := shut' h
  clear h
  go_enter Tryz.func24, Tryz.ntmps24
  go_wp2_with fail
  refine (tooLong2_yes a b m n c d _ 0 2 _ (by simp [go_sem]) (by simp [go_sem]) H.out).mono ?_
  rintro e w1 ⟨rfl, rfl⟩
  go_wp2
  go_ret2
  exact ⟨rfl, by go_grown⟩

theorem nat_long (a : Option Addr) (m c : Nat) (w : World) (h : 4000 < m) :
    Calls Tryz.prog 79 #[.slice a m c] w fun e w' => e = .returned (.tuple #[.string ByteArray.empty, .int .i64 5]) ∧ Below w.heap.size w w' := by
  go_enter Tryz.func79, Tryz.ntmps79
  go_wp2_with fail
  refine (tooLong1_yes a m c _ 0 1 _ (by simp [go_sem]) h).mono ?_
  rintro e w1 ⟨rfl, rfl⟩
  go_wp2
  go_ret2
  exact ⟨rfl, by go_grown⟩
end Go.Proofs.YtimmgjlojplccaaGreatDoor
