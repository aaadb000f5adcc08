/-
  gussetlaw04: VecTurned, walked where nothing is asked.
-/
import Derived.ArgAppend
import Derived.Deep.CutRange
import Derived.Deep.DeepFit
import Derived.Deep.Upon
import Derived.Laws.AppendOwnNone
import Derived.Lib.AppendIntMem
import Derived.Lib.AppendZeros
import Derived.Lib.BufferGrow
import Derived.Lib.SliceRun
import Derived.Shelf.LaysM
import Derived.Shelf.Spec.TrailingZeros
import Derived.Shelf.Strconv.Itoa1
import Derived.Shelf.Strconv.Itoa2
import Derived.Shelf.Strings.BuilderK
import Derived.Shelf.Strings.Prefix
import Derived.Shelf.Strings.Repeat
import Derived.Shelf.Strings.Trim
import Derived.Test.YtgihiaaodkkkbaaGreatDoorG20
import Derived.Test.YtgihiaaodkkkbaaGreatDoorG23
namespace Go.Proofs.YtgihiaaodkkkbaaGreatDoor
open Go.RowKit

set_option maxRecDepth 100000 in
set_option maxHeartbeats 8000000 in
theorem turned_l (ar : Option Addr) (n cap : Nat) (a b E : Int) (F : Prop) (s : Bool) (w : World)
  (HL : Hid (∀ w1, Below w.heap.size w w1 → Calls Tryz.prog 12 #[] w1 fun e w' => e = .returned (.bool true) ∧ Below w1.heap.size w1 w'))
  (HF : Hid (∀ w1, Below w.heap.size w w1 → Calls Tryz.prog 9 #[.slice ar n cap] w1 fun e w' => (e = .returned (.bool false) ∨ e = .returned (.bool true) ∧ F) ∧ Below w1.heap.size w1 w'))
  (HS : Hid (∀ w1, Below w.heap.size w w1 → Calls Tryz.prog 10 #[.slice ar n cap] w1 fun e w' => e = .returned (.bool s) ∧ w' = w1))
  (HN : Hid (F → s = true → ∀ w1, Below w.heap.size w w1 → Calls Tryz.prog 11 #[.slice ar n cap] w1 fun e w' => e = .returned (.int .i64 E) ∧ Below w1.heap.size w1 w'))
  (hout : Hid (F → s = true → E = 0 → 0 ≤ a → 0 ≤ b → a < n → b < n → a = b)) :
  Calls Tryz.prog 3 #[.slice ar n cap, .int .i64 a, .int .i64 b] w fun e w' => e = .returned (.bool true) ∧ Below w.heap.size w w' := by
 go_enter Tryz.func3, Tryz.ntmps3
 go_wp2_with fail
 go_fit (HF.out _ (Below.refl _ _))
 rintro e w1 ⟨rfl | ⟨rfl, hF⟩, bb⟩
 ·go_wp2_with fail
  go_fit (HL.out _ bb)
  rintro e w2 ⟨rfl, b1⟩
  replace bb := Below.after bb b1
  go_wp2
  go_ret
  exact ⟨rfl, bb⟩
 replace hF := shut hF
 go_wp2_with fail
 go_fit (HS.out _ bb)
 rintro e w2 ⟨rfl, rfl⟩
 cases s with
 | false =>
  go_wp2_with fail
  go_fit (HL.out _ bb)
  rintro e w2 ⟨rfl, b1⟩
  replace bb := Below.after bb b1
  go_wp2
  go_ret
  exact ⟨rfl, bb⟩
 | true =>
 go_wp2_with fail
 go_fit (HN.out hF.out trivial _ bb)
 rintro e w3 ⟨rfl, b1⟩
 replace bb := Below.after bb b1
 clear b1
 have H1 : ¬ E = 0 ∨ a < 0 ∨ b < 0 ∨ (n : Int) ≤ a ∨ (n : Int) ≤ b ∨ a = b := by
  have := hout.out hF.out trivial
  omega
 clear hout
 have fin : ∀ P : Prop, P → P := fun _ h => h
 by_cases h0 : E = 0
 ·subst h0
  by_cases h1 : a < 0
  ·go_wp2_with fail
   go_fit (HL.out _ bb)
   rintro e w2 ⟨rfl, b1⟩
   replace bb := Below.after bb b1
   go_wp2
   go_ret
   exact ⟨rfl, bb⟩
  by_cases h2 : b < 0
  ·go_wp2_with fail
   go_fit (HL.out _ bb)
   rintro e w2 ⟨rfl, b1⟩
   replace bb := Below.after bb b1
   go_wp2
   go_ret
   exact ⟨rfl, bb⟩
  by_cases h3 : (n : Int) ≤ a
  ·go_wp2_with fail
   go_fit (HL.out _ bb)
   rintro e w2 ⟨rfl, b1⟩
   replace bb := Below.after bb b1
   go_wp2
   go_ret
   exact ⟨rfl, bb⟩
  by_cases h4 : (n : Int) ≤ b
  ·go_wp2_with fail
   go_fit (HL.out _ bb)
   rintro e w2 ⟨rfl, b1⟩
   replace bb := Below.after bb b1
   go_wp2
   go_ret
   exact ⟨rfl, bb⟩
  obtain rfl : a = b := by omega
  go_wp2_with fail
  go_fit (HL.out _ bb)
  rintro e w2 ⟨rfl, b1⟩
  replace bb := Below.after bb b1
  go_wp2
  go_ret
  exact ⟨rfl, bb⟩
 ·go_wp2_with fail
  go_fit (HL.out _ bb)
  rintro e w2 ⟨rfl, b1⟩
  replace bb := Below.after bb b1
  go_wp2
  go_ret
  exact ⟨rfl, bb⟩
end Go.Proofs.YtgihiaaodkkkbaaGreatDoor
