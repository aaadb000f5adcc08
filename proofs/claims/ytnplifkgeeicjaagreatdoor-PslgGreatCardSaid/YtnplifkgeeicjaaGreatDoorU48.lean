/-
  what package rat tells of a few texts and numbers.
-/
import Derived.Test.YtnplifkgeeicjaaGreatDoorU41
import Derived.Test.YtnplifkgeeicjaaGreatDoorU42
namespace Go.Proofs.YtnplifkgeeicjaaGreatDoor
open Go.RowKit
theorem qparse_c1 (n : Bool) (s t : ByteArray) (w : World) (hT : Tab w) (o : OkQ n s ⟨#[1]⟩) (zs : s.size ≤ 24) (ht : ptxt n s = t) (hi : Lib.index t.data.toList [47] = -1) :
  Calls Tryz.prog 184 #[.string t] w (Re w (.tuple #[(qa1 n s ⟨#[1]⟩), .int .i64 0])) := by
 have HN := fun w1 => parse_ptxt n s w1 o.1 zs
 rw [ht] at HN
 refine qparse_one n n _ _ _ s ⟨#[1]⟩ s ⟨#[1]⟩ (isE (by rw [natOf_one]; omega)) w (fun w1 b => scut1_none t w1 hi) HN (fun w1 => ?_) (fun w1 b => ?_)
 ·have := parse_ptxt false ⟨#[1]⟩ w1 ok_one (by decide)
  rwa [ptxt_one] at this
 ·have := make_ok n false s ⟨#[1]⟩ w1 (hT.below b) o.1 ok_one (K := 24) (by omega) zs (by decide) (by rw [natOf_one]; omega)
  rw [zOf_false, Rat.divInt_ofNat] at this
  rw [qV_is o]
  exact this
theorem qparse_half (w : World) (hT : Tab w) (o : OkQ false ⟨#[1]⟩ ⟨#[2]⟩) :
  Calls Tryz.prog 184 #[.string ⟨#[49, 47, 50]⟩] w (Re w (.tuple #[.agg #[.bool false, .string ⟨#[1]⟩, .string ⟨#[2]⟩], .int .i64 0])) := by
 have od : OkZ false ⟨#[2]⟩ := ⟨o.2.1, fun h => by cases h⟩
 have H1 : ∀ w1, Calls Tryz.prog 216 #[.string ⟨#[49]⟩] w1 (Re w1 (.tuple #[.agg #[.bool false, .string ⟨#[1]⟩], .int .i64 0])) := fun w1 => by
  have := parse_ptxt false ⟨#[1]⟩ w1 ok_one (by decide)
  rwa [show ptxt false ⟨#[1]⟩ = ⟨#[49]⟩ by kernel_rfl] at this
 have H2 : ∀ w1, Calls Tryz.prog 216 #[.string ⟨#[50]⟩] w1 (Re w1 (.tuple #[.agg #[.bool false, .string ⟨#[2]⟩], .int .i64 0])) := fun w1 => by
  have := parse_ptxt false ⟨#[2]⟩ w1 od (by decide)
  rwa [show ptxt false ⟨#[2]⟩ = ⟨#[50]⟩ by kernel_rfl] at this
 have HC : ∀ w1, Calls Tryz.prog 215 #[.string ⟨#[49, 47, 50]⟩, .string ⟨#[47]⟩] w1 (Re w1 (.tuple #[.string ⟨#[49]⟩, .string ⟨#[50]⟩, .bool true])) := fun w1 => by
  have := scut1_hit ⟨#[49, 47, 50]⟩ 1 w1 (by decide +kernel) (by decide) (by decide)
  rwa [show (ByteArray.extract ⟨#[49, 47, 50]⟩ 0 1) = ⟨#[49]⟩ by decide +kernel, show (ByteArray.extract ⟨#[49, 47, 50]⟩ (1 + 1) (ByteArray.size ⟨#[49, 47, 50]⟩)) = ⟨#[50]⟩ by decide +kernel] at this
 refine qparse_cut false false _ _ _ ⟨#[1]⟩ ⟨#[2]⟩ ⟨#[1]⟩ ⟨#[2]⟩ (isE o.2.2.1) w (fun w1 b => HC w1) H1 H2 (fun w1 b => ?_)
 have := make_ok false false ⟨#[1]⟩ ⟨#[2]⟩ w1 (hT.below b) o.1 od (K := 24) (by omega) (by decide) (by decide) o.2.2.1
 rw [show zOf false ⟨#[2]⟩ = ((natOf ⟨#[2]⟩ : Nat) : Int) from zOf_false _, Rat.divInt_ofNat] at this
 rw [qV_is o]
 exact this
theorem qparse_no (w : World) : Calls Tryz.prog 184 #[.string ⟨#[63]⟩] w (Re w (.tuple #[.agg #[.bool false, .string ⟨#[]⟩, .string ⟨#[]⟩], .int .i64 4])) := by
 have HN : ∀ w1, Calls Tryz.prog 216 #[.string ⟨#[63]⟩] w1 (Re w1 (.tuple #[.agg #[.bool false, .string ⟨#[]⟩], .int .i64 4])) := fun w1 => by
  have := parse_posbad ⟨#[63]⟩ w1 (by decide) (fun h => absurd (h.2.2.2 0 (by decide)).2 (by decide))
  exact this
 exact qparse_nbad0 false ⟨#[63]⟩ ⟨#[63]⟩ ⟨#[]⟩ ⟨#[]⟩ 4 (by decide) w (fun w1 b => scut1_none ⟨#[63]⟩ w1 (by decide +kernel)) HN
theorem ba1' (w : World) (o : Obj) : Below w.heap.size w (w.alloc o) := (Below.refl _ _).alloc (Nat.le_refl _) _
theorem qprint_no (w : World) (hT : Tab w) : Calls Tryz.prog 155 #[.agg #[.bool false, .string ⟨#[]⟩, .string ⟨#[]⟩]] w (Re w (.tuple #[.string ⟨#[]⟩, .int .i64 1])) := by
 have HC : Hid (∀ w1, Below w.heap.size w w1 → Calls Tryz.prog 163 #[.agg #[.bool false, .string ⟨#[]⟩, .string ⟨#[]⟩]] w1 (Re w1 (.int .i64 1))) := fun w1 b => by
  have := rchk_any false ⟨#[]⟩ ⟨#[]⟩ w1 (hT.below b)
  rwa [show chkq false ⟨#[]⟩ ⟨#[]⟩ = 1 by decide +kernel] at this
 go_enter Tryz.func155, Tryz.ntmps155
 go_wp2_with fail
 go_fit (HC.out _ (ba (Below.refl _ _) _))
 rintro e w1 ⟨rfl, b1⟩
 have bb := Below.after (ba1' w _) b1
 clear b1
 go_wp2_with fail
 go_ret2
 exact ⟨rfl, bb⟩
theorem qparse_nil (w : World) : Calls Tryz.prog 184 #[.string ⟨#[]⟩] w (Re w (.tuple #[.agg #[.bool false, .string ⟨#[]⟩, .string ⟨#[]⟩], .int .i64 4])) := by
 have HN : ∀ w1, Calls Tryz.prog 216 #[.string ⟨#[]⟩] w1 (Re w1 (.tuple #[.agg #[.bool false, .string ⟨#[]⟩], .int .i64 4])) := fun w1 => by
  have := parse_posbad ⟨#[]⟩ w1 (by decide) (fun h => absurd h.1 (by decide))
  exact this
 exact qparse_nbad0 false ⟨#[]⟩ ⟨#[]⟩ ⟨#[]⟩ ⟨#[]⟩ 4 (by decide) w (fun w1 b => scut1_none ⟨#[]⟩ w1 (by decide +kernel)) HN
end Go.Proofs.YtnplifkgeeicjaaGreatDoor
