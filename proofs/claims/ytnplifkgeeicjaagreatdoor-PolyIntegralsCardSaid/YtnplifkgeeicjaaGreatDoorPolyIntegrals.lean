/-
  For every polynomial and every triangle gussetlaw07.PolyIntegrals is true: poly.Integral, Loads and Square tell what the document says, or the error that it says. Nothing that was handed in is changed. The package's tables hold what their initialisers say.
-/
import Derived.Test.YtnplifkgeeicjaaGreatDoorQ46
import Derived.Test.YtnplifkgeeicjaaGreatDoorQ50
namespace Go.Proofs.YtnplifkgeeicjaaGreatDoor.polyIntegrals
open Go.ChangeShapes Go.WideShapes Go.ChangeAt Go.RowKit
set_option linter.unusedVariables false
theorem j1 : Tryz.pinned.checked.prog.funcNamed Rows.polyIntegralsRow.func = some 3 := by kernel_rfl
theorem j2 : joinedFacts Tryz.pinned.checked.prog 3 Tryz.f3 Rows.polyIntegralsSpec Rows.polyIntegralsRow = true := by kernel_rfl
theorem j3 : Func.isInstance Tryz.pinned.checked.prog Tryz.f3 Rows.polyIntegralsRow.origin Rows.polyIntegralsRow.targs := of_decide_eq_true (by kernel_rfl)
theorem j4 : Func.isWrapper Tryz.pinned.checked.prog Tryz.f3 Rows.polyIntegralsRow.wrapper Rows.polyIntegralsRow.mainSum := by unfold Func.isWrapper; first | (rw [if_pos (by decide +kernel)]; kernel_rfl) | (rw [if_neg (by decide +kernel)]; exact ⟨rfl, rfl⟩)
set_option maxRecDepth 100000 in
theorem lifted (os : Os) (started : os.Started) (H : Type) (enc : TypeId × Value → H) :
  ReturnsInHanded {} Tryz.checked os 3 .any (fun w args => (Rows.polyIntegralsSpec.pre enc Tryz.prog Tryz.f3 Rows.polyIntegralsRow.domain false w args ∧ laidMetH Tryz.prog Rows.polyIntegralsRow.laid w) ∧ sizedMet enc Tryz.prog Tryz.f3 (OpenSpec.ofChange Rows.polyIntegralsSpec) false w args)
   (Rows.polyIntegralsSpec.post enc Tryz.prog Tryz.f3 false true false false) := by
 refine returnsInHanded_of_change_and (C := Tryz.checked) (X := fun w _ => laidMetH Tryz.prog Ga w) (fun _ _ _ hh h => h.of_heap hh) own started (by kernel_rfl) Tryz.func3
  (ChangeSpec.witness_shaped (enc := enc) (C := Tryz.checked) (os := os) (X := fun w _ => laidMetH Tryz.prog Ga w) false (World.laidAll Tryz.prog os Ga) #[(Cp false ByteArray.empty ByteArray.empty false ByteArray.empty ByteArray.empty false ByteArray.empty ByteArray.empty false ByteArray.empty ByteArray.empty false ByteArray.empty ByteArray.empty false ByteArray.empty ByteArray.empty), (Cp false ByteArray.empty ByteArray.empty false ByteArray.empty ByteArray.empty false ByteArray.empty ByteArray.empty false ByteArray.empty ByteArray.empty false ByteArray.empty ByteArray.empty false ByteArray.empty ByteArray.empty)] 8 (World.laidAll_os _ _ _)
   (World.shaped_of_ZipB (by kernel_rfl) (by kernel_rfl)) (by kernel_rfl) (by kernel_rfl) (by kernel_rfl) (Ys os _)) ?_
 intro W base args ds gs before hval0 hW _ _ hL _
 have hval : ∀ (j : Nat) t v, Tryz.f3.params[j]? = some t → args[j]? = some v → Value.okWide Tryz.prog W .any base t v := hval0
 have hW' := hW
 obtain ⟨p, q, hA0, hV, rfl, hfz, hnd⟩ := hW
 have hA : DataW.TrodAll enc Tryz.prog W 0 (fun _ => true) true Tryz.f3.params.toList args.toList ds p := hA0
 rw [Tryz.params3] at hA hval
 obtain ⟨v0, vs0, dd0, ds0, p0, q0, hargs, rfl, rfl, h0, r0⟩ := trodAll_cons hA
 obtain ⟨v1, vs1, dd1, ds1, p1, q1, rfl, rfl, rfl, h1, r1⟩ := trodAll_cons r0
 obtain ⟨rfl, rfl, rfl⟩ := trodAll_nil r1
 obtain rfl : args = #[v0, v1] := by cases args; simp_all
 obtain ⟨rfl, rfl⟩ := trodVars_none hV
 obtain ⟨b00, b01, b02, b03, b04, b05, s00, e00, s01, e01, s02, e02, s03, e03, s04, e04, s05, e05, rfl⟩ := Yg (hval 0 28 v0 rfl rfl) h0
 have lt0 : ∀ x ∈ p0, x.block < W.heap.size := by obtain ⟨m, hm⟩ := h0; exact DataW.trod_lt m _ _ _ hm
 obtain ⟨b10, b11, b12, b13, b14, b15, s10, e10, s11, e11, s12, e12, s13, e13, s14, e14, s15, e15, rfl⟩ := Bba (hval 1 31 v1 rfl rfl) h1
 have lt1 : ∀ x ∈ p1, x.block < W.heap.size := by obtain ⟨m, hm⟩ := h1; exact DataW.trod_lt m _ _ _ hm
 clear hA0 hval0
 refine (Yt b00 b01 b02 b03 b04 b05 b10 b11 b12 b13 b14 b15 s00 e00 s01 e01 s02 e02 s03 e03 s04 e04 s05 e05 s10 e10 s11 e11 s12 e12 s13 e13 s14 e14 s15 e15 W (P6 hL) (O0 hL) (O3 hL)).mono fun e W' ⟨he, bel⟩ => ?_
 subst he
 exact ⟨_, rfl, _, _, _, [], _, [], hW', trodAll_mk1 (shut_bool Tryz.underlying4 _), (trodAll_cons_mk (Below.trod Ww (by kernel_rfl) (of_decide_eq_true (by kernel_rfl)) h0 bel lt0) (trodAll_cons_mk (Below.trod Ww (by kernel_rfl) (of_decide_eq_true (by kernel_rfl)) h1 bel lt1) trodAll_mk0)), rfl, bel.frame _, fun h => by cases h⟩
theorem said : Rows.PolyIntegralsSaid :=
 OpenClaim.holds_of_wide 3 Tryz.f3 rfl rfl rfl rfl rfl rfl rfl ⟨rfl, rfl, rfl, rfl, rfl⟩ rfl rfl rfl rfl rfl j1 Tryz.func3 j2 j3 j4 (fun os started H enc _ => lifted os started H enc)
theorem proved : Rows.PolyIntegralsCardSaid :=
 Claim7.holds_tied_plain_at .later [] _ _ _ _ said (fun _ h => by cases h) (by kernel_rfl) (fun _ h => by cases h) polyIntegrals_row_tie rfl ⟨rfl, rfl⟩ (by kernel_rfl) rfl
  (fun f fn hf hfn => by
   obtain rfl : f = 3 := Option.some.inj ((show Tryz.prog.funcNamed "gusset/gussetlaw07.PolyIntegrals" = some 3 by kernel_rfl).symm.trans hf) |>.symm
   obtain rfl : fn = Tryz.f3 := (Option.some.inj (Tryz.func3.symm.trans hfn)).symm
   exact ⟨by kernel_rfl, fun j t ht => by
    rw [Tryz.params3] at ht
    have hm : t ∈ [28, 31] := by simpa using Array.mem_of_getElem? ht
    have hall : ([28, 31].all fun u => !Tryz.prog.wantsStandIn u) = true := by kernel_rfl
    exact (show Tryz.prog.wantsStandIn t = false by simpa using List.all_eq_true.1 hall t hm)⟩)
  (by kernel_rfl)
#print axioms proved
end Go.Proofs.YtnplifkgeeicjaaGreatDoor.polyIntegrals
