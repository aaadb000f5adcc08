/-
  PslgGreat answers true for any three numbers: a text of more points, segments or holes than there may be is refused, one of as many as there may be is read. The tables and the refusals that are laid at the program's start are listed, and tied to the program's text.
-/
import Derived.SevenTiedAt
import Derived.Stop.Joined
import Derived.Test.YtnplifkgeeicjaaGreatDoorU49
import Derived.Test.YtnplifkgeeicjaaGreatDoorU51
namespace Go.Proofs.YtnplifkgeeicjaaGreatDoor.pslgGreat
open Go.ChangeShapes Go.WideShapes Go.ChangeAt Go.RowKit
set_option linter.unusedVariables false
noncomputable def w08 (os : Os) : World :=
 let w0 := World.holding Tryz.prog os ⟨#[], #[], []⟩
 { w0 with heap := w0.heap.modify 8 fun
   | .cells _ t frozen => .cells #[.iface 245 (.agg #[.pointer (some ⟨20, 86, none⟩)])] t frozen
   | o => o }
noncomputable def W8 (os : Os) : World := (w08 os).layVars Tryz.prog plain8
theorem W8_os (os : Os) : (W8 os).os = os := World.layVars_os _ _ _
theorem laid_met8 (os : Os) (args : Array Value) : laidMetH Tryz.prog laids8 ((W8 os).forCall (fun _ _ => 0) ⟨#[], args, []⟩).memory := by
 have e1 : (plain8.filter fun x => (plain8.map (·.1)).contains x.1) = plain8 := List.filter_eq_self.2 fun x hx => List.contains_iff_mem.2 (List.mem_map.2 ⟨x, hx, rfl⟩)
 have e2 : (plain8.filter fun x => !(plain8.map (·.1)).contains x.1) = [] := List.filter_eq_nil_iff.2 fun x hx => by rw [List.contains_iff_mem.2 (List.mem_map.2 ⟨x, hx, rfl⟩)]; simp
 have h : laidMet Tryz.prog plain8 (W8 os) := laidMet_layVars (w0 := w08 os) (plain8.map (·.1)) [] (by rw [e1]; rfl) (by rw [e1]; kernel_rfl) (by rw [e1]; kernel_rfl) (by rw [e2]; exact LaidIn.none)
 have h2 : laidMet Tryz.prog plain8 ((W8 os).forCall (fun _ _ => 0) ⟨#[], args, []⟩).memory := h.of_heap (by simp [World.memory, World.forCall, Input.heap])
 exact laidMetH_of_parts h2 (by kernel_rfl)
theorem j1 : Tryz.pinned.checked.prog.funcNamed Rows.pslgGreatRow.func = some 8 := by kernel_rfl
theorem j2 : joinedFacts Tryz.pinned.checked.prog 8 Tryz.f8 Rows.pslgGreatSpec Rows.pslgGreatRow = true := by kernel_rfl
theorem j3 : Func.isInstance Tryz.pinned.checked.prog Tryz.f8 Rows.pslgGreatRow.origin Rows.pslgGreatRow.targs := of_decide_eq_true (by kernel_rfl)
theorem j4 : Func.isWrapper Tryz.pinned.checked.prog Tryz.f8 Rows.pslgGreatRow.wrapper Rows.pslgGreatRow.mainSum := by unfold Func.isWrapper; first | (rw [if_pos (by decide +kernel)]; kernel_rfl) | (rw [if_neg (by decide +kernel)]; exact ⟨rfl, rfl⟩)
set_option maxRecDepth 100000 in
theorem lifted (os : Os) (started : os.Started) (H : Type) (enc : TypeId × Value → H) :
  ReturnsInHanded {} Tryz.checked os 8 .any (fun w args => (Rows.pslgGreatSpec.pre enc Tryz.prog Tryz.f8 Rows.pslgGreatRow.domain false w args ∧ laidMetH Tryz.prog Rows.pslgGreatRow.laid w) ∧ sizedMet enc Tryz.prog Tryz.f8 (OpenSpec.ofChange Rows.pslgGreatSpec) false w args)
   (Rows.pslgGreatSpec.post enc Tryz.prog Tryz.f8 false true false false) := by
 refine returnsInHanded_of_change_and (C := Tryz.checked) (X := fun w _ => laidMetH Tryz.prog laids8 w) (fun _ _ _ hh h => h.of_heap hh) own started (by kernel_rfl) Tryz.func8
  (ChangeSpec.witness_shaped (enc := enc) (C := Tryz.checked) (os := os) (X := fun w _ => laidMetH Tryz.prog laids8 w) false (W8 os) #[.int .i64 0, .int .i64 0, .int .i64 0] 8 (W8_os os)
   (World.shaped_of_ZipB (by kernel_rfl) (by kernel_rfl)) (by kernel_rfl) (by kernel_rfl) (by kernel_rfl) (laid_met8 os _)) ?_
 intro W base args ds gs before hval0 hW _ _ hL _
 have hval : ∀ (j : Nat) t v, Tryz.f8.params[j]? = some t → args[j]? = some v → Value.okWide Tryz.prog W .any base t v := hval0
 have hW' := hW
 obtain ⟨p, q, hA0, hV, rfl, hfz, hnd⟩ := hW
 have hA : DataW.TrodAll enc Tryz.prog W 0 (fun _ => true) true Tryz.f8.params.toList args.toList ds p := hA0
 rw [Tryz.params8] at hA hval
 obtain ⟨v0, vs0, d0, ds0, p0, q0, hargs, rfl, rfl, h0, r0⟩ := trodAll_cons hA
 obtain ⟨v1, vs1, d1, ds1, p1, q1, rfl, rfl, rfl, h1, r1⟩ := trodAll_cons r0
 obtain ⟨v2, vs2, d2, ds2, p2, q2, rfl, rfl, rfl, h2, r2⟩ := trodAll_cons r1
 obtain ⟨rfl, rfl, rfl⟩ := trodAll_nil r2
 obtain rfl : args = #[v0, v1, v2] := by cases args; simp_all
 obtain ⟨rfl, rfl⟩ := trodVars_none hV
 obtain ⟨z0, rfl, rfl, rfl, wn0⟩ := open_int Tryz.underlying3 (hval 0 3 v0 rfl rfl) h0
 obtain ⟨z1, rfl, rfl, rfl, wn1⟩ := open_int Tryz.underlying3 (hval 1 3 v1 rfl rfl) h1
 obtain ⟨z2, rfl, rfl, rfl, wn2⟩ := open_int Tryz.underlying3 (hval 2 3 v2 rfl rfl) h2
 clear hA0 hval0
 obtain ⟨⟨aL, hE⟩, hP⟩ := env_of_laid8 hL
 refine (great8_law z0 z1 z2 W aL hE hP).mono fun e W' ⟨he, bel⟩ => ?_
 subst he
 exact ⟨_, rfl, _, _, _, [], _, [], hW', trodAll_mk1 (shut_bool Tryz.underlying4 _), (trodAll_cons_mk (shut_int Tryz.underlying3 wn0) (trodAll_cons_mk (shut_int Tryz.underlying3 wn1) (trodAll_cons_mk (shut_int Tryz.underlying3 wn2) trodAll_mk0))), rfl, bel.frame _, fun h => by cases h⟩
theorem said : Rows.PslgGreatSaid :=
 OpenClaim.holds_of_wide 8 Tryz.f8 rfl rfl rfl rfl rfl rfl rfl ⟨rfl, rfl, rfl, rfl, rfl⟩ rfl rfl rfl rfl rfl j1 Tryz.func8 j2 j3 j4 (fun os started H enc _ => lifted os started H enc)
theorem proved : Rows.PslgGreatCardSaid :=
 Claim7.holds_tied_plain_at .later [] _ _ _ _ said (fun _ h => by cases h) (by kernel_rfl) (fun _ h => by cases h) pslgGreat_row_tie rfl ⟨rfl, rfl⟩ (by kernel_rfl) rfl
  (fun f fn hf hfn => by
   obtain rfl : f = 8 := Option.some.inj ((show Tryz.prog.funcNamed "gusset/gussetlaw08.PslgGreat" = some 8 by kernel_rfl).symm.trans hf) |>.symm
   obtain rfl : fn = Tryz.f8 := (Option.some.inj (Tryz.func8.symm.trans hfn)).symm
   exact ⟨by kernel_rfl, fun j t ht => by
    rw [Tryz.params8] at ht
    have hm : t ∈ [3] := by simpa using Array.mem_of_getElem? ht
    have hall : ([3].all fun u => !Tryz.prog.wantsStandIn u) = true := by kernel_rfl
    exact (show Tryz.prog.wantsStandIn t = false by simpa using List.all_eq_true.1 hall t hm)⟩)
  (by kernel_rfl)
#print axioms proved
end Go.Proofs.YtnplifkgeeicjaaGreatDoor.pslgGreat
