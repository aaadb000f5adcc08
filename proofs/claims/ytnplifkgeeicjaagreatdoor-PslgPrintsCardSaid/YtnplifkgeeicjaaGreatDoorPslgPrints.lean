/-
  PslgPrints answers true for every plan that a machine holds: the program and the plain printer tell the same text of it, or alike that it has none; the plan is as it was. The tables and the refusals that are laid at the program's start are listed, and tied to the program's text.
-/
import Derived.Stop.Joined
import Derived.Test.YtnplifkgeeicjaaGreatDoorV53
import Derived.Test.YtnplifkgeeicjaaGreatDoorV55
namespace Go.Proofs.YtnplifkgeeicjaaGreatDoor.pslgPrints
open Go.ChangeShapes Go.WideShapes Go.ChangeAt Go.RowKit
set_option linter.unusedVariables false
noncomputable def w08 (os : Os) : World :=
 let w0 := World.holding Tryz.prog os ⟨#[], #[], []⟩
 { w0 with heap := w0.heap.modify 8 fun
   | .cells _ t frozen => .cells #[.iface 245 (.agg #[.pointer (some ⟨20, 86, none⟩)])] t frozen
   | o => o }
noncomputable def W8 (os : Os) : World := (w08 os).layVars Tryz.prog Hu
theorem W8_os (os : Os) : (W8 os).os = os := World.layVars_os _ _ _
theorem laid_met8 (os : Os) (args : Array Value) : laidMetH Tryz.prog Ll ((W8 os).forCall (fun _ _ => 0) ⟨#[], args, []⟩).memory := by
 have e1 : (Hu.filter fun x => (Hu.map (·.1)).contains x.1) = Hu := List.filter_eq_self.2 fun x hx => List.contains_iff_mem.2 (List.mem_map.2 ⟨x, hx, rfl⟩)
 have e2 : (Hu.filter fun x => !(Hu.map (·.1)).contains x.1) = [] := List.filter_eq_nil_iff.2 fun x hx => by rw [List.contains_iff_mem.2 (List.mem_map.2 ⟨x, hx, rfl⟩)]; simp
 have h : laidMet Tryz.prog Hu (W8 os) := laidMet_layVars (w0 := w08 os) (Hu.map (·.1)) [] (by rw [e1]; rfl) (by rw [e1]; kernel_rfl) (by rw [e1]; kernel_rfl) (by rw [e2]; exact LaidIn.none)
 have h2 : laidMet Tryz.prog Hu ((W8 os).forCall (fun _ _ => 0) ⟨#[], args, []⟩).memory := h.of_heap (by simp [World.memory, World.forCall, Input.heap])
 exact laidMetH_of_parts h2 (by kernel_rfl)
theorem j1 : Tryz.pinned.checked.prog.funcNamed Rows.pslgPrintsRow.func = some 5 := by kernel_rfl
theorem j2 : joinedFacts Tryz.pinned.checked.prog 5 Tryz.f5 Rows.pslgPrintsSpec Rows.pslgPrintsRow = true := by kernel_rfl
theorem j3 : Func.isInstance Tryz.pinned.checked.prog Tryz.f5 Rows.pslgPrintsRow.origin Rows.pslgPrintsRow.targs := of_decide_eq_true (by kernel_rfl)
theorem j4 : Func.isWrapper Tryz.pinned.checked.prog Tryz.f5 Rows.pslgPrintsRow.wrapper Rows.pslgPrintsRow.mainSum := by unfold Func.isWrapper; first | (rw [if_pos (by decide +kernel)]; kernel_rfl) | (rw [if_neg (by decide +kernel)]; exact ⟨rfl, rfl⟩)
set_option maxRecDepth 100000 in
theorem lifted (os : Os) (started : os.Started) (H : Type) (enc : TypeId × Value → H) :
  ReturnsInHanded {} Tryz.checked os 5 .any (fun w args => (Rows.pslgPrintsSpec.pre enc Tryz.prog Tryz.f5 Rows.pslgPrintsRow.domain false w args ∧ laidMetH Tryz.prog Rows.pslgPrintsRow.laid w) ∧ sizedMet enc Tryz.prog Tryz.f5 (OpenSpec.ofChange Rows.pslgPrintsSpec) false w args)
   (Rows.pslgPrintsSpec.post enc Tryz.prog Tryz.f5 false true false false) := by
 refine returnsInHanded_of_change_and (C := Tryz.checked) (X := fun w _ => laidMetH Tryz.prog Ll w) (fun _ _ _ hh h => h.of_heap hh) own started (by kernel_rfl) Tryz.func5
  (ChangeSpec.witness_shaped (enc := enc) (C := Tryz.checked) (os := os) (X := fun w _ => laidMetH Tryz.prog Ll w) false (W8 os) #[.agg #[.slice none 0 0, .slice none 0 0, .slice none 0 0, Iz false, I ByteArray.empty, I ByteArray.empty, Iz false, I ByteArray.empty, I ByteArray.empty, Iz false, I ByteArray.empty, I ByteArray.empty, Iz false, I ByteArray.empty, I ByteArray.empty, Iz false, I ByteArray.empty, I ByteArray.empty, Iz false, I ByteArray.empty, I ByteArray.empty, Iz false, I ByteArray.empty, I ByteArray.empty, Iz false, I ByteArray.empty, I ByteArray.empty, Iz false, I ByteArray.empty, I ByteArray.empty, Iz false, I ByteArray.empty, I ByteArray.empty, Iz false, I ByteArray.empty, I ByteArray.empty, Iz false, I ByteArray.empty, I ByteArray.empty]] 8 (W8_os os)
   (World.shaped_of_ZipB (by kernel_rfl) (by kernel_rfl)) (by kernel_rfl) (by kernel_rfl) (by kernel_rfl) (laid_met8 os _)) ?_
 intro W base args ds gs before hval0 hW _ _ hL _
 have hval : ∀ (j : Nat) t v, Tryz.f5.params[j]? = some t → args[j]? = some v → Value.okWide Tryz.prog W .any base t v := hval0
 have hW' := hW
 obtain ⟨p, q, hA0, hV, rfl, hfz, hnd⟩ := hW
 have hA : DataW.TrodAll enc Tryz.prog W 0 (fun _ => true) true Tryz.f5.params.toList args.toList ds p := hA0
 rw [Tryz.params5] at hA hval
 obtain ⟨v0, vs0, d0, ds0, p0, q0, hargs, rfl, rfl, h0, r0⟩ := trodAll_cons hA
 obtain ⟨rfl, rfl, rfl⟩ := trodAll_nil r0
 obtain rfl : args = #[v0] := by cases args; simp_all
 obtain ⟨rfl, rfl⟩ := trodVars_none hV
 obtain ⟨cs, rfl, hsz⟩ := okWide_struct Tryz.underlying46 (hval 0 46 v0 rfl rfl)
 have lt0 : ∀ x ∈ p0, x.block < W.heap.size := by obtain ⟨m, hm⟩ := h0; exact DataW.trod_lt m _ _ _ hm
 obtain ⟨a1, a2, a3, n1, n2, n3, m1, m2, m3, A1, A3, A2, x, y, ecs, l1, l2, l3, s2, r1, r2, r3, z1, z2, z3⟩ : ∃ (a1 a2 a3 : Option Addr) (n1 n2 n3 m1 m2 m3 : Nat) (A1 A3 : List (Q3 × Q3)) (A2 : List (Int × Int × Bool)) (x y : Nat → Q3), cs.toList = Dq (.slice a1 n1 m1) (.slice a2 n2 m2) (.slice a3 n3 m3) (C4 x) (C4 y) ∧ A1.length = n1 ∧ A2.length = n2 ∧ A3.length = n3 ∧
   (∀ s, s ∈ A2 → Gg s.1 ∧ Gg s.2.1) ∧ B9 W 6 (.slice a1 n1 m1) (A1.map cP) ∧ B9 W 3 (.slice a2 n2 m2) (A2.map cZ) ∧ B9 W 6 (.slice a3 n3 m3) (A3.map cP) ∧ (a1 = none → m1 = 0) ∧ (a2 = none → m2 = 0) ∧ (a3 = none → m3 = 0) := by
  obtain ⟨fuel, hf⟩ := h0
  exact Xv hf
 obtain ⟨l⟩ := cs
 have ecs' : l = Dq (.slice a1 n1 m1) (.slice a2 n2 m2) (.slice a3 n3 m3) (C4 x) (C4 y) := ecs
 subst ecs'
 clear hA0 hval0
 obtain ⟨⟨aL, hE⟩, hP⟩ := Vr hL
 refine (Xq A1 A3 A2 a1 a2 a3 n1 n2 n3 m1 m2 m3 x y W aL hE hP l1 l2 l3 s2 r1 r2 r3 z1 z2 z3).mono fun e W' ⟨he, bel⟩ => ?_
 subst he
 exact ⟨_, rfl, _, _, _, [], _, [], hW', trodAll_mk1 (shut_bool Tryz.underlying4 _), (trodAll_cons_mk (Below.trod Bkm (by kernel_rfl) (of_decide_eq_true (by kernel_rfl)) h0 bel lt0) trodAll_mk0), rfl, bel.frame _, fun h => by cases h⟩
theorem said : Rows.PslgPrintsSaid :=
 OpenClaim.holds_of_wide 5 Tryz.f5 rfl rfl rfl rfl rfl rfl rfl ⟨rfl, rfl, rfl, rfl, rfl⟩ rfl rfl rfl rfl rfl j1 Tryz.func5 j2 j3 j4 (fun os started H enc _ => lifted os started H enc)
theorem proved : Rows.PslgPrintsCardSaid :=
 Claim7.holds_tied_plain_at .later [] _ _ _ _ said (fun _ h => by cases h) (by kernel_rfl) (fun _ h => by cases h) pslgPrints_row_tie rfl ⟨rfl, rfl⟩ (by kernel_rfl) rfl
  (fun f fn hf hfn => by
   obtain rfl : f = 5 := Option.some.inj ((show Tryz.prog.funcNamed "gusset/gussetlaw08.PslgPrints" = some 5 by kernel_rfl).symm.trans hf) |>.symm
   obtain rfl : fn = Tryz.f5 := (Option.some.inj (Tryz.func5.symm.trans hfn)).symm
   exact ⟨by kernel_rfl, fun j t ht => by
    rw [Tryz.params5] at ht
    have hm : t ∈ [46] := by simpa using Array.mem_of_getElem? ht
    have hall : ([46].all fun u => !Tryz.prog.wantsStandIn u) = true := by kernel_rfl
    exact (show Tryz.prog.wantsStandIn t = false by simpa using List.all_eq_true.1 hall t hm)⟩)
  (by kernel_rfl)
#print axioms proved
end Go.Proofs.YtnplifkgeeicjaaGreatDoor.pslgPrints
