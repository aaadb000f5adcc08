/-
  Plans as text: what both readers do with the tokens of a text, and that they do the same.
-/
import Derived.Lib.FieldsP
import Derived.Test.YtnplifkgeeicjaaGreatDoorR16
namespace Go.Proofs.YtnplifkgeeicjaaGreatDoor
abbrev Q3 := Bool × ByteArray × ByteArray
abbrev St := Option (List ByteArray)
abbrev eS : ByteArray := ⟨#[]⟩
def nx : St → ByteArray × St
 | some (t :: l) => (t, some l)
 | _ => (eS, none)
def wd (c : ByteArray) (s : St) : St := if (nx s).1 = c then (nx s).2 else none
def dg3 : List Nat → Nat → Option Nat
 | [], n => some n
 | c :: l, n => if c < 48 ∨ 57 < c then none else dg3 l (10 * n + (c - 48))
def cof (t : ByteArray) : Option Nat := if t.size < 1 ∨ 3 < t.size ∨ (lm (byts t) 0 = 48 ∧ 1 < t.size) then none else dg3 (byts t) 0
def cof2 (m : Int) (t : ByteArray) : Option Nat := (cof t).filter fun n => decide ((n : Int) ≤ m)
def ct (m : Int) (s : St) : Nat × St := match cof2 m (nx s).1 with | some n => (n, (nx s).2) | none => (0, none)
def nu (P : ByteArray → Q3) (E : ByteArray → Int) (s : St) : Q3 × St := (P (nx s).1, if E (nx s).1 = 0 then (nx s).2 else none)
def pt (P : ByteArray → Q3) (E : ByteArray → Int) (s : St) : (Q3 × Q3) × St := (((nu P E s).1, (nu P E (nu P E s).2).1), (nu P E (nu P E s).2).2)
abbrev tD : ByteArray := ⟨#[100]⟩
abbrev tN : ByteArray := ⟨#[110]⟩
def kd (s : St) : Bool × St := (decide ((nx s).1 = tD), if (nx s).1 = tD ∨ (nx s).1 = tN then (nx s).2 else none)
def sg (m : Int) (s : St) : (Nat × Nat × Bool) × St :=
 (((ct m s).1, (ct m (ct m s).2).1, (kd (ct m (ct m s).2).2).1), (kd (ct m (ct m s).2).2).2)
def rep {α : Type} (f : St → α × St) : Nat → St → List α × St
 | 0, s => ([], s)
 | n + 1, s => ((f s).1 :: (rep f n (f s).2).1, (rep f n (f s).2).2)
theorem rep_snoc {α : Type} (f : St → α × St) : ∀ (n : Nat) (s : St), rep f (n + 1) s = ((rep f n s).1 ++ [(f (rep f n s).2).1], (f (rep f n s).2).2)
 | 0, s => rfl
 | n + 1, s => by
  rw [rep, rep_snoc f n (f s).2]
  rfl
theorem rep_len {α : Type} (f : St → α × St) : ∀ (n : Nat) (s : St), (rep f n s).1.length = n
 | 0, _ => rfl
 | n + 1, s => by rw [rep, List.length_cons, rep_len f n]
def lsP {α : Type} (f : St → α × St) (c : ByteArray) (m : Int) (s : St) : List α × St := rep f (ct m (wd c s)).1 (ct m (wd c s)).2
structure Pl where
 pts : List (Q3 × Q3)
 segs : List (Nat × Nat × Bool)
 holes : List (Q3 × Q3)
 F : List Q3
 G : List Q3
abbrev wP : ByteArray := ⟨#[112, 115, 108, 103]⟩
abbrev wV : ByteArray := ⟨#[118]⟩
abbrev wS : ByteArray := ⟨#[115]⟩
abbrev wH : ByteArray := ⟨#[104]⟩
abbrev wF : ByteArray := ⟨#[102]⟩
abbrev wG : ByteArray := ⟨#[103]⟩
abbrev wE : ByteArray := ⟨#[101, 110, 100]⟩
def r1 (P : ByteArray → Q3) (E : ByteArray → Int) (l : List ByteArray) : List (Q3 × Q3) × St := lsP (pt P E) wV 40 (wd wP (some l))
def r2 (P : ByteArray → Q3) (E : ByteArray → Int) (l : List ByteArray) : List (Nat × Nat × Bool) × St := lsP (sg (((r1 P E l).1.length : Int) - 1)) wS 60 (r1 P E l).2
def r3 (P : ByteArray → Q3) (E : ByteArray → Int) (l : List ByteArray) : List (Q3 × Q3) × St := lsP (pt P E) wH 10 (r2 P E l).2
def r4 (P : ByteArray → Q3) (E : ByteArray → Int) (l : List ByteArray) : List Q3 × St := rep (nu P E) 6 (wd wF (r3 P E l).2)
def r5 (P : ByteArray → Q3) (E : ByteArray → Int) (l : List ByteArray) : List Q3 × St := rep (nu P E) 6 (wd wG (r4 P E l).2)
def r6 (P : ByteArray → Q3) (E : ByteArray → Int) (l : List ByteArray) : St := wd wE (r5 P E l).2
def rpl (P : ByteArray → Q3) (E : ByteArray → Int) (l : List ByteArray) : Pl := ⟨(r1 P E l).1, (r2 P E l).1, (r3 P E l).1, (r4 P E l).1, (r5 P E l).1⟩
def plan (P : ByteArray → Q3) (E : ByteArray → Int) (l : List ByteArray) : Option Pl := if r6 P E l = some [] then some (rpl P E l) else none
abbrev RS := List ByteArray × Bool
def nxR : RS → ByteArray × RS
 | ([], _) => (eS, ([], true))
 | (t :: l, b) => (t, (l, b))
def wdR (c : ByteArray) (s : RS) : RS := ((nxR s).2.1, (nxR s).2.2 || decide ((nxR s).1 ≠ c))
def ctR (m : Int) (s : RS) : Nat × RS := match cof2 m (nxR s).1 with | some n => (n, (nxR s).2) | none => (0, ((nxR s).2.1, true))
def nuR (P : ByteArray → Q3) (E : ByteArray → Int) (s : RS) : Q3 × RS := (P (nxR s).1, ((nxR s).2.1, (nxR s).2.2 || decide (E (nxR s).1 ≠ 0)))
def ptR (P : ByteArray → Q3) (E : ByteArray → Int) (s : RS) : (Q3 × Q3) × RS := (((nuR P E s).1, (nuR P E (nuR P E s).2).1), (nuR P E (nuR P E s).2).2)
def kdR (s : RS) : Bool × RS := (decide ((nxR s).1 = tD), ((nxR s).2.1, (nxR s).2.2 || decide ((nxR s).1 ≠ tD ∧ (nxR s).1 ≠ tN)))
def sgR (m : Int) (s : RS) : (Nat × Nat × Bool) × RS :=
 (((ctR m s).1, (ctR m (ctR m s).2).1, (kdR (ctR m (ctR m s).2).2).1), (kdR (ctR m (ctR m s).2).2).2)
def repR {α : Type} (f : RS → α × RS) : Nat → RS → List α × RS
 | 0, s => ([], s)
 | n + 1, s => if s.2 then ([], s) else ((f s).1 :: (repR f n (f s).2).1, (repR f n (f s).2).2)
def repA {α : Type} (f : RS → α × RS) : Nat → RS → List α × RS
 | 0, s => ([], s)
 | n + 1, s => ((f s).1 :: (repA f n (f s).2).1, (repA f n (f s).2).2)
theorem repA_snoc {α : Type} (f : RS → α × RS) : ∀ (n : Nat) (s : RS), repA f (n + 1) s = ((repA f n s).1 ++ [(f (repA f n s).2).1], (f (repA f n s).2).2)
 | 0, s => rfl
 | n + 1, s => by
  rw [repA, repA_snoc f n (f s).2]
  rfl
def SR (s : St) (r : RS) : Prop := (∃ l, s = some l ∧ r = (l, false)) ∨ (s = none ∧ r.2 = true)
theorem SR.some {l : List ByteArray} {r : RS} (h : SR (some l) r) : r = (l, false) := by
 rcases h with ⟨l', h1, h2⟩ | ⟨h, -⟩
 ·injection h1 with h1; subst h1; exact h2
 ·cases h
theorem nxR_bad {r : RS} (h : r.2 = true) : (nxR r).2.2 = true := by
 obtain ⟨l, b⟩ := r
 cases l with
 | nil => rfl
 | cons t l => exact h
theorem SR.nx {s : St} {r : RS} (h : SR s r) : SR (nx s).2 (nxR r).2 ∧ (s ≠ Option.none → (nxR r).1 = (nx s).1) := by
 rcases h with ⟨l, rfl, rfl⟩ | ⟨rfl, hr⟩
 ·cases l with
  | nil => exact ⟨Or.inr ⟨rfl, rfl⟩, fun _ => rfl⟩
  | cons t l => exact ⟨Or.inl ⟨l, rfl, rfl⟩, fun _ => rfl⟩
 ·exact ⟨Or.inr ⟨rfl, nxR_bad hr⟩, fun h => absurd rfl h⟩
theorem SR.wd {s : St} {r : RS} (h : SR s r) (c : ByteArray) : SR (wd c s) (wdR c r) := by
 obtain ⟨h1, h2⟩ := h.nx
 by_cases hs : s = Option.none
 ·subst hs
  rcases h with ⟨l, h, -⟩ | ⟨-, hr⟩
  ·cases h
  ·refine Or.inr ⟨?_, ?_⟩
   ·unfold YtnplifkgeeicjaaGreatDoor.wd; split <;> rfl
   ·unfold wdR; rw [nxR_bad hr]; rfl
 ·have e := h2 hs
  unfold YtnplifkgeeicjaaGreatDoor.wd wdR
  rw [e]
  by_cases hw : (YtnplifkgeeicjaaGreatDoor.nx s).1 = c
  ·rw [if_pos hw]
   have : ((nxR r).2.1, (nxR r).2.2 || decide ((YtnplifkgeeicjaaGreatDoor.nx s).1 ≠ c)) = (nxR r).2 := by simp [hw]
   rw [this]
   exact h1
  ·rw [if_neg hw]
   exact Or.inr ⟨rfl, by simp [hw]⟩
theorem SR.ct {s : St} {r : RS} (h : SR s r) (m : Int) : SR (ct m s).2 (ctR m r).2 ∧ ((ct m s).2 ≠ Option.none → (ctR m r).1 = (ct m s).1) := by
 obtain ⟨h1, h2⟩ := h.nx
 by_cases hs : s = Option.none
 ·subst hs
  have e : (YtnplifkgeeicjaaGreatDoor.ct m Option.none).2 = Option.none := by unfold YtnplifkgeeicjaaGreatDoor.ct; split <;> rfl
  rcases h with ⟨l, h, -⟩ | ⟨-, hr⟩
  ·cases h
  ·refine ⟨Or.inr ⟨e, ?_⟩, fun hh => absurd e hh⟩
   unfold ctR
   split
   ·exact nxR_bad hr
   ·rfl
 ·have e := h2 hs
  unfold YtnplifkgeeicjaaGreatDoor.ct ctR
  rw [e]
  cases cof2 m (YtnplifkgeeicjaaGreatDoor.nx s).1 with
  | none => exact ⟨Or.inr ⟨rfl, rfl⟩, fun hh => absurd rfl hh⟩
  | some n => exact ⟨h1, fun _ => rfl⟩
theorem SR.nu {s : St} {r : RS} (h : SR s r) (P : ByteArray → Q3) (E : ByteArray → Int) : SR (nu P E s).2 (nuR P E r).2 ∧ ((nu P E s).2 ≠ Option.none → (nuR P E r).1 = (nu P E s).1) := by
 obtain ⟨h1, h2⟩ := h.nx
 by_cases hs : s = Option.none
 ·subst hs
  have e : (YtnplifkgeeicjaaGreatDoor.nu P E Option.none).2 = Option.none := by unfold YtnplifkgeeicjaaGreatDoor.nu; simp only; split <;> rfl
  rcases h with ⟨l, h, -⟩ | ⟨-, hr⟩
  ·cases h
  ·refine ⟨Or.inr ⟨e, ?_⟩, fun hh => absurd e hh⟩
   unfold nuR; rw [nxR_bad hr]; rfl
 ·have e := h2 hs
  unfold YtnplifkgeeicjaaGreatDoor.nu nuR
  simp only [e]
  refine ⟨?_, fun _ => trivial⟩
  by_cases hw : E (YtnplifkgeeicjaaGreatDoor.nx s).1 = 0
  ·rw [if_pos hw]
   have : ((nxR r).2.1, (nxR r).2.2 || decide (E (YtnplifkgeeicjaaGreatDoor.nx s).1 ≠ 0)) = (nxR r).2 := by simp [hw]
   rw [this]
   exact h1
  ·rw [if_neg hw]
   exact Or.inr ⟨rfl, by simp [hw]⟩
theorem nu_none (P : ByteArray → Q3) (E : ByteArray → Int) : (nu P E none).2 = none := by unfold nu; simp only; split <;> rfl
theorem ct_none (m : Int) : (ct m none).2 = none := by unfold ct; split <;> rfl
theorem kd_none : (kd none).2 = none := by unfold kd; simp only; split <;> rfl
theorem pt_none (P : ByteArray → Q3) (E : ByteArray → Int) : (pt P E none).2 = none := by unfold pt; simp only [nu_none]
theorem sg_none (m : Int) : (sg m none).2 = none := by unfold sg; simp only [ct_none, kd_none]
theorem rep_none {α : Type} {f : St → α × St} (h : (f none).2 = none) : ∀ n, (rep f n none).2 = none
 | 0 => rfl
 | n + 1 => by rw [rep, h]; exact rep_none h n
theorem SR.pt {s : St} {r : RS} (h : SR s r) (P : ByteArray → Q3) (E : ByteArray → Int) : SR (pt P E s).2 (ptR P E r).2 ∧ ((pt P E s).2 ≠ Option.none → (ptR P E r).1 = (pt P E s).1) := by
 obtain ⟨h1, h2⟩ := h.nu P E
 obtain ⟨h3, h4⟩ := h1.nu P E
 refine ⟨h3, fun hh => ?_⟩
 unfold ptR YtnplifkgeeicjaaGreatDoor.pt
 have e4 := h4 hh
 have e2 := h2 (fun e => hh (by unfold YtnplifkgeeicjaaGreatDoor.pt; simp only; rw [e]; exact nu_none P E))
 simp only [e4, e2]
theorem SR.kd {s : St} {r : RS} (h : SR s r) : SR (kd s).2 (kdR r).2 ∧ ((kd s).2 ≠ Option.none → (kdR r).1 = (kd s).1) := by
 obtain ⟨h1, h2⟩ := h.nx
 by_cases hs : s = Option.none
 ·subst hs
  rcases h with ⟨l, h, -⟩ | ⟨-, hr⟩
  ·cases h
  ·refine ⟨Or.inr ⟨kd_none, ?_⟩, fun hh => absurd kd_none hh⟩
   unfold kdR; rw [nxR_bad hr]; rfl
 ·have e := h2 hs
  unfold YtnplifkgeeicjaaGreatDoor.kd kdR
  simp only [e]
  refine ⟨?_, fun _ => trivial⟩
  by_cases hw : (YtnplifkgeeicjaaGreatDoor.nx s).1 = tD ∨ (YtnplifkgeeicjaaGreatDoor.nx s).1 = tN
  ·rw [if_pos hw]
   have : ((nxR r).2.1, (nxR r).2.2 || decide ((YtnplifkgeeicjaaGreatDoor.nx s).1 ≠ tD ∧ (YtnplifkgeeicjaaGreatDoor.nx s).1 ≠ tN)) = (nxR r).2 := by
    have : ¬ ((YtnplifkgeeicjaaGreatDoor.nx s).1 ≠ tD ∧ (YtnplifkgeeicjaaGreatDoor.nx s).1 ≠ tN) := by rcases hw with h | h <;> simp [h]
    simp only [this, decide_false, Bool.or_false]
   rw [this]
   exact h1
  ·rw [if_neg hw]
   refine Or.inr ⟨rfl, ?_⟩
   have : ((YtnplifkgeeicjaaGreatDoor.nx s).1 ≠ tD ∧ (YtnplifkgeeicjaaGreatDoor.nx s).1 ≠ tN) := ⟨fun h => hw (Or.inl h), fun h => hw (Or.inr h)⟩
   simp only [this, ne_eq, not_false_eq_true, and_self, decide_true, Bool.or_true]
theorem SR.sg {s : St} {r : RS} (h : SR s r) (m : Int) : SR (sg m s).2 (sgR m r).2 ∧ ((sg m s).2 ≠ Option.none → (sgR m r).1 = (sg m s).1) := by
 obtain ⟨h1, h2⟩ := h.ct m
 obtain ⟨h3, h4⟩ := h1.ct m
 obtain ⟨h5, h6⟩ := h3.kd
 refine ⟨h5, fun hh => ?_⟩
 have e6 := h6 hh
 have e4 := h4 (fun e => hh (by unfold YtnplifkgeeicjaaGreatDoor.sg; simp only; rw [e]; exact kd_none))
 have e2 := h2 (fun e => hh (by unfold YtnplifkgeeicjaaGreatDoor.sg; simp only; rw [e, ct_none]; exact kd_none))
 unfold sgR YtnplifkgeeicjaaGreatDoor.sg
 simp only [e2, e4, e6]
theorem SR.rep {α : Type} {f : St → α × St} {g : RS → α × RS} (hf : (f Option.none).2 = Option.none) (H : ∀ s r, SR s r → SR (f s).2 (g r).2 ∧ ((f s).2 ≠ Option.none → (g r).1 = (f s).1)) :
  ∀ (n : Nat) (s : St) (r : RS), SR s r → SR (YtnplifkgeeicjaaGreatDoor.rep f n s).2 (repR g n r).2 ∧ ((YtnplifkgeeicjaaGreatDoor.rep f n s).2 ≠ Option.none → (repR g n r).1 = (YtnplifkgeeicjaaGreatDoor.rep f n s).1)
 | 0, s, r, h => ⟨h, fun _ => rfl⟩
 | n + 1, s, r, h => by
  rcases h with ⟨l, rfl, rfl⟩ | ⟨rfl, hr⟩
  ·obtain ⟨h1, h2⟩ := H _ _ (Or.inl ⟨l, rfl, rfl⟩)
   obtain ⟨h3, h4⟩ := SR.rep hf H n _ _ h1
   rw [YtnplifkgeeicjaaGreatDoor.rep, repR, if_neg (by simp)]
   refine ⟨h3, fun hh => ?_⟩
   simp only
   rw [h4 hh, h2 (fun e => hh (by simp only; rw [e]; exact rep_none hf n))]
  ·have e := rep_none hf (n + 1)
   rw [repR, if_pos hr]
   exact ⟨Or.inr ⟨e, hr⟩, fun hh => absurd e hh⟩
theorem SR.repA {α : Type} {f : St → α × St} {g : RS → α × RS} (hf : (f Option.none).2 = Option.none) (H : ∀ s r, SR s r → SR (f s).2 (g r).2 ∧ ((f s).2 ≠ Option.none → (g r).1 = (f s).1)) :
  ∀ (n : Nat) (s : St) (r : RS), SR s r → SR (YtnplifkgeeicjaaGreatDoor.rep f n s).2 (YtnplifkgeeicjaaGreatDoor.repA g n r).2 ∧ ((YtnplifkgeeicjaaGreatDoor.rep f n s).2 ≠ Option.none → (YtnplifkgeeicjaaGreatDoor.repA g n r).1 = (YtnplifkgeeicjaaGreatDoor.rep f n s).1)
 | 0, s, r, h => ⟨h, fun _ => rfl⟩
 | n + 1, s, r, h => by
  obtain ⟨h1, h2⟩ := H _ _ h
  obtain ⟨h3, h4⟩ := SR.repA hf H n _ _ h1
  rw [YtnplifkgeeicjaaGreatDoor.rep, YtnplifkgeeicjaaGreatDoor.repA]
  refine ⟨h3, fun hh => ?_⟩
  simp only
  rw [h4 hh, h2 (fun e => hh (by simp only; rw [e]; exact rep_none hf n))]
def lsR {α : Type} (f : RS → α × RS) (c : ByteArray) (m : Int) (s : RS) : List α × RS := repR f (ctR m (wdR c s)).1 (ctR m (wdR c s)).2
def q1 (P : ByteArray → Q3) (E : ByteArray → Int) (l : List ByteArray) : List (Q3 × Q3) × RS := lsR (ptR P E) wV 40 (wdR wP (l, false))
def q2 (P : ByteArray → Q3) (E : ByteArray → Int) (l : List ByteArray) : List (Nat × Nat × Bool) × RS := lsR (sgR (((q1 P E l).1.length : Int) - 1)) wS 60 (q1 P E l).2
def q3 (P : ByteArray → Q3) (E : ByteArray → Int) (l : List ByteArray) : List (Q3 × Q3) × RS := lsR (ptR P E) wH 10 (q2 P E l).2
def q4 (P : ByteArray → Q3) (E : ByteArray → Int) (l : List ByteArray) : List Q3 × RS := repA (nuR P E) 6 (wdR wF (q3 P E l).2)
def q5 (P : ByteArray → Q3) (E : ByteArray → Int) (l : List ByteArray) : List Q3 × RS := repA (nuR P E) 6 (wdR wG (q4 P E l).2)
def q6 (P : ByteArray → Q3) (E : ByteArray → Int) (l : List ByteArray) : RS := wdR wE (q5 P E l).2
def qpl (P : ByteArray → Q3) (E : ByteArray → Int) (l : List ByteArray) : Pl := ⟨(q1 P E l).1, (q2 P E l).1, (q3 P E l).1, (q4 P E l).1, (q5 P E l).1⟩
theorem wd_none (c : ByteArray) : wd c none = none := by unfold wd; split <;> rfl
theorem ls_none {α : Type} {f : St → α × St} (h : (f none).2 = none) (c : ByteArray) (m : Int) : (lsP f c m none).2 = none := by
 unfold lsP
 rw [wd_none, ct_none]
 exact rep_none h _
theorem SR.lsP {α : Type} {f : St → α × St} {g : RS → α × RS} (hf : (f Option.none).2 = Option.none) (H : ∀ s r, SR s r → SR (f s).2 (g r).2 ∧ ((f s).2 ≠ Option.none → (g r).1 = (f s).1))
  (c : ByteArray) (m : Int) {s : St} {r : RS} (h : SR s r) : SR (lsP f c m s).2 (lsR g c m r).2 ∧ ((lsP f c m s).2 ≠ Option.none → (lsR g c m r).1 = (lsP f c m s).1) := by
 obtain ⟨h1, h2⟩ := (h.wd c).ct m
 by_cases hn : (YtnplifkgeeicjaaGreatDoor.ct m (YtnplifkgeeicjaaGreatDoor.wd c s)).2 = Option.none
 ·have e : (YtnplifkgeeicjaaGreatDoor.lsP f c m s).2 = Option.none := by unfold YtnplifkgeeicjaaGreatDoor.lsP; rw [hn]; exact rep_none hf _
  rw [hn] at h1
  have hb : (ctR m (wdR c r)).2.2 = true := by
   rcases h1 with ⟨l, h, -⟩ | ⟨-, h⟩
   ·cases h
   ·exact h
  refine ⟨Or.inr ⟨e, ?_⟩, fun hh => absurd e hh⟩
  unfold lsR
  cases (ctR m (wdR c r)).1 with
  | zero => exact hb
  | succ n => rw [repR, if_pos hb]; exact hb
 ·unfold YtnplifkgeeicjaaGreatDoor.lsP lsR
  rw [h2 hn]
  exact SR.rep hf H _ _ _ h1
theorem both_read (P : ByteArray → Q3) (E : ByteArray → Int) (l : List ByteArray) :
  (r6 P E l = some [] ↔ q6 P E l = ([], false)) ∧ (r6 P E l = some [] → qpl P E l = rpl P E l) := by
 have h0 : SR (some l) (l, false) := Or.inl ⟨l, rfl, rfl⟩
 obtain ⟨a1, b1⟩ := SR.lsP (pt_none P E) (fun s r h => h.pt P E) wV 40 (h0.wd wP)
 have k1 : (r1 P E l).2 = none → r6 P E l = none := fun e => by
  unfold r6 r5 r4 r3 r2
  rw [e, ls_none (sg_none _), ls_none (pt_none P E), wd_none, rep_none (nu_none P E), wd_none, rep_none (nu_none P E), wd_none]
 by_cases n1 : (r1 P E l).2 = none
 ·-- refused ahead of the segments: refused at the end
  have e := k1 n1
  have hb : (q1 P E l).2.2 = true := by
   have : SR none (q1 P E l).2 := by rw [← n1]; exact a1
   rcases this with ⟨l, h, -⟩ | ⟨-, h⟩
   ·cases h
   ·exact h
  have a2 : ∀ m : Int, SR (none : St) (lsR (sgR m) wS 60 (q1 P E l).2).2 := fun m => by
   have := (SR.lsP (sg_none m) (fun s r h => h.sg m) wS 60 (s := none) (r := (q1 P E l).2) (Or.inr ⟨rfl, hb⟩)).1
   rwa [ls_none (sg_none m)] at this
  have a3 := (SR.lsP (pt_none P E) (fun s r h => h.pt P E) wH 10 (a2 (((q1 P E l).1.length : Int) - 1))).1
  have a4 := (SR.repA (nu_none P E) (fun s r h => h.nu P E) 6 _ _ (a3.wd wF)).1
  have a5 := (SR.repA (nu_none P E) (fun s r h => h.nu P E) 6 _ _ (a4.wd wG)).1
  have a6 := a5.wd wE
  rw [ls_none (pt_none P E), wd_none, rep_none (nu_none P E), wd_none, rep_none (nu_none P E), wd_none] at a6
  have a7 : SR none (q6 P E l) := a6
  rw [e]
  refine ⟨⟨fun h => (by cases h), fun h => ?_⟩, fun h => by cases h⟩
  rw [h] at a7
  rcases a7 with ⟨l, h, -⟩ | ⟨-, h⟩ <;> cases h
 ·have c1 : (q1 P E l).1 = (r1 P E l).1 := b1 n1
  obtain ⟨a2, b2⟩ := SR.lsP (sg_none (((r1 P E l).1.length : Int) - 1)) (fun s r h => h.sg (((r1 P E l).1.length : Int) - 1)) wS 60 a1
  have c2 : lsR (sgR (((r1 P E l).1.length : Int) - 1)) wS 60 (lsR (ptR P E) wV 40 (wdR wP (l, false))).2 = q2 P E l := by unfold q2; rw [c1]; rfl
  rw [c2] at a2 b2
  obtain ⟨a3, b3⟩ := SR.lsP (pt_none P E) (fun s r h => h.pt P E) wH 10 a2
  obtain ⟨a4, b4⟩ := SR.repA (nu_none P E) (fun s r h => h.nu P E) 6 _ _ (a3.wd wF)
  obtain ⟨a5, b5⟩ := SR.repA (nu_none P E) (fun s r h => h.nu P E) 6 _ _ (a4.wd wG)
  have a6 : SR (r6 P E l) (q6 P E l) := a5.wd wE
  refine ⟨⟨fun h => ?_, fun h => ?_⟩, fun h => ?_⟩
  ·rw [h] at a6; exact a6.some
  ·rw [h] at a6
   rcases a6 with ⟨l', h1, h2⟩ | ⟨-, h2⟩
   ·injection h2 with h2
    rw [h1, h2]
   ·cases h2
  ·have n5 : (r5 P E l).2 ≠ none := fun e => by unfold r6 at h; rw [e, wd_none] at h; cases h
   have n4 : (r4 P E l).2 ≠ none := fun e => n5 (by unfold r5; rw [e, wd_none]; exact rep_none (nu_none P E) _)
   have n3 : (r3 P E l).2 ≠ none := fun e => n4 (by unfold r4; rw [e, wd_none]; exact rep_none (nu_none P E) _)
   have n2 : (r2 P E l).2 ≠ none := fun e => n3 (by unfold r3; rw [e]; exact ls_none (pt_none P E) _ _)
   have d2 : (q2 P E l).1 = (r2 P E l).1 := b2 n2
   have d3 : (q3 P E l).1 = (r3 P E l).1 := b3 n3
   have d4 : (q4 P E l).1 = (r4 P E l).1 := b4 n4
   have d5 : (q5 P E l).1 = (r5 P E l).1 := b5 n5
   unfold qpl rpl
   rw [c1, d2, d3, d4, d5]
end Go.Proofs.YtnplifkgeeicjaaGreatDoor
