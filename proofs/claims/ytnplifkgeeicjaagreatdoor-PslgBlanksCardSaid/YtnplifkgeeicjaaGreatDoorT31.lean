/-
  Plans as text: what both readers do with the tokens of a text, and that they do the same.
-/
import Derived.Lib.FieldsP
import Derived.Test.YtnplifkgeeicjaaGreatDoorT16
namespace Go.Proofs.YtnplifkgeeicjaaGreatDoor
abbrev Q3 := Bool × ByteArray × ByteArray
abbrev St := Option (List ByteArray)
abbrev eS : ByteArray := ⟨#[]⟩
def nx : St → ByteArray × St
 | some (t :: l) => (t, some l)
 | _ => (eS, none)
def wd (c : ByteArray) (s : St) : St := if (nx s).1 = c then (nx s).2 else none
def dg3 : List Nat → Nat → Option Nat
 | [], n => some n
 | c :: l, n => if c < 48 ∨ 57 < c then none else dg3 l (10 * n + (c - 48))
def cof (t : ByteArray) : Option Nat := if t.size < 1 ∨ 3 < t.size ∨ (lm (byts t) 0 = 48 ∧ 1 < t.size) then none else dg3 (byts t) 0
def cof2 (m : Int) (t : ByteArray) : Option Nat := (cof t).filter fun n => decide ((n : Int) ≤ m)
def ct (m : Int) (s : St) : Nat × St := match cof2 m (nx s).1 with | some n => (n, (nx s).2) | none => (0, none)
def nu (P : ByteArray → Q3) (E : ByteArray → Int) (s : St) : Q3 × St := (P (nx s).1, if E (nx s).1 = 0 then (nx s).2 else none)
def pt (P : ByteArray → Q3) (E : ByteArray → Int) (s : St) : (Q3 × Q3) × St := (((nu P E s).1, (nu P E (nu P E s).2).1), (nu P E (nu P E s).2).2)
abbrev tD : ByteArray := ⟨#[100]⟩
abbrev tN : ByteArray := ⟨#[110]⟩
def kd (s : St) : Bool × St := (decide ((nx s).1 = tD), if (nx s).1 = tD ∨ (nx s).1 = tN then (nx s).2 else none)
def sg (m : Int) (s : St) : (Nat × Nat × Bool) × St :=
 (((ct m s).1, (ct m (ct m s).2).1, (kd (ct m (ct m s).2).2).1), (kd (ct m (ct m s).2).2).2)
def rep {α : Type} (f : St → α × St) : Nat → St → List α × St
 | 0, s => ([], s)
 | n + 1, s => ((f s).1 :: (rep f n (f s).2).1, (rep f n (f s).2).2)
theorem rep_snoc {α : Type} (f : St → α × St) : ∀ (n : Nat) (s : St), rep f (n + 1) s = ((rep f n s).1 ++ [(f (rep f n s).2).1], (f (rep f n s).2).2)
 | 0, s => rfl
 | n + 1, s => by
  rw [rep, rep_snoc f n (f s).2]
  rfl
theorem rep_len {α : Type} (f : St → α × St) : ∀ (n : Nat) (s : St), (rep f n s).1.length = n
 | 0, _ => rfl
 | n + 1, s => by rw [rep, List.length_cons, rep_len f n]
def lsP {α : Type} (f : St → α × St) (c : ByteArray) (m : Int) (s : St) : List α × St := rep f (ct m (wd c s)).1 (ct m (wd c s)).2
structure Pl where
 pts : List (Q3 × Q3)
 segs : List (Nat × Nat × Bool)
 holes : List (Q3 × Q3)
 F : List Q3
 G : List Q3
abbrev wP : ByteArray := ⟨#[112, 115, 108, 103]⟩
abbrev wV : ByteArray := ⟨#[118]⟩
abbrev wS : ByteArray := ⟨#[115]⟩
abbrev wH : ByteArray := ⟨#[104]⟩
abbrev wF : ByteArray := ⟨#[102]⟩
abbrev wG : ByteArray := ⟨#[103]⟩
abbrev wE : ByteArray := ⟨#[101, 110, 100]⟩
def r1 (P : ByteArray → Q3) (E : ByteArray → Int) (l : List ByteArray) : List (Q3 × Q3) × St := lsP (pt P E) wV 40 (wd wP (some l))
def r2 (P : ByteArray → Q3) (E : ByteArray → Int) (l : List ByteArray) : List (Nat × Nat × Bool) × St := lsP (sg (((r1 P E l).1.length : Int) - 1)) wS 60 (r1 P E l).2
def r3 (P : ByteArray → Q3) (E : ByteArray → Int) (l : List ByteArray) : List (Q3 × Q3) × St := lsP (pt P E) wH 10 (r2 P E l).2
def r4 (P : ByteArray → Q3) (E : ByteArray → Int) (l : List ByteArray) : List Q3 × St := rep (nu P E) 6 (wd wF (r3 P E l).2)
def r5 (P : ByteArray → Q3) (E : ByteArray → Int) (l : List ByteArray) : List Q3 × St := rep (nu P E) 6 (wd wG (r4 P E l).2)
def r6 (P : ByteArray → Q3) (E : ByteArray → Int) (l : List ByteArray) : St := wd wE (r5 P E l).2
def rpl (P : ByteArray → Q3) (E : ByteArray → Int) (l : List ByteArray) : Pl := ⟨(r1 P E l).1, (r2 P E l).1, (r3 P E l).1, (r4 P E l).1, (r5 P E l).1⟩
def plan (P : ByteArray → Q3) (E : ByteArray → Int) (l : List ByteArray) : Option Pl := if r6 P E l = some [] then some (rpl P E l) else none
abbrev RS := List ByteArray × Bool
def nxR : RS → ByteArray × RS
 | ([], _) => (eS, ([], true))
 | (t :: l, b) => (t, (l, b))
def wdR (c : ByteArray) (s : RS) : RS := ((nxR s).2.1, (nxR s).2.2 || decide ((nxR s).1 ≠ c))
def ctR (m : Int) (s : RS) : Nat × RS := match cof2 m (nxR s).1 with | some n => (n, (nxR s).2) | none => (0, ((nxR s).2.1, true))
def nuR (P : ByteArray → Q3) (E : ByteArray → Int) (s : RS) : Q3 × RS := (P (nxR s).1, ((nxR s).2.1, (nxR s).2.2 || decide (E (nxR s).1 ≠ 0)))
def ptR (P : ByteArray → Q3) (E : ByteArray → Int) (s : RS) : (Q3 × Q3) × RS := (((nuR P E s).1, (nuR P E (nuR P E s).2).1), (nuR P E (nuR P E s).2).2)
def kdR (s : RS) : Bool × RS := (decide ((nxR s).1 = tD), ((nxR s).2.1, (nxR s).2.2 || decide ((nxR s).1 ≠ tD ∧ (nxR s).1 ≠ tN)))
def sgR (m : Int) (s : RS) : (Nat × Nat × Bool) × RS :=
 (((ctR m s).1, (ctR m (ctR m s).2).1, (kdR (ctR m (ctR m s).2).2).1), (kdR (ctR m (ctR m s).2).2).2)
def repR {α : Type} (f : RS → α × RS) : Nat → RS → List α × RS
 | 0, s => ([], s)
 | n + 1, s => if s.2 then ([], s) else ((f s).1 :: (repR f n (f s).2).1, (repR f n (f s).2).2)
def repA {α : Type} (f : RS → α × RS) : Nat → RS → List α × RS
 | 0, s => ([], s)
 | n + 1, s => ((f s).1 :: (repA f n (f s).2).1, (repA f n (f s).2).2)
def lsR {α : Type} (f : RS → α × RS) (c : ByteArray) (m : Int) (s : RS) : List α × RS := repR f (ctR m (wdR c s)).1 (ctR m (wdR c s)).2
def q1 (P : ByteArray → Q3) (E : ByteArray → Int) (l : List ByteArray) : List (Q3 × Q3) × RS := lsR (ptR P E) wV 40 (wdR wP (l, false))
def q2 (P : ByteArray → Q3) (E : ByteArray → Int) (l : List ByteArray) : List (Nat × Nat × Bool) × RS := lsR (sgR (((q1 P E l).1.length : Int) - 1)) wS 60 (q1 P E l).2
def q3 (P : ByteArray → Q3) (E : ByteArray → Int) (l : List ByteArray) : List (Q3 × Q3) × RS := lsR (ptR P E) wH 10 (q2 P E l).2
def q4 (P : ByteArray → Q3) (E : ByteArray → Int) (l : List ByteArray) : List Q3 × RS := repA (nuR P E) 6 (wdR wF (q3 P E l).2)
def q5 (P : ByteArray → Q3) (E : ByteArray → Int) (l : List ByteArray) : List Q3 × RS := repA (nuR P E) 6 (wdR wG (q4 P E l).2)
def q6 (P : ByteArray → Q3) (E : ByteArray → Int) (l : List ByteArray) : RS := wdR wE (q5 P E l).2
end Go.Proofs.YtnplifkgeeicjaaGreatDoor
