/-
  Plans as text: what both readers do with the tokens of a text, and that they do the same.
  What the tokens of a plan's text tell; what a plan that was read holds.
-/
import Derived.Lib.FieldsP
import Derived.Test.YtnplifkgeeicjaaGreatDoorU16
namespace Go.Proofs.YtnplifkgeeicjaaGreatDoor
abbrev Q3 := Bool × ByteArray × ByteArray
abbrev St := Option (List ByteArray)
abbrev eS : ByteArray := ⟨#[]⟩
def nx : St → ByteArray × St
 | some (t :: l) => (t, some l)
 | _ => (eS, none)
def wd (c : ByteArray) (s : St) : St := if (nx s).1 = c then (nx s).2 else none
def dg3 : List Nat → Nat → Option Nat
 | [], n => some n
 | c :: l, n => if c < 48 ∨ 57 < c then none else dg3 l (10 * n + (c - 48))
def cof (t : ByteArray) : Option Nat := if t.size < 1 ∨ 3 < t.size ∨ (lm (byts t) 0 = 48 ∧ 1 < t.size) then none else dg3 (byts t) 0
def cof2 (m : Int) (t : ByteArray) : Option Nat := (cof t).filter fun n => decide ((n : Int) ≤ m)
def ct (m : Int) (s : St) : Nat × St := match cof2 m (nx s).1 with | some n => (n, (nx s).2) | none => (0, none)
def nu (P : ByteArray → Q3) (E : ByteArray → Int) (s : St) : Q3 × St := (P (nx s).1, if E (nx s).1 = 0 then (nx s).2 else none)
def pt (P : ByteArray → Q3) (E : ByteArray → Int) (s : St) : (Q3 × Q3) × St := (((nu P E s).1, (nu P E (nu P E s).2).1), (nu P E (nu P E s).2).2)
abbrev tD : ByteArray := ⟨#[100]⟩
abbrev tN : ByteArray := ⟨#[110]⟩
def kd (s : St) : Bool × St := (decide ((nx s).1 = tD), if (nx s).1 = tD ∨ (nx s).1 = tN then (nx s).2 else none)
def sg (m : Int) (s : St) : (Nat × Nat × Bool) × St :=
 (((ct m s).1, (ct m (ct m s).2).1, (kd (ct m (ct m s).2).2).1), (kd (ct m (ct m s).2).2).2)
def rep {α : Type} (f : St → α × St) : Nat → St → List α × St
 | 0, s => ([], s)
 | n + 1, s => ((f s).1 :: (rep f n (f s).2).1, (rep f n (f s).2).2)
theorem rep_snoc {α : Type} (f : St → α × St) : ∀ (n : Nat) (s : St), rep f (n + 1) s = ((rep f n s).1 ++ [(f (rep f n s).2).1], (f (rep f n s).2).2)
 | 0, s => rfl
 | n + 1, s => by
  rw [rep, rep_snoc f n (f s).2]
  rfl
theorem rep_len {α : Type} (f : St → α × St) : ∀ (n : Nat) (s : St), (rep f n s).1.length = n
 | 0, _ => rfl
 | n + 1, s => by rw [rep, List.length_cons, rep_len f n]
def lsP {α : Type} (f : St → α × St) (c : ByteArray) (m : Int) (s : St) : List α × St := rep f (ct m (wd c s)).1 (ct m (wd c s)).2
structure Pl where
 pts : List (Q3 × Q3)
 segs : List (Nat × Nat × Bool)
 holes : List (Q3 × Q3)
 F : List Q3
 G : List Q3
abbrev wP : ByteArray := ⟨#[112, 115, 108, 103]⟩
abbrev wV : ByteArray := ⟨#[118]⟩
abbrev wS : ByteArray := ⟨#[115]⟩
abbrev wH : ByteArray := ⟨#[104]⟩
abbrev wF : ByteArray := ⟨#[102]⟩
abbrev wG : ByteArray := ⟨#[103]⟩
abbrev wE : ByteArray := ⟨#[101, 110, 100]⟩
def r1 (P : ByteArray → Q3) (E : ByteArray → Int) (l : List ByteArray) : List (Q3 × Q3) × St := lsP (pt P E) wV 40 (wd wP (some l))
def r2 (P : ByteArray → Q3) (E : ByteArray → Int) (l : List ByteArray) : List (Nat × Nat × Bool) × St := lsP (sg (((r1 P E l).1.length : Int) - 1)) wS 60 (r1 P E l).2
def r3 (P : ByteArray → Q3) (E : ByteArray → Int) (l : List ByteArray) : List (Q3 × Q3) × St := lsP (pt P E) wH 10 (r2 P E l).2
def r4 (P : ByteArray → Q3) (E : ByteArray → Int) (l : List ByteArray) : List Q3 × St := rep (nu P E) 6 (wd wF (r3 P E l).2)
def r5 (P : ByteArray → Q3) (E : ByteArray → Int) (l : List ByteArray) : List Q3 × St := rep (nu P E) 6 (wd wG (r4 P E l).2)
def r6 (P : ByteArray → Q3) (E : ByteArray → Int) (l : List ByteArray) : St := wd wE (r5 P E l).2
def rpl (P : ByteArray → Q3) (E : ByteArray → Int) (l : List ByteArray) : Pl := ⟨(r1 P E l).1, (r2 P E l).1, (r3 P E l).1, (r4 P E l).1, (r5 P E l).1⟩
def plan (P : ByteArray → Q3) (E : ByteArray → Int) (l : List ByteArray) : Option Pl := if r6 P E l = some [] then some (rpl P E l) else none
abbrev RS := List ByteArray × Bool
def nxR : RS → ByteArray × RS
 | ([], _) => (eS, ([], true))
 | (t :: l, b) => (t, (l, b))
def wdR (c : ByteArray) (s : RS) : RS := ((nxR s).2.1, (nxR s).2.2 || decide ((nxR s).1 ≠ c))
def ctR (m : Int) (s : RS) : Nat × RS := match cof2 m (nxR s).1 with | some n => (n, (nxR s).2) | none => (0, ((nxR s).2.1, true))
def nuR (P : ByteArray → Q3) (E : ByteArray → Int) (s : RS) : Q3 × RS := (P (nxR s).1, ((nxR s).2.1, (nxR s).2.2 || decide (E (nxR s).1 ≠ 0)))
def ptR (P : ByteArray → Q3) (E : ByteArray → Int) (s : RS) : (Q3 × Q3) × RS := (((nuR P E s).1, (nuR P E (nuR P E s).2).1), (nuR P E (nuR P E s).2).2)
def kdR (s : RS) : Bool × RS := (decide ((nxR s).1 = tD), ((nxR s).2.1, (nxR s).2.2 || decide ((nxR s).1 ≠ tD ∧ (nxR s).1 ≠ tN)))
def sgR (m : Int) (s : RS) : (Nat × Nat × Bool) × RS :=
 (((ctR m s).1, (ctR m (ctR m s).2).1, (kdR (ctR m (ctR m s).2).2).1), (kdR (ctR m (ctR m s).2).2).2)
def repR {α : Type} (f : RS → α × RS) : Nat → RS → List α × RS
 | 0, s => ([], s)
 | n + 1, s => if s.2 then ([], s) else ((f s).1 :: (repR f n (f s).2).1, (repR f n (f s).2).2)
def repA {α : Type} (f : RS → α × RS) : Nat → RS → List α × RS
 | 0, s => ([], s)
 | n + 1, s => ((f s).1 :: (repA f n (f s).2).1, (repA f n (f s).2).2)
theorem nu_none (P : ByteArray → Q3) (E : ByteArray → Int) : (nu P E none).2 = none := by unfold nu; simp only; split <;> rfl
theorem ct_none (m : Int) : (ct m none).2 = none := by unfold ct; split <;> rfl
theorem kd_none : (kd none).2 = none := by unfold kd; simp only; split <;> rfl
theorem pt_none (P : ByteArray → Q3) (E : ByteArray → Int) : (pt P E none).2 = none := by unfold pt; simp only [nu_none]
theorem sg_none (m : Int) : (sg m none).2 = none := by unfold sg; simp only [ct_none, kd_none]
theorem rep_none {α : Type} {f : St → α × St} (h : (f none).2 = none) : ∀ n, (rep f n none).2 = none
 | 0 => rfl
 | n + 1 => by rw [rep, h]; exact rep_none h n
def lsR {α : Type} (f : RS → α × RS) (c : ByteArray) (m : Int) (s : RS) : List α × RS := repR f (ctR m (wdR c s)).1 (ctR m (wdR c s)).2
def q1 (P : ByteArray → Q3) (E : ByteArray → Int) (l : List ByteArray) : List (Q3 × Q3) × RS := lsR (ptR P E) wV 40 (wdR wP (l, false))
def q2 (P : ByteArray → Q3) (E : ByteArray → Int) (l : List ByteArray) : List (Nat × Nat × Bool) × RS := lsR (sgR (((q1 P E l).1.length : Int) - 1)) wS 60 (q1 P E l).2
def q3 (P : ByteArray → Q3) (E : ByteArray → Int) (l : List ByteArray) : List (Q3 × Q3) × RS := lsR (ptR P E) wH 10 (q2 P E l).2
def q4 (P : ByteArray → Q3) (E : ByteArray → Int) (l : List ByteArray) : List Q3 × RS := repA (nuR P E) 6 (wdR wF (q3 P E l).2)
def q5 (P : ByteArray → Q3) (E : ByteArray → Int) (l : List ByteArray) : List Q3 × RS := repA (nuR P E) 6 (wdR wG (q4 P E l).2)
def q6 (P : ByteArray → Q3) (E : ByteArray → Int) (l : List ByteArray) : RS := wdR wE (q5 P E l).2
theorem wd_none (c : ByteArray) : wd c none = none := by unfold wd; split <;> rfl
theorem ls_none {α : Type} {f : St → α × St} (h : (f none).2 = none) (c : ByteArray) (m : Int) : (lsP f c m none).2 = none := by
 unfold lsP
 rw [wd_none, ct_none]
 exact rep_none h _
end Go.Proofs.YtnplifkgeeicjaaGreatDoor
namespace Go.Proofs.YtnplifkgeeicjaaGreatDoor
theorem wd_ok (c : ByteArray) (l : List ByteArray) : wd c (some (c :: l)) = some l := if_pos rfl
theorem ct_ok {m : Int} {t : ByteArray} {n : Nat} (h : cof2 m t = some n) (l : List ByteArray) : ct m (some (t :: l)) = (n, some l) := by
 unfold ct
 show (match cof2 m t with | some n => (n, some l) | none => (0, none)) = _
 rw [h]
theorem ct_bad {m : Int} {t : ByteArray} (h : cof2 m t = none) (l : List ByteArray) : (ct m (some (t :: l))).2 = none := by
 unfold ct
 show (match cof2 m t with | some n => (n, some l) | none => ((0 : Nat), (none : St))).2 = none
 rw [h]
theorem nu_ok {P : ByteArray → Q3} {E : ByteArray → Int} {t : ByteArray} (h : E t = 0) (l : List ByteArray) : nu P E (some (t :: l)) = (P t, some l) := by
 show (P t, if E t = 0 then some l else none) = _
 rw [if_pos h]
theorem pt_ok {P : ByteArray → Q3} {E : ByteArray → Int} {t u : ByteArray} (h : E t = 0) (k : E u = 0) (l : List ByteArray) : pt P E (some (t :: u :: l)) = ((P t, P u), some l) := by
 unfold pt
 rw [nu_ok h, nu_ok k]
theorem kd_ok {t : ByteArray} (h : t = tD ∨ t = tN) (l : List ByteArray) : kd (some (t :: l)) = (decide (t = tD), some l) := by
 show (decide (t = tD), if t = tD ∨ t = tN then some l else none) = _
 rw [if_pos h]
theorem sg_ok {m : Int} {t u v : ByteArray} {a b : Nat} (h : cof2 m t = some a) (k : cof2 m u = some b) (hv : v = tD ∨ v = tN) (l : List ByteArray) : sg m (some (t :: u :: v :: l)) = ((a, b, decide (v = tD)), some l) := by
 unfold sg
 rw [ct_ok h, ct_ok k, kd_ok hv]
theorem rep_okJ {α β : Type} {f : St → α × St} (g : β → List ByteArray) (v : β → α) (r : List ByteArray) : ∀ l : List β, (∀ b, b ∈ l → ∀ r, f (some (g b ++ r)) = (v b, some r)) → rep f l.length (some (l.flatMap g ++ r)) = (l.map v, some r)
 | [], _ => rfl
 | b :: l, h => by
  rw [List.length_cons, rep, List.flatMap_cons, List.append_assoc, h b List.mem_cons_self]
  rw [rep_okJ g v r l (fun c hc => h c (List.mem_cons_of_mem _ hc))]
  rfl
theorem ls_ok {α β : Type} {f : St → α × St} (g : β → List ByteArray) (v : β → α) (r : List ByteArray) (c n : ByteArray) (m : Int) (l : List β) (hn : cof2 m n = some l.length) (h : ∀ b, b ∈ l → ∀ r, f (some (g b ++ r)) = (v b, some r)) :
  lsP f c m (some (c :: n :: (l.flatMap g ++ r))) = (l.map v, some r) := by
 unfold lsP
 rw [wd_ok, ct_ok hn]
 exact rep_okJ g v r l h
theorem ls_bad {α : Type} {f : St → α × St} (hf : (f none).2 = none) (r : List ByteArray) (c n : ByteArray) (m : Int) (hn : cof2 m n = none) : (lsP f c m (some (c :: n :: r))).2 = none := by
 unfold lsP
 rw [wd_ok]
 have := ct_bad hn r
 rw [this]
 exact rep_none hf _
def gP (t : ByteArray × ByteArray) : List ByteArray := [t.1, t.2]
def gS (t : ByteArray × ByteArray × ByteArray) : List ByteArray := [t.1, t.2.1, t.2.2]
def vPJ (P : ByteArray → Q3) (t : ByteArray × ByteArray) : Q3 × Q3 := (P t.1, P t.2)
def vSJ (t : ByteArray × ByteArray × ByteArray) : Nat × Nat × Bool := ((cof t.1).getD 0, (cof t.2.1).getD 0, decide (t.2.2 = tD))
def tk3 (tf tg : List ByteArray) : List ByteArray := wF :: (tf ++ wG :: (tg ++ [wE]))
def tk2 (n3 : ByteArray) (th : List (ByteArray × ByteArray)) (tf tg : List ByteArray) : List ByteArray := wH :: n3 :: (th.flatMap gP ++ tk3 tf tg)
def tk1 (n2 n3 : ByteArray) (ts : List (ByteArray × ByteArray × ByteArray)) (th : List (ByteArray × ByteArray)) (tf tg : List ByteArray) : List ByteArray := wS :: n2 :: (ts.flatMap gS ++ tk2 n3 th tf tg)
def tk0 (n1 n2 n3 : ByteArray) (tp : List (ByteArray × ByteArray)) (ts : List (ByteArray × ByteArray × ByteArray)) (th : List (ByteArray × ByteArray)) (tf tg : List ByteArray) : List ByteArray := wP :: wV :: n1 :: (tp.flatMap gP ++ tk1 n2 n3 ts th tf tg)
def OkP (E : ByteArray → Int) (l : List (ByteArray × ByteArray)) : Prop := ∀ t, t ∈ l → E t.1 = 0 ∧ E t.2 = 0
def OkT (m : Int) (l : List (ByteArray × ByteArray × ByteArray)) : Prop := ∀ t, t ∈ l → (∃ a, cof2 m t.1 = some a) ∧ (∃ a, cof2 m t.2.1 = some a) ∧ (t.2.2 = tD ∨ t.2.2 = tN)
theorem cof2_cof {m : Int} {t : ByteArray} {n : Nat} (h : cof2 m t = some n) : cof t = some n := by
 unfold cof2 at h
 rw [Option.filter_eq_some_iff] at h
 exact h.1
theorem r1_ok {P : ByteArray → Q3} {E : ByteArray → Int} (n1 : ByteArray) (tp : List (ByteArray × ByteArray)) (r : List ByteArray) (hn : cof2 40 n1 = some tp.length) (hp : OkP E tp) : r1 P E (wP :: wV :: n1 :: (tp.flatMap gP ++ r)) = (tp.map (vPJ P), some r) := by
 unfold r1
 rw [wd_ok]
 exact ls_ok gP (vPJ P) r wV n1 40 tp hn (fun t ht r => pt_ok (hp t ht).1 (hp t ht).2 r)
theorem r1_bad {P : ByteArray → Q3} {E : ByteArray → Int} (n1 : ByteArray) (r : List ByteArray) (hn : cof2 40 n1 = none) : (r1 P E (wP :: wV :: n1 :: r)).2 = none := by
 unfold r1
 rw [wd_ok]
 exact ls_bad (pt_none P E) r wV n1 40 hn
theorem r2_ok {P : ByteArray → Q3} {E : ByteArray → Int} {l : List ByteArray} {pts : List (Q3 × Q3)} (n2 : ByteArray) (ts : List (ByteArray × ByteArray × ByteArray)) (r : List ByteArray) (h1 : r1 P E l = (pts, some (wS :: n2 :: (ts.flatMap gS ++ r)))) (hn : cof2 60 n2 = some ts.length) (hs : OkT ((pts.length : Int) - 1) ts) : r2 P E l = (ts.map vSJ, some r) := by
 unfold r2
 rw [h1]
 refine ls_ok gS vSJ r wS n2 60 ts hn (fun t ht r => ?_)
 obtain ⟨⟨a, ha⟩, ⟨b, hb⟩, hk⟩ := hs t ht
 have := sg_ok ha hb hk r
 unfold vSJ
 rw [cof2_cof ha, cof2_cof hb]
 exact this
theorem r2_bad {P : ByteArray → Q3} {E : ByteArray → Int} {l : List ByteArray} {pts : List (Q3 × Q3)} (n2 : ByteArray) (r : List ByteArray) (h1 : r1 P E l = (pts, some (wS :: n2 :: r))) (hn : cof2 60 n2 = none) : (r2 P E l).2 = none := by
 unfold r2
 rw [h1]
 exact ls_bad (sg_none _) r wS n2 60 hn
theorem r3_ok {P : ByteArray → Q3} {E : ByteArray → Int} {l : List ByteArray} {segs : List (Nat × Nat × Bool)} (n3 : ByteArray) (th : List (ByteArray × ByteArray)) (r : List ByteArray) (h2 : r2 P E l = (segs, some (wH :: n3 :: (th.flatMap gP ++ r)))) (hn : cof2 10 n3 = some th.length) (hp : OkP E th) : r3 P E l = (th.map (vPJ P), some r) := by
 unfold r3
 rw [h2]
 exact ls_ok gP (vPJ P) r wH n3 10 th hn (fun t ht r => pt_ok (hp t ht).1 (hp t ht).2 r)
theorem r3_bad {P : ByteArray → Q3} {E : ByteArray → Int} {l : List ByteArray} {segs : List (Nat × Nat × Bool)} (n3 : ByteArray) (r : List ByteArray) (h2 : r2 P E l = (segs, some (wH :: n3 :: r))) (hn : cof2 10 n3 = none) : (r3 P E l).2 = none := by
 unfold r3
 rw [h2]
 exact ls_bad (pt_none P E) r wH n3 10 hn
theorem six_ok {P : ByteArray → Q3} {E : ByteArray → Int} (tf r : List ByteArray) (c : ByteArray) (h6 : tf.length = 6) (hE : ∀ t, t ∈ tf → E t = 0) : rep (nu P E) 6 (wd c (some (c :: (tf ++ r)))) = (tf.map P, some r) := by
 rw [wd_ok]
 have := rep_okJ (f := nu P E) (fun t => [t]) P r tf (fun t ht r => nu_ok (hE t ht) r)
 rw [h6, List.flatMap_singleton'] at this
 exact this
theorem bad1 {P : ByteArray → Q3} {E : ByteArray → Int} {l : List ByteArray} (h : (r1 P E l).2 = none) : r6 P E l = none := by
 unfold r6 r5 r4 r3 r2
 rw [h, ls_none (sg_none _), ls_none (pt_none P E), wd_none, rep_none (nu_none P E), wd_none, rep_none (nu_none P E), wd_none]
theorem bad2 {P : ByteArray → Q3} {E : ByteArray → Int} {l : List ByteArray} (h : (r2 P E l).2 = none) : r6 P E l = none := by
 unfold r6 r5 r4 r3
 rw [h, ls_none (pt_none P E), wd_none, rep_none (nu_none P E), wd_none, rep_none (nu_none P E), wd_none]
theorem bad3 {P : ByteArray → Q3} {E : ByteArray → Int} {l : List ByteArray} (h : (r3 P E l).2 = none) : r6 P E l = none := by
 unfold r6 r5 r4
 rw [h, wd_none, rep_none (nu_none P E), wd_none, rep_none (nu_none P E), wd_none]
theorem plan_none {P : ByteArray → Q3} {E : ByteArray → Int} {l : List ByteArray} (h : r6 P E l = none) : plan P E l = none := by
 unfold plan
 rw [h, if_neg (by simp)]
theorem plan_ok {P : ByteArray → Q3} {E : ByteArray → Int} (n1 n2 n3 : ByteArray) (tp : List (ByteArray × ByteArray)) (ts : List (ByteArray × ByteArray × ByteArray)) (th : List (ByteArray × ByteArray)) (tf tg : List ByteArray)
  (hn1 : cof2 40 n1 = some tp.length) (hn2 : cof2 60 n2 = some ts.length) (hn3 : cof2 10 n3 = some th.length) (hp : OkP E tp) (hs : OkT ((tp.length : Int) - 1) ts) (hh : OkP E th) (f6 : tf.length = 6) (g6 : tg.length = 6) (hf : ∀ t, t ∈ tf → E t = 0) (hg : ∀ t, t ∈ tg → E t = 0) :
  plan P E (tk0 n1 n2 n3 tp ts th tf tg) = some ⟨tp.map (vPJ P), ts.map vSJ, th.map (vPJ P), tf.map P, tg.map P⟩ := by
 have a1 : r1 P E (tk0 n1 n2 n3 tp ts th tf tg) = (tp.map (vPJ P), some (tk1 n2 n3 ts th tf tg)) := r1_ok n1 tp _ hn1 hp
 have a2 : r2 P E (tk0 n1 n2 n3 tp ts th tf tg) = (ts.map vSJ, some (tk2 n3 th tf tg)) := r2_ok n2 ts _ a1 hn2 (by rw [List.length_map]; exact hs)
 have a3 : r3 P E (tk0 n1 n2 n3 tp ts th tf tg) = (th.map (vPJ P), some (tk3 tf tg)) := r3_ok n3 th _ a2 hn3 hh
 have a4 : r4 P E (tk0 n1 n2 n3 tp ts th tf tg) = (tf.map P, some (wG :: (tg ++ [wE]))) := by
  unfold r4
  rw [a3]
  exact six_ok tf _ wF f6 hf
 have a5 : r5 P E (tk0 n1 n2 n3 tp ts th tf tg) = (tg.map P, some [wE]) := by
  unfold r5
  rw [a4]
  exact six_ok tg _ wG g6 hg
 have a6 : r6 P E (tk0 n1 n2 n3 tp ts th tf tg) = some [] := by
  unfold r6
  rw [a5]
  exact wd_ok wE []
 unfold plan rpl
 rw [if_pos a6, a1, a2, a3, a4, a5]
end Go.Proofs.YtnplifkgeeicjaaGreatDoor
