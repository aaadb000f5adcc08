/-
  a plan's text, to be read and printed, reckoned out.
  Print of a plan, and of two plans outright.
  gussetlaw08: PslgReads.
  rat.Parse: what it tells of any text is a number of at most sixty digits above and below, or none; what rat.Print prints of such a number is read as that number.
  A plan's text: its tokens, and that it is read as that plan.
  What rat.Parse and rat.Print tell of one another; a plan that was read is printed, and read again.
  one half.
  gussetlaw08: live.
  PslgBack, walked.
-/
import Derived.Test.YtnplifkgeeicjaaGreatDoorS47
import Derived.Test.YtnplifkgeeicjaaGreatDoorS48
set_option maxRecDepth 100000
set_option maxHeartbeats 16000000
namespace Go.Proofs.YtnplifkgeeicjaaGreatDoor
open Go.RowKit
def tab8 : List (ByteArray × Q3 × Int) := [(⟨#[49, 47, 50]⟩, (false, ⟨#[1]⟩, ⟨#[2]⟩), 0), (⟨#[45, 51]⟩, (true, ⟨#[3]⟩, ⟨#[1]⟩), 0), (⟨#[48]⟩, (false, ⟨#[]⟩, ⟨#[1]⟩), 0), (⟨#[49]⟩, (false, ⟨#[1]⟩, ⟨#[1]⟩), 0), (⟨#[50]⟩, (false, ⟨#[2]⟩, ⟨#[1]⟩), 0), (⟨#[51]⟩, (false, ⟨#[3]⟩, ⟨#[1]⟩), 0), (⟨#[52]⟩, (false, ⟨#[4]⟩, ⟨#[1]⟩), 0), (⟨#[53]⟩, (false, ⟨#[5]⟩, ⟨#[1]⟩), 0), (⟨#[54]⟩, (false, ⟨#[6]⟩, ⟨#[1]⟩), 0), (⟨#[63]⟩, zQ, 4), (⟨#[]⟩, zQ, 4)]
def look (t : ByteArray) : List (ByteArray × Q3 × Int) → Option (Q3 × Int)
 | [] => none
 | (k, v) :: r => if t = k then some v else look t r
def P8 (P : ByteArray → Q3) (t : ByteArray) : Q3 := match look t tab8 with | some v => v.1 | none => P t
def E8 (E : ByteArray → Int) (t : ByteArray) : Int := match look t tab8 with | some v => v.2 | none => E t
def T8 (q : Q3) : ByteArray := if q = zQ then ⟨#[63]⟩ else if (qtxt q.1 q.2.1 q.2.2).size ≤ 1000 then qtxt q.1 q.2.1 q.2.2 else eS
theorem T8_size (q : Q3) : (T8 q).size ≤ 1000 := by
 unfold T8
 split
 ·decide
 ·split
  ·assumption
  ·decide
abbrev one8 : ByteArray := ⟨#[112, 115, 108, 103, 32, 118, 32, 49, 32, 49, 47, 50, 32, 45, 51, 32, 115, 32, 49, 32, 48, 32, 48, 32, 100, 32, 104, 32, 48, 32, 102, 32, 48, 32, 48, 32, 48, 32, 48, 32, 48, 32, 48, 32, 103, 32, 49, 32, 50, 32, 51, 32, 52, 32, 53, 32, 54, 32, 101, 110, 100]⟩
abbrev two8 : ByteArray := ⟨#[112, 115, 108, 103, 32, 118, 32, 49, 32, 49, 47, 50, 32, 45, 51, 32, 115, 32, 49, 32, 48, 32, 48, 32, 100, 32, 104, 32, 48, 32, 102, 32, 48, 32, 48, 32, 48, 32, 48, 32, 48, 32, 48, 32, 103, 32, 49, 32, 50, 32, 51, 32, 52, 32, 53, 32, 54, 32, 101, 110, 100, 32, 101, 110, 100]⟩
abbrev txt8 : ByteArray := ⟨#[112, 115, 108, 103, 10, 118, 32, 49, 10, 49, 47, 50, 32, 45, 51, 10, 115, 32, 49, 10, 48, 32, 48, 32, 100, 10, 104, 32, 48, 10, 102, 32, 48, 32, 48, 32, 48, 32, 48, 32, 48, 32, 48, 10, 103, 32, 49, 32, 50, 32, 51, 32, 52, 32, 53, 32, 54, 10, 101, 110, 100, 10]⟩
def p8 : Pl := ⟨[((false, ⟨#[1]⟩, ⟨#[2]⟩), (true, ⟨#[3]⟩, ⟨#[1]⟩))], [(0, 0, true)], [], [(false, ⟨#[]⟩, ⟨#[1]⟩), (false, ⟨#[]⟩, ⟨#[1]⟩), (false, ⟨#[]⟩, ⟨#[1]⟩), (false, ⟨#[]⟩, ⟨#[1]⟩), (false, ⟨#[]⟩, ⟨#[1]⟩), (false, ⟨#[]⟩, ⟨#[1]⟩)], [(false, ⟨#[1]⟩, ⟨#[1]⟩), (false, ⟨#[2]⟩, ⟨#[1]⟩), (false, ⟨#[3]⟩, ⟨#[1]⟩), (false, ⟨#[4]⟩, ⟨#[1]⟩), (false, ⟨#[5]⟩, ⟨#[1]⟩), (false, ⟨#[6]⟩, ⟨#[1]⟩)]⟩
theorem psp_one (P : ByteArray → Q3) (E : ByteArray → Int) : psp (P8 P) (E8 E) one8 = (p8, 0) := by kernel_rfl
theorem psp_two (P : ByteArray → Q3) (E : ByteArray → Int) : psp (P8 P) (E8 E) two8 = (zPl, 4) := by kernel_rfl
theorem wtx_one : wtx T8 p8 = txt8 := by kernel_rfl
theorem psp_txt (P : ByteArray → Q3) (E : ByteArray → Int) : psp (P8 P) (E8 E) txt8 = (p8, 0) := by kernel_rfl
theorem psp_nil (P : ByteArray → Q3) (E : ByteArray → Int) : psp (P8 P) (E8 E) (wtx T8 zPl) = (zPl, 4) := by kernel_rfl
theorem look_ok (t : ByteArray) (v : Q3 × Int) (h : look t tab8 = some v) (w : World) (hT : Tab w) : Calls Tryz.prog 184 #[.string t] w (Re w (.tuple #[vQ v.1, .int .i64 v.2])) := by
 by_cases h0 : t = ⟨#[49, 47, 50]⟩
 ·subst h0
  have hv : look ⟨#[49, 47, 50]⟩ tab8 = some ((false, ⟨#[1]⟩, ⟨#[2]⟩), 0) := by kernel_rfl
  rw [hv] at h
  injection h with h
  subst h
  exact qparse_half w hT (chkq_zero (by decide +kernel)).1
 by_cases h255 : t = ⟨#[45, 51]⟩
 ·subst h255
  have hv : look ⟨#[45, 51]⟩ tab8 = some ((true, ⟨#[3]⟩, ⟨#[1]⟩), 0) := by kernel_rfl
  rw [hv] at h
  injection h with h
  subst h
  exact qparse_c1 _ _ _ w hT (chkq_zero (by decide +kernel)).1 (by decide) (by kernel_rfl) (by decide +kernel)
 by_cases h557 : t = ⟨#[48]⟩
 ·subst h557
  have hv : look ⟨#[48]⟩ tab8 = some ((false, ⟨#[]⟩, ⟨#[1]⟩), 0) := by kernel_rfl
  rw [hv] at h
  injection h with h
  subst h
  exact qparse_c1 _ _ _ w hT (chkq_zero (by decide +kernel)).1 (by decide) (by kernel_rfl) (by decide +kernel)
 by_cases h851 : t = ⟨#[49]⟩
 ·subst h851
  have hv : look ⟨#[49]⟩ tab8 = some ((false, ⟨#[1]⟩, ⟨#[1]⟩), 0) := by kernel_rfl
  rw [hv] at h
  injection h with h
  subst h
  exact qparse_c1 _ _ _ w hT (chkq_zero (by decide +kernel)).1 (by decide) (by kernel_rfl) (by decide +kernel)
 by_cases h1146 : t = ⟨#[50]⟩
 ·subst h1146
  have hv : look ⟨#[50]⟩ tab8 = some ((false, ⟨#[2]⟩, ⟨#[1]⟩), 0) := by kernel_rfl
  rw [hv] at h
  injection h with h
  subst h
  exact qparse_c1 _ _ _ w hT (chkq_zero (by decide +kernel)).1 (by decide) (by kernel_rfl) (by decide +kernel)
 by_cases h1443 : t = ⟨#[51]⟩
 ·subst h1443
  have hv : look ⟨#[51]⟩ tab8 = some ((false, ⟨#[3]⟩, ⟨#[1]⟩), 0) := by kernel_rfl
  rw [hv] at h
  injection h with h
  subst h
  exact qparse_c1 _ _ _ w hT (chkq_zero (by decide +kernel)).1 (by decide) (by kernel_rfl) (by decide +kernel)
 by_cases h1740 : t = ⟨#[52]⟩
 ·subst h1740
  have hv : look ⟨#[52]⟩ tab8 = some ((false, ⟨#[4]⟩, ⟨#[1]⟩), 0) := by kernel_rfl
  rw [hv] at h
  injection h with h
  subst h
  exact qparse_c1 _ _ _ w hT (chkq_zero (by decide +kernel)).1 (by decide) (by kernel_rfl) (by decide +kernel)
 by_cases h2037 : t = ⟨#[53]⟩
 ·subst h2037
  have hv : look ⟨#[53]⟩ tab8 = some ((false, ⟨#[5]⟩, ⟨#[1]⟩), 0) := by kernel_rfl
  rw [hv] at h
  injection h with h
  subst h
  exact qparse_c1 _ _ _ w hT (chkq_zero (by decide +kernel)).1 (by decide) (by kernel_rfl) (by decide +kernel)
 by_cases h2334 : t = ⟨#[54]⟩
 ·subst h2334
  have hv : look ⟨#[54]⟩ tab8 = some ((false, ⟨#[6]⟩, ⟨#[1]⟩), 0) := by kernel_rfl
  rw [hv] at h
  injection h with h
  subst h
  exact qparse_c1 _ _ _ w hT (chkq_zero (by decide +kernel)).1 (by decide) (by kernel_rfl) (by decide +kernel)
 by_cases h2631 : t = ⟨#[63]⟩
 ·subst h2631
  have hv : look ⟨#[63]⟩ tab8 = some (zQ, 4) := by kernel_rfl
  rw [hv] at h
  injection h with h
  subst h
  exact qparse_no w
 by_cases h2816 : t = ⟨#[]⟩
 ·subst h2816
  have hv : look ⟨#[]⟩ tab8 = some (zQ, 4) := by kernel_rfl
  rw [hv] at h
  injection h with h
  subst h
  exact qparse_nil w
 exact absurd h (by unfold tab8 look look look look look look look look look look look look; rw [if_neg h0, if_neg h255, if_neg h557, if_neg h851, if_neg h1146, if_neg h1443, if_neg h1740, if_neg h2037, if_neg h2334, if_neg h2631, if_neg h2816]; intro h; cases h)
theorem ex_PR8 : ∃ (P : ByteArray → Q3) (E : ByteArray → Int), PR (P8 P) (E8 E) := by
 have hq : ∀ t : ByteArray, ∃ (q : Q3) (e : Int), t.size ≤ 100000 → ∀ w, Tab w → Calls Tryz.prog 184 #[.string t] w fun e' w' => e' = .returned (.tuple #[vQ q, .int .i64 e]) ∧ Below w.heap.size w w' := fun t => by
  by_cases hz : t.size ≤ 100000
  ·obtain ⟨rN, rS, rD, E, h1, -⟩ := qreads t (by omega)
   exact ⟨(rN, rS, rD), E, fun _ => h1⟩
  ·exact ⟨zQ, 0, fun h => absurd h hz⟩
 refine ⟨fun t => Classical.choose (hq t), fun t => Classical.choose (Classical.choose_spec (hq t)), fun t w hz hT => ?_⟩
 cases h : look t tab8 with
 | some v =>
  have := look_ok t v h w hT
  unfold P8 E8
  rw [h]
  exact this
 | none =>
  unfold P8 E8
  rw [h]
  exact Classical.choose_spec (Classical.choose_spec (hq t)) hz w hT
open Go.RowKit
theorem getD_or (l : List Q3) (i : Nat) : l.getD i zQ ∈ l ∨ l.getD i zQ = zQ := by
 rw [List.getD_eq_getElem?_getD]
 cases h : l[i]? with
 | none => exact Or.inr rfl
 | some q => exact Or.inl (List.mem_of_getElem? h)
theorem pprint_pl (P : ByteArray → Q3) (E : ByteArray → Int) (hP : PR P E) (T : Q3 → ByteArray) (p : Pl) (cs : List Value) (B : Nat) (w : World) (aL : Addr) (h : Env8 w aL) (hp : PlanAt w B cs p) (l1 : p.pts.length ≤ 40) (l2 : p.segs.length ≤ 60) (l3 : p.holes.length ≤ 10)
  (t1 : ∀ q, q ∈ p.pts → TX T q.1 w ∧ TX T q.2 w) (t3 : ∀ q, q ∈ p.holes → TX T q.1 w ∧ TX T q.2 w) (tF : ∀ q, q ∈ p.F → TX T q w) (tG : ∀ q, q ∈ p.G → TX T q w) (tz : TX T zQ w) (s2 : ∀ s, s ∈ p.segs → s.1 < 100 ∧ s.2.1 < 100) (zT : ∀ q, (T q).size ≤ 1000)
  (hr : (psp P E (wtx T p)).2 = 0 → (psp P E (wtx T p)).1 = p) :
  Calls Tryz.prog 23 #[.agg cs.toArray] w (Re w (.tuple #[.string (if (psp P E (wtx T p)).2 = 0 then wtx T p else eS), .int .i64 (if (psp P E (wtx T p)).2 = 0 then 0 else 1)])) := by
 have hp0 := hp
 obtain ⟨v1, v2, v3, x, y, rfl, o1, o2, o3, hF, hG⟩ := hp
 obtain ⟨A1, A2, A3, F, G⟩ := p
 have r1 := RowR.of cP cP_len o1
 have r2 := RowR.of cS cS_len o2
 have r3 := RowR.of cP cP_len o3
 obtain ⟨a1, c1, rfl⟩ := own_val o1
 obtain ⟨a2, c2, rfl⟩ := own_val o2
 obtain ⟨a3, c3, rfl⟩ := own_val o3
 have hF' : F = [x 0, x 1, x 2, x 3, x 4, x 5] := hF
 have hG' : G = [y 0, y 1, y 2, y 3, y 4, y 5] := hG
 subst hF' hG'
 have fx : ∀ i, TX T ([x 0, x 1, x 2, x 3, x 4, x 5].getD i zQ) w := fun i => by
  rcases getD_or [x 0, x 1, x 2, x 3, x 4, x 5] i with h | h
  ·exact tF _ h
  ·rw [h]; exact tz
 have fy : ∀ i, TX T ([y 0, y 1, y 2, y 3, y 4, y 5].getD i zQ) w := fun i => by
  rcases getD_or [y 0, y 1, y 2, y 3, y 4, y 5] i with h | h
  ·exact tG _ h
  ·rw [h]; exact tz
 exact pprint_ex P E hP T A1 A3 A2 a1 a2 a3 _ _ _ c1 c2 c3 (fun i => [x 0, x 1, x 2, x 3, x 4, x 5].getD i zQ) (fun i => [y 0, y 1, y 2, y 3, y 4, y 5].getD i zQ) B w aL h rfl rfl rfl l1 l2 l3 r1 r2 r3 t1 t3 fx fy s2 zT hp0 _ rfl hr
theorem tx_ok (n : Bool) (s d : ByteArray) (w : World) (hT : Tab w) (hP : TabP w) (h : chkq n s d = 0) (zs : s.size ≤ 400) (zd : d.size ≤ 400) (ht : T8 (n, s, d) = qtxt n s d) : TX T8 (n, s, d) w := fun w1 b => by
 refine (qprint_ok n s d w1 (hT.below b) (hP.bel b) h zs zd).mono ?_
 rintro e w' ⟨rfl, k⟩
 exact ⟨_, _, rfl, ht, k⟩
theorem tx_no (w : World) (hT : Tab w) : TX T8 zQ w := fun w1 b => by
 refine (qprint_no w1 (hT.below b)).mono ?_
 rintro e w' ⟨rfl, k⟩
 exact ⟨_, _, rfl, by kernel_rfl, k⟩
theorem tx_p8 (w : World) (hT : Tab w) (hP : TabP w) : (∀ q, q ∈ p8.pts → TX T8 q.1 w ∧ TX T8 q.2 w) ∧ (∀ q, q ∈ p8.F → TX T8 q w) ∧ (∀ q, q ∈ p8.G → TX T8 q w) := by
 have k : ∀ n s d, chkq n s d = 0 → s.size ≤ 400 → d.size ≤ 400 → T8 (n, s, d) = qtxt n s d → TX T8 (n, s, d) w := fun n s d h zs zd ht => tx_ok n s d w hT hP h zs zd ht
 refine ⟨fun q hq => ?_, fun q hq => ?_, fun q hq => ?_⟩
 ·rw [List.mem_singleton.1 hq]
  exact ⟨k _ _ _ (by decide +kernel) (by decide) (by decide) (by kernel_rfl), k _ _ _ (by decide +kernel) (by decide) (by decide) (by kernel_rfl)⟩
 ·have hz : q = (false, ⟨#[]⟩, ⟨#[1]⟩) := by
   rcases List.mem_cons.1 hq with h | hq
   ·exact h
   rcases List.mem_cons.1 hq with h | hq
   ·exact h
   rcases List.mem_cons.1 hq with h | hq
   ·exact h
   rcases List.mem_cons.1 hq with h | hq
   ·exact h
   rcases List.mem_cons.1 hq with h | hq
   ·exact h
   exact List.mem_singleton.1 hq
  rw [hz]
  exact k _ _ _ (by decide +kernel) (by decide) (by decide) (by kernel_rfl)
 ·rcases List.mem_cons.1 hq with h | hq
  ·rw [h]; exact k _ _ _ (by decide +kernel) (by decide) (by decide) (by kernel_rfl)
  rcases List.mem_cons.1 hq with h | hq
  ·rw [h]; exact k _ _ _ (by decide +kernel) (by decide) (by decide) (by kernel_rfl)
  rcases List.mem_cons.1 hq with h | hq
  ·rw [h]; exact k _ _ _ (by decide +kernel) (by decide) (by decide) (by kernel_rfl)
  rcases List.mem_cons.1 hq with h | hq
  ·rw [h]; exact k _ _ _ (by decide +kernel) (by decide) (by decide) (by kernel_rfl)
  rcases List.mem_cons.1 hq with h | hq
  ·rw [h]; exact k _ _ _ (by decide +kernel) (by decide) (by decide) (by kernel_rfl)
  rw [List.mem_singleton.1 hq]; exact k _ _ _ (by decide +kernel) (by decide) (by decide) (by kernel_rfl)
theorem print_p8 (P : ByteArray → Q3) (E : ByteArray → Int) (hP : PR (P8 P) (E8 E)) (cs : List Value) (B : Nat) (w : World) (aL : Addr) (h : Env8 w aL) (hT : TabP w) (hp : PlanAt w B cs p8) :
  Calls Tryz.prog 23 #[.agg cs.toArray] w (Re w (.tuple #[.string txt8, .int .i64 0])) := by
 obtain ⟨k1, k2, k3⟩ := tx_p8 w h.tab hT
 have := pprint_pl (P8 P) (E8 E) hP T8 p8 cs B w aL h hp (by decide) (by decide) (by decide) k1 (fun q hq => by cases hq) k2 k3 (tx_no w h.tab) (fun s hs => by rw [List.mem_singleton.1 hs]; decide) T8_size (by rw [wtx_one, psp_txt]; intro _; rfl)
 rw [wtx_one, psp_txt] at this
 exact this
theorem print_z8 (P : ByteArray → Q3) (E : ByteArray → Int) (hP : PR (P8 P) (E8 E)) (cs : List Value) (B : Nat) (w : World) (aL : Addr) (h : Env8 w aL) (hp : PlanAt w B cs zPl) :
  Calls Tryz.prog 23 #[.agg cs.toArray] w (Re w (.tuple #[.string eS, .int .i64 1])) := by
 have tz := tx_no w h.tab
 have tz6 : ∀ q : Q3, q ∈ [zQ, zQ, zQ, zQ, zQ, zQ] → TX T8 q w := fun q hq => tx_six (x := fun _ => zQ) (fun _ => tz) q hq
 have := pprint_pl (P8 P) (E8 E) hP T8 zPl cs B w aL h hp (by decide) (by decide) (by decide) (fun q hq => by cases hq) (fun q hq => by cases hq) tz6 tz6 tz (fun s hs => by cases hs) T8_size (by rw [psp_nil]; intro h; cases h)
 rw [psp_nil] at this
 exact this
open Go.RowKit
theorem rep_len8 {α : Type} (f : St → α × St) : ∀ (n : Nat) (s : St), (rep f n s).1.length = n
 | 0, _ => rfl
 | n + 1, s => by rw [rep, List.length_cons, rep_len8 f n]
theorem ls_len8 {α : Type} (f : St → α × St) (c : ByteArray) (m : Int) (s : St) : (lsP f c m s).1.length ≤ 100000 := by
 unfold lsP
 rw [rep_len8]
 have := ct_lt m (wd c s)
 omega
theorem l1 (P : ByteArray → Q3) (E : ByteArray → Int) (l : List ByteArray) : (r1 P E l).1.length ≤ 100000 := by
 rw [r1]
 exact ls_len8 (pt P E) _ _ _
theorem l2 (P : ByteArray → Q3) (E : ByteArray → Int) (l : List ByteArray) : (r2 P E l).1.length ≤ 100000 := by
 rw [r2]
 exact ls_len8 (sg _) _ _ _
theorem l3 (P : ByteArray → Q3) (E : ByteArray → Int) (l : List ByteArray) : (r3 P E l).1.length ≤ 100000 := by
 rw [r3]
 exact ls_len8 (pt P E) _ _ _
theorem psp_len8 (P : ByteArray → Q3) (E : ByteArray → Int) (s : ByteArray) : (psp P E s).1.pts.length ≤ 100000 ∧ (psp P E s).1.segs.length ≤ 100000 ∧ (psp P E s).1.holes.length ≤ 100000 := by
 unfold psp
 split
 ·exact ⟨Nat.zero_le _, Nat.zero_le _, Nat.zero_le _⟩
 ·unfold plan
  by_cases h6 : r6 P E (toks s) = some []
  ·rw [if_pos h6]
   show (rpl P E (toks s)).pts.length ≤ 100000 ∧ (rpl P E (toks s)).segs.length ≤ 100000 ∧ (rpl P E (toks s)).holes.length ≤ 100000
   have a1 := l1 P E (toks s)
   have a2 := l2 P E (toks s)
   have a3 := l3 P E (toks s)
   unfold rpl
   generalize (r1 P E (toks s)).1 = A1 at *
   generalize (r2 P E (toks s)).1 = A2 at *
   generalize (r3 P E (toks s)).1 = A3 at *
   exact ⟨a1, a2, a3⟩
  ·rw [if_neg h6]
   exact ⟨Nat.zero_le _, Nat.zero_le _, Nat.zero_le _⟩
end Go.Proofs.YtnplifkgeeicjaaGreatDoor
namespace Go.Proofs.YtnplifkgeeicjaaGreatDoor
open Go.RowKit Go.Shelf
theorem dt_nats60 {V : Nat} (h0 : 0 < V) (h : V < 10 ^ 60) : NatS (dt V) := by
 obtain ⟨a, b⟩ := dt_head (V + 1) V (by omega) h0
 refine ⟨a, ?_, fun e => absurd e b, fun j hj => dt_dig V j hj⟩
 unfold dt
 rw [List.length_reverse, List.length_map]
 exact M.digs_len_of_lt (k := 60) (by omega) h
theorem parse_text60 (n0 : Bool) (s : ByteArray) (w : World) (o : OkZ n0 s) (z : natOf s < 10 ^ 60) (T : List Nat) (hT : T = dt (natOf s)) :
  Calls Tryz.prog 216 #[.string (if T = [] then ⟨#[48]⟩ else if n0 then strB (45 :: T) else strB T)] w (Re w (.tuple #[.agg #[.bool n0, .string s], .int .i64 0])) := by
 have hz : Value.agg #[.bool n0, .string s] = zI (sgn n0 (natOf s)) := zV_ok o
 rw [hz]
 have hlt := z
 by_cases h0 : natOf s = 0
 ·have ht : T = [] := by rw [hT, h0, dt_nil]
  have hs : ¬ 0 < s.size := fun h => by have := natOf_pos o.1 h; omega
  have hn : n0 = false := by
   cases n0 with
   | false => rfl
   | true => exact absurd (o.2 rfl) hs
  rw [if_pos ht, h0, hn]
  exact parse_pos ⟨#[48]⟩ w (by decide) (by
   refine ⟨by decide, by decide, fun _ => by decide, fun j hj => ?_⟩
   have : j = 0 := by have : j < 1 := hj; omega
   subst this
   decide)
 ·have hp : 0 < natOf s := by omega
  have ns := dt_nats60 hp hlt
  have hne : T ≠ [] := by
   intro e
   have := ns.1
   rw [← hT, e] at this
   simp at this
  rw [if_neg hne]
  subst hT
  cases n0 with
  | false =>
   rw [if_neg (by simp)]
   have := parse_pos (strB (dt (natOf s))) w (by
    rw [byts_dt]
    intro h
    have := (dt_dig (natOf s) 0 ns.1).1
    omega) (by rw [byts_dt]; exact ns)
   rw [byts_dt, strB_size, dt_dec _ _ (Nat.lt_succ_self _)] at this
   exact this
  | true =>
   rw [if_pos rfl]
   have := parse_neg (strB (45 :: dt (natOf s))) w (by
    rw [byts_mdt, strB_size]
    exact ⟨by simp, rfl⟩) (by
    intro e
    have e2 := congrArg byts e
    rw [byts_mdt] at e2
    have e3 : dt (natOf s) = [48] := (List.cons.inj e2).2
    have := (dt_head _ _ (Nat.lt_succ_self _) hp).2
    rw [e3] at this
    exact this rfl) (by rw [tail_dt, byts_dt]; exact ns)
   rw [tail_dt, byts_dt, strB_size, dt_dec _ _ (Nat.lt_succ_self _)] at this
   exact this
theorem parse_ptxt60 (n : Bool) (s : ByteArray) (w : World) (o : OkZ n s) (z : natOf s < 10 ^ 60) :
  Calls Tryz.prog 216 #[.string (ptxt n s)] w (Re w (.tuple #[.agg #[.bool n, .string s], .int .i64 0])) := parse_text60 n s w o z _ rfl
theorem dec_lt60 {b : List Nat} (h : NatS b) : decTo b b.length < 10 ^ 60 :=
 Nat.lt_of_lt_of_le (decTo_lt (b := b) b.length (fun j hj => (h.2.2.2 j hj).2)) (Nat.pow_le_pow_right (by omega) h.2.1)
theorem sgn_abs60 (n : Bool) (V : Nat) : (sgn n V).natAbs = V := by cases n <;> simp [sgn]
theorem parse_one60 (s : ByteArray) : ∃ n E : Int, (E = 0 ∨ E = 4) ∧ Bd n 32 ∧ (n.natAbs < 10 ^ 60) ∧
  ∀ w, Calls Tryz.prog 216 #[.string s] w (Re w (.tuple #[zI n, .int .i64 E])) := by
 have k0 : (0 : Int).natAbs < 10 ^ 60 := by decide
 by_cases hn : 0 < s.size ∧ lm (byts s) 0 = 45
 ·by_cases h0 : s = ⟨#[45, 48]⟩
  ·subst h0
   exact ⟨0, 4, Or.inr rfl, Bd.zero _, k0, fun w => parse_m0 w⟩
  ·by_cases h : NatS (byts (s.extract 1 s.size))
   ·have hb := dec_lt4 h
    have hc := dec_lt60 h
    rw [byts_length] at hb hc
    exact ⟨_, 0, Or.inl rfl, bd_sgn hb, by rw [sgn_abs60]; exact hc, fun w => parse_neg s w hn h0 h⟩
   ·exact ⟨0, 4, Or.inr rfl, Bd.zero _, k0, fun w => parse_negbad s w hn h0 h⟩
 ·by_cases h : NatS (byts s)
  ·have hb := dec_lt4 h
   have hc := dec_lt60 h
   rw [byts_length] at hb hc
   exact ⟨_, 0, Or.inl rfl, bd_sgn hb, by rw [sgn_abs60]; exact hc, fun w => parse_pos s w hn h⟩
  ·exact ⟨0, 4, Or.inr rfl, Bd.zero _, k0, fun w => parse_posbad s w hn h⟩
structure Gq (n : Bool) (s d : ByteArray) : Prop where
 ok : OkQ n s d
 ls : natOf s < 10 ^ 60
 ld : natOf d < 10 ^ 60
 zs : s.size ≤ 32
 zd : d.size ≤ 32
theorem low60 (n : Int) (d : Nat) (hd : 0 < d) : (Rat.divInt n (d : Int)).num.natAbs ≤ n.natAbs ∧ (Rat.divInt n (d : Int)).den ≤ d := by
 rw [Rat.divInt_ofNat]
 have hz : d ≠ 0 := by omega
 obtain ⟨m, hm0, h1, h2⟩ := Rat.mkRat_num_den hz (show mkRat n d = ⟨(mkRat n d).num, (mkRat n d).den, (mkRat n d).den_nz, (mkRat n d).reduced⟩ from rfl)
 have hm : 1 ≤ m := by omega
 constructor
 ·calc (mkRat n d).num.natAbs = (mkRat n d).num.natAbs * 1 := (Nat.mul_one _).symm
   _ ≤ (mkRat n d).num.natAbs * m := Nat.mul_le_mul_left _ hm
   _ = n.natAbs := by conv => rhs; rw [h1, Int.natAbs_mul]; simp
 ·calc (mkRat n d).den = (mkRat n d).den * 1 := (Nat.mul_one _).symm
   _ ≤ (mkRat n d).den * m := Nat.mul_le_mul_left _ hm
   _ = d := h2.symm
theorem qreads60 (s : ByteArray) (hz : s.size ≤ 9223372036854775807) : ∃ (rN : Bool) (rS rD : ByteArray) (E : Int), (E = 0 → Gq rN rS rD) ∧
  ∀ w, Tab w → Calls Tryz.prog 184 #[.string s] w (Re w (.tuple #[(qa1 rN rS rD), .int .i64 E])) := by
 obtain ⟨nf, sf, hf, hok, hsz, hzz, hnat, hneg, hstr, hnn, hfn⟩ := named0
 rcases where47 s with ⟨h1, hA⟩ | ⟨K, hK, h1, hk, hB⟩
 ·obtain ⟨n, E, hE, bn, ln, P1⟩ := parse_one60 s
  simp only [hf] at P1
  have zn : (sf n).size ≤ 32 := hsz _ _ bn
  rcases hE with rfl | rfl
  ·refine ⟨nf n, sf n, ⟨#[1]⟩, 0, fun _ => ⟨⟨hok n, ok_one.1, by rw [natOf_one]; omega, by rw [natOf_one, Nat.gcd_one_right]⟩, by rw [hnat]; exact ln, by rw [natOf_one]; decide, zn, by decide⟩, fun w hT => ?_⟩
   refine qparse_one (nf n) (nf n) s s ⟨#[]⟩ (sf n) ⟨#[1]⟩ (sf n) ⟨#[1]⟩ (isE (by rw [natOf_one]; omega)) w (fun w1 b => scut1_none s w1 h1) P1 (fun w1 => ?_) (fun w1 b => ?_)
   ·have := parse_ptxt false ⟨#[1]⟩ w1 ok_one (by decide)
    rwa [ptxt_one] at this
   ·have := make_ok (nf n) false (sf n) ⟨#[1]⟩ w1 (hT.below b) (hok n) ok_one (K := 32) (by omega) zn (by decide) (by rw [natOf_one]; omega)
    have e1 : zOf false ⟨#[1]⟩ = 1 := by rw [zOf_false, natOf_one]; rfl
    have e2 : Rat.divInt n 1 = (n : Rat) := by
     rw [show (1 : Int) = ((1 : Nat) : Int) from rfl, Rat.divInt_ofNat]
     exact Rat.ext (Q.mk_low (by omega) (by simp)).1 (Q.mk_low (by omega) (by simp)).2
    rw [hzz, e1, e2, qI_int n (hf n)] at this
    exact this
  ·exact ⟨false, { data := #[] }, { data := #[] }, 4, (fun h => by cases h), fun w hT => qparse_nbad0 (nf n) s s ⟨#[]⟩ (sf n) 4 (by omega) w (fun w1 b => scut1_none s w1 h1) P1⟩
 ·obtain ⟨n, E1, hE1, bn, ln, P1⟩ := parse_one60 (s.extract 0 K)
  obtain ⟨d, E2, hE2, bd, ld, R1⟩ := parse_one60 (s.extract (K + 1) s.size)
  simp only [hf] at P1 R1
  have zn : (sf n).size ≤ 32 := hsz _ _ bn
  have zd : (sf d).size ≤ 32 := hsz _ _ bd
  have HC := fun (w1 : World) => scut1_hit s K w1 h1 (by omega) hz
  rcases hE1 with rfl | rfl
  ·rcases hE2 with rfl | rfl
   ·cases hd : nf d with
    | true =>
     rw [hd] at R1
     exact ⟨false, { data := #[] }, { data := #[] }, 4, (fun h => by cases h), fun w hT => qparse_dbad2 (nf n) s _ _ (sf n) (sf d) w (fun w1 b => HC w1) P1 R1⟩
    | false =>
     rw [hd] at R1
     have okd := hok d
     rw [hd] at okd
     by_cases h0 : 0 < natOf (sf d)
     ·have e1 : zOf false (sf d) = ((natOf (sf d) : Nat) : Int) := rfl
      have hl := low60 n (natOf (sf d)) h0
      have bq : Bq (Rat.divInt n ((natOf (sf d) : Nat) : Int)) 32 := ⟨Nat.lt_of_le_of_lt hl.1 bn, by
       have h2 : natOf (sf d) < 256 ^ 32 := by rw [hnat]; exact bd
       exact Nat.lt_of_le_of_lt hl.2 h2⟩
      have hm := fun (w1 : World) (hT : Tab w1) => make_ok (nf n) false (sf n) (sf d) w1 hT (hok n) okd (K := 32) (by omega) zn zd h0
      rw [hzz, e1] at hm
      generalize Rat.divInt n ((natOf (sf d) : Nat) : Int) = q at *
      refine ⟨decide (q.num < 0), strOf q.num.natAbs, strOf q.den, 0, fun _ => ⟨okQ_qI q, ?_, ?_, bq.1.size, by have := bq.2.size; simpa using this⟩, fun w hT => qparse_cut (nf n) _ s _ _ (sf n) (sf d) _ _ (isE h0) w (fun w1 b => HC w1) P1 R1 (fun w1 b => hm w1 (hT.below b))⟩
      ·rw [natOf_strOf]; exact Nat.lt_of_le_of_lt hl.1 ln
      ·rw [natOf_strOf]; rw [hnat] at hl; exact Nat.lt_of_le_of_lt hl.2 ld
     ·have e0 : sf d = { data := #[] } := by
       by_cases hs : 0 < (sf d).size
       ·have := natOf_pos okd.1 hs
        omega
       ·exact ByteArray.size_eq_zero_iff.1 (by omega)
      rw [e0] at R1
      exact ⟨false, { data := #[] }, { data := #[] }, 4, (fun h => by cases h), fun w hT => qparse_dbad3 (nf n) s _ _ (sf n) w (fun w1 b => HC w1) P1 R1⟩
   ·exact ⟨false, { data := #[] }, { data := #[] }, 4, (fun h => by cases h), fun w hT => qparse_dbad1 (nf n) s _ _ (sf n) (nf d) (sf d) 4 (by omega) w (fun w1 b => HC w1) P1 R1⟩
  ·exact ⟨false, { data := #[] }, { data := #[] }, 4, (fun h => by cases h), fun w hT => qparse_nbad1 (nf n) s _ _ (sf n) 4 (by omega) w (fun w1 b => HC w1) P1⟩
theorem idx60_none {t : ByteArray} (h : ∀ x ∈ t.data.toList, x ≠ 47) : Lib.index t.data.toList [47] = -1 := idx_none 47 _ h
theorem idx60_hit {t u : ByteArray} (h : ∀ x ∈ t.data.toList, x ≠ 47) : Lib.index ((t ++ ⟨#[47]⟩) ++ u).data.toList [47] = ((t.size : Nat) : Int) ∧ ((t ++ ⟨#[47]⟩) ++ u).extract 0 t.size = t ∧ ((t ++ ⟨#[47]⟩) ++ u).extract (t.size + 1) ((t ++ ⟨#[47]⟩) ++ u).size = u := by
 have hl : t.data.toList.length = t.size := Array.length_toList
 have e : ((t ++ ⟨#[47]⟩) ++ u).data.toList = t.data.toList ++ 47 :: u.data.toList := by simp
 have hs : ((t ++ ⟨#[47]⟩) ++ u).size = t.size + 1 + u.size := by rw [app_size, app_size]; rfl
 refine ⟨by rw [e, idx_hit 47 _ _ h, hl], ?_, ?_⟩
 ·apply ByteArray.ext
  rw [ByteArray.data_extract]
  apply Array.toList_inj.1
  rw [Array.toList_extract, List.extract_eq_take_drop, e, List.drop_zero, Nat.sub_zero, ← hl, List.take_left' rfl]
 ·apply ByteArray.ext
  rw [ByteArray.data_extract]
  apply Array.toList_inj.1
  rw [Array.toList_extract, List.extract_eq_take_drop, e, hs, ← hl, ← List.drop_drop, List.drop_left' rfl]
  show List.take _ u.data.toList = _
  exact List.take_of_length_le (by have : u.data.toList.length = u.size := Array.length_toList; omega)
theorem qback60 (n : Bool) (s d : ByteArray) (w : World) (hT : Tab w) (g : Gq n s d) :
  Calls Tryz.prog 184 #[.string (qtxt n s d)] w (Re w (.tuple #[(qa1 n s d), .int .i64 0])) := by
 obtain ⟨o, ls, ld, zs, zd⟩ := g
 have HN := fun w1 => parse_ptxt60 n s w1 o.1 ls
 have hz := Nat.le_trans (ptxt_size n s (by omega)) (by omega : 1201 ≤ 100000)
 unfold qtxt
 by_cases h1 : natOf d = 1
 ·rw [if_pos h1]
  have ed : d = ⟨#[1]⟩ := (okS_one o.2.1).2 h1
  subst ed
  refine qparse_one n n _ _ ⟨#[]⟩ s ⟨#[1]⟩ s ⟨#[1]⟩ (isE (by rw [natOf_one]; omega)) w (fun w1 b => scut1_none _ w1 (idx60_none (ptxt_no n s))) HN (fun w1 => ?_) (fun w1 b => ?_)
  ·have := parse_ptxt false ⟨#[1]⟩ w1 ok_one (by decide)
   rwa [ptxt_one] at this
  ·have := make_ok n false s ⟨#[1]⟩ w1 (hT.below b) o.1 ok_one (K := 32) (by omega) zs (by decide) (by rw [natOf_one]; omega)
   rw [zOf_false, Rat.divInt_ofNat] at this
   rw [qV_is o]
   exact this
 ·rw [if_neg h1]
  have od : OkZ false d := ⟨o.2.1, fun h => by cases h⟩
  have hzd := Nat.le_trans (ptxt_size false d (by omega)) (by omega : 1201 ≤ 100000)
  obtain ⟨c1, c2, c3⟩ := idx60_hit (t := ptxt n s) (u := ptxt false d) (ptxt_no n s)
  refine qparse_cut n n _ (ptxt n s) (ptxt false d) s d s d (isE o.2.2.1) w (fun w1 b => ?_) HN (fun w1 => parse_ptxt60 false d w1 od ld) (fun w1 b => ?_)
  ·have hs : ((ptxt n s ++ ⟨#[47]⟩) ++ ptxt false d).size = (ptxt n s).size + 1 + (ptxt false d).size := by rw [app_size, app_size]; rfl
   have := scut1_hit ((ptxt n s ++ ⟨#[47]⟩) ++ ptxt false d) (ptxt n s).size w1 c1 (by omega) (by omega)
   rw [c2, c3] at this
   exact this
  ·have := make_ok n false s d w1 (hT.below b) o.1 od (K := 32) (by omega) zs zd o.2.2.1
   rw [zOf_false, Rat.divInt_ofNat] at this
   rw [qV_is o]
   exact this
open Go.RowKit
theorem tl8_jn (r : List UInt8) : ∀ (l : List ByteArray) (t : ByteArray), (∀ u, u ∈ t :: l → Tok u) → tl8 (jnL (t :: l) ++ 10 :: r) [] = t :: l ++ tl8 r []
 | [], t, h => by
  have e : jnL [t] = t.data.toList := by simp [jnL]
  rw [e, tl8_app 10 (by rfl), toks_one (h t List.mem_cons_self)]
 | u :: l, t, h => by
  have e : jnL (t :: u :: l) = t.data.toList ++ 32 :: jnL (u :: l) := by simp [jnL]
  rw [e, List.append_assoc, List.cons_append, tl8_app 32 (by rfl), toks_one (h t List.mem_cons_self), tl8_jn r l u (fun v hv => h v (List.mem_cons_of_mem _ hv))]
  rfl
def LnT (L : List (List ByteArray)) : Prop := ∀ l, l ∈ L → l ≠ [] ∧ ∀ t, t ∈ l → Tok t
theorem tl8_wt : ∀ L : List (List ByteArray), LnT L → tl8 (wtL L) [] = L.flatten
 | [], _ => rfl
 | [] :: L, h => absurd rfl (h [] List.mem_cons_self).1
 | (t :: l) :: L, h => by
  have e : wtL ((t :: l) :: L) = jnL (t :: l) ++ 10 :: wtL L := by simp [wtL]
  rw [e, tl8_jn _ l t (h _ List.mem_cons_self).2, tl8_wt L (fun l hl => h l (List.mem_cons_of_mem _ hl))]
  rfl
def sz8 : List ByteArray → Nat
 | [] => 0
 | t :: l => t.size + 1 + sz8 l
theorem sz8_app : ∀ l m : List ByteArray, sz8 (l ++ m) = sz8 l + sz8 m
 | [], m => by rw [List.nil_append, sz8, Nat.zero_add]
 | t :: l, m => by rw [List.cons_append, sz8, sz8, sz8_app l m]; omega
theorem sz8_le (K : Nat) : ∀ l : List ByteArray, (∀ t, t ∈ l → t.size ≤ K) → sz8 l ≤ l.length * (K + 1)
 | [], _ => Nat.zero_le _
 | t :: l, h => by
  have h1 := sz8_le K l (fun u hu => h u (List.mem_cons_of_mem _ hu))
  have h2 := h t List.mem_cons_self
  rw [sz8, List.length_cons, Nat.succ_mul]
  omega
theorem jn_sz : ∀ (l : List ByteArray) (t : ByteArray), (jnL (t :: l)).length + 1 = sz8 (t :: l)
 | [], t => by
  have hl : t.data.toList.length = t.size := Array.length_toList
  simp only [jnL, sz8, List.flatMap_nil, List.append_nil]
  omega
 | u :: l, t => by
  have e : jnL (t :: u :: l) = t.data.toList ++ 32 :: jnL (u :: l) := by simp [jnL]
  have hl : t.data.toList.length = t.size := Array.length_toList
  have := jn_sz l u
  rw [e, List.length_append, List.length_cons, sz8]
  omega
theorem wt_sz : ∀ L : List (List ByteArray), (∀ l, l ∈ L → l ≠ []) → (wtL L).length = sz8 L.flatten
 | [], _ => rfl
 | [] :: L, h => absurd rfl (h [] List.mem_cons_self)
 | (t :: l) :: L, h => by
  have e : wtL ((t :: l) :: L) = jnL (t :: l) ++ 10 :: wtL L := by simp [wtL]
  have h1 := wt_sz L (fun l hl => h l (List.mem_cons_of_mem _ hl))
  have h2 := jn_sz l t
  rw [e, List.length_append, List.length_cons, List.flatten_cons, sz8_app]
  omega
def tP (T : Q3 → ByteArray) (q : Q3 × Q3) : ByteArray × ByteArray := (T q.1, T q.2)
def tS (s : Nat × Nat × Bool) : ByteArray × ByteArray × ByteArray := (dg s.1, dg s.2.1, kd8 s.2.2)
theorem flat_P (T : Q3 → ByteArray) : ∀ l : List (Q3 × Q3), (lnP T l).flatten = (l.map (tP T)).flatMap gP
 | [] => rfl
 | q :: l => by
  have := flat_P T l
  show _ :: _ :: (lnP T l).flatten = _ :: _ :: (l.map (tP T)).flatMap gP
  rw [this]
  rfl
theorem flat_S : ∀ l : List (Nat × Nat × Bool), (lnS l).flatten = (l.map tS).flatMap gS
 | [] => rfl
 | q :: l => by
  have := flat_S l
  show _ :: _ :: _ :: (lnS l).flatten = _ :: _ :: _ :: (l.map tS).flatMap gS
  rw [this]
  rfl
theorem flat_lines (T : Q3 → ByteArray) (p : Pl) : (lines8 T p).flatten = tk0 (dg p.pts.length) (dg p.segs.length) (dg p.holes.length) (p.pts.map (tP T)) (p.segs.map tS) (p.holes.map (tP T)) (p.F.map T) (p.G.map T) := by
 unfold lines8 tk0 tk1 tk2 tk3
 simp only [List.flatten_append, flat_P, flat_S, List.flatten_cons, List.flatten_nil, List.append_nil, List.append_assoc, List.cons_append, List.nil_append]
theorem dg_ok : ∀ n, n < 100 → Tok (dg n) ∧ cof (dg n) = some n ∧ (dg n).size ≤ 2 := by
 have h : ∀ n, n < 100 → ((dg n).size ≠ 0 ∧ (dg n).data.toList.all (fun x => bl x.toNat == false) = true) ∧ cof (dg n) = some n ∧ (dg n).size ≤ 2 := by decide +kernel
 intro n hn
 obtain ⟨⟨h1, h2⟩, h3, h4⟩ := h n hn
 exact ⟨⟨h1, fun x hx => by simpa using List.all_eq_true.1 h2 x hx⟩, h3, h4⟩
theorem dg_cof2 {n : Nat} (hn : n < 100) {m : Int} (h : (n : Int) ≤ m) : cof2 m (dg n) = some n := by
 unfold cof2
 rw [(dg_ok n hn).2.1, Option.filter_eq_some_iff]
 exact ⟨rfl, decide_eq_true h⟩
theorem kd8_ok (f : Bool) : Tok (kd8 f) ∧ (kd8 f = tD ∨ kd8 f = tN) ∧ decide (kd8 f = tD) = f ∧ (kd8 f).size = 1 := by
 cases f with
 | false => exact ⟨⟨by decide, by decide⟩, Or.inr rfl, by decide, rfl⟩
 | true => exact ⟨⟨by decide, by decide⟩, Or.inl rfl, by decide, rfl⟩
def TkQ (P : ByteArray → Q3) (E : ByteArray → Int) (T : Q3 → ByteArray) (q : Q3) : Prop := E (T q) = 0 ∧ P (T q) = q ∧ Tok (T q) ∧ (T q).size ≤ 122
structure PlQ (Q : Q3 → Prop) (p : Pl) : Prop where
 l1 : p.pts.length ≤ 40
 l2 : p.segs.length ≤ 60
 l3 : p.holes.length ≤ 10
 f6 : p.F.length = 6
 g6 : p.G.length = 6
 q1 : ∀ q, q ∈ p.pts → Q q.1 ∧ Q q.2
 q3 : ∀ q, q ∈ p.holes → Q q.1 ∧ Q q.2
 s2 : ∀ s, s ∈ p.segs → s.1 + 1 ≤ p.pts.length ∧ s.2.1 + 1 ≤ p.pts.length
 qF : ∀ q, q ∈ p.F → Q q
 qG : ∀ q, q ∈ p.G → Q q
theorem PlQ.mono {Q R : Q3 → Prop} {p : Pl} (h : PlQ Q p) (k : ∀ q, Q q → R q) : PlQ R p :=
 ⟨h.l1, h.l2, h.l3, h.f6, h.g6, fun q hq => ⟨k _ (h.q1 q hq).1, k _ (h.q1 q hq).2⟩, fun q hq => ⟨k _ (h.q3 q hq).1, k _ (h.q3 q hq).2⟩, h.s2, fun q hq => k _ (h.qF q hq), fun q hq => k _ (h.qG q hq)⟩
theorem plQ_of {P : ByteArray → Q3} {E : ByteArray → Int} {l : List ByteArray} {p : Pl} (h : plan P E l = some p) : PlQ (fun q => ∃ t, E t = 0 ∧ q = P t) p := by
 obtain ⟨a1, a2, a3, a4, a5, a6, a7, a8, a9, a10⟩ := plan_all h
 exact ⟨a1, a2, a3, a4, a5, a6, a7, a8, a9, a10⟩
theorem map_id8 {α β : Type} {f : α → β} {g : β → α} : ∀ {l : List α}, (∀ x, x ∈ l → g (f x) = x) → (l.map f).map g = l
 | [], _ => rfl
 | x :: l, h => by
  rw [List.map_cons, List.map_cons, h x List.mem_cons_self, map_id8 (fun y hy => h y (List.mem_cons_of_mem _ hy))]
theorem plan_back {P : ByteArray → Q3} {E : ByteArray → Int} {T : Q3 → ByteArray} {p : Pl} (h : PlQ (TkQ P E T) p) : plan P E (lines8 T p).flatten = some p := by
 have h1 := h.l1
 have h2 := h.l2
 have h3 := h.l3
 rw [flat_lines]
 have hP : ∀ l : List (Q3 × Q3), (∀ q, q ∈ l → TkQ P E T q.1 ∧ TkQ P E T q.2) → OkP E (l.map (tP T)) := fun l hl t ht => by
  obtain ⟨q, hq, rfl⟩ := List.mem_map.1 ht
  exact ⟨(hl q hq).1.1, (hl q hq).2.1⟩
 have hE : ∀ l : List Q3, (∀ q, q ∈ l → TkQ P E T q) → ∀ t, t ∈ l.map T → E t = 0 := fun l hl t ht => by
  obtain ⟨q, hq, rfl⟩ := List.mem_map.1 ht
  exact (hl q hq).1
 have hV : ∀ l : List (Q3 × Q3), (∀ q, q ∈ l → TkQ P E T q.1 ∧ TkQ P E T q.2) → (l.map (tP T)).map (vPJ P) = l := fun l hl => map_id8 fun q hq => by
  show (P (T q.1), P (T q.2)) = q
  rw [(hl q hq).1.2.1, (hl q hq).2.2.1]
 rw [plan_ok (dg p.pts.length) (dg p.segs.length) (dg p.holes.length) (p.pts.map (tP T)) (p.segs.map tS) (p.holes.map (tP T)) (p.F.map T) (p.G.map T)
  (by rw [List.length_map]; exact dg_cof2 (by omega) (by omega)) (by rw [List.length_map]; exact dg_cof2 (by omega) (by omega)) (by rw [List.length_map]; exact dg_cof2 (by omega) (by omega))
  (hP _ h.q1) (fun t ht => by
   obtain ⟨s, hs, rfl⟩ := List.mem_map.1 ht
   obtain ⟨c1, c2⟩ := h.s2 s hs
   rw [List.length_map]
   exact ⟨⟨s.1, dg_cof2 (by omega) (by omega)⟩, ⟨s.2.1, dg_cof2 (by omega) (by omega)⟩, (kd8_ok s.2.2).2.1⟩) (hP _ h.q3) (by rw [List.length_map]; exact h.f6) (by rw [List.length_map]; exact h.g6) (hE _ h.qF) (hE _ h.qG)]
 rw [hV _ h.q1, hV _ h.q3, map_id8 (fun q hq => (h.qF q hq).2.1), map_id8 (fun q hq => (h.qG q hq).2.1), map_id8 (fun s hs => by
  obtain ⟨c1, c2⟩ := h.s2 s hs
  show ((cof (dg s.1)).getD 0, (cof (dg s.2.1)).getD 0, decide (kd8 s.2.2 = tD)) = s
  rw [(dg_ok s.1 (by omega)).2.1, (dg_ok s.2.1 (by omega)).2.1, (kd8_ok s.2.2).2.2.1]
  rfl)]
theorem lnT_of {Q : ByteArray → Prop} {P : ByteArray → Q3} {E : ByteArray → Int} {T : Q3 → ByteArray} {p : Pl} (h : PlQ (TkQ P E T) p) (hQ : ∀ q, TkQ P E T q → Q (T q)) (hd : ∀ n, n < 100 → Q (dg n)) (hk : ∀ f, Q (kd8 f)) (hw : ∀ c, c ∈ [wP, wV, wS, wH, wF, wG, wE] → Q c) : ∀ l, l ∈ lines8 T p → l ≠ [] ∧ ∀ t, t ∈ l → Q t := by
 have h1 := h.l1
 have h2 := h.l2
 have h3 := h.l3
 have two : ∀ (a b : ByteArray), Q a → Q b → ∀ t, t ∈ [a, b] → Q t := fun a b ha hb t ht => by
  rcases List.mem_cons.1 ht with rfl | ht
  ·exact ha
  ·rw [List.mem_singleton.1 ht]; exact hb
 have hP : ∀ m : List (Q3 × Q3), (∀ q, q ∈ m → TkQ P E T q.1 ∧ TkQ P E T q.2) → ∀ l, l ∈ lnP T m → l ≠ [] ∧ ∀ t, t ∈ l → Q t := fun m hm l hl => by
  obtain ⟨q, hq, rfl⟩ := List.mem_map.1 hl
  exact ⟨by simp, two _ _ (hQ _ (hm q hq).1) (hQ _ (hm q hq).2)⟩
 have hF : ∀ (c : ByteArray) (m : List Q3), Q c → (∀ q, q ∈ m → TkQ P E T q) → [c] ++ m.map T ≠ [] ∧ ∀ t, t ∈ [c] ++ m.map T → Q t := fun c m hc hm => by
  refine ⟨by simp, fun t ht => ?_⟩
  rcases List.mem_append.1 ht with ht | ht
  ·rw [List.mem_singleton.1 ht]; exact hc
  ·obtain ⟨q, hq, rfl⟩ := List.mem_map.1 ht
   exact hQ _ (hm q hq)
 intro l hl
 unfold lines8 at hl
 simp only [List.mem_append, List.mem_cons, List.not_mem_nil, or_false] at hl
 rcases hl with ((((((rfl | rfl) | hl) | rfl) | hl) | rfl) | hl) | (rfl | rfl | rfl)
 ·exact ⟨by simp, fun t ht => by rw [List.mem_singleton.1 ht]; exact hw _ (by simp)⟩
 ·exact ⟨by simp, two _ _ (hw _ (by simp)) (hd _ (by omega))⟩
 ·exact hP _ h.q1 l hl
 ·exact ⟨by simp, two _ _ (hw _ (by simp)) (hd _ (by omega))⟩
 ·obtain ⟨s, hs, rfl⟩ := List.mem_map.1 hl
  obtain ⟨c1, c2⟩ := h.s2 s hs
  refine ⟨by simp, fun t ht => ?_⟩
  rcases List.mem_cons.1 ht with rfl | ht
  ·exact hd _ (by omega)
  ·exact two _ _ (hd _ (by omega)) (hk _) t ht
 ·exact ⟨by simp, two _ _ (hw _ (by simp)) (hd _ (by omega))⟩
 ·exact hP _ h.q3 l hl
 ·exact hF _ _ (hw _ (by simp)) h.qF
 ·exact hF _ _ (hw _ (by simp)) h.qG
 ·exact ⟨by simp, fun t ht => by rw [List.mem_singleton.1 ht]; exact hw _ (by simp)⟩
theorem flatP_sz (T : Q3 → ByteArray) (l : List (Q3 × Q3)) (h : ∀ q, q ∈ l → (T q.1).size ≤ 122 ∧ (T q.2).size ≤ 122) : sz8 ((l.map (tP T)).flatMap gP) ≤ l.length * 246 := by
 induction l with
 | nil => exact Nat.le_refl _
 | cons q l ih =>
  have h1 := ih (fun q hq => h q (List.mem_cons_of_mem _ hq))
  have h2 := h q List.mem_cons_self
  show (T q.1).size + 1 + ((T q.2).size + 1 + sz8 ((l.map (tP T)).flatMap gP)) ≤ (l.length + 1) * 246
  omega
theorem flatS_sz (l : List (Nat × Nat × Bool)) (h : ∀ s, s ∈ l → s.1 < 100 ∧ s.2.1 < 100) : sz8 ((l.map tS).flatMap gS) ≤ l.length * 8 := by
 induction l with
 | nil => exact Nat.le_refl _
 | cons s l ih =>
  have h1 := ih (fun q hq => h q (List.mem_cons_of_mem _ hq))
  obtain ⟨c1, c2⟩ := h s List.mem_cons_self
  have d1 := (dg_ok s.1 c1).2.2
  have d2 := (dg_ok s.2.1 c2).2.2
  have d3 := (kd8_ok s.2.2).2.2.2
  show (dg s.1).size + 1 + ((dg s.2.1).size + 1 + ((kd8 s.2.2).size + 1 + sz8 ((l.map tS).flatMap gS))) ≤ (l.length + 1) * 8
  omega
theorem wtx_sz {P : ByteArray → Q3} {E : ByteArray → Int} {T : Q3 → ByteArray} {p : Pl} (h : PlQ (TkQ P E T) p) : (wtx T p).size ≤ 20000 := by
 have h1 := h.l1
 have h2 := h.l2
 have h3 := h.l3
 have hl : (wtx T p).size = (wtL (lines8 T p)).length := by
  show (wtL (lines8 T p)).toArray.size = _
  rw [List.size_toArray]
 rw [hl, wt_sz _ (fun l hl => (lnT_of (Q := fun _ => True) h (fun _ _ => trivial) (fun _ _ => trivial) (fun _ => trivial) (fun _ _ => trivial) l hl).1), flat_lines]
 have sP : ∀ m : List (Q3 × Q3), (∀ q, q ∈ m → TkQ P E T q.1 ∧ TkQ P E T q.2) → sz8 ((m.map (tP T)).flatMap gP) ≤ m.length * 246 := fun m hm => flatP_sz T m fun q hq => ⟨(hm q hq).1.2.2.2, (hm q hq).2.2.2.2⟩
 have a1 := sP _ h.q1
 have a3 := sP _ h.q3
 have a2 := flatS_sz p.segs (fun s hs => by have := h.s2 s hs; omega)
 have six : ∀ m : List Q3, m.length = 6 → (∀ q, q ∈ m → TkQ P E T q) → sz8 (m.map T) ≤ 738 := fun m hm hq => by
  have := sz8_le 122 (m.map T) (fun t ht => by obtain ⟨q, hq', rfl⟩ := List.mem_map.1 ht; exact (hq q hq').2.2.2)
  rw [List.length_map, hm] at this
  exact this
 have a4 := six _ h.f6 h.qF
 have a5 := six _ h.g6 h.qG
 have b1 := (dg_ok p.pts.length (by omega)).2.2
 have b2 := (dg_ok p.segs.length (by omega)).2.2
 have b3 := (dg_ok p.holes.length (by omega)).2.2
 have cs : sz8 [wE] = 4 := rfl
 have w1 : wP.size = 4 := rfl
 have w2 : wV.size = 1 := rfl
 have w3 : wS.size = 1 := rfl
 have w4 : wH.size = 1 := rfl
 have w5 : wF.size = 1 := rfl
 have w6 : wG.size = 1 := rfl
 unfold tk0 tk1 tk2 tk3
 simp only [sz8, sz8_app]
 simp only [sz8] at cs
 omega
theorem psp_back {P : ByteArray → Q3} {E : ByteArray → Int} {T : Q3 → ByteArray} {p : Pl} (h : PlQ (TkQ P E T) p) : psp P E (wtx T p) = (p, 0) := by
 have hs := wtx_sz h
 have ht : toks (wtx T p) = (lines8 T p).flatten := by
  rw [toks_tl]
  show tl8 (wtL (lines8 T p)).toArray.toList [] = _
  rw [List.toList_toArray]
  exact tl8_wt _ (lnT_of h (fun q hq => hq.2.2.1) (fun n hn => (dg_ok n hn).1) (fun f => (kd8_ok f).1) (by
   intro c hc
   simp only [List.mem_cons, List.not_mem_nil, or_false] at hc
   rcases hc with rfl | rfl | rfl | rfl | rfl | rfl | rfl <;> exact ⟨by decide, by decide⟩))
 unfold psp
 rw [if_neg (by omega), ht, plan_back h]
end Go.Proofs.YtnplifkgeeicjaaGreatDoor
namespace Go.Proofs.YtnplifkgeeicjaaGreatDoor
open Go.RowKit Go.Shelf
theorem calls_same {f : FuncId} {args : Array Value} {w : World} {a b : Value} {K K' : World → Prop} (h : Calls Tryz.prog f args w fun e w' => e = .returned a ∧ K w') (h' : Calls Tryz.prog f args w fun e w' => e = .returned b ∧ K' w') (hi : Tryz.prog.inits.idxOf? f = none) : a = b := by
 have H : Calls Tryz.prog f args w fun | .returned v, w' => v = a ∧ K w' | _, _ => False := h.mono fun e w' ⟨he, k⟩ => by subst he; exact ⟨rfl, k⟩
 have H' : Calls Tryz.prog f args w fun | .returned v, w' => v = b ∧ K' w' | _, _ => False := h'.mono fun e w' ⟨he, k⟩ => by subst he; exact ⟨rfl, k⟩
 obtain ⟨n, v, w1, e1, r1, -⟩ := Calls.done (R := fun v w' => v = a ∧ K w') H hi
 obtain ⟨m, v', w2, e2, r2, -⟩ := Calls.done (R := fun v w' => v = b ∧ K' w') H' hi
 have a1 := runN_ended e1 m
 have b1 := runN_ended e2 n
 rw [Nat.add_comm, a1] at b1
 injection b1 with ho hw
 injection ho with hv
 rw [← r1, ← r2, hv]
def G60 (q : Q3) : Prop := Gq q.1 q.2.1 q.2.2
theorem ex_PR60 : ∃ (P : ByteArray → Q3) (E : ByteArray → Int), PR P E ∧ ∀ t, E t = 0 → G60 (P t) := by
 have hq : ∀ t : ByteArray, ∃ (q : Q3) (e : Int), (e = 0 → G60 q) ∧ (t.size ≤ 100000 → ∀ w, Tab w → Calls Tryz.prog 184 #[.string t] w fun e' w' => e' = .returned (.tuple #[vQ q, .int .i64 e]) ∧ Below w.heap.size w w') := fun t => by
  by_cases hz : t.size ≤ 100000
  ·obtain ⟨rN, rS, rD, E, h1, h2⟩ := qreads60 t (by omega)
   exact ⟨(rN, rS, rD), E, h1, fun _ => h2⟩
  ·exact ⟨zQ, 4, (fun h => by cases h), fun h => absurd h hz⟩
 exact ⟨fun t => Classical.choose (hq t), fun t => Classical.choose (Classical.choose_spec (hq t)), fun t w hz hT => (Classical.choose_spec (Classical.choose_spec (hq t))).2 hz w hT, fun t h => (Classical.choose_spec (Classical.choose_spec (hq t))).1 h⟩
open Classical in
noncomputable def T60 (q : Q3) : ByteArray := if G60 q then qtxt q.1 q.2.1 q.2.2 else ⟨#[63]⟩
theorem T60_yes {q : Q3} (h : G60 q) : T60 q = qtxt q.1 q.2.1 q.2.2 := if_pos h
theorem T60_no {q : Q3} (h : ¬ G60 q) : T60 q = ⟨#[63]⟩ := if_neg h
theorem strB_tok {l : List Nat} (h : ∀ t ∈ l, 45 = t ∨ (48 ≤ t ∧ t < 58)) : ∀ x ∈ (strB l).data.toList, bl x.toNat = false := by
 intro x hx
 unfold strB at hx
 rw [List.mem_map] at hx
 obtain ⟨t, ht, rfl⟩ := hx
 have h1 := h t ht
 rw [UInt8.toNat_ofNat']
 unfold bl
 simp
 omega
theorem ptxt_tok (n : Bool) (s : ByteArray) (hs : natOf s < 10 ^ 60) : (∀ x ∈ (ptxt n s).data.toList, bl x.toNat = false) ∧ 1 ≤ (ptxt n s).size ∧ (ptxt n s).size ≤ 61 ∧ (n = false → (ptxt n s).size ≤ 60) := by
 have hl : (dt (natOf s)).length ≤ 60 := by
  unfold dt
  rw [List.length_reverse, List.length_map]
  exact M.digs_len_of_lt (k := 60) (by omega) hs
 unfold ptxt
 split
 ·exact ⟨by decide, by decide, by decide, fun _ => by decide⟩
 ·rename_i hne
  have h1 : 0 < (dt (natOf s)).length := List.length_pos_iff.2 hne
  split
  ·rename_i hn
   refine ⟨strB_tok fun t ht => ?_, ?_, ?_, fun h => absurd hn (by rw [h]; simp)⟩
   ·rcases List.mem_cons.1 ht with rfl | h
    ·exact Or.inl rfl
    ·exact Or.inr (dt_mem h)
   ·rw [strB_size, List.length_cons]; omega
   ·rw [strB_size, List.length_cons]; omega
  ·refine ⟨strB_tok fun t ht => Or.inr (dt_mem ht), ?_, ?_, fun _ => ?_⟩
   ·rw [strB_size]; omega
   ·rw [strB_size]; omega
   ·rw [strB_size]; omega
theorem qtxt_tok {n : Bool} {s d : ByteArray} (g : Gq n s d) : Tok (qtxt n s d) ∧ (qtxt n s d).size ≤ 122 := by
 obtain ⟨a1, a2, a3, -⟩ := ptxt_tok n s g.ls
 obtain ⟨b1, b2, -, b3⟩ := ptxt_tok false d g.ld
 replace b3 := b3 rfl
 unfold qtxt
 split
 ·exact ⟨⟨by omega, a1⟩, by omega⟩
 ·have e : ((ptxt n s ++ ⟨#[47]⟩) ++ ptxt false d).data.toList = (ptxt n s).data.toList ++ 47 :: (ptxt false d).data.toList := by simp
  have hs : ((ptxt n s ++ ⟨#[47]⟩) ++ ptxt false d).size = (ptxt n s).size + 1 + (ptxt false d).size := by rw [app_size, app_size]; rfl
  refine ⟨⟨by omega, fun x hx => ?_⟩, by omega⟩
  rw [e] at hx
  rcases List.mem_append.1 hx with hx | hx
  ·exact a1 x hx
  ·rcases List.mem_cons.1 hx with rfl | hx
   ·rfl
   ·exact b1 x hx
theorem T60_size (q : Q3) : (T60 q).size ≤ 1000 := by
 by_cases h : G60 q
 ·rw [T60_yes h]
  exact Nat.le_trans (qtxt_tok h).2 (by decide)
 ·rw [T60_no h]; decide
theorem chk60 {n : Bool} {s d : ByteArray} (g : Gq n s d) : chkq n s d = 0 := chkq_ok g.ok (Nat.le_trans g.zs (by decide)) (Nat.le_trans g.zd (by decide))
theorem tx60 {q : Q3} (w : World) (hT : Tab w) (hP : TabP w) (g : G60 q) : TX T60 q w := fun w1 b => by
 refine (qprint_ok q.1 q.2.1 q.2.2 w1 (hT.below b) (hP.bel b) (chk60 g) (Nat.le_trans g.zs (by decide)) (Nat.le_trans g.zd (by decide))).mono ?_
 rintro e w' ⟨rfl, k⟩
 exact ⟨_, _, rfl, T60_yes g, k⟩
theorem z_not60 : ¬ G60 zQ := fun h => absurd h.ok.2.2.1 (by decide)
theorem tx60_no (w : World) (hT : Tab w) : TX T60 zQ w := fun w1 b => by
 refine (qprint_no w1 (hT.below b)).mono ?_
 rintro e w' ⟨rfl, k⟩
 exact ⟨_, _, rfl, by rw [T60_no z_not60]; rfl, k⟩
theorem tk60 {P : ByteArray → Q3} {E : ByteArray → Int} (hP : PR P E) {q : Q3} (w : World) (hT : Tab w) (g : G60 q) : TkQ P E T60 q := by
 obtain ⟨k1, k2⟩ := qtxt_tok g
 have h1 := hP (qtxt q.1 q.2.1 q.2.2) w (by omega) hT
 have h2 := qback60 q.1 q.2.1 q.2.2 w hT g
 have e := calls_same h1 h2 (by kernel_rfl)
 have e1 := congrArg (fun v => v) e
 unfold TkQ
 rw [T60_yes g]
 injection e with e
 have e := congrArg Array.toList e
 injection e with ea eb
 injection eb with eb
 refine ⟨?_, ?_, k1, k2⟩
 ·injection eb
 ·unfold vQ at ea
  injection ea with ea
  have ea := congrArg Array.toList ea
  injection ea with a1 ea
  injection ea with a2 ea
  injection ea with a3
  injection a1 with a1
  injection a2 with a2
  injection a3 with a3
  exact Prod.ext a1 (Prod.ext a2 a3)
theorem plq60 {P : ByteArray → Q3} {E : ByteArray → Int} (hG : ∀ t, E t = 0 → G60 (P t)) {s : ByteArray} (h : (psp P E s).2 = 0) : PlQ G60 (psp P E s).1 := by
 unfold psp at h ⊢
 split at h
 ·cases h
 ·rename_i hs
  rw [if_neg hs]
  cases hp : plan P E (toks s) with
  | none => rw [hp] at h; cases h
  | some p =>
   refine (plQ_of hp).mono ?_
   rintro q ⟨t, ht, rfl⟩
   exact hG t ht
theorem pback60 (P : ByteArray → Q3) (E : ByteArray → Int) (hPR : PR P E) (p : Pl) (hp : PlQ G60 p) (w : World) (aL : Addr) (h : Env8 w aL) (hT : TabP w) (cs : List Value) (B : Nat) (hc : PlanAt w B cs p) :
  Calls Tryz.prog 23 #[.agg cs.toArray] w (Re w (.tuple #[.string (wtx T60 p), .int .i64 0])) := by
 have hb := psp_back (hp.mono fun q g => tk60 hPR w h.tab g)
 have tx : ∀ q, G60 q → TX T60 q w := fun q g => tx60 w h.tab hT g
 have := pprint_pl P E hPR T60 p cs B w aL h hc hp.l1 hp.l2 hp.l3 (fun q hq => ⟨tx _ (hp.q1 q hq).1, tx _ (hp.q1 q hq).2⟩) (fun q hq => ⟨tx _ (hp.q3 q hq).1, tx _ (hp.q3 q hq).2⟩) (fun q hq => tx _ (hp.qF q hq)) (fun q hq => tx _ (hp.qG q hq)) (tx60_no w h.tab) (fun s hs => by have := hp.s2 s hs; have := hp.l1; omega) T60_size (by rw [hb]; intro _; rfl)
 rw [hb] at this
 exact this
theorem pread60 (P : ByteArray → Q3) (E : ByteArray → Int) (hPR : PR P E) (p : Pl) (hp : PlQ G60 p) (w : World) (aL : Addr) (h : Env8 w aL) :
  Calls Tryz.prog 18 #[.string (wtx T60 p)] w fun e w' => ∃ cs : List Value, e = .returned (.tuple #[.agg cs.toArray, .int .i64 0]) ∧ PlanAt w' w.heap.size cs p ∧ Below w.heap.size w w' := by
 have hb := psp_back (hp.mono fun q g => tk60 hPR w h.tab g)
 have := parse_any P E hPR (wtx T60 p) w aL h
 rw [hb] at this
 exact this
open Go.RowKit
theorem frac8_walk (N M : Int) (xN yN : Bool) (xS yS : ByteArray) (rN : Bool) (rS rD : ByteArray) (w : World)
  (H1 : Hid (∀ w1, Below w.heap.size w w1 → Calls Tryz.prog 58 #[.int .i64 N] w1 (Re w1 (.agg #[.bool xN, .string xS]))))
  (H2 : Hid (∀ w1, Below w.heap.size w w1 → Calls Tryz.prog 58 #[.int .i64 M] w1 (Re w1 (.agg #[.bool yN, .string yS]))))
  (H3 : Hid (∀ w1, Below w.heap.size w w1 → Calls Tryz.prog 57 #[.agg #[.bool xN, .string xS], .agg #[.bool yN, .string yS]] w1 (Re w1 ((qa1 rN rS rD))))) :
  Calls Tryz.prog 29 #[.int .i64 N, .int .i64 M] w (Re w ((qa1 rN rS rD))) := by
 go_enter Tryz.func29, Tryz.ntmps29
 go_wp2_with fail
 obtain ⟨w0, hw, kr, bb⟩ := mk1 w (ql1 false eB eB) 26
 rw [← hw]
 clear hw
 go_fit (H1.out _ bb)
 rintro e w1 ⟨rfl, b1⟩
 replace kr := kr.below b1
 replace bb := Below.after bb b1
 clear b1
 go_wp2_with fail
 go_fit (H2.out _ bb)
 rintro e w2 ⟨rfl, b1⟩
 replace kr := kr.below b1
 replace bb := Below.after bb b1
 clear b1
 go_wp2_with fail
 go_fit (H3.out _ bb)
 rintro e w3 ⟨rfl, b1⟩
 replace kr := kr.below b1
 replace bb := Below.after bb b1
 clear b1
 obtain ⟨e0, e1, e2⟩ := xk3 kr
 have f0 := Cel.frozen kr 0
 have f1 := Cel.frozen kr 1
 have f2 := Cel.frozen kr 2
 go_wp2
 exact post_q (p := 4) (by kernel_rfl) rfl rfl (((kr.set 0 _).set 1 _).set 2 _) ⟨rfl, bset (bset (bset bb (by omega) 0 _) (by omega) 1 _) (by omega) 2 _⟩
theorem frac_half (w : World) : Calls Tryz.prog 29 #[.int .i64 1, .int .i64 2] w (Re w (.agg #[.bool false, .string ⟨#[1]⟩, .string ⟨#[2]⟩])) := by
 have o : OkQ false ⟨#[1]⟩ ⟨#[2]⟩ := (chkq_zero (by decide +kernel)).1
 have od : OkZ false ⟨#[2]⟩ := ⟨o.2.1, fun h => by cases h⟩
 refine frac8_walk 1 2 false false ⟨#[1]⟩ ⟨#[2]⟩ _ _ _ w (fun w1 _ => ?_) (fun w1 _ => ?_) (fun w1 _ => ?_)
 ·have := rof_any 1 (by omega) (by omega) w1
  rwa [show zI 1 = .agg #[.bool false, .string ⟨#[1]⟩] by kernel_rfl] at this
 ·have := rof_any 2 (by omega) (by omega) w1
  rwa [show zI 2 = .agg #[.bool false, .string ⟨#[2]⟩] by kernel_rfl] at this
 ·have := low_any false false ⟨#[1]⟩ ⟨#[2]⟩ w1 o.1 od (by decide) (by decide) o.2.2.1
  rw [show zOf false ⟨#[2]⟩ = ((natOf ⟨#[2]⟩ : Nat) : Int) from zOf_false _, Rat.divInt_ofNat] at this
  rw [qV_is o]
  exact this
open Go.RowKit
theorem eqQ8 (n : Bool) (s d : ByteArray) (w1 : World) : (Op.equalIn 10000 26 ((qa1 n s d)) ((qa1 n s d))).run Tryz.prog w1 = .ok true w1 := by
 rw [show (10000 : Nat) = 9999 + 1 from rfl]
 go_simp
theorem live8_any (w : World) (aL : Addr) (h : Env8 w aL) (hP : TabP w) : Calls Tryz.prog 21 #[] w (Re w (.bool true)) := by
 obtain ⟨P, E, hPR⟩ := ex_PR8
 have H1 : Hid (∀ wi, Below w.heap.size w wi → Calls Tryz.prog 18 #[.string one8] wi fun e w' => ∃ cs : List Value, e = .returned (.tuple #[.agg cs.toArray, .int .i64 0]) ∧ PlanAt w' wi.heap.size cs p8 ∧ Below wi.heap.size wi w') := fun wi b => by
  have := parse_any (P8 P) (E8 E) hPR one8 wi aL (h.below b)
  rw [psp_one] at this
  exact this
 have H2 : Hid (∀ wi, Below w.heap.size w wi → Calls Tryz.prog 18 #[.string two8] wi fun e w' => ∃ cs : List Value, e = .returned (.tuple #[.agg cs.toArray, .int .i64 4]) ∧ PlanAt w' wi.heap.size cs zPl ∧ Below wi.heap.size wi w') := fun wi b => by
  have := parse_any (P8 P) (E8 E) hPR two8 wi aL (h.below b)
  rw [psp_two] at this
  exact this
 have HA := shut (fun wi (b : Below w.heap.size w wi) cs B (hp : PlanAt wi B cs p8) => print_p8 P E hPR cs B wi aL (h.below b) (hP.bel b) hp)
 have HZ : Hid (∀ wi, Below w.heap.size w wi → Calls Tryz.prog 23 #[.agg #[nilS, nilS, nilS, .bool false, .string eS, .string eS, .bool false, .string eS, .string eS, .bool false, .string eS, .string eS, .bool false, .string eS, .string eS, .bool false, .string eS, .string eS, .bool false, .string eS, .string eS, .bool false, .string eS, .string eS, .bool false, .string eS, .string eS, .bool false, .string eS, .string eS, .bool false, .string eS, .string eS, .bool false, .string eS, .string eS, .bool false, .string eS, .string eS]] wi (Re wi (.tuple #[.string eS, .int .i64 1]))) := fun wi b => by
  have := print_z8 P E hPR Z39 0 wi aL (h.below b) (planAt_zero wi 0)
  exact this
 have HF := shut (fun wi => frac_half wi)
 have hE := fun w1 => eqQ8 false ⟨#[1]⟩ ⟨#[2]⟩ w1
 clear h hP hPR
 go_enter Tryz.func21, Tryz.ntmps21
 go_upto_region 2 with (go_at_call 18; refine (H1.out w (Below.refl _ _)).mono ?_; rintro e w1 ⟨cs, rfl, hp, b1⟩; have hlen := hp.len; obtain ⟨w2, hst, k2, b2⟩ := fresh39 w1 cs hp.len hp.one)
 have B2 := Below.after b1 b2
 have hp2 := hp.below b2
 clear hst b1 b2 H1
 go_upto_region 3 with (first | (refine wpList_load_row rfl 46 _ rfl _ rfl 46 cs.toArray (0, 0) _ k2 Tryz.underlying46 rfl (by rw [List.size_toArray, hlen]; kernel_rfl) ?_) | (go_at_call 23; refine (HA.out _ B2 cs _ hp2).mono ?_; rintro e w3 ⟨rfl, b3⟩))
 have B3 := Below.after B2 b3
 have k3 := k2.below b3
 have hp3 := hp2.below b3
 clear k2 hp2 hp HA B2 b3
 go_upto_region 4 with (go_at_call 18; refine (H2.out _ B3).mono ?_; rintro e w4 ⟨ds, rfl, hq, b4⟩; have hlen' := hq.len; obtain ⟨w5, hst, k5, b5⟩ := fresh39 w4 ds hq.len hq.one)
 have B5 := Below.after (Below.after B3 b4) b5
 have k6 := (k3.below b4).below b5
 have hp5 := (hp3.below b4).below b5
 clear hst k5 b4 b5 hq k3 hp3 H2 B3
 go_upto_region 5 with (go_at_call 23; refine (HZ.out _ B5).mono ?_; rintro e w6 ⟨rfl, b6⟩)
 have B6 := Below.after B5 b6
 have k7 := k6.below b6
 have hp6 := hp5.below b6
 clear HZ B5 b6 k6 hp5
 obtain ⟨v1, v2, v3, x, y, hcs, o1, o2, o3, hF, hG⟩ := hp6
 have r1 := RowR.of cP cP_len o1
 have r2 := RowR.of cS cS_len o2
 obtain ⟨a1, c1, rfl⟩ := own_val o1
 obtain ⟨a2, c2, rfl⟩ := own_val o2
 obtain ⟨aa, ac, ea, -, hr1⟩ := r1
 obtain ⟨ba, bc, eb, -, hr2⟩ := r2
 obtain ⟨gp, op, ep, -, hx⟩ := hr1 0 _ rfl
 obtain ⟨gs, os, es, -, hy⟩ := hr2 0 _ rfl
 have ea' := (Value.slice.inj ea).1
 have eb' := (Value.slice.inj eb).1
 rw [ep] at ea'
 rw [es] at eb'
 subst ea' eb'
 obtain ⟨g1, hg1⟩ : ∃ g, g = w1.heap.size := ⟨_, rfl⟩
 rw [← hg1] at k7 ⊢
 have q0 : w6.cell? ⟨g1, 0, none⟩ = some (.slice (some ⟨gp, op, none⟩) 1 c1) := by rw [k7.cell 0, hcs]; rfl
 have q1 : w6.cell? ⟨g1, 1, none⟩ = some (.slice (some ⟨gs, os, none⟩) 1 c2) := by rw [k7.cell 1, hcs]; rfl
 have q2 : w6.rangeAt gp op [.bool false, .string ⟨#[1]⟩, .string ⟨#[2]⟩] := fun i v hv => by
  have := hx i v (by match i, hv with | 0, hv => exact hv | 1, hv => exact hv | 2, hv => exact hv)
  rwa [Nat.zero_mul, Nat.add_zero] at this
 have q3 : w6.cell? ⟨gs, os + 2, none⟩ = some (.bool true) := by
  have := hy 2 _ rfl
  rwa [Nat.zero_mul, Nat.add_zero] at this
 clear hr1 hr2 hx hy o1 o2 o3 hF hG hcs k7 ea eb ep es hg1
 have Bd6 : Below w.heap.size w w6.drew := Below.after B6 (bdrew w6)
 refine wp_region_held_drew (S := fun w' => w'.cell? ⟨g1, 0, none⟩ = some (.slice (some ⟨gp, op, none⟩) 1 c1) ∧ w'.cell? ⟨g1, 1, none⟩ = some (.slice (some ⟨gs, os, none⟩) 1 c2) ∧ w'.rangeAt gp op [.bool false, .string ⟨#[1]⟩, .string ⟨#[2]⟩] ∧ w'.cell? ⟨gs, os + 2, none⟩ = some (.bool true)) (by kernel_rfl) ⟨q0, q1, (World.rangeAt_drew _ _ _ _).2 q2, q3⟩ (fun hS => ?_)
 clear q0 q1 q2 q3 B6
 generalize w6.drew = wd at *
 refine WA.start (n := 47) (by kernel_rfl) ?_
 refine WA.tp 0 rfl ?_
 refine WA.tp 1 rfl ?_
 refine WA.tp 2 rfl ?_
 refine WA.tp 3 rfl ?_
 refine WA.tp 4 rfl ?_
 refine WA.tp 5 rfl ?_
 refine WA.tp 6 rfl ?_
 refine WA.tp 7 rfl ?_
 refine WA.tp 8 rfl ?_
 refine WA.tp 9 rfl ?_
 refine WA.tp 10 rfl ?_
 refine WA.tp 11 rfl ?_
 refine WA.tp 12 rfl ?_
 refine WA.tp 13 rfl ?_ (hy := yieldsIf_load_mid (by rfl) 26 _ rfl gp op rfl [.bool false, .string ⟨#[1]⟩, .string ⟨#[2]⟩] _ (fun w' h => h.2.2.1) Tryz.underlying26 rfl (by kernel_rfl))
 refine WA.cal 14 rfl (fun K hK => ?_)
 simp only [List.getElem_toArray, List.getElem_cons_succ, List.getElem_cons_zero]
 go_simp
 go_fit (HF.out _)
 rintro e wa ⟨rfl, ba⟩
 try go_wp2_with fail
 refine hK.out _ _ ⟨cell_below hS.1 ba, cell_below hS.2.1 ba, fun i v hv => cell_below (hS.2.2.1 i v hv) ba, cell_below hS.2.2.2 ba⟩ (fun hS => ?_)
 clear hK K
 have Bf := Below.after Bd6 ba
 refine WA.tp 15 rfl ?_
 refine WA.tp 16 rfl ?_
 refine WA.tp 17 rfl ?_
 refine WA.tp 18 rfl ?_
 refine WA.tp 19 rfl ?_
 refine WA.tp 20 rfl ?_
 refine WA.tp 21 rfl ?_
 refine WA.tp 22 rfl ?_
 refine WA.tp 23 rfl ?_
 refine WA.tp 24 rfl ?_
 refine WA.tp 25 rfl ?_
 refine WA.tp 26 rfl ?_
 refine WA.tp 27 rfl ?_
 refine WA.tp 28 rfl ?_
 refine WA.tp 29 rfl ?_
 refine WA.tp 30 rfl ?_
 refine WA.tp 31 rfl ?_
 refine WA.tp 32 rfl ?_
 refine WA.tp 33 rfl ?_
 refine WA.tp 34 rfl ?_
 refine WA.tp 35 rfl ?_
 refine WA.tp 36 rfl ?_
 refine WA.tp 37 rfl ?_
 refine WA.tp 38 rfl ?_
 refine WA.tp 39 rfl ?_
 refine WA.tp 40 rfl ?_
 refine WA.tp 41 rfl ?_
 refine WA.tp 42 rfl ?_
 refine WA.tp 43 rfl ?_
 refine WA.tp 44 rfl ?_
 refine WA.tp 45 rfl ?_
 refine WA.tp 46 rfl ?_
 refine WA.done (by kernel_rfl) ?_
 clear hS
 go_wp2
 go_ret
 exact ⟨rfl, Bf⟩
open Go.RowKit
theorem psp_bad {P : ByteArray → Q3} {E : ByteArray → Int} {s : ByteArray} (h : (psp P E s).2 ≠ 0) : (psp P E s).1 = zPl := by
 unfold psp at h ⊢
 split
 ·rfl
 ·rename_i hs
  rw [if_neg hs] at h
  cases hp : plan P E (toks s) with
  | none => rfl
  | some p => rw [hp] at h; exact absurd rfl h
theorem back8_long (s : ByteArray) (w : World) (hs : 8000 < s.size) (HL : Hid (∀ wi, Below w.heap.size w wi → Calls Tryz.prog 21 #[] wi (Re wi (.bool true)))) :
  Calls Tryz.prog 6 #[.string s] w (Re w (.bool true)) := by
 have hs' : (8000 : Int) < (s.size : Int) := by omega
 go_enter Tryz.func6, Tryz.ntmps6
 go_wp2_with (go_at_call 21; refine (HL.out w (Below.refl _ _)).mono ?_; rintro e w1 ⟨rfl, b1⟩)
 go_ret
 exact ⟨rfl, b1⟩
theorem back8_bad (s : ByteArray) (e0 : Int) (w : World) (hs : s.size ≤ 8000) (he : e0 ≠ 0) (HL : Hid (∀ wi, Below w.heap.size w wi → Calls Tryz.prog 21 #[] wi (Re wi (.bool true))))
  (HA : Hid (∀ wi, Below w.heap.size w wi → Calls Tryz.prog 18 #[.string s] wi fun e w' => ∃ cs : List Value, e = .returned (.tuple #[.agg cs.toArray, .int .i64 e0]) ∧ PlanAt w' wi.heap.size cs zPl ∧ Below wi.heap.size wi w')) :
  Calls Tryz.prog 6 #[.string s] w (Re w (.bool true)) := by
 have hs' : ¬ (8000 : Int) < (s.size : Int) := by omega
 have HS := shut (fun wi cs B (k1 : PlanAt wi B cs zPl) => rsame_pl zPl cs Z39 B 0 wi k1 (planAt_zero wi 0) (by decide) (by decide) (by decide))
 go_enter Tryz.func6, Tryz.ntmps6
 go_upto_region 4 with (go_at_call 18; refine (HA.out w (Below.refl _ _)).mono ?_; rintro e w1 ⟨cs, rfl, hp, b1⟩; have hlen := hp.len; obtain ⟨w2, hst, k2, b2⟩ := fresh39 w1 cs hp.len hp.one)
 have B2 := Below.after b1 b2
 have hp2 := hp.below b2
 clear hst b1 b2 HA hp
 go_wp2_with (first | (refine wpList_load_row rfl 46 _ rfl _ rfl 46 cs.toArray (0, 0) _ k2 Tryz.underlying46 rfl (by rw [List.size_toArray, hlen]; kernel_rfl) ?_) | (go_at_call 20; refine (HS.out w2 cs _ hp2).mono ?_; rintro e w3 ⟨rfl, b3⟩; have B3 := Below.after B2 b3) | (go_at_call 21; refine (HL.out w3 B3).mono ?_; rintro e w4 ⟨rfl, b4⟩; have B4 := Below.after B3 b4))
 go_ret
 exact ⟨rfl, B4⟩
theorem back8_good (s t : ByteArray) (p : Pl) (w : World) (hs : s.size ≤ 8000) (l1 : p.pts.length ≤ 100000) (l2 : p.segs.length ≤ 100000) (l3 : p.holes.length ≤ 100000) (HL : Hid (∀ wi, Below w.heap.size w wi → Calls Tryz.prog 21 #[] wi (Re wi (.bool true))))
  (HA : Hid (∀ wi, Below w.heap.size w wi → Calls Tryz.prog 18 #[.string s] wi fun e w' => ∃ cs : List Value, e = .returned (.tuple #[.agg cs.toArray, .int .i64 0]) ∧ PlanAt w' wi.heap.size cs p ∧ Below wi.heap.size wi w'))
  (HB : Hid (∀ wi, Below w.heap.size w wi → Calls Tryz.prog 18 #[.string t] wi fun e w' => ∃ cs : List Value, e = .returned (.tuple #[.agg cs.toArray, .int .i64 0]) ∧ PlanAt w' wi.heap.size cs p ∧ Below wi.heap.size wi w'))
  (HP : Hid (∀ wi, Below w.heap.size w wi → ∀ cs B, PlanAt wi B cs p → Calls Tryz.prog 23 #[.agg cs.toArray] wi (Re wi (.tuple #[.string t, .int .i64 0])))) :
  Calls Tryz.prog 6 #[.string s] w (Re w (.bool true)) := by
 have hs' : ¬ (8000 : Int) < (s.size : Int) := by omega
 have HS := shut (fun wi cs ds B C (k1 : PlanAt wi B cs p) (k2 : PlanAt wi C ds p) => rsame_pl p cs ds B C wi k1 k2 l1 l2 l3)
 clear l1 l2 l3
 go_enter Tryz.func6, Tryz.ntmps6
 go_upto_region 4 with (go_at_call 18; refine (HA.out w (Below.refl _ _)).mono ?_; rintro e w1 ⟨cs, rfl, hp, b1⟩; have hlen := hp.len; obtain ⟨w2, hst, k2, b2⟩ := fresh39 w1 cs hp.len hp.one)
 have B2 := Below.after b1 b2
 have hp2 := hp.below b2
 clear hst b1 b2 HA hp
 go_upto_region 6 with fail
 go_upto_region 7 with (first | (refine wpList_load_row rfl 46 _ rfl _ rfl 46 cs.toArray (0, 0) _ k2 Tryz.underlying46 rfl (by rw [List.size_toArray, hlen]; kernel_rfl) ?_) | (go_at_call 23; refine (HP.out _ B2 cs _ hp2).mono ?_; rintro e w3 ⟨rfl, b3⟩))
 have B3 := Below.after B2 b3
 have k3 := k2.below b3
 have hp3 := hp2.below b3
 clear k2 hp2 B2 b3
 go_upto_region 8 with (go_at_call 18; refine (HB.out _ B3).mono ?_; rintro e w4 ⟨ds, rfl, hq, b4⟩; have hlen' := hq.len; obtain ⟨w5, hst, k5, b5⟩ := fresh39 w4 ds hq.len hq.one)
 have B5 := Below.after (Below.after B3 b4) b5
 have kc5 := (k3.below b4).below b5
 have hp5 := (hp3.below b4).below b5
 have hq5 := hq.below b5
 clear hst b4 b5 hq k3 hp3 HB B3
 go_upto_region 9 with (first | (refine wpList_load_row rfl 46 _ rfl _ rfl 46 ds.toArray (0, 0) _ k5 Tryz.underlying46 rfl (by rw [List.size_toArray, hlen']; kernel_rfl) ?_) | (go_at_call 23; refine (HP.out _ B5 ds _ hq5).mono ?_; rintro e w6 ⟨rfl, b6⟩))
 have B6 := Below.after B5 b6
 have hp6 := hp5.below b6
 have hq6 := hq5.below b6
 have rz := celA (kc5.below b6)
 have rd := celA (k5.below b6)
 have ht : (t.toList == t.toList) = true := beq_self_eq_true _
 clear b6 B5 k5 kc5 hp5 hq5 HP
 go_wp2_with (first | (refine wpList_load_midG (by rfl) 46 _ rfl w1.heap.size 0 rfl cs _ rz Tryz.underlying46 rfl (by rw [hlen]; kernel_rfl) ?_) | (refine wpList_load_midG (by rfl) 46 _ rfl w4.heap.size 0 rfl ds _ rd Tryz.underlying46 rfl (by rw [hlen']; kernel_rfl) ?_) | (go_at_call 20; refine (HS.out w6 cs ds _ _ hp6 hq6).mono ?_; rintro e w7 ⟨rfl, b7⟩; have B7 := Below.after B6 b7) | (go_at_call 21; refine (HL.out w7 B7).mono ?_; rintro e w8 ⟨rfl, b8⟩; have B8 := Below.after B7 b8))
 go_ret
 exact ⟨rfl, B8⟩
theorem back8_law (s : ByteArray) (w : World) (aL : Addr) (h : Env8 w aL) (hP : TabP w) : Calls Tryz.prog 6 #[.string s] w (Re w (.bool true)) := by
 obtain ⟨P, E, h1, hG⟩ := ex_PR60
 have HL := shut (fun wi (b : Below w.heap.size w wi) => live8_any wi aL (h.below b) (hP.bel b))
 by_cases hs : 8000 < s.size
 ·exact back8_long s w hs HL
 ·have HA := fun wi (b : Below w.heap.size w wi) => parse_any P E h1 s wi aL (h.below b)
  by_cases he : (psp P E s).2 = 0
  ·have hq := plq60 hG he
   obtain ⟨z1, z2, z3⟩ := psp_len8 P E s
   rw [he] at HA
   generalize (psp P E s).1 = p at *
   exact back8_good s (wtx T60 p) p w (by omega) z1 z2 z3 HL HA (fun wi b => pread60 P E h1 p hq wi aL (h.below b)) (fun wi b cs B k => pback60 P E h1 p hq wi aL (h.below b) (hP.bel b) cs B k)
  ·rw [psp_bad he] at HA
   exact back8_bad s _ w (by omega) he HL HA
end Go.Proofs.YtnplifkgeeicjaaGreatDoor
