/-
  a plan's text, to be read and printed, reckoned out.
  Print of a plan, and of two plans outright.
  one half.
  gussetlaw08: live.
  gussetlaw08: PslgReads.
  A plan's text: its tokens, and that it is read as that plan.
  A count's digits; the texts of many points, segments, holes, and what they tell.
  PslgGreat, walked.
-/
import Derived.Test.YtnplifkgeeicjaaGreatDoorU47
import Derived.Test.YtnplifkgeeicjaaGreatDoorU48
set_option maxRecDepth 100000
set_option maxHeartbeats 16000000
namespace Go.Proofs.YtnplifkgeeicjaaGreatDoor
open Go.RowKit
def tab8 : List (ByteArray × Q3 × Int) := [(⟨#[49, 47, 50]⟩, (false, ⟨#[1]⟩, ⟨#[2]⟩), 0), (⟨#[45, 51]⟩, (true, ⟨#[3]⟩, ⟨#[1]⟩), 0), (⟨#[48]⟩, (false, ⟨#[]⟩, ⟨#[1]⟩), 0), (⟨#[49]⟩, (false, ⟨#[1]⟩, ⟨#[1]⟩), 0), (⟨#[50]⟩, (false, ⟨#[2]⟩, ⟨#[1]⟩), 0), (⟨#[51]⟩, (false, ⟨#[3]⟩, ⟨#[1]⟩), 0), (⟨#[52]⟩, (false, ⟨#[4]⟩, ⟨#[1]⟩), 0), (⟨#[53]⟩, (false, ⟨#[5]⟩, ⟨#[1]⟩), 0), (⟨#[54]⟩, (false, ⟨#[6]⟩, ⟨#[1]⟩), 0), (⟨#[63]⟩, zQ, 4), (⟨#[]⟩, zQ, 4)]
def look (t : ByteArray) : List (ByteArray × Q3 × Int) → Option (Q3 × Int)
 | [] => none
 | (k, v) :: r => if t = k then some v else look t r
def P8 (P : ByteArray → Q3) (t : ByteArray) : Q3 := match look t tab8 with | some v => v.1 | none => P t
def E8 (E : ByteArray → Int) (t : ByteArray) : Int := match look t tab8 with | some v => v.2 | none => E t
def T8 (q : Q3) : ByteArray := if q = zQ then ⟨#[63]⟩ else if (qtxt q.1 q.2.1 q.2.2).size ≤ 1000 then qtxt q.1 q.2.1 q.2.2 else eS
theorem T8_size (q : Q3) : (T8 q).size ≤ 1000 := by
 unfold T8
 split
 ·decide
 ·split
  ·assumption
  ·decide
abbrev one8 : ByteArray := ⟨#[112, 115, 108, 103, 32, 118, 32, 49, 32, 49, 47, 50, 32, 45, 51, 32, 115, 32, 49, 32, 48, 32, 48, 32, 100, 32, 104, 32, 48, 32, 102, 32, 48, 32, 48, 32, 48, 32, 48, 32, 48, 32, 48, 32, 103, 32, 49, 32, 50, 32, 51, 32, 52, 32, 53, 32, 54, 32, 101, 110, 100]⟩
abbrev two8 : ByteArray := ⟨#[112, 115, 108, 103, 32, 118, 32, 49, 32, 49, 47, 50, 32, 45, 51, 32, 115, 32, 49, 32, 48, 32, 48, 32, 100, 32, 104, 32, 48, 32, 102, 32, 48, 32, 48, 32, 48, 32, 48, 32, 48, 32, 48, 32, 103, 32, 49, 32, 50, 32, 51, 32, 52, 32, 53, 32, 54, 32, 101, 110, 100, 32, 101, 110, 100]⟩
abbrev txt8 : ByteArray := ⟨#[112, 115, 108, 103, 10, 118, 32, 49, 10, 49, 47, 50, 32, 45, 51, 10, 115, 32, 49, 10, 48, 32, 48, 32, 100, 10, 104, 32, 48, 10, 102, 32, 48, 32, 48, 32, 48, 32, 48, 32, 48, 32, 48, 10, 103, 32, 49, 32, 50, 32, 51, 32, 52, 32, 53, 32, 54, 10, 101, 110, 100, 10]⟩
def p8 : Pl := ⟨[((false, ⟨#[1]⟩, ⟨#[2]⟩), (true, ⟨#[3]⟩, ⟨#[1]⟩))], [(0, 0, true)], [], [(false, ⟨#[]⟩, ⟨#[1]⟩), (false, ⟨#[]⟩, ⟨#[1]⟩), (false, ⟨#[]⟩, ⟨#[1]⟩), (false, ⟨#[]⟩, ⟨#[1]⟩), (false, ⟨#[]⟩, ⟨#[1]⟩), (false, ⟨#[]⟩, ⟨#[1]⟩)], [(false, ⟨#[1]⟩, ⟨#[1]⟩), (false, ⟨#[2]⟩, ⟨#[1]⟩), (false, ⟨#[3]⟩, ⟨#[1]⟩), (false, ⟨#[4]⟩, ⟨#[1]⟩), (false, ⟨#[5]⟩, ⟨#[1]⟩), (false, ⟨#[6]⟩, ⟨#[1]⟩)]⟩
theorem psp_one (P : ByteArray → Q3) (E : ByteArray → Int) : psp (P8 P) (E8 E) one8 = (p8, 0) := by kernel_rfl
theorem psp_two (P : ByteArray → Q3) (E : ByteArray → Int) : psp (P8 P) (E8 E) two8 = (zPl, 4) := by kernel_rfl
theorem wtx_one : wtx T8 p8 = txt8 := by kernel_rfl
theorem psp_txt (P : ByteArray → Q3) (E : ByteArray → Int) : psp (P8 P) (E8 E) txt8 = (p8, 0) := by kernel_rfl
theorem psp_nil (P : ByteArray → Q3) (E : ByteArray → Int) : psp (P8 P) (E8 E) (wtx T8 zPl) = (zPl, 4) := by kernel_rfl
theorem look_ok (t : ByteArray) (v : Q3 × Int) (h : look t tab8 = some v) (w : World) (hT : Tab w) : Calls Tryz.prog 184 #[.string t] w (Re w (.tuple #[vQ v.1, .int .i64 v.2])) := by
 by_cases h0 : t = ⟨#[49, 47, 50]⟩
 ·subst h0
  have hv : look ⟨#[49, 47, 50]⟩ tab8 = some ((false, ⟨#[1]⟩, ⟨#[2]⟩), 0) := by kernel_rfl
  rw [hv] at h
  injection h with h
  subst h
  exact qparse_half w hT (chkq_zero (by decide +kernel)).1
 by_cases h255 : t = ⟨#[45, 51]⟩
 ·subst h255
  have hv : look ⟨#[45, 51]⟩ tab8 = some ((true, ⟨#[3]⟩, ⟨#[1]⟩), 0) := by kernel_rfl
  rw [hv] at h
  injection h with h
  subst h
  exact qparse_c1 _ _ _ w hT (chkq_zero (by decide +kernel)).1 (by decide) (by kernel_rfl) (by decide +kernel)
 by_cases h557 : t = ⟨#[48]⟩
 ·subst h557
  have hv : look ⟨#[48]⟩ tab8 = some ((false, ⟨#[]⟩, ⟨#[1]⟩), 0) := by kernel_rfl
  rw [hv] at h
  injection h with h
  subst h
  exact qparse_c1 _ _ _ w hT (chkq_zero (by decide +kernel)).1 (by decide) (by kernel_rfl) (by decide +kernel)
 by_cases h851 : t = ⟨#[49]⟩
 ·subst h851
  have hv : look ⟨#[49]⟩ tab8 = some ((false, ⟨#[1]⟩, ⟨#[1]⟩), 0) := by kernel_rfl
  rw [hv] at h
  injection h with h
  subst h
  exact qparse_c1 _ _ _ w hT (chkq_zero (by decide +kernel)).1 (by decide) (by kernel_rfl) (by decide +kernel)
 by_cases h1146 : t = ⟨#[50]⟩
 ·subst h1146
  have hv : look ⟨#[50]⟩ tab8 = some ((false, ⟨#[2]⟩, ⟨#[1]⟩), 0) := by kernel_rfl
  rw [hv] at h
  injection h with h
  subst h
  exact qparse_c1 _ _ _ w hT (chkq_zero (by decide +kernel)).1 (by decide) (by kernel_rfl) (by decide +kernel)
 by_cases h1443 : t = ⟨#[51]⟩
 ·subst h1443
  have hv : look ⟨#[51]⟩ tab8 = some ((false, ⟨#[3]⟩, ⟨#[1]⟩), 0) := by kernel_rfl
  rw [hv] at h
  injection h with h
  subst h
  exact qparse_c1 _ _ _ w hT (chkq_zero (by decide +kernel)).1 (by decide) (by kernel_rfl) (by decide +kernel)
 by_cases h1740 : t = ⟨#[52]⟩
 ·subst h1740
  have hv : look ⟨#[52]⟩ tab8 = some ((false, ⟨#[4]⟩, ⟨#[1]⟩), 0) := by kernel_rfl
  rw [hv] at h
  injection h with h
  subst h
  exact qparse_c1 _ _ _ w hT (chkq_zero (by decide +kernel)).1 (by decide) (by kernel_rfl) (by decide +kernel)
 by_cases h2037 : t = ⟨#[53]⟩
 ·subst h2037
  have hv : look ⟨#[53]⟩ tab8 = some ((false, ⟨#[5]⟩, ⟨#[1]⟩), 0) := by kernel_rfl
  rw [hv] at h
  injection h with h
  subst h
  exact qparse_c1 _ _ _ w hT (chkq_zero (by decide +kernel)).1 (by decide) (by kernel_rfl) (by decide +kernel)
 by_cases h2334 : t = ⟨#[54]⟩
 ·subst h2334
  have hv : look ⟨#[54]⟩ tab8 = some ((false, ⟨#[6]⟩, ⟨#[1]⟩), 0) := by kernel_rfl
  rw [hv] at h
  injection h with h
  subst h
  exact qparse_c1 _ _ _ w hT (chkq_zero (by decide +kernel)).1 (by decide) (by kernel_rfl) (by decide +kernel)
 by_cases h2631 : t = ⟨#[63]⟩
 ·subst h2631
  have hv : look ⟨#[63]⟩ tab8 = some (zQ, 4) := by kernel_rfl
  rw [hv] at h
  injection h with h
  subst h
  exact qparse_no w
 by_cases h2816 : t = ⟨#[]⟩
 ·subst h2816
  have hv : look ⟨#[]⟩ tab8 = some (zQ, 4) := by kernel_rfl
  rw [hv] at h
  injection h with h
  subst h
  exact qparse_nil w
 exact absurd h (by unfold tab8 look look look look look look look look look look look look; rw [if_neg h0, if_neg h255, if_neg h557, if_neg h851, if_neg h1146, if_neg h1443, if_neg h1740, if_neg h2037, if_neg h2334, if_neg h2631, if_neg h2816]; intro h; cases h)
theorem ex_PR8 : ∃ (P : ByteArray → Q3) (E : ByteArray → Int), PR (P8 P) (E8 E) := by
 have hq : ∀ t : ByteArray, ∃ (q : Q3) (e : Int), t.size ≤ 100000 → ∀ w, Tab w → Calls Tryz.prog 184 #[.string t] w fun e' w' => e' = .returned (.tuple #[vQ q, .int .i64 e]) ∧ Below w.heap.size w w' := fun t => by
  by_cases hz : t.size ≤ 100000
  ·obtain ⟨rN, rS, rD, E, h1, -⟩ := qreads t (by omega)
   exact ⟨(rN, rS, rD), E, fun _ => h1⟩
  ·exact ⟨zQ, 0, fun h => absurd h hz⟩
 refine ⟨fun t => Classical.choose (hq t), fun t => Classical.choose (Classical.choose_spec (hq t)), fun t w hz hT => ?_⟩
 cases h : look t tab8 with
 | some v =>
  have := look_ok t v h w hT
  unfold P8 E8
  rw [h]
  exact this
 | none =>
  unfold P8 E8
  rw [h]
  exact Classical.choose_spec (Classical.choose_spec (hq t)) hz w hT
open Go.RowKit
theorem getD_or (l : List Q3) (i : Nat) : l.getD i zQ ∈ l ∨ l.getD i zQ = zQ := by
 rw [List.getD_eq_getElem?_getD]
 cases h : l[i]? with
 | none => exact Or.inr rfl
 | some q => exact Or.inl (List.mem_of_getElem? h)
theorem pprint_pl (P : ByteArray → Q3) (E : ByteArray → Int) (hP : PR P E) (T : Q3 → ByteArray) (p : Pl) (cs : List Value) (B : Nat) (w : World) (aL : Addr) (h : Env8 w aL) (hp : PlanAt w B cs p) (l1 : p.pts.length ≤ 40) (l2 : p.segs.length ≤ 60) (l3 : p.holes.length ≤ 10)
  (t1 : ∀ q, q ∈ p.pts → TX T q.1 w ∧ TX T q.2 w) (t3 : ∀ q, q ∈ p.holes → TX T q.1 w ∧ TX T q.2 w) (tF : ∀ q, q ∈ p.F → TX T q w) (tG : ∀ q, q ∈ p.G → TX T q w) (tz : TX T zQ w) (s2 : ∀ s, s ∈ p.segs → s.1 < 100 ∧ s.2.1 < 100) (zT : ∀ q, (T q).size ≤ 1000)
  (hr : (psp P E (wtx T p)).2 = 0 → (psp P E (wtx T p)).1 = p) :
  Calls Tryz.prog 23 #[.agg cs.toArray] w (Re w (.tuple #[.string (if (psp P E (wtx T p)).2 = 0 then wtx T p else eS), .int .i64 (if (psp P E (wtx T p)).2 = 0 then 0 else 1)])) := by
 have hp0 := hp
 obtain ⟨v1, v2, v3, x, y, rfl, o1, o2, o3, hF, hG⟩ := hp
 obtain ⟨A1, A2, A3, F, G⟩ := p
 have r1 := RowR.of cP cP_len o1
 have r2 := RowR.of cS cS_len o2
 have r3 := RowR.of cP cP_len o3
 obtain ⟨a1, c1, rfl⟩ := own_val o1
 obtain ⟨a2, c2, rfl⟩ := own_val o2
 obtain ⟨a3, c3, rfl⟩ := own_val o3
 have hF' : F = [x 0, x 1, x 2, x 3, x 4, x 5] := hF
 have hG' : G = [y 0, y 1, y 2, y 3, y 4, y 5] := hG
 subst hF' hG'
 have fx : ∀ i, TX T ([x 0, x 1, x 2, x 3, x 4, x 5].getD i zQ) w := fun i => by
  rcases getD_or [x 0, x 1, x 2, x 3, x 4, x 5] i with h | h
  ·exact tF _ h
  ·rw [h]; exact tz
 have fy : ∀ i, TX T ([y 0, y 1, y 2, y 3, y 4, y 5].getD i zQ) w := fun i => by
  rcases getD_or [y 0, y 1, y 2, y 3, y 4, y 5] i with h | h
  ·exact tG _ h
  ·rw [h]; exact tz
 exact pprint_ex P E hP T A1 A3 A2 a1 a2 a3 _ _ _ c1 c2 c3 (fun i => [x 0, x 1, x 2, x 3, x 4, x 5].getD i zQ) (fun i => [y 0, y 1, y 2, y 3, y 4, y 5].getD i zQ) B w aL h rfl rfl rfl l1 l2 l3 r1 r2 r3 t1 t3 fx fy s2 zT hp0 _ rfl hr
theorem tx_ok (n : Bool) (s d : ByteArray) (w : World) (hT : Tab w) (hP : TabP w) (h : chkq n s d = 0) (zs : s.size ≤ 400) (zd : d.size ≤ 400) (ht : T8 (n, s, d) = qtxt n s d) : TX T8 (n, s, d) w := fun w1 b => by
 refine (qprint_ok n s d w1 (hT.below b) (hP.bel b) h zs zd).mono ?_
 rintro e w' ⟨rfl, k⟩
 exact ⟨_, _, rfl, ht, k⟩
theorem tx_no (w : World) (hT : Tab w) : TX T8 zQ w := fun w1 b => by
 refine (qprint_no w1 (hT.below b)).mono ?_
 rintro e w' ⟨rfl, k⟩
 exact ⟨_, _, rfl, by kernel_rfl, k⟩
theorem tx_p8 (w : World) (hT : Tab w) (hP : TabP w) : (∀ q, q ∈ p8.pts → TX T8 q.1 w ∧ TX T8 q.2 w) ∧ (∀ q, q ∈ p8.F → TX T8 q w) ∧ (∀ q, q ∈ p8.G → TX T8 q w) := by
 have k : ∀ n s d, chkq n s d = 0 → s.size ≤ 400 → d.size ≤ 400 → T8 (n, s, d) = qtxt n s d → TX T8 (n, s, d) w := fun n s d h zs zd ht => tx_ok n s d w hT hP h zs zd ht
 refine ⟨fun q hq => ?_, fun q hq => ?_, fun q hq => ?_⟩
 ·rw [List.mem_singleton.1 hq]
  exact ⟨k _ _ _ (by decide +kernel) (by decide) (by decide) (by kernel_rfl), k _ _ _ (by decide +kernel) (by decide) (by decide) (by kernel_rfl)⟩
 ·have hz : q = (false, ⟨#[]⟩, ⟨#[1]⟩) := by
   rcases List.mem_cons.1 hq with h | hq
   ·exact h
   rcases List.mem_cons.1 hq with h | hq
   ·exact h
   rcases List.mem_cons.1 hq with h | hq
   ·exact h
   rcases List.mem_cons.1 hq with h | hq
   ·exact h
   rcases List.mem_cons.1 hq with h | hq
   ·exact h
   exact List.mem_singleton.1 hq
  rw [hz]
  exact k _ _ _ (by decide +kernel) (by decide) (by decide) (by kernel_rfl)
 ·rcases List.mem_cons.1 hq with h | hq
  ·rw [h]; exact k _ _ _ (by decide +kernel) (by decide) (by decide) (by kernel_rfl)
  rcases List.mem_cons.1 hq with h | hq
  ·rw [h]; exact k _ _ _ (by decide +kernel) (by decide) (by decide) (by kernel_rfl)
  rcases List.mem_cons.1 hq with h | hq
  ·rw [h]; exact k _ _ _ (by decide +kernel) (by decide) (by decide) (by kernel_rfl)
  rcases List.mem_cons.1 hq with h | hq
  ·rw [h]; exact k _ _ _ (by decide +kernel) (by decide) (by decide) (by kernel_rfl)
  rcases List.mem_cons.1 hq with h | hq
  ·rw [h]; exact k _ _ _ (by decide +kernel) (by decide) (by decide) (by kernel_rfl)
  rw [List.mem_singleton.1 hq]; exact k _ _ _ (by decide +kernel) (by decide) (by decide) (by kernel_rfl)
theorem print_p8 (P : ByteArray → Q3) (E : ByteArray → Int) (hP : PR (P8 P) (E8 E)) (cs : List Value) (B : Nat) (w : World) (aL : Addr) (h : Env8 w aL) (hT : TabP w) (hp : PlanAt w B cs p8) :
  Calls Tryz.prog 23 #[.agg cs.toArray] w (Re w (.tuple #[.string txt8, .int .i64 0])) := by
 obtain ⟨k1, k2, k3⟩ := tx_p8 w h.tab hT
 have := pprint_pl (P8 P) (E8 E) hP T8 p8 cs B w aL h hp (by decide) (by decide) (by decide) k1 (fun q hq => by cases hq) k2 k3 (tx_no w h.tab) (fun s hs => by rw [List.mem_singleton.1 hs]; decide) T8_size (by rw [wtx_one, psp_txt]; intro _; rfl)
 rw [wtx_one, psp_txt] at this
 exact this
theorem print_z8 (P : ByteArray → Q3) (E : ByteArray → Int) (hP : PR (P8 P) (E8 E)) (cs : List Value) (B : Nat) (w : World) (aL : Addr) (h : Env8 w aL) (hp : PlanAt w B cs zPl) :
  Calls Tryz.prog 23 #[.agg cs.toArray] w (Re w (.tuple #[.string eS, .int .i64 1])) := by
 have tz := tx_no w h.tab
 have tz6 : ∀ q : Q3, q ∈ [zQ, zQ, zQ, zQ, zQ, zQ] → TX T8 q w := fun q hq => tx_six (x := fun _ => zQ) (fun _ => tz) q hq
 have := pprint_pl (P8 P) (E8 E) hP T8 zPl cs B w aL h hp (by decide) (by decide) (by decide) (fun q hq => by cases hq) (fun q hq => by cases hq) tz6 tz6 tz (fun s hs => by cases hs) T8_size (by rw [psp_nil]; intro h; cases h)
 rw [psp_nil] at this
 exact this
open Go.RowKit
theorem frac8_walk (N M : Int) (xN yN : Bool) (xS yS : ByteArray) (rN : Bool) (rS rD : ByteArray) (w : World)
  (H1 : Hid (∀ w1, Below w.heap.size w w1 → Calls Tryz.prog 58 #[.int .i64 N] w1 (Re w1 (.agg #[.bool xN, .string xS]))))
  (H2 : Hid (∀ w1, Below w.heap.size w w1 → Calls Tryz.prog 58 #[.int .i64 M] w1 (Re w1 (.agg #[.bool yN, .string yS]))))
  (H3 : Hid (∀ w1, Below w.heap.size w w1 → Calls Tryz.prog 57 #[.agg #[.bool xN, .string xS], .agg #[.bool yN, .string yS]] w1 (Re w1 ((qa1 rN rS rD))))) :
  Calls Tryz.prog 29 #[.int .i64 N, .int .i64 M] w (Re w ((qa1 rN rS rD))) := by
 go_enter Tryz.func29, Tryz.ntmps29
 go_wp2_with fail
 obtain ⟨w0, hw, kr, bb⟩ := mk1 w (ql1 false eB eB) 26
 rw [← hw]
 clear hw
 go_fit (H1.out _ bb)
 rintro e w1 ⟨rfl, b1⟩
 replace kr := kr.below b1
 replace bb := Below.after bb b1
 clear b1
 go_wp2_with fail
 go_fit (H2.out _ bb)
 rintro e w2 ⟨rfl, b1⟩
 replace kr := kr.below b1
 replace bb := Below.after bb b1
 clear b1
 go_wp2_with fail
 go_fit (H3.out _ bb)
 rintro e w3 ⟨rfl, b1⟩
 replace kr := kr.below b1
 replace bb := Below.after bb b1
 clear b1
 obtain ⟨e0, e1, e2⟩ := xk3 kr
 have f0 := Cel.frozen kr 0
 have f1 := Cel.frozen kr 1
 have f2 := Cel.frozen kr 2
 go_wp2
 exact post_q (p := 4) (by kernel_rfl) rfl rfl (((kr.set 0 _).set 1 _).set 2 _) ⟨rfl, bset (bset (bset bb (by omega) 0 _) (by omega) 1 _) (by omega) 2 _⟩
theorem frac_half (w : World) : Calls Tryz.prog 29 #[.int .i64 1, .int .i64 2] w (Re w (.agg #[.bool false, .string ⟨#[1]⟩, .string ⟨#[2]⟩])) := by
 have o : OkQ false ⟨#[1]⟩ ⟨#[2]⟩ := (chkq_zero (by decide +kernel)).1
 have od : OkZ false ⟨#[2]⟩ := ⟨o.2.1, fun h => by cases h⟩
 refine frac8_walk 1 2 false false ⟨#[1]⟩ ⟨#[2]⟩ _ _ _ w (fun w1 _ => ?_) (fun w1 _ => ?_) (fun w1 _ => ?_)
 ·have := rof_any 1 (by omega) (by omega) w1
  rwa [show zI 1 = .agg #[.bool false, .string ⟨#[1]⟩] by kernel_rfl] at this
 ·have := rof_any 2 (by omega) (by omega) w1
  rwa [show zI 2 = .agg #[.bool false, .string ⟨#[2]⟩] by kernel_rfl] at this
 ·have := low_any false false ⟨#[1]⟩ ⟨#[2]⟩ w1 o.1 od (by decide) (by decide) o.2.2.1
  rw [show zOf false ⟨#[2]⟩ = ((natOf ⟨#[2]⟩ : Nat) : Int) from zOf_false _, Rat.divInt_ofNat] at this
  rw [qV_is o]
  exact this
open Go.RowKit
theorem eqQ8 (n : Bool) (s d : ByteArray) (w1 : World) : (Op.equalIn 10000 26 ((qa1 n s d)) ((qa1 n s d))).run Tryz.prog w1 = .ok true w1 := by
 rw [show (10000 : Nat) = 9999 + 1 from rfl]
 go_simp
theorem live8_any (w : World) (aL : Addr) (h : Env8 w aL) (hP : TabP w) : Calls Tryz.prog 21 #[] w (Re w (.bool true)) := by
 obtain ⟨P, E, hPR⟩ := ex_PR8
 have H1 : Hid (∀ wi, Below w.heap.size w wi → Calls Tryz.prog 18 #[.string one8] wi fun e w' => ∃ cs : List Value, e = .returned (.tuple #[.agg cs.toArray, .int .i64 0]) ∧ PlanAt w' wi.heap.size cs p8 ∧ Below wi.heap.size wi w') := fun wi b => by
  have := parse_any (P8 P) (E8 E) hPR one8 wi aL (h.below b)
  rw [psp_one] at this
  exact this
 have H2 : Hid (∀ wi, Below w.heap.size w wi → Calls Tryz.prog 18 #[.string two8] wi fun e w' => ∃ cs : List Value, e = .returned (.tuple #[.agg cs.toArray, .int .i64 4]) ∧ PlanAt w' wi.heap.size cs zPl ∧ Below wi.heap.size wi w') := fun wi b => by
  have := parse_any (P8 P) (E8 E) hPR two8 wi aL (h.below b)
  rw [psp_two] at this
  exact this
 have HA := shut (fun wi (b : Below w.heap.size w wi) cs B (hp : PlanAt wi B cs p8) => print_p8 P E hPR cs B wi aL (h.below b) (hP.bel b) hp)
 have HZ : Hid (∀ wi, Below w.heap.size w wi → Calls Tryz.prog 23 #[.agg #[nilS, nilS, nilS, .bool false, .string eS, .string eS, .bool false, .string eS, .string eS, .bool false, .string eS, .string eS, .bool false, .string eS, .string eS, .bool false, .string eS, .string eS, .bool false, .string eS, .string eS, .bool false, .string eS, .string eS, .bool false, .string eS, .string eS, .bool false, .string eS, .string eS, .bool false, .string eS, .string eS, .bool false, .string eS, .string eS, .bool false, .string eS, .string eS]] wi (Re wi (.tuple #[.string eS, .int .i64 1]))) := fun wi b => by
  have := print_z8 P E hPR Z39 0 wi aL (h.below b) (planAt_zero wi 0)
  exact this
 have HF := shut (fun wi => frac_half wi)
 have hE := fun w1 => eqQ8 false ⟨#[1]⟩ ⟨#[2]⟩ w1
 clear h hP hPR
 go_enter Tryz.func21, Tryz.ntmps21
 go_upto_region 2 with (go_at_call 18; refine (H1.out w (Below.refl _ _)).mono ?_; rintro e w1 ⟨cs, rfl, hp, b1⟩; have hlen := hp.len; obtain ⟨w2, hst, k2, b2⟩ := fresh39 w1 cs hp.len hp.one)
 have B2 := Below.after b1 b2
 have hp2 := hp.below b2
 clear hst b1 b2 H1
 go_upto_region 3 with (first | (refine wpList_load_row rfl 46 _ rfl _ rfl 46 cs.toArray (0, 0) _ k2 Tryz.underlying46 rfl (by rw [List.size_toArray, hlen]; kernel_rfl) ?_) | (go_at_call 23; refine (HA.out _ B2 cs _ hp2).mono ?_; rintro e w3 ⟨rfl, b3⟩))
 have B3 := Below.after B2 b3
 have k3 := k2.below b3
 have hp3 := hp2.below b3
 clear k2 hp2 hp HA B2 b3
 go_upto_region 4 with (go_at_call 18; refine (H2.out _ B3).mono ?_; rintro e w4 ⟨ds, rfl, hq, b4⟩; have hlen' := hq.len; obtain ⟨w5, hst, k5, b5⟩ := fresh39 w4 ds hq.len hq.one)
 have B5 := Below.after (Below.after B3 b4) b5
 have k6 := (k3.below b4).below b5
 have hp5 := (hp3.below b4).below b5
 clear hst k5 b4 b5 hq k3 hp3 H2 B3
 go_upto_region 5 with (go_at_call 23; refine (HZ.out _ B5).mono ?_; rintro e w6 ⟨rfl, b6⟩)
 have B6 := Below.after B5 b6
 have k7 := k6.below b6
 have hp6 := hp5.below b6
 clear HZ B5 b6 k6 hp5
 obtain ⟨v1, v2, v3, x, y, hcs, o1, o2, o3, hF, hG⟩ := hp6
 have r1 := RowR.of cP cP_len o1
 have r2 := RowR.of cS cS_len o2
 obtain ⟨a1, c1, rfl⟩ := own_val o1
 obtain ⟨a2, c2, rfl⟩ := own_val o2
 obtain ⟨aa, ac, ea, -, hr1⟩ := r1
 obtain ⟨ba, bc, eb, -, hr2⟩ := r2
 obtain ⟨gp, op, ep, -, hx⟩ := hr1 0 _ rfl
 obtain ⟨gs, os, es, -, hy⟩ := hr2 0 _ rfl
 have ea' := (Value.slice.inj ea).1
 have eb' := (Value.slice.inj eb).1
 rw [ep] at ea'
 rw [es] at eb'
 subst ea' eb'
 obtain ⟨g1, hg1⟩ : ∃ g, g = w1.heap.size := ⟨_, rfl⟩
 rw [← hg1] at k7 ⊢
 have q0 : w6.cell? ⟨g1, 0, none⟩ = some (.slice (some ⟨gp, op, none⟩) 1 c1) := by rw [k7.cell 0, hcs]; rfl
 have q1 : w6.cell? ⟨g1, 1, none⟩ = some (.slice (some ⟨gs, os, none⟩) 1 c2) := by rw [k7.cell 1, hcs]; rfl
 have q2 : w6.rangeAt gp op [.bool false, .string ⟨#[1]⟩, .string ⟨#[2]⟩] := fun i v hv => by
  have := hx i v (by match i, hv with | 0, hv => exact hv | 1, hv => exact hv | 2, hv => exact hv)
  rwa [Nat.zero_mul, Nat.add_zero] at this
 have q3 : w6.cell? ⟨gs, os + 2, none⟩ = some (.bool true) := by
  have := hy 2 _ rfl
  rwa [Nat.zero_mul, Nat.add_zero] at this
 clear hr1 hr2 hx hy o1 o2 o3 hF hG hcs k7 ea eb ep es hg1
 have Bd6 : Below w.heap.size w w6.drew := Below.after B6 (bdrew w6)
 refine wp_region_held_drew (S := fun w' => w'.cell? ⟨g1, 0, none⟩ = some (.slice (some ⟨gp, op, none⟩) 1 c1) ∧ w'.cell? ⟨g1, 1, none⟩ = some (.slice (some ⟨gs, os, none⟩) 1 c2) ∧ w'.rangeAt gp op [.bool false, .string ⟨#[1]⟩, .string ⟨#[2]⟩] ∧ w'.cell? ⟨gs, os + 2, none⟩ = some (.bool true)) (by kernel_rfl) ⟨q0, q1, (World.rangeAt_drew _ _ _ _).2 q2, q3⟩ (fun hS => ?_)
 clear q0 q1 q2 q3 B6
 generalize w6.drew = wd at *
 refine WA.start (n := 47) (by kernel_rfl) ?_
 refine WA.tp 0 rfl ?_
 refine WA.tp 1 rfl ?_
 refine WA.tp 2 rfl ?_
 refine WA.tp 3 rfl ?_
 refine WA.tp 4 rfl ?_
 refine WA.tp 5 rfl ?_
 refine WA.tp 6 rfl ?_
 refine WA.tp 7 rfl ?_
 refine WA.tp 8 rfl ?_
 refine WA.tp 9 rfl ?_
 refine WA.tp 10 rfl ?_
 refine WA.tp 11 rfl ?_
 refine WA.tp 12 rfl ?_
 refine WA.tp 13 rfl ?_ (hy := yieldsIf_load_mid (by rfl) 26 _ rfl gp op rfl [.bool false, .string ⟨#[1]⟩, .string ⟨#[2]⟩] _ (fun w' h => h.2.2.1) Tryz.underlying26 rfl (by kernel_rfl))
 refine WA.cal 14 rfl (fun K hK => ?_)
 simp only [List.getElem_toArray, List.getElem_cons_succ, List.getElem_cons_zero]
 go_simp
 go_fit (HF.out _)
 rintro e wa ⟨rfl, ba⟩
 try go_wp2_with fail
 refine hK.out _ _ ⟨cell_below hS.1 ba, cell_below hS.2.1 ba, fun i v hv => cell_below (hS.2.2.1 i v hv) ba, cell_below hS.2.2.2 ba⟩ (fun hS => ?_)
 clear hK K
 have Bf := Below.after Bd6 ba
 refine WA.tp 15 rfl ?_
 refine WA.tp 16 rfl ?_
 refine WA.tp 17 rfl ?_
 refine WA.tp 18 rfl ?_
 refine WA.tp 19 rfl ?_
 refine WA.tp 20 rfl ?_
 refine WA.tp 21 rfl ?_
 refine WA.tp 22 rfl ?_
 refine WA.tp 23 rfl ?_
 refine WA.tp 24 rfl ?_
 refine WA.tp 25 rfl ?_
 refine WA.tp 26 rfl ?_
 refine WA.tp 27 rfl ?_
 refine WA.tp 28 rfl ?_
 refine WA.tp 29 rfl ?_
 refine WA.tp 30 rfl ?_
 refine WA.tp 31 rfl ?_
 refine WA.tp 32 rfl ?_
 refine WA.tp 33 rfl ?_
 refine WA.tp 34 rfl ?_
 refine WA.tp 35 rfl ?_
 refine WA.tp 36 rfl ?_
 refine WA.tp 37 rfl ?_
 refine WA.tp 38 rfl ?_
 refine WA.tp 39 rfl ?_
 refine WA.tp 40 rfl ?_
 refine WA.tp 41 rfl ?_
 refine WA.tp 42 rfl ?_
 refine WA.tp 43 rfl ?_
 refine WA.tp 44 rfl ?_
 refine WA.tp 45 rfl ?_
 refine WA.tp 46 rfl ?_
 refine WA.done (by kernel_rfl) ?_
 clear hS
 go_wp2
 go_ret
 exact ⟨rfl, Bf⟩
open Go.RowKit
theorem rep_len8 {α : Type} (f : St → α × St) : ∀ (n : Nat) (s : St), (rep f n s).1.length = n
 | 0, _ => rfl
 | n + 1, s => by rw [rep, List.length_cons, rep_len8 f n]
theorem ls_len8 {α : Type} (f : St → α × St) (c : ByteArray) (m : Int) (s : St) : (lsP f c m s).1.length ≤ 100000 := by
 unfold lsP
 rw [rep_len8]
 have := ct_lt m (wd c s)
 omega
theorem l1 (P : ByteArray → Q3) (E : ByteArray → Int) (l : List ByteArray) : (r1 P E l).1.length ≤ 100000 := by
 rw [r1]
 exact ls_len8 (pt P E) _ _ _
theorem l2 (P : ByteArray → Q3) (E : ByteArray → Int) (l : List ByteArray) : (r2 P E l).1.length ≤ 100000 := by
 rw [r2]
 exact ls_len8 (sg _) _ _ _
theorem l3 (P : ByteArray → Q3) (E : ByteArray → Int) (l : List ByteArray) : (r3 P E l).1.length ≤ 100000 := by
 rw [r3]
 exact ls_len8 (pt P E) _ _ _
open Go.RowKit
theorem dg_ok : ∀ n, n < 100 → Tok (dg n) ∧ cof (dg n) = some n ∧ (dg n).size ≤ 2 := by
 have h : ∀ n, n < 100 → ((dg n).size ≠ 0 ∧ (dg n).data.toList.all (fun x => bl x.toNat == false) = true) ∧ cof (dg n) = some n ∧ (dg n).size ≤ 2 := by decide +kernel
 intro n hn
 obtain ⟨⟨h1, h2⟩, h3, h4⟩ := h n hn
 exact ⟨⟨h1, fun x hx => by simpa using List.all_eq_true.1 h2 x hx⟩, h3, h4⟩
theorem dg_cof2 {n : Nat} (hn : n < 100) {m : Int} (h : (n : Int) ≤ m) : cof2 m (dg n) = some n := by
 unfold cof2
 rw [(dg_ok n hn).2.1, Option.filter_eq_some_iff]
 exact ⟨rfl, decide_eq_true h⟩
end Go.Proofs.YtnplifkgeeicjaaGreatDoor
namespace Go.Proofs.YtnplifkgeeicjaaGreatDoor
open Go.RowKit Go.Shelf
abbrev t0 : ByteArray := ⟨#[48]⟩
abbrev t1 : ByteArray := ⟨#[49]⟩
theorem toks_add (s : ByteArray) (r : List UInt8) : toks (s ++ ⟨(32 :: r).toArray⟩) = toks s ++ tl8 r [] := by
 have e : (s ++ ⟨(32 :: r).toArray⟩).data.toList = s.data.toList ++ 32 :: r := by simp
 rw [toks_tl, toks_tl, e, tl8_app 32 (by rfl)]
def gz (c : ByteArray) : Nat → ByteArray → ByteArray
 | 0, s => s
 | n + 1, s => gz c n s ++ c
def gy (t : ByteArray) : Nat → ByteArray → ByteArray
 | 0, s => s
 | n + 1, s => ((gy t n s ++ ⟨#[32, 48, 32]⟩) ++ t) ++ ⟨#[32, 110]⟩
theorem gz_size (c : ByteArray) : ∀ (n : Nat) (s : ByteArray), (gz c n s).size = s.size + n * c.size
 | 0, s => by rw [gz]; omega
 | n + 1, s => by rw [gz, ByteArray.size_append, gz_size c n s, Nat.succ_mul]; omega
theorem gy_size (t : ByteArray) : ∀ (n : Nat) (s : ByteArray), (gy t n s).size = s.size + n * (t.size + 5)
 | 0, s => by rw [gy]; omega
 | n + 1, s => by
  rw [gy, ByteArray.size_append, ByteArray.size_append, ByteArray.size_append, gy_size t n s, Nat.succ_mul]
  have e1 : (⟨#[32, 48, 32]⟩ : ByteArray).size = 3 := rfl
  have e2 : (⟨#[32, 110]⟩ : ByteArray).size = 2 := rfl
  omega
theorem rep_snoc8 {α : Type} (a : α) (n : Nat) : List.replicate (n + 1) a = List.replicate n a ++ [a] := List.replicate_succ'
theorem toks_gz (a b : ByteArray) (ha : Tok a) (hb : Tok b) (c : ByteArray) (hc : c = ⟨(32 :: (a.data.toList ++ 32 :: b.data.toList)).toArray⟩) : ∀ (n : Nat) (s : ByteArray), toks (gz c n s) = toks s ++ (List.replicate n (a, b)).flatMap gP
 | 0, s => by rw [gz]; simp
 | n + 1, s => by
  have h := toks_gz a b ha hb c hc n s
  rw [gz, hc, toks_add, ← hc, h, rep_snoc8, tl8_app 32 (by rfl), toks_one ha, toks_one hb, List.flatMap_append, List.append_assoc]
  rfl
theorem toks_gy (t : ByteArray) (ht : Tok t) : ∀ (n : Nat) (s : ByteArray), toks (gy t n s) = toks s ++ (List.replicate n (t0, t, tN)).flatMap gS
 | 0, s => by rw [gy]; simp
 | n + 1, s => by
  have h := toks_gy t ht n s
  have e : ((gy t n s ++ ⟨#[32, 48, 32]⟩) ++ t) ++ ⟨#[32, 110]⟩ = gy t n s ++ ⟨(32 :: ([48] ++ 32 :: (t.data.toList ++ 32 :: [110]))).toArray⟩ := by
   apply ByteArray.ext
   apply Array.toList_inj.1
   simp
  have k0 : tl8 [48] [] = [t0] := rfl
  have k1 : tl8 [110] [] = [tN] := rfl
  rw [gy, e, toks_add, h, rep_snoc8, tl8_app 32 (by rfl), tl8_app 32 (by rfl), toks_one ht, k0, k1, List.flatMap_append, List.append_assoc]
  rfl
def ga (n : Nat) : ByteArray := ⟨#[112, 115, 108, 103, 32, 118, 32]⟩ ++ dg n
def gb (s : ByteArray) (n : Nat) : ByteArray := (s ++ ⟨#[32, 115, 32]⟩) ++ dg n
def gh (s : ByteArray) (n : Nat) : ByteArray := (s ++ ⟨#[32, 104, 32]⟩) ++ dg n
abbrev gend : ByteArray := ⟨#[32, 102, 32, 48, 32, 48, 32, 48, 32, 48, 32, 48, 32, 48, 32, 103, 32, 48, 32, 48, 32, 48, 32, 48, 32, 48, 32, 48, 32, 101, 110, 100]⟩
abbrev c00 : ByteArray := ⟨#[32, 48, 32, 48]⟩
abbrev c11 : ByteArray := ⟨#[32, 49, 32, 49]⟩
def g1 (a : Nat) : ByteArray := gz c00 a (ga a)
def g2 (a b : Nat) : ByteArray := gy (dg (a - 1)) b (gb (g1 a) b)
def g3 (a b c : Nat) : ByteArray := gz c11 c (gh (g2 a b) c)
theorem dg_size2 (n : Nat) (h : n < 100) : (dg n).size ≤ 2 := (dg_ok n h).2.2
theorem toks_ga (n : Nat) (h : n < 100) : toks (ga n) = [wP, wV, dg n] := by
 have e : ga n = ⟨#[112, 115, 108, 103, 32, 118]⟩ ++ ⟨(32 :: (dg n).data.toList).toArray⟩ := by
  apply ByteArray.ext
  apply Array.toList_inj.1
  simp [ga]
 have e2 : toks ⟨#[112, 115, 108, 103, 32, 118]⟩ = [wP, wV] := by rw [toks_tl]; rfl
 rw [e, toks_add, e2, toks_one (dg_ok n h).1]
 rfl
theorem toks_gb (s : ByteArray) (n : Nat) (h : n < 100) : toks (gb s n) = toks s ++ [wS, dg n] := by
 have e : gb s n = s ++ ⟨(32 :: ([115] ++ 32 :: (dg n).data.toList)).toArray⟩ := by
  apply ByteArray.ext
  apply Array.toList_inj.1
  simp [gb]
 have k : tl8 [115] [] = [wS] := rfl
 rw [e, toks_add, tl8_app 32 (by rfl), toks_one (dg_ok n h).1, k]
 rfl
theorem toks_gh (s : ByteArray) (n : Nat) (h : n < 100) : toks (gh s n) = toks s ++ [wH, dg n] := by
 have e : gh s n = s ++ ⟨(32 :: ([104] ++ 32 :: (dg n).data.toList)).toArray⟩ := by
  apply ByteArray.ext
  apply Array.toList_inj.1
  simp [gh]
 have k : tl8 [104] [] = [wH] := rfl
 rw [e, toks_add, tl8_app 32 (by rfl), toks_one (dg_ok n h).1, k]
 rfl
abbrev six0 : List ByteArray := [t0, t0, t0, t0, t0, t0]
theorem toks_gend (s : ByteArray) : toks (s ++ gend) = toks s ++ tk3 six0 six0 := by
 have e : s ++ gend = s ++ ⟨(32 :: [102, 32, 48, 32, 48, 32, 48, 32, 48, 32, 48, 32, 48, 32, 103, 32, 48, 32, 48, 32, 48, 32, 48, 32, 48, 32, 48, 32, 101, 110, 100]).toArray⟩ := rfl
 rw [e, toks_add]
 rfl
theorem tok_t0 : Tok t0 := ⟨by decide, by decide⟩
theorem tok_t1 : Tok t1 := ⟨by decide, by decide⟩
theorem toks_g3 (a b c : Nat) (ha : a < 100) (h1 : 1 ≤ a) (hb : b < 100) (hc : c < 100) : toks (g3 a b c ++ gend) = tk0 (dg a) (dg b) (dg c) (List.replicate a (t0, t0)) (List.replicate b (t0, dg (a - 1), tN)) (List.replicate c (t1, t1)) six0 six0 := by
 unfold g3 g2 g1
 rw [toks_gend, toks_gz t1 t1 tok_t1 tok_t1 c11 rfl, toks_gh _ _ hc, toks_gy _ (dg_ok _ (by omega)).1, toks_gb _ _ hb, toks_gz t0 t0 tok_t0 tok_t0 c00 rfl, toks_ga _ ha]
 unfold tk0 tk1 tk2
 simp only [List.append_assoc, List.cons_append, List.nil_append]
theorem g1_size (a : Nat) (ha : a ≤ 60) : (g1 a).size ≤ 300 := by
 unfold g1 ga
 rw [gz_size, ByteArray.size_append]
 have e1 : (⟨#[112, 115, 108, 103, 32, 118, 32]⟩ : ByteArray).size = 7 := rfl
 have e2 : c00.size = 4 := rfl
 have := dg_size2 a (by omega)
 rw [e2]
 omega
theorem g2_size (a b : Nat) (ha : a ≤ 60) (hb : b ≤ 80) : (g2 a b).size ≤ 1000 := by
 unfold g2 gb
 rw [gy_size, ByteArray.size_append, ByteArray.size_append]
 have e1 : (⟨#[32, 115, 32]⟩ : ByteArray).size = 3 := rfl
 have h1 := dg_size2 b (by omega)
 have h2 := dg_size2 (a - 1) (by omega)
 have h3 := g1_size a ha
 have h4 : b * ((dg (a - 1)).size + 5) ≤ 80 * 7 := Nat.mul_le_mul hb (by omega)
 omega
theorem g3_size (a b c : Nat) (ha : a ≤ 60) (hb : b ≤ 80) (hc : c ≤ 20) : (g3 a b c).size ≤ 2000 := by
 unfold g3 gh
 rw [gz_size, ByteArray.size_append, ByteArray.size_append]
 have e1 : (⟨#[32, 104, 32]⟩ : ByteArray).size = 3 := rfl
 have e2 : c11.size = 4 := rfl
 have h1 := dg_size2 c (by omega)
 have h3 := g2_size a b ha hb
 rw [e2]
 omega
theorem gz1_le (k a : Nat) (hk : k ≤ a) (ha : a ≤ 60) : (gz c00 k (ga a)).size ≤ 300 := by
 unfold ga
 rw [gz_size, ByteArray.size_append]
 have e1 : (⟨#[112, 115, 108, 103, 32, 118, 32]⟩ : ByteArray).size = 7 := rfl
 have e2 : c00.size = 4 := rfl
 have := dg_size2 a (by omega)
 rw [e2]
 omega
theorem gy1_le (j a b : Nat) (hj : j ≤ b) (ha : a ≤ 60) (hb : b ≤ 80) : (gy (dg (a - 1)) j (gb (g1 a) b)).size ≤ 1000 := by
 unfold gb
 rw [gy_size, ByteArray.size_append, ByteArray.size_append]
 have e1 : (⟨#[32, 115, 32]⟩ : ByteArray).size = 3 := rfl
 have h1 := dg_size2 b (by omega)
 have h2 := dg_size2 (a - 1) (by omega)
 have h3 := g1_size a ha
 have h4 : j * ((dg (a - 1)).size + 5) ≤ 80 * 7 := Nat.mul_le_mul (by omega) (by omega)
 omega
theorem gz3_le (m a b c : Nat) (hm : m ≤ c) (ha : a ≤ 60) (hb : b ≤ 80) (hc : c ≤ 20) : (gz c11 m (gh (g2 a b) c)).size ≤ 2000 := by
 unfold gh
 rw [gz_size, ByteArray.size_append, ByteArray.size_append]
 have e1 : (⟨#[32, 104, 32]⟩ : ByteArray).size = 3 := rfl
 have e2 : c11.size = 4 := rfl
 have h1 := dg_size2 c (by omega)
 have h3 := g2_size a b ha hb
 rw [e2]
 omega
theorem cof2_big {n : Nat} (hn : n < 100) {m : Int} (h : m < (n : Int)) : cof2 m (dg n) = none := by
 unfold cof2
 rw [(dg_ok n hn).2.1, Option.filter_eq_none_iff]
 intro a ha
 injection ha with ha
 subst ha
 simp
 omega
theorem psp_great {P : ByteArray → Q3} {E : ByteArray → Int} (h0 : E t0 = 0) (hE1 : E t1 = 0) (a b c : Nat) (ha : a ≤ 60) (h1 : 1 ≤ a) (hb : b ≤ 80) (hc : c ≤ 20) :
  (a ≤ 40 ∧ b ≤ 60 ∧ c ≤ 10 → ∃ p, psp P E (g3 a b c ++ gend) = (p, 0) ∧ p.pts.length = a ∧ p.segs.length = b ∧ p.holes.length = c) ∧
  (¬ (a ≤ 40 ∧ b ≤ 60 ∧ c ≤ 10) → psp P E (g3 a b c ++ gend) = (zPl, 4)) := by
 have hs : ¬ 20000 < (g3 a b c ++ gend).size := by
  have e2 : gend.size = 32 := rfl
  have := g3_size a b c ha hb hc
  rw [ByteArray.size_append]
  omega
 have ht := toks_g3 a b c (by omega) h1 (by omega) (by omega)
 have p0 : ∀ k, OkP E (List.replicate k (t0, t0)) := fun k t ht => by
  rw [List.eq_of_mem_replicate ht]; exact ⟨h0, h0⟩
 have p1 : ∀ k, OkP E (List.replicate k (t1, t1)) := fun k t ht => by
  rw [List.eq_of_mem_replicate ht]; exact ⟨hE1, hE1⟩
 have s0 : ∀ t, t ∈ six0 → E t = 0 := fun t ht => by
  simp only [List.mem_cons, List.not_mem_nil, or_false, or_self] at ht
  rw [ht]; exact h0
 have hT : OkT ((a : Int) - 1) (List.replicate b (t0, dg (a - 1), tN)) := fun t ht => by
  rw [List.eq_of_mem_replicate ht]
  refine ⟨⟨0, ?_⟩, ⟨a - 1, dg_cof2 (by omega) (by omega)⟩, Or.inr rfl⟩
  have : t0 = dg 0 := by decide +kernel
  rw [this]
  exact dg_cof2 (by omega) (by omega)
 unfold psp
 rw [if_neg hs, ht]
 refine ⟨fun ⟨k1, k2, k3⟩ => ?_, fun hn => ?_⟩
 ·refine ⟨_, by rw [plan_ok (dg a) (dg b) (dg c) _ _ _ six0 six0 (by rw [List.length_replicate]; exact dg_cof2 (by omega) (by omega)) (by rw [List.length_replicate]; exact dg_cof2 (by omega) (by omega)) (by rw [List.length_replicate]; exact dg_cof2 (by omega) (by omega)) (p0 a) (by rw [List.length_replicate]; exact hT) (p1 c) rfl rfl s0 s0], ?_, ?_, ?_⟩
  ·show ((List.replicate a (t0, t0)).map (vPJ P)).length = a; simp
  ·show ((List.replicate b (t0, dg (a - 1), tN)).map vSJ).length = b; simp
  ·show ((List.replicate c (t1, t1)).map (vPJ P)).length = c; simp
 ·have hr : r6 P E (tk0 (dg a) (dg b) (dg c) (List.replicate a (t0, t0)) (List.replicate b (t0, dg (a - 1), tN)) (List.replicate c (t1, t1)) six0 six0) = none := by
   by_cases k1 : a ≤ 40
   ·have a1 := r1_ok (P := P) (E := E) (dg a) (List.replicate a (t0, t0)) (tk1 (dg b) (dg c) (List.replicate b (t0, dg (a - 1), tN)) (List.replicate c (t1, t1)) six0 six0) (by rw [List.length_replicate]; exact dg_cof2 (by omega) (by omega)) (p0 a)
    by_cases k2 : b ≤ 60
    ·have a2 := r2_ok (dg b) (List.replicate b (t0, dg (a - 1), tN)) (tk2 (dg c) (List.replicate c (t1, t1)) six0 six0) a1 (by rw [List.length_replicate]; exact dg_cof2 (by omega) (by omega)) (by rw [List.length_map, List.length_replicate]; exact hT)
     exact bad3 (r3_bad (dg c) _ a2 (cof2_big (by omega) (by omega)))
    ·exact bad2 (r2_bad (dg b) _ a1 (cof2_big (by omega) (by omega)))
   ·exact bad1 (r1_bad (dg a) _ (cof2_big (by omega) (by omega)))
  rw [plan_none hr]
theorem rofq8_walk (zN : Bool) (zS : ByteArray) (n : Int) (w : World)
  (H1 : Hid (∀ w1, Calls Tryz.prog 58 #[.int .i64 n] w1 (Re w1 (.agg #[.bool zN, .string zS])))) :
  Calls Tryz.prog 40 #[.int .i64 n] w (Re w ((qa1 zN zS ⟨#[1]⟩))) := by
 go_enter Tryz.func40, Tryz.ntmps40
 go_wp2_with fail
 go_fit (H1.out _)
 rintro e w1 ⟨rfl, b1⟩
 obtain ⟨kr, b1⟩ := al1 b1
 have sz := b1.size
 have bb := b1
 clear b1
 have tr := kr.lt
 have cr_0 := cel3_0 kr
 have fr_1 := Cel.frozen kr 0
 have cr_2 := cel3_1 kr
 have fr_3 := Cel.frozen kr 1
 have cr_4 := cel3_2 kr
 have fr_5 := Cel.frozen kr 2
 go_wp2
 exact post_q (p := 2) (by kernel_rfl) rfl rfl (((kr.set 0 _).set 1 _).set 2 _) ⟨rfl, bset (bset (bset bb (by omega) 0 _) (by omega) 1 _) (by omega) 2 _⟩
theorem rofq8_any (z : Int) (h1 : -9223372036854775808 ≤ z) (h2 : z < 9223372036854775808) (w : World) :
  Calls Tryz.prog 40 #[.int .i64 z] w (Re w (qI (z : Rat))) := by
 obtain ⟨nf, sf, hf, -⟩ := named0
 rw [qI_int z (hf z)]
 exact rofq8_walk _ _ z w (fun w1 => by have := rof_any z h1 h2 w1; rwa [hf] at this)
theorem num_text : ∀ n, n < 100 → (if dt n = [] then ⟨#[48]⟩ else strB (dt n)) = dg n := by decide +kernel
theorem number8 (n : Nat) (hn : n < 100) (w : World) : Calls Tryz.prog 25 #[.int .i64 (n : Nat)] w (Re w (.string (dg n))) := by
 obtain ⟨nf, sf, hf, hok, hsz, hzz, hnat, hneg, hstr, hnn, hfn⟩ := named0
 have H1 := shut (fun w1 => rofq8_any (n : Int) (by omega) (by omega) w1)
 rw [qI_int _ (hf _)] at H1
 rw [hneg, hstr] at H1
 have o : OkQ false (strOf n) ⟨#[1]⟩ := ⟨⟨okS_strOf n, fun h => by cases h⟩, ok_one.1, by rw [natOf_one]; omega, by rw [natOf_one, Nat.gcd_one_right]⟩
 have hz : (strOf n).size ≤ 400 := Nat.le_trans (strOf_lt (k := 1) (by omega)) (by decide)
 have H2 := shut (fun w1 => rtextq_any false (strOf n) ⟨#[1]⟩ w1 o hz (by decide))
 have ht : qtxt false (strOf n) ⟨#[1]⟩ = dg n := by
  unfold qtxt
  rw [if_pos natOf_one]
  unfold ptxt
  rw [natOf_strOf]
  exact num_text n hn
 rw [ht] at H2
 clear o hz ht
 go_enter Tryz.func25, Tryz.ntmps25
 go_wp2_with (first | (go_at_call 40; refine (H1.out _).mono ?_; rintro e w1 ⟨rfl, b1⟩) | (go_at_call 56; refine (H2.out _).mono ?_; rintro e w2 ⟨rfl, b2⟩))
 go_ret
 exact ⟨rfl, Below.after b1 b2⟩
open Go.RowKit
def L8 (w : World) : Prop := ∀ wi, Below w.heap.size w wi → Calls Tryz.prog 21 #[] wi fun e w' => e = .returned (.bool true) ∧ Below wi.heap.size wi w'
def N8 : Prop := ∀ (n : Nat) (w : World), n < 100 → Calls Tryz.prog 25 #[.int .i64 (n : Nat)] w fun e w' => e = .returned (.string (dg n)) ∧ Below w.heap.size w w'
theorem great8_out (a b c : Int) (w : World) (h : a < 1 ∨ b < 0 ∨ c < 0 ∨ 60 < a ∨ 80 < b ∨ 20 < c) (HL : Hid (L8 w)) :
  Calls Tryz.prog 8 #[.int .i64 a, .int .i64 b, .int .i64 c] w (Re w (.bool true)) := by
 have cut : a < 1 ∨ (¬ a < 1 ∧ b < 0) ∨ (¬ a < 1 ∧ ¬ b < 0 ∧ c < 0) ∨ (¬ a < 1 ∧ ¬ b < 0 ∧ ¬ c < 0 ∧ 60 < a) ∨ (¬ a < 1 ∧ ¬ b < 0 ∧ ¬ c < 0 ∧ ¬ 60 < a ∧ 80 < b) ∨ (¬ a < 1 ∧ ¬ b < 0 ∧ ¬ c < 0 ∧ ¬ 60 < a ∧ ¬ 80 < b ∧ 20 < c) := by omega
 clear h
 rcases cut with h1 | ⟨h1, h2⟩ | ⟨h1, h2, h3⟩ | ⟨h1, h2, h3, h4⟩ | ⟨h1, h2, h3, h4, h5⟩ | ⟨h1, h2, h3, h4, h5, h6⟩ <;>
 ·go_enter Tryz.func8, Tryz.ntmps8
  go_wp2_with (go_at_call 21; refine (HL.out w (Below.refl _ _)).mono ?_; rintro e w1 ⟨rfl, b1⟩)
  go_ret
  exact ⟨rfl, b1⟩
theorem great8_in (a b c : Nat) (p : Pl) (e0 : Int) (w : World) (h1 : 1 ≤ a) (h2 : a ≤ 60) (h3 : b ≤ 80) (h4 : c ≤ 20) (HL : Hid (L8 w)) (HN : Hid N8)
  (HA : Hid (∀ wi, Below w.heap.size w wi → Calls Tryz.prog 18 #[.string (g3 a b c ++ gend)] wi fun e w' => ∃ cs : List Value, e = .returned (.tuple #[.agg cs.toArray, .int .i64 e0]) ∧ PlanAt w' wi.heap.size cs p ∧ Below wi.heap.size wi w'))
  (hok : a ≤ 40 ∧ b ≤ 60 ∧ c ≤ 10 → e0 = 0 ∧ p.pts.length = a ∧ p.segs.length = b ∧ p.holes.length = c) (hbad : ¬ (a ≤ 40 ∧ b ≤ 60 ∧ c ≤ 10) → e0 = 4 ∧ p = zPl) :
  Calls Tryz.prog 8 #[.int .i64 (a : Nat), .int .i64 (b : Nat), .int .i64 (c : Nat)] w (Re w (.bool true)) := by
 have x1 : ¬ (a : Int) < 1 := by omega
 have x2 : ¬ (b : Int) < 0 := by omega
 have x3 : ¬ (c : Int) < 0 := by omega
 have x4 : ¬ (60 : Int) < (a : Int) := by omega
 have x5 : ¬ (80 : Int) < (b : Int) := by omega
 have x6 : ¬ (20 : Int) < (c : Int) := by omega
 have HS := shut (fun wi cs B (k1 : PlanAt wi B cs zPl) => rsame_pl zPl cs Z39 B 0 wi k1 (planAt_zero wi 0) (by decide) (by decide) (by decide))
 obtain ⟨da, qa⟩ : ∃ t, t = dg a := ⟨_, rfl⟩
 obtain ⟨db, qb⟩ : ∃ t, t = dg b := ⟨_, rfl⟩
 obtain ⟨dc, qc⟩ : ∃ t, t = dg c := ⟨_, rfl⟩
 obtain ⟨dk, qk⟩ : ∃ t, t = dg (a - 1) := ⟨_, rfl⟩
 have za := dg_size2 a (by omega)
 have zb := dg_size2 b (by omega)
 have zc := dg_size2 c (by omega)
 have zk := dg_size2 (a - 1) (by omega)
 have Na := shut (fun w => HN.out a w (by omega))
 have Nb := shut (fun w => HN.out b w (by omega))
 have Nc := shut (fun w => HN.out c w (by omega))
 have Nk := shut (fun w => HN.out (a - 1) w (by omega))
 rw [← qa] at Na za
 rw [← qb] at Nb zb
 rw [← qc] at Nc zc
 rw [← qk] at Nk zk
 have Qa : Hid (ga a = ⟨#[112, 115, 108, 103, 32, 118, 32]⟩ ++ da) := by rw [qa]; rfl
 have Qb : Hid (gb (g1 a) b = (g1 a ++ ⟨#[32, 115, 32]⟩) ++ db) := by rw [qb]; rfl
 have Qc : Hid (gh (g2 a b) c = (g2 a b ++ ⟨#[32, 104, 32]⟩) ++ dc) := by rw [qc]; rfl
 have Qk : Hid (∀ j, gy (dg (a - 1)) (j + 1) (gb (g1 a) b) = ((gy (dg (a - 1)) j (gb (g1 a) b) ++ ⟨#[32, 48, 32]⟩) ++ dk) ++ ⟨#[32, 110]⟩) := fun j => by rw [qk]; rfl
 clear qa qb qc qk HN
 go_enter Tryz.func8, Tryz.ntmps8
 go_wp2_with (go_at_call 25; refine (Na.out w).mono ?_; rintro e w1 ⟨rfl, b1⟩)
 clear x1 x2 x3 x4 x5 x6 za
 go_loop [7, 8] (fun s i => ∃ k : Nat, k ≤ a ∧ i = .int .i64 (k : Nat) ∧ s = .string (gz c00 k (ga a))) (fun _ i => a - (intOf i).toNat)
 case atStart => exact ⟨0, Nat.zero_le _, rfl, by rw [gz, Qa.out]⟩
 case round =>
  obtain ⟨k, hk, rfl, rfl⟩ := hrel
  by_cases hlt : k < a
  ·have hlt' : (k : Int) < (a : Int) := by omega
   have hz : (gz c00 k (ga a)).size ≤ 300 := gz1_le k a hk h2
   go_wp2
   go_round
   case rel => exact ⟨k + 1, by omega, by go_num, rfl⟩
   case measure => simp [intOf]; omega
  ·obtain rfl : k = a := by omega
   have hge : ¬ (k : Int) < (k : Int) := by omega
   have hz : (gz c00 k (ga k)).size ≤ 300 := g1_size k h2
   go_wp2_with (go_at_call 25; refine (Nb.out w1).mono ?_; rintro e w2 ⟨rfl, b2⟩)
   have B2 := Below.after b1 b2
   clear hz hge hlt hk b1 b2
   go_loopw [7, 9] (fun s i wr => ∃ j : Nat, j ≤ b ∧ i = .int .i64 (j : Nat) ∧ s = .string (gy (dg (k - 1)) j (gb (g1 k) b)) ∧ Below w.heap.size w wr) (fun _ i _ => b - (intOf i).toNat)
   case atStart => exact ⟨0, Nat.zero_le _, rfl, by rw [gy, Qb.out]; rfl, B2⟩
   case round =>
    obtain ⟨j, hj, rfl, rfl, B3⟩ := hrel
    by_cases hlt : j < b
    ·have hlt' : (j : Int) < (b : Int) := by omega
     have hz : (gy (dg (k - 1)) j (gb (g1 k) b)).size ≤ 1000 := gy1_le j k b hj h2 h3
     have hk1 : ((k - 1 : Nat) : Int) = ((k : Int) - 1) := by omega
     rw [hk1] at Nk
     go_wp2_with (go_at_call 25; refine (Nk.out wr).mono ?_; rintro e w4 ⟨rfl, b4⟩)
     go_roundw
     case rel => exact ⟨j + 1, by omega, by go_num, by rw [Qk.out], Below.after B3 b4⟩
     case measure => simp [intOf]; omega
    ·obtain rfl : j = b := by omega
     have hge : ¬ (j : Int) < (j : Int) := by omega
     have hz : (gy (dg (k - 1)) j (gb (g1 k) j)).size ≤ 1000 := g2_size k j h2 h3
     go_wp2_with (go_at_call 25; refine (Nc.out wr).mono ?_; rintro e w4 ⟨rfl, b4⟩)
     have B4 := Below.after B3 b4
     clear hz hge hlt hj b4 B3 B2
     go_loop [7, 10] (fun s i => ∃ m : Nat, m ≤ c ∧ i = .int .i64 (m : Nat) ∧ s = .string (gz c11 m (gh (g2 k j) c))) (fun _ i => c - (intOf i).toNat)
     case atStart => exact ⟨0, Nat.zero_le _, rfl, by rw [gz, Qc.out]; rfl⟩
     case round =>
      obtain ⟨m, hm, rfl, rfl⟩ := hrel
      by_cases hlt : m < c
      ·have hlt' : (m : Int) < (c : Int) := by omega
       have hz : (gz c11 m (gh (g2 k j) c)).size ≤ 2000 := gz3_le m k j c hm h2 h3 h4
       go_wp2
       go_round
       case rel => exact ⟨m + 1, by omega, by go_num, rfl⟩
       case measure => simp [intOf]; omega
      ·obtain rfl : m = c := by omega
       have hge : ¬ (m : Int) < (m : Int) := by omega
       have hz : (gz c11 m (gh (g2 k j) m)).size ≤ 2000 := g3_size k j m h2 h3 h4
       go_upto_region 19 with (go_at_call 18; refine (HA.out w4 B4).mono ?_; rintro e w5 ⟨cs, rfl, hp, b5⟩; have hlen := hp.len; obtain ⟨w6, hst, k6, b6⟩ := fresh39 w5 cs hp.len hp.one)
       have B6 := Below.after (Below.after B4 b5) b6
       have hp6 := hp.below b6
       have rz := celA k6
       clear hst b5 b6 HA hp hz hge hlt hm B4
       by_cases hg : k ≤ 40 ∧ j ≤ 60 ∧ m ≤ 10
       ·obtain ⟨rfl, l1, l2, l3⟩ := hok hg
        have y1 : ¬ (40 : Int) < (k : Int) := by omega
        have y2 : ¬ (60 : Int) < (j : Int) := by omega
        have y3 : ¬ (10 : Int) < (m : Int) := by omega
        obtain ⟨v1, v2, v3, x, y, rfl, o1, o2, o3, hF, hG⟩ := hp6
        obtain ⟨a1, c1, rfl⟩ := own_val o1
        obtain ⟨a2, c2, rfl⟩ := own_val o2
        obtain ⟨a3, c3, rfl⟩ := own_val o3
        have q0 : w6.cell? ⟨w5.heap.size, 0, none⟩ = some (.slice a1 k c1) := by rw [k6.cell 0, l1]; rfl
        have q1 : w6.cell? ⟨w5.heap.size, 1, none⟩ = some (.slice a2 j c2) := by rw [k6.cell 1, l2]; rfl
        have q2 : w6.cell? ⟨w5.heap.size, 2, none⟩ = some (.slice a3 m c3) := by rw [k6.cell 2, l3]; rfl
        clear rz k6 hok hbad hg l1 l2 l3 o1 o2 o3 hF hG HS hlen
        go_wp2_with (go_at_call 21; refine (HL.out w6 B6).mono ?_; rintro e w7 ⟨rfl, b7⟩; have B7 := Below.after B6 b7)
        go_ret
        exact ⟨rfl, B7⟩
       ·obtain ⟨rfl, rfl⟩ := hbad hg
        have cut : (40 : Int) < (k : Int) ∨ (¬ (40 : Int) < (k : Int) ∧ (60 : Int) < (j : Int)) ∨ (¬ (40 : Int) < (k : Int) ∧ ¬ (60 : Int) < (j : Int) ∧ (10 : Int) < (m : Int)) := by omega
        clear hok hbad hg k6
        rcases cut with y1 | ⟨y1, y2⟩ | ⟨y1, y2, y3⟩ <;>
        ·go_wp2_with (first | (refine wpList_load_midG (by rfl) 46 _ rfl w5.heap.size 0 rfl cs _ rz Tryz.underlying46 rfl (by rw [hlen]; kernel_rfl) ?_) | (go_at_call 20; refine (HS.out w6 cs _ hp6).mono ?_; rintro e w7 ⟨rfl, b7⟩; have B7 := Below.after B6 b7) | (go_at_call 21; refine (HL.out w7 B7).mono ?_; rintro e w8 ⟨rfl, b8⟩; have B8 := Below.after B7 b8))
         go_ret
         exact ⟨rfl, B8⟩
theorem great8_law (a b c : Int) (w : World) (aL : Addr) (h : Env8 w aL) (hP : TabP w) : Calls Tryz.prog 8 #[.int .i64 a, .int .i64 b, .int .i64 c] w (Re w (.bool true)) := by
 have HL : Hid (L8 w) := shut (fun wi (b : Below w.heap.size w wi) => live8_any wi aL (h.below b) (hP.bel b))
 by_cases hx : a < 1 ∨ b < 0 ∨ c < 0 ∨ 60 < a ∨ 80 < b ∨ 20 < c
 ·exact great8_out a b c w hx HL
 ·obtain ⟨a', rfl⟩ : ∃ n : Nat, a = (n : Int) := ⟨a.toNat, by omega⟩
  obtain ⟨b', rfl⟩ : ∃ n : Nat, b = (n : Int) := ⟨b.toNat, by omega⟩
  obtain ⟨c', rfl⟩ : ∃ n : Nat, c = (n : Int) := ⟨c.toNat, by omega⟩
  obtain ⟨P, E, hPR⟩ := ex_PR8
  have e0 : E8 E t0 = 0 := by kernel_rfl
  have e1 : E8 E t1 = 0 := by kernel_rfl
  obtain ⟨g1, g2⟩ := psp_great (P := P8 P) e0 e1 a' b' c' (by omega) (by omega) (by omega) (by omega)
  have HA := fun wi (b : Below w.heap.size w wi) => parse_any (P8 P) (E8 E) hPR (g3 a' b' c' ++ gend) wi aL (h.below b)
  refine great8_in a' b' c' _ _ w (by omega) (by omega) (by omega) (by omega) HL (fun n w hn => number8 n hn w) HA (fun hg => ?_) (fun hg => ?_)
  ·obtain ⟨p, hp, l1, l2, l3⟩ := g1 hg
   rw [hp]
   exact ⟨rfl, l1, l2, l3⟩
  ·rw [g2 hg]
   exact ⟨rfl, rfl⟩
end Go.Proofs.YtnplifkgeeicjaaGreatDoor
