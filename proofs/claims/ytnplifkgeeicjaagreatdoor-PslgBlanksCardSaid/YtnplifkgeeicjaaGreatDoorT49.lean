/-
  a plan's text, to be read and printed, reckoned out.
  Print of a plan, and of two plans outright.
  one half.
  gussetlaw08: live.
  gussetlaw08: PslgReads.
-/
import Derived.Test.YtnplifkgeeicjaaGreatDoorT47
import Derived.Test.YtnplifkgeeicjaaGreatDoorT48
set_option maxRecDepth 100000
set_option maxHeartbeats 16000000
namespace Go.Proofs.YtnplifkgeeicjaaGreatDoor
open Go.RowKit
def tab8 : List (ByteArray × Q3 × Int) := [(⟨#[49, 47, 50]⟩, (false, ⟨#[1]⟩, ⟨#[2]⟩), 0), (⟨#[45, 51]⟩, (true, ⟨#[3]⟩, ⟨#[1]⟩), 0), (⟨#[48]⟩, (false, ⟨#[]⟩, ⟨#[1]⟩), 0), (⟨#[49]⟩, (false, ⟨#[1]⟩, ⟨#[1]⟩), 0), (⟨#[50]⟩, (false, ⟨#[2]⟩, ⟨#[1]⟩), 0), (⟨#[51]⟩, (false, ⟨#[3]⟩, ⟨#[1]⟩), 0), (⟨#[52]⟩, (false, ⟨#[4]⟩, ⟨#[1]⟩), 0), (⟨#[53]⟩, (false, ⟨#[5]⟩, ⟨#[1]⟩), 0), (⟨#[54]⟩, (false, ⟨#[6]⟩, ⟨#[1]⟩), 0), (⟨#[63]⟩, zQ, 4), (⟨#[]⟩, zQ, 4)]
def look (t : ByteArray) : List (ByteArray × Q3 × Int) → Option (Q3 × Int)
 | [] => none
 | (k, v) :: r => if t = k then some v else look t r
def P8 (P : ByteArray → Q3) (t : ByteArray) : Q3 := match look t tab8 with | some v => v.1 | none => P t
def E8 (E : ByteArray → Int) (t : ByteArray) : Int := match look t tab8 with | some v => v.2 | none => E t
def T8 (q : Q3) : ByteArray := if q = zQ then ⟨#[63]⟩ else if (qtxt q.1 q.2.1 q.2.2).size ≤ 1000 then qtxt q.1 q.2.1 q.2.2 else eS
theorem T8_size (q : Q3) : (T8 q).size ≤ 1000 := by
 unfold T8
 split
 ·decide
 ·split
  ·assumption
  ·decide
abbrev one8 : ByteArray := ⟨#[112, 115, 108, 103, 32, 118, 32, 49, 32, 49, 47, 50, 32, 45, 51, 32, 115, 32, 49, 32, 48, 32, 48, 32, 100, 32, 104, 32, 48, 32, 102, 32, 48, 32, 48, 32, 48, 32, 48, 32, 48, 32, 48, 32, 103, 32, 49, 32, 50, 32, 51, 32, 52, 32, 53, 32, 54, 32, 101, 110, 100]⟩
abbrev two8 : ByteArray := ⟨#[112, 115, 108, 103, 32, 118, 32, 49, 32, 49, 47, 50, 32, 45, 51, 32, 115, 32, 49, 32, 48, 32, 48, 32, 100, 32, 104, 32, 48, 32, 102, 32, 48, 32, 48, 32, 48, 32, 48, 32, 48, 32, 48, 32, 103, 32, 49, 32, 50, 32, 51, 32, 52, 32, 53, 32, 54, 32, 101, 110, 100, 32, 101, 110, 100]⟩
abbrev txt8 : ByteArray := ⟨#[112, 115, 108, 103, 10, 118, 32, 49, 10, 49, 47, 50, 32, 45, 51, 10, 115, 32, 49, 10, 48, 32, 48, 32, 100, 10, 104, 32, 48, 10, 102, 32, 48, 32, 48, 32, 48, 32, 48, 32, 48, 32, 48, 10, 103, 32, 49, 32, 50, 32, 51, 32, 52, 32, 53, 32, 54, 10, 101, 110, 100, 10]⟩
def p8 : Pl := ⟨[((false, ⟨#[1]⟩, ⟨#[2]⟩), (true, ⟨#[3]⟩, ⟨#[1]⟩))], [(0, 0, true)], [], [(false, ⟨#[]⟩, ⟨#[1]⟩), (false, ⟨#[]⟩, ⟨#[1]⟩), (false, ⟨#[]⟩, ⟨#[1]⟩), (false, ⟨#[]⟩, ⟨#[1]⟩), (false, ⟨#[]⟩, ⟨#[1]⟩), (false, ⟨#[]⟩, ⟨#[1]⟩)], [(false, ⟨#[1]⟩, ⟨#[1]⟩), (false, ⟨#[2]⟩, ⟨#[1]⟩), (false, ⟨#[3]⟩, ⟨#[1]⟩), (false, ⟨#[4]⟩, ⟨#[1]⟩), (false, ⟨#[5]⟩, ⟨#[1]⟩), (false, ⟨#[6]⟩, ⟨#[1]⟩)]⟩
theorem psp_one (P : ByteArray → Q3) (E : ByteArray → Int) : psp (P8 P) (E8 E) one8 = (p8, 0) := by kernel_rfl
theorem psp_two (P : ByteArray → Q3) (E : ByteArray → Int) : psp (P8 P) (E8 E) two8 = (zPl, 4) := by kernel_rfl
theorem wtx_one : wtx T8 p8 = txt8 := by kernel_rfl
theorem psp_txt (P : ByteArray → Q3) (E : ByteArray → Int) : psp (P8 P) (E8 E) txt8 = (p8, 0) := by kernel_rfl
theorem psp_nil (P : ByteArray → Q3) (E : ByteArray → Int) : psp (P8 P) (E8 E) (wtx T8 zPl) = (zPl, 4) := by kernel_rfl
theorem look_ok (t : ByteArray) (v : Q3 × Int) (h : look t tab8 = some v) (w : World) (hT : Tab w) : Calls Tryz.prog 184 #[.string t] w (Re w (.tuple #[vQ v.1, .int .i64 v.2])) := by
 by_cases h0 : t = ⟨#[49, 47, 50]⟩
 ·subst h0
  have hv : look ⟨#[49, 47, 50]⟩ tab8 = some ((false, ⟨#[1]⟩, ⟨#[2]⟩), 0) := by kernel_rfl
  rw [hv] at h
  injection h with h
  subst h
  exact qparse_half w hT (chkq_zero (by decide +kernel)).1
 by_cases h255 : t = ⟨#[45, 51]⟩
 ·subst h255
  have hv : look ⟨#[45, 51]⟩ tab8 = some ((true, ⟨#[3]⟩, ⟨#[1]⟩), 0) := by kernel_rfl
  rw [hv] at h
  injection h with h
  subst h
  exact qparse_c1 _ _ _ w hT (chkq_zero (by decide +kernel)).1 (by decide) (by kernel_rfl) (by decide +kernel)
 by_cases h557 : t = ⟨#[48]⟩
 ·subst h557
  have hv : look ⟨#[48]⟩ tab8 = some ((false, ⟨#[]⟩, ⟨#[1]⟩), 0) := by kernel_rfl
  rw [hv] at h
  injection h with h
  subst h
  exact qparse_c1 _ _ _ w hT (chkq_zero (by decide +kernel)).1 (by decide) (by kernel_rfl) (by decide +kernel)
 by_cases h851 : t = ⟨#[49]⟩
 ·subst h851
  have hv : look ⟨#[49]⟩ tab8 = some ((false, ⟨#[1]⟩, ⟨#[1]⟩), 0) := by kernel_rfl
  rw [hv] at h
  injection h with h
  subst h
  exact qparse_c1 _ _ _ w hT (chkq_zero (by decide +kernel)).1 (by decide) (by kernel_rfl) (by decide +kernel)
 by_cases h1146 : t = ⟨#[50]⟩
 ·subst h1146
  have hv : look ⟨#[50]⟩ tab8 = some ((false, ⟨#[2]⟩, ⟨#[1]⟩), 0) := by kernel_rfl
  rw [hv] at h
  injection h with h
  subst h
  exact qparse_c1 _ _ _ w hT (chkq_zero (by decide +kernel)).1 (by decide) (by kernel_rfl) (by decide +kernel)
 by_cases h1443 : t = ⟨#[51]⟩
 ·subst h1443
  have hv : look ⟨#[51]⟩ tab8 = some ((false, ⟨#[3]⟩, ⟨#[1]⟩), 0) := by kernel_rfl
  rw [hv] at h
  injection h with h
  subst h
  exact qparse_c1 _ _ _ w hT (chkq_zero (by decide +kernel)).1 (by decide) (by kernel_rfl) (by decide +kernel)
 by_cases h1740 : t = ⟨#[52]⟩
 ·subst h1740
  have hv : look ⟨#[52]⟩ tab8 = some ((false, ⟨#[4]⟩, ⟨#[1]⟩), 0) := by kernel_rfl
  rw [hv] at h
  injection h with h
  subst h
  exact qparse_c1 _ _ _ w hT (chkq_zero (by decide +kernel)).1 (by decide) (by kernel_rfl) (by decide +kernel)
 by_cases h2037 : t = ⟨#[53]⟩
 ·subst h2037
  have hv : look ⟨#[53]⟩ tab8 = some ((false, ⟨#[5]⟩, ⟨#[1]⟩), 0) := by kernel_rfl
  rw [hv] at h
  injection h with h
  subst h
  exact qparse_c1 _ _ _ w hT (chkq_zero (by decide +kernel)).1 (by decide) (by kernel_rfl) (by decide +kernel)
 by_cases h2334 : t = ⟨#[54]⟩
 ·subst h2334
  have hv : look ⟨#[54]⟩ tab8 = some ((false, ⟨#[6]⟩, ⟨#[1]⟩), 0) := by kernel_rfl
  rw [hv] at h
  injection h with h
  subst h
  exact qparse_c1 _ _ _ w hT (chkq_zero (by decide +kernel)).1 (by decide) (by kernel_rfl) (by decide +kernel)
 by_cases h2631 : t = ⟨#[63]⟩
 ·subst h2631
  have hv : look ⟨#[63]⟩ tab8 = some (zQ, 4) := by kernel_rfl
  rw [hv] at h
  injection h with h
  subst h
  exact qparse_no w
 by_cases h2816 : t = ⟨#[]⟩
 ·subst h2816
  have hv : look ⟨#[]⟩ tab8 = some (zQ, 4) := by kernel_rfl
  rw [hv] at h
  injection h with h
  subst h
  exact qparse_nil w
 exact absurd h (by unfold tab8 look look look look look look look look look look look look; rw [if_neg h0, if_neg h255, if_neg h557, if_neg h851, if_neg h1146, if_neg h1443, if_neg h1740, if_neg h2037, if_neg h2334, if_neg h2631, if_neg h2816]; intro h; cases h)
theorem ex_PR8 : ∃ (P : ByteArray → Q3) (E : ByteArray → Int), PR (P8 P) (E8 E) := by
 have hq : ∀ t : ByteArray, ∃ (q : Q3) (e : Int), t.size ≤ 100000 → ∀ w, Tab w → Calls Tryz.prog 184 #[.string t] w fun e' w' => e' = .returned (.tuple #[vQ q, .int .i64 e]) ∧ Below w.heap.size w w' := fun t => by
  by_cases hz : t.size ≤ 100000
  ·obtain ⟨rN, rS, rD, E, h1, -⟩ := qreads t (by omega)
   exact ⟨(rN, rS, rD), E, fun _ => h1⟩
  ·exact ⟨zQ, 0, fun h => absurd h hz⟩
 refine ⟨fun t => Classical.choose (hq t), fun t => Classical.choose (Classical.choose_spec (hq t)), fun t w hz hT => ?_⟩
 cases h : look t tab8 with
 | some v =>
  have := look_ok t v h w hT
  unfold P8 E8
  rw [h]
  exact this
 | none =>
  unfold P8 E8
  rw [h]
  exact Classical.choose_spec (Classical.choose_spec (hq t)) hz w hT
theorem getD_or (l : List Q3) (i : Nat) : l.getD i zQ ∈ l ∨ l.getD i zQ = zQ := by
 rw [List.getD_eq_getElem?_getD]
 cases h : l[i]? with
 | none => exact Or.inr rfl
 | some q => exact Or.inl (List.mem_of_getElem? h)
theorem pprint_pl (P : ByteArray → Q3) (E : ByteArray → Int) (hP : PR P E) (T : Q3 → ByteArray) (p : Pl) (cs : List Value) (B : Nat) (w : World) (aL : Addr) (h : Env8 w aL) (hp : PlanAt w B cs p) (l1 : p.pts.length ≤ 40) (l2 : p.segs.length ≤ 60) (l3 : p.holes.length ≤ 10)
  (t1 : ∀ q, q ∈ p.pts → TX T q.1 w ∧ TX T q.2 w) (t3 : ∀ q, q ∈ p.holes → TX T q.1 w ∧ TX T q.2 w) (tF : ∀ q, q ∈ p.F → TX T q w) (tG : ∀ q, q ∈ p.G → TX T q w) (tz : TX T zQ w) (s2 : ∀ s, s ∈ p.segs → s.1 < 100 ∧ s.2.1 < 100) (zT : ∀ q, (T q).size ≤ 1000)
  (hr : (psp P E (wtx T p)).2 = 0 → (psp P E (wtx T p)).1 = p) :
  Calls Tryz.prog 23 #[.agg cs.toArray] w (Re w (.tuple #[.string (if (psp P E (wtx T p)).2 = 0 then wtx T p else eS), .int .i64 (if (psp P E (wtx T p)).2 = 0 then 0 else 1)])) := by
 have hp0 := hp
 obtain ⟨v1, v2, v3, x, y, rfl, o1, o2, o3, hF, hG⟩ := hp
 obtain ⟨A1, A2, A3, F, G⟩ := p
 have r1 := RowR.of cP cP_len o1
 have r2 := RowR.of cS cS_len o2
 have r3 := RowR.of cP cP_len o3
 obtain ⟨a1, c1, rfl⟩ := own_val o1
 obtain ⟨a2, c2, rfl⟩ := own_val o2
 obtain ⟨a3, c3, rfl⟩ := own_val o3
 have hF' : F = [x 0, x 1, x 2, x 3, x 4, x 5] := hF
 have hG' : G = [y 0, y 1, y 2, y 3, y 4, y 5] := hG
 subst hF' hG'
 have fx : ∀ i, TX T ([x 0, x 1, x 2, x 3, x 4, x 5].getD i zQ) w := fun i => by
  rcases getD_or [x 0, x 1, x 2, x 3, x 4, x 5] i with h | h
  ·exact tF _ h
  ·rw [h]; exact tz
 have fy : ∀ i, TX T ([y 0, y 1, y 2, y 3, y 4, y 5].getD i zQ) w := fun i => by
  rcases getD_or [y 0, y 1, y 2, y 3, y 4, y 5] i with h | h
  ·exact tG _ h
  ·rw [h]; exact tz
 exact pprint_ex P E hP T A1 A3 A2 a1 a2 a3 _ _ _ c1 c2 c3 (fun i => [x 0, x 1, x 2, x 3, x 4, x 5].getD i zQ) (fun i => [y 0, y 1, y 2, y 3, y 4, y 5].getD i zQ) B w aL h rfl rfl rfl l1 l2 l3 r1 r2 r3 t1 t3 fx fy s2 zT hp0 _ rfl hr
theorem tx_ok (n : Bool) (s d : ByteArray) (w : World) (hT : Tab w) (hP : TabP w) (h : chkq n s d = 0) (zs : s.size ≤ 400) (zd : d.size ≤ 400) (ht : T8 (n, s, d) = qtxt n s d) : TX T8 (n, s, d) w := fun w1 b => by
 refine (qprint_ok n s d w1 (hT.below b) (hP.bel b) h zs zd).mono ?_
 rintro e w' ⟨rfl, k⟩
 exact ⟨_, _, rfl, ht, k⟩
theorem tx_no (w : World) (hT : Tab w) : TX T8 zQ w := fun w1 b => by
 refine (qprint_no w1 (hT.below b)).mono ?_
 rintro e w' ⟨rfl, k⟩
 exact ⟨_, _, rfl, by kernel_rfl, k⟩
theorem tx_p8 (w : World) (hT : Tab w) (hP : TabP w) : (∀ q, q ∈ p8.pts → TX T8 q.1 w ∧ TX T8 q.2 w) ∧ (∀ q, q ∈ p8.F → TX T8 q w) ∧ (∀ q, q ∈ p8.G → TX T8 q w) := by
 have k : ∀ n s d, chkq n s d = 0 → s.size ≤ 400 → d.size ≤ 400 → T8 (n, s, d) = qtxt n s d → TX T8 (n, s, d) w := fun n s d h zs zd ht => tx_ok n s d w hT hP h zs zd ht
 refine ⟨fun q hq => ?_, fun q hq => ?_, fun q hq => ?_⟩
 ·rw [List.mem_singleton.1 hq]
  exact ⟨k _ _ _ (by decide +kernel) (by decide) (by decide) (by kernel_rfl), k _ _ _ (by decide +kernel) (by decide) (by decide) (by kernel_rfl)⟩
 ·have hz : q = (false, ⟨#[]⟩, ⟨#[1]⟩) := by
   rcases List.mem_cons.1 hq with h | hq
   ·exact h
   rcases List.mem_cons.1 hq with h | hq
   ·exact h
   rcases List.mem_cons.1 hq with h | hq
   ·exact h
   rcases List.mem_cons.1 hq with h | hq
   ·exact h
   rcases List.mem_cons.1 hq with h | hq
   ·exact h
   exact List.mem_singleton.1 hq
  rw [hz]
  exact k _ _ _ (by decide +kernel) (by decide) (by decide) (by kernel_rfl)
 ·rcases List.mem_cons.1 hq with h | hq
  ·rw [h]; exact k _ _ _ (by decide +kernel) (by decide) (by decide) (by kernel_rfl)
  rcases List.mem_cons.1 hq with h | hq
  ·rw [h]; exact k _ _ _ (by decide +kernel) (by decide) (by decide) (by kernel_rfl)
  rcases List.mem_cons.1 hq with h | hq
  ·rw [h]; exact k _ _ _ (by decide +kernel) (by decide) (by decide) (by kernel_rfl)
  rcases List.mem_cons.1 hq with h | hq
  ·rw [h]; exact k _ _ _ (by decide +kernel) (by decide) (by decide) (by kernel_rfl)
  rcases List.mem_cons.1 hq with h | hq
  ·rw [h]; exact k _ _ _ (by decide +kernel) (by decide) (by decide) (by kernel_rfl)
  rw [List.mem_singleton.1 hq]; exact k _ _ _ (by decide +kernel) (by decide) (by decide) (by kernel_rfl)
theorem print_p8 (P : ByteArray → Q3) (E : ByteArray → Int) (hP : PR (P8 P) (E8 E)) (cs : List Value) (B : Nat) (w : World) (aL : Addr) (h : Env8 w aL) (hT : TabP w) (hp : PlanAt w B cs p8) :
  Calls Tryz.prog 23 #[.agg cs.toArray] w (Re w (.tuple #[.string txt8, .int .i64 0])) := by
 obtain ⟨k1, k2, k3⟩ := tx_p8 w h.tab hT
 have := pprint_pl (P8 P) (E8 E) hP T8 p8 cs B w aL h hp (by decide) (by decide) (by decide) k1 (fun q hq => by cases hq) k2 k3 (tx_no w h.tab) (fun s hs => by rw [List.mem_singleton.1 hs]; decide) T8_size (by rw [wtx_one, psp_txt]; intro _; rfl)
 rw [wtx_one, psp_txt] at this
 exact this
theorem print_z8 (P : ByteArray → Q3) (E : ByteArray → Int) (hP : PR (P8 P) (E8 E)) (cs : List Value) (B : Nat) (w : World) (aL : Addr) (h : Env8 w aL) (hp : PlanAt w B cs zPl) :
  Calls Tryz.prog 23 #[.agg cs.toArray] w (Re w (.tuple #[.string eS, .int .i64 1])) := by
 have tz := tx_no w h.tab
 have tz6 : ∀ q : Q3, q ∈ [zQ, zQ, zQ, zQ, zQ, zQ] → TX T8 q w := fun q hq => tx_six (x := fun _ => zQ) (fun _ => tz) q hq
 have := pprint_pl (P8 P) (E8 E) hP T8 zPl cs B w aL h hp (by decide) (by decide) (by decide) (fun q hq => by cases hq) (fun q hq => by cases hq) tz6 tz6 tz (fun s hs => by cases hs) T8_size (by rw [psp_nil]; intro h; cases h)
 rw [psp_nil] at this
 exact this
theorem frac8_walk (N M : Int) (xN yN : Bool) (xS yS : ByteArray) (rN : Bool) (rS rD : ByteArray) (w : World)
  (H1 : Hid (∀ w1, Below w.heap.size w w1 → Calls Tryz.prog 58 #[.int .i64 N] w1 (Re w1 (.agg #[.bool xN, .string xS]))))
  (H2 : Hid (∀ w1, Below w.heap.size w w1 → Calls Tryz.prog 58 #[.int .i64 M] w1 (Re w1 (.agg #[.bool yN, .string yS]))))
  (H3 : Hid (∀ w1, Below w.heap.size w w1 → Calls Tryz.prog 57 #[.agg #[.bool xN, .string xS], .agg #[.bool yN, .string yS]] w1 (Re w1 ((qa1 rN rS rD))))) :
  Calls Tryz.prog 29 #[.int .i64 N, .int .i64 M] w (Re w ((qa1 rN rS rD))) := by
 go_enter Tryz.func29, Tryz.ntmps29
 go_wp2_with fail
 obtain ⟨w0, hw, kr, bb⟩ := mk1 w (ql1 false eB eB) 26
 rw [← hw]
 clear hw
 go_fit (H1.out _ bb)
 rintro e w1 ⟨rfl, b1⟩
 replace kr := kr.below b1
 replace bb := Below.after bb b1
 clear b1
 go_wp2_with fail
 go_fit (H2.out _ bb)
 rintro e w2 ⟨rfl, b1⟩
 replace kr := kr.below b1
 replace bb := Below.after bb b1
 clear b1
 go_wp2_with fail
 go_fit (H3.out _ bb)
 rintro e w3 ⟨rfl, b1⟩
 replace kr := kr.below b1
 replace bb := Below.after bb b1
 clear b1
 obtain ⟨e0, e1, e2⟩ := xk3 kr
 have f0 := Cel.frozen kr 0
 have f1 := Cel.frozen kr 1
 have f2 := Cel.frozen kr 2
 go_wp2
 exact post_q (p := 4) (by kernel_rfl) rfl rfl (((kr.set 0 _).set 1 _).set 2 _) ⟨rfl, bset (bset (bset bb (by omega) 0 _) (by omega) 1 _) (by omega) 2 _⟩
theorem frac_half (w : World) : Calls Tryz.prog 29 #[.int .i64 1, .int .i64 2] w (Re w (.agg #[.bool false, .string ⟨#[1]⟩, .string ⟨#[2]⟩])) := by
 have o : OkQ false ⟨#[1]⟩ ⟨#[2]⟩ := (chkq_zero (by decide +kernel)).1
 have od : OkZ false ⟨#[2]⟩ := ⟨o.2.1, fun h => by cases h⟩
 refine frac8_walk 1 2 false false ⟨#[1]⟩ ⟨#[2]⟩ _ _ _ w (fun w1 _ => ?_) (fun w1 _ => ?_) (fun w1 _ => ?_)
 ·have := rof_any 1 (by omega) (by omega) w1
  rwa [show zI 1 = .agg #[.bool false, .string ⟨#[1]⟩] by kernel_rfl] at this
 ·have := rof_any 2 (by omega) (by omega) w1
  rwa [show zI 2 = .agg #[.bool false, .string ⟨#[2]⟩] by kernel_rfl] at this
 ·have := low_any false false ⟨#[1]⟩ ⟨#[2]⟩ w1 o.1 od (by decide) (by decide) o.2.2.1
  rw [show zOf false ⟨#[2]⟩ = ((natOf ⟨#[2]⟩ : Nat) : Int) from zOf_false _, Rat.divInt_ofNat] at this
  rw [qV_is o]
  exact this
theorem eqQ8 (n : Bool) (s d : ByteArray) (w1 : World) : (Op.equalIn 10000 26 ((qa1 n s d)) ((qa1 n s d))).run Tryz.prog w1 = .ok true w1 := by
 rw [show (10000 : Nat) = 9999 + 1 from rfl]
 go_simp
theorem live8_any (w : World) (aL : Addr) (h : Env8 w aL) (hP : TabP w) : Calls Tryz.prog 21 #[] w (Re w (.bool true)) := by
 obtain ⟨P, E, hPR⟩ := ex_PR8
 have H1 : Hid (∀ wi, Below w.heap.size w wi → Calls Tryz.prog 18 #[.string one8] wi fun e w' => ∃ cs : List Value, e = .returned (.tuple #[.agg cs.toArray, .int .i64 0]) ∧ PlanAt w' wi.heap.size cs p8 ∧ Below wi.heap.size wi w') := fun wi b => by
  have := parse_any (P8 P) (E8 E) hPR one8 wi aL (h.below b)
  rw [psp_one] at this
  exact this
 have H2 : Hid (∀ wi, Below w.heap.size w wi → Calls Tryz.prog 18 #[.string two8] wi fun e w' => ∃ cs : List Value, e = .returned (.tuple #[.agg cs.toArray, .int .i64 4]) ∧ PlanAt w' wi.heap.size cs zPl ∧ Below wi.heap.size wi w') := fun wi b => by
  have := parse_any (P8 P) (E8 E) hPR two8 wi aL (h.below b)
  rw [psp_two] at this
  exact this
 have HA := shut (fun wi (b : Below w.heap.size w wi) cs B (hp : PlanAt wi B cs p8) => print_p8 P E hPR cs B wi aL (h.below b) (hP.bel b) hp)
 have HZ : Hid (∀ wi, Below w.heap.size w wi → Calls Tryz.prog 23 #[.agg #[nilS, nilS, nilS, .bool false, .string eS, .string eS, .bool false, .string eS, .string eS, .bool false, .string eS, .string eS, .bool false, .string eS, .string eS, .bool false, .string eS, .string eS, .bool false, .string eS, .string eS, .bool false, .string eS, .string eS, .bool false, .string eS, .string eS, .bool false, .string eS, .string eS, .bool false, .string eS, .string eS, .bool false, .string eS, .string eS, .bool false, .string eS, .string eS]] wi (Re wi (.tuple #[.string eS, .int .i64 1]))) := fun wi b => by
  have := print_z8 P E hPR Z39 0 wi aL (h.below b) (planAt_zero wi 0)
  exact this
 have HF := shut (fun wi => frac_half wi)
 have hE := fun w1 => eqQ8 false ⟨#[1]⟩ ⟨#[2]⟩ w1
 clear h hP hPR
 go_enter Tryz.func21, Tryz.ntmps21
 go_upto_region 2 with (go_at_call 18; refine (H1.out w (Below.refl _ _)).mono ?_; rintro e w1 ⟨cs, rfl, hp, b1⟩; have hlen := hp.len; obtain ⟨w2, hst, k2, b2⟩ := fresh39 w1 cs hp.len hp.one)
 have B2 := Below.after b1 b2
 have hp2 := hp.below b2
 clear hst b1 b2 H1
 go_upto_region 3 with (first | (refine wpList_load_row rfl 46 _ rfl _ rfl 46 cs.toArray (0, 0) _ k2 Tryz.underlying46 rfl (by rw [List.size_toArray, hlen]; kernel_rfl) ?_) | (go_at_call 23; refine (HA.out _ B2 cs _ hp2).mono ?_; rintro e w3 ⟨rfl, b3⟩))
 have B3 := Below.after B2 b3
 have k3 := k2.below b3
 have hp3 := hp2.below b3
 clear k2 hp2 hp HA B2 b3
 go_upto_region 4 with (go_at_call 18; refine (H2.out _ B3).mono ?_; rintro e w4 ⟨ds, rfl, hq, b4⟩; have hlen' := hq.len; obtain ⟨w5, hst, k5, b5⟩ := fresh39 w4 ds hq.len hq.one)
 have B5 := Below.after (Below.after B3 b4) b5
 have k6 := (k3.below b4).below b5
 have hp5 := (hp3.below b4).below b5
 clear hst k5 b4 b5 hq k3 hp3 H2 B3
 go_upto_region 5 with (go_at_call 23; refine (HZ.out _ B5).mono ?_; rintro e w6 ⟨rfl, b6⟩)
 have B6 := Below.after B5 b6
 have k7 := k6.below b6
 have hp6 := hp5.below b6
 clear HZ B5 b6 k6 hp5
 obtain ⟨v1, v2, v3, x, y, hcs, o1, o2, o3, hF, hG⟩ := hp6
 have r1 := RowR.of cP cP_len o1
 have r2 := RowR.of cS cS_len o2
 obtain ⟨a1, c1, rfl⟩ := own_val o1
 obtain ⟨a2, c2, rfl⟩ := own_val o2
 obtain ⟨aa, ac, ea, -, hr1⟩ := r1
 obtain ⟨ba, bc, eb, -, hr2⟩ := r2
 obtain ⟨gp, op, ep, -, hx⟩ := hr1 0 _ rfl
 obtain ⟨gs, os, es, -, hy⟩ := hr2 0 _ rfl
 have ea' := (Value.slice.inj ea).1
 have eb' := (Value.slice.inj eb).1
 rw [ep] at ea'
 rw [es] at eb'
 subst ea' eb'
 obtain ⟨g1, hg1⟩ : ∃ g, g = w1.heap.size := ⟨_, rfl⟩
 rw [← hg1] at k7 ⊢
 have q0 : w6.cell? ⟨g1, 0, none⟩ = some (.slice (some ⟨gp, op, none⟩) 1 c1) := by rw [k7.cell 0, hcs]; rfl
 have q1 : w6.cell? ⟨g1, 1, none⟩ = some (.slice (some ⟨gs, os, none⟩) 1 c2) := by rw [k7.cell 1, hcs]; rfl
 have q2 : w6.rangeAt gp op [.bool false, .string ⟨#[1]⟩, .string ⟨#[2]⟩] := fun i v hv => by
  have := hx i v (by match i, hv with | 0, hv => exact hv | 1, hv => exact hv | 2, hv => exact hv)
  rwa [Nat.zero_mul, Nat.add_zero] at this
 have q3 : w6.cell? ⟨gs, os + 2, none⟩ = some (.bool true) := by
  have := hy 2 _ rfl
  rwa [Nat.zero_mul, Nat.add_zero] at this
 clear hr1 hr2 hx hy o1 o2 o3 hF hG hcs k7 ea eb ep es hg1
 have Bd6 : Below w.heap.size w w6.drew := Below.after B6 (bdrew w6)
 refine wp_region_held_drew (S := fun w' => w'.cell? ⟨g1, 0, none⟩ = some (.slice (some ⟨gp, op, none⟩) 1 c1) ∧ w'.cell? ⟨g1, 1, none⟩ = some (.slice (some ⟨gs, os, none⟩) 1 c2) ∧ w'.rangeAt gp op [.bool false, .string ⟨#[1]⟩, .string ⟨#[2]⟩] ∧ w'.cell? ⟨gs, os + 2, none⟩ = some (.bool true)) (by kernel_rfl) ⟨q0, q1, (World.rangeAt_drew _ _ _ _).2 q2, q3⟩ (fun hS => ?_)
 clear q0 q1 q2 q3 B6
 generalize w6.drew = wd at *
 refine WA.start (n := 47) (by kernel_rfl) ?_
 refine WA.tp 0 rfl ?_
 refine WA.tp 1 rfl ?_
 refine WA.tp 2 rfl ?_
 refine WA.tp 3 rfl ?_
 refine WA.tp 4 rfl ?_
 refine WA.tp 5 rfl ?_
 refine WA.tp 6 rfl ?_
 refine WA.tp 7 rfl ?_
 refine WA.tp 8 rfl ?_
 refine WA.tp 9 rfl ?_
 refine WA.tp 10 rfl ?_
 refine WA.tp 11 rfl ?_
 refine WA.tp 12 rfl ?_
 refine WA.tp 13 rfl ?_ (hy := yieldsIf_load_mid (by rfl) 26 _ rfl gp op rfl [.bool false, .string ⟨#[1]⟩, .string ⟨#[2]⟩] _ (fun w' h => h.2.2.1) Tryz.underlying26 rfl (by kernel_rfl))
 refine WA.cal 14 rfl (fun K hK => ?_)
 simp only [List.getElem_toArray, List.getElem_cons_succ, List.getElem_cons_zero]
 go_simp
 go_fit (HF.out _)
 rintro e wa ⟨rfl, ba⟩
 try go_wp2_with fail
 refine hK.out _ _ ⟨cell_below hS.1 ba, cell_below hS.2.1 ba, fun i v hv => cell_below (hS.2.2.1 i v hv) ba, cell_below hS.2.2.2 ba⟩ (fun hS => ?_)
 clear hK K
 have Bf := Below.after Bd6 ba
 refine WA.tp 15 rfl ?_
 refine WA.tp 16 rfl ?_
 refine WA.tp 17 rfl ?_
 refine WA.tp 18 rfl ?_
 refine WA.tp 19 rfl ?_
 refine WA.tp 20 rfl ?_
 refine WA.tp 21 rfl ?_
 refine WA.tp 22 rfl ?_
 refine WA.tp 23 rfl ?_
 refine WA.tp 24 rfl ?_
 refine WA.tp 25 rfl ?_
 refine WA.tp 26 rfl ?_
 refine WA.tp 27 rfl ?_
 refine WA.tp 28 rfl ?_
 refine WA.tp 29 rfl ?_
 refine WA.tp 30 rfl ?_
 refine WA.tp 31 rfl ?_
 refine WA.tp 32 rfl ?_
 refine WA.tp 33 rfl ?_
 refine WA.tp 34 rfl ?_
 refine WA.tp 35 rfl ?_
 refine WA.tp 36 rfl ?_
 refine WA.tp 37 rfl ?_
 refine WA.tp 38 rfl ?_
 refine WA.tp 39 rfl ?_
 refine WA.tp 40 rfl ?_
 refine WA.tp 41 rfl ?_
 refine WA.tp 42 rfl ?_
 refine WA.tp 43 rfl ?_
 refine WA.tp 44 rfl ?_
 refine WA.tp 45 rfl ?_
 refine WA.tp 46 rfl ?_
 refine WA.done (by kernel_rfl) ?_
 clear hS
 go_wp2
 go_ret
 exact ⟨rfl, Bf⟩
theorem rep_len8 {α : Type} (f : St → α × St) : ∀ (n : Nat) (s : St), (rep f n s).1.length = n
 | 0, _ => rfl
 | n + 1, s => by rw [rep, List.length_cons, rep_len8 f n]
theorem ls_len8 {α : Type} (f : St → α × St) (c : ByteArray) (m : Int) (s : St) : (lsP f c m s).1.length ≤ 100000 := by
 unfold lsP
 rw [rep_len8]
 have := ct_lt m (wd c s)
 omega
theorem l1 (P : ByteArray → Q3) (E : ByteArray → Int) (l : List ByteArray) : (r1 P E l).1.length ≤ 100000 := by
 rw [r1]
 exact ls_len8 (pt P E) _ _ _
theorem l2 (P : ByteArray → Q3) (E : ByteArray → Int) (l : List ByteArray) : (r2 P E l).1.length ≤ 100000 := by
 rw [r2]
 exact ls_len8 (sg _) _ _ _
theorem l3 (P : ByteArray → Q3) (E : ByteArray → Int) (l : List ByteArray) : (r3 P E l).1.length ≤ 100000 := by
 rw [r3]
 exact ls_len8 (pt P E) _ _ _
theorem psp_len8 (P : ByteArray → Q3) (E : ByteArray → Int) (s : ByteArray) : (psp P E s).1.pts.length ≤ 100000 ∧ (psp P E s).1.segs.length ≤ 100000 ∧ (psp P E s).1.holes.length ≤ 100000 := by
 unfold psp
 split
 ·exact ⟨Nat.zero_le _, Nat.zero_le _, Nat.zero_le _⟩
 ·unfold plan
  by_cases h6 : r6 P E (toks s) = some []
  ·rw [if_pos h6]
   show (rpl P E (toks s)).pts.length ≤ 100000 ∧ (rpl P E (toks s)).segs.length ≤ 100000 ∧ (rpl P E (toks s)).holes.length ≤ 100000
   have a1 := l1 P E (toks s)
   have a2 := l2 P E (toks s)
   have a3 := l3 P E (toks s)
   unfold rpl
   generalize (r1 P E (toks s)).1 = A1 at *
   generalize (r2 P E (toks s)).1 = A2 at *
   generalize (r3 P E (toks s)).1 = A3 at *
   exact ⟨a1, a2, a3⟩
  ·rw [if_neg h6]
   exact ⟨Nat.zero_le _, Nat.zero_le _, Nat.zero_le _⟩
theorem ex_PR : ∃ (P : ByteArray → Q3) (E : ByteArray → Int), PR P E ∧ PR3 P E := by
 have hq : ∀ t : ByteArray, ∃ (q : Q3) (e : Int), t.size ≤ 100000 → (∀ w, Tab w → Calls Tryz.prog 184 #[.string t] w fun e' w' => e' = .returned (.tuple #[vQ q, .int .i64 e]) ∧ Below w.heap.size w w') ∧ (∀ w, Calls Tryz.prog 153 #[.string t] w fun e' w' => e' = .returned (.tuple #[vQ q, .int .i64 e]) ∧ Below w.heap.size w w') := fun t => by
  by_cases hz : t.size ≤ 100000
  ·obtain ⟨rN, rS, rD, E, h1, h2⟩ := qreads t (by omega)
   exact ⟨(rN, rS, rD), E, fun _ => ⟨h1, h2⟩⟩
  ·exact ⟨zQ, 0, fun h => absurd h hz⟩
 exact ⟨fun t => Classical.choose (hq t), fun t => Classical.choose (Classical.choose_spec (hq t)), fun t w hz hT => (Classical.choose_spec (Classical.choose_spec (hq t)) hz).1 w hT, fun t w hz => (Classical.choose_spec (Classical.choose_spec (hq t)) hz).2 w⟩
end Go.Proofs.YtnplifkgeeicjaaGreatDoor
