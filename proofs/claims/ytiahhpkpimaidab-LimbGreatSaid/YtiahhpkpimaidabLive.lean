/-
  'live' answers true.
-/
import Derived.Test.YtiahhpkpimaidabLive0
namespace Go.Proofs.Ytiahhpkpimaidab
open Go.RowKit

theorem low_of_all {b : Nat} {xs : List Nat} (h : xs.all (fun x => decide (x < b)) = true) : M.Low b xs := by
  intro x hx; simpa using List.all_eq_true.1 h x hx

set_option maxHeartbeats 1000000 in
theorem divide_live (va vb : Value) (w : World) (ha : Rd w va [0, 1]) (hb : Rd w vb [3]) :
    Calls Try.prog 20 #[va, vb] w fun e w' => ∃ q r, e = .returned (.tuple #[q, r]) ∧ Rd w' q [6148914691236517205, 0] ∧ Rd w' r [1] ∧ Below w.heap.size w w' := by
  have ha0 := ha
  obtain ⟨a, ca, rfl, hca, -⟩ := ha
  obtain ⟨b, cb, rfl, hcb, hc⟩ := hb
  obtain ⟨b1, o1, rfl, c0⟩ := hc 0 (by simp)
  have c0 : w.cell? ⟨b1, o1, none⟩ = some (.int .u64 3) := c0
  clear hc
  go_enter Try.func20, Try.ntmps20
  go_wp2_with fail
  refine (divideShort_live _ _ ha0).mono ?_
  rintro e w1 ⟨q, r, rfl, hq, hr, hb1⟩
  go_wp2
  go_ret2
  exact ⟨_, _, rfl, hq, hr, hb1⟩

theorem digs_eq {b : Nat} (hb : 2 ≤ b) {xs ys : List Nat} (hl : M.Low b ys) (ht : M.Trim ys) (e : M.val b xs = M.val b ys) : M.digs b (M.val b xs) = ys := by
  rw [e]; exact (M.eq_digs hb hl ht).symm

theorem trim_last {xs : List Nat} (h : (match xs.getLast? with | some x => decide (x ≠ 0) | none => true) = true) : M.Trim xs := by
  intro n hn
  have e : xs.getLast? = some (xs.getD n 0) := by
    rw [List.getLast?_eq_getElem?, List.getD_eq_getElem?_getD, hn]
    simp
    rw [List.getElem?_eq_getElem (by omega)]; rfl
  rw [e] at h
  simpa using h

set_option maxHeartbeats 1000000 in
theorem divmod_live (va vb : Value) (w : World) (ha : Rd w va [0, 1]) (hb : Rd w vb [3]) :
    Calls Try.prog 9 #[va, vb] w fun e w' => ∃ q r, e = .returned (.tuple #[q, r, .int .i64 0]) ∧ Rd w' q [6148914691236517205] ∧ Rd w' r [1] ∧ Below w.heap.size w w' := by
  have ha0 := ha
  have hb0 := hb
  obtain ⟨a, ca, rfl, hca, -⟩ := ha
  obtain ⟨b, cb, rfl, hcb, -⟩ := hb
  go_enter Try.func9, Try.ntmps9
  go_wp2_with fail
  refine (tooLong2 a b 2 1 ca cb _ 0 2 _ (by simp [go_sem]) (by simp [go_sem]) (by omega) (by omega)).mono ?_
  rintro e w1 ⟨rfl, rfl⟩
  have hb1 : Below w.heap.size w (w.alloc (.cells #[.slice a 2 ca, .slice b 1 cb] 24)) := by go_grown
  have ha1 := ha0.below hb1
  have hbb1 := hb0.below hb1
  go_wp2_with fail
  refine (trimmed_any _ _ [0, 1] ha1 (low_of_all (by decide)) (by decide)).mono ?_
  rintro e w1 ⟨v1, rfl, hv1, rfl⟩
  rw [show M.digs B64 (M.val B64 [0, 1]) = [0, 1] from digs_eq B64_two (low_of_all (by decide)) (trim_last (by decide)) rfl] at hv1
  go_wp2_with fail
  refine (trimmed_any _ _ [3] hbb1 (low_of_all (by decide)) (by decide)).mono ?_
  rintro e w1 ⟨v2, rfl, hv2, rfl⟩
  rw [show M.digs B64 (M.val B64 [3]) = [3] from digs_eq B64_two (low_of_all (by decide)) (trim_last (by decide)) rfl] at hv2
  have hv1' := hv1
  have hv2' := hv2
  obtain ⟨a1, c1, rfl, -, -⟩ := hv1
  obtain ⟨a2, c2, rfl, -, -⟩ := hv2
  generalize w.alloc (.cells #[.slice a 2 ca, .slice b 1 cb] 24) = W at *
  go_wp2_with fail
  refine (divide_live _ _ _ hv1' hv2').mono ?_
  rintro e w2 ⟨q, r, rfl, hq, hr, hb2⟩
  have hq0 := hq
  have hr0 := hr
  obtain ⟨aq, cq, rfl, -, -⟩ := hq
  obtain ⟨ar, cr, rfl, -, -⟩ := hr
  go_wp2_with fail
  refine (trimmed_any _ _ _ hq0 (low_of_all (by decide)) (by decide)).mono ?_
  rintro e w3 ⟨q', rfl, hq', rfl⟩
  rw [show M.digs B64 (M.val B64 [6148914691236517205, 0]) = [6148914691236517205] from digs_eq B64_two (low_of_all (by decide)) (trim_last (by decide)) rfl] at hq'
  go_wp2_with fail
  refine (trimmed_any _ _ _ hr0 (low_of_all (by decide)) (by decide)).mono ?_
  rintro e w3 ⟨r', rfl, hr', rfl⟩
  rw [show M.digs B64 (M.val B64 [1]) = [1] from digs_eq B64_two (low_of_all (by decide)) (trim_last (by decide)) rfl] at hr'
  go_wp2
  go_ret3
  exact ⟨_, _, rfl, hq', hr', Below.after hb1 hb2⟩

theorem rd_lit {w : World} {g : Nat} (hg : g = w.heap.size) (xs : List Nat) : Rd (w.alloc (.cells (cellsOf xs) 22)) (.slice (some ⟨g, 0, none⟩) xs.length xs.length) xs := by
  subst hg; exact (blk_new w xs).rd0 _ (Nat.le_refl _)
theorem Rd.alloc {w : World} {v : Value} {xs : List Nat} (h : Rd w v xs) (o : Obj) : Rd (w.alloc o) v xs := h.below ((Below.refl _ _).alloc (Nat.le_refl _) o)
theorem rd1 (w : World) {g : Nat} (hg : g = w.heap.size) (x : Nat) : Rd (w.alloc (.cells #[.int .u64 (x : Nat)] 22)) (.slice (some ⟨g, 0, none⟩) 1 1) [x] := rd_lit hg [x]
theorem rd2 (w : World) {g : Nat} (hg : g = w.heap.size) (x y : Nat) : Rd (w.alloc (.cells #[.int .u64 (x : Nat), .int .u64 (y : Nat)] 22)) (.slice (some ⟨g, 0, none⟩) 2 2) [x, y] := rd_lit hg [x, y]

set_option maxHeartbeats 2000000 in
theorem live_any (w : World) : Calls Try.prog 5 #[] w fun e w' => e = .returned (.bool true) ∧ Below w.heap.size w w' := by
  go_enter Try.func5, Try.ntmps5
  go_wp2_with fail
  refine (of_live _).mono ?_
  rintro e w1 ⟨v1, rfl, r1, b1⟩
  obtain ⟨a1, c1, rfl, -, -⟩ := id r1
  have d1 : Rd ((w1.alloc (.cells #[.int .u64 0, .int .u64 1] 22)).alloc (.cells #[.int .u64 3] 22)) (.slice (some ⟨w1.heap.size, 0, none⟩) 2 2) [0, 1] := (rd2 w1 rfl 0 1).alloc _
  have d2 : Rd ((w1.alloc (.cells #[.int .u64 0, .int .u64 1] 22)).alloc (.cells #[.int .u64 3] 22)) (.slice (some ⟨w1.heap.size + 1, 0, none⟩) 1 1) [3] := rd1 _ (by simp) 3
  have b2 : Below w1.heap.size w1 ((w1.alloc (.cells #[.int .u64 0, .int .u64 1] 22)).alloc (.cells #[.int .u64 3] 22)) := by go_grown
  go_wp2_with fail
  refine (divmod_live _ _ _ d1 d2).mono ?_
  rintro e w2 ⟨q, r, rfl, rq, rr, b3⟩
  replace r1 := (r1.below b2).below b3
  replace b1 := Below.after (Below.after b1 b2) b3
  clear d1 d2 b2 b3
  obtain ⟨aq, cq, rfl, -, -⟩ := id rq
  obtain ⟨ar, cr, rfl, -, -⟩ := id rr
  have d1 : Rd ((w2.alloc (.cells #[.int .u64 1] 22)).alloc (.cells #[.int .u64 2] 22)) (.slice (some ⟨w2.heap.size, 0, none⟩) 1 1) [1] := (rd1 w2 rfl 1).alloc _
  have d2 : Rd ((w2.alloc (.cells #[.int .u64 1] 22)).alloc (.cells #[.int .u64 2] 22)) (.slice (some ⟨w2.heap.size + 1, 0, none⟩) 1 1) [2] := rd1 _ (by simp) 2
  have b2 : Below w2.heap.size w2 ((w2.alloc (.cells #[.int .u64 1] 22)).alloc (.cells #[.int .u64 2] 22)) := by go_grown
  go_wp2_with fail
  refine (sub_any _ _ [1] [2] _ d1 d2 (low_of_all (by decide)) (low_of_all (by decide)) (by decide) (by decide)).mono ?_
  rintro e w3 ⟨-, he, b3⟩
  have he := he (by decide)
  subst he
  replace r1 := (r1.below b2).below b3
  replace rq := (rq.below b2).below b3
  replace rr := (rr.below b2).below b3
  replace b1 := Below.after (Below.after b1 b2) b3
  clear d1 d2 b2 b3
  have d1 : Rd (w3.alloc (.cells #[.int .u64 5, .int .u64 1] 22)) (.slice (some ⟨w3.heap.size, 0, none⟩) 2 2) [5, 1] := rd2 w3 rfl 5 1
  have b2 : Below w3.heap.size w3 (w3.alloc (.cells #[.int .u64 5, .int .u64 1] 22)) := by go_grown
  go_wp2_with fail
  refine (same_true _ _ [5, 1] _ (r1.below b2) d1 (by decide)).mono ?_
  rintro e w4 ⟨rfl, b3⟩
  replace rq := (rq.below b2).below b3
  replace rr := (rr.below b2).below b3
  replace b1 := Below.after (Below.after b1 b2) b3
  clear d1 b2 b3 r1
  have d1 : Rd (w4.alloc (.cells #[.int .u64 6148914691236517205] 22)) (.slice (some ⟨w4.heap.size, 0, none⟩) 1 1) [6148914691236517205] := rd1 w4 rfl 6148914691236517205
  have b2 : Below w4.heap.size w4 (w4.alloc (.cells #[.int .u64 6148914691236517205] 22)) := by go_grown
  go_wp2_with fail
  refine (same_true _ _ [6148914691236517205] _ (rq.below b2) d1 (by decide)).mono ?_
  rintro e w5 ⟨rfl, b3⟩
  replace rr := (rr.below b2).below b3
  replace b1 := Below.after (Below.after b1 b2) b3
  clear d1 b2 b3 rq
  have d1 : Rd (w5.alloc (.cells #[.int .u64 1] 22)) (.slice (some ⟨w5.heap.size, 0, none⟩) 1 1) [1] := rd1 w5 rfl 1
  have b2 : Below w5.heap.size w5 (w5.alloc (.cells #[.int .u64 1] 22)) := by go_grown
  go_wp2_with fail
  refine (same_true _ _ [1] _ (rr.below b2) d1 (by decide)).mono ?_
  rintro e w6 ⟨rfl, b3⟩
  replace b1 := Below.after (Below.after b1 b2) b3
  clear d1 b2 b3 rr
  go_wp2
  go_ret
  exact ⟨rfl, b1⟩
end Go.Proofs.Ytiahhpkpimaidab
