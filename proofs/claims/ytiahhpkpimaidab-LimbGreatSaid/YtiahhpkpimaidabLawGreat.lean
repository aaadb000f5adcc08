/-
  The walk of the law LimbGreat.
-/
import Derived.Test.YtiahhpkpimaidabMul
import Derived.Test.YtiahhpkpimaidabDivMod
import Derived.Test.YtiahhpkpimaidabLive
import Derived.Test.YtiahhpkpimaidabSubs
import Derived.Test.YtiahhpkpimaidabOrds
import Derived.Test.YtiahhpkpimaidabLNat
import Derived.Test.YtiahhpkpimaidabGreat0
namespace Go.Proofs.Ytiahhpkpimaidab
open Go.RowKit

theorem set_last (n x : Nat) : (List.replicate (n + 1) 0).set n x = List.replicate n 0 ++ [x] := by
  simp [List.replicate_succ']
theorem strOf_ne {V : Nat} (h : 0 < V) : ¬ strOf V = { data := #[] } := by
  intro e
  have h1 : (strOf V).data.size = 0 := by rw [e]; rfl
  have h2 : (strOf V).data.size = (M.digs 256 V).length := by simp [strOf, strB]
  rw [h2] at h1
  have := M.val_digs (b := 256) (by omega) V
  rw [List.length_eq_zero_iff.1 h1, M.val_nil] at this
  omega

set_option maxRecDepth 100000 in
set_option maxHeartbeats 4000000 in
theorem great_long0 (n : Nat) (w : World) (hn : 4000 < n) (hn4 : n ≤ 4100) :
    Calls Try.prog 3 #[.int .i64 (n : Nat), .int .u64 0] w fun e w' => e = .returned (.bool true) ∧ Below w.heap.size w w' := by
  obtain ⟨n1, hn1⟩ : ∃ n1, n = n1 + 1 := ⟨n - 1, by omega⟩
  have i1 : (n : Int) - 1 = (n1 : Int) := by omega
  have i2 : (n1 : Int) < (n : Int) := by omega
  have l2 : (List.replicate n1 0 ++ [0]).length = n := by simp [hn1]
  have H1 := shut hn1
  clear hn1
  go_enter Try.func3, Try.ntmps3
  go_wp2_with (at_make; refine wpList_mk rfl _ _ rfl _ n rfl rfl (by omega) (by omega) ?_; intro w2 hblk hbel; have g1 := hblk.cell (j := n1) (by rw [List.length_replicate]; omega); have g2 := hblk.frozen n1)
  have hset := hblk.set n1 0
  rw [H1.out, set_last] at hset
  have HSET := shut hset
  clear hset
  obtain ⟨w3, hw3⟩ : ∃ w3, w3 = w2.setCell ⟨w.heap.size, n1, none⟩ (.int .u64 0) := ⟨_, rfl⟩
  have bb : Below w.heap.size w w3 := by rw [hw3]; exact hbel.setCell (Nat.le_refl _) _
  have hl : Rd w3 (.slice (some ⟨w.heap.size, 0, none⟩) n n) (List.replicate n1 0 ++ [0]) := by
    rw [hw3]
    have := HSET.out.rd0 n (by rw [l2]; omega)
    rw [l2] at this
    exact this
  rw [← hw3]
  clear hw3 HSET g1 g2 hblk hbel
  refine (add_long (some ⟨w.heap.size, 0, none⟩) none n 0 n 0 _ (Or.inl hn)).mono ?_
  rintro e w4 ⟨rfl, bN⟩
  replace bb := Below.after bb bN
  clear bN
  go_wp2_with fail
  refine (sub_long (some ⟨w.heap.size, 0, none⟩) none n 0 n 0 _ (Or.inl hn)).mono ?_
  rintro e w5 ⟨rfl, bN⟩
  replace bb := Below.after bb bN
  clear bN
  go_wp2_with fail
  refine (mul_long none (some ⟨w.heap.size, 0, none⟩) 0 n 0 n _ (Or.inr hn)).mono ?_
  rintro e w6 ⟨rfl, bN⟩
  replace bb := Below.after bb bN
  clear bN
  go_wp2_with fail
  refine (divmod_long none (some ⟨w.heap.size, 0, none⟩) 0 n 0 n _ (Or.inr hn)).mono ?_
  rintro e w7 ⟨rfl, bN⟩
  replace bb := Below.after bb bN
  clear bN
  go_wp2_with fail
  refine (cmp_long none (some ⟨w.heap.size, 0, none⟩) 0 n 0 n _ (Or.inr hn)).mono ?_
  rintro e w8 ⟨rfl, bN⟩
  replace bb := Below.after bb bN
  clear bN
  go_wp2_with fail
  refine (nat_long _ n n _ hn).mono ?_
  rintro e w9 ⟨rfl, bN⟩
  replace bb := Below.after bb bN
  clear bN
  go_wp2_with fail
  refine (live_any _).mono ?_
  rintro e w10 ⟨rfl, bN⟩
  replace bb := Below.after bb bN
  clear bN
  go_wp2
  go_ret
  exact ⟨rfl, bb⟩

set_option maxRecDepth 100000 in
set_option maxHeartbeats 4000000 in
theorem great_long (n : Nat) (one : Nat) (h0 : one ≠ 0) (w : World) (hn : 4000 < n) (hn4 : n ≤ 4100) :
    Calls Try.prog 3 #[.int .i64 (n : Nat), .int .u64 (one : Nat)] w fun e w' => e = .returned (.bool true) ∧ Below w.heap.size w w' := by
  obtain ⟨n1, hn1⟩ : ∃ n1, n = n1 + 1 := ⟨n - 1, by omega⟩
  have i1 : (n : Int) - 1 = (n1 : Int) := by omega
  have i2 : (n1 : Int) < (n : Int) := by omega
  have l2 : (List.replicate n1 0 ++ [one]).length = n := by simp [hn1]
  have h0' : ¬ (one : Int) = 0 := by omega
  have H1 := shut hn1
  clear hn1
  go_enter Try.func3, Try.ntmps3
  go_wp2_with (at_make; refine wpList_mk rfl _ _ rfl _ n rfl rfl (by omega) (by omega) ?_; intro w2 hblk hbel; have g1 := hblk.cell (j := n1) (by rw [List.length_replicate]; omega); have g2 := hblk.frozen n1)
  have hset := hblk.set n1 one
  rw [H1.out, set_last] at hset
  have HSET := shut hset
  clear hset
  obtain ⟨w3, hw3⟩ : ∃ w3, w3 = w2.setCell ⟨w.heap.size, n1, none⟩ (.int .u64 (one : Nat)) := ⟨_, rfl⟩
  have bb : Below w.heap.size w w3 := by rw [hw3]; exact hbel.setCell (Nat.le_refl _) _
  have hl : Rd w3 (.slice (some ⟨w.heap.size, 0, none⟩) n n) (List.replicate n1 0 ++ [one]) := by
    rw [hw3]
    have := HSET.out.rd0 n (by rw [l2]; omega)
    rwa [l2] at this
  rw [← hw3]
  clear hw3 HSET g1 g2 hblk hbel
  refine (add_long (some ⟨w.heap.size, 0, none⟩) none n 0 n 0 _ (Or.inl hn)).mono ?_
  rintro e w4 ⟨rfl, bN⟩
  replace bb := Below.after bb bN
  clear bN
  go_wp2_with fail
  refine (sub_long (some ⟨w.heap.size, 0, none⟩) none n 0 n 0 _ (Or.inl hn)).mono ?_
  rintro e w5 ⟨rfl, bN⟩
  replace bb := Below.after bb bN
  clear bN
  go_wp2_with fail
  refine (mul_long none (some ⟨w.heap.size, 0, none⟩) 0 n 0 n _ (Or.inr hn)).mono ?_
  rintro e w6 ⟨rfl, bN⟩
  replace bb := Below.after bb bN
  clear bN
  go_wp2_with fail
  refine (divmod_long none (some ⟨w.heap.size, 0, none⟩) 0 n 0 n _ (Or.inr hn)).mono ?_
  rintro e w7 ⟨rfl, bN⟩
  replace bb := Below.after bb bN
  clear bN
  go_wp2_with fail
  refine (cmp_long none (some ⟨w.heap.size, 0, none⟩) 0 n 0 n _ (Or.inr hn)).mono ?_
  rintro e w8 ⟨rfl, bN⟩
  replace bb := Below.after bb bN
  clear bN
  go_wp2_with fail
  refine (nat_long _ n n _ hn).mono ?_
  rintro e w9 ⟨rfl, bN⟩
  replace bb := Below.after bb bN
  clear bN
  go_wp2_with fail
  refine (live_any _).mono ?_
  rintro e w10 ⟨rfl, bN⟩
  replace bb := Below.after bb bN
  clear bN
  go_wp2
  go_ret
  exact ⟨rfl, bb⟩

set_option maxRecDepth 100000 in
set_option maxHeartbeats 4000000 in
theorem great_zero (n : Nat) (w : World) (hn : n ≤ 4000) (h1 : 1 ≤ n) :
    Calls Try.prog 3 #[.int .i64 (n : Nat), .int .u64 0] w fun e w' => e = .returned (.bool true) ∧ Below w.heap.size w w' := by
  obtain ⟨n1, hn1⟩ : ∃ n1, n = n1 + 1 := ⟨n - 1, by omega⟩
  have i1 : (n : Int) - 1 = (n1 : Int) := by omega
  have i2 : (n1 : Int) < (n : Int) := by omega
  have l2 : (List.replicate n1 0 ++ [0]).length = n := by simp [hn1]
  have l1 : M.Low B64 (List.replicate n1 0 ++ [0]) := (M.Low.replicate _ _ B64_pos).snoc B64_pos
  have hv : M.val B64 (List.replicate n1 0 ++ [0]) = B64 ^ n1 * 0 := by rw [M.val_append, M.val_replicate, List.length_replicate]; simp [M.val]
  have HVL : Hid (M.val B64 (List.replicate n1 0 ++ [0]) = 0) := by show _ = _; rw [hv, Nat.mul_zero]
  have HE : Hid (strOf (M.val B64 (List.replicate n1 0 ++ [0])) = ByteArray.empty) := by show _ = _; rw [HVL.out]; rfl
  clear hv
  have H1 := shut hn1
  clear hn1
  go_enter Try.func3, Try.ntmps3
  go_wp2_with (at_make; refine wpList_mk rfl _ _ rfl _ n rfl rfl (by omega) (by omega) ?_; intro w2 hblk hbel; have g1 := hblk.cell (j := n1) (by rw [List.length_replicate]; omega); have g2 := hblk.frozen n1)
  have hset := hblk.set n1 0
  rw [H1.out, set_last] at hset
  have HSET := shut hset
  clear hset
  obtain ⟨w3, hw3⟩ : ∃ w3, w3 = w2.setCell ⟨w.heap.size, n1, none⟩ (.int .u64 0) := ⟨_, rfl⟩
  have bb : Below w.heap.size w w3 := by rw [hw3]; exact hbel.setCell (Nat.le_refl _) _
  have hl : Rd w3 (.slice (some ⟨w.heap.size, 0, none⟩) n n) (List.replicate n1 0 ++ [0]) := by
    rw [hw3]
    have := HSET.out.rd0 n (by rw [l2]; omega)
    rw [l2] at this
    exact this
  rw [← hw3]
  clear hw3 HSET g1 g2 hblk hbel
  refine (add_any _ _ _ [] _ hl (rd_none _) l1 (M.Low.nil _) (by rw [l2]; omega) (by simp)).mono ?_
  rintro e w4 ⟨v1, rfl, -, bN⟩
  replace hl := hl.below bN
  replace bb := Below.after bb bN
  clear bN
  go_wp2_with fail
  refine (sub_any _ _ _ [] _ hl (rd_none _) l1 (M.Low.nil _) (by rw [l2]; omega) (by simp)).mono ?_
  rintro e w5 ⟨hs, -, bN⟩
  obtain ⟨v2, rfl, -⟩ := hs (by rw [M.val_nil]; exact Nat.zero_le _)
  replace hl := hl.below bN
  replace bb := Below.after bb bN
  clear bN
  go_wp2_with fail
  refine (mul_any _ _ [] _ _ (rd_none _) hl (M.Low.nil _) l1 (by simp) (by rw [l2]; omega)).mono ?_
  rintro e w6 ⟨v3, rfl, -, bN⟩
  replace hl := hl.below bN
  replace bb := Below.after bb bN
  clear bN
  go_wp2_with fail
  refine (divmod_any _ _ [] _ _ (rd_none _) hl (M.Low.nil _) l1 (by simp) (by rw [l2]; omega)).mono ?_
  rintro e w7 ⟨hz, -, bN⟩
  obtain rfl := hz HVL.out
  replace hl := hl.below bN
  replace bb := Below.after bb bN
  clear bN
  go_wp2_with fail
  refine (cmp_any _ _ [] _ _ (rd_none _) hl (M.Low.nil _) l1 (by simp) (by rw [l2]; omega)).mono ?_
  rintro e w8 ⟨rfl, bN⟩
  replace hl := hl.below bN
  replace bb := Below.after bb bN
  clear bN
  go_wp2_with fail
  refine (nat_any _ _ _ hl l1 (by rw [l2]; omega)).mono ?_
  rintro e w9 ⟨rfl, bN⟩
  rw [HE.out]
  replace hl := hl.below bN
  replace bb := Below.after bb bN
  clear bN
  go_wp2_with fail
  refine (live_any _).mono ?_
  rintro e w10 ⟨rfl, bN⟩
  replace hl := hl.below bN
  replace bb := Below.after bb bN
  clear bN
  go_wp2
  go_ret
  exact ⟨rfl, bb⟩

set_option maxRecDepth 100000 in
set_option maxHeartbeats 4000000 in
theorem great_some (n : Nat) (one : Nat) (ho : one < B64) (h0 : one ≠ 0) (w : World) (hn : n ≤ 4000) (h1 : 1 ≤ n) :
    Calls Try.prog 3 #[.int .i64 (n : Nat), .int .u64 (one : Nat)] w fun e w' => e = .returned (.bool true) ∧ Below w.heap.size w w' := by
  obtain ⟨n1, hn1⟩ : ∃ n1, n = n1 + 1 := ⟨n - 1, by omega⟩
  have i1 : (n : Int) - 1 = (n1 : Int) := by omega
  have i2 : (n1 : Int) < (n : Int) := by omega
  have l2 : (List.replicate n1 0 ++ [one]).length = n := by simp [hn1]
  have h0' : ¬ (one : Int) = 0 := by omega
  have l1 : M.Low B64 (List.replicate n1 0 ++ [one]) := (M.Low.replicate _ _ B64_pos).snoc ho
  have hv : M.val B64 (List.replicate n1 0 ++ [one]) = B64 ^ n1 * one := by rw [M.val_append, M.val_replicate, List.length_replicate]; simp [M.val]
  have HVL : Hid (0 < M.val B64 (List.replicate n1 0 ++ [one])) := by show _ < _; rw [hv]; exact Nat.mul_pos (Nat.pow_pos B64_pos) (Nat.pos_of_ne_zero h0)
  obtain ⟨st, hst⟩ : ∃ st, st = strOf (M.val B64 (List.replicate n1 0 ++ [one])) := ⟨_, rfl⟩
  have HE := shut hst.symm
  have hne : ¬ st = { data := #[] } := by rw [hst]; exact strOf_ne HVL.out
  have hs0 : 0 < st.size := Nat.pos_of_ne_zero fun h => hne (ByteArray.size_eq_zero_iff.1 h)
  have g4 := toList_ne hs0
  have g5 : st.toList.isEmpty = false := by simpa using g4
  have g6 : ¬ (st.size : Int) = 0 := by omega
  clear hv hst
  have H1 := shut hn1
  clear hn1
  go_enter Try.func3, Try.ntmps3
  go_wp2_with (at_make; refine wpList_mk rfl _ _ rfl _ n rfl rfl (by omega) (by omega) ?_; intro w2 hblk hbel; have g1 := hblk.cell (j := n1) (by rw [List.length_replicate]; omega); have g2 := hblk.frozen n1)
  have hset := hblk.set n1 one
  rw [H1.out, set_last] at hset
  have HSET := shut hset
  clear hset
  obtain ⟨w3, hw3⟩ : ∃ w3, w3 = w2.setCell ⟨w.heap.size, n1, none⟩ (.int .u64 (one : Nat)) := ⟨_, rfl⟩
  have bb : Below w.heap.size w w3 := by rw [hw3]; exact hbel.setCell (Nat.le_refl _) _
  have hl : Rd w3 (.slice (some ⟨w.heap.size, 0, none⟩) n n) (List.replicate n1 0 ++ [one]) := by
    rw [hw3]
    have := HSET.out.rd0 n (by rw [l2]; omega)
    rwa [l2] at this
  rw [← hw3]
  clear hw3 HSET g1 g2 hblk hbel
  refine (add_any _ _ _ [] _ hl (rd_none _) l1 (M.Low.nil _) (by rw [l2]; omega) (by simp)).mono ?_
  rintro e w4 ⟨v1, rfl, -, bN⟩
  replace hl := hl.below bN
  replace bb := Below.after bb bN
  clear bN
  go_wp2_with fail
  refine (sub_any _ _ _ [] _ hl (rd_none _) l1 (M.Low.nil _) (by rw [l2]; omega) (by simp)).mono ?_
  rintro e w5 ⟨hs, -, bN⟩
  obtain ⟨v2, rfl, -⟩ := hs (by rw [M.val_nil]; exact Nat.zero_le _)
  replace hl := hl.below bN
  replace bb := Below.after bb bN
  clear bN
  go_wp2_with fail
  refine (mul_any _ _ [] _ _ (rd_none _) hl (M.Low.nil _) l1 (by simp) (by rw [l2]; omega)).mono ?_
  rintro e w6 ⟨v3, rfl, -, bN⟩
  replace hl := hl.below bN
  replace bb := Below.after bb bN
  clear bN
  go_wp2_with fail
  refine (divmod_any _ _ [] _ _ (rd_none _) hl (M.Low.nil _) l1 (by simp) (by rw [l2]; omega)).mono ?_
  rintro e w7 ⟨-, hz, bN⟩
  obtain ⟨v4, v5, rfl, -, -⟩ := hz HVL.out
  replace hl := hl.below bN
  replace bb := Below.after bb bN
  clear bN
  go_wp2_with fail
  refine (cmp_any _ _ [] _ _ (rd_none _) hl (M.Low.nil _) l1 (by simp) (by rw [l2]; omega)).mono ?_
  rintro e w8 ⟨rfl, bN⟩
  replace hl := hl.below bN
  replace bb := Below.after bb bN
  clear bN
  go_wp2_with fail
  refine (nat_any _ _ _ hl l1 (by rw [l2]; omega)).mono ?_
  rintro e w9 ⟨rfl, bN⟩
  rw [HE.out]
  replace hl := hl.below bN
  replace bb := Below.after bb bN
  clear bN
  go_wp2_with fail
  refine (live_any _).mono ?_
  rintro e w10 ⟨rfl, bN⟩
  replace hl := hl.below bN
  replace bb := Below.after bb bN
  clear bN
  go_wp2
  go_ret
  exact ⟨rfl, bb⟩

theorem great_out (n : Int) (one : Value) (w : World) (h : n < 1 ∨ 4100 < n) :
    Calls Try.prog 3 #[.int .i64 n, one] w fun e w' => e = .returned (.bool true) ∧ Below w.heap.size w w' := by
  by_cases h1 : n < 1
  · clear h
    go_enter Try.func3, Try.ntmps3
    go_wp2_with fail
    refine (live_any _).mono ?_
    rintro e w1 ⟨rfl, bb⟩
    go_wp2
    go_ret
    exact ⟨rfl, bb⟩
  · have h2 : 4100 < n := h.resolve_left h1
    clear h
    go_enter Try.func3, Try.ntmps3
    go_wp2_with fail
    refine (live_any _).mono ?_
    rintro e w1 ⟨rfl, bb⟩
    go_wp2
    go_ret
    exact ⟨rfl, bb⟩
end Go.Proofs.Ytiahhpkpimaidab
