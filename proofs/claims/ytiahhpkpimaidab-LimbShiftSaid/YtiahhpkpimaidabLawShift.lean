/-
  The walk of the law LimbShift.
-/
import Derived.Test.YtiahhpkpimaidabMul
import Derived.Test.YtiahhpkpimaidabDivMod
import Derived.Test.YtiahhpkpimaidabLive
import Derived.Test.YtiahhpkpimaidabRcmp
import Derived.Test.YtiahhpkpimaidabGreat0
namespace Go.Proofs.Ytiahhpkpimaidab
open Go.RowKit

theorem digs_shift {b : Nat} (hb : 2 ≤ b) {V : Nat} (hV : 0 < V) (n : Nat) : M.digs b (V * b ^ n) = List.replicate n 0 ++ M.digs b V := by
  have hl : M.Low b (List.replicate n 0 ++ M.digs b V) := (M.Low.replicate _ _ (by omega)).append (M.Low.digs hb V)
  have hne : M.digs b V ≠ [] := by intro e; have := M.val_digs hb V; rw [e, M.val_nil] at this; omega
  have ht : M.Trim (List.replicate n 0 ++ M.digs b V) := by
    intro k hk
    have h2 := M.trim_digs hb V
    rw [List.length_append, List.length_replicate] at hk
    have hpos : 0 < (M.digs b V).length := List.length_pos_iff.2 hne
    have := h2 (k - n) (by omega)
    rw [List.getD_eq_getElem?_getD, List.getElem?_append_right (by rw [List.length_replicate]; omega), List.length_replicate, ← List.getD_eq_getElem?_getD]
    exact this
  have e := M.eq_digs hb hl ht
  rw [M.val_append, M.val_replicate, Nat.zero_add, List.length_replicate, M.val_digs hb, Nat.mul_comm] at e
  exact e.symm
theorem lm_rep (n k : Nat) (ys : List Nat) (h : k < n) : lm (List.replicate n 0 ++ ys) k = 0 := by
  unfold lm
  rw [List.getD_eq_getElem?_getD, List.getElem?_append_left (by rw [List.length_replicate]; exact h), List.getElem?_replicate, if_pos h]
  rfl

set_option maxRecDepth 100000 in
set_option maxHeartbeats 4000000 in
theorem shift_walk (va : Value) (xs : List Nat) (n : Nat) (w : World) (ha : Rd w va xs) (la : M.Low B64 xs) (hx : xs.length ≤ 100) (hn : n ≤ 100) :
    Calls Try.prog 4 #[va, .int .i64 (n : Nat)] w fun e w' => e = .returned (.bool true) ∧ Below w.heap.size w w' := by
  obtain ⟨a, ca, rfl, -, -⟩ := id ha
  obtain ⟨V, hV⟩ : ∃ V, V = M.val B64 xs := ⟨_, rfl⟩
  obtain ⟨P, hP⟩ : ∃ P, P = B64 ^ n := ⟨_, rfl⟩
  have hP0 : 0 < P := by rw [hP]; exact Nat.pow_pos B64_pos
  have pX : V < B64 ^ xs.length := by rw [hV]; exact M.val_lt B64_pos la
  have n1 : (M.digs B64 (V * P)).length ≤ xs.length + n := M.digs_len_of_lt B64_two (by rw [Nat.pow_add, ← hP]; exact Nat.mul_lt_mul_of_pos_right pX hP0)
  have n2 : (M.digs B64 V).length ≤ xs.length := M.digs_len_of_lt B64_two pX
  have hv1 : M.val B64 (List.replicate n 0 ++ [1]) = P := by rw [M.val_append, M.val_replicate, List.length_replicate, hP]; simp [M.val]
  have hq : V * P / P = V := Nat.mul_div_cancel _ hP0
  have hr : V * P % P = 0 := Nat.mul_mod_left _ _
  have l1 : M.Low B64 (List.replicate n 0 ++ [1]) := (M.Low.replicate _ _ B64_pos).snoc (by unfold B64; omega)
  have l2 : (List.replicate n 0 ++ [1]).length = n + 1 := by simp
  have hsh : 0 < V → M.digs B64 (V * P) = List.replicate n 0 ++ M.digs B64 V := fun h => by rw [hP]; exact digs_shift B64_two h n
  have hz : V = 0 → M.digs B64 (V * P) = [] := fun h => by rw [h, Nat.zero_mul, M.digs_zero]
  have hz2 : V = 0 → M.digs B64 V = [] := fun h => by rw [h, M.digs_zero]
  have hpos : 0 < V → 0 < (M.digs B64 V).length := fun h => by
    refine Nat.pos_of_ne_zero fun h0 => ?_
    have := M.val_digs B64_two V
    rw [List.length_eq_zero_iff.1 h0, M.val_nil] at this
    omega
  have HV := shut hV
  have HV1 := shut hv1
  have HQ := shut hq
  have HR := shut hr
  have HSH := shut hsh
  have HZ := shut hz
  have HZ2 := shut hz2
  have HPOS := shut hpos
  clear hV hv1 hq hr hsh hz hz2 hpos pX hP
  go_enter Try.func4, Try.ntmps4
  go_wp2_with (at_make; refine wpList_mk rfl _ _ rfl _ (n + 1) rfl rfl (by omega) (by omega) ?_; intro w2 hblk hbel; have g1 := hblk.cell (j := n) (by simp); have g2 := hblk.frozen n)
  have hset := hblk.set n 1
  rw [show (List.replicate (n + 1) 0).set n 1 = List.replicate n 0 ++ [1] by simp [List.replicate_succ']] at hset
  have HSET := shut hset
  clear hset
  obtain ⟨w3, hw3⟩ : ∃ w3, w3 = w2.setCell ⟨w.heap.size, n, none⟩ (.int .u64 1) := ⟨_, rfl⟩
  have bb : Below w.heap.size w w3 := by rw [hw3]; exact hbel.setCell (Nat.le_refl _) _
  have hpw : Rd w3 (.slice (some ⟨w.heap.size, 0, none⟩) (n + 1) (n + 1)) (List.replicate n 0 ++ [1]) := by
    rw [hw3]
    have := HSET.out.rd0 (n + 1) (by rw [l2]; omega)
    rwa [l2] at this
  rw [← hw3]
  clear hw3 HSET g1 g2 hblk hbel
  replace ha := ha.below bb
  refine (mul_any _ _ xs _ _ ha hpw la l1 (by omega) (by rw [l2]; omega)).mono ?_
  rintro e w4 ⟨vp, rfl, rp, bN⟩
  rw [← HV.out, HV1.out] at rp
  replace ha := ha.below bN
  replace hpw := hpw.below bN
  replace bb := Below.after bb bN
  clear bN
  go_wp2_with fail
  refine (divmod_any _ _ _ _ _ rp hpw (M.Low.digs B64_two _) l1 (by omega) (by rw [l2]; omega)).mono ?_
  rintro e w5 ⟨-, hp, bN⟩
  rw [M.val_digs B64_two, HV1.out, HQ.out, HR.out, M.digs_zero] at hp
  obtain ⟨q, r, rfl, rq, rr⟩ := hp hP0
  replace ha := ha.below bN
  replace hpw := hpw.below bN
  replace rp := rp.below bN
  replace bb := Below.after bb bN
  clear bN
  clear hpw
  clear hp
  go_wp2_with fail
  refine (add_any _ _ xs [] _ ha (rd_none _) la (M.Low.nil _) (by omega) (by simp)).mono ?_
  rintro e w6 ⟨vb, rfl, rb, bN⟩
  rw [← HV.out, M.val_nil, Nat.add_zero] at rb
  replace ha := ha.below bN
  replace rp := rp.below bN
  replace rq := rq.below bN
  replace rr := rr.below bN
  replace bb := Below.after bb bN
  clear bN
  clear ha
  obtain ⟨ar, cr, rfl, -, -⟩ := id rr
  go_wp2_with fail
  refine (same_true _ _ _ _ rq rb (by omega)).mono ?_
  rintro e w7 ⟨rfl, bN⟩
  replace rp := rp.below bN
  replace rq := rq.below bN
  replace rr := rr.below bN
  replace rb := rb.below bN
  replace bb := Below.after bb bN
  clear bN
  clear rq rr
  by_cases hV0 : V = 0
  · rw [HZ2.out hV0] at rb
    rw [HZ.out hV0] at rp
    obtain ⟨ab, cb, rfl, -, -⟩ := id rb
    obtain ⟨ap, cp, rfl, -, -⟩ := id rp
    clear rb rp
    go_wp2_with fail
    refine (live_any _).mono ?_
    rintro e w8 ⟨rfl, bN⟩
    replace bb := Below.after bb bN
    go_wp2
    go_ret
    exact ⟨rfl, bb⟩
  · have hVp : 0 < V := Nat.pos_of_ne_zero hV0
    have hl0 := HPOS.out hVp
    rw [HSH.out hVp] at rp
    clear HSH HPOS HZ HZ2 HQ HR HV1 HV n1
    generalize M.digs B64 V = D at *
    have rp0 := rp
    have rb0 := rb
    obtain ⟨ab, cb, rfl, -, -⟩ := rb
    obtain ⟨ap, cp, rfl, hcp, -⟩ := rp
    obtain ⟨l, hl⟩ : ∃ l, l = D.length := ⟨_, rfl⟩
    have hpl : (List.replicate n 0 ++ D).length = n + l := by rw [List.length_append, List.length_replicate, hl]
    have HL := shut hl
    rw [hpl] at rp0 hcp ⊢
    rw [← hl] at rb0 hl0 n2 ⊢
    obtain ⟨bp, op, rfl, -⟩ := rp0.at (Below.refl _ _) (j := 0) (by rw [hpl]; omega)
    have HPL := shut hpl
    clear hl hpl
    have j1 : ¬ (l : Int) = 0 := by omega
    have j3 : (n : Int) + (l : Int) = (l : Int) + (n : Int) := by omega
    go_wp2
    go_loop [13] (fun i => ∃ k : Nat, k ≤ n ∧ i = .int .i64 k) (fun i => n - (intOf i).toNat)
    case atStart => exact ⟨0, by omega, rfl⟩
    case round =>
      obtain ⟨k, hk, rfl⟩ := hrel
      by_cases hlt : k < n
      · obtain ⟨bp', op', ee, qk⟩ := rp0.at (Below.refl _ _) (j := k) (by rw [HPL.out]; omega)
        simp only [Option.some.injEq, Addr.mk.injEq, and_true] at ee
        obtain ⟨rfl, rfl⟩ := ee
        rw [lm_rep n k D hlt] at qk
        have i3 : (k : Int) < (n : Int) + (l : Int) := by omega
        go_wp2
        exact ⟨⟨k + 1, by omega, by go_num⟩, by simp [intOf]; omega⟩
      · have hke : k = n := by omega
        subst hke
        have rt := rp0.drop k l (cp - k) (by rw [HPL.out]; omega) (by omega)
        rw [List.drop_left' (by rw [List.length_replicate])] at rt
        have c1 : ¬ cp = k := by omega
        have c2 : k + l - k = l := by omega
        have c3 : (k : Int) ≤ (k : Int) + (l : Int) := by omega
        go_wp2_with fail
        refine (same_true _ _ _ _ rt rb0 (by rw [← HL.out]; omega)).mono ?_
        rintro e w8 ⟨rfl, bN⟩
        replace bb := Below.after bb bN
        go_wp2_with fail
        refine (live_any _).mono ?_
        rintro e w9 ⟨rfl, bN⟩
        replace bb := Below.after bb bN
        go_wp2
        go_ret
        exact ⟨rfl, bb⟩

set_option maxHeartbeats 1000000 in
theorem shift_out (a : Option Addr) (m c : Nat) (n : Int) (w : World) (h : 100 < m ∨ n < 0 ∨ 100 < n) :
    Calls Try.prog 4 #[.slice a m c, .int .i64 n] w fun e w' => e = .returned (.bool true) ∧ Below w.heap.size w w' := by
  by_cases h1 : 100 < m
  · clear h
    go_enter Try.func4, Try.ntmps4
    go_wp2_with fail
    refine (live_any _).mono ?_
    rintro e w1 ⟨rfl, bb⟩
    go_wp2
    go_ret
    exact ⟨rfl, bb⟩
  · by_cases h2 : n < 0
    · clear h
      go_enter Try.func4, Try.ntmps4
      go_wp2_with fail
      refine (live_any _).mono ?_
      rintro e w1 ⟨rfl, bb⟩
      go_wp2
      go_ret
      exact ⟨rfl, bb⟩
    · have h3 : 100 < n := (h.resolve_left h1).resolve_left h2
      clear h
      go_enter Try.func4, Try.ntmps4
      go_wp2_with fail
      refine (live_any _).mono ?_
      rintro e w1 ⟨rfl, bb⟩
      go_wp2
      go_ret
      exact ⟨rfl, bb⟩
end Go.Proofs.Ytiahhpkpimaidab
