/-
  limb.Sub.
-/
import Derived.Test.YtiahhpkpimaidabSums
namespace Go.Proofs.Ytiahhpkpimaidab
open Go.RowKit

theorem dif64_eq {x y c : Nat} (hx : x < B64) (hy : y < B64) (hc : c ≤ 1) : dif64 x y c + y + c = x + B64 * bor64 x y c := by
  unfold dif64 bor64; unfold B64 at *
  split <;> omega
theorem bor64_le (x y c : Nat) : bor64 x y c ≤ 1 := by unfold bor64; split <;> omega
theorem dif64_lt (x y c : Nat) : dif64 x y c < B64 := Nat.mod_lt _ (by omega)
theorem sub_step {X Y V p x y c d b : Nat} (e : d + y + c = x + B64 * b) (h : V + Y = X + p * c) : (V + p * d) + (Y + p * y) = (X + p * x) + p * B64 * b := by
  have : p * (d + y + c) = p * (x + B64 * b) := by rw [e]
  simp only [Nat.mul_add, ← Nat.mul_assoc] at this
  omega

def SubAt (xs ys zs : List Nat) (k c : Nat) : Prop := zs.length = k ∧ M.Low B64 zs ∧ c ≤ 1 ∧ M.val B64 zs + M.val B64 (ys.take k) = M.val B64 (xs.take k) + B64 ^ k * c

theorem SubAt.step {xs ys zs : List Nat} {k c : Nat} (la : M.Low B64 xs) (lb : M.Low B64 ys) (h : SubAt xs ys zs k c) : SubAt xs ys (zs ++ [dif64 (lm xs k) (lm ys k) c]) (k + 1) (bor64 (lm xs k) (lm ys k) c) := by
  obtain ⟨h1, h2, h3, h4⟩ := h
  refine ⟨by simp [h1], h2.snoc (dif64_lt _ _ _), bor64_le _ _ _, ?_⟩
  rw [M.val_snoc, h1, M.val_take_succ, M.val_take_succ, Nat.pow_succ]
  exact sub_step (dif64_eq (lm_lt B64_pos la k) (lm_lt B64_pos lb k) h3) h4

theorem SubAt.fin {xs ys zs : List Nat} {n c : Nat} (hx : xs.length ≤ n) (hy : ys.length ≤ n) (h : SubAt xs ys zs n c) :
    (c = 0 → M.val B64 ys ≤ M.val B64 xs ∧ M.val B64 zs = M.val B64 xs - M.val B64 ys) ∧ (c ≠ 0 → M.val B64 xs < M.val B64 ys) := by
  obtain ⟨h1, h2, h3, h4⟩ := h
  rw [M.val_take_all _ _ _ hx, M.val_take_all _ _ _ hy] at h4
  have e3 := M.val_lt B64_pos h2
  rw [h1] at e3
  generalize B64 ^ n = p at *
  refine ⟨fun e => ?_, fun e => ?_⟩
  · subst e; omega
  · have : c = 1 := by omega
    subst this; omega

set_option maxHeartbeats 1000000 in
theorem sub_any (va vb : Value) (xs ys : List Nat) (w : World) (ha : Rd w va xs) (hb : Rd w vb ys) (la : M.Low B64 xs) (lb : M.Low B64 ys) (hx : xs.length ≤ 4000) (hy : ys.length ≤ 4000) :
    Calls Try.prog 7 #[va, vb] w fun e w' => (M.val B64 ys ≤ M.val B64 xs → ∃ v, e = .returned (.tuple #[v, .int .i64 0]) ∧ Rd w' v (M.digs B64 (M.val B64 xs - M.val B64 ys))) ∧ (M.val B64 xs < M.val B64 ys → e = .returned (.tuple #[.slice none 0 0, .int .i64 2])) ∧ Below w.heap.size w w' := by
  have ha0 := ha
  have hb0 := hb
  obtain ⟨a, ca, rfl, hca, -⟩ := ha
  obtain ⟨b, cb, rfl, hcb, -⟩ := hb
  obtain ⟨n, hn⟩ : ∃ n, n = max xs.length ys.length := ⟨_, rfl⟩
  have hxn : xs.length ≤ n := by omega
  have hyn : ys.length ≤ n := by omega
  have hn4 : n ≤ 4000 := by omega
  have HN : Hid (n = max xs.length ys.length) := hn
  clear hn
  go_enter Try.func7, Try.ntmps7
  go_wp2_with fail
  refine (tooLong2 a b xs.length ys.length ca cb _ 0 2 _ (by simp [go_sem]) (by simp [go_sem]) hx hy).mono ?_
  rintro e w1 ⟨rfl, rfl⟩
  go_wp2_with fail
  refine (reader_any _ _ _ _).mono ?_
  rintro e w1 ⟨rfl, rfl⟩
  go_wp2_with fail
  refine (reader_any _ _ _ _).mono ?_
  rintro e w1 ⟨rfl, rfl⟩
  obtain ⟨w0, hw0⟩ : ∃ w0, w0 = ((w.alloc (.cells #[.slice a xs.length ca, .slice b ys.length cb] 24)).alloc (.cells #[.slice a xs.length ca] 24)).alloc (.cells #[.slice b ys.length cb] 24) := ⟨_, rfl⟩
  have hb0' : Below w.heap.size w w0 := by subst hw0; go_grown
  have pA : w0.cell? ⟨w.heap.size + 1, 0, none⟩ = some (.slice a xs.length ca) := by subst hw0; simp [go_sem]
  have pB : w0.cell? ⟨w.heap.size + 1 + 1, 0, none⟩ = some (.slice b ys.length cb) := by subst hw0; simp [go_sem]
  have rA := ha0.below hb0'
  have rB := hb0.below hb0'
  rw [← hw0]
  clear hw0
  go_wp2_with (at_make; refine wpList_mk rfl _ _ rfl _ n rfl rfl (by have := HN.out; omega) (by omega) ?_; intro w2 hblk hbel)
  all_goals
    clear h
    go_loopw [9, 27] (fun c i wr => ∃ (k cc : Nat) (zs : List Nat), k ≤ n ∧ i = .int .i64 k ∧ c = .int .u64 cc ∧ SubAt xs ys zs k cc ∧ Blk wr w0.heap.size (zs ++ List.replicate (n - k) 0) ∧ Below w0.heap.size w0 wr) (fun _ i _ => n - (intOf i).toNat)
    case atStart => exact ⟨0, 0, [], by omega, rfl, rfl, ⟨rfl, M.Low.nil _, by omega, by simp [M.val]⟩, by simpa using hblk, hbel⟩
    case round =>
      obtain ⟨k, cc, zs, hk, rfl, rfl, hat, hblk', hbel'⟩ := hrel
      have hcc : cc ≤ 1 := hat.2.2.1
      have hzl : zs.length = k := hat.1
      by_cases hlt : k < n
      · have qA := cell_below pA hbel'
        have qB := cell_below pB hbel'
        have sA := rA.below hbel'
        have sB := rB.below hbel'
        have hc1 := hblk'.cell (j := k) (by simp; omega)
        have hf1 := hblk'.frozen k
        have hst := hat.step la lb
        clear hblk hbel pA pB rA rB ha0 hb0
        go_wp2_with fail
        refine (reader1 k (by omega) wr _ xs _ qA sA).mono ?_
        rintro e w' ⟨rfl, rfl⟩
        go_wp2_with fail
        refine (reader1 k (by omega) _ _ ys _ qB sB).mono ?_
        rintro e w' ⟨rfl, rfl⟩
        go_wp2_with (simp only [Int.toNat_natCast, sub64 (lm xs k) (lm ys k) cc hcc])
        go_roundw
        case rel =>
          refine ⟨k + 1, _, _, by omega, by go_num, rfl, hst, ?_, hbel'.setCell (Nat.le_refl _) _⟩
          have hs := hblk'.set k (dif64 (lm xs k) (lm ys k) cc)
          rw [show n - k = (n - (k + 1)) + 1 by omega] at hs
          have e := M.set_append_replicate zs (n - (k + 1)) (dif64 (lm xs k) (lm ys k) cc)
          rw [hzl] at e
          rw [e] at hs
          exact hs
        case measure => simp [intOf]; omega
      · have hke : k = n := by omega
        subst hke
        obtain ⟨f0, f1⟩ := hat.fin hxn hyn
        have hrd : Rd wr (.slice (some ⟨w0.heap.size, 0, none⟩) k k) zs := by
          have := hblk'.rd0 k (by simp; omega)
          simpa [hzl] using this
        have F0 : Hid (cc = 0 → M.val B64 ys ≤ M.val B64 xs ∧ M.val B64 zs = M.val B64 xs - M.val B64 ys) := f0
        have F1 : Hid (cc ≠ 0 → M.val B64 xs < M.val B64 ys) := f1
        clear f0 f1
        by_cases hc0 : cc = 0
        · subst hc0
          go_wp2_with fail
          refine (trimmed_any _ _ zs hrd hat.2.1 (by omega)).mono ?_
          rintro e w' ⟨v', rfl, hv', rfl⟩
          go_wp2
          go_ret2
          obtain ⟨g1, g2⟩ := F0.out (by trivial)
          exact ⟨fun _ => ⟨_, rfl, by rw [← g2]; exact hv'⟩, fun h => by omega, Below.after hb0' hbel'⟩
        · go_wp2
          go_ret2
          have g1 := F1.out hc0
          exact ⟨fun h => by omega, fun _ => rfl, Below.after hb0' hbel'⟩
end Go.Proofs.Ytiahhpkpimaidab
