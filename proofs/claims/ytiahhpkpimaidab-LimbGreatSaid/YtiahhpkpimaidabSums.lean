/-
  limb.Add.
-/
import Derived.Test.YtiahhpkpimaidabBlk
namespace Go.Proofs.Ytiahhpkpimaidab
open Go.RowKit

/-- One step of adding: the invariant goes on. -/
theorem add_step {X Y V p x y c : Nat} (h : V + p * c = X + Y) : (V + p * sum64 x y c) + p * B64 * car64 x y c = (X + p * x) + (Y + p * y) := by
  have e : sum64 x y c + B64 * car64 x y c = x + y + c := Nat.mod_add_div _ _
  have : p * (sum64 x y c + B64 * car64 x y c) = p * (x + y + c) := by rw [e]
  simp only [Nat.mul_add, ← Nat.mul_assoc] at this
  omega
theorem car64_le {x y c : Nat} (hx : x < B64) (hy : y < B64) (hc : c ≤ 1) : car64 x y c ≤ 1 := by
  unfold car64; unfold B64 at hx hy; omega
theorem sum64_lt (x y c : Nat) : sum64 x y c < B64 := Nat.mod_lt _ (by omega)

/-- What has been added behind k rounds. -/
def AddAt (xs ys zs : List Nat) (k c : Nat) : Prop := zs.length = k ∧ M.Low B64 zs ∧ c ≤ 1 ∧ M.val B64 zs + B64 ^ k * c = M.val B64 (xs.take k) + M.val B64 (ys.take k)

theorem AddAt.step {xs ys zs : List Nat} {k c : Nat} (la : M.Low B64 xs) (lb : M.Low B64 ys) (h : AddAt xs ys zs k c) : AddAt xs ys (zs ++ [sum64 (lm xs k) (lm ys k) c]) (k + 1) (car64 (lm xs k) (lm ys k) c) := by
  obtain ⟨h1, h2, h3, h4⟩ := h
  refine ⟨by simp [h1], h2.snoc (sum64_lt _ _ _), car64_le (lm_lt B64_pos la k) (lm_lt B64_pos lb k) h3, ?_⟩
  rw [M.val_snoc, h1, M.val_take_succ, M.val_take_succ, Nat.pow_succ]
  exact add_step h4

theorem AddAt.fin {xs ys zs : List Nat} {n c : Nat} (la : M.Low B64 xs) (lb : M.Low B64 ys) (hx : xs.length < n) (hy : ys.length < n) (h : AddAt xs ys zs n c) : M.val B64 zs = M.val B64 xs + M.val B64 ys := by
  obtain ⟨h1, h2, h3, h4⟩ := h
  rw [M.val_take_all _ _ _ (by omega), M.val_take_all _ _ _ (by omega)] at h4
  exact M.carry_zero B64_two la lb hx hy h3 h4

set_option maxHeartbeats 1000000 in
theorem add_any (va vb : Value) (xs ys : List Nat) (w : World) (ha : Rd w va xs) (hb : Rd w vb ys) (la : M.Low B64 xs) (lb : M.Low B64 ys) (hx : xs.length ≤ 4000) (hy : ys.length ≤ 4000) :
    Calls Try.prog 6 #[va, vb] w fun e w' => ∃ v, e = .returned (.tuple #[v, .int .i64 0]) ∧ Rd w' v (M.digs B64 (M.val B64 xs + M.val B64 ys)) ∧ Below w.heap.size w w' := by
  have ha0 := ha
  have hb0 := hb
  obtain ⟨a, ca, rfl, hca, -⟩ := ha
  obtain ⟨b, cb, rfl, hcb, -⟩ := hb
  obtain ⟨n, hn⟩ : ∃ n, n = max xs.length ys.length := ⟨_, rfl⟩
  have hxn : xs.length ≤ n := by omega
  have hyn : ys.length ≤ n := by omega
  have hn4 : n ≤ 4000 := by omega
  have HN : Hid (n = max xs.length ys.length) := hn
  clear hn
  go_enter Try.func6, Try.ntmps6
  go_wp2_with fail
  refine (tooLong2 a b xs.length ys.length ca cb _ 0 2 _ (by simp [go_sem]) (by simp [go_sem]) hx hy).mono ?_
  rintro e w1 ⟨rfl, rfl⟩
  go_wp2_with fail
  refine (reader_any _ _ _ _).mono ?_
  rintro e w1 ⟨rfl, rfl⟩
  go_wp2_with fail
  refine (reader_any _ _ _ _).mono ?_
  rintro e w1 ⟨rfl, rfl⟩
  obtain ⟨w0, hw0⟩ : ∃ w0, w0 = ((w.alloc (.cells #[.slice a xs.length ca, .slice b ys.length cb] 24)).alloc (.cells #[.slice a xs.length ca] 24)).alloc (.cells #[.slice b ys.length cb] 24) := ⟨_, rfl⟩
  have hb0' : Below w.heap.size w w0 := by subst hw0; go_grown
  have pA : w0.cell? ⟨w.heap.size + 1, 0, none⟩ = some (.slice a xs.length ca) := by subst hw0; simp [go_sem]
  have pB : w0.cell? ⟨w.heap.size + 1 + 1, 0, none⟩ = some (.slice b ys.length cb) := by subst hw0; simp [go_sem]
  have rA := ha0.below hb0'
  have rB := hb0.below hb0'
  rw [← hw0]
  clear hw0
  go_wp2_with (at_make; refine wpList_mk rfl _ _ rfl _ (n + 1) rfl rfl (by have := HN.out; omega) (by omega) ?_; intro w2 hblk hbel)
  all_goals
    clear h
    go_loopw [9, 28] (fun c i wr => ∃ (k cc : Nat) (zs : List Nat), k ≤ n + 1 ∧ i = .int .i64 k ∧ c = .int .u64 cc ∧ AddAt xs ys zs k cc ∧ Blk wr w0.heap.size (zs ++ List.replicate (n + 1 - k) 0) ∧ Below w0.heap.size w0 wr) (fun _ i _ => n + 1 - (intOf i).toNat)
    case atStart => exact ⟨0, 0, [], by omega, rfl, rfl, ⟨rfl, M.Low.nil _, by omega, by simp [M.val]⟩, by simpa using hblk, hbel⟩
    case round =>
      obtain ⟨k, cc, zs, hk, rfl, rfl, hat, hblk', hbel'⟩ := hrel
      have hcc : cc ≤ 1 := hat.2.2.1
      have hzl : zs.length = k := hat.1
      by_cases hlt : k < n + 1
      · have qA := cell_below pA hbel'
        have qB := cell_below pB hbel'
        have sA := rA.below hbel'
        have sB := rB.below hbel'
        have hc1 := hblk'.cell (j := k) (by simp; omega)
        have hf1 := hblk'.frozen k
        have hst := hat.step la lb
        clear hblk hbel pA pB rA rB ha0 hb0
        go_wp2_with fail
        refine (reader1 k (by omega) wr _ xs _ qA sA).mono ?_
        rintro e w' ⟨rfl, rfl⟩
        go_wp2_with fail
        refine (reader1 k (by omega) _ _ ys _ qB sB).mono ?_
        rintro e w' ⟨rfl, rfl⟩
        go_wp2_with (simp only [Int.toNat_natCast, add64 (lm xs k) (lm ys k) cc hcc])
        go_roundw
        case rel =>
          refine ⟨k + 1, _, _, by omega, by go_num, rfl, hst, ?_, hbel'.setCell (Nat.le_refl _) _⟩
          have hs := hblk'.set k (sum64 (lm xs k) (lm ys k) cc)
          rw [show n + 1 - k = (n + 1 - (k + 1)) + 1 by omega] at hs
          have e := M.set_append_replicate zs (n + 1 - (k + 1)) (sum64 (lm xs k) (lm ys k) cc)
          rw [hzl] at e
          rw [e] at hs
          exact hs
        case measure => simp [intOf]; omega
      · have hke : k = n + 1 := by omega
        subst hke
        have hfin := hat.fin la lb (by omega) (by omega)
        have hrd : Rd wr (.slice (some ⟨w0.heap.size, 0, none⟩) (n + 1) (n + 1)) zs := by
          have := hblk'.rd0 (n + 1) (by simp; omega)
          simpa [hzl] using this
        have HF : Hid (M.val B64 zs = M.val B64 xs + M.val B64 ys) := hfin
        clear hfin
        go_wp2_with fail
        refine (trimmed_any _ _ zs hrd hat.2.1 (by omega)).mono ?_
        rintro e w' ⟨v', rfl, hv', rfl⟩
        go_wp2
        go_ret2
        exact ⟨_, rfl, by rw [← HF.out]; exact hv', Below.after hb0' hbel'⟩
end Go.Proofs.Ytiahhpkpimaidab
