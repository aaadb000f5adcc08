/-
  Package gussetref01: double.
-/
import Derived.Test.YtiahhpkpimaidaaRsub
import Derived.Test.YtiahhpkpimaidaaProd0
namespace Go.Proofs.Ytiahhpkpimaidaa
open Go.RowKit

def dblD (x c : Nat) : Nat := (2 * x + c) % D32
def dblC (x c : Nat) : Nat := (2 * x + c) / D32

def DbAt (xs zs : List Nat) (b k c : Nat) : Prop := zs.length = k ∧ M.Low D32 zs ∧ c ≤ 1 ∧ M.val D32 zs + D32 ^ k * c = 2 * M.val D32 (xs.take k) + b
theorem DbAt.step {xs zs : List Nat} {b k c : Nat} (la : M.Low D32 xs) (h : DbAt xs zs b k c) : DbAt xs (zs ++ [dblD (lm xs k) c]) b (k + 1) (dblC (lm xs k) c) := by
  obtain ⟨h1, h2, h3, h4⟩ := h
  have b1 : lm xs k < D32 := lm_lt D32_pos la k
  refine ⟨by simp [h1], h2.snoc (Nat.mod_lt _ D32_pos), ?_, ?_⟩
  · unfold dblC; unfold D32 at *; omega
  rw [M.val_snoc, h1, M.val_take_succ, Nat.pow_succ]
  have e : dblD (lm xs k) c + D32 * dblC (lm xs k) c = 2 * lm xs k + c := Nat.mod_add_div _ _
  have e2 : D32 ^ k * (dblD (lm xs k) c + D32 * dblC (lm xs k) c) = D32 ^ k * (2 * lm xs k + c) := by rw [e]
  have e3 : D32 ^ k * (2 * lm xs k) = 2 * (D32 ^ k * lm xs k) := Nat.mul_left_comm _ _ _
  simp only [Nat.mul_add, ← Nat.mul_assoc] at e2
  show _ = 2 * (_ + D32 ^ k * lm xs k) + _
  rw [Nat.mul_assoc _ 2] at e2
  rw [Nat.mul_add]
  omega

set_option maxHeartbeats 1000000 in
theorem rdbl_any (va : Value) (xs : List Nat) (b : Nat) (w : World) (ha : Rd w va xs) (la : M.Low D32 xs) (hb : b ≤ 1) (hx : xs.length ≤ 100000) :
    Calls Try.prog 45 #[va, .int .u64 (b : Nat)] w fun e w' => ∃ v, e = .returned v ∧ Rd w' v (M.digs D32 (2 * M.val D32 xs + b)) ∧ Below w.heap.size w w' := by
  have ha0 := ha
  obtain ⟨a, ca, rfl, hca, -⟩ := ha
  obtain ⟨n, hn⟩ : ∃ n, n = xs.length := ⟨_, rfl⟩
  rw [← hn] at ha0 hca hx ⊢
  have HN := shut hn
  clear hn
  go_enter Try.func45, Try.ntmps45
  go_wp2_with (at_make; refine wpList_mk rfl _ _ rfl _ (n + 1) rfl rfl (by omega) (by omega) ?_; intro w2 hblk hbel)
  go_loopw [1, 6] (fun c i wr => ∃ (k cc : Nat) (zs : List Nat), k ≤ n ∧ i = .int .i64 k ∧ c = .int .u64 cc ∧ DbAt xs zs b k cc ∧ Blk wr w.heap.size (zs ++ List.replicate (n + 1 - k) 0) ∧ Below w.heap.size w wr) (fun _ i _ => n - (intOf i).toNat)
  case atStart => exact ⟨0, b, [], by omega, rfl, rfl, ⟨rfl, M.Low.nil _, hb, by simp [M.val]⟩, by simpa using hblk, hbel⟩
  case round =>
    obtain ⟨k, cc, zs, hk, rfl, rfl, hat, hblk', hbel'⟩ := hrel
    have hcc : cc ≤ 1 := hat.2.2.1
    have hzl : zs.length = k := hat.1
    have hc1 := hblk'.cell (j := k) (by rw [List.length_append, List.length_replicate, hzl]; omega)
    have hf1 := hblk'.frozen k
    have hs : ∀ y, Blk (wr.setCell ⟨w.heap.size, k, none⟩ (.int .u64 (y : Nat))) w.heap.size ((zs ++ [y]) ++ List.replicate (n - k) 0) := fun y => by
      have h := hblk'.set k y
      rw [show n + 1 - k = (n - k) + 1 by omega] at h
      have e := M.set_append_replicate zs (n - k) y
      rw [hzl] at e
      rwa [e] at h
    have HS := shut hs
    clear hs
    have hkn : (k : Int) < (n : Int) + 1 := by omega
    by_cases hlt : k < n
    · have HST := shut (hat.step la)
      have b1 : lm xs k < 4294967296 := lm_lt D32_pos la k
      obtain ⟨b1', o1, rfl, q1⟩ := ha0.at hbel' (j := k) (by rw [← HN.out]; exact hlt)
      have HSB := shut (HS.out (dblD (lm xs k) cc))
      clear HS
      go_wp2
      rw [show ((2 : Int) * (lm xs k : Int) + (cc : Int)) % 4294967296 = ((dblD (lm xs k) cc : Nat) : Int) by unfold dblD D32; omega, show ((2 : Int) * (lm xs k : Int) + (cc : Int)) / 4294967296 = ((dblC (lm xs k) cc : Nat) : Int) by unfold dblC D32; omega]
      exact ⟨⟨k + 1, _, _, by omega, by go_num, rfl, HST.out, (by have := HSB.out; rwa [show n - k = n + 1 - (k + 1) by omega] at this), hbel'.setCell (Nat.le_refl _) _⟩, by simp [intOf]; omega⟩
    · have hke : k = n := by omega
      subst hke
      obtain ⟨h1, h2, h3, h4⟩ := hat
      rw [HN.out, M.val_take_all _ _ _ (Nat.le_refl _), ← HN.out] at h4
      have hfin : M.val D32 (zs ++ [cc]) = 2 * M.val D32 xs + b := by rw [M.val_snoc, h1]; exact h4
      have hsb := HS.out cc
      rw [Nat.sub_self, List.replicate_zero, List.append_nil] at hsb
      have hrd : Rd (wr.setCell ⟨w.heap.size, k, none⟩ (.int .u64 (cc : Nat))) (.slice (some ⟨w.heap.size, 0, none⟩) (k + 1) (k + 1)) (zs ++ [cc]) := by
        have := hsb.rd0 (k + 1) (by simp; omega)
        simpa [hzl] using this
      have HF := shut hfin
      have hl2 : M.Low D32 (zs ++ [cc]) := h2.snoc (by unfold D32; omega)
      have hlen : (zs ++ [cc]).length ≤ 1000000 := by rw [List.length_append, h1]; simp; omega
      have hbel3 := hbel'.setCell (p := ⟨w.heap.size, k, none⟩) (Nat.le_refl _) (.int .u64 (cc : Nat))
      clear hfin h4 HS hsb
      go_wp2_with fail
      refine (trim_any D32 D32_two _ _ (zs ++ [cc]) hrd hl2 hlen).mono ?_
      rintro e w' ⟨v', rfl, hv', rfl⟩
      go_wp2
      go_ret
      exact ⟨_, rfl, by rw [← HF.out]; exact hv', hbel3⟩
end Go.Proofs.Ytiahhpkpimaidaa
