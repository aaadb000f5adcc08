/-
  Package gussetref01: Sub, and where its answer lies.
-/
import Derived.Test.YtiahhpkpimaidaaRsub
import Derived.Test.YtiahhpkpimaidaaProd1
namespace Go.Proofs.Ytiahhpkpimaidaa
open Go.RowKit

theorem trimX_any (g : Nat) (bs : Nat) (hbs : 2 ≤ bs) (w : World) (v : Value) (xs : List Nat) (hv : RdX w v xs g) (hl : M.Low bs xs) (hm : xs.length ≤ 1000000) :
    Calls Try.prog 38 #[v] w fun e w' => ∃ v', e = .returned v' ∧ RdX w v' (M.digs bs (M.val bs xs)) g ∧ w' = w := by
  have hv0 := hv
  obtain ⟨a, cap, rfl, hcap, hc⟩ := hv
  go_enter Try.func38, Try.ntmps38
  go_wp2
  go_loop [3] (fun n => ∃ k : Nat, k ≤ xs.length ∧ n = .int .i64 k ∧ ∀ j, k ≤ j → lm xs j = 0) (fun n => (intOf n).toNat)
  case atStart => exact ⟨xs.length, Nat.le_refl _, rfl, fun j hj => lm_ge hj⟩
  case round =>
    obtain ⟨k, hk, rfl, hz⟩ := hrel
    have HZ : Hid (∀ j, k ≤ j → lm xs j = 0) := hz
    clear hz
    have fin : (∀ j, k = j + 1 → lm xs j ≠ 0) → xs.take k = M.digs bs (M.val bs xs) := fun ht => M.take_eq_digs hbs hl hk HZ.out ht
    have FIN : Hid ((∀ j, k = j + 1 → lm xs j ≠ 0) → xs.take k = M.digs bs (M.val bs xs)) := fin
    clear fin
    match k with
    | 0 =>
      go_wp2
      go_ret
      exact ⟨_, rfl, by rw [← FIN.out (fun j hj => by omega)]; exact hv0.take 0 _ (by omega) (by omega), rfl⟩
    | k + 1 =>
      obtain ⟨b, off, rfl, hne, hcell⟩ := hc k (by omega)
      clear hc
      by_cases h0 : lm xs k = 0
      · go_wp2
        go_round
        case rel => exact ⟨k, by omega, by go_num, fun j hj => by
          by_cases e : j = k
          · subst e; exact h0
          · exact HZ.out j (by omega)⟩
        case measure => simp [intOf]
      · have hcap' : ((k : Int) + 1) ≤ cap := by omega
        go_wp2
        go_ret
        exact ⟨_, rfl, by rw [← FIN.out (fun j hj => by have : j = k := by omega
                                                        subst this; exact h0)]; exact hv0.take (k + 1) _ (by omega) (by omega), rfl⟩

set_option maxHeartbeats 1000000 in
theorem rsub_new (g : Nat) (va vb : Value) (xs ys : List Nat) (w : World) (ha : Rd w va xs) (hb : Rd w vb ys) (la : M.Low D32 xs) (lb : M.Low D32 ys) (hx : xs.length ≤ 100000) (hyl : ys.length ≤ xs.length) (hle : M.val D32 ys ≤ M.val D32 xs) (hg : g < w.heap.size) :
    Calls Try.prog 25 #[va, vb] w fun e w' => ∃ v, e = .returned v ∧ RdX w' v (M.digs D32 (M.val D32 xs - M.val D32 ys)) g ∧ Below w.heap.size w w' := by
  have ha0 := ha
  have hb0 := hb
  obtain ⟨a, ca, rfl, hca, -⟩ := ha
  obtain ⟨b, cb, rfl, hcb, -⟩ := hb
  have HLE : Hid (M.val D32 ys ≤ M.val D32 xs) := hle
  clear hle
  go_enter Try.func25, Try.ntmps25
  go_wp2_with (at_make; refine wpList_mk rfl _ _ rfl _ xs.length rfl rfl rfl (by omega) ?_; intro w2 hblk hbel)
  go_loopw [6, 7] (fun c i wr => ∃ (k cc : Nat) (zs : List Nat), k ≤ xs.length ∧ i = .int .i64 k ∧ c = .int .u64 cc ∧ RSt xs ys zs k cc ∧ Blk wr w.heap.size (zs ++ List.replicate (xs.length - k) 0) ∧ Below w.heap.size w wr) (fun _ i _ => xs.length - (intOf i).toNat)
  case atStart => exact ⟨0, 0, [], by omega, rfl, rfl, ⟨rfl, M.Low.nil _, by omega, by simp [M.val]⟩, by simpa using hblk, hbel⟩
  case round =>
    obtain ⟨k, cc, zs, hk, rfl, rfl, hat, hblk', hbel'⟩ := hrel
    have hcc : cc ≤ 1 := hat.2.2.1
    have hzl : zs.length = k := hat.1
    by_cases hlt : k < xs.length
    · have hc1 := hblk'.cell (j := k) (by simp; omega)
      have hf1 := hblk'.frozen k
      have hst := hat.step la lb
      have HST : Hid (RSt xs ys (zs ++ [difD (lm xs k) (lm ys k) cc]) (k + 1) (borD (lm xs k) (lm ys k) cc)) := hst
      have b1 : lm xs k < 4294967296 := lm_lt D32_pos la k
      have b2 : lm ys k < 4294967296 := lm_lt D32_pos lb k
      have hs := hblk'.set k (difD (lm xs k) (lm ys k) cc)
      rw [show xs.length - k = (xs.length - (k + 1)) + 1 by omega] at hs
      have e := M.set_append_replicate zs (xs.length - (k + 1)) (difD (lm xs k) (lm ys k) cc)
      rw [hzl] at e
      rw [e] at hs
      have HSB : Hid (Blk (wr.setCell ⟨w.heap.size, k, none⟩ (.int .u64 (difD (lm xs k) (lm ys k) cc : Nat))) w.heap.size ((zs ++ [difD (lm xs k) (lm ys k) cc]) ++ List.replicate (xs.length - (k + 1)) 0)) := hs
      clear hst hs e
      obtain ⟨b1', o1, rfl, q1⟩ := ha0.at hbel' hlt
      by_cases h2 : k < ys.length
      · obtain ⟨b2', o2, rfl, q2⟩ := hb0.at hbel' h2
        by_cases h3 : lm xs k < cc + lm ys k
        · go_wp2
          rw [show (lm xs k : Int) + 4294967296 - ((cc : Int) + (lm ys k : Int)) = ((difD (lm xs k) (lm ys k) cc : Nat) : Int) by unfold difD D32; omega]
          exact ⟨⟨k + 1, borD (lm xs k) (lm ys k) cc, _, by omega, by go_num, by rw [show borD (lm xs k) (lm ys k) cc = 1 by unfold borD; rw [if_pos h3]]; rfl, HST.out, HSB.out, hbel'.setCell (Nat.le_refl _) _⟩, by simp [intOf]; omega⟩
        · go_wp2
          rw [show (lm xs k : Int) - ((cc : Int) + (lm ys k : Int)) = ((difD (lm xs k) (lm ys k) cc : Nat) : Int) by unfold difD D32; omega]
          exact ⟨⟨k + 1, borD (lm xs k) (lm ys k) cc, _, by omega, by go_num, by rw [show borD (lm xs k) (lm ys k) cc = 0 by unfold borD; rw [if_neg h3]]; rfl, HST.out, HSB.out, hbel'.setCell (Nat.le_refl _) _⟩, by simp [intOf]; omega⟩
      · have Z2 : Hid (lm ys k = 0) := lm_ge (by omega)
        by_cases h3 : lm xs k < cc
        · go_wp2
          rw [show (lm xs k : Int) + 4294967296 - (cc : Int) = ((difD (lm xs k) (lm ys k) cc : Nat) : Int) by unfold difD D32; have := Z2.out; omega]
          exact ⟨⟨k + 1, borD (lm xs k) (lm ys k) cc, _, by omega, by go_num, by rw [show borD (lm xs k) (lm ys k) cc = 1 by unfold borD; rw [if_pos (by omega)]]; rfl, HST.out, HSB.out, hbel'.setCell (Nat.le_refl _) _⟩, by simp [intOf]; omega⟩
        · go_wp2
          rw [show (lm xs k : Int) - (cc : Int) = ((difD (lm xs k) (lm ys k) cc : Nat) : Int) by unfold difD D32; have := Z2.out; omega]
          exact ⟨⟨k + 1, borD (lm xs k) (lm ys k) cc, _, by omega, by go_num, by rw [show borD (lm xs k) (lm ys k) cc = 0 by unfold borD; rw [if_neg (by have := Z2.out; omega)]]; rfl, HST.out, HSB.out, hbel'.setCell (Nat.le_refl _) _⟩, by simp [intOf]; omega⟩
    · have hke : k = xs.length := by omega
      have hfin := hat.fin (by omega) (by omega) HLE.out
      have hrd : RdX wr (.slice (some ⟨w.heap.size, 0, none⟩) xs.length xs.length) zs g := by
        rw [hke, Nat.sub_self, List.replicate_zero, List.append_nil] at hblk'
        have := hblk'.rdX (g := g) 0 xs.length xs.length (by omega) (Nat.le_refl _) (by omega)
        rwa [List.drop_zero, List.take_of_length_le (by omega)] at this
      have HF : Hid (M.val D32 zs = M.val D32 xs - M.val D32 ys) := hfin
      have hll : zs.length ≤ 100000 := by omega
      have HKE : Hid (k = xs.length) := hke
      clear hfin hke
      go_wp2_with fail
      refine (trimX_any g D32 D32_two _ _ zs hrd hat.2.1 (by omega)).mono ?_
      rintro e w' ⟨v', rfl, hv', rfl⟩
      go_wp2
      go_ret
      exact ⟨_, rfl, by rw [← HF.out]; exact hv', hbel'⟩
end Go.Proofs.Ytiahhpkpimaidaa
