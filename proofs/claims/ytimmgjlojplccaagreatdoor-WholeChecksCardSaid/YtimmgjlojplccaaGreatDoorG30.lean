/-
  Package gussetref01: Sub, and where its answer lies.
  Package gussetref01: DivMod.
-/
import Derived.Test.YtimmgjlojplccaaGreatDoorG28
import Derived.Test.YtimmgjlojplccaaGreatDoorG15
import Derived.Test.YtimmgjlojplccaaGreatDoorG29
import Derived.Test.YtimmgjlojplccaaGreatDoorG01
namespace Go.Proofs.YtimmgjlojplccaaGreatDoor
open Go.RowKit

theorem trimX_any (g : Nat) (bs : Nat) (hbs : 2 ≤ bs) (w : World) (v : Value) (xs : List Nat) (hv : RdX w v xs g) (hl : M.Low bs xs) (hm : xs.length ≤ 1000000) :
    Calls Tryz.prog 73 #[v] w fun e w' => ∃ v', e = .returned v' ∧ RdX w v' (M.digs bs (M.val bs xs)) g ∧ w' = w := by
  have hv0 := hv
  obtain ⟨a, cap, rfl, hcap, hc⟩ := hv
  go_enter Tryz.func73, Tryz.ntmps73
  go_wp2
  go_loop [3] (fun n => ∃ k : Nat, k ≤ xs.length ∧ n = .int .i64 k ∧ ∀ j, k ≤ j → lm xs j = 0) (fun n => (intOf n).toNat)
  case atStart => exact ⟨xs.length, Nat.le_refl _, rfl, fun j hj => lm_ge hj⟩
  case round =>
    obtain ⟨k, hk, rfl, hz⟩ := hrel
    have HZ : Hid (∀ j, k ≤ j → lm xs j = 0) := hz
    clear hz
    have fin : (∀ j, k = j + 1 → lm xs j ≠ 0) → xs.take k = M.digs bs (M.val bs xs) := fun ht => M.take_eq_digs hbs hl hk HZ.out ht
    have FIN : Hid ((∀ j, k = j + 1 → lm xs j ≠ 0) → xs.take k = M.digs bs (M.val bs xs)) := fin
    clear fin
    match k with
    | 0 =>
      go_wp2
      go_ret
      exact ⟨_, rfl, by rw [← FIN.out (fun j hj => by omega)]; exact hv0.take 0 _ (by omega) (by omega), rfl⟩
    | k + 1 =>
      obtain ⟨b, off, rfl, hne, hcell⟩ := hc k (by omega)
      clear hc
      by_cases h0 : lm xs k = 0
      · go_wp2
        go_round
        case rel => exact ⟨k, by omega, by go_num, fun j hj => by
          by_cases e : j = k
          · subst e; exact h0
          · exact HZ.out j (by omega)⟩
        case measure => simp [intOf]
      · have hcap' : ((k : Int) + 1) ≤ cap := by omega
        go_wp2
        go_ret
        exact ⟨_, rfl, by rw [← FIN.out (fun j hj => by have : j = k := by omega
                                                        subst this; exact h0)]; exact hv0.take (k + 1) _ (by omega) (by omega), rfl⟩

set_option maxHeartbeats 1000000 in
theorem rsub_new (g : Nat) (va vb : Value) (xs ys : List Nat) (w : World) (ha : Rd w va xs) (hb : Rd w vb ys) (la : M.Low D32 xs) (lb : M.Low D32 ys) (hx : xs.length ≤ 100000) (hyl : ys.length ≤ xs.length) (hle : M.val D32 ys ≤ M.val D32 xs) (hg : g < w.heap.size) :
    Calls Tryz.prog 71 #[va, vb] w fun e w' => ∃ v, e = .returned v ∧ RdX w' v (M.digs D32 (M.val D32 xs - M.val D32 ys)) g ∧ Below w.heap.size w w' := by
  have ha0 := ha
  have hb0 := hb
  obtain ⟨a, ca, rfl, hca, -⟩ := ha
  obtain ⟨b, cb, rfl, hcb, -⟩ := hb
  have HLE : Hid (M.val D32 ys ≤ M.val D32 xs) := hle
  clear hle
  go_enter Tryz.func71, Tryz.ntmps71
  go_wp2_with (at_make; refine wpList_mk rfl _ _ rfl _ xs.length rfl rfl rfl (by omega) ?_; intro w2 hblk hbel)
  go_loopw [6, 7] (fun c i wr => ∃ (k cc : Nat) (zs : List Nat), k ≤ xs.length ∧ i = .int .i64 k ∧ c = .int .u64 cc ∧ RSt xs ys zs k cc ∧ Blk wr w.heap.size (zs ++ List.replicate (xs.length - k) 0) ∧ Below w.heap.size w wr) (fun _ i _ => xs.length - (intOf i).toNat)
  case atStart => exact ⟨0, 0, [], by omega, rfl, rfl, ⟨rfl, M.Low.nil _, by omega, by simp [M.val]⟩, by simpa using hblk, hbel⟩
  case round =>
    obtain ⟨k, cc, zs, hk, rfl, rfl, hat, hblk', hbel'⟩ := hrel
    have hcc : cc ≤ 1 := hat.2.2.1
    have hzl : zs.length = k := hat.1
    by_cases hlt : k < xs.length
    · have hc1 := hblk'.cell (j := k) (by simp; omega)
      have hf1 := hblk'.frozen k
      have hst := hat.step la lb
      have HST : Hid (RSt xs ys (zs ++ [difD (lm xs k) (lm ys k) cc]) (k + 1) (borD (lm xs k) (lm ys k) cc)) := hst
      have b1 : lm xs k < 4294967296 := lm_lt D32_pos la k
      have b2 : lm ys k < 4294967296 := lm_lt D32_pos lb k
      have hs := hblk'.set k (difD (lm xs k) (lm ys k) cc)
      rw [show xs.length - k = (xs.length - (k + 1)) + 1 by omega] at hs
      have e := M.set_append_replicate zs (xs.length - (k + 1)) (difD (lm xs k) (lm ys k) cc)
      rw [hzl] at e
      rw [e] at hs
      have HSB : Hid (Blk (wr.setCell ⟨w.heap.size, k, none⟩ (.int .u64 (difD (lm xs k) (lm ys k) cc : Nat))) w.heap.size ((zs ++ [difD (lm xs k) (lm ys k) cc]) ++ List.replicate (xs.length - (k + 1)) 0)) := hs
      clear hst hs e
      obtain ⟨b1', o1, rfl, q1⟩ := ha0.at hbel' hlt
      by_cases h2 : k < ys.length
      · obtain ⟨b2', o2, rfl, q2⟩ := hb0.at hbel' h2
        by_cases h3 : lm xs k < cc + lm ys k
        · go_wp2
          rw [show (lm xs k : Int) + 4294967296 - ((cc : Int) + (lm ys k : Int)) = ((difD (lm xs k) (lm ys k) cc : Nat) : Int) by unfold difD D32; omega]
          exact ⟨⟨k + 1, borD (lm xs k) (lm ys k) cc, _, by omega, by go_num, by rw [show borD (lm xs k) (lm ys k) cc = 1 by unfold borD; rw [if_pos h3]]; rfl, HST.out, HSB.out, hbel'.setCell (Nat.le_refl _) _⟩, by simp [intOf]; omega⟩
        · go_wp2
          rw [show (lm xs k : Int) - ((cc : Int) + (lm ys k : Int)) = ((difD (lm xs k) (lm ys k) cc : Nat) : Int) by unfold difD D32; omega]
          exact ⟨⟨k + 1, borD (lm xs k) (lm ys k) cc, _, by omega, by go_num, by rw [show borD (lm xs k) (lm ys k) cc = 0 by unfold borD; rw [if_neg h3]]; rfl, HST.out, HSB.out, hbel'.setCell (Nat.le_refl _) _⟩, by simp [intOf]; omega⟩
      · have Z2 : Hid (lm ys k = 0) := lm_ge (by omega)
        by_cases h3 : lm xs k < cc
        · go_wp2
          rw [show (lm xs k : Int) + 4294967296 - (cc : Int) = ((difD (lm xs k) (lm ys k) cc : Nat) : Int) by unfold difD D32; have := Z2.out; omega]
          exact ⟨⟨k + 1, borD (lm xs k) (lm ys k) cc, _, by omega, by go_num, by rw [show borD (lm xs k) (lm ys k) cc = 1 by unfold borD; rw [if_pos (by omega)]]; rfl, HST.out, HSB.out, hbel'.setCell (Nat.le_refl _) _⟩, by simp [intOf]; omega⟩
        · go_wp2
          rw [show (lm xs k : Int) - (cc : Int) = ((difD (lm xs k) (lm ys k) cc : Nat) : Int) by unfold difD D32; have := Z2.out; omega]
          exact ⟨⟨k + 1, borD (lm xs k) (lm ys k) cc, _, by omega, by go_num, by rw [show borD (lm xs k) (lm ys k) cc = 0 by unfold borD; rw [if_neg (by have := Z2.out; omega)]]; rfl, HST.out, HSB.out, hbel'.setCell (Nat.le_refl _) _⟩, by simp [intOf]; omega⟩
    · have hke : k = xs.length := by omega
      have hfin := hat.fin (by omega) (by omega) HLE.out
      have hrd : RdX wr (.slice (some ⟨w.heap.size, 0, none⟩) xs.length xs.length) zs g := by
        rw [hke, Nat.sub_self, List.replicate_zero, List.append_nil] at hblk'
        have := hblk'.rdX (g := g) 0 xs.length xs.length (by omega) (Nat.le_refl _) (by omega)
        rwa [List.drop_zero, List.take_of_length_le (by omega)] at this
      have HF : Hid (M.val D32 zs = M.val D32 xs - M.val D32 ys) := hfin
      have hll : zs.length ≤ 100000 := by omega
      have HKE : Hid (k = xs.length) := hke
      clear hfin hke
      go_wp2_with fail
      refine (trimX_any g D32 D32_two _ _ zs hrd hat.2.1 (by omega)).mono ?_
      rintro e w' ⟨v', rfl, hv', rfl⟩
      go_wp2
      go_ret
      exact ⟨_, rfl, by rw [← HF.out]; exact hv', hbel'⟩
end Go.Proofs.YtimmgjlojplccaaGreatDoor
namespace Go.Proofs.YtimmgjlojplccaaGreatDoor
open Go.RowKit

theorem cast_pow2 (t : Nat) : ((2 ^ t : Nat) : Int) = (2 : Int) ^ t := by rw [Int.natCast_pow]; rfl

theorem RdX.set {w : World} {v : Value} {xs : List Nat} {g : Nat} (h : RdX w v xs g) (j : Nat) (u : Value) : Rd (w.setCell ⟨g, j, none⟩ u) v xs :=
  (h.only ((Only.refl g w).setCell j u)).rd

set_option maxRecDepth 100000 in
set_option maxHeartbeats 2000000 in
theorem rdiv_any (va vb : Value) (xs ys : List Nat) (w : World) (ha : Rd w va xs) (hb : Rd w vb ys) (la : M.Low D32 xs) (lb : M.Low D32 ys) (tb : M.Trim ys) (h0 : 0 < ys.length) (hx : xs.length ≤ 50000) (hy : ys.length ≤ 50000) :
    Calls Tryz.prog 41 #[va, vb] w fun e w' => ∃ q r, e = .returned (.tuple #[q, r]) ∧ Rd w' q (M.digs D32 (M.val D32 xs / M.val D32 ys)) ∧ Rd w' r (M.digs D32 (M.val D32 xs % M.val D32 ys)) ∧ Below w.heap.size w w' := by
  have ha0 := ha
  have hb0 := hb
  obtain ⟨a, ca, rfl, hca, -⟩ := ha
  obtain ⟨b, cb, rfl, hcb, -⟩ := hb
  obtain ⟨n, hn⟩ : ∃ n, n = xs.length := ⟨_, rfl⟩
  obtain ⟨X, hX⟩ : ∃ X, X = M.val D32 xs := ⟨_, rfl⟩
  obtain ⟨Y, hY⟩ : ∃ Y, Y = M.val D32 ys := ⟨_, rfl⟩
  have hY0 : 0 < Y := by rw [hY]; exact M.val_pos_of_trim D32_pos tb (by intro h; subst h; simp at h0)
  have hYn : Y < D32 ^ ys.length := by rw [hY]; exact M.val_lt D32_pos lb
  have hXn : X < 2 ^ (32 * n) := by
    have := M.val_lt D32_pos la
    rw [hX, hn, Nat.pow_mul]; exact this
  rw [← hX, ← hY]
  rw [← hn] at ha0 hca hx ⊢
  have HN := shut hn
  have HX := shut hX
  have HY := shut hY
  have HYN := shut hYn
  have HXN := shut hXn
  clear hn hX hY hYn hXn
  go_enter Tryz.func41, Tryz.ntmps41
  go_wp2_with (at_make; refine wpList_mk rfl _ _ rfl _ n rfl rfl rfl (by omega) ?_; intro w2 hblk hbel)
  go_loopw [7, 8] (fun r i wr => ∃ (k : Nat) (qs : List Nat), k ≤ 32 * n ∧ i = .int .i64 ((k : Int) - 1) ∧ Rd wr r (M.digs D32 (X / 2 ^ k % Y)) ∧ qs.length = n ∧ M.Low D32 qs ∧ M.val D32 qs = X / 2 ^ k / Y * 2 ^ k ∧ Blk wr w.heap.size qs ∧ Below w.heap.size w wr) (fun _ i _ => (intOf i + 1).toNat)
  case atStart =>
    refine ⟨32 * n, List.replicate n 0, Nat.le_refl _, rfl, ?_, by simp, M.Low.replicate _ _ D32_pos, ?_, hblk, hbel⟩
    · rw [Nat.div_eq_of_lt HXN.out, Nat.zero_mod, M.digs_zero]
      exact ⟨none, 0, rfl, by simp, fun j hj => by simp at hj⟩
    · rw [Nat.div_eq_of_lt HXN.out, Nat.zero_div, Nat.zero_mul, M.val_replicate]
  case round =>
    obtain ⟨k, qs, hk, rfl, hr, hql, lq, vq, hblk', hbel'⟩ := hrel
    obtain ⟨ar, cr, rfl, -, -⟩ := id hr
    match k with
    | 0 =>
      rw [Nat.pow_zero, Nat.div_one] at hr vq
      rw [Nat.mul_one] at vq
      have VQ := shut vq
      have hrd : Rd wr (.slice (some ⟨w.heap.size, 0, none⟩) n n) qs := by
        have := hblk'.rd0 n (by omega)
        rwa [hql] at this
      have HR := shut hr
      clear vq hr
      go_wp2_with fail
      refine (trim_any D32 D32_two _ _ qs hrd lq (by omega)).mono ?_
      rintro e w' ⟨v', rfl, hv', rfl⟩
      rw [VQ.out] at hv'
      have HV := shut hv'
      clear hv'
      go_wp2
      go_ret2
      exact ⟨_, _, rfl, HV.out, HR.out, hbel'⟩
    | j + 1 =>
      have e1 : (((j + 1 : Nat) : Int) - 1) = (j : Int) := by omega
      rw [e1]
      obtain ⟨m, hm⟩ : ∃ m, m = j / 32 := ⟨_, rfl⟩
      obtain ⟨t, ht⟩ : ∃ t, t = j % 32 := ⟨_, rfl⟩
      have hj : j = 32 * m + t := by omega
      have ht32 : t < 32 := by omega
      have hmn : m < n := by omega
      obtain ⟨c, hc⟩ : ∃ c, c = X / 2 ^ j % 2 := ⟨_, rfl⟩
      have hc1 : c ≤ 1 := by rw [hc]; omega
      have hcd : c = lm xs m / 2 ^ t % 2 := by
        rw [hc, hj, R.bit (D := D32) rfl ht32, HX.out, R.digit D32_pos la m]; rfl
      obtain ⟨sA, sB⟩ := R.stepN (X := X) (j := j) hY0
      rw [← hc] at sA sB
      have SA := shut sA
      have SB := shut sB
      have VQ := shut vq
      have HJ := shut hj
      have hd : lm qs m + 2 ^ t < D32 := by
        have h1 := R.room (Q := X / 2 ^ (j + 1) / Y) (D := D32) (m := m) rfl ht32
        rw [← hj, ← vq, R.digit D32_pos lq m] at h1
        exact h1
      have HD := shut hd
      have f1 : (j : Int) / 32 = (m : Int) := by omega
      have f2 : (j : Int) % 32 = (t : Int) := by omega
      have f1' : Int.tdiv (j : Int) 32 = (m : Int) := by rw [Int.tdiv_eq_ediv_of_nonneg (by omega)]; exact f1
      have f2' : Int.tmod (j : Int) 32 = (t : Int) := by rw [Int.tmod_eq_emod_of_nonneg (by omega)]; exact f2
      obtain ⟨P, hP⟩ : ∃ P, P = 2 ^ t := ⟨_, rfl⟩
      have f3 : (2 : Int) ^ t = (P : Int) := by rw [hP, cast_pow2]
      have hPl : P < 4294967296 := by
        rw [hP]
        exact Nat.lt_of_lt_of_le (Nat.pow_lt_pow_right (by omega) ht32) (by omega)
      obtain ⟨z, hz⟩ : ∃ z, z = lm xs m / P := ⟨_, rfl⟩
      have f4 : (lm xs m : Int) / (P : Int) = (z : Int) := by rw [hz, Int.natCast_ediv]
      have f5 : (z : Int) % 2 = (c : Int) := by rw [hcd, hz, hP]; omega
      have hzl : z < 4294967296 := by
        rw [hz]; exact Nat.lt_of_le_of_lt (Nat.div_le_self _ _) (lm_lt D32_pos la m)
      obtain ⟨ab, ao, rfl, qa⟩ := ha0.at hbel' (j := m) (by rw [← HN.out]; exact hmn)
      have HP := shut hP
      have hmn' : (m : Int) < (n : Int) := by omega
      have hdl : (M.digs D32 (X / 2 ^ (j + 1) % Y)).length ≤ ys.length := M.digs_len_of_lt D32_two (Nat.lt_trans (Nat.mod_lt _ hY0) HYN.out)
      have h45 := rdbl_any _ _ c _ hr (M.Low.digs D32_two _) hc1 (by omega)
      rw [M.val_digs D32_two] at h45
      have H45 := shut h45
      clear hr h45 hdl hm ht hj hc hcd sA sB vq hd hP hz e1 hblk hbel
      go_wp2_with fail
      refine H45.out.mono ?_
      rintro e w3 ⟨v, rfl, r3, b3⟩
      obtain ⟨N, hN⟩ : ∃ N, N = 2 * (X / 2 ^ (j + 1) % Y) + c := ⟨_, rfl⟩
      rw [← hN] at r3
      have sA := SA.out
      have sB := SB.out
      rw [← hN] at sA sB
      have SA := shut sA
      have SB := shut sB
      have hNl : N < 2 * Y := by
        have := Nat.mod_lt (X / 2 ^ (j + 1)) hY0
        omega
      have hdl : (M.digs D32 N).length ≤ ys.length + 1 := by
        refine M.digs_len_of_lt D32_two ?_
        have h1 := HYN.out
        have h2 : D32 ^ ys.length * 2 ≤ D32 ^ ys.length * D32 := Nat.mul_le_mul_left _ D32_two
        rw [Nat.pow_succ]
        omega
      have b03 := Below.after hbel' b3
      have hb3 := hb0.below b03
      have hblk3 := hblk'.below b3
      obtain ⟨av, cv, rfl, -, -⟩ := id r3
      have H23 := shut (rcmp_any D32 D32_pos _ _ _ ys _ r3 hb3 (M.Low.digs D32_two N) lb (M.trim_digs D32_two N) tb (by omega))
      clear hN sA sB H45 b3
      go_wp2_with fail
      refine H23.out.mono ?_
      rintro e w4 ⟨rfl, b4⟩
      rw [M.val_digs D32_two, ← HY.out]
      have b04 := Below.after b03 b4
      have r4 := r3.below b4
      have hb4 := hb3.below b4
      have hblk4 := hblk3.below b4
      have hv2 : ∀ q, q * 2 ^ (j + 1) = 2 * q * 2 ^ j := fun q => by rw [Nat.pow_succ, ← Nat.mul_assoc, Nat.mul_comm (q * 2 ^ j), Nat.mul_assoc]
      have HV2 := shut hv2
      clear H23 hv2 hblk3 hblk' hb3 r3 b4
      by_cases hlt : N < Y
      · rw [cmpN_lt hlt]
        obtain ⟨s1, s2⟩ := SA.out hlt
        have S1 := shut s1
        have S2 := shut s2
        clear s1 s2
        go_wp2
        exact ⟨⟨j, qs, by omega, by go_num, by rw [S1.out]; exact r4, hql, lq, by rw [S2.out, VQ.out, HV2.out], hblk4, b04⟩, by simp [intOf]⟩
      · have hge : (0 : Int) ≤ cmpN N Y := by unfold cmpN; rw [if_neg hlt]; split <;> omega
        obtain ⟨s1, s2⟩ := SB.out (Nat.not_lt.1 hlt)
        have S1 := shut s1
        have S2 := shut s2
        have hlen : ys.length ≤ (M.digs D32 N).length := by
          by_cases h : ys.length ≤ (M.digs D32 N).length
          · exact h
          · have := M.lt_of_length D32_pos (M.Low.digs D32_two N) tb (Nat.not_le.1 h)
            rw [M.val_digs D32_two, ← HY.out] at this
            omega
        have h25 := rsub_new w.heap.size _ _ _ ys _ r4 hb4 (M.Low.digs D32_two N) lb (by omega) hlen (by rw [M.val_digs D32_two, ← HY.out]; omega) hblk4.lt
        rw [M.val_digs D32_two, ← HY.out] at h25
        have H25 := shut h25
        clear s1 s2 h25 hlen
        go_wp2_with fail
        refine H25.out.mono ?_
        rintro e w5 ⟨v5, rfl, r5, b5⟩
        have hblk5 := hblk4.below b5
        have b05 := Below.after b04 b5
        have g1 := hblk5.cell (j := m) (by rw [hql]; exact hmn)
        have g2 := hblk5.frozen m
        have hd1 := HD.out
        rw [← HP.out] at hd1
        have hset : Blk (w5.setCell ⟨w.heap.size, m, none⟩ (.int .u64 ((lm qs m : Int) + (P : Int)))) w.heap.size (qs.set m (lm qs m + P)) := by
          rw [← Int.natCast_add]; exact hblk5.set m (lm qs m + P)
        have hvs : M.val D32 (qs.set m (lm qs m + P)) = X / 2 ^ j / Y * 2 ^ j := by
          have h := R.val_set (b := D32) qs m P (by rw [hql]; exact hmn)
          have e2 : D32 ^ m * P = 2 ^ j := by rw [HP.out, HJ.out, Nat.pow_add, Nat.pow_mul]; rfl
          show M.val D32 (qs.set m (qs.getD m 0 + P)) = _
          rw [h, VQ.out, e2, S2.out, HV2.out, Nat.add_mul, Nat.one_mul]
        have HSET := shut hset
        have HVS := shut hvs
        have R5 := shut r5
        have hlow := R.low_set lq m (lm qs m + P) hd1
        have hqq : (qs.set m (lm qs m + P)).length = n := by rw [List.length_set]; exact hql
        have HQQ := shut hqq
        have hd2 : lm qs m + P < 4294967296 := hd1
        have w1 : IntKind.u64.wrap (P : Int) = (P : Int) := wrapIn P (by omega)
        clear hset hvs r5 hqq hd1 hblk4 r4 hb4
        go_wp2
        exact ⟨⟨j, qs.set m (lm qs m + P), by omega, by go_num, by rw [S1.out]; exact R5.out.set _ _, HQQ.out, hlow, HVS.out, HSET.out, b05.setCell (Nat.le_refl _) _⟩, by simp [intOf]⟩
end Go.Proofs.YtimmgjlojplccaaGreatDoor
