/-
  limb.shiftedUp.
-/
import Derived.Test.YtiahhpkpimaidabDiv64
import Derived.Test.YtiahhpkpimaidabRcmp
import Derived.Test.YtiahhpkpimaidabProd0
namespace Go.Proofs.Ytiahhpkpimaidab
open Go.RowKit

def shLo (x s : Nat) : Nat := x * 2 ^ s % 18446744073709551616
def shHi (x s : Nat) : Nat := x / 2 ^ (64 - s)
def shO (c x s : Nat) : Nat := c + shLo x s

theorem sh_facts {c x s : Nat} (hs : s ≤ 63) (hx : x < B64) (hc : c < 2 ^ s) : shO c x s < B64 ∧ shHi x s < 2 ^ s ∧ shO c x s + B64 * shHi x s = c + x * 2 ^ s ∧ bits .or .u64 (c : Int) ((shLo x s : Nat) : Int) = ((shO c x s : Nat) : Int) ∧ c < 18446744073709551616 := by
  have e : 2 ^ s * 2 ^ (64 - s) = 18446744073709551616 := by rw [← Nat.pow_add, show s + (64 - s) = 64 by omega]
  have hS : 0 < 2 ^ s := Nat.pow_pos (by omega)
  have hZ : 0 < 2 ^ (64 - s) := Nat.pow_pos (by omega)
  have h2 : x * 2 ^ s / 18446744073709551616 = x / 2 ^ (64 - s) := by
    rw [← e, Nat.mul_comm (2 ^ s), Nat.mul_div_mul_right _ _ hS]
  have h3 := Nat.div_add_mod (x * 2 ^ s) 18446744073709551616
  rw [h2] at h3
  have h4 : x / 2 ^ (64 - s) < 2 ^ s := by rw [Nat.div_lt_iff_lt_mul hZ, e]; exact hx
  have h5 : x * 2 ^ s % 18446744073709551616 = x % 2 ^ (64 - s) * 2 ^ s := by
    rw [← e, Nat.mul_comm (2 ^ s), Nat.mul_mod_mul_right]
  have h6 : x % 2 ^ (64 - s) * 2 ^ s + 2 ^ s ≤ 18446744073709551616 := by
    have : (x % 2 ^ (64 - s) + 1) * 2 ^ s ≤ 2 ^ (64 - s) * 2 ^ s := Nat.mul_le_mul_right _ (Nat.mod_lt _ hZ)
    rw [Nat.mul_comm (2 ^ (64 - s)), e, Nat.add_mul, Nat.one_mul] at this
    exact this
  have hc' : c < 18446744073709551616 := by
    have : 2 ^ s ≤ 18446744073709551616 := by rw [← e]; exact Nat.le_mul_of_pos_right _ hZ
    omega
  have hlow : shLo x s < 18446744073709551616 := Nat.mod_lt _ (by omega)
  refine ⟨?_, h4, ?_, ?_, hc'⟩
  · unfold shO shLo B64; rw [h5]; omega
  · unfold shO shLo shHi B64; omega
  · rw [bits_or_u64_nat _ _ hc' hlow]
    unfold shO shLo
    rw [h5, ← Nat.shiftLeft_eq, Nat.or_comm, ← Nat.shiftLeft_add_eq_or_of_lt hc, Nat.add_comm]

def UAt (xs d : List Nat) (s k c : Nat) : Prop := d.length = k ∧ M.Low B64 d ∧ c < 2 ^ s ∧ M.val B64 d + B64 ^ k * c = M.val B64 (xs.take k) * 2 ^ s
theorem UAt.step {xs d : List Nat} {s k c : Nat} (la : M.Low B64 xs) (hs : s ≤ 63) (h : UAt xs d s k c) : UAt xs (d ++ [shO c (lm xs k) s]) s (k + 1) (shHi (lm xs k) s) := by
  obtain ⟨h1, h2, h3, h4⟩ := h
  obtain ⟨f1, f2, f3, _, _⟩ := sh_facts hs (lm_lt B64_pos la k) h3
  refine ⟨by simp [h1], h2.snoc f1, f2, ?_⟩
  rw [M.val_snoc, h1, M.val_take_succ, Nat.pow_succ]
  have e2 : B64 ^ k * (shO c (lm xs k) s + B64 * shHi (lm xs k) s) = B64 ^ k * (c + lm xs k * 2 ^ s) := by rw [f3]
  simp only [Nat.mul_add, ← Nat.mul_assoc] at e2
  show _ = (_ + B64 ^ k * lm xs k) * 2 ^ s
  rw [Nat.add_mul]
  omega

set_option maxHeartbeats 2000000 in
theorem shiftedUp_any (va : Value) (xs : List Nat) (s : Nat) (w : World) (ha : Rd w va xs) (la : M.Low B64 xs) (hs : s ≤ 63) (hm : xs.length ≤ 100000) :
    Calls Try.prog 41 #[va, .int .i64 (s : Nat)] w fun e w' => ∃ (g : Nat) (zs : List Nat), e = .returned (.slice (some ⟨g, 0, none⟩) zs.length zs.length) ∧ Blk w' g zs ∧ zs.length = xs.length + 1 ∧ M.Low B64 zs ∧ M.val B64 zs = M.val B64 xs * 2 ^ s ∧ w.heap.size ≤ g ∧ Below w.heap.size w w' := by
  have ha0 := ha
  obtain ⟨a, ca, rfl, hca, -⟩ := ha
  have hs1 : (s : Int) ≤ 63 := by omega
  go_enter Try.func41, Try.ntmps41
  go_wp2_with (at_make; refine wpList_mk rfl _ _ rfl _ (xs.length + 1) rfl rfl (by omega) (by omega) ?_; intro w2 hblk hbel)
  go_loopw [14] (fun i wr => ∃ (k c : Nat) (d : List Nat), k ≤ xs.length ∧ i = .int .i64 k ∧ UAt xs d s k c ∧ Blk wr w.heap.size (d ++ (c :: List.replicate (xs.length - k) 0)) ∧ Below w.heap.size w wr) (fun i _ => xs.length - (intOf i).toNat)
  case atStart => exact ⟨0, 0, [], by omega, rfl, ⟨rfl, M.Low.nil _, Nat.pow_pos (by omega), by simp [M.val]⟩, by simpa [List.replicate_succ] using hblk, hbel⟩
  case round =>
    obtain ⟨k, c, d, hk, rfl, hat, hblk', hbel'⟩ := hrel
    have hdl : d.length = k := hat.1
    by_cases hlt : k < xs.length
    · obtain ⟨ab, ao, rfl, qa⟩ := ha0.at hbel' hlt
      obtain ⟨f1, f2, f3, f4, f5⟩ := sh_facts hs (lm_lt B64_pos la k) hat.2.2.1
      have HR : Hid (xs.length - k = (xs.length - (k + 1)) + 1) := by show _ = _; omega
      rw [HR.out, List.replicate_succ] at hblk'
      have hc1 := hblk'.cell (j := k) (by simp; omega)
      have hc2 := hblk'.cell (j := k + 1) (by simp; omega)
      have hf1 := hblk'.frozen k
      have hf2 := hblk'.frozen (k + 1)
      have e1 : lm (d ++ c :: 0 :: List.replicate (xs.length - (k + 1)) 0) k = c := by
        have := lm_mid [] d (0 :: List.replicate (xs.length - (k + 1)) 0) [] c
        simpa [hdl] using this
      rw [e1] at hc1
      have hset := (hblk'.set k (shO c (lm xs k) s)).set (k + 1) (shHi (lm xs k) s)
      have e2 : ((d ++ c :: 0 :: List.replicate (xs.length - (k + 1)) 0).set k (shO c (lm xs k) s)).set (k + 1) (shHi (lm xs k) s) = (d ++ [shO c (lm xs k) s]) ++ (shHi (lm xs k) s :: List.replicate (xs.length - (k + 1)) 0) := by
        rw [← hdl, List.set_append_right _ _ (Nat.le_refl _), List.set_append_right _ _ (by omega)]
        simp
      rw [e2] at hset
      have HSET := shut hset
      have HST := shut (hat.step la hs)
      have el : IntKind.u64.wrap ((lm xs k : Int) * 2 ^ s) = ((shLo (lm xs k) s : Nat) : Int) := by rw [← cast_mul_pow, wrapMod]; rfl
      have eh : ((lm xs k : Int) / 2 ^ (64 - s)) = ((shHi (lm xs k) s : Nat) : Int) := by rw [← cast_div_pow]; rfl
      have hk1 : (k : Int) < (xs.length : Int) + 1 := by omega
      have hk2 : (k : Int) + 1 < (xs.length : Int) + 1 := by omega
      clear hset e1 e2 f1 f2 f3 f5 hblk hbel
      go_wp2
      go_region
      go_wp2
      exact ⟨⟨k + 1, _, _, by omega, by go_num, HST.out, HSET.out.drew, ((hbel'.setCell (Nat.le_refl _) _).setCell (Nat.le_refl _) _).drew⟩, by simp [intOf]; omega⟩
    · have HKE : Hid (k = xs.length) := by show _ = _; omega
      obtain ⟨h1, h2, h3, h4⟩ := hat
      rw [HKE.out, M.val_take_all _ _ _ (Nat.le_refl _)] at h4
      have hcb : c < B64 := by
        have : 2 ^ s ≤ 2 ^ 63 := Nat.pow_le_pow_right (by omega) hs
        unfold B64; omega
      have hz : (d ++ [c]).length = xs.length + 1 := by rw [List.length_append, h1, HKE.out]; rfl
      have hv : M.val B64 (d ++ [c]) = M.val B64 xs * 2 ^ s := by rw [M.val_snoc, h1, HKE.out]; exact h4
      have hb4 : Blk wr w.heap.size (d ++ [c]) := by
        rw [HKE.out] at hblk'
        simpa using hblk'
      have HZ := shut hz
      have HV := shut hv
      clear h4 hz hv hblk' h1 hdl hblk hbel
      go_wp2
      go_ret
      exact ⟨w.heap.size, d ++ [c], by rw [HZ.out]; rfl, hb4, HZ.out, h2.snoc hcb, HV.out, Nat.le_refl _, hbel'⟩

/-! ### shiftDown -/
def sdO (x y s : Nat) : Nat := x / 2 ^ s + y % 2 ^ s * 2 ^ (64 - s)
theorem sd_facts {x y s : Nat} (hs : s ≤ 63) (hx : x < B64) :
    sdO x y s < B64 ∧ sdO x y s * 2 ^ s + x % 2 ^ s = x + B64 * (y % 2 ^ s) ∧ bits .or .u64 ((x / 2 ^ s : Nat) : Int) ((y * 2 ^ (64 - s) % 18446744073709551616 : Nat) : Int) = ((sdO x y s : Nat) : Int) := by
  have e : 2 ^ (64 - s) * 2 ^ s = 18446744073709551616 := by rw [← Nat.pow_add, show 64 - s + s = 64 by omega]
  have hS : 0 < 2 ^ s := Nat.pow_pos (by omega)
  have hZ : 0 < 2 ^ (64 - s) := Nat.pow_pos (by omega)
  have h4 : x / 2 ^ s < 2 ^ (64 - s) := by rw [Nat.div_lt_iff_lt_mul hS, e]; exact hx
  have h5 : y * 2 ^ (64 - s) % 18446744073709551616 = y % 2 ^ s * 2 ^ (64 - s) := by
    rw [← e, Nat.mul_comm (2 ^ (64 - s)), Nat.mul_mod_mul_right]
  have h6 : y % 2 ^ s * 2 ^ (64 - s) + 2 ^ (64 - s) ≤ 18446744073709551616 := by
    have : (y % 2 ^ s + 1) * 2 ^ (64 - s) ≤ 2 ^ s * 2 ^ (64 - s) := Nat.mul_le_mul_right _ (Nat.mod_lt _ hS)
    rw [Nat.mul_comm (2 ^ s), e, Nat.add_mul, Nat.one_mul] at this
    exact this
  have hd : x / 2 ^ s < 18446744073709551616 := Nat.lt_of_le_of_lt (Nat.div_le_self _ _) hx
  refine ⟨by unfold sdO B64; omega, ?_, ?_⟩
  · unfold sdO
    rw [Nat.add_mul, Nat.mul_assoc, e]
    have := Nat.div_add_mod x (2 ^ s)
    rw [Nat.mul_comm] at this
    unfold B64
    omega
  · rw [bits_or_u64_nat _ _ hd (Nat.mod_lt _ (by omega))]
    unfold sdO
    rw [h5, ← Nat.shiftLeft_eq, Nat.or_comm, ← Nat.shiftLeft_add_eq_or_of_lt h4, Nat.add_comm]

def WAt (xs d : List Nat) (s k : Nat) : Prop := d.length = k ∧ M.Low B64 d ∧ M.val B64 d * 2 ^ s + lm xs 0 % 2 ^ s = M.val B64 (xs.take k) + B64 ^ k * (lm xs k % 2 ^ s)
theorem WAt.step {xs d : List Nat} {s k : Nat} (la : M.Low B64 xs) (hs : s ≤ 63) (h : WAt xs d s k) : WAt xs (d ++ [sdO (lm xs k) (lm xs (k + 1)) s]) s (k + 1) := by
  obtain ⟨h1, h2, h4⟩ := h
  obtain ⟨f1, f3, _⟩ := sd_facts (y := lm xs (k + 1)) hs (lm_lt B64_pos la k)
  refine ⟨by simp [h1], h2.snoc f1, ?_⟩
  rw [M.val_snoc, h1, M.val_take_succ, Nat.pow_succ, Nat.add_mul, Nat.mul_assoc]
  have e2 : B64 ^ k * (sdO (lm xs k) (lm xs (k + 1)) s * 2 ^ s + lm xs k % 2 ^ s) = B64 ^ k * (lm xs k + B64 * (lm xs (k + 1) % 2 ^ s)) := by rw [f3]
  simp only [Nat.mul_add, ← Nat.mul_assoc] at e2
  show _ = _ + B64 ^ k * lm xs k + _
  simp only [← Nat.mul_assoc]
  omega

set_option maxHeartbeats 2000000 in
theorem shiftDown_any (g : Nat) (xs : List Nat) (s : Nat) (w : World) (hb : Blk w g xs) (la : M.Low B64 xs) (hs : s ≤ 63) (hm : xs.length ≤ 100000) :
    Calls Try.prog 44 #[.slice (some ⟨g, 0, none⟩) xs.length xs.length, .int .i64 (s : Nat)] w fun e w' => ∃ (zs : List Nat), e = .returned (.tuple #[]) ∧ Blk w' g zs ∧ zs.length = xs.length ∧ M.Low B64 zs ∧ M.val B64 zs = M.val B64 xs / 2 ^ s ∧ Only g w w' := by
  have hs1 : (s : Int) ≤ 63 := by omega
  have hS : 0 < 2 ^ s := Nat.pow_pos (by omega)
  go_enter Try.func44, Try.ntmps44
  go_wp2
  go_loopw [7] (fun i wr => ∃ (k : Nat) (d : List Nat), k ≤ xs.length ∧ i = .int .i64 k ∧ WAt xs d s k ∧ Blk wr g (d ++ xs.drop k) ∧ Only g w wr) (fun i _ => xs.length - (intOf i).toNat)
  case atStart =>
    refine ⟨0, [], by omega, rfl, ⟨rfl, M.Low.nil _, by simp [M.val]⟩, by simpa using hb, Only.refl _ _⟩
  case round =>
    obtain ⟨k, d, hk, rfl, hat, hblk', hon⟩ := hrel
    have hdl : d.length = k := hat.1
    by_cases hlt : k < xs.length
    · obtain ⟨f1, f3, f4⟩ := sd_facts (y := lm xs (k + 1)) hs (lm_lt B64_pos la k)
      have HST := shut (hat.step la hs)
      rw [drop_lm xs k hlt] at hblk'
      have hc1 := hblk'.cell (j := k) (by simp; omega)
      have hf1 := hblk'.frozen k
      have e1 : lm (d ++ lm xs k :: xs.drop (k + 1)) k = lm xs k := by
        have := lm_mid [] d (xs.drop (k + 1)) [] (lm xs k)
        simpa [hdl] using this
      rw [e1] at hc1
      have eh : ((lm xs k : Int) / 2 ^ s) = ((lm xs k / 2 ^ s : Nat) : Int) := by rw [← cast_div_pow]
      obtain ⟨A, hA⟩ : ∃ A, A = lm xs k / 2 ^ s := ⟨_, rfl⟩
      rw [← hA] at eh f4
      have e2 : ∀ u v, (d ++ u :: xs.drop (k + 1)).set k v = d ++ v :: xs.drop (k + 1) := fun u v => by
        rw [← hdl, List.set_append_right _ _ (Nat.le_refl _)]; simp
      have hA1 : A < 18446744073709551616 := by rw [hA]; exact Nat.lt_of_le_of_lt (Nat.div_le_self _ _) (lm_lt B64_pos la k)
      by_cases hlt2 : k + 1 < xs.length
      · have hc2 := hblk'.cell (j := k + 1) (by simp; omega)
        have e3 : lm (d ++ lm xs k :: xs.drop (k + 1)) (k + 1) = lm xs (k + 1) := by
          unfold lm
          rw [List.getD_eq_getElem?_getD, List.getElem?_append_right (by omega), hdl, show k + 1 - k = 0 + 1 by omega, List.getElem?_cons_succ, List.getElem?_drop, List.getD_eq_getElem?_getD]
        rw [e3] at hc2
        have hset := (hblk'.set k A).set k (sdO (lm xs k) (lm xs (k + 1)) s)
        rw [e2, e2] at hset
        have HSET : Hid (Blk ((wr.setCell ⟨g, k, none⟩ (.int .u64 (A : Nat))).setCell ⟨g, k, none⟩ (.int .u64 (sdO (lm xs k) (lm xs (k + 1)) s : Nat))) g ((d ++ [sdO (lm xs k) (lm xs (k + 1)) s]) ++ xs.drop (k + 1))) := by
          rw [List.append_assoc]; exact hset
        have el : IntKind.u64.wrap ((lm xs (k + 1) : Int) * 2 ^ (64 - s)) = ((lm xs (k + 1) * 2 ^ (64 - s) % 18446744073709551616 : Nat) : Int) := by rw [← cast_mul_pow, wrapMod]
        obtain ⟨Cc, hCc⟩ : ∃ Cc, Cc = lm xs (k + 1) * 2 ^ (64 - s) % 18446744073709551616 := ⟨_, rfl⟩
        rw [← hCc] at el f4
        have hi1 : (k : Int) < (xs.length : Int) := by omega
        have hi2 : (k : Int) + 1 < (xs.length : Int) := by omega
        clear hset e1 e2 e3 f1 f3 hA hCc hb hblk'
        go_wp2
        go_region
        go_wp2
        exact ⟨⟨k + 1, _, by omega, by go_num, HST.out, HSET.out.drew, ((hon.setCell _ _).setCell _ _).drew⟩, by simp [intOf]; omega⟩
      · have hst := HST.out
        rw [lm_ge (xs := xs) (j := k + 1) (by omega)] at hst
        have e4 : sdO (lm xs k) 0 s = A := by unfold sdO; rw [Nat.zero_mod, Nat.zero_mul, Nat.add_zero, hA]
        rw [e4] at hst
        have hset := hblk'.set k A
        rw [e2] at hset
        have HSET : Hid (Blk (wr.setCell ⟨g, k, none⟩ (.int .u64 (A : Nat))) g ((d ++ [A]) ++ xs.drop (k + 1))) := by
          rw [List.append_assoc]; exact hset
        have HST2 := shut hst
        have hi1 : (k : Int) < (xs.length : Int) := by omega
        clear hset e1 e2 e4 f1 f3 f4 hA hb hblk' hst HST
        go_wp2
        exact ⟨⟨k + 1, _, by omega, by go_num, HST2.out, HSET.out, hon.setCell _ _⟩, by simp [intOf]; omega⟩
    · have HKE : Hid (k = xs.length) := by show _ = _; omega
      obtain ⟨h1, h2, h4⟩ := hat
      rw [HKE.out, M.val_take_all _ _ _ (Nat.le_refl _), lm_ge (Nat.le_refl _), Nat.zero_mod, Nat.mul_zero, Nat.add_zero] at h4
      have hv : M.val B64 d = M.val B64 xs / 2 ^ s := by
        rw [← h4, Nat.mul_comm, Nat.mul_add_div hS, Nat.div_eq_of_lt (Nat.mod_lt _ hS), Nat.add_zero]
      have hb4 : Blk wr g d := by
        rw [HKE.out] at hblk'
        simpa using hblk'
      have HV := shut hv
      have H1 : Hid (d.length = xs.length) := by show _ = _; rw [h1, HKE.out]
      clear h4 hv hblk' h1 hdl hb
      go_wp2
      go_end0
      exact ⟨d, rfl, hb4, H1.out, h2, HV.out, hon⟩
end Go.Proofs.Ytiahhpkpimaidab
