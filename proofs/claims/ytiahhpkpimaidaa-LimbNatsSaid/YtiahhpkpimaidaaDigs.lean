/-
  limb.Of of what is no Nat; package gussetref01: IsNat, Digits.
-/
import Derived.Test.YtiahhpkpimaidaaOf
import Derived.Test.YtiahhpkpimaidaaRdivMath
import Derived.Test.YtiahhpkpimaidaaRefs
import Derived.BigRegion
namespace Go.Proofs.Ytiahhpkpimaidaa
open Go.RowKit

set_option maxHeartbeats 1000000 in
theorem of_arg (s : ByteArray) (w : World) (hm : s.size ≤ 32000) (hs : 0 < s.size) (h0 : lm (byts s) 0 = 0) :
    Calls Try.prog 10 #[.string s] w fun e w' => e = .returned (.tuple #[.slice none 0 0, .int .i64 1]) ∧ w' = w := by
  have g1 : ((s[0]).toNat : Int) = 0 := by rw [byts_at s 0 hs, h0]; rfl
  have g3 : (s[0]).toNat = 0 := by omega
  have g2 : s[0] = 0 := UInt8.toNat.inj g3
  go_enter Try.func10, Try.ntmps10
  go_wp2
  go_ret2
  exact ⟨rfl, rfl⟩

theorem toList_ne {s : ByteArray} (hs : 0 < s.size) : ¬ s.toList = [] := by
  rw [ByteArray.toList_eq]
  intro h
  have := congrArg List.length h
  rw [Array.length_toList] at this
  have h2 : s.data.size = s.size := rfl
  rw [h2, List.length_nil] at this
  omega
theorem isNat_yes (s : ByteArray) (w : World) (h0 : 0 < s.size → lm (byts s) 0 ≠ 0) :
    Calls Try.prog 11 #[.string s] w fun e w' => e = .returned (.bool true) ∧ w' = w := by
  by_cases hs : 0 < s.size
  · have g1 : ¬ ((s[0]).toNat : Int) = 0 := by rw [byts_at s 0 hs]; have := h0 hs; omega
    have g2 : ¬ s[0] = 0 := fun h => g1 (by rw [h]; rfl)
    have g4 := toList_ne hs
    have g5 : s.toList.isEmpty = false := by simpa using g4
    clear h0
    go_enter Try.func11, Try.ntmps11
    go_wp2
    go_ret
    refine ⟨?_, rfl⟩
    refine congrArg (fun t => Ending.returned (Value.bool t)) ?_
    simp
    omega
  · have g3 : s = ByteArray.empty := ByteArray.size_eq_zero_iff.1 (by omega)
    subst g3
    go_enter Try.func11, Try.ntmps11
    go_wp2
    go_ret
    exact ⟨rfl, rfl⟩
theorem isNat_no (s : ByteArray) (w : World) (hs : 0 < s.size) (h0 : lm (byts s) 0 = 0) :
    Calls Try.prog 11 #[.string s] w fun e w' => e = .returned (.bool false) ∧ w' = w := by
  have g1 : ((s[0]).toNat : Int) = 0 := by rw [byts_at s 0 hs, h0]; rfl
  have g3 : (s[0]).toNat = 0 := by omega
  have g2 : s[0] = 0 := UInt8.toNat.inj g3
  have g4 := toList_ne hs
  have g5 : s.toList.isEmpty = false := by simpa using g4
  go_enter Try.func11, Try.ntmps11
  go_wp2
  go_ret
  refine ⟨?_, rfl⟩
  refine congrArg (fun t => Ending.returned (Value.bool t)) ?_
  simp

/-! ### Digits -/
def DgAt (s : ByteArray) (zs : List Nat) (n k : Nat) : Prop := zs.length = n ∧ M.Low D32 zs ∧ M.val D32 zs = M.val 256 ((byts s).reverse.take k)
theorem dg_room {s : ByteArray} {zs : List Nat} {n m t P : Nat} (h : DgAt s zs n (4 * m + t)) (hP : P = 256 ^ t) : lm zs m < P := by
  obtain ⟨h1, h2, h3⟩ := h
  have e : M.val D32 zs < 256 ^ (4 * m + t) := by
    rw [h3]
    exact M.val_lt_pow (by omega) ((Low_reverse (byts_low s)).take _) (by simp; omega)
  have d := R.digit D32_pos h2 m
  have e2 : M.val D32 zs / D32 ^ m < P := by
    rw [Nat.div_lt_iff_lt_mul (Nat.pow_pos D32_pos), hP]
    rw [Nat.pow_add, Nat.pow_mul, Nat.mul_comm] at e
    exact e
  have e3 := Nat.mod_le (M.val D32 zs / D32 ^ m) D32
  unfold lm
  omega
theorem DgAt.step {s : ByteArray} {zs : List Nat} {n m t P : Nat} (h : DgAt s zs n (4 * m + t)) (ht : t < 4) (hP : P = 256 ^ t) (hm : m < n) (hk : 4 * m + t < s.size) (y : Nat) (hy : y = lm zs m + lm (byts s) (s.size - 1 - (4 * m + t)) * P) :
    DgAt s (zs.set m y) n (4 * m + t + 1) ∧ y < D32 := by
  have hr := dg_room h hP
  obtain ⟨h1, h2, h3⟩ := h
  have hx := lm_lt (by omega) (byts_low s) (s.size - 1 - (4 * m + t))
  have hyl : y < D32 := by
    have hP2 : 256 * P ≤ D32 := by
      rw [hP, Nat.mul_comm, ← Nat.pow_succ]
      exact Nat.pow_le_pow_right (j := 4) (by omega) (by omega)
    have : lm (byts s) (s.size - 1 - (4 * m + t)) * P ≤ 255 * P := Nat.mul_le_mul_right _ (by omega)
    omega
  refine ⟨⟨by rw [List.length_set]; exact h1, R.low_set h2 m y hyl, ?_⟩, hyl⟩
  have hv := R.val_set (b := D32) zs m (lm (byts s) (s.size - 1 - (4 * m + t)) * P) (by omega)
  rw [hy]
  show M.val D32 (zs.set m (zs.getD m 0 + _)) = _
  rw [hv, h3, M.val_take_succ]
  have e1 : (byts s).reverse.getD (4 * m + t) 0 = lm (byts s) (s.size - 1 - (4 * m + t)) := by
    unfold lm
    rw [List.getD_eq_getElem?_getD, List.getD_eq_getElem?_getD, List.getElem?_reverse (by rw [byts_length]; exact hk), byts_length]
  rw [e1]
  congr 1
  rw [hP, Nat.mul_comm (lm _ _), ← Nat.mul_assoc, Nat.pow_add, Nat.pow_mul]
  rfl

set_option maxRecDepth 100000 in
set_option maxHeartbeats 2000000 in
theorem digits_any (s : ByteArray) (w : World) (hm : s.size ≤ 100000) :
    Calls Try.prog 15 #[.string s] w fun e w' => ∃ v, e = .returned v ∧ Rd w' v (M.digs D32 (natOf s)) ∧ Below w.heap.size w w' := by
  obtain ⟨n, hn⟩ : ∃ n, n = (s.size + 3) / 4 := ⟨_, rfl⟩
  have i1 : (((s.size : Int) + 3) / 4) = (n : Int) := by omega
  have i2 : n ≤ 100000 := by omega
  have HN := shut hn
  clear hn
  go_enter Try.func15, Try.ntmps15
  go_wp2_with (at_make; refine wpList_mk rfl _ _ rfl _ n rfl rfl (by omega) (by omega) ?_; intro w2 hblk hbel)
  go_loopw [4] (fun i wr => ∃ (k : Nat) (zs : List Nat), k ≤ s.size ∧ i = .int .i64 k ∧ DgAt s zs n k ∧ Blk wr w.heap.size zs ∧ Below w.heap.size w wr) (fun i _ => s.size - (intOf i).toNat)
  case atStart => exact ⟨0, List.replicate n 0, by omega, rfl, ⟨by simp, M.Low.replicate _ _ D32_pos, by simp [M.val, M.val_replicate]⟩, hblk, hbel⟩
  case round =>
    obtain ⟨k, zs, hk, rfl, hat, hblk', hbel'⟩ := hrel
    have hzl : zs.length = n := hat.1
    by_cases hlt : k < s.size
    · obtain ⟨m, hmm⟩ : ∃ m, m = k / 4 := ⟨_, rfl⟩
      obtain ⟨t, ht⟩ : ∃ t, t = k % 4 := ⟨_, rfl⟩
      have hkm : k = 4 * m + t := by omega
      have ht4 : t < 4 := by omega
      have hmn : m < n := by have := HN.out; omega
      obtain ⟨P, hP⟩ : ∃ P, P = 256 ^ t := ⟨_, rfl⟩
      have hP4 : t = 0 ∧ P = 1 ∨ t = 1 ∧ P = 256 ∨ t = 2 ∧ P = 65536 ∨ t = 3 ∧ P = 16777216 := by
        have : t = 0 ∨ t = 1 ∨ t = 2 ∨ t = 3 := by omega
        rcases this with rfl | rfl | rfl | rfl <;> simp [hP]
      obtain ⟨p, hp⟩ : ∃ p, p = s.size - 1 - k := ⟨_, rfl⟩
      have hpl : p < s.size := by omega
      have hat2 := hat
      rw [hkm] at hat2
      have hr := dg_room hat2 hP
      obtain ⟨st, hyl⟩ := hat2.step ht4 hP hmn (by omega) _ rfl
      rw [← hkm, ← hp] at st hyl
      have hx := lm_lt (by omega) (byts_low s) p
      have a1 := byts_at s p hpl
      obtain ⟨x, hxx⟩ : ∃ x, x = lm (byts s) p := ⟨_, rfl⟩
      rw [← hxx] at st hyl hx a1
      have f1 : (k : Int) / 4 = (m : Int) := by omega
      have f2 : (k : Int) % 4 = (t : Int) := by omega
      have f3 : (s.size : Int) - 1 - (k : Int) = (p : Int) := by omega
      have g1 := hblk'.cell (j := m) (by rw [hzl]; exact hmn)
      have g2 := hblk'.frozen m
      have hset := hblk'.set m (lm zs m + x * P)
      have HSET := shut hset
      have ST := shut st
      have hmn' : (m : Int) < (n : Int) := by omega
      have hyl' : lm zs m + x * P < 4294967296 := hyl
      clear hset st hat hat2 hmm ht hkm hp hxx hyl hP hblk hbel i1
      generalize lm zs m = d at *
      obtain ⟨y, hy⟩ : ∃ y, y = d + x * P := ⟨_, rfl⟩
      rw [← hy] at HSET ST hyl'
      rcases hP4 with ⟨rfl, rfl⟩ | ⟨rfl, rfl⟩ | ⟨rfl, rfl⟩ | ⟨rfl, rfl⟩
      · have f2 : (k : Int) % 4 = 0 := f2
        have yc : (d : Int) + (x : Int) = (y : Int) := by omega
        have w1 : IntKind.u64.wrap (x : Int) = (x : Int) := wrapIn x (by omega)
        have w2 : IntKind.u64.wrap ((x : Int)) = (x : Int) := by rw [IntKind.wrap_u64]; omega
        have w3 : IntKind.u64.wrap (y : Int) = (y : Int) := wrapIn y (by omega)
        clear hy
        go_wp2
        go_region
        go_wp2
        exact ⟨⟨k + 1, _, by omega, by go_num, ST.out, HSET.out.drew, (hbel'.setCell (Nat.le_refl _) _).drew⟩, by simp [intOf]; omega⟩
      · have f2 : (k : Int) % 4 = 1 := f2
        have yc : (d : Int) + (x : Int) * 256 = (y : Int) := by omega
        have w1 : IntKind.u64.wrap (x : Int) = (x : Int) := wrapIn x (by omega)
        have w2 : IntKind.u64.wrap ((x : Int) * 256) = (x : Int) * 256 := by rw [IntKind.wrap_u64]; omega
        have w3 : IntKind.u64.wrap (y : Int) = (y : Int) := wrapIn y (by omega)
        clear hy
        go_wp2
        go_region
        go_wp2
        exact ⟨⟨k + 1, _, by omega, by go_num, ST.out, HSET.out.drew, (hbel'.setCell (Nat.le_refl _) _).drew⟩, by simp [intOf]; omega⟩
      · have f2 : (k : Int) % 4 = 2 := f2
        have yc : (d : Int) + (x : Int) * 65536 = (y : Int) := by omega
        have w1 : IntKind.u64.wrap (x : Int) = (x : Int) := wrapIn x (by omega)
        have w2 : IntKind.u64.wrap ((x : Int) * 65536) = (x : Int) * 65536 := by rw [IntKind.wrap_u64]; omega
        have w3 : IntKind.u64.wrap (y : Int) = (y : Int) := wrapIn y (by omega)
        clear hy
        go_wp2
        go_region
        go_wp2
        exact ⟨⟨k + 1, _, by omega, by go_num, ST.out, HSET.out.drew, (hbel'.setCell (Nat.le_refl _) _).drew⟩, by simp [intOf]; omega⟩
      · have f2 : (k : Int) % 4 = 3 := f2
        have yc : (d : Int) + (x : Int) * 16777216 = (y : Int) := by omega
        have w1 : IntKind.u64.wrap (x : Int) = (x : Int) := wrapIn x (by omega)
        have w2 : IntKind.u64.wrap ((x : Int) * 16777216) = (x : Int) * 16777216 := by rw [IntKind.wrap_u64]; omega
        have w3 : IntKind.u64.wrap (y : Int) = (y : Int) := wrapIn y (by omega)
        clear hy
        go_wp2
        go_region
        go_wp2
        exact ⟨⟨k + 1, _, by omega, by go_num, ST.out, HSET.out.drew, (hbel'.setCell (Nat.le_refl _) _).drew⟩, by simp [intOf]; omega⟩
    · have hke : k = s.size := by omega
      obtain ⟨h1, h2, h3⟩ := hat
      rw [List.take_of_length_le (by rw [List.length_reverse, byts_length]; omega)] at h3
      have HF := shut (show M.val D32 zs = natOf s from h3)
      have hrd : Rd wr (.slice (some ⟨w.heap.size, 0, none⟩) n n) zs := by
        have := hblk'.rd0 n (by omega)
        rwa [hzl] at this
      clear h3 hke
      go_wp2_with fail
      refine (trim_any D32 D32_two _ _ zs hrd h2 (by omega)).mono ?_
      rintro e w' ⟨v', rfl, hv', rfl⟩
      go_wp2
      go_ret
      exact ⟨_, rfl, by rw [← HF.out]; exact hv', hbel'⟩
end Go.Proofs.Ytiahhpkpimaidaa
