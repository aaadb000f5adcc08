/-
  limb.Of.
-/
import Derived.Test.YtiahhpkpimaidabByt
import Derived.Test.YtiahhpkpimaidabMath2
namespace Go.Proofs.Ytiahhpkpimaidab
open Go.RowKit

theorem byts_extract (s : ByteArray) (a b : Nat) : byts (s.extract a b) = ((byts s).take b).drop a := by
  unfold byts
  rw [ByteArray.data_extract, Array.toList_extract, List.extract_eq_take_drop, List.map_take, List.map_drop, List.drop_take]

theorem B64_pow (k : Nat) : B64 ^ k = 256 ^ (8 * k) := by
  rw [Nat.pow_mul]; rfl

/-- Limb k: the bytes behind the lowest 8 k. -/
theorem piece (s : ByteArray) (k lo : Nat) (h : 8 * k ≤ s.size) (hlo : lo = s.size - 8 * k - 8) : natOf (s.extract lo (s.size - 8 * k)) = M.val 256 (((byts s).reverse.drop (8 * k)).take 8) := by
  unfold natOf
  rw [byts_extract, List.drop_reverse, byts_length, List.take_reverse]
  congr 2
  rw [List.length_take, byts_length, Nat.min_eq_left (by omega), hlo]

def OfAt (s : ByteArray) (zs : List Nat) (k : Nat) : Prop := zs.length = k ∧ M.Low B64 zs ∧ M.val B64 zs = M.val 256 ((byts s).reverse.take (8 * k))
theorem OfAt.step {s : ByteArray} {zs : List Nat} {k : Nat} (h : OfAt s zs k) (hk : 8 * k ≤ s.size) : OfAt s (zs ++ [M.val 256 (((byts s).reverse.drop (8 * k)).take 8)]) (k + 1) := by
  obtain ⟨h1, h2, h3⟩ := h
  have hl : M.Low 256 (byts s).reverse := Low_reverse (byts_low s)
  refine ⟨by simp [h1], h2.snoc ?_, ?_⟩
  · exact M.val_lt_pow (k := 8) (by omega) ((hl.drop _).take 8) (by simp; omega)
  · rw [M.val_snoc, h1, h3, B64_pow, show 8 * (k + 1) = 8 * k + 8 by omega, List.take_add, M.val_append]
    congr 3
    rw [List.length_take, List.length_reverse, byts_length]
    omega

theorem of_trim {s : ByteArray} {zs : List Nat} {n : Nat} (h : OfAt s zs n) (hn : n = (s.size + 7) / 8) (h0 : 0 < s.size → lm (byts s) 0 ≠ 0) : zs = M.digs B64 (natOf s) := by
  obtain ⟨h1, h2, h3⟩ := h
  rw [List.take_of_length_le (by rw [List.length_reverse, byts_length]; omega)] at h3
  have ht : M.Trim zs := by
    intro k hk he
    have hs : 0 < s.size := by omega
    have hlt : M.val B64 zs < B64 ^ k := by
      have e := M.val_take_succ B64 zs k
      rw [M.val_take_all _ _ _ (by omega), he, Nat.mul_zero, Nat.add_zero] at e
      rw [e]
      exact M.val_lt_pow B64_pos (h2.take k) (by simp; omega)
    have hge : 256 ^ ((byts s).reverse.length - 1) ≤ M.val 256 (byts s).reverse := by
      refine M.pow_le_val _ ?_ ?_
      · intro m hm
        rw [List.length_reverse] at hm
        have : (byts s).reverse.getD m 0 = lm (byts s) 0 := by
          unfold lm
          rw [List.getD_eq_getElem?_getD, List.getD_eq_getElem?_getD, List.getElem?_reverse (by omega), hm]
          congr 2
          omega
        rw [this]
        exact h0 hs
      · intro e
        have := congrArg List.length e
        rw [List.length_reverse, byts_length] at this
        rw [List.length_nil] at this
        omega
    rw [List.length_reverse, byts_length, ← h3] at hge
    rw [B64_pow] at hlt
    have : 256 ^ (8 * k) ≤ 256 ^ (s.size - 1) := Nat.pow_le_pow_right (by omega) (by omega)
    omega
  have := M.eq_digs B64_two h2 ht
  rw [h3] at this
  exact this

set_option maxRecDepth 100000 in
set_option maxHeartbeats 2000000 in
theorem of_any (s : ByteArray) (w : World) (hm : s.size ≤ 32000) (h0 : 0 < s.size → lm (byts s) 0 ≠ 0) :
    Calls Try.prog 13 #[.string s] w fun e w' => ∃ v, e = .returned (.tuple #[v, .int .i64 0]) ∧ Rd w' v (M.digs B64 (natOf s)) ∧ Below w.heap.size w w' := by
  obtain ⟨n, hn⟩ : ∃ n, n = (s.size + 7) / 8 := ⟨_, rfl⟩
  have i1 : (((s.size : Int) + 8 - 1) / 8) = (n : Int) := by omega
  have i2 : n ≤ 4000 := by omega
  have HN := shut hn
  have H0 := shut h0
  have fz : decide ((s.size : Int) > 0) = true → ∀ h : 0 < s.size, ¬ ((s[0]).toNat : Int) = 0 := fun _ h => by
    rw [byts_at s 0 h]
    have := h0 h
    omega
  clear hn h0
  have main : ∀ w2, Blk w2 w.heap.size (List.replicate n 0) → Below w.heap.size w w2 → True := fun _ _ _ => trivial
  clear main
  by_cases hs : 0 < s.size
  · have g1 : ¬ ((s[0]).toNat : Int) = 0 := fz (by simp; omega) hs
    have g2 : ¬ s[0] = 0 := fun h => g1 (by rw [h]; rfl)
    clear fz
    go_enter Try.func13, Try.ntmps13
    go_wp2_with (at_make; refine wpList_mk rfl _ _ rfl _ n rfl rfl (by omega) (by omega) ?_; intro w2 hblk hbel)
    go_loopw [26] (fun i wr => ∃ (k : Nat) (zs : List Nat), k ≤ n ∧ i = .int .i64 k ∧ OfAt s zs k ∧ Blk wr w.heap.size (zs ++ List.replicate (n - k) 0) ∧ Below w.heap.size w wr) (fun i _ => n - (intOf i).toNat)
    case atStart => exact ⟨0, [], by omega, rfl, ⟨rfl, M.Low.nil _, by simp [M.val]⟩, by simpa using hblk, hbel⟩
    case round =>
      obtain ⟨k, zs, hk, rfl, hat, hblk', hbel'⟩ := hrel
      have hzl : zs.length = k := hat.1
      by_cases hlt : k < n
      · have h8 : 8 * k ≤ s.size := by have := HN.out; omega
        have HST := shut (hat.step h8)
        have hpc : ∀ lo, lo = s.size - 8 * k - 8 → natOf (s.extract lo (s.size - 8 * k)) = M.val 256 (((byts s).reverse.drop (8 * k)).take 8) := fun lo hlo => piece s k lo h8 hlo
        have HPC := shut hpc
        have hset : ∀ x, ∀ w4, Blk w4 w.heap.size (zs ++ List.replicate (n - k) 0) → Blk (w4.setCell ⟨w.heap.size, k, none⟩ (.int .u64 (x : Nat))) w.heap.size ((zs ++ [x]) ++ List.replicate (n - (k + 1)) 0) := fun x w4 hb => by
          have h := hb.set k x
          rw [show n - k = (n - (k + 1)) + 1 by omega] at h
          have e := M.set_append_replicate zs (n - (k + 1)) x
          rw [hzl] at e
          rwa [e] at h
        have HSET := shut hset
        have ik : (k : Int) < (n : Int) := by omega
        have hsz : 1 ≤ s.size - 8 * k := by have := HN.out; omega
        have ZL := shut hzl
        clear hat hpc hset hzl i1
        by_cases hend : 8 ≤ s.size - 8 * k
        · have j4 : max ((s.size : Int) - 8 * (k : Int) - 8) 0 = (s.size : Int) - 8 * (k : Int) - 8 := by omega
          have j5 : ((s.size : Int) - 8 * (k : Int) - 8).toNat = s.size - 8 * k - 8 := by omega
          have j6 : ((s.size : Int) - 8 * (k : Int)).toNat = s.size - 8 * k := by omega
          have hsl : ∀ wx : World, (Instr.slice 32 (.string s) (some (.int .i64 ((s.size : Int) - 8 * (k : Int) - 8))) (some (.int .i64 ((s.size : Int) - 8 * (k : Int)))) none).run Try.prog wx = .ok (.string (s.extract (s.size - 8 * k - 8) (s.size - 8 * k))) wx := fun wx => by
            rw [run_slice_string (P := Try.prog) wx 32 s .i64 .i64 _ _ Try.underlying32 (by omega) (by omega) (by omega), j5, j6]
          have H30 := shut (fun w0 => limbOf_any (s.extract (s.size - 8 * k - 8) (s.size - 8 * k)) (by rw [ByteArray.size_extract]; omega) w0)
          clear j5 j6
          go_wp2_with fail
          refine (H30.out _).mono ?_
          rintro e w4 ⟨rfl, b4⟩
          rw [HPC.out _ rfl]
          have hblk4 := hblk'.below b4
          have hbel4 := Below.after hbel' b4
          have HB4 := shut (HSET.out (M.val 256 (((byts s).reverse.drop (8 * k)).take 8)) w4 hblk4)
          have hc1 := hblk4.cell (j := k) (by rw [List.length_append, List.length_replicate, ZL.out]; omega)
          have hf1 := hblk4.frozen k
          generalize M.val 256 (((byts s).reverse.drop (8 * k)).take 8) = y at *
          clear hsl H30 HPC HSET hblk4 j4
          go_wp2
          exact ⟨⟨k + 1, _, by omega, by go_num, HST.out, HB4.out, hbel4.setCell (Nat.le_refl _) _⟩, by simp [intOf]; omega⟩
        · have j4 : max ((s.size : Int) - 8 * (k : Int) - 8) 0 = 0 := by omega
          have j6 : ((s.size : Int) - 8 * (k : Int)).toNat = s.size - 8 * k := by omega
          have hsl : ∀ wx : World, (Instr.slice 32 (.string s) (some (.int .i64 0)) (some (.int .i64 ((s.size : Int) - 8 * (k : Int)))) none).run Try.prog wx = .ok (.string (s.extract 0 (s.size - 8 * k))) wx := fun wx => by
            rw [run_slice_string (P := Try.prog) wx 32 s .i64 .i64 _ _ Try.underlying32 (by omega) (by omega) (by omega), j6]; rfl
          have H30 := shut (fun w0 => limbOf_any (s.extract 0 (s.size - 8 * k)) (by rw [ByteArray.size_extract]; omega) w0)
          have HL0 : Hid (0 = s.size - 8 * k - 8) := by show _ = _; omega
          clear j6
          go_wp2_with fail
          refine (H30.out _).mono ?_
          rintro e w4 ⟨rfl, b4⟩
          rw [HPC.out _ HL0.out]
          have hblk4 := hblk'.below b4
          have hbel4 := Below.after hbel' b4
          have HB4 := shut (HSET.out (M.val 256 (((byts s).reverse.drop (8 * k)).take 8)) w4 hblk4)
          have hc1 := hblk4.cell (j := k) (by rw [List.length_append, List.length_replicate, ZL.out]; omega)
          have hf1 := hblk4.frozen k
          generalize M.val 256 (((byts s).reverse.drop (8 * k)).take 8) = y at *
          clear hsl H30 HPC HSET hblk4 j4
          go_wp2
          exact ⟨⟨k + 1, _, by omega, by go_num, HST.out, HB4.out, hbel4.setCell (Nat.le_refl _) _⟩, by simp [intOf]; omega⟩
      · have hke : k = n := by omega
        subst hke
        have HF := shut (of_trim hat HN.out H0.out)
        rw [Nat.sub_self, List.replicate_zero, List.append_nil] at hblk'
        have hrd : Rd wr (.slice (some ⟨w.heap.size, 0, none⟩) k k) zs := by
          have := hblk'.rd0 k (by omega)
          rwa [hzl] at this
        clear hat
        go_wp2
        go_ret2
        exact ⟨_, rfl, by rw [← HF.out]; exact hrd, hbel'⟩
  · clear fz
    have hs0 : s.size = 0 := by omega
    have hs1 : ¬ (0 : Int) < (s.size : Int) := by omega
    clear hs0
    go_enter Try.func13, Try.ntmps13
    go_wp2_with (at_make; refine wpList_mk rfl _ _ rfl _ n rfl rfl (by omega) (by omega) ?_; intro w2 hblk hbel)
    go_loopw [26] (fun i wr => ∃ (k : Nat) (zs : List Nat), k ≤ n ∧ i = .int .i64 k ∧ OfAt s zs k ∧ Blk wr w.heap.size (zs ++ List.replicate (n - k) 0) ∧ Below w.heap.size w wr) (fun i _ => n - (intOf i).toNat)
    case atStart => exact ⟨0, [], by omega, rfl, ⟨rfl, M.Low.nil _, by simp [M.val]⟩, by simpa using hblk, hbel⟩
    case round =>
      obtain ⟨k, zs, hk, rfl, hat, hblk', hbel'⟩ := hrel
      have hzl : zs.length = k := hat.1
      by_cases hlt : k < n
      · exfalso; have := HN.out; omega
      · have hke : k = n := by omega
        subst hke
        have HF := shut (of_trim hat HN.out H0.out)
        rw [Nat.sub_self, List.replicate_zero, List.append_nil] at hblk'
        have hrd : Rd wr (.slice (some ⟨w.heap.size, 0, none⟩) k k) zs := by
          have := hblk'.rd0 k (by omega)
          rwa [hzl] at this
        clear hat
        go_wp2
        go_ret2
        exact ⟨_, rfl, by rw [← HF.out]; exact hrd, hbel'⟩
end Go.Proofs.Ytiahhpkpimaidab
