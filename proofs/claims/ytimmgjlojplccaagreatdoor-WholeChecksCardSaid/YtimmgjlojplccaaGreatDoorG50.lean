/-
  limb.Of and whole.read: the rows that they make are the call's own.
-/
import Derived.Test.YtimmgjlojplccaaGreatDoorG20
namespace Go.Proofs.YtimmgjlojplccaaGreatDoor
open Go.RowKit

set_option maxRecDepth 100000 in
set_option maxHeartbeats 2000000 in
theorem of_own (s : ByteArray) (w : World) (hm : s.size ≤ 32000) (h0 : 0 < s.size → lm (byts s) 0 ≠ 0) :
    Calls Tryz.prog 45 #[.string s] w fun e w' => ∃ n, e = .returned (.tuple #[.slice (some ⟨w.heap.size, 0, none⟩) n n, .int .i64 0]) ∧ (M.digs B64 (natOf s)).length = n ∧ Blk w' w.heap.size (M.digs B64 (natOf s)) ∧ Below w.heap.size w w' := by
  obtain ⟨n, hn⟩ : ∃ n, n = (s.size + 7) / 8 := ⟨_, rfl⟩
  have i1 : (((s.size : Int) + 8 - 1) / 8) = (n : Int) := by omega
  have i2 : n ≤ 4000 := by omega
  have HN := shut hn
  have H0 := shut h0
  have fz : decide ((s.size : Int) > 0) = true → ∀ h : 0 < s.size, ¬ ((s[0]).toNat : Int) = 0 := fun _ h => by
    rw [byts_at s 0 h]
    have := h0 h
    omega
  clear hn h0
  have main : ∀ w2, Blk w2 w.heap.size (List.replicate n 0) → Below w.heap.size w w2 → True := fun _ _ _ => trivial
  clear main
  by_cases hs : 0 < s.size
  · have g1 : ¬ ((s[0]).toNat : Int) = 0 := fz (by simp; omega) hs
    have g2 : ¬ s[0] = 0 := fun h => g1 (by rw [h]; rfl)
    clear fz
    go_enter Tryz.func45, Tryz.ntmps45
    go_wp2_with (at_make; refine wpList_mk rfl _ _ rfl _ n rfl rfl (by omega) (by omega) ?_; intro w2 hblk hbel)
    go_loopw [26] (fun i wr => ∃ (k : Nat) (zs : List Nat), k ≤ n ∧ i = .int .i64 k ∧ OfAt s zs k ∧ Blk wr w.heap.size (zs ++ List.replicate (n - k) 0) ∧ Below w.heap.size w wr) (fun i _ => n - (intOf i).toNat)
    case atStart => exact ⟨0, [], by omega, rfl, ⟨rfl, M.Low.nil _, by simp [M.val]⟩, by simpa using hblk, hbel⟩
    case round =>
      obtain ⟨k, zs, hk, rfl, hat, hblk', hbel'⟩ := hrel
      have hzl : zs.length = k := hat.1
      by_cases hlt : k < n
      · have h8 : 8 * k ≤ s.size := by have := HN.out; omega
        have HST := shut (hat.step h8)
        have hpc : ∀ lo, lo = s.size - 8 * k - 8 → natOf (s.extract lo (s.size - 8 * k)) = M.val 256 (((byts s).reverse.drop (8 * k)).take 8) := fun lo hlo => piece s k lo h8 hlo
        have HPC := shut hpc
        have hset : ∀ x, ∀ w4, Blk w4 w.heap.size (zs ++ List.replicate (n - k) 0) → Blk (w4.setCell ⟨w.heap.size, k, none⟩ (.int .u64 (x : Nat))) w.heap.size ((zs ++ [x]) ++ List.replicate (n - (k + 1)) 0) := fun x w4 hb => by
          have h := hb.set k x
          rw [show n - k = (n - (k + 1)) + 1 by omega] at h
          have e := M.set_append_replicate zs (n - (k + 1)) x
          rw [hzl] at e
          rwa [e] at h
        have HSET := shut hset
        have ik : (k : Int) < (n : Int) := by omega
        have hsz : 1 ≤ s.size - 8 * k := by have := HN.out; omega
        have ZL := shut hzl
        clear hat hpc hset hzl i1
        by_cases hend : 8 ≤ s.size - 8 * k
        · have j4 : max ((s.size : Int) - 8 * (k : Int) - 8) 0 = (s.size : Int) - 8 * (k : Int) - 8 := by omega
          have j5 : ((s.size : Int) - 8 * (k : Int) - 8).toNat = s.size - 8 * k - 8 := by omega
          have j6 : ((s.size : Int) - 8 * (k : Int)).toNat = s.size - 8 * k := by omega
          have hsl : ∀ wx : World, (Instr.slice 22 (.string s) (some (.int .i64 ((s.size : Int) - 8 * (k : Int) - 8))) (some (.int .i64 ((s.size : Int) - 8 * (k : Int)))) none).run Tryz.prog wx = .ok (.string (s.extract (s.size - 8 * k - 8) (s.size - 8 * k))) wx := fun wx => by
            rw [run_slice_string (P := Tryz.prog) wx 22 s .i64 .i64 _ _ Tryz.underlying22 (by omega) (by omega) (by omega), j5, j6]
          have H30 := shut (fun w0 => limbOf_any (s.extract (s.size - 8 * k - 8) (s.size - 8 * k)) (by rw [ByteArray.size_extract]; omega) w0)
          clear j5 j6
          go_wp2_with fail
          refine (H30.out _).mono ?_
          rintro e w4 ⟨rfl, b4⟩
          rw [HPC.out _ rfl]
          have hblk4 := hblk'.below b4
          have hbel4 := Below.after hbel' b4
          have HB4 := shut (HSET.out (M.val 256 (((byts s).reverse.drop (8 * k)).take 8)) w4 hblk4)
          have hc1 := hblk4.cell (j := k) (by rw [List.length_append, List.length_replicate, ZL.out]; omega)
          have hf1 := hblk4.frozen k
          generalize M.val 256 (((byts s).reverse.drop (8 * k)).take 8) = y at *
          clear hsl H30 HPC HSET hblk4 j4
          go_wp2
          exact ⟨⟨k + 1, _, by omega, by go_num, HST.out, HB4.out, hbel4.setCell (Nat.le_refl _) _⟩, by simp [intOf]; omega⟩
        · have j4 : max ((s.size : Int) - 8 * (k : Int) - 8) 0 = 0 := by omega
          have j6 : ((s.size : Int) - 8 * (k : Int)).toNat = s.size - 8 * k := by omega
          have hsl : ∀ wx : World, (Instr.slice 22 (.string s) (some (.int .i64 0)) (some (.int .i64 ((s.size : Int) - 8 * (k : Int)))) none).run Tryz.prog wx = .ok (.string (s.extract 0 (s.size - 8 * k))) wx := fun wx => by
            rw [run_slice_string (P := Tryz.prog) wx 22 s .i64 .i64 _ _ Tryz.underlying22 (by omega) (by omega) (by omega), j6]; rfl
          have H30 := shut (fun w0 => limbOf_any (s.extract 0 (s.size - 8 * k)) (by rw [ByteArray.size_extract]; omega) w0)
          have HL0 : Hid (0 = s.size - 8 * k - 8) := by show _ = _; omega
          clear j6
          go_wp2_with fail
          refine (H30.out _).mono ?_
          rintro e w4 ⟨rfl, b4⟩
          rw [HPC.out _ HL0.out]
          have hblk4 := hblk'.below b4
          have hbel4 := Below.after hbel' b4
          have HB4 := shut (HSET.out (M.val 256 (((byts s).reverse.drop (8 * k)).take 8)) w4 hblk4)
          have hc1 := hblk4.cell (j := k) (by rw [List.length_append, List.length_replicate, ZL.out]; omega)
          have hf1 := hblk4.frozen k
          generalize M.val 256 (((byts s).reverse.drop (8 * k)).take 8) = y at *
          clear hsl H30 HPC HSET hblk4 j4
          go_wp2
          exact ⟨⟨k + 1, _, by omega, by go_num, HST.out, HB4.out, hbel4.setCell (Nat.le_refl _) _⟩, by simp [intOf]; omega⟩
      · have hke : k = n := by omega
        subst hke
        have HF := shut (of_trim hat HN.out H0.out)
        rw [Nat.sub_self, List.replicate_zero, List.append_nil] at hblk'
        clear hat
        go_wp2
        go_ret2
        exact ⟨_, rfl, by rw [← HF.out]; exact hzl, by rw [← HF.out]; exact hblk', hbel'⟩
  · clear fz
    have hs0 : s.size = 0 := by omega
    have hs1 : ¬ (0 : Int) < (s.size : Int) := by omega
    clear hs0
    go_enter Tryz.func45, Tryz.ntmps45
    go_wp2_with (at_make; refine wpList_mk rfl _ _ rfl _ n rfl rfl (by omega) (by omega) ?_; intro w2 hblk hbel)
    go_loopw [26] (fun i wr => ∃ (k : Nat) (zs : List Nat), k ≤ n ∧ i = .int .i64 k ∧ OfAt s zs k ∧ Blk wr w.heap.size (zs ++ List.replicate (n - k) 0) ∧ Below w.heap.size w wr) (fun i _ => n - (intOf i).toNat)
    case atStart => exact ⟨0, [], by omega, rfl, ⟨rfl, M.Low.nil _, by simp [M.val]⟩, by simpa using hblk, hbel⟩
    case round =>
      obtain ⟨k, zs, hk, rfl, hat, hblk', hbel'⟩ := hrel
      have hzl : zs.length = k := hat.1
      by_cases hlt : k < n
      · exfalso; have := HN.out; omega
      · have hke : k = n := by omega
        subst hke
        have HF := shut (of_trim hat HN.out H0.out)
        rw [Nat.sub_self, List.replicate_zero, List.append_nil] at hblk'
        clear hat
        go_wp2
        go_ret2
        exact ⟨_, rfl, by rw [← HF.out]; exact hzl, by rw [← HF.out]; exact hblk', hbel'⟩


set_option maxRecDepth 100000 in
set_option maxHeartbeats 2000000 in
theorem read2_own (B : Nat) (n0 n1 : Bool) (s0 s1 : ByteArray) (w : World) (hB : Cel w B [.bool n0, .string s0, .bool n1, .string s1] 24) (o0 : OkZ n0 s0) (o1 : OkZ n1 s1) (z0 : s0.size ≤ 32000) (z1 : s1.size ≤ 32000) :
    Calls Tryz.prog 23 #[.slice (some ⟨B, 0, none⟩) 2 2] w fun e w' => ∃ g g0 g1 m0 m1, e = .returned (.tuple #[.slice (some ⟨g, 0, none⟩) 2 2, .int .i64 0]) ∧ Cel w' g [.bool n0, .slice (some ⟨g0, 0, none⟩) m0 m0, .bool n1, .slice (some ⟨g1, 0, none⟩) m1 m1] 49 ∧
      (M.digs B64 (natOf s0)).length = m0 ∧ (M.digs B64 (natOf s1)).length = m1 ∧ Blk w' g0 (M.digs B64 (natOf s0)) ∧ Blk w' g1 (M.digs B64 (natOf s1)) ∧ w.heap.size ≤ g ∧ g < g0 ∧ g0 < g1 ∧ Below w.heap.size w w' := by
  have hmk := run_mk2 w
  have Z0 := shut ((chk_ok z0).2 o0)
  have Z1 := shut ((chk_ok z1).2 o1)
  have H0 := shut o0.1
  have H1 := shut o1.1
  clear o0 o1
  go_enter Tryz.func23, Tryz.ntmps23
  go_wp2
  go_loopw [15] (fun i wr => Below w.heap.size w wr ∧ ((i = .int .i64 0 ∧ Cel wr w.heap.size [.bool false, .slice none 0 0, .bool false, .slice none 0 0] 49) ∨
      (i = .int .i64 1 ∧ ∃ g0 m0, Cel wr w.heap.size [.bool n0, .slice (some ⟨g0, 0, none⟩) m0 m0, .bool false, .slice none 0 0] 49 ∧ (M.digs B64 (natOf s0)).length = m0 ∧ Blk wr g0 (M.digs B64 (natOf s0)) ∧ w.heap.size < g0) ∨
      (i = .int .i64 2 ∧ ∃ g0 g1 m0 m1, Cel wr w.heap.size [.bool n0, .slice (some ⟨g0, 0, none⟩) m0 m0, .bool n1, .slice (some ⟨g1, 0, none⟩) m1 m1] 49 ∧ (M.digs B64 (natOf s0)).length = m0 ∧ (M.digs B64 (natOf s1)).length = m1 ∧ Blk wr g0 (M.digs B64 (natOf s0)) ∧ Blk wr g1 (M.digs B64 (natOf s1)) ∧ w.heap.size < g0 ∧ g0 < g1))) (fun i _ => 2 - (intOf i).toNat)
  case atStart => exact ⟨(Below.refl _ _).alloc (Nat.le_refl _) _, Or.inl ⟨rfl, Cel.new w [.bool false, .slice none 0 0, .bool false, .slice none 0 0] 49⟩⟩
  case round =>
    obtain ⟨hbel, hc⟩ := hrel
    have kB := hB.below hbel
    have b0 := kB.cell 0
    have b1 := kB.cell 1
    have b2 := kB.cell 2
    have b3 := kB.cell 3
    simp only [List.getElem?_cons_zero, List.getElem?_cons_succ] at b0 b1 b2 b3
    clear kB
    rcases hc with ⟨rfl, hc⟩ | ⟨rfl, g0, m0, hc, q0, r0, q1⟩ | ⟨rfl, g0, g1, m0, m1, hc, q0, q1, r0, r1, q2, q3⟩
    · go_wp2_with fail
      obtain ⟨w1, hw1⟩ : ∃ w1, w1 = wr.alloc (.cells #[.bool n0, .string s0] 24) := ⟨_, rfl⟩
      have hb1 : Below wr.heap.size wr w1 := by rw [hw1]; exact (Below.refl _ _).alloc (Nat.le_refl _) _
      have k1 : Cel w1 wr.heap.size [.bool n0, .string s0] 24 := by rw [hw1]; exact Cel.new wr _ 24
      rw [← hw1]
      clear hw1 b0 b1 b2 b3
      refine (check_any n0 s0 w1).mono ?_
      rintro e w2 ⟨rfl, hb2⟩
      rw [Z0.out]
      have k2 := k1.below hb2
      have d0 := cel2_0' k2
      have d1 := cel2_1' k2
      go_wp2_with fail
      refine (of_own s0 w2 z0 H0.out).mono ?_
      rintro e w3 ⟨nv, rfl, hnv, kv, hb3⟩
      have HNV := shut hnv
      clear hnv
      have hlt2 : w.heap.size < w2.heap.size := ((hc.below hb1).below hb2).lt
      have k3' := k2.below hb3
      have d0 := cel2_0' k3'
      have k3 := ((hc.below hb1).below hb2).below hb3
      have bb3 := Below.after (Below.after (Below.after hbel hb1) hb2) hb3
      have e0 := k3.cell 0
      have e1 := k3.cell 1
      have f0 := k3.frozen 0
      have f1 := k3.frozen 1
      simp only [List.getElem?_cons_zero, List.getElem?_cons_succ] at e0 e1
      have KV := shut (fun x y => (((Only.refl w.heap.size w3).setCell 0 x).setCell 1 y).blk kv (by omega))
      clear kv
      go_wp2
      exact ⟨⟨(bb3.setCell (Nat.le_refl _) _).setCell (Nat.le_refl _) _, Or.inr (Or.inl ⟨by go_num, _, _, (k3.set 0 _).set 1 _, HNV.out, KV.out _ _, hlt2⟩)⟩, by simp [intOf]⟩
    · have Q0 := shut q0
      clear q0
      go_wp2_with fail
      obtain ⟨w1, hw1⟩ : ∃ w1, w1 = wr.alloc (.cells #[.bool n1, .string s1] 24) := ⟨_, rfl⟩
      have hb1 : Below wr.heap.size wr w1 := by rw [hw1]; exact (Below.refl _ _).alloc (Nat.le_refl _) _
      have k1 : Cel w1 wr.heap.size [.bool n1, .string s1] 24 := by rw [hw1]; exact Cel.new wr _ 24
      rw [← hw1]
      clear hw1 b0 b1 b2 b3
      refine (check_any n1 s1 w1).mono ?_
      rintro e w2 ⟨rfl, hb2⟩
      rw [Z1.out]
      have k2 := k1.below hb2
      have d0 := cel2_0' k2
      have d1 := cel2_1' k2
      go_wp2_with fail
      refine (of_own s1 w2 z1 H1.out).mono ?_
      rintro e w3 ⟨nv, rfl, hnv, kv, hb3⟩
      have HNV := shut hnv
      clear hnv
      have hlt2 : w.heap.size < w2.heap.size := ((hc.below hb1).below hb2).lt
      have k3' := k2.below hb3
      have d0 := cel2_0' k3'
      have k3 := ((hc.below hb1).below hb2).below hb3
      have bb3 := Below.after (Below.after (Below.after hbel hb1) hb2) hb3
      have e0 := k3.cell 2
      have e1 := k3.cell 3
      have f0 := k3.frozen 2
      have f1 := k3.frozen 3
      simp only [List.getElem?_cons_zero, List.getElem?_cons_succ] at e0 e1
      have KV := shut (fun x y => (((Only.refl w.heap.size w3).setCell 2 x).setCell 3 y).blk kv (by omega))
      have r03 := (r0.below hb1).below (Below.after hb2 hb3)
      have KV0 := shut (fun x y => (((Only.refl w.heap.size w3).setCell 2 x).setCell 3 y).blk r03 (by omega))
      have hlt3 : g0 < w2.heap.size := ((r0.below hb1).below hb2).lt
      clear r03 kv
      go_wp2
      exact ⟨⟨(bb3.setCell (Nat.le_refl _) _).setCell (Nat.le_refl _) _, Or.inr (Or.inr ⟨by go_num, _, _, _, _, (k3.set 2 _).set 3 _, Q0.out, HNV.out, KV0.out _ _, KV.out _ _, q1, hlt3⟩)⟩, by simp [intOf]⟩
    · have Q0 := shut q0
      have Q1 := shut q1
      clear q0 q1
      go_wp2
      go_ret2
      exact ⟨_, g0, g1, m0, m1, rfl, hc, Q0.out, Q1.out, r0, r1, Nat.le_refl _, q2, q3, hbel⟩

end Go.Proofs.YtimmgjlojplccaaGreatDoor
