/-
  limb.product of rows of any lengths; limb.Mul.
-/
import Derived.Test.YtiahhpkpimaidabProd2
namespace Go.Proofs.Ytiahhpkpimaidab
open Go.RowKit

set_option maxHeartbeats 2000000 in
theorem product_long (N : Nat) (hP : ProdSpec N) (va vb : Value) (xs ys : List Nat) (w : World) (ha : Rd w va xs) (hb : Rd w vb ys) (la : M.Low B64 xs) (lb : M.Low B64 ys) (hlt : ys.length < xs.length) (h40 : 40 ≤ ys.length) (hm : xs.length ≤ 100000) (hN : 2 * ys.length ≤ N) :
    Calls Try.prog 19 #[va, vb] w (Made w (M.val B64 xs) (M.val B64 ys) (xs.length + ys.length)) ∧ Calls Try.prog 19 #[vb, va] w (Made w (M.val B64 xs) (M.val B64 ys) (xs.length + ys.length)) := by
  have HP := shut hP
  have ha0 := ha
  have hb0 := hb
  obtain ⟨a, ca, rfl, hca, hac⟩ := ha
  obtain ⟨b, cb, rfl, hcb, hbc⟩ := hb
  obtain ⟨ab, ao, rfl, _⟩ := hac 0 (by omega)
  obtain ⟨bb, bo, rfl, _⟩ := hbc 0 (by omega)
  have hd40 : decide ((ys.length : Int) < 40) = false := by simp; omega
  have hde : ((ys.length : Int) == (xs.length : Int)) = false := by simp; omega
  obtain ⟨n, hn⟩ : ∃ n, n = xs.length + ys.length := ⟨_, rfl⟩
  rw [← hn]
  have HN : Hid (n = xs.length + ys.length) := hn
  have hnb : n ≤ 200000 := by omega
  have hnn : xs.length < n := by omega
  clear hn hP hac hbc
  refine ⟨?_, ?_⟩
  · have hnl : ¬ xs.length < ys.length := by omega
    go_enter Try.func19, Try.ntmps19
    go_wp2_with (at_make; refine wpList_mk rfl _ _ rfl _ n rfl rfl (by have := HN.out; omega) (by omega) ?_; intro w2 hblk hbel)
    go_loopw [9] (fun i wr => ∃ (k : Nat) (zs : List Nat), k ≤ n ∧ i = .int .i64 k ∧ CAt xs ys zs k ∧ Blk wr w.heap.size zs ∧ Below w.heap.size w wr) (fun i _ => n - (intOf i).toNat)
    case atStart =>
      exact ⟨0, List.replicate n 0, by omega, rfl, ⟨by rw [List.length_replicate]; exact HN.out, M.Low.replicate _ _ B64_pos, by simp [M.val, M.val_replicate]⟩, hblk, hbel⟩
    case round =>
      obtain ⟨k, zs, hk, rfl, hat, hblk', hbel'⟩ := hrel
      have ZL : Hid (zs.length = xs.length + ys.length) := hat.1
      by_cases hlt' : k < xs.length
      · have ha1 := ha0.below hbel'
        have hb1 := hb0.below hbel'
        by_cases hend : xs.length < k + ys.length
        · have htk : xs.take xs.length = xs.take (k + ys.length) := by rw [List.take_length, List.take_of_length_le (by omega)]
          have HTK := shut htk
          clear htk
          have hce : ((xs.length) : Nat) ≤ xs.length := by omega
          have q1 : Rd wr.drew (.slice (some ⟨ab, ao + k, none⟩) (xs.length - k) (xs.length - k)) ((xs.drop k).take (xs.length - k)) := (ha1.drop k (xs.length - k) (xs.length - k) rfl (Nat.le_refl _)).take (xs.length - k) (xs.length - k) (by first | (simp; done) | (simp; omega)) (Nat.le_refl _)
          have hql : ((xs.drop k).take (xs.length - k)).length = xs.length - k   := by first | (simp; done) | (simp; omega)
          have h43 := HP.out _ _ _ _ _ q1 hb1 ((la.drop k).take _) lb (by rw [hql]; omega)
          rw [hql] at h43
          have h52 : ∀ (g2 : Nat) (z2 : List Nat) (w3 : World), Blk w3 w.heap.size zs → Blk w3 g2 z2 → w.heap.size < g2 → z2.length = xs.length - k + ys.length → M.Low B64 z2 → M.val B64 z2 = M.val B64 ((xs.drop k).take (xs.length - k)) * M.val B64 ys →
              Calls Try.prog 31 #[.slice (some ⟨w.heap.size, k, none⟩) (n - k) (n - k), .slice (some ⟨g2, 0, none⟩) z2.length z2.length] w3 fun e w' => ∃ (zs' : List Nat) (c : Nat), e = .returned (.int .u64 (c : Nat)) ∧ Blk w' w.heap.size zs' ∧ CAt xs ys zs' (k + ys.length) ∧ Only w.heap.size w3 w' := by
            intro g2 z2 w3 kk1 kk2 hgg hz2 lz2 vz2
            have hpl : (zs.take k).length = k := by rw [List.length_take, ZL.out]; omega
            have hsl : (zs.drop k).length = n - k := by rw [List.length_drop, ZL.out, HN.out]
            have h := addTo_any w.heap.size (zs.take k) (zs.drop k) [] (.slice (some ⟨g2, 0, none⟩) z2.length z2.length) z2 (n - k) w3 (by rw [List.take_append_drop, List.append_nil]; exact kk1) (by rw [hsl, hz2, HN.out]; omega) (by simpa using kk2.rdX (g := w.heap.size) 0 z2.length z2.length (by omega) (Nat.le_refl _) (by omega)) (hat.2.1.drop k) lz2 (by rw [hsl]; omega)
            rw [hpl, hsl] at h
            refine h.mono ?_
            rintro e w' ⟨s', c, rfl, r1, r2, r3, r4, r5, r6⟩
            refine ⟨zs.take k ++ s', c, rfl, by simpa using r1, ?_, r6⟩
            rw [vz2, HN.out] at r5
            have h2 := hat.step (e := xs.length) la lb (by omega) (by omega) (by rw [r2, HN.out]) r3 rfl r5
            exact ⟨h2.1, h2.2.1, by rw [h2.2.2, HTK.out]⟩
          have H43 := shut h43
          have H52 := shut h52
          have i1 : (k : Int) ≤ (n : Int) := by omega
          have i2 : ¬ n = k := by omega
          have i3 : (((xs.length) : Nat) : Int) ≤ (ca : Int) := by omega
          have i4 : (k : Int) ≤ (((xs.length) : Nat) : Int) := by omega
          have i5 : ¬ (xs.length) = k := by omega
          clear h43 h52 q1 hql
          go_wp2
          go_region_held3 (fun _ => True) (trivial) (first | (go_at_call 19; refine H43.out.mono ?_; rintro e w3 ⟨g2, z2, rfl, k2, n2, l2, v2, s2, f2⟩; have N2 := shut n2; have V2 := shut v2; have K2 := shut k2; clear n2 v2 k2) | (go_at_call 31; refine (H52.out _ _ _ (hblk'.below ⟨f2.os, f2.tape, f2.output, f2.size, f2.block⟩) K2.out (Nat.lt_of_lt_of_le hblk'.lt s2) N2.out l2 V2.out).mono ?_; rintro e w4 ⟨zs', c, rfl, kk, cat, oo⟩))
          go_wp2
          go_roundw
          case rel =>
            have f2' : Below wr.heap.size wr w3 := ⟨f2.os, f2.tape, f2.output, f2.size, f2.block⟩
            exact ⟨k + ys.length, zs', by have := HN.out; omega, by go_num, cat, kk, oo.below (Below.after hbel' f2') (Nat.le_refl _)⟩
          case measure => simp [intOf]; omega
        · have hend' : k + ys.length ≤ xs.length := by omega
          clear hend
          have hce : ((k + ys.length) : Nat) ≤ xs.length := by omega
          have q1 : Rd wr.drew (.slice (some ⟨ab, ao + k, none⟩) ys.length ys.length) ((xs.drop k).take ys.length) := (ha1.drop k (xs.length - k) (xs.length - k) rfl (Nat.le_refl _)).take ys.length ys.length (by first | (simp; done) | (simp; omega)) (Nat.le_refl _)
          have hql : ((xs.drop k).take ys.length).length = ys.length   := by first | (simp; done) | (simp; omega)
          have h43 := HP.out _ _ _ _ _ q1 hb1 ((la.drop k).take _) lb (by rw [hql]; omega)
          rw [hql] at h43
          have h52 : ∀ (g2 : Nat) (z2 : List Nat) (w3 : World), Blk w3 w.heap.size zs → Blk w3 g2 z2 → w.heap.size < g2 → z2.length = ys.length + ys.length → M.Low B64 z2 → M.val B64 z2 = M.val B64 ((xs.drop k).take ys.length) * M.val B64 ys →
              Calls Try.prog 31 #[.slice (some ⟨w.heap.size, k, none⟩) (n - k) (n - k), .slice (some ⟨g2, 0, none⟩) z2.length z2.length] w3 fun e w' => ∃ (zs' : List Nat) (c : Nat), e = .returned (.int .u64 (c : Nat)) ∧ Blk w' w.heap.size zs' ∧ CAt xs ys zs' (k + ys.length) ∧ Only w.heap.size w3 w' := by
            intro g2 z2 w3 kk1 kk2 hgg hz2 lz2 vz2
            have hpl : (zs.take k).length = k := by rw [List.length_take, ZL.out]; omega
            have hsl : (zs.drop k).length = n - k := by rw [List.length_drop, ZL.out, HN.out]
            have h := addTo_any w.heap.size (zs.take k) (zs.drop k) [] (.slice (some ⟨g2, 0, none⟩) z2.length z2.length) z2 (n - k) w3 (by rw [List.take_append_drop, List.append_nil]; exact kk1) (by rw [hsl, hz2, HN.out]; omega) (by simpa using kk2.rdX (g := w.heap.size) 0 z2.length z2.length (by omega) (Nat.le_refl _) (by omega)) (hat.2.1.drop k) lz2 (by rw [hsl]; omega)
            rw [hpl, hsl] at h
            refine h.mono ?_
            rintro e w' ⟨s', c, rfl, r1, r2, r3, r4, r5, r6⟩
            refine ⟨zs.take k ++ s', c, rfl, by simpa using r1, ?_, r6⟩
            rw [vz2, HN.out] at r5
            have h2 := hat.step (e := k + ys.length) la lb (by omega) (by omega) (by rw [r2, HN.out]) r3 (by rw [Nat.add_sub_cancel_left]) r5
            exact h2
          have H43 := shut h43
          have H52 := shut h52
          have i1 : (k : Int) ≤ (n : Int) := by omega
          have i2 : ¬ n = k := by omega
          have i3 : (k : Int) + (ys.length : Int) ≤ (ca : Int) := by omega
          have i4 : (k : Int) ≤ (k : Int) + (ys.length : Int) := by omega
          have i5 : ¬ ys.length = 0 := by omega
          have i6 : ((k : Int) + (ys.length : Int)).toNat = k + ys.length := by omega
          clear h43 h52 q1 hql
          go_wp2
          go_region_held3 (fun _ => True) (trivial) (first | (go_at_call 19; refine H43.out.mono ?_; rintro e w3 ⟨g2, z2, rfl, k2, n2, l2, v2, s2, f2⟩; have N2 := shut n2; have V2 := shut v2; have K2 := shut k2; clear n2 v2 k2) | (go_at_call 31; refine (H52.out _ _ _ (hblk'.below ⟨f2.os, f2.tape, f2.output, f2.size, f2.block⟩) K2.out (Nat.lt_of_lt_of_le hblk'.lt s2) N2.out l2 V2.out).mono ?_; rintro e w4 ⟨zs', c, rfl, kk, cat, oo⟩))
          go_wp2
          go_roundw
          case rel =>
            have f2' : Below wr.heap.size wr w3 := ⟨f2.os, f2.tape, f2.output, f2.size, f2.block⟩
            exact ⟨k + ys.length, zs', by have := HN.out; omega, by go_num, cat, kk, oo.below (Below.after hbel' f2') (Nat.le_refl _)⟩
          case measure => simp [intOf]; omega
      · have h3 := hat.2.2
        rw [M.val_take_all _ _ _ (by omega)] at h3
        have H3 := shut h3
        have HU : Hid (zs.length = n) := by show _ = _; rw [ZL.out, HN.out]
        clear h3 hblk hbel
        go_wp2
        go_ret
        exact ⟨w.heap.size, zs, by rw [HU.out]; rfl, hblk', HU.out, hat.2.1, H3.out, Nat.le_refl _, hbel'⟩
  · go_enter Try.func19, Try.ntmps19
    go_wp2_with (at_make; refine wpList_mk rfl _ _ rfl _ n rfl rfl (by have := HN.out; omega) (by omega) ?_; intro w2 hblk hbel)
    go_loopw [9] (fun i wr => ∃ (k : Nat) (zs : List Nat), k ≤ n ∧ i = .int .i64 k ∧ CAt xs ys zs k ∧ Blk wr w.heap.size zs ∧ Below w.heap.size w wr) (fun i _ => n - (intOf i).toNat)
    case atStart =>
      exact ⟨0, List.replicate n 0, by omega, rfl, ⟨by rw [List.length_replicate]; exact HN.out, M.Low.replicate _ _ B64_pos, by simp [M.val, M.val_replicate]⟩, hblk, hbel⟩
    case round =>
      obtain ⟨k, zs, hk, rfl, hat, hblk', hbel'⟩ := hrel
      have ZL : Hid (zs.length = xs.length + ys.length) := hat.1
      by_cases hlt' : k < xs.length
      · have ha1 := ha0.below hbel'
        have hb1 := hb0.below hbel'
        by_cases hend : xs.length < k + ys.length
        · have htk : xs.take xs.length = xs.take (k + ys.length) := by rw [List.take_length, List.take_of_length_le (by omega)]
          have HTK := shut htk
          clear htk
          have hce : ((xs.length) : Nat) ≤ xs.length := by omega
          have q1 : Rd wr.drew (.slice (some ⟨ab, ao + k, none⟩) (xs.length - k) (xs.length - k)) ((xs.drop k).take (xs.length - k)) := (ha1.drop k (xs.length - k) (xs.length - k) rfl (Nat.le_refl _)).take (xs.length - k) (xs.length - k) (by first | (simp; done) | (simp; omega)) (Nat.le_refl _)
          have hql : ((xs.drop k).take (xs.length - k)).length = xs.length - k   := by first | (simp; done) | (simp; omega)
          have h43 := HP.out _ _ _ _ _ q1 hb1 ((la.drop k).take _) lb (by rw [hql]; omega)
          rw [hql] at h43
          have h52 : ∀ (g2 : Nat) (z2 : List Nat) (w3 : World), Blk w3 w.heap.size zs → Blk w3 g2 z2 → w.heap.size < g2 → z2.length = xs.length - k + ys.length → M.Low B64 z2 → M.val B64 z2 = M.val B64 ((xs.drop k).take (xs.length - k)) * M.val B64 ys →
              Calls Try.prog 31 #[.slice (some ⟨w.heap.size, k, none⟩) (n - k) (n - k), .slice (some ⟨g2, 0, none⟩) z2.length z2.length] w3 fun e w' => ∃ (zs' : List Nat) (c : Nat), e = .returned (.int .u64 (c : Nat)) ∧ Blk w' w.heap.size zs' ∧ CAt xs ys zs' (k + ys.length) ∧ Only w.heap.size w3 w' := by
            intro g2 z2 w3 kk1 kk2 hgg hz2 lz2 vz2
            have hpl : (zs.take k).length = k := by rw [List.length_take, ZL.out]; omega
            have hsl : (zs.drop k).length = n - k := by rw [List.length_drop, ZL.out, HN.out]
            have h := addTo_any w.heap.size (zs.take k) (zs.drop k) [] (.slice (some ⟨g2, 0, none⟩) z2.length z2.length) z2 (n - k) w3 (by rw [List.take_append_drop, List.append_nil]; exact kk1) (by rw [hsl, hz2, HN.out]; omega) (by simpa using kk2.rdX (g := w.heap.size) 0 z2.length z2.length (by omega) (Nat.le_refl _) (by omega)) (hat.2.1.drop k) lz2 (by rw [hsl]; omega)
            rw [hpl, hsl] at h
            refine h.mono ?_
            rintro e w' ⟨s', c, rfl, r1, r2, r3, r4, r5, r6⟩
            refine ⟨zs.take k ++ s', c, rfl, by simpa using r1, ?_, r6⟩
            rw [vz2, HN.out] at r5
            have h2 := hat.step (e := xs.length) la lb (by omega) (by omega) (by rw [r2, HN.out]) r3 rfl r5
            exact ⟨h2.1, h2.2.1, by rw [h2.2.2, HTK.out]⟩
          have H43 := shut h43
          have H52 := shut h52
          have i1 : (k : Int) ≤ (n : Int) := by omega
          have i2 : ¬ n = k := by omega
          have i3 : (((xs.length) : Nat) : Int) ≤ (ca : Int) := by omega
          have i4 : (k : Int) ≤ (((xs.length) : Nat) : Int) := by omega
          have i5 : ¬ (xs.length) = k := by omega
          clear h43 h52 q1 hql
          go_wp2
          go_region_held3 (fun _ => True) (trivial) (first | (go_at_call 19; refine H43.out.mono ?_; rintro e w3 ⟨g2, z2, rfl, k2, n2, l2, v2, s2, f2⟩; have N2 := shut n2; have V2 := shut v2; have K2 := shut k2; clear n2 v2 k2) | (go_at_call 31; refine (H52.out _ _ _ (hblk'.below ⟨f2.os, f2.tape, f2.output, f2.size, f2.block⟩) K2.out (Nat.lt_of_lt_of_le hblk'.lt s2) N2.out l2 V2.out).mono ?_; rintro e w4 ⟨zs', c, rfl, kk, cat, oo⟩))
          go_wp2
          go_roundw
          case rel =>
            have f2' : Below wr.heap.size wr w3 := ⟨f2.os, f2.tape, f2.output, f2.size, f2.block⟩
            exact ⟨k + ys.length, zs', by have := HN.out; omega, by go_num, cat, kk, oo.below (Below.after hbel' f2') (Nat.le_refl _)⟩
          case measure => simp [intOf]; omega
        · have hend' : k + ys.length ≤ xs.length := by omega
          clear hend
          have hce : ((k + ys.length) : Nat) ≤ xs.length := by omega
          have q1 : Rd wr.drew (.slice (some ⟨ab, ao + k, none⟩) ys.length ys.length) ((xs.drop k).take ys.length) := (ha1.drop k (xs.length - k) (xs.length - k) rfl (Nat.le_refl _)).take ys.length ys.length (by first | (simp; done) | (simp; omega)) (Nat.le_refl _)
          have hql : ((xs.drop k).take ys.length).length = ys.length   := by first | (simp; done) | (simp; omega)
          have h43 := HP.out _ _ _ _ _ q1 hb1 ((la.drop k).take _) lb (by rw [hql]; omega)
          rw [hql] at h43
          have h52 : ∀ (g2 : Nat) (z2 : List Nat) (w3 : World), Blk w3 w.heap.size zs → Blk w3 g2 z2 → w.heap.size < g2 → z2.length = ys.length + ys.length → M.Low B64 z2 → M.val B64 z2 = M.val B64 ((xs.drop k).take ys.length) * M.val B64 ys →
              Calls Try.prog 31 #[.slice (some ⟨w.heap.size, k, none⟩) (n - k) (n - k), .slice (some ⟨g2, 0, none⟩) z2.length z2.length] w3 fun e w' => ∃ (zs' : List Nat) (c : Nat), e = .returned (.int .u64 (c : Nat)) ∧ Blk w' w.heap.size zs' ∧ CAt xs ys zs' (k + ys.length) ∧ Only w.heap.size w3 w' := by
            intro g2 z2 w3 kk1 kk2 hgg hz2 lz2 vz2
            have hpl : (zs.take k).length = k := by rw [List.length_take, ZL.out]; omega
            have hsl : (zs.drop k).length = n - k := by rw [List.length_drop, ZL.out, HN.out]
            have h := addTo_any w.heap.size (zs.take k) (zs.drop k) [] (.slice (some ⟨g2, 0, none⟩) z2.length z2.length) z2 (n - k) w3 (by rw [List.take_append_drop, List.append_nil]; exact kk1) (by rw [hsl, hz2, HN.out]; omega) (by simpa using kk2.rdX (g := w.heap.size) 0 z2.length z2.length (by omega) (Nat.le_refl _) (by omega)) (hat.2.1.drop k) lz2 (by rw [hsl]; omega)
            rw [hpl, hsl] at h
            refine h.mono ?_
            rintro e w' ⟨s', c, rfl, r1, r2, r3, r4, r5, r6⟩
            refine ⟨zs.take k ++ s', c, rfl, by simpa using r1, ?_, r6⟩
            rw [vz2, HN.out] at r5
            have h2 := hat.step (e := k + ys.length) la lb (by omega) (by omega) (by rw [r2, HN.out]) r3 (by rw [Nat.add_sub_cancel_left]) r5
            exact h2
          have H43 := shut h43
          have H52 := shut h52
          have i1 : (k : Int) ≤ (n : Int) := by omega
          have i2 : ¬ n = k := by omega
          have i3 : (k : Int) + (ys.length : Int) ≤ (ca : Int) := by omega
          have i4 : (k : Int) ≤ (k : Int) + (ys.length : Int) := by omega
          have i5 : ¬ ys.length = 0 := by omega
          have i6 : ((k : Int) + (ys.length : Int)).toNat = k + ys.length := by omega
          clear h43 h52 q1 hql
          go_wp2
          go_region_held3 (fun _ => True) (trivial) (first | (go_at_call 19; refine H43.out.mono ?_; rintro e w3 ⟨g2, z2, rfl, k2, n2, l2, v2, s2, f2⟩; have N2 := shut n2; have V2 := shut v2; have K2 := shut k2; clear n2 v2 k2) | (go_at_call 31; refine (H52.out _ _ _ (hblk'.below ⟨f2.os, f2.tape, f2.output, f2.size, f2.block⟩) K2.out (Nat.lt_of_lt_of_le hblk'.lt s2) N2.out l2 V2.out).mono ?_; rintro e w4 ⟨zs', c, rfl, kk, cat, oo⟩))
          go_wp2
          go_roundw
          case rel =>
            have f2' : Below wr.heap.size wr w3 := ⟨f2.os, f2.tape, f2.output, f2.size, f2.block⟩
            exact ⟨k + ys.length, zs', by have := HN.out; omega, by go_num, cat, kk, oo.below (Below.after hbel' f2') (Nat.le_refl _)⟩
          case measure => simp [intOf]; omega
      · have h3 := hat.2.2
        rw [M.val_take_all _ _ _ (by omega)] at h3
        have H3 := shut h3
        have HU : Hid (zs.length = n) := by show _ = _; rw [ZL.out, HN.out]
        clear h3 hblk hbel
        go_wp2
        go_ret
        exact ⟨w.heap.size, zs, by rw [HU.out]; rfl, hblk', HU.out, hat.2.1, H3.out, Nat.le_refl _, hbel'⟩
end Go.Proofs.Ytiahhpkpimaidab
