/-
  limb.takeFrom.
-/
import Derived.Test.YtiahhpkpimaidabAddTo
namespace Go.Proofs.Ytiahhpkpimaidab
open Go.RowKit

theorem takeFrom_fin {X V S1 D p pn c : Nat} (h4 : V + X = S1 + p * c) (hc : c = 0 ∨ (D = 0 ∧ p = pn)) : (V + p * D) + X = (S1 + p * D) + pn * c := by
  rcases hc with rfl | ⟨rfl, rfl⟩
  · simp at h4 ⊢; omega
  · simp; omega

theorem SubAt.fin2 {s xs d : List Nat} {k c : Nat} (h : SubAt s xs d k c) (ls : M.Low B64 s) (hk : xs.length ≤ k) (hn : k ≤ s.length) (hc : c = 0 ∨ k = s.length) (hle : M.val B64 xs ≤ M.val B64 s) :
    M.val B64 (d ++ s.drop k) = M.val B64 s - M.val B64 xs := by
  obtain ⟨h1, h2, h3, h4⟩ := h
  have hlow := M.val_lt B64_pos (h2.append (ls.drop k))
  rw [List.length_append, List.length_drop, h1, show k + (s.length - k) = s.length by omega] at hlow
  rw [M.val_take_all _ xs _ hk] at h4
  have e := val_take_drop B64 s k hn
  have key : M.val B64 (d ++ s.drop k) + M.val B64 xs = M.val B64 s + B64 ^ s.length * c := by
    rw [M.val_append, h1, e]
    refine takeFrom_fin h4 ?_
    rcases hc with rfl | rfl
    · exact Or.inl rfl
    · exact Or.inr ⟨by simp [M.val], rfl⟩
  generalize B64 ^ s.length = P at *
  have : c = 0 ∨ c = 1 := by omega
  rcases this with rfl | rfl <;> omega

set_option maxHeartbeats 1000000 in
theorem takeFrom_any (g : Nat) (p s q : List Nat) (vr : Value) (xs : List Nat) (cap : Nat) (w : World) (hb : Blk w g (p ++ s ++ q)) (hs : xs.length ≤ s.length) (hr : RdX w vr xs g)
    (ls : M.Low B64 s) (lx : M.Low B64 xs) (hm : s.length ≤ 1000000) (hle : M.val B64 xs ≤ M.val B64 s) :
    Calls Try.prog 39 #[.slice (some ⟨g, p.length, none⟩) s.length cap, vr] w fun e w' => ∃ (s' : List Nat), e = .returned (.tuple #[]) ∧ Blk w' g (p ++ s' ++ q) ∧ s'.length = s.length ∧ M.Low B64 s' ∧
      M.val B64 s' = M.val B64 s - M.val B64 xs ∧ Only g w w' := by
  have hr0 := hr
  have HLE : Hid (M.val B64 xs ≤ M.val B64 s) := hle
  clear hle
  obtain ⟨a, ca, rfl, hca, -⟩ := hr
  go_enter Try.func39, Try.ntmps39
  go_wp2
  go_loopw [4, 10] (fun c i wr => ∃ (k cc : Nat) (d : List Nat), k ≤ xs.length ∧ i = .int .i64 k ∧ c = .int .u64 cc ∧ SubAt s xs d k cc ∧ Blk wr g (p ++ d ++ s.drop k ++ q) ∧ Only g w wr) (fun _ i _ => xs.length - (intOf i).toNat)
  case atStart => exact ⟨0, 0, [], by omega, rfl, rfl, ⟨rfl, M.Low.nil _, by omega, by simp [M.val]⟩, by simpa using hb, Only.refl _ _⟩
  case round =>
    obtain ⟨k, cc, d, hk, rfl, rfl, hat, hblk, hon⟩ := hrel
    have hdl : d.length = k := hat.1
    have hcc : cc ≤ 1 := hat.2.2.1
    by_cases hlt : k < xs.length
    · obtain ⟨b1, o1, rfl, hne, q1⟩ := (hr0.only hon).at hlt
      rw [drop_lm s k (by omega)] at hblk
      have hc1 := hblk.cell (j := p.length + k) (by simp; omega)
      have hf1 := hblk.frozen (p.length + k)
      rw [← hdl, lm_mid, hdl] at hc1
      have hset := hblk.set (p.length + k) (dif64 (lm s k) (lm xs k) cc)
      rw [← hdl, set_mid, hdl] at hset
      have HST : Hid (SubAt s xs (d ++ [dif64 (lm s k) (lm xs k) cc]) (k + 1) (bor64 (lm s k) (lm xs k) cc)) := hat.step ls lx
      have HB : Hid (Blk (wr.setCell ⟨g, p.length + k, none⟩ (.int .u64 (dif64 (lm s k) (lm xs k) cc : Nat))) g (p ++ (d ++ [dif64 (lm s k) (lm xs k) cc]) ++ s.drop (k + 1) ++ q)) := hset
      have hks : (k : Int) < s.length := by omega
      clear hset
      go_wp2_with (simp only [sub64 (lm s k) (lm xs k) cc hcc])
      exact ⟨⟨k + 1, _, _, by omega, by go_num, rfl, HST.out, HB.out, hon.setCell _ _⟩, by simp [intOf]; omega⟩
    · have hke : k = xs.length := by omega
      subst hke
      go_wp2
      clear hlt hk
      go_loopw [4, 7] (fun c i wr => ∃ (k cc : Nat) (d : List Nat), xs.length ≤ k ∧ k ≤ s.length ∧ i = .int .i64 k ∧ c = .int .u64 cc ∧ SubAt s xs d k cc ∧ Blk wr g (p ++ d ++ s.drop k ++ q) ∧ Only g w wr) (fun _ i _ => s.length - (intOf i).toNat)
      case atStart => exact ⟨xs.length, cc, d, by omega, hs, rfl, rfl, hat, hblk, hon⟩
      case round =>
        clear hat hblk hon hdl hcc
        obtain ⟨k, cc, d, hxk, hk, rfl, rfl, hat, hblk, hon⟩ := hrel
        have hdl : d.length = k := hat.1
        have hcc : cc ≤ 1 := hat.2.2.1
        have fin : cc = 0 ∨ k = s.length → Blk wr g (p ++ (d ++ s.drop k) ++ q) ∧ (d ++ s.drop k).length = s.length ∧ M.Low B64 (d ++ s.drop k) ∧ M.val B64 (d ++ s.drop k) = M.val B64 s - M.val B64 xs := fun h =>
          ⟨by rw [← List.append_assoc p]; exact hblk, by simp; omega, hat.2.1.append (ls.drop k), hat.fin2 ls hxk hk h HLE.out⟩
        have FIN : Hid (cc = 0 ∨ k = s.length → Blk wr g (p ++ (d ++ s.drop k) ++ q) ∧ (d ++ s.drop k).length = s.length ∧ M.Low B64 (d ++ s.drop k) ∧ M.val B64 (d ++ s.drop k) = M.val B64 s - M.val B64 xs) := fin
        clear fin
        by_cases hc0 : cc = 0
        · obtain ⟨g1, g2, g3, g4⟩ := FIN.out (Or.inl hc0)
          have G4 : Hid (M.val B64 (d ++ s.drop k) = M.val B64 s - M.val B64 xs) := g4
          have G2 : Hid ((d ++ s.drop k).length = s.length) := g2
          clear g4 g2 FIN
          go_wp2
          go_end0
          exact ⟨d ++ s.drop k, rfl, g1, G2.out, g3, G4.out, hon⟩
        · by_cases hlt : k < s.length
          · rw [drop_lm s k hlt] at hblk
            have hc1 := hblk.cell (j := p.length + k) (by simp; omega)
            have hf1 := hblk.frozen (p.length + k)
            rw [← hdl, lm_mid, hdl] at hc1
            have hst := hat.step ls lx
            rw [lm_ge hxk] at hst
            have hset := hblk.set (p.length + k) (dif64 (lm s k) 0 cc)
            rw [← hdl, set_mid, hdl] at hset
            have HST : Hid (SubAt s xs (d ++ [dif64 (lm s k) 0 cc]) (k + 1) (bor64 (lm s k) 0 cc)) := hst
            have HB : Hid (Blk (wr.setCell ⟨g, p.length + k, none⟩ (.int .u64 (dif64 (lm s k) 0 cc : Nat))) g (p ++ (d ++ [dif64 (lm s k) 0 cc]) ++ s.drop (k + 1) ++ q)) := hset
            clear hset hst FIN
            go_wp2_with (simp only [sub64_y0 (lm s k) cc hcc])
            exact ⟨⟨k + 1, _, _, by omega, by omega, by go_num, rfl, HST.out, HB.out, hon.setCell _ _⟩, by simp [intOf]; omega⟩
          · obtain ⟨g1, g2, g3, g4⟩ := FIN.out (Or.inr (by omega))
            have G4 : Hid (M.val B64 (d ++ s.drop k) = M.val B64 s - M.val B64 xs) := g4
            have G2 : Hid ((d ++ s.drop k).length = s.length) := g2
            clear g4 g2 FIN
            go_wp2
            go_end0
            exact ⟨d ++ s.drop k, rfl, g1, G2.out, g3, G4.out, hon⟩
end Go.Proofs.Ytiahhpkpimaidab
