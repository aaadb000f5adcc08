/-
  Package gussetref01: Mul.
  Package gussetref01: double.
-/
import Derived.Test.YtimmgjlojplccaaGreatDoorG13
import Derived.Test.YtimmgjlojplccaaGreatDoorG28
namespace Go.Proofs.YtimmgjlojplccaaGreatDoor
open Go.RowKit

def mO (l y o c : Nat) : Nat := (l * y + o + c) % D32
def mC (l y o c : Nat) : Nat := (l * y + o + c) / D32
theorem m_facts {l y o c : Nat} (hl : l < D32) (hy : y < D32) (ho : o < D32) (hc : c < D32) : mO l y o c < D32 ∧ mC l y o c < D32 ∧ mO l y o c + D32 * mC l y o c = l * y + o + c := by
  have hp : l * y ≤ 4294967295 * 4294967295 := Nat.mul_le_mul (by unfold D32 at hl; omega) (by unfold D32 at hy; omega)
  refine ⟨Nat.mod_lt _ D32_pos, ?_, Nat.mod_add_div _ _⟩
  unfold mC
  generalize l * y = P at *
  unfold D32 at *; omega

def MAt (ys s d : List Nat) (l k cc : Nat) : Prop := d.length = k ∧ M.Low D32 d ∧ cc < D32 ∧ M.val D32 d + D32 ^ k * cc = M.val D32 (s.take k) + l * M.val D32 (ys.take k)
theorem MAt.step {ys s d : List Nat} {l k cc : Nat} (ly : M.Low D32 ys) (ls : M.Low D32 s) (hl : l < D32) (h : MAt ys s d l k cc) :
    MAt ys s (d ++ [mO l (lm ys k) (lm s k) cc]) l (k + 1) (mC l (lm ys k) (lm s k) cc) := by
  obtain ⟨h1, h2, h3, h4⟩ := h
  obtain ⟨f1, f2, f3⟩ := m_facts hl (lm_lt D32_pos ly k) (lm_lt D32_pos ls k) h3
  refine ⟨by simp [h1], h2.snoc f1, f2, ?_⟩
  rw [M.val_snoc, h1, M.val_take_succ, M.val_take_succ, Nat.pow_succ]
  have e2 : D32 ^ k * (mO l (lm ys k) (lm s k) cc + D32 * mC l (lm ys k) (lm s k) cc) = D32 ^ k * (l * lm ys k + lm s k + cc) := by rw [f3]
  simp only [Nat.mul_add, ← Nat.mul_assoc] at e2
  show _ = _ + D32 ^ k * lm s k + l * (_ + D32 ^ k * lm ys k)
  rw [Nat.mul_add, ← Nat.mul_assoc l, Nat.mul_comm l (D32 ^ k)]
  omega

def RPAt (xs ys u : List Nat) (i : Nat) : Prop := u.length = ys.length + i ∧ M.Low D32 u ∧ M.val D32 u = M.val D32 (xs.take i) * M.val D32 ys
theorem RPAt.step {xs ys u d : List Nat} {i c : Nat} (h : RPAt xs ys u i) (hd : MAt ys (u.drop i) d (lm xs i) ys.length c) : RPAt xs ys (u.take i ++ d ++ [c]) (i + 1) := by
  obtain ⟨h1, h2, h3⟩ := h
  obtain ⟨g1, g2, g3, g4⟩ := hd
  refine ⟨by simp; omega, ((h2.take i).append g2).snoc g3, ?_⟩
  have e3 : (u.take i).length = i := by simp; omega
  have e1 : (u.take i ++ d).length = i + ys.length := by rw [List.length_append, e3, g1]
  have e2 := val_take_drop D32 u i (by omega)
  rw [M.val_take_all _ (u.drop i) _ (by simp; omega), M.val_take_all _ ys _ (Nat.le_refl _)] at g4
  rw [M.val_snoc, e1, M.val_append, M.val_take_succ, Nat.add_mul, ← h3, e2, Nat.pow_add, e3]
  have e4 : D32 ^ i * (M.val D32 d + D32 ^ ys.length * c) = D32 ^ i * (M.val D32 (u.drop i) + lm xs i * M.val D32 ys) := by rw [g4]
  rw [Nat.mul_add, Nat.mul_add, ← Nat.mul_assoc, ← Nat.mul_assoc] at e4
  show _ = _ + _ + D32 ^ i * lm xs i * M.val D32 ys
  omega

theorem mO_cast (l y o c : Nat) : ((l : Int) * (y : Int) + (o : Int) + (c : Int)) % 4294967296 = ((mO l y o c : Nat) : Int) := by
  have e : ((l * y + o + c : Nat) : Int) = (l : Int) * (y : Int) + (o : Int) + (c : Int) := by rw [Int.natCast_add, Int.natCast_add, Int.natCast_mul]
  rw [← e]; unfold mO D32; generalize l * y + o + c = t; omega
theorem mC_cast (l y o c : Nat) : ((l : Int) * (y : Int) + (o : Int) + (c : Int)) / 4294967296 = ((mC l y o c : Nat) : Int) := by
  have e : ((l * y + o + c : Nat) : Int) = (l : Int) * (y : Int) + (o : Int) + (c : Int) := by rw [Int.natCast_add, Int.natCast_add, Int.natCast_mul]
  rw [← e]; unfold mC D32; generalize l * y + o + c = t; omega
theorem Blk.drewN {w : World} {g : Nat} {ys : List Nat} (h : Blk w g ys) (n : Nat) : Blk (w.drewN n) g ys := h

end Go.Proofs.YtimmgjlojplccaaGreatDoor
namespace Go.Proofs.YtimmgjlojplccaaGreatDoor
open Go.RowKit

def dblD (x c : Nat) : Nat := (2 * x + c) % D32
def dblC (x c : Nat) : Nat := (2 * x + c) / D32

def DbAt (xs zs : List Nat) (b k c : Nat) : Prop := zs.length = k ∧ M.Low D32 zs ∧ c ≤ 1 ∧ M.val D32 zs + D32 ^ k * c = 2 * M.val D32 (xs.take k) + b
theorem DbAt.step {xs zs : List Nat} {b k c : Nat} (la : M.Low D32 xs) (h : DbAt xs zs b k c) : DbAt xs (zs ++ [dblD (lm xs k) c]) b (k + 1) (dblC (lm xs k) c) := by
  obtain ⟨h1, h2, h3, h4⟩ := h
  have b1 : lm xs k < D32 := lm_lt D32_pos la k
  refine ⟨by simp [h1], h2.snoc (Nat.mod_lt _ D32_pos), ?_, ?_⟩
  · unfold dblC; unfold D32 at *; omega
  rw [M.val_snoc, h1, M.val_take_succ, Nat.pow_succ]
  have e : dblD (lm xs k) c + D32 * dblC (lm xs k) c = 2 * lm xs k + c := Nat.mod_add_div _ _
  have e2 : D32 ^ k * (dblD (lm xs k) c + D32 * dblC (lm xs k) c) = D32 ^ k * (2 * lm xs k + c) := by rw [e]
  have e3 : D32 ^ k * (2 * lm xs k) = 2 * (D32 ^ k * lm xs k) := Nat.mul_left_comm _ _ _
  simp only [Nat.mul_add, ← Nat.mul_assoc] at e2
  show _ = 2 * (_ + D32 ^ k * lm xs k) + _
  rw [Nat.mul_assoc _ 2] at e2
  rw [Nat.mul_add]
  omega

set_option maxHeartbeats 1000000 in
theorem rdbl_any (va : Value) (xs : List Nat) (b : Nat) (w : World) (ha : Rd w va xs) (la : M.Low D32 xs) (hb : b ≤ 1) (hx : xs.length ≤ 100000) :
    Calls Tryz.prog 72 #[va, .int .u64 (b : Nat)] w fun e w' => ∃ v, e = .returned v ∧ Rd w' v (M.digs D32 (2 * M.val D32 xs + b)) ∧ Below w.heap.size w w' := by
  have ha0 := ha
  obtain ⟨a, ca, rfl, hca, -⟩ := ha
  obtain ⟨n, hn⟩ : ∃ n, n = xs.length := ⟨_, rfl⟩
  rw [← hn] at ha0 hca hx ⊢
  have HN := shut hn
  clear hn
  go_enter Tryz.func72, Tryz.ntmps72
  go_wp2_with (at_make; refine wpList_mk rfl _ _ rfl _ (n + 1) rfl rfl (by omega) (by omega) ?_; intro w2 hblk hbel)
  go_loopw [1, 6] (fun c i wr => ∃ (k cc : Nat) (zs : List Nat), k ≤ n ∧ i = .int .i64 k ∧ c = .int .u64 cc ∧ DbAt xs zs b k cc ∧ Blk wr w.heap.size (zs ++ List.replicate (n + 1 - k) 0) ∧ Below w.heap.size w wr) (fun _ i _ => n - (intOf i).toNat)
  case atStart => exact ⟨0, b, [], by omega, rfl, rfl, ⟨rfl, M.Low.nil _, hb, by simp [M.val]⟩, by simpa using hblk, hbel⟩
  case round =>
    obtain ⟨k, cc, zs, hk, rfl, rfl, hat, hblk', hbel'⟩ := hrel
    have hcc : cc ≤ 1 := hat.2.2.1
    have hzl : zs.length = k := hat.1
    have hc1 := hblk'.cell (j := k) (by rw [List.length_append, List.length_replicate, hzl]; omega)
    have hf1 := hblk'.frozen k
    have hs : ∀ y, Blk (wr.setCell ⟨w.heap.size, k, none⟩ (.int .u64 (y : Nat))) w.heap.size ((zs ++ [y]) ++ List.replicate (n - k) 0) := fun y => by
      have h := hblk'.set k y
      rw [show n + 1 - k = (n - k) + 1 by omega] at h
      have e := M.set_append_replicate zs (n - k) y
      rw [hzl] at e
      rwa [e] at h
    have HS := shut hs
    clear hs
    have hkn : (k : Int) < (n : Int) + 1 := by omega
    by_cases hlt : k < n
    · have HST := shut (hat.step la)
      have b1 : lm xs k < 4294967296 := lm_lt D32_pos la k
      obtain ⟨b1', o1, rfl, q1⟩ := ha0.at hbel' (j := k) (by rw [← HN.out]; exact hlt)
      have HSB := shut (HS.out (dblD (lm xs k) cc))
      clear HS
      go_wp2
      rw [show ((2 : Int) * (lm xs k : Int) + (cc : Int)) % 4294967296 = ((dblD (lm xs k) cc : Nat) : Int) by unfold dblD D32; omega, show ((2 : Int) * (lm xs k : Int) + (cc : Int)) / 4294967296 = ((dblC (lm xs k) cc : Nat) : Int) by unfold dblC D32; omega]
      exact ⟨⟨k + 1, _, _, by omega, by go_num, rfl, HST.out, (by have := HSB.out; rwa [show n - k = n + 1 - (k + 1) by omega] at this), hbel'.setCell (Nat.le_refl _) _⟩, by simp [intOf]; omega⟩
    · have hke : k = n := by omega
      subst hke
      obtain ⟨h1, h2, h3, h4⟩ := hat
      rw [HN.out, M.val_take_all _ _ _ (Nat.le_refl _), ← HN.out] at h4
      have hfin : M.val D32 (zs ++ [cc]) = 2 * M.val D32 xs + b := by rw [M.val_snoc, h1]; exact h4
      have hsb := HS.out cc
      rw [Nat.sub_self, List.replicate_zero, List.append_nil] at hsb
      have hrd : Rd (wr.setCell ⟨w.heap.size, k, none⟩ (.int .u64 (cc : Nat))) (.slice (some ⟨w.heap.size, 0, none⟩) (k + 1) (k + 1)) (zs ++ [cc]) := by
        have := hsb.rd0 (k + 1) (by simp; omega)
        simpa [hzl] using this
      have HF := shut hfin
      have hl2 : M.Low D32 (zs ++ [cc]) := h2.snoc (by unfold D32; omega)
      have hlen : (zs ++ [cc]).length ≤ 1000000 := by rw [List.length_append, h1]; simp; omega
      have hbel3 := hbel'.setCell (p := ⟨w.heap.size, k, none⟩) (Nat.le_refl _) (.int .u64 (cc : Nat))
      clear hfin h4 HS hsb
      go_wp2_with fail
      refine (trim_any D32 D32_two _ _ (zs ++ [cc]) hrd hl2 hlen).mono ?_
      rintro e w' ⟨v', rfl, hv', rfl⟩
      go_wp2
      go_ret
      exact ⟨_, rfl, by rw [← HF.out]; exact hv', hbel3⟩
end Go.Proofs.YtimmgjlojplccaaGreatDoor
