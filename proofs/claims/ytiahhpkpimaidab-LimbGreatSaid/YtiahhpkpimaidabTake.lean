/-
  limb.takeTimes.
-/
import Derived.Test.YtiahhpkpimaidabTimes
namespace Go.Proofs.Ytiahhpkpimaidab
open Go.RowKit

/-- What one step of 'takeTimes' stores, and what it carries on. -/
def ttO (x l cc o : Nat) : Nat := dif64 o (sum64 (mulLo x l) cc 0) 0
def ttC (x l cc o : Nat) : Nat := mulHi x l + car64 (mulLo x l) cc 0 + bor64 o (sum64 (mulLo x l) cc 0) 0

theorem tt_facts {x l cc o : Nat} (hx : x < B64) (hl : l < B64) (hc : cc < B64) (ho : o < B64) :
    mulHi x l + car64 (mulLo x l) cc 0 < B64 ∧ ttC x l cc o < B64 ∧ ttO x l cc o < B64 ∧ ttO x l cc o + x * l + cc = o + B64 * ttC x l cc o := by
  have hp : x * l ≤ 18446744073709551615 * 18446744073709551615 := Nat.mul_le_mul (by unfold B64 at hx; omega) (by unfold B64 at hl; omega)
  unfold ttO ttC mulHi mulLo sum64 car64 dif64 bor64
  unfold B64 at *
  generalize x * l = P at *
  refine ⟨by omega, by split <;> omega, by omega, by split <;> omega⟩

def TtAt (xs s d : List Nat) (l k cc : Nat) : Prop := d.length = k ∧ M.Low B64 d ∧ cc < B64 ∧ M.val B64 d + M.val B64 (xs.take k) * l = M.val B64 (s.take k) + B64 ^ k * cc
theorem TtAt.step {xs s d : List Nat} {l k cc : Nat} (lx : M.Low B64 xs) (ls : M.Low B64 s) (hl : l < B64) (h : TtAt xs s d l k cc) :
    TtAt xs s (d ++ [ttO (lm xs k) l cc (lm s k)]) l (k + 1) (ttC (lm xs k) l cc (lm s k)) := by
  obtain ⟨h1, h2, h3, h4⟩ := h
  obtain ⟨f1, f2, f3, f4⟩ := tt_facts (lm_lt B64_pos lx k) hl h3 (lm_lt B64_pos ls k)
  refine ⟨by simp [h1], h2.snoc f3, f2, ?_⟩
  rw [M.val_snoc, h1, M.val_take_succ, M.val_take_succ, Nat.pow_succ]
  have e2 : B64 ^ k * (ttO (lm xs k) l cc (lm s k) + lm xs k * l + cc) = B64 ^ k * (lm s k + B64 * ttC (lm xs k) l cc (lm s k)) := by rw [f4]
  simp only [Nat.mul_add, ← Nat.mul_assoc] at e2
  show _ + (_ + B64 ^ k * lm xs k) * l = _ + B64 ^ k * lm s k + _
  rw [Nat.add_mul]
  omega

set_option maxHeartbeats 1000000 in
theorem takeTimes_any (g : Nat) (p s q : List Nat) (vr : Value) (xs : List Nat) (l cap : Nat) (w : World) (hb : Blk w g (p ++ s ++ q)) (hs : s.length = xs.length) (hr : RdX w vr xs g)
    (ls : M.Low B64 s) (lx : M.Low B64 xs) (hl : l < B64) (hcap : xs.length ≤ cap) (hm : xs.length ≤ 1000000) :
    Calls Try.prog 43 #[.slice (some ⟨g, p.length, none⟩) xs.length cap, vr, .int .u64 (l : Nat)] w fun e w' => ∃ (s' : List Nat) (c : Nat), e = .returned (.int .u64 (c : Nat)) ∧ Blk w' g (p ++ s' ++ q) ∧ s'.length = xs.length ∧ M.Low B64 s' ∧ c < B64 ∧
      M.val B64 s' + M.val B64 xs * l = M.val B64 s + B64 ^ xs.length * c ∧ Only g w w' := by
  have hr0 := hr
  obtain ⟨a, ca, rfl, hca, -⟩ := hr
  have hcap' : (xs.length : Int) ≤ cap := by omega
  go_enter Try.func43, Try.ntmps43
  go_wp2
  go_loopw [7, 19] (fun c i wr => ∃ (k cc : Nat) (d : List Nat), k ≤ xs.length ∧ i = .int .i64 k ∧ c = .int .u64 cc ∧ TtAt xs s d l k cc ∧ Blk wr g (p ++ d ++ s.drop k ++ q) ∧ Only g w wr) (fun _ i _ => xs.length - (intOf i).toNat)
  case atStart => exact ⟨0, 0, [], by omega, rfl, rfl, ⟨rfl, M.Low.nil _, B64_pos, by simp [M.val]⟩, by simpa using hb, Only.refl _ _⟩
  case round =>
    obtain ⟨k, cc, d, hk, rfl, rfl, hat, hblk, hon⟩ := hrel
    have hdl : d.length = k := hat.1
    have hcc : cc < B64 := hat.2.2.1
    by_cases hlt : k < xs.length
    · obtain ⟨b1, o1, rfl, hne, q1⟩ := (hr0.only hon).at hlt
      rw [drop_lm s k (by omega)] at hblk
      have hc1 := hblk.cell (j := p.length + k) (by simp; omega)
      have hf1 := hblk.frozen (p.length + k)
      rw [← hdl, lm_mid, hdl] at hc1
      have hset := hblk.set (p.length + k) (ttO (lm xs k) l cc (lm s k))
      rw [← hdl, set_mid, hdl] at hset
      have HSET := hset
      obtain ⟨f1, f2, f3, f4⟩ := tt_facts (lm_lt B64_pos lx k) hl hcc (lm_lt B64_pos ls k)
      have HST : Hid (TtAt xs s (d ++ [ttO (lm xs k) l cc (lm s k)]) l (k + 1) (ttC (lm xs k) l cc (lm s k))) := hat.step lx ls hl
      have hxl := lm_lt B64_pos lx k
      unfold ttC at f2
      unfold B64 at f1 f2
      have HB : Hid (Blk (wr.setCell ⟨g, p.length + k, none⟩ (.int .u64 (ttO (lm xs k) l cc (lm s k) : Nat))) g (p ++ (d ++ [ttO (lm xs k) l cc (lm s k)]) ++ s.drop (k + 1) ++ q)) := hset
      clear hset HSET f3 f4
      go_wp2_with fail
      refine (mul64_any (lm xs k) l hxl hl _).mono ?_
      rintro e w' ⟨rfl, rfl⟩
      go_wp2_with (first | simp only [add64_0 (mulLo (lm xs k) l) cc] | simp only [sub64_0 (lm s k) (sum64 (mulLo (lm xs k) l) cc 0)])
      exact ⟨⟨k + 1, _, _, by omega, by go_num, by simp only [ttC, Int.natCast_add], HST.out, HB.out, hon.setCell _ _⟩, by simp [intOf]; omega⟩
    · have hke : k = xs.length := by omega
      rw [List.drop_of_length_le (by omega), List.append_nil] at hblk
      obtain ⟨h1, h2, h3, h4⟩ := hat
      rw [M.val_take_all _ _ _ (by omega), M.val_take_all _ _ _ (by omega), hke] at h4
      have H4 : Hid (M.val B64 d + M.val B64 xs * l = M.val B64 s + B64 ^ xs.length * cc) := h4
      have HD : Hid (d.length = xs.length) := by rw [← hke]; exact h1
      clear h4 h1 hke hdl
      go_wp2
      go_ret
      exact ⟨d, cc, rfl, hblk, HD.out, h2, h3, H4.out, hon⟩
end Go.Proofs.Ytiahhpkpimaidab
