/-
  Package whole: times, turn; rows in blocks of whatever type.
-/
import Derived.Laws.ResultCell
import Derived.Test.YtmojdkjpcjfkeaaGreatDoorG12
import Derived.Test.YtmojdkjpcjfkeaaGreatDoorG20
namespace Go.Proofs.YtmojdkjpcjfkeaaGreatDoor
open Go.RowKit
def Bk (w : World) (g : Nat) (ys : List Nat) (t : TypeId) : Prop := w.heap[g]? = some (.cells (cellsOf ys) t (0, 0))
theorem Bk.lt {w : World} {g : Nat} {ys : List Nat} {t : TypeId} (h : Bk w g ys t) : g < w.heap.size := by
 unfold Bk at h
 by_cases hg : g < w.heap.size
 ·exact hg
 ·rw [Array.getElem?_eq_none (by omega)] at h; cases h
theorem Bk.cell {w : World} {g : Nat} {ys : List Nat} {t : TypeId} (h : Bk w g ys t) {j : Nat} (hj : j < ys.length) : w.cell? ⟨g, j, none⟩ = some (.int .u64 (lm ys j : Nat)) := by
 unfold Bk at h
 simp [World.cell?, h, cellsOf, lm, hj]
theorem Bk.frozen {w : World} {g : Nat} {ys : List Nat} {t : TypeId} (h : Bk w g ys t) (j : Nat) : w.frozen? ⟨g, j, none⟩ = false := by
 unfold Bk at h
 simp [World.frozen?, h]
theorem Bk.set {w : World} {g : Nat} {ys : List Nat} {t : TypeId} (h : Bk w g ys t) (j x : Nat) : Bk (w.setCell ⟨g, j, none⟩ (.int .u64 (x : Nat))) g (ys.set j x) t := by
 unfold Bk at h ⊢
 simp [World.setCell, Array.getElem?_modify, h, cellsOf]
theorem Bk.other {w : World} {g g' : Nat} {ys : List Nat} {t : TypeId} (h : Bk w g ys t) (hn : g ≠ g') (j : Nat) (v : Value) : Bk (w.setCell ⟨g', j, none⟩ v) g ys t := by
 unfold Bk at h ⊢
 rw [Below.heap_setCell _ _ _ _ (by exact hn)]; exact h
theorem Bk.below {w w' : World} {g : Nat} {ys : List Nat} {t : TypeId} (h : Bk w g ys t) (hb : Below w.heap.size w w') : Bk w' g ys t := by
 have := h.lt
 unfold Bk at h ⊢
 rw [hb.block g this]; exact h
theorem Bk.only {w w' : World} {g g' : Nat} {ys : List Nat} {t : TypeId} (h : Bk w g ys t) (k : Only g' w w') (hn : g ≠ g') : Bk w' g ys t := by
 unfold Bk at *; rw [k.block g hn]; exact h
theorem Bk.rd {w : World} {g : Nat} {ys q : List Nat} {t : TypeId} (h : Bk w g (ys ++ q) t) (cap : Nat) (hc : ys.length ≤ cap) : Rd w (.slice (some ⟨g, 0, none⟩) ys.length cap) ys := by
 refine ⟨_, cap, rfl, hc, fun j hj => ⟨g, 0, rfl, ?_⟩⟩
 rw [Nat.zero_add, h.cell (by simp; omega)]
 unfold lm
 rw [List.getD_eq_getElem?_getD, List.getD_eq_getElem?_getD, List.getElem?_append_left hj]
def tLo (x f m : Nat) : Nat := sum64 (mulLo x f) m 0
def tHi (x f m : Nat) : Nat := mulHi x f + car64 (mulLo x f) m 0
theorem t_facts {x f m : Nat} (hx : x < B64) (hf : f < B64) (hm : m < B64) : tHi x f m < B64 ∧ tLo x f m < B64 ∧ tLo x f m + B64 * tHi x f m = x * f + m := by
 have hp : x * f ≤ 18446744073709551615 * 18446744073709551615 := Nat.mul_le_mul (by unfold B64 at hx; omega) (by unfold B64 at hf; omega)
 unfold tHi tLo mulHi mulLo sum64 car64
 unfold B64 at *
 generalize x * f = P at *
 refine ⟨by omega, by omega, by omega⟩
theorem times_any (x f m : Nat) (hx : x < B64) (hf : f < B64) (hm : m < B64) (w : World) :
  Calls Tryz.prog 221 #[.int .u64 (x : Nat), .int .u64 (f : Nat), .int .u64 (m : Nat)] w fun e w' => e = .returned (.tuple #[.int .u64 (tLo x f m : Nat), .int .u64 (tHi x f m : Nat)]) ∧ w' = w := by
 have f1 := (t_facts hx hf hm).1
 unfold B64 at f1
 unfold tHi at f1
 go_enter Tryz.func221, Tryz.ntmps221
 go_wp2_with fail
 refine (mul64_any x f hx hf _).mono ?_
 rintro e w' ⟨rfl, rfl⟩
 go_wp2_with (first | simp only [add64_0 (mulLo x f) m])
 go_ret2
 exact ⟨by simp only [tLo, tHi, Int.natCast_add]; rfl, rfl⟩
def TuAt (s d : List Nat) (k c : Nat) : Prop := d.length = k ∧ M.Low B64 d ∧ c ≤ 1 ∧ M.val B64 d + M.val B64 (s.take k) = B64 ^ k * c
theorem TuAt.step {s d : List Nat} {k c : Nat} (ls : M.Low B64 s) (h : TuAt s d k c) : TuAt s (d ++ [dif64 0 (lm s k) c]) (k + 1) (bor64 0 (lm s k) c) := by
 obtain ⟨h1, h2, h3, h4⟩ := h
 have hl := lm_lt B64_pos ls k
 have f1 : dif64 0 (lm s k) c < B64 := by unfold dif64 B64; omega
 have f2 : bor64 0 (lm s k) c ≤ 1 := by unfold bor64; split <;> omega
 have f3 : dif64 0 (lm s k) c + lm s k + c = B64 * bor64 0 (lm s k) c := by
  unfold dif64 bor64
  unfold B64 at *
  split <;> omega
 refine ⟨by simp [h1], h2.snoc f1, f2, ?_⟩
 rw [M.val_snoc, h1, M.val_take_succ, Nat.pow_succ]
 have e : B64 ^ k * (dif64 0 (lm s k) c + lm s k + c) = B64 ^ k * (B64 * bor64 0 (lm s k) c) := by rw [f3]
 simp only [Nat.mul_add, ← Nat.mul_assoc] at e
 show _ + (_ + B64 ^ k * lm s k) = _
 omega
theorem sub64_x0 (y c : Nat) (hc : c ≤ 1) (w : World) : (callFunc 146 #[.int .u64 0, .int .u64 (y : Nat), .int .u64 (c : Nat)]).run Tryz.prog w =
  .ok (.value (.tuple #[.int .u64 (dif64 0 y c : Nat), .int .u64 (bor64 0 y c : Nat)])) w := sub64 0 y c hc w
set_option maxHeartbeats 1000000 in
theorem turn_any (g : Nat) (t : TypeId) (s q : List Nat) (cap : Nat) (w : World) (hb : Bk w g (s ++ q) t) (ls : M.Low B64 s) (hm : s.length ≤ 1000000) (h0 : M.val B64 s ≠ 0) :
  Calls Tryz.prog 222 #[.slice (some ⟨g, 0, none⟩) s.length cap] w fun e w' => ∃ (s' : List Nat), e = .returned (.tuple #[]) ∧ Bk w' g (s' ++ q) t ∧ s'.length = s.length ∧ M.Low B64 s' ∧
   M.val B64 s' + M.val B64 s = B64 ^ s.length ∧ Only g w w' := by
 have H0 : Hid (M.val B64 s ≠ 0) := h0
 clear h0
 go_enter Tryz.func222, Tryz.ntmps222
 go_wp2
 go_loopw [2, 7] (fun c i wr => ∃ (k cc : Nat) (d : List Nat), k ≤ s.length ∧ i = .int .i64 k ∧ c = .int .u64 cc ∧ TuAt s d k cc ∧ Bk wr g ([] ++ d ++ s.drop k ++ q) t ∧ Only g w wr) (fun _ i _ => s.length - (intOf i).toNat)
 case atStart => exact ⟨0, 0, [], by omega, rfl, rfl, ⟨rfl, M.Low.nil _, by omega, by simp [M.val]⟩, by simpa using hb, Only.refl _ _⟩
 case round =>
  obtain ⟨k, cc, d, hk, rfl, rfl, hat, hblk, hon⟩ := hrel
  have hdl : d.length = k := hat.1
  have hcc : cc ≤ 1 := hat.2.2.1
  by_cases hlt : k < s.length
  ·rw [drop_lm s k hlt] at hblk
   have hc1 := hblk.cell (j := k) (by simp; omega)
   have hf1 := hblk.frozen k
   have em := lm_mid [] d (s.drop (k + 1)) q (lm s k)
   rw [List.length_nil, Nat.zero_add, hdl] at em
   rw [em] at hc1
   have hset := hblk.set k (dif64 0 (lm s k) cc)
   have es := set_mid [] d (s.drop (k + 1)) q (lm s k) (dif64 0 (lm s k) cc)
   rw [List.length_nil, Nat.zero_add, hdl] at es
   rw [es] at hset
   have HST : Hid (TuAt s (d ++ [dif64 0 (lm s k) cc]) (k + 1) (bor64 0 (lm s k) cc)) := hat.step ls
   have HB := shut hset
   have hks : (k : Int) < s.length := by omega
   clear hset es em
   go_wp2_with (simp only [sub64_x0 (lm s k) cc hcc])
   exact ⟨⟨k + 1, _, _, by omega, by go_num, rfl, HST.out, HB.out, hon.setCell _ _⟩, by simp [intOf]; omega⟩
  ·have hke : k = s.length := by omega
   rw [List.drop_of_length_le (by omega), List.append_nil, List.nil_append] at hblk
   obtain ⟨h1, h2, h3, h4⟩ := hat
   rw [M.val_take_all _ _ _ (by omega), hke] at h4
   have h4' : M.val B64 d + M.val B64 s = B64 ^ s.length := by
    have := H0.out
    rcases (show cc = 0 ∨ cc = 1 by omega) with e | e
    ·rw [e, Nat.mul_zero] at h4; omega
    ·rwa [e, Nat.mul_one] at h4
   have H4 := shut h4'
   have HD : Hid (d.length = s.length) := by rw [← hke]; exact h1
   clear h4 h4' h1 hke hdl
   go_wp2
   go_end0
   exact ⟨d, rfl, hblk, HD.out, h2, H4.out, hon⟩
end Go.Proofs.YtmojdkjpcjfkeaaGreatDoor
