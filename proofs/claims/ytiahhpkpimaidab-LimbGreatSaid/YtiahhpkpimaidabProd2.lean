/-
  limb.product of rows of any lengths; limb.Mul.
-/
import Derived.Test.YtiahhpkpimaidabProd1
namespace Go.Proofs.Ytiahhpkpimaidab
open Go.RowKit

set_option maxHeartbeats 2000000 in
theorem product_eq (N : Nat) (hP : ProdSpec N) (va vb : Value) (xs ys : List Nat) (w : World) (ha : Rd w va xs) (hb : Rd w vb ys) (la : M.Low B64 xs) (lb : M.Low B64 ys) (he : ys.length = xs.length) (h40 : 40 ≤ xs.length) (hm : xs.length ≤ 100000) (hN : 2 * xs.length ≤ N + 1) :
    Calls Try.prog 19 #[va, vb] w (Made w (M.val B64 xs) (M.val B64 ys) (xs.length + ys.length)) := by
  have HP := shut hP
  have ha0 := ha
  have hb0 := hb
  obtain ⟨a, ca, rfl, hca, -⟩ := ha
  obtain ⟨b, cb, rfl, hcb, -⟩ := hb
  have HE : Hid (ys.length = xs.length) := he
  rw [he] at hb0 hcb ⊢
  have hd40 : decide ((xs.length : Int) < 40) = false := by simp; omega
  clear hP he
  go_enter Try.func19, Try.ntmps19
  go_wp2_with (first
    | (at_make; refine wpList_mk rfl _ _ rfl _ (2 * xs.length) rfl rfl (by omega) (by omega) ?_; intro w2 hblk hbel)
    | (go_at_call 30; refine (splitProd_any xs.length N hN HP.out w.heap.size _ _ xs ys _ rfl HE.out h40 hm (ha0.apart hbel (Nat.le_refl _)) (hb0.apart hbel (Nat.le_refl _)) la lb hblk).mono ?_; rintro e w3 ⟨zs, rfl, k3, n3, l3, v3, t3⟩))
  have V3 := shut v3
  have N3 := shut n3
  clear v3 n3
  go_wp2
  go_ret
  exact ⟨w.heap.size, zs, by rw [N3.out]; rfl, k3, by rw [N3.out]; omega, l3, V3.out, Nat.le_refl _, t3.below hbel (Nat.le_refl _) hbel.size⟩

/-- What has been added behind so many limbs of the longer row. -/
def CAt (xs ys zs : List Nat) (i : Nat) : Prop := zs.length = xs.length + ys.length ∧ M.Low B64 zs ∧ M.val B64 zs = M.val B64 (xs.take i) * M.val B64 ys

theorem CAt.step {xs ys zs s' : List Nat} {i e c P : Nat} (la : M.Low B64 xs) (lb : M.Low B64 ys) (h : CAt xs ys zs i) (hi : i ≤ e) (hex : e ≤ xs.length) (hs : s'.length = xs.length + ys.length - i) (hl : M.Low B64 s')
    (hP : P = M.val B64 ((xs.drop i).take (e - i)) * M.val B64 ys) (hv : M.val B64 s' + B64 ^ (xs.length + ys.length - i) * c = M.val B64 (zs.drop i) + P) : CAt xs ys (zs.take i ++ s') e := by
  obtain ⟨h1, h2, h3⟩ := h
  have ht : (zs.take i).length = i := by simp; omega
  refine ⟨by rw [List.length_append, ht, hs]; omega, (h2.take i).append hl, ?_⟩
  have e1 : xs.take e = xs.take i ++ (xs.drop i).take (e - i) := by
    rw [← List.take_append_drop i (xs.take e), List.take_take, Nat.min_eq_left hi, List.drop_take]
  have e2 : M.val B64 (xs.take e) * M.val B64 ys = M.val B64 (zs.take i) + B64 ^ i * M.val B64 (zs.drop i) + B64 ^ i * P := by
    rw [e1, M.val_append, Nat.add_mul, ← h3, ← val_take_drop B64 zs i (by omega), hP, Nat.mul_assoc, List.length_take, Nat.min_eq_left (by omega)]
  have e3 : M.val B64 (xs.take e) * M.val B64 ys < B64 ^ (xs.length + ys.length) := by
    rw [Nat.pow_add]
    exact Nat.mul_lt_mul'' (M.val_lt_pow B64_pos (la.take e) (by simp; omega)) (M.val_lt_pow B64_pos lb (Nat.le_refl _))
  rw [M.val_append, ht]
  exact kara_fin (by omega) hv e2 e3
end Go.Proofs.Ytiahhpkpimaidab
