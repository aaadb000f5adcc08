/-
  Package span: numbers as a sign and limbs.
  Package span: one number less another.
-/
import Derived.ArgAppend
import Derived.Deep.Upon
import Derived.Laws.AppendOwnNone
import Derived.Lib.AppendIntMem
import Derived.Lib.AppendZeros
import Derived.Lib.BufferGrow
import Derived.Lib.SliceRun
import Derived.Shelf.LaysM
import Derived.Shelf.Spec.TrailingZeros
import Derived.Shelf.Strconv.Itoa1
import Derived.Shelf.Strconv.Itoa2
import Derived.Shelf.Strings.BuilderK
import Derived.Shelf.Strings.Prefix
import Derived.Shelf.Strings.Repeat
import Derived.Shelf.Strings.Trim
import Derived.Test.YtbafjmjcepcckaaGreatDoorM29
import Derived.Test.YtbafjmjcepcckaaGreatDoorM31
set_option maxRecDepth 100000
set_option maxHeartbeats 8000000
namespace Go.Proofs.YtbafjmjcepcckaaGreatDoor
open Go.RowKit
def NV (w : World) (n : Bool) (v : Value) (z : Int) (L : Nat) : Prop := ∃ k, Rd w v (M.digs B64 k) ∧ k < B64 ^ L ∧ z = sgn n k
theorem NV.below {w w' : World} {n : Bool} {v : Value} {z : Int} {L : Nat} (h : NV w n v z L) (hb : Below w.heap.size w w') : NV w' n v z L := by
 obtain ⟨k, r, h1, h2⟩ := h
 exact ⟨k, r.below hb, h1, h2⟩
theorem NV.mono {w : World} {n : Bool} {v : Value} {z : Int} {L M' : Nat} (h : NV w n v z L) (hL : L ≤ M') : NV w n v z M' := by
 obtain ⟨k, r, h1, h2⟩ := h
 exact ⟨k, r, Nat.lt_of_lt_of_le h1 (pow_le_B64 hL), h2⟩
theorem rd_slice {w : World} {v : Value} {xs : List Nat} (h : Rd w v xs) : ∃ a l c, v = .slice a l c := by
 obtain ⟨a, c, rfl, -, -⟩ := h
 exact ⟨_, _, _, rfl⟩
theorem NV.slice {w : World} {n : Bool} {v : Value} {z : Int} {L : Nat} (h : NV w n v z L) : ∃ a l c, v = .slice a l c := by
 obtain ⟨k, r, -⟩ := h
 exact rd_slice r
theorem no_ints2 (n : Bool) (a : Option Addr) (l c : Nat) : ∀ (j : Nat) (k : IntKind) (i : Int), [Value.bool n, .slice a l c][j]? ≠ some (.int k i) := by
 intro j k i
 match j with
 | 0 => simp
 | 1 => simp
 | j + 2 => simp
theorem no_ints6 (n m o : Bool) (a b d : Option Addr) (l c l1 c1 l2 c2 : Nat) : ∀ (j : Nat) (k : IntKind) (i : Int), [Value.bool n, .slice a l c, .bool m, .slice b l1 c1, .bool o, .slice d l2 c2][j]? ≠ some (.int k i) := by
 intro j k i
 match j with
 | 0 => simp
 | 1 => simp
 | 2 => simp
 | 3 => simp
 | 4 => simp
 | 5 => simp
 | j + 6 => simp
theorem NV.set2 {w : World} {n m : Bool} {v : Value} {z : Int} {L g : Nat} {a : Option Addr} {l c : Nat} {t : TypeId} (h : NV w n v z L) (hc : Cel w g [.bool m, .slice a l c] t) (x y : Value) :
  NV ((w.setCell ⟨g, 0, none⟩ x).setCell ⟨g, 1, none⟩ y) n v z L := by
 obtain ⟨k, r, h1, h2⟩ := h
 exact ⟨k, (((rdx_of_cel r hc (no_ints2 _ _ _ _)).setX 0 x).setX 1 y).rd, h1, h2⟩
theorem NV.set6 {w : World} {n m o p : Bool} {v : Value} {z : Int} {L g : Nat} {a b d : Option Addr} {l c l1 c1 l2 c2 : Nat} {t : TypeId} (h : NV w n v z L) (hc : Cel w g [.bool m, .slice a l c, .bool o, .slice b l1 c1, .bool p, .slice d l2 c2] t) (x0 x1 x2 x3 x4 x5 : Value) :
  NV ((((((w.setCell ⟨g, 0, none⟩ x0).setCell ⟨g, 1, none⟩ x1).setCell ⟨g, 2, none⟩ x2).setCell ⟨g, 3, none⟩ x3).setCell ⟨g, 4, none⟩ x4).setCell ⟨g, 5, none⟩ x5) n v z L := by
 obtain ⟨k, r, h1, h2⟩ := h
 exact ⟨k, (((((((rdx_of_cel r hc (no_ints6 _ _ _ _ _ _ _ _ _ _ _ _)).setX 0 x0).setX 1 x1).setX 2 x2).setX 3 x3).setX 4 x4).setX 5 x5).rd, h1, h2⟩
theorem load_n {w : World} {g : Nat} {x y : Value} (h : Cel w g [x, y] 68) : (loadVar 68 ⟨g, 0, none⟩).run Tryz.prog w = .ok (.agg #[x, y]) w :=
 run_loadVar_row w g 68 68 #[x, y] (0, 0) _ h Tryz.underlying68 rfl (by kernel_rfl)
theorem post_n {fn : Func} {p : Tmp} {R : Ending → World → Prop} {a : Act} {w : World} {g : Nat} {x y : Value} (h : fn.results = #[.cell p 68]) (hp : a.tmps.getD p undef = .pointer (some ⟨g, 0, none⟩)) (hd : a.defers = [])
  (hc : Cel w g [x, y] 68) (hR : R (.returned (.agg #[x, y])) w) : bodyPost Tryz.prog fn R .ret a w := by
 refine ⟨hd, .agg #[x, y], ?_, hR⟩
 exact results_cell_row (P := Tryz.prog) h _ w g 68 #[x, y] (0, 0) _ hp hc Tryz.underlying68 rfl (by kernel_rfl)
theorem sgn_sign (n : Bool) (k : Nat) : (sgn n k).sign = if k = 0 then 0 else if n then -1 else 1 := by
 unfold sgn
 by_cases h : k = 0
 ·subst h; cases n <;> rfl
 ·rw [if_neg h]
  cases n
  ·exact Int.sign_eq_one_of_pos (by simp; omega)
  ·exact Int.sign_eq_neg_one_of_neg (by simp; omega)
theorem digs_len_zero {k : Nat} : (M.digs B64 k).length = 0 ↔ k = 0 := by
 constructor
 ·intro h
  have h1 := M.val_digs B64_two k
  rw [List.length_eq_zero_iff.1 h] at h1
  exact h1.symm
 ·intro h; subst h; exact Nat.le_zero.1 (M.digs_len_of_lt B64_two (by simp))
theorem numOf_any (n : Bool) (s : ByteArray) (w : World) (hm : s.size ≤ 8000) (h0 : 0 < s.size → lm (byts s) 0 ≠ 0) (L : Nat) (hL : natOf s < B64 ^ L) :
  Calls Tryz.prog 58 #[.agg #[.bool n, .string s]] w fun e w' => ∃ v, e = .returned (.agg #[.bool n, v]) ∧ NV w' n v (sgn n (natOf s)) L ∧ Below w.heap.size w w' := by
 have H := shut (fun w1 => of_any s w1 (by omega) h0)
 clear h0 hm
 go_enter Tryz.func58, Tryz.ntmps58
 go_wp2_with fail
 obtain ⟨w0, hw, k0, k1, bb⟩ := mk2 w [.bool n, .string s] [.bool false, .slice none 0 0] 24 68
 rw [← hw]
 clear hw
 go_fit (H.out _)
 rintro e w1 ⟨v, rfl, r, b1⟩
 obtain ⟨a, l, c, rfl⟩ := rd_slice r
 replace k0 := k0.below b1
 replace k1 := k1.below b1
 replace bb := Below.after bb b1
 clear b1
 have c0 := cel2_0 k0
 obtain ⟨c1, c2⟩ := xk2 k1
 have f0 := k1.frozen 0
 have f1 := k1.frozen 1
 replace r := shut r
 go_wp2
 have nv : NV w1 n (.slice a l c) (sgn n (natOf s)) L := ⟨_, r.out, hL, rfl⟩
 exact post_n (p := 2) (by kernel_rfl) rfl rfl ((k1.set 0 _).set 1 _) ⟨_, rfl, nv.set2 k1 _ _, (bb.setCell (by simp) _).setCell (by simp) _⟩
theorem nsign_any (n : Bool) (v : Value) (z : Int) (L : Nat) (w : World) (h : NV w n v z L) :
  Calls Tryz.prog 97 #[.agg #[.bool n, v]] w (Re w (.int .i64 z.sign)) := by
 obtain ⟨k, r, hk, rfl⟩ := h
 rw [sgn_sign]
 by_cases h0 : k = 0
 ·rw [if_pos h0]
  have hl := digs_len_zero.2 h0
  obtain ⟨a, c, rfl, -, -⟩ := r
  rw [hl]
  go_enter Tryz.func97, Tryz.ntmps97
  go_wp2
  go_ret
  exact ⟨rfl, by go_grown⟩
 ·rw [if_neg h0]
  have hl : ¬ ((M.digs B64 k).length : Int) = 0 := fun h => h0 (digs_len_zero.1 (by omega))
  obtain ⟨a, c, rfl, -, -⟩ := r
  generalize (M.digs B64 k).length = l at *
  cases n with
  | false =>
   go_enter Tryz.func97, Tryz.ntmps97
   go_wp2
   go_ret
   exact ⟨rfl, by go_grown⟩
  | true =>
   go_enter Tryz.func97, Tryz.ntmps97
   go_wp2
   go_ret
   exact ⟨rfl, by go_grown⟩
theorem nv_len {k L : Nat} (h : k < B64 ^ L) (hL : L ≤ 1000) : (M.digs B64 k).length ≤ 4000 := Nat.le_trans (M.digs_len_of_lt B64_two h) (by omega)
theorem nisone_any (n : Bool) (v : Value) (z : Int) (L : Nat) (w : World) (h : NV w n v z L) :
  Calls Tryz.prog 95 #[.agg #[.bool n, v]] w fun e w' => ∃ b, e = .returned (.bool b) ∧ (b = true → z = 1 ∧ n = false) ∧ Below w.heap.size w w' := by
 obtain ⟨k, r, hk, rfl⟩ := h
 clear hk
 by_cases h1 : (M.digs B64 k).length = 1
 ·obtain ⟨a, c, rfl, -, hc⟩ := r
  obtain ⟨b, off, rfl, h0⟩ := hc 0 (by omega)
  clear hc
  have hv : Hid (lm (M.digs B64 k) 0 = k) := by
   show _ = _
   have h2 := M.val_digs B64_two k
   match hd : M.digs B64 k, h1 with
   | [x], _ => rw [hd] at h2; simpa [M.val, lm] using h2
  rw [h1]
  rw [hv.out] at h0
  simp only [Nat.add_zero] at h0
  clear h1
  by_cases hk : k = 1
  ·subst hk
   cases n with
   | true =>
    have h1 := cell_below h0 (bel_al w (.cells #[.bool true, .slice (some ⟨b, off, none⟩) 1 c] 68))
    go_enter Tryz.func95, Tryz.ntmps95
    go_wp2
    go_ret
    exact ⟨_, rfl, fun h => by simp at h, by go_grown⟩
   | false =>
    have h1 := cell_below h0 (bel_al w (.cells #[.bool false, .slice (some ⟨b, off, none⟩) 1 c] 68))
    go_enter Tryz.func95, Tryz.ntmps95
    go_wp2
    go_ret
    exact ⟨_, rfl, fun h => by simp [sgn], by go_grown⟩
  ·have hk' : ¬ (k : Int) = 1 := by omega
   clear hv
   have h1 := cell_below h0 (bel_al w (.cells #[.bool n, .slice (some ⟨b, off, none⟩) 1 c] 68))
   go_enter Tryz.func95, Tryz.ntmps95
   go_wp2
   go_ret
   exact ⟨_, rfl, fun h => by simp at h, by go_grown⟩
 ·have hl : ¬ ((M.digs B64 k).length : Int) = 1 := by omega
  obtain ⟨a, c, rfl, -, -⟩ := r
  generalize (M.digs B64 k).length = l at *
  go_enter Tryz.func95, Tryz.ntmps95
  go_wp2
  go_ret
  exact ⟨_, rfl, fun h => by simp at h, by go_grown⟩
theorem nsame_any (n n' : Bool) (v v' : Value) (k k' L : Nat) (w : World) (h : Rd w v (M.digs B64 k)) (h' : Rd w v' (M.digs B64 k')) (hL : L ≤ 1000) (hk : k < B64 ^ L) (hk' : k' < B64 ^ L) :
  Calls Tryz.prog 143 #[.agg #[.bool n, v], .agg #[.bool n', v']] w (Re w (.bool (decide (k = k')))) := by
 have H : Hid (∀ w1, Below w.heap.size w w1 → Calls Tryz.prog 118 #[v, v'] w1 (Re w1 (.tuple #[.int .i64 (cmpN k k'), .int .i64 0]))) := fun w1 b => by
  have := cmp_any v v' _ _ w1 (h.below b) (h'.below b) (M.Low.digs B64_two k) (M.Low.digs B64_two k') (nv_len hk hL) (nv_len hk' hL)
  rwa [M.val_digs B64_two, M.val_digs B64_two] at this
 obtain ⟨a, l, c, rfl⟩ := rd_slice h
 obtain ⟨a', l', c', rfl⟩ := rd_slice h'
 clear h h' hk hk'
 have hc : (k = k' ∧ cmpN k k' = 0) ∨ (¬ k = k' ∧ ¬ cmpN k k' = 0) := by
  unfold cmpN
  by_cases e : k = k'
  ·exact Or.inl ⟨e, by simp [e]⟩
  ·refine Or.inr ⟨e, ?_⟩
   split
   ·decide
   ·rw [if_pos (by omega)]; decide
 generalize cmpN k k' = cm at *
 go_enter Tryz.func143, Tryz.ntmps143
 go_wp2_with fail
 obtain ⟨w0, hw, k0, k1, bb⟩ := mk2 w [.bool n, .slice a l c] [.bool n', .slice a' l' c'] 68 68
 rw [← hw]
 clear hw
 go_fit (H.out _ bb)
 rintro e w1 ⟨rfl, b1⟩
 replace bb := Below.after bb b1
 rcases hc with ⟨e, h0⟩ | ⟨e, h0⟩
 ·subst h0
  go_wp2
  go_ret
  exact ⟨by rw [decide_eq_true e]; rfl, bb⟩
 ·go_wp2
  go_ret
  exact ⟨by rw [decide_eq_false e, ← beq_eq_false_iff_ne.2 h0]; rfl, bb⟩
theorem sgn_add (n : Bool) (k k' : Nat) : sgn n (k + k') = sgn n k + sgn n k' := by unfold sgn; cases n <;> simp <;> omega
theorem pow_add_lt {k k' L : Nat} (h : k < B64 ^ L) (h' : k' < B64 ^ L) : k + k' < B64 ^ (L + 1) := by
 have h2 : 2 * B64 ^ L ≤ B64 * B64 ^ L := Nat.mul_le_mul_right _ B64_two
 rw [Nat.pow_succ, Nat.mul_comm]
 omega
theorem pow_mul_lt {k k' L L' : Nat} (h : k < B64 ^ L) (h' : k' < B64 ^ L') : k * k' < B64 ^ (L + L') := by
 rw [Nat.pow_add]
 exact Nat.mul_lt_mul'' h h'
theorem nplus_any (n n' : Bool) (v v' : Value) (z z' : Int) (L : Nat) (w : World) (hL : L ≤ 1000) (h : NV w n v z L) (h' : NV w n' v' z' L) :
  Calls Tryz.prog 60 #[.agg #[.bool n, v], .agg #[.bool n', v']] w fun e w' => ∃ m u, e = .returned (.agg #[.bool m, u]) ∧ NV w' m u (z + z') (L + 1) ∧ Below w.heap.size w w' := by
 obtain ⟨k, r, hk, rfl⟩ := h
 obtain ⟨k', r', hk', rfl⟩ := h'
 have l1 := nv_len hk hL
 have l2 := nv_len hk' hL
 by_cases hn : n = n'
 ·subst hn
  have H : Hid (∀ w1, Below w.heap.size w w1 → Calls Tryz.prog 91 #[v, v'] w1 fun e w' => ∃ v, e = .returned (.tuple #[v, .int .i64 0]) ∧ Rd w' v (M.digs B64 (k + k')) ∧ Below w1.heap.size w1 w') := fun w1 b => by
   have := add_any v v' _ _ w1 (r.below b) (r'.below b) (M.Low.digs B64_two k) (M.Low.digs B64_two k') l1 l2
   rwa [M.val_digs B64_two, M.val_digs B64_two] at this
  obtain ⟨a, l, c, rfl⟩ := rd_slice r
  obtain ⟨a', l', c', rfl⟩ := rd_slice r'
  have HR : Hid (∀ w u, Rd w u (M.digs B64 (k + k')) → NV w n u (sgn n k + sgn n k') (L + 1)) := fun w u r => ⟨_, r, pow_add_lt hk hk', (sgn_add _ _ _).symm⟩
  generalize sgn n k + sgn n k' = z at *
  clear r r' l1 l2 hk hk'
  go_enter Tryz.func60, Tryz.ntmps60
  go_wp2_with fail
  obtain ⟨w0, hw, k0, k1, k2, bb⟩ := mk3 w [.bool n, .slice a l c] [.bool n, .slice a' l' c'] [.bool false, .slice none 0 0] 68 68 68
  rw [← hw]
  clear hw
  go_fit (H.out _ bb)
  rintro e w1 ⟨u, rfl, ru, b1⟩
  obtain ⟨a2, l2, c2, rfl⟩ := rd_slice ru
  replace k0 := k0.below b1
  replace k2 := k2.below b1
  replace bb := Below.after bb b1
  clear b1 k1
  have c0 := cel2_0 k0
  obtain ⟨c1, c3⟩ := xk2 k2
  have f0 := k2.frozen 0
  have f1 := k2.frozen 1
  replace ru := shut ru
  go_wp2
  exact post_n (p := 4) (by kernel_rfl) rfl rfl ((k2.set 0 _).set 1 _) ⟨_, _, rfl, (HR.out _ _ ru.out).set2 k2 _ _, (bb.setCell (by simp; omega) _).setCell (by simp; omega) _⟩
 ·have hq : (n == n') = false := by simpa using hn
  obtain rfl : n' = !n := by cases n <;> cases n' <;> simp_all
  by_cases hlt : k < k'
  ·have H : Hid (∀ w1, Below w.heap.size w w1 → Calls Tryz.prog 92 #[v, v'] w1 (Re w1 (.tuple #[.slice none 0 0, .int .i64 2]))) := fun w1 b => by
    have := sub_any v v' _ _ w1 (r.below b) (r'.below b) (M.Low.digs B64_two k) (M.Low.digs B64_two k') l1 l2
    rw [M.val_digs B64_two, M.val_digs B64_two] at this
    exact this.mono fun e w' h => ⟨h.2.1 hlt, h.2.2⟩
   have H2 : Hid (∀ w1, Below w.heap.size w w1 → Calls Tryz.prog 92 #[v', v] w1 fun e w' => ∃ v, e = .returned (.tuple #[v, .int .i64 0]) ∧ Rd w' v (M.digs B64 (k' - k)) ∧ Below w1.heap.size w1 w') := fun w1 b => by
    have := sub_any v' v _ _ w1 (r'.below b) (r.below b) (M.Low.digs B64_two k') (M.Low.digs B64_two k) l2 l1
    rw [M.val_digs B64_two, M.val_digs B64_two] at this
    exact this.mono fun e w' h => by obtain ⟨v, h1, h2⟩ := h.1 (Nat.le_of_lt hlt); exact ⟨v, h1, h2, h.2.2⟩
   obtain ⟨a, l, c, rfl⟩ := rd_slice r
   obtain ⟨a', l', c', rfl⟩ := rd_slice r'
   have HR : Hid (∀ w u, Rd w u (M.digs B64 (k' - k)) → NV w (!n) u (sgn n k + sgn (!n) k') (L + 1)) := fun w u r => ⟨_, r, Nat.lt_of_lt_of_le (show k' - k < B64 ^ L by omega) (pow_le_B64 (by omega)), by rw [← difz_eq]; unfold difz; rw [if_pos hlt]⟩
   generalize sgn n k + sgn (!n) k' = z at *
   clear r r' l1 l2 hk hk'
   go_enter Tryz.func60, Tryz.ntmps60
   go_wp2_with fail
   obtain ⟨w0, hw, k0, k1, k2, bb⟩ := mk3 w [.bool n, .slice a l c] [.bool (!n), .slice a' l' c'] [.bool false, .slice none 0 0] 68 68 68
   rw [← hw]
   clear hw
   go_fit (H.out _ bb)
   rintro e w1 ⟨rfl, b1⟩
   replace k0 := k0.below b1
   replace k1 := k1.below b1
   replace k2 := k2.below b1
   replace bb := Below.after bb b1
   clear b1
   have c0 := cel2_1 k0
   have c1 := cel2_1 k1
   go_wp2_with fail
   go_fit (H2.out _ bb)
   rintro e w2 ⟨u, rfl, ru, b1⟩
   obtain ⟨a2, l2, c2, rfl⟩ := rd_slice ru
   replace k1 := k1.below b1
   replace k2 := k2.below b1
   replace bb := Below.after bb b1
   clear b1 c0 c1 k0
   have c0 := cel2_0 k1
   obtain ⟨c1, c3⟩ := xk2 k2
   have f0 := k2.frozen 0
   have f1 := k2.frozen 1
   replace ru := shut ru
   go_wp2
   exact post_n (p := 4) (by kernel_rfl) rfl rfl ((k2.set 0 _).set 1 _) ⟨_, _, rfl, (HR.out _ _ ru.out).set2 k2 _ _, (bb.setCell (by simp; omega) _).setCell (by simp; omega) _⟩
  ·have H : Hid (∀ w1, Below w.heap.size w w1 → Calls Tryz.prog 92 #[v, v'] w1 fun e w' => ∃ v, e = .returned (.tuple #[v, .int .i64 0]) ∧ Rd w' v (M.digs B64 (k - k')) ∧ Below w1.heap.size w1 w') := fun w1 b => by
    have := sub_any v v' _ _ w1 (r.below b) (r'.below b) (M.Low.digs B64_two k) (M.Low.digs B64_two k') l1 l2
    rw [M.val_digs B64_two, M.val_digs B64_two] at this
    exact this.mono fun e w' h => by obtain ⟨v, h1, h2⟩ := h.1 (Nat.le_of_not_lt hlt); exact ⟨v, h1, h2, h.2.2⟩
   obtain ⟨a, l, c, rfl⟩ := rd_slice r
   obtain ⟨a', l', c', rfl⟩ := rd_slice r'
   have HR : Hid (∀ w u, Rd w u (M.digs B64 (k - k')) → NV w n u (sgn n k + sgn (!n) k') (L + 1)) := fun w u r => ⟨_, r, Nat.lt_of_lt_of_le (show k - k' < B64 ^ L by omega) (pow_le_B64 (by omega)), by rw [← difz_eq]; unfold difz; rw [if_neg hlt]⟩
   generalize sgn n k + sgn (!n) k' = z at *
   clear r r' l1 l2 hk hk'
   go_enter Tryz.func60, Tryz.ntmps60
   go_wp2_with fail
   obtain ⟨w0, hw, k0, k1, k2, bb⟩ := mk3 w [.bool n, .slice a l c] [.bool (!n), .slice a' l' c'] [.bool false, .slice none 0 0] 68 68 68
   rw [← hw]
   clear hw
   go_fit (H.out _ bb)
   rintro e w1 ⟨u, rfl, ru, b1⟩
   obtain ⟨a2, l2, c2, rfl⟩ := rd_slice ru
   replace k0 := k0.below b1
   replace k2 := k2.below b1
   replace bb := Below.after bb b1
   clear b1 k1
   have c0 := cel2_0 k0
   obtain ⟨c1, c3⟩ := xk2 k2
   have f0 := k2.frozen 0
   have f1 := k2.frozen 1
   replace ru := shut ru
   go_wp2
   exact post_n (p := 4) (by kernel_rfl) rfl rfl ((k2.set 0 _).set 1 _) ⟨_, _, rfl, (HR.out _ _ ru.out).set2 k2 _ _, (bb.setCell (by simp; omega) _).setCell (by simp; omega) _⟩
theorem nsgn_not (n : Bool) (k : Nat) : sgn (!n) k = -sgn n k := by unfold sgn; cases n <;> simp
theorem nminus_any (n n' : Bool) (v v' : Value) (z z' : Int) (L : Nat) (w : World) (hL : L ≤ 1000) (h : NV w n v z L) (h' : NV w n' v' z' L) :
  Calls Tryz.prog 144 #[.agg #[.bool n, v], .agg #[.bool n', v']] w fun e w' => ∃ m u, e = .returned (.agg #[.bool m, u]) ∧ NV w' m u (z - z') (L + 1) ∧ Below w.heap.size w w' := by
 have h2 : NV w (!n') v' (-z') L := by
  obtain ⟨k, r, hk, rfl⟩ := h'
  exact ⟨k, r, hk, (nsgn_not _ _).symm⟩
 have H : Hid (∀ w1, Below w.heap.size w w1 → Calls Tryz.prog 60 #[.agg #[.bool n, v], .agg #[.bool (!n'), v']] w1 fun e w' => ∃ m u, e = .returned (.agg #[.bool m, u]) ∧ NV w' m u (z - z') (L + 1) ∧ Below w1.heap.size w1 w') := fun w1 b => by
  have := nplus_any n (!n') v v' z (-z') L w1 hL (h.below b) (h2.below b)
  rwa [← Int.sub_eq_add_neg] at this
 obtain ⟨a, l, c, rfl⟩ := h.slice
 obtain ⟨a', l', c', rfl⟩ := h'.slice
 clear h h' h2
 go_enter Tryz.func144, Tryz.ntmps144
 go_wp2_with fail
 obtain ⟨w0, hw, k0, k1, k2, bb⟩ := mk3 w [.bool n, .slice a l c] [.bool n', .slice a' l' c'] [.bool false, .slice none 0 0] 68 68 68
 rw [← hw]
 clear hw
 go_fit (H.out _ bb)
 rintro e w1 ⟨m, u, rfl, nv, b1⟩
 obtain ⟨a2, l2, c2, rfl⟩ := nv.slice
 replace k2 := k2.below b1
 replace bb := Below.after bb b1
 clear b1 k1 k0
 obtain ⟨c1, c3⟩ := xk2 k2
 have f0 := k2.frozen 0
 have f1 := k2.frozen 1
 replace nv := shut nv
 go_wp2
 exact post_n (p := 4) (by kernel_rfl) rfl rfl ((k2.set 0 _).set 1 _) ⟨_, _, rfl, nv.out.set2 k2 _ _, (bb.setCell (by simp; omega) _).setCell (by simp; omega) _⟩
theorem nsgn_mul (n n' : Bool) (k k' : Nat) : sgn (n != n') (k * k') = sgn n k * sgn n' k' := by
 unfold sgn
 cases n <;> cases n' <;> simp <;> grind
theorem ntimes_any (n n' : Bool) (v v' : Value) (z z' : Int) (L L' : Nat) (w : World) (hL : L ≤ 1000) (hL' : L' ≤ 1000) (h : NV w n v z L) (h' : NV w n' v' z' L') :
  Calls Tryz.prog 59 #[.agg #[.bool n, v], .agg #[.bool n', v']] w fun e w' => ∃ m u, e = .returned (.agg #[.bool m, u]) ∧ NV w' m u (z * z') (L + L') ∧ (n = false → n' = false → m = false) ∧ Below w.heap.size w w' := by
 have H1 := shut (fun w1 (b : Below w.heap.size w w1) => nisone_any n v z L w1 (h.below b))
 have H2 := shut (fun w1 (b : Below w.heap.size w w1) => nisone_any n' v' z' L' w1 (h'.below b))
 have H3 : Hid (∀ w1, Below w.heap.size w w1 → Calls Tryz.prog 93 #[v, v'] w1 fun e w' => ∃ u, e = .returned (.tuple #[u, .int .i64 0]) ∧ NV w' (n != n') u (z * z') (L + L') ∧ Below w1.heap.size w1 w') := fun w1 b => by
  obtain ⟨k, r, hk, rfl⟩ := h
  obtain ⟨k', r', hk', rfl⟩ := h'
  have := mul_any v v' _ _ w1 (r.below b) (r'.below b) (M.Low.digs B64_two k) (M.Low.digs B64_two k') (nv_len hk hL) (nv_len hk' hL')
  rw [M.val_digs B64_two, M.val_digs B64_two] at this
  exact this.mono fun e w' ⟨u, h1, h2, h3⟩ => ⟨u, h1, ⟨_, h2, pow_mul_lt hk hk', (nsgn_mul _ _ _ _).symm⟩, h3⟩
 have HA : Hid (z = 1 → ∀ w1, Below w.heap.size w w1 → NV w1 n' v' (z * z') (L + L')) := fun e w1 b => by
  rw [e, Int.one_mul]
  exact (h'.below b).mono (by omega)
 have HB : Hid (z' = 1 → ∀ w1, Below w.heap.size w w1 → NV w1 n v (z * z') (L + L')) := fun e w1 b => by
  rw [e, Int.mul_one]
  exact (h.below b).mono (by omega)
 obtain ⟨a, l, c, rfl⟩ := h.slice
 obtain ⟨a', l', c', rfl⟩ := h'.slice
 clear h h'
 go_enter Tryz.func59, Tryz.ntmps59
 go_wp2_with fail
 obtain ⟨w0, hw, k0, k1, k2, bb⟩ := mk3 w [.bool n, .slice a l c] [.bool n', .slice a' l' c'] [.bool false, .slice none 0 0] 68 68 68
 rw [← hw]
 clear hw
 go_fit (H1.out _ bb)
 rintro e w1 ⟨b, rfl, hb, b1⟩
 replace k0 := k0.below b1
 replace k1 := k1.below b1
 replace k2 := k2.below b1
 replace bb := Below.after bb b1
 clear b1
 obtain ⟨c0, c1⟩ := xk2 k0
 obtain ⟨c2, c3⟩ := xk2 k1
 obtain ⟨c4, c5⟩ := xk2 k2
 have f0 := k2.frozen 0
 have f1 := k2.frozen 1
 cases b with
 | true =>
  have hz := (hb rfl).1
  clear hb
  have nv := shut ((HA.out hz _ bb).set2 k2 (.bool n') (.slice a' l' c'))
  clear hz
  go_wp2
  exact post_n (p := 4) (by kernel_rfl) rfl rfl ((k2.set 0 _).set 1 _) ⟨_, _, rfl, nv.out, fun _ h => h, (bb.setCell (by simp; omega) _).setCell (by simp; omega) _⟩
 | false =>
 clear hb
 go_wp2_with fail
 go_fit (H2.out _ bb)
 rintro e w2 ⟨b, rfl, hb, b1⟩
 replace k0 := k0.below b1
 replace k1 := k1.below b1
 replace k2 := k2.below b1
 replace bb := Below.after bb b1
 clear b1 c0 c1 c2 c3 c4 c5 f0 f1
 obtain ⟨c0, c1⟩ := xk2 k0
 obtain ⟨c2, c3⟩ := xk2 k1
 obtain ⟨c4, c5⟩ := xk2 k2
 have f0 := k2.frozen 0
 have f1 := k2.frozen 1
 cases b with
 | true =>
  have hz := (hb rfl).1
  clear hb
  have nv := shut ((HB.out hz _ bb).set2 k2 (.bool n) (.slice a l c))
  clear hz
  go_wp2
  exact post_n (p := 4) (by kernel_rfl) rfl rfl ((k2.set 0 _).set 1 _) ⟨_, _, rfl, nv.out, fun h _ => h, (bb.setCell (by simp; omega) _).setCell (by simp; omega) _⟩
 | false =>
 clear hb
 go_wp2_with fail
 go_fit (H3.out _ bb)
 rintro e w3 ⟨u, rfl, nv, b1⟩
 obtain ⟨a2, l2, c2', rfl⟩ := nv.slice
 replace k0 := k0.below b1
 replace k1 := k1.below b1
 replace k2 := k2.below b1
 replace bb := Below.after bb b1
 clear b1 c0 c1 c2 c3 c4 c5 f0 f1
 have c0 := cel2_0 k0
 have c2 := cel2_0 k1
 obtain ⟨c4, c5⟩ := xk2 k2
 have f0 := k2.frozen 0
 have f1 := k2.frozen 1
 replace nv := shut nv
 go_wp2
 exact post_n (p := 4) (by kernel_rfl) rfl rfl ((k2.set 0 _).set 1 _) ⟨_, _, rfl, nv.out.set2 k2 _ _, fun h h' => by rw [h, h']; rfl, (bb.setCell (by simp; omega) _).setCell (by simp; omega) _⟩
theorem post_nn {fn : Func} {p q : Tmp} {R : Ending → World → Prop} {a : Act} {w : World} {g g' : Nat} {x y x' y' : Value} (h : fn.results = #[.cell p 68, .cell q 68]) (hp : a.tmps.getD p undef = .pointer (some ⟨g, 0, none⟩)) (hq : a.tmps.getD q undef = .pointer (some ⟨g', 0, none⟩)) (hd : a.defers = [])
  (hc : Cel w g [x, y] 68) (hc' : Cel w g' [x', y'] 68) (hR : R (.returned (.tuple #[.agg #[x, y], .agg #[x', y']])) w) : bodyPost Tryz.prog fn R .ret a w := by
 refine ⟨hd, .tuple #[.agg #[x, y], .agg #[x', y']], ?_, hR⟩
 have hp' : a.tmps[p]?.getD undef = .pointer (some ⟨g, 0, none⟩) := by simpa using hp
 have hq' : a.tmps[q]?.getD undef = .pointer (some ⟨g', 0, none⟩) := by simpa using hq
 simp only [results, h]
 simp [Sem.run_bind, Result.andThen, hp', hq', asAddr, load_n hc, load_n hc']
theorem less_eq (n0 n1 : Bool) (s0 d0 s1 d1 : ByteArray) (z0 z1 D0 : Int) (L : Nat) (w : World) (hL : L ≤ 200)
  (H1 : Hid (∀ w1, Calls Tryz.prog 58 #[.agg #[.bool n0, .string s0]] w1 fun e w' => ∃ v, e = .returned (.agg #[.bool n0, v]) ∧ NV w' n0 v z0 L ∧ Below w1.heap.size w1 w'))
  (H2 : Hid (∀ w1, Calls Tryz.prog 58 #[.agg #[.bool n1, .string s1]] w1 fun e w' => ∃ v, e = .returned (.agg #[.bool n1, v]) ∧ NV w' n1 v z1 L ∧ Below w1.heap.size w1 w'))
  (H3 : Hid (∀ w1, Calls Tryz.prog 58 #[.agg #[.bool false, .string d0]] w1 fun e w' => ∃ v, e = .returned (.agg #[.bool false, v]) ∧ NV w' false v D0 L ∧ Below w1.heap.size w1 w')) (hd : (d0.toList == d1.toList) = true) :
  Calls Tryz.prog 142 #[.agg #[.bool n0, .string s0, .string d0], .agg #[.bool n1, .string s1, .string d1]] w fun e w' => ∃ m a l c a' l' c', e = .returned (.tuple #[.agg #[.bool m, .slice a l c], .agg #[.bool false, .slice a' l' c']]) ∧ NV w' m (.slice a l c) (z0 - z1) (L + 1) ∧ NV w' false (.slice a' l' c') (D0) (L) ∧ Below w.heap.size w w' := by
 go_enter Tryz.func142, Tryz.ntmps142
 go_wp2_with fail
 obtain ⟨w1, hw, ka, kb, kr, ks, b1⟩ := mk4 w [.bool n0, .string s0, .string d0] [.bool n1, .string s1, .string d1] [.bool false, .slice none 0 0] [.bool false, .slice none 0 0] 26 26 68 68
 rw [← hw]
 clear hw
 have sz := b1.size
 have ta := ka.lt
 have tb := kb.lt
 have tr := kr.lt
 have ts := ks.lt
 have bb := b1
 clear b1
 have mk : Hid (∀ w', SB w1 w' → xc3 w' w.heap.size (.bool n0) (.string s0) (.string d0) ∧ xc3 w' (w.heap.size + 1) (.bool n1) (.string s1) (.string d1)) := fun w' h => ⟨xk3 (ka.below h), xk3 (kb.below h)⟩
 go_cut [6, 7] from 10 to 15 (fun v u wx => ∃ gc gd a1 l1 c1 a2 l2 c2, v = .pointer (some ⟨gc, 0, none⟩) ∧ u = .pointer (some ⟨gd, 0, none⟩) ∧ w1.heap.size ≤ gc ∧ w1.heap.size ≤ gd ∧ Cel wx gc [.bool n0, .slice a1 l1 c1] 68 ∧ Cel wx gd [.bool n1, .slice a2 l2 c2] 68 ∧ NV wx n0 (.slice a1 l1 c1) z0 L ∧ NV wx n1 (.slice a2 l2 c2) z1 L ∧ Below w1.heap.size w1 wx)
 case first =>
  clear H3
  refine wp_region_held_drew (S := SB w1) (by kernel_rfl) (bdrew _) (fun bc => ?_)
  refine WA.start (n := 10) (by kernel_rfl) ?_
  refine WA.tl 0 rfl ?_
  refine WA.tl 1 rfl ?_
  refine WA.tl 3 rfl ?_
  refine WA.tl 4 rfl ?_
  refine WA.gen2 (i := 6) (s := 6) (i' := 7) (s' := 7) undef undef (Pt w1 [.bool false, .slice none 0 0] 68) (Pt w1 [.bool false, .slice none 0 0] 68) (fun b b' x x' hz hy hn => ?_)
  simp only [Act.put, List.setIfInBounds_toArray, List.set_cons_zero, List.set_cons_succ]
  replace hz := P2.mk hz hy hn
  clear hy hn
  revert b b' x x'
  refine WA.two 10 27 2 6 7 rfl rfl rfl bc ?_
  clear bc
  intro b b' x x' w' hz bx bc K hK
  clear bx
  simp only [List.getElem_toArray, List.getElem_cons_succ, List.getElem_cons_zero]
  go_simp
  go_fit (H1.out _)
  rintro e wn ⟨v1, rfl, nv1, bn⟩
  obtain ⟨a1, l1, c1, rfl⟩ := nv1.slice
  replace bc := Below.after bc bn
  try go_wp2_with fail
  refine hK.out _ _ bc (fun _ => ?_)
  replace hz := hz.below bn
  clear hK K bn
  revert b b' x x'
  refine WA.two 10 31 5 6 7 rfl rfl rfl bc ?_
  clear bc
  intro b b' x x' w' hz bx bc K hK
  replace nv1 := nv1.below bx
  clear bx
  simp only [List.getElem_toArray, List.getElem_cons_succ, List.getElem_cons_zero]
  go_simp
  go_fit (H2.out _)
  rintro e wn ⟨v2, rfl, nv2, bn⟩
  obtain ⟨a2, l2, c2, rfl⟩ := nv2.slice
  replace bc := Below.after bc bn
  try go_wp2_with fail
  refine hK.out _ _ bc (fun _ => ?_)
  replace hz := hz.below bn
  replace nv1 := nv1.below bn
  clear hK K bn
  revert b b' x x'
  refine WA.fin2 6 7 rfl rfl bc ?_
  clear bc
  intro x x' w' hz bx bc
  replace nv1 := nv1.below bx
  replace nv2 := nv2.below bx
  obtain ⟨g0, rfl, h0, k0⟩ := hz.p rfl
  obtain ⟨g1, rfl, h1, k1⟩ := hz.p' rfl
  have n01 : ¬ g0 = g1 := fun e => hz.ne rfl rfl (by rw [e])
  clear bx hz
  have e0_0 := cel2_0' k0
  have f0_0 := Cel.frozen k0 0
  have e0_1 := cel2_1' k0
  have f0_1 := Cel.frozen k0 1
  refine WA.call 8 rfl (fun K hK => ?_)
  simp only [List.getElem_toArray, List.getElem_cons_succ, List.getElem_cons_zero]
  go_simp
  try go_wp2_with fail
  clear e0_0 f0_0 e0_1 f0_1
  refine hK.out _ _ (bset (bset bc h0 0 (.bool n0)) h0 1 (.slice a1 l1 c1)) (fun hS => ?_)
  clear hK K
  replace nv1 := nv1.set2 k0 (.bool n0) (.slice a1 l1 c1)
  replace nv2 := nv2.set2 k0 (.bool n0) (.slice a1 l1 c1)
  replace k0 := (Cel.set (Cel.set k0 0 (.bool n0)) 1 (.slice a1 l1 c1))
  replace k1 := (Cel.other (Cel.other k1 (fun e => n01 e.symm) 0 (.bool n0)) (fun e => n01 e.symm) 1 (.slice a1 l1 c1))
  replace bc := (bset (bset bc h0 0 (.bool n0)) h0 1 (.slice a1 l1 c1))
  have e1_0 := cel2_0' k1
  have f1_0 := Cel.frozen k1 0
  have e1_1 := cel2_1' k1
  have f1_1 := Cel.frozen k1 1
  refine WA.call 9 rfl (fun K hK => ?_)
  simp only [List.getElem_toArray, List.getElem_cons_succ, List.getElem_cons_zero]
  go_simp
  try go_wp2_with fail
  clear e1_0 f1_0 e1_1 f1_1
  refine hK.out _ _ (bset (bset bc h1 0 (.bool n1)) h1 1 (.slice a2 l2 c2)) (fun hS => ?_)
  clear hK K
  replace nv1 := nv1.set2 k1 (.bool n1) (.slice a2 l2 c2)
  replace nv2 := nv2.set2 k1 (.bool n1) (.slice a2 l2 c2)
  replace k0 := (Cel.other (Cel.other k0 n01 0 (.bool n1)) n01 1 (.slice a2 l2 c2))
  replace k1 := (Cel.set (Cel.set k1 0 (.bool n1)) 1 (.slice a2 l2 c2))
  replace bc := (bset (bset bc h1 0 (.bool n1)) h1 1 (.slice a2 l2 c2))
  refine WA.done (by kernel_rfl) ?_
  go_wp2_with fail
  go_meet
  exact ⟨_, _, a1, l1, c1, a2, l2, c2, rfl, rfl, h0, h1, k0, k1, nv1, nv2, bc⟩
 case rest =>
 obtain ⟨gx, gy, a1, l1, c1, a2, l2, c2, rfl, rfl, lx, ly, kx, ky, nv1, nv2, b1⟩ := hcut
 clear mk
 have sz := b1.size
 replace ka := ka.below b1
 replace kb := kb.below b1
 replace kr := kr.below b1
 replace ks := ks.below b1
 replace bb := Below.after bb b1
 clear b1
 have tx := kx.lt
 have ty := ky.lt
 have ca := cel3_2 ka
 go_wp2_with fail
 go_fit (H3.out _)
 rintro e w3 ⟨v3, rfl, nv3, b1⟩
 obtain ⟨a3, l3, c3, rfl⟩ := nv3.slice
 replace ka := ka.below b1
 replace kb := kb.below b1
 replace kr := kr.below b1
 replace ks := ks.below b1
 replace kx := kx.below b1
 replace ky := ky.below b1
 replace nv1 := nv1.below b1
 replace nv2 := nv2.below b1
 replace bb := Below.after bb b1
 have sq0 := b1.size
 clear b1
 clear ca
 have ca := cel3_2 (ka.alloc (.cells #[.bool false, .slice a3 l3 c3] 68))
 have cb := cel3_2 (kb.alloc (.cells #[.bool false, .slice a3 l3 c3] 68))
 go_wp2_with fail
 obtain ⟨w4, hw, kz, b1⟩ := mk1 w3 [.bool false, .slice a3 l3 c3] 68
 rw [← hw]
 clear hw
 replace ka := ka.below b1
 replace kb := kb.below b1
 replace kr := kr.below b1
 replace ks := ks.below b1
 replace kx := kx.below b1
 replace ky := ky.below b1
 replace nv1 := nv1.below b1
 replace nv2 := nv2.below b1
 replace nv3 := nv3.below b1
 replace bb := Below.after bb b1
 have sq1 := b1.size
 have tz := kz.lt
 have sz := b1.size
 clear b1
 clear ca cb
 have tr' := kr.lt
 have mkS : Hid (∀ w', Cel w' (gx) [.bool n0, .slice a1 l1 c1] 68 → Cel w' (gy) [.bool n1, .slice a2 l2 c2] 68 → Cel w' (w3.heap.size) [.bool false, .slice a3 l3 c3] 68 → (xc2 w' gx (.bool n0) (.slice a1 l1 c1) ∧ xc2 w' gy (.bool n1) (.slice a2 l2 c2) ∧ xc2 w' w3.heap.size (.bool false) (.slice a3 l3 c3))) := fun w' hx hy hz => ⟨xk2 hx, xk2 hy, xk2 hz⟩
 have qxr : gx ≠ w.heap.size + 1 + 1 := by omega
 have qyr : gy ≠ w.heap.size + 1 + 1 := by omega
 have qzr : w3.heap.size ≠ w.heap.size + 1 + 1 := by omega
 have qxs : gx ≠ w.heap.size + 1 + 1 + 1 := by omega
 have qys : gy ≠ w.heap.size + 1 + 1 + 1 := by omega
 have qzs : w3.heap.size ≠ w.heap.size + 1 + 1 + 1 := by omega
 go_region_held3 (fun w' => xc2 w' gx (.bool n0) (.slice a1 l1 c1) ∧ xc2 w' gy (.bool n1) (.slice a2 l2 c2) ∧ xc2 w' w3.heap.size (.bool false) (.slice a3 l3 c3)) (first | with_reducible exact mkS.out _ kx ky kz | with_reducible exact mkS.out _ (Cel.other (Cel.other kx qxr 0 _) qxr 1 _) (Cel.other (Cel.other ky qyr 0 _) qyr 1 _) (Cel.other (Cel.other kz qzr 0 _) qzr 1 _) | with_reducible exact mkS.out _ (Cel.other (Cel.other (Cel.other (Cel.other kx qxr 0 _) qxr 1 _) qxs 0 _) qxs 1 _) (Cel.other (Cel.other (Cel.other (Cel.other ky qyr 0 _) qyr 1 _) qys 0 _) qys 1 _) (Cel.other (Cel.other (Cel.other (Cel.other kz qzr 0 _) qzr 1 _) qzs 0 _) qzs 1 _) | exact mkS.out _ kx ky kz) (first | (go_at_call 144; go_fit (nminus_any _ _ _ _ z0 z1 L _ (by omega) ?_ ?_); (first | exact nv1 | exact nv1.drew); (first | exact nv2 | exact nv2.drew); rintro e wn ⟨m5, v5, rfl, nv5, bn⟩; obtain ⟨a5, l5, c5, rfl⟩ := nv5.slice; replace kr := kr.below (un bn); replace ks := ks.below (un bn); replace kx := kx.below (un bn); replace ky := ky.below (un bn); replace kz := kz.below (un bn); (try replace nv1 := nv1.below (un bn)); (try replace nv2 := nv2.below (un bn)); (try replace nv3 := nv3.below (un bn)); replace bb := Below.after bb (un bn); have er0 := cel2_0 kr; have fr0 := Cel.frozen kr 0; have er1 := cel2_1 kr; have fr1 := Cel.frozen kr 1; have es0 := cel2_0 ks; have fs0 := Cel.frozen ks 0; have es1 := cel2_1 ks; have fs1 := Cel.frozen ks 1) | fail)
 replace nv5 := shut nv5
 replace nv3 := shut nv3
 go_wp2
 exact post_nn (p := 4) (q := 5) (by kernel_rfl) rfl rfl rfl ((((kr.set 0 _).set 1 _).other (by omega) _ _).other (by omega) _ _) ((((ks.other (by omega) _ _).other (by omega) _ _).set 0 _).set 1 _) ⟨_, _, _, _, _, _, _, rfl, (nv5.out.set2 kr _ _).set2 ((ks.other (by omega) _ _).other (by omega) _ _) _ _, (nv3.out.set2 kr _ _).set2 ((ks.other (by omega) _ _).other (by omega) _ _) _ _, bset (bset (bset (bset bb (by omega) 0 _) (by omega) 1 _) (by omega) 0 _) (by omega) 1 _⟩
theorem less_ne (n0 n1 : Bool) (s0 d0 s1 d1 : ByteArray) (z0 z1 D0 D1 : Int) (L : Nat) (w : World) (hL : L ≤ 200)
  (H1 : Hid (∀ w1, Calls Tryz.prog 58 #[.agg #[.bool n0, .string s0]] w1 fun e w' => ∃ v, e = .returned (.agg #[.bool n0, v]) ∧ NV w' n0 v z0 L ∧ Below w1.heap.size w1 w'))
  (H2 : Hid (∀ w1, Calls Tryz.prog 58 #[.agg #[.bool n1, .string s1]] w1 fun e w' => ∃ v, e = .returned (.agg #[.bool n1, v]) ∧ NV w' n1 v z1 L ∧ Below w1.heap.size w1 w'))
  (H3 : Hid (∀ w1, Calls Tryz.prog 58 #[.agg #[.bool false, .string d0]] w1 fun e w' => ∃ v, e = .returned (.agg #[.bool false, v]) ∧ NV w' false v D0 L ∧ Below w1.heap.size w1 w'))
  (H4 : Hid (∀ w1, Calls Tryz.prog 58 #[.agg #[.bool false, .string d1]] w1 fun e w' => ∃ v, e = .returned (.agg #[.bool false, v]) ∧ NV w' false v D1 L ∧ Below w1.heap.size w1 w')) (hd : (d0.toList == d1.toList) = false) :
  Calls Tryz.prog 142 #[.agg #[.bool n0, .string s0, .string d0], .agg #[.bool n1, .string s1, .string d1]] w fun e w' => ∃ m a l c a' l' c', e = .returned (.tuple #[.agg #[.bool m, .slice a l c], .agg #[.bool false, .slice a' l' c']]) ∧ NV w' m (.slice a l c) (z0 * D1 - z1 * D0) (L + L + 1) ∧ NV w' false (.slice a' l' c') (D0 * D1) (L + L) ∧ Below w.heap.size w w' := by
 go_enter Tryz.func142, Tryz.ntmps142
 go_wp2_with fail
 obtain ⟨w1, hw, ka, kb, kr, ks, b1⟩ := mk4 w [.bool n0, .string s0, .string d0] [.bool n1, .string s1, .string d1] [.bool false, .slice none 0 0] [.bool false, .slice none 0 0] 26 26 68 68
 rw [← hw]
 clear hw
 have sz := b1.size
 have ta := ka.lt
 have tb := kb.lt
 have tr := kr.lt
 have ts := ks.lt
 have bb := b1
 clear b1
 have mk : Hid (∀ w', SB w1 w' → xc3 w' w.heap.size (.bool n0) (.string s0) (.string d0) ∧ xc3 w' (w.heap.size + 1) (.bool n1) (.string s1) (.string d1)) := fun w' h => ⟨xk3 (ka.below h), xk3 (kb.below h)⟩
 go_cut [6, 7] from 10 to 15 (fun v u wx => ∃ gc gd a1 l1 c1 a2 l2 c2, v = .pointer (some ⟨gc, 0, none⟩) ∧ u = .pointer (some ⟨gd, 0, none⟩) ∧ w1.heap.size ≤ gc ∧ w1.heap.size ≤ gd ∧ Cel wx gc [.bool n0, .slice a1 l1 c1] 68 ∧ Cel wx gd [.bool n1, .slice a2 l2 c2] 68 ∧ NV wx n0 (.slice a1 l1 c1) z0 L ∧ NV wx n1 (.slice a2 l2 c2) z1 L ∧ Below w1.heap.size w1 wx)
 case first =>
  clear H3 H4
  refine wp_region_held_drew (S := SB w1) (by kernel_rfl) (bdrew _) (fun bc => ?_)
  refine WA.start (n := 10) (by kernel_rfl) ?_
  refine WA.tl 0 rfl ?_
  refine WA.tl 1 rfl ?_
  refine WA.tl 3 rfl ?_
  refine WA.tl 4 rfl ?_
  refine WA.gen2 (i := 6) (s := 6) (i' := 7) (s' := 7) undef undef (Pt w1 [.bool false, .slice none 0 0] 68) (Pt w1 [.bool false, .slice none 0 0] 68) (fun b b' x x' hz hy hn => ?_)
  simp only [Act.put, List.setIfInBounds_toArray, List.set_cons_zero, List.set_cons_succ]
  replace hz := P2.mk hz hy hn
  clear hy hn
  revert b b' x x'
  refine WA.two 10 27 2 6 7 rfl rfl rfl bc ?_
  clear bc
  intro b b' x x' w' hz bx bc K hK
  clear bx
  simp only [List.getElem_toArray, List.getElem_cons_succ, List.getElem_cons_zero]
  go_simp
  go_fit (H1.out _)
  rintro e wn ⟨v1, rfl, nv1, bn⟩
  obtain ⟨a1, l1, c1, rfl⟩ := nv1.slice
  replace bc := Below.after bc bn
  try go_wp2_with fail
  refine hK.out _ _ bc (fun _ => ?_)
  replace hz := hz.below bn
  clear hK K bn
  revert b b' x x'
  refine WA.two 10 31 5 6 7 rfl rfl rfl bc ?_
  clear bc
  intro b b' x x' w' hz bx bc K hK
  replace nv1 := nv1.below bx
  clear bx
  simp only [List.getElem_toArray, List.getElem_cons_succ, List.getElem_cons_zero]
  go_simp
  go_fit (H2.out _)
  rintro e wn ⟨v2, rfl, nv2, bn⟩
  obtain ⟨a2, l2, c2, rfl⟩ := nv2.slice
  replace bc := Below.after bc bn
  try go_wp2_with fail
  refine hK.out _ _ bc (fun _ => ?_)
  replace hz := hz.below bn
  replace nv1 := nv1.below bn
  clear hK K bn
  revert b b' x x'
  refine WA.fin2 6 7 rfl rfl bc ?_
  clear bc
  intro x x' w' hz bx bc
  replace nv1 := nv1.below bx
  replace nv2 := nv2.below bx
  obtain ⟨g0, rfl, h0, k0⟩ := hz.p rfl
  obtain ⟨g1, rfl, h1, k1⟩ := hz.p' rfl
  have n01 : ¬ g0 = g1 := fun e => hz.ne rfl rfl (by rw [e])
  clear bx hz
  have e0_0 := cel2_0' k0
  have f0_0 := Cel.frozen k0 0
  have e0_1 := cel2_1' k0
  have f0_1 := Cel.frozen k0 1
  refine WA.call 8 rfl (fun K hK => ?_)
  simp only [List.getElem_toArray, List.getElem_cons_succ, List.getElem_cons_zero]
  go_simp
  try go_wp2_with fail
  clear e0_0 f0_0 e0_1 f0_1
  refine hK.out _ _ (bset (bset bc h0 0 (.bool n0)) h0 1 (.slice a1 l1 c1)) (fun hS => ?_)
  clear hK K
  replace nv1 := nv1.set2 k0 (.bool n0) (.slice a1 l1 c1)
  replace nv2 := nv2.set2 k0 (.bool n0) (.slice a1 l1 c1)
  replace k0 := (Cel.set (Cel.set k0 0 (.bool n0)) 1 (.slice a1 l1 c1))
  replace k1 := (Cel.other (Cel.other k1 (fun e => n01 e.symm) 0 (.bool n0)) (fun e => n01 e.symm) 1 (.slice a1 l1 c1))
  replace bc := (bset (bset bc h0 0 (.bool n0)) h0 1 (.slice a1 l1 c1))
  have e1_0 := cel2_0' k1
  have f1_0 := Cel.frozen k1 0
  have e1_1 := cel2_1' k1
  have f1_1 := Cel.frozen k1 1
  refine WA.call 9 rfl (fun K hK => ?_)
  simp only [List.getElem_toArray, List.getElem_cons_succ, List.getElem_cons_zero]
  go_simp
  try go_wp2_with fail
  clear e1_0 f1_0 e1_1 f1_1
  refine hK.out _ _ (bset (bset bc h1 0 (.bool n1)) h1 1 (.slice a2 l2 c2)) (fun hS => ?_)
  clear hK K
  replace nv1 := nv1.set2 k1 (.bool n1) (.slice a2 l2 c2)
  replace nv2 := nv2.set2 k1 (.bool n1) (.slice a2 l2 c2)
  replace k0 := (Cel.other (Cel.other k0 n01 0 (.bool n1)) n01 1 (.slice a2 l2 c2))
  replace k1 := (Cel.set (Cel.set k1 0 (.bool n1)) 1 (.slice a2 l2 c2))
  replace bc := (bset (bset bc h1 0 (.bool n1)) h1 1 (.slice a2 l2 c2))
  refine WA.done (by kernel_rfl) ?_
  go_wp2_with fail
  go_meet
  exact ⟨_, _, a1, l1, c1, a2, l2, c2, rfl, rfl, h0, h1, k0, k1, nv1, nv2, bc⟩
 case rest =>
 obtain ⟨gx, gy, a1, l1, c1, a2, l2, c2, rfl, rfl, lx, ly, kx, ky, nv1, nv2, b1⟩ := hcut
 clear mk
 have sz := b1.size
 replace ka := ka.below b1
 replace kb := kb.below b1
 replace kr := kr.below b1
 replace ks := ks.below b1
 replace bb := Below.after bb b1
 clear b1
 have tx := kx.lt
 have ty := ky.lt
 have ca := cel3_2 ka
 go_wp2_with fail
 go_fit (H3.out _)
 rintro e w3 ⟨v3, rfl, nv3, b1⟩
 obtain ⟨a3, l3, c3, rfl⟩ := nv3.slice
 replace ka := ka.below b1
 replace kb := kb.below b1
 replace kr := kr.below b1
 replace ks := ks.below b1
 replace kx := kx.below b1
 replace ky := ky.below b1
 replace nv1 := nv1.below b1
 replace nv2 := nv2.below b1
 replace bb := Below.after bb b1
 have sq2 := b1.size
 clear b1
 clear ca
 have ca := cel3_2 (ka.alloc (.cells #[.bool false, .slice a3 l3 c3] 68))
 have cb := cel3_2 (kb.alloc (.cells #[.bool false, .slice a3 l3 c3] 68))
 go_wp2_with fail
 obtain ⟨w4, hw, kz, b1⟩ := mk1 w3 [.bool false, .slice a3 l3 c3] 68
 rw [← hw]
 clear hw
 replace ka := ka.below b1
 replace kb := kb.below b1
 replace kr := kr.below b1
 replace ks := ks.below b1
 replace kx := kx.below b1
 replace ky := ky.below b1
 replace nv1 := nv1.below b1
 replace nv2 := nv2.below b1
 replace nv3 := nv3.below b1
 replace bb := Below.after bb b1
 have sq3 := b1.size
 have tz := kz.lt
 have sz := b1.size
 clear b1
 clear ca cb
 have tr' := kr.lt
 have cb := cel3_2 kb
 go_wp2_with fail
 go_fit (H4.out _)
 rintro e w4' ⟨v4, rfl, nv4, b1⟩
 obtain ⟨a4, l4, c4, rfl⟩ := nv4.slice
 replace ka := ka.below b1
 replace kb := kb.below b1
 replace kr := kr.below b1
 replace ks := ks.below b1
 replace kx := kx.below b1
 replace ky := ky.below b1
 replace kz := kz.below b1
 replace nv1 := nv1.below b1
 replace nv2 := nv2.below b1
 replace nv3 := nv3.below b1
 replace bb := Below.after bb b1
 have sq4 := b1.size
 clear b1
 clear cb
 go_wp2_with fail
 obtain ⟨w6, hw, ku, b1⟩ := mk1 w4' [.bool false, .slice a4 l4 c4] 68
 rw [← hw]
 clear hw
 replace ka := ka.below b1
 replace kb := kb.below b1
 replace kr := kr.below b1
 replace ks := ks.below b1
 replace kx := kx.below b1
 replace ky := ky.below b1
 replace kz := kz.below b1
 replace nv1 := nv1.below b1
 replace nv2 := nv2.below b1
 replace nv3 := nv3.below b1
 replace nv4 := nv4.below b1
 replace bb := Below.after bb b1
 have sq5 := b1.size
 have tu := ku.lt
 have sz := b1.size
 clear b1
 have mkS : Hid (∀ w', Cel w' (gx) [.bool n0, .slice a1 l1 c1] 68 → Cel w' (gy) [.bool n1, .slice a2 l2 c2] 68 → Cel w' (w3.heap.size) [.bool false, .slice a3 l3 c3] 68 → Cel w' (w4'.heap.size) [.bool false, .slice a4 l4 c4] 68 → (xc2 w' gx (.bool n0) (.slice a1 l1 c1) ∧ xc2 w' gy (.bool n1) (.slice a2 l2 c2) ∧ xc2 w' w3.heap.size (.bool false) (.slice a3 l3 c3) ∧ xc2 w' w4'.heap.size (.bool false) (.slice a4 l4 c4))) := fun w' hx hy hz hu => ⟨xk2 hx, xk2 hy, xk2 hz, xk2 hu⟩
 have qxr : gx ≠ w.heap.size + 1 + 1 := by omega
 have qyr : gy ≠ w.heap.size + 1 + 1 := by omega
 have qzr : w3.heap.size ≠ w.heap.size + 1 + 1 := by omega
 have qur : w4'.heap.size ≠ w.heap.size + 1 + 1 := by omega
 have qxs : gx ≠ w.heap.size + 1 + 1 + 1 := by omega
 have qys : gy ≠ w.heap.size + 1 + 1 + 1 := by omega
 have qzs : w3.heap.size ≠ w.heap.size + 1 + 1 + 1 := by omega
 have qus : w4'.heap.size ≠ w.heap.size + 1 + 1 + 1 := by omega
 go_region_held3 (fun w' => xc2 w' gx (.bool n0) (.slice a1 l1 c1) ∧ xc2 w' gy (.bool n1) (.slice a2 l2 c2) ∧ xc2 w' w3.heap.size (.bool false) (.slice a3 l3 c3) ∧ xc2 w' w4'.heap.size (.bool false) (.slice a4 l4 c4)) (first | with_reducible exact mkS.out _ kx ky kz ku | with_reducible exact mkS.out _ (Cel.other (Cel.other kx qxr 0 _) qxr 1 _) (Cel.other (Cel.other ky qyr 0 _) qyr 1 _) (Cel.other (Cel.other kz qzr 0 _) qzr 1 _) (Cel.other (Cel.other ku qur 0 _) qur 1 _) | with_reducible exact mkS.out _ (Cel.other (Cel.other (Cel.other (Cel.other kx qxr 0 _) qxr 1 _) qxs 0 _) qxs 1 _) (Cel.other (Cel.other (Cel.other (Cel.other ky qyr 0 _) qyr 1 _) qys 0 _) qys 1 _) (Cel.other (Cel.other (Cel.other (Cel.other kz qzr 0 _) qzr 1 _) qzs 0 _) qzs 1 _) (Cel.other (Cel.other (Cel.other (Cel.other ku qur 0 _) qur 1 _) qus 0 _) qus 1 _) | exact mkS.out _ kx ky kz ku) (first | (go_at_call 59; go_fit (ntimes_any _ _ _ _ z0 D1 L L _ (by omega) (by omega) ?_ ?_); (first | exact nv1 | exact nv1.drew); (first | exact nv4 | exact nv4.drew); rintro e wn ⟨m5, v5, rfl, nv5, -, bn⟩; obtain ⟨a5, l5, c5, rfl⟩ := nv5.slice; replace kr := kr.below (un bn); replace ks := ks.below (un bn); replace kx := kx.below (un bn); replace ky := ky.below (un bn); replace kz := kz.below (un bn); replace ku := ku.below (un bn); (try replace nv1 := nv1.below (un bn)); (try replace nv2 := nv2.below (un bn)); (try replace nv3 := nv3.below (un bn)); (try replace nv4 := nv4.below (un bn)); (try replace nv6 := nv6.below (un bn)); (try replace nv7 := nv7.below (un bn)); replace bb := Below.after bb (un bn)) | (go_at_call 59; go_fit (ntimes_any _ _ _ _ z1 D0 L L _ (by omega) (by omega) ?_ ?_); (first | exact nv2 | exact nv2.drew); (first | exact nv3 | exact nv3.drew); rintro e wn ⟨m6, v6, rfl, nv6, -, bn⟩; obtain ⟨a6, l6, c6, rfl⟩ := nv6.slice; replace kr := kr.below (un bn); replace ks := ks.below (un bn); replace kx := kx.below (un bn); replace ky := ky.below (un bn); replace kz := kz.below (un bn); replace ku := ku.below (un bn); (try replace nv1 := nv1.below (un bn)); (try replace nv2 := nv2.below (un bn)); (try replace nv3 := nv3.below (un bn)); (try replace nv4 := nv4.below (un bn)); (try replace nv5 := nv5.below (un bn)); (try replace nv7 := nv7.below (un bn)); replace bb := Below.after bb (un bn)) | (go_at_call 144; go_fit (nminus_any _ _ _ _ (z0 * D1) (z1 * D0) (L + L) _ (by omega) ?_ ?_); (first | exact nv5 | exact nv5.drew); (first | exact nv6 | exact nv6.drew); rintro e wn ⟨m7, v7, rfl, nv7, bn⟩; obtain ⟨a7, l7, c7, rfl⟩ := nv7.slice; replace kr := kr.below (un bn); replace ks := ks.below (un bn); replace kx := kx.below (un bn); replace ky := ky.below (un bn); replace kz := kz.below (un bn); replace ku := ku.below (un bn); (try replace nv1 := nv1.below (un bn)); (try replace nv2 := nv2.below (un bn)); (try replace nv3 := nv3.below (un bn)); (try replace nv4 := nv4.below (un bn)); (try replace nv5 := nv5.below (un bn)); (try replace nv6 := nv6.below (un bn)); replace bb := Below.after bb (un bn)) | (go_at_call 59; go_fit (ntimes_any _ _ _ _ D0 D1 L L _ (by omega) (by omega) ?_ ?_); (first | exact nv3 | exact nv3.drew); (first | exact nv4 | exact nv4.drew); rintro e wn ⟨m8, v8, rfl, nv8, hm8, bn⟩; obtain ⟨a8, l8, c8, rfl⟩ := nv8.slice; replace kr := kr.below (un bn); replace ks := ks.below (un bn); replace kx := kx.below (un bn); replace ky := ky.below (un bn); replace kz := kz.below (un bn); replace ku := ku.below (un bn); (try replace nv1 := nv1.below (un bn)); (try replace nv2 := nv2.below (un bn)); (try replace nv3 := nv3.below (un bn)); (try replace nv4 := nv4.below (un bn)); (try replace nv5 := nv5.below (un bn)); (try replace nv6 := nv6.below (un bn)); (try replace nv7 := nv7.below (un bn)); replace bb := Below.after bb (un bn); have er0 := cel2_0 kr; have fr0 := Cel.frozen kr 0; have er1 := cel2_1 kr; have fr1 := Cel.frozen kr 1; have es0 := cel2_0 ks; have fs0 := Cel.frozen ks 0; have es1 := cel2_1 ks; have fs1 := Cel.frozen ks 1))
 obtain rfl := hm8 trivial trivial
 clear hm8
 replace nv7 := shut nv7
 replace nv8 := shut nv8
 go_wp2
 exact post_nn (p := 4) (q := 5) (by kernel_rfl) rfl rfl rfl ((((kr.set 0 _).set 1 _).other (by omega) _ _).other (by omega) _ _) ((((ks.other (by omega) _ _).other (by omega) _ _).set 0 _).set 1 _) ⟨_, _, _, _, _, _, _, rfl, (nv7.out.set2 kr _ _).set2 ((ks.other (by omega) _ _).other (by omega) _ _) _ _, (nv8.out.set2 kr _ _).set2 ((ks.other (by omega) _ _).other (by omega) _ _) _ _, bset (bset (bset (bset bb (by omega) 0 _) (by omega) 1 _) (by omega) 0 _) (by omega) 1 _⟩
end Go.Proofs.YtbafjmjcepcckaaGreatDoor
