/-
  Package span: numbers as a sign and limbs.
  Package span: a number in its one form.
  gussetlaw06: ConsNear holds.
  How long the numbers of a way and of a centre are.
  Rows of numbers of package span: made, filled one by one, read.
  Package poly: Check, clearedOf, walked.
  Package span: whether points may be asked.
  Package span: Shared, walked.
  Package span: one number less another.
-/
import Derived.Lib.AppendIntMem
import Derived.Shelf.LaysM
import Derived.Shelf.Strconv.Itoa2
import Derived.Test.YtbafjmjcepcckaaGreatDoorN35
set_option maxRecDepth 100000
set_option maxHeartbeats 16000000
namespace Go.Proofs.YtbafjmjcepcckaaGreatDoor
open Go.RowKit
def NV (w : World) (n : Bool) (v : Value) (z : Int) (L : Nat) : Prop := ∃ k, Rd w v (M.digs B64 k) ∧ k < B64 ^ L ∧ z = sgn n k
theorem NV.below {w w' : World} {n : Bool} {v : Value} {z : Int} {L : Nat} (h : NV w n v z L) (hb : Below w.heap.size w w') : NV w' n v z L := by
 obtain ⟨k, r, h1, h2⟩ := h
 exact ⟨k, r.below hb, h1, h2⟩
theorem NV.mono {w : World} {n : Bool} {v : Value} {z : Int} {L M' : Nat} (h : NV w n v z L) (hL : L ≤ M') : NV w n v z M' := by
 obtain ⟨k, r, h1, h2⟩ := h
 exact ⟨k, r, Nat.lt_of_lt_of_le h1 (pow_le_B64 hL), h2⟩
theorem rd_slice {w : World} {v : Value} {xs : List Nat} (h : Rd w v xs) : ∃ a l c, v = .slice a l c := by
 obtain ⟨a, c, rfl, -, -⟩ := h
 exact ⟨_, _, _, rfl⟩
theorem NV.slice {w : World} {n : Bool} {v : Value} {z : Int} {L : Nat} (h : NV w n v z L) : ∃ a l c, v = .slice a l c := by
 obtain ⟨k, r, -⟩ := h
 exact rd_slice r
theorem no_ints2 (n : Bool) (a : Option Addr) (l c : Nat) : ∀ (j : Nat) (k : IntKind) (i : Int), [Value.bool n, .slice a l c][j]? ≠ some (.int k i) := by
 intro j k i
 match j with
 | 0 => simp
 | 1 => simp
 | j + 2 => simp
theorem no_ints6 (n m o : Bool) (a b d : Option Addr) (l c l1 c1 l2 c2 : Nat) : ∀ (j : Nat) (k : IntKind) (i : Int), [Value.bool n, .slice a l c, .bool m, .slice b l1 c1, .bool o, .slice d l2 c2][j]? ≠ some (.int k i) := by
 intro j k i
 match j with
 | 0 => simp
 | 1 => simp
 | 2 => simp
 | 3 => simp
 | 4 => simp
 | 5 => simp
 | j + 6 => simp
theorem NV.set2 {w : World} {n m : Bool} {v : Value} {z : Int} {L g : Nat} {a : Option Addr} {l c : Nat} {t : TypeId} (h : NV w n v z L) (hc : Cel w g [.bool m, .slice a l c] t) (x y : Value) :
  NV ((w.setCell ⟨g, 0, none⟩ x).setCell ⟨g, 1, none⟩ y) n v z L := by
 obtain ⟨k, r, h1, h2⟩ := h
 exact ⟨k, (((rdx_of_cel r hc (no_ints2 _ _ _ _)).setX 0 x).setX 1 y).rd, h1, h2⟩
theorem NV.set6 {w : World} {n m o p : Bool} {v : Value} {z : Int} {L g : Nat} {a b d : Option Addr} {l c l1 c1 l2 c2 : Nat} {t : TypeId} (h : NV w n v z L) (hc : Cel w g [.bool m, .slice a l c, .bool o, .slice b l1 c1, .bool p, .slice d l2 c2] t) (x0 x1 x2 x3 x4 x5 : Value) :
  NV ((((((w.setCell ⟨g, 0, none⟩ x0).setCell ⟨g, 1, none⟩ x1).setCell ⟨g, 2, none⟩ x2).setCell ⟨g, 3, none⟩ x3).setCell ⟨g, 4, none⟩ x4).setCell ⟨g, 5, none⟩ x5) n v z L := by
 obtain ⟨k, r, h1, h2⟩ := h
 exact ⟨k, (((((((rdx_of_cel r hc (no_ints6 _ _ _ _ _ _ _ _ _ _ _ _)).setX 0 x0).setX 1 x1).setX 2 x2).setX 3 x3).setX 4 x4).setX 5 x5).rd, h1, h2⟩
theorem load_n {w : World} {g : Nat} {x y : Value} (h : Cel w g [x, y] 68) : (loadVar 68 ⟨g, 0, none⟩).run Tryz.prog w = .ok (.agg #[x, y]) w :=
 run_loadVar_row w g 68 68 #[x, y] (0, 0) _ h Tryz.underlying68 rfl (by kernel_rfl)
theorem post_n {fn : Func} {p : Tmp} {R : Ending → World → Prop} {a : Act} {w : World} {g : Nat} {x y : Value} (h : fn.results = #[.cell p 68]) (hp : a.tmps.getD p undef = .pointer (some ⟨g, 0, none⟩)) (hd : a.defers = [])
  (hc : Cel w g [x, y] 68) (hR : R (.returned (.agg #[x, y])) w) : bodyPost Tryz.prog fn R .ret a w := by
 refine ⟨hd, .agg #[x, y], ?_, hR⟩
 exact results_cell_row (P := Tryz.prog) h _ w g 68 #[x, y] (0, 0) _ hp hc Tryz.underlying68 rfl (by kernel_rfl)
theorem sgn_sign (n : Bool) (k : Nat) : (sgn n k).sign = if k = 0 then 0 else if n then -1 else 1 := by
 unfold sgn
 by_cases h : k = 0
 ·subst h; cases n <;> rfl
 ·rw [if_neg h]
  cases n
  ·exact Int.sign_eq_one_of_pos (by simp; omega)
  ·exact Int.sign_eq_neg_one_of_neg (by simp; omega)
theorem digs_len_zero {k : Nat} : (M.digs B64 k).length = 0 ↔ k = 0 := by
 constructor
 ·intro h
  have h1 := M.val_digs B64_two k
  rw [List.length_eq_zero_iff.1 h] at h1
  exact h1.symm
 ·intro h; subst h; exact Nat.le_zero.1 (M.digs_len_of_lt B64_two (by simp))
theorem numOf_any (n : Bool) (s : ByteArray) (w : World) (hm : s.size ≤ 8000) (h0 : 0 < s.size → lm (byts s) 0 ≠ 0) (L : Nat) (hL : natOf s < B64 ^ L) :
  Calls Tryz.prog 58 #[.agg #[.bool n, .string s]] w fun e w' => ∃ v, e = .returned (.agg #[.bool n, v]) ∧ NV w' n v (sgn n (natOf s)) L ∧ Below w.heap.size w w' := by
 have H := shut (fun w1 => of_any s w1 (by omega) h0)
 clear h0 hm
 go_enter Tryz.func58, Tryz.ntmps58
 go_wp2_with fail
 obtain ⟨w0, hw, k0, k1, bb⟩ := mk2 w [.bool n, .string s] [.bool false, .slice none 0 0] 24 68
 rw [← hw]
 clear hw
 go_fit (H.out _)
 rintro e w1 ⟨v, rfl, r, b1⟩
 obtain ⟨a, l, c, rfl⟩ := rd_slice r
 replace k0 := k0.below b1
 replace k1 := k1.below b1
 replace bb := Below.after bb b1
 clear b1
 have c0 := cel2_0 k0
 obtain ⟨c1, c2⟩ := xk2 k1
 have f0 := k1.frozen 0
 have f1 := k1.frozen 1
 replace r := shut r
 go_wp2
 have nv : NV w1 n (.slice a l c) (sgn n (natOf s)) L := ⟨_, r.out, hL, rfl⟩
 exact post_n (p := 2) (by kernel_rfl) rfl rfl ((k1.set 0 _).set 1 _) ⟨_, rfl, nv.set2 k1 _ _, (bb.setCell (by simp) _).setCell (by simp) _⟩
theorem nsign_any (n : Bool) (v : Value) (z : Int) (L : Nat) (w : World) (h : NV w n v z L) :
  Calls Tryz.prog 97 #[.agg #[.bool n, v]] w (Re w (.int .i64 z.sign)) := by
 obtain ⟨k, r, hk, rfl⟩ := h
 rw [sgn_sign]
 by_cases h0 : k = 0
 ·rw [if_pos h0]
  have hl := digs_len_zero.2 h0
  obtain ⟨a, c, rfl, -, -⟩ := r
  rw [hl]
  go_enter Tryz.func97, Tryz.ntmps97
  go_wp2
  go_ret
  exact ⟨rfl, by go_grown⟩
 ·rw [if_neg h0]
  have hl : ¬ ((M.digs B64 k).length : Int) = 0 := fun h => h0 (digs_len_zero.1 (by omega))
  obtain ⟨a, c, rfl, -, -⟩ := r
  generalize (M.digs B64 k).length = l at *
  cases n with
  | false =>
   go_enter Tryz.func97, Tryz.ntmps97
   go_wp2
   go_ret
   exact ⟨rfl, by go_grown⟩
  | true =>
   go_enter Tryz.func97, Tryz.ntmps97
   go_wp2
   go_ret
   exact ⟨rfl, by go_grown⟩
theorem nv_len {k L : Nat} (h : k < B64 ^ L) (hL : L ≤ 1000) : (M.digs B64 k).length ≤ 4000 := Nat.le_trans (M.digs_len_of_lt B64_two h) (by omega)
theorem nisone_any (n : Bool) (v : Value) (z : Int) (L : Nat) (w : World) (h : NV w n v z L) :
  Calls Tryz.prog 95 #[.agg #[.bool n, v]] w fun e w' => ∃ b, e = .returned (.bool b) ∧ (b = true → z = 1 ∧ n = false) ∧ Below w.heap.size w w' := by
 obtain ⟨k, r, hk, rfl⟩ := h
 clear hk
 by_cases h1 : (M.digs B64 k).length = 1
 ·obtain ⟨a, c, rfl, -, hc⟩ := r
  obtain ⟨b, off, rfl, h0⟩ := hc 0 (by omega)
  clear hc
  have hv : Hid (lm (M.digs B64 k) 0 = k) := by
   show _ = _
   have h2 := M.val_digs B64_two k
   match hd : M.digs B64 k, h1 with
   | [x], _ => rw [hd] at h2; simpa [M.val, lm] using h2
  rw [h1]
  rw [hv.out] at h0
  simp only [Nat.add_zero] at h0
  clear h1
  by_cases hk : k = 1
  ·subst hk
   cases n with
   | true =>
    have h1 := cell_below h0 (bel_al w (.cells #[.bool true, .slice (some ⟨b, off, none⟩) 1 c] 68))
    go_enter Tryz.func95, Tryz.ntmps95
    go_wp2
    go_ret
    exact ⟨_, rfl, fun h => by simp at h, by go_grown⟩
   | false =>
    have h1 := cell_below h0 (bel_al w (.cells #[.bool false, .slice (some ⟨b, off, none⟩) 1 c] 68))
    go_enter Tryz.func95, Tryz.ntmps95
    go_wp2
    go_ret
    exact ⟨_, rfl, fun h => by simp [sgn], by go_grown⟩
  ·have hk' : ¬ (k : Int) = 1 := by omega
   clear hv
   have h1 := cell_below h0 (bel_al w (.cells #[.bool n, .slice (some ⟨b, off, none⟩) 1 c] 68))
   go_enter Tryz.func95, Tryz.ntmps95
   go_wp2
   go_ret
   exact ⟨_, rfl, fun h => by simp at h, by go_grown⟩
 ·have hl : ¬ ((M.digs B64 k).length : Int) = 1 := by omega
  obtain ⟨a, c, rfl, -, -⟩ := r
  generalize (M.digs B64 k).length = l at *
  go_enter Tryz.func95, Tryz.ntmps95
  go_wp2
  go_ret
  exact ⟨_, rfl, fun h => by simp at h, by go_grown⟩
theorem nsame_any (n n' : Bool) (v v' : Value) (k k' L : Nat) (w : World) (h : Rd w v (M.digs B64 k)) (h' : Rd w v' (M.digs B64 k')) (hL : L ≤ 1000) (hk : k < B64 ^ L) (hk' : k' < B64 ^ L) :
  Calls Tryz.prog 143 #[.agg #[.bool n, v], .agg #[.bool n', v']] w (Re w (.bool (decide (k = k')))) := by
 have H : Hid (∀ w1, Below w.heap.size w w1 → Calls Tryz.prog 118 #[v, v'] w1 (Re w1 (.tuple #[.int .i64 (cmpN k k'), .int .i64 0]))) := fun w1 b => by
  have := cmp_any v v' _ _ w1 (h.below b) (h'.below b) (M.Low.digs B64_two k) (M.Low.digs B64_two k') (nv_len hk hL) (nv_len hk' hL)
  rwa [M.val_digs B64_two, M.val_digs B64_two] at this
 obtain ⟨a, l, c, rfl⟩ := rd_slice h
 obtain ⟨a', l', c', rfl⟩ := rd_slice h'
 clear h h' hk hk'
 have hc : (k = k' ∧ cmpN k k' = 0) ∨ (¬ k = k' ∧ ¬ cmpN k k' = 0) := by
  unfold cmpN
  by_cases e : k = k'
  ·exact Or.inl ⟨e, by simp [e]⟩
  ·refine Or.inr ⟨e, ?_⟩
   split
   ·decide
   ·rw [if_pos (by omega)]; decide
 generalize cmpN k k' = cm at *
 go_enter Tryz.func143, Tryz.ntmps143
 go_wp2_with fail
 obtain ⟨w0, hw, k0, k1, bb⟩ := mk2 w [.bool n, .slice a l c] [.bool n', .slice a' l' c'] 68 68
 rw [← hw]
 clear hw
 go_fit (H.out _ bb)
 rintro e w1 ⟨rfl, b1⟩
 replace bb := Below.after bb b1
 rcases hc with ⟨e, h0⟩ | ⟨e, h0⟩
 ·subst h0
  go_wp2
  go_ret
  exact ⟨by rw [decide_eq_true e]; rfl, bb⟩
 ·go_wp2
  go_ret
  exact ⟨by rw [decide_eq_false e, ← beq_eq_false_iff_ne.2 h0]; rfl, bb⟩
theorem sgn_add (n : Bool) (k k' : Nat) : sgn n (k + k') = sgn n k + sgn n k' := by unfold sgn; cases n <;> simp <;> omega
theorem pow_add_lt {k k' L : Nat} (h : k < B64 ^ L) (h' : k' < B64 ^ L) : k + k' < B64 ^ (L + 1) := by
 have h2 : 2 * B64 ^ L ≤ B64 * B64 ^ L := Nat.mul_le_mul_right _ B64_two
 rw [Nat.pow_succ, Nat.mul_comm]
 omega
theorem pow_mul_lt {k k' L L' : Nat} (h : k < B64 ^ L) (h' : k' < B64 ^ L') : k * k' < B64 ^ (L + L') := by
 rw [Nat.pow_add]
 exact Nat.mul_lt_mul'' h h'
theorem nplus_any (n n' : Bool) (v v' : Value) (z z' : Int) (L : Nat) (w : World) (hL : L ≤ 1000) (h : NV w n v z L) (h' : NV w n' v' z' L) :
  Calls Tryz.prog 60 #[.agg #[.bool n, v], .agg #[.bool n', v']] w fun e w' => ∃ m u, e = .returned (.agg #[.bool m, u]) ∧ NV w' m u (z + z') (L + 1) ∧ Below w.heap.size w w' := by
 obtain ⟨k, r, hk, rfl⟩ := h
 obtain ⟨k', r', hk', rfl⟩ := h'
 have l1 := nv_len hk hL
 have l2 := nv_len hk' hL
 by_cases hn : n = n'
 ·subst hn
  have H : Hid (∀ w1, Below w.heap.size w w1 → Calls Tryz.prog 91 #[v, v'] w1 fun e w' => ∃ v, e = .returned (.tuple #[v, .int .i64 0]) ∧ Rd w' v (M.digs B64 (k + k')) ∧ Below w1.heap.size w1 w') := fun w1 b => by
   have := add_any v v' _ _ w1 (r.below b) (r'.below b) (M.Low.digs B64_two k) (M.Low.digs B64_two k') l1 l2
   rwa [M.val_digs B64_two, M.val_digs B64_two] at this
  obtain ⟨a, l, c, rfl⟩ := rd_slice r
  obtain ⟨a', l', c', rfl⟩ := rd_slice r'
  have HR : Hid (∀ w u, Rd w u (M.digs B64 (k + k')) → NV w n u (sgn n k + sgn n k') (L + 1)) := fun w u r => ⟨_, r, pow_add_lt hk hk', (sgn_add _ _ _).symm⟩
  generalize sgn n k + sgn n k' = z at *
  clear r r' l1 l2 hk hk'
  go_enter Tryz.func60, Tryz.ntmps60
  go_wp2_with fail
  obtain ⟨w0, hw, k0, k1, k2, bb⟩ := mk3 w [.bool n, .slice a l c] [.bool n, .slice a' l' c'] [.bool false, .slice none 0 0] 68 68 68
  rw [← hw]
  clear hw
  go_fit (H.out _ bb)
  rintro e w1 ⟨u, rfl, ru, b1⟩
  obtain ⟨a2, l2, c2, rfl⟩ := rd_slice ru
  replace k0 := k0.below b1
  replace k2 := k2.below b1
  replace bb := Below.after bb b1
  clear b1 k1
  have c0 := cel2_0 k0
  obtain ⟨c1, c3⟩ := xk2 k2
  have f0 := k2.frozen 0
  have f1 := k2.frozen 1
  replace ru := shut ru
  go_wp2
  exact post_n (p := 4) (by kernel_rfl) rfl rfl ((k2.set 0 _).set 1 _) ⟨_, _, rfl, (HR.out _ _ ru.out).set2 k2 _ _, (bb.setCell (by simp; omega) _).setCell (by simp; omega) _⟩
 ·have hq : (n == n') = false := by simpa using hn
  obtain rfl : n' = !n := by cases n <;> cases n' <;> simp_all
  by_cases hlt : k < k'
  ·have H : Hid (∀ w1, Below w.heap.size w w1 → Calls Tryz.prog 92 #[v, v'] w1 (Re w1 (.tuple #[.slice none 0 0, .int .i64 2]))) := fun w1 b => by
    have := sub_any v v' _ _ w1 (r.below b) (r'.below b) (M.Low.digs B64_two k) (M.Low.digs B64_two k') l1 l2
    rw [M.val_digs B64_two, M.val_digs B64_two] at this
    exact this.mono fun e w' h => ⟨h.2.1 hlt, h.2.2⟩
   have H2 : Hid (∀ w1, Below w.heap.size w w1 → Calls Tryz.prog 92 #[v', v] w1 fun e w' => ∃ v, e = .returned (.tuple #[v, .int .i64 0]) ∧ Rd w' v (M.digs B64 (k' - k)) ∧ Below w1.heap.size w1 w') := fun w1 b => by
    have := sub_any v' v _ _ w1 (r'.below b) (r.below b) (M.Low.digs B64_two k') (M.Low.digs B64_two k) l2 l1
    rw [M.val_digs B64_two, M.val_digs B64_two] at this
    exact this.mono fun e w' h => by obtain ⟨v, h1, h2⟩ := h.1 (Nat.le_of_lt hlt); exact ⟨v, h1, h2, h.2.2⟩
   obtain ⟨a, l, c, rfl⟩ := rd_slice r
   obtain ⟨a', l', c', rfl⟩ := rd_slice r'
   have HR : Hid (∀ w u, Rd w u (M.digs B64 (k' - k)) → NV w (!n) u (sgn n k + sgn (!n) k') (L + 1)) := fun w u r => ⟨_, r, Nat.lt_of_lt_of_le (show k' - k < B64 ^ L by omega) (pow_le_B64 (by omega)), by rw [← difz_eq]; unfold difz; rw [if_pos hlt]⟩
   generalize sgn n k + sgn (!n) k' = z at *
   clear r r' l1 l2 hk hk'
   go_enter Tryz.func60, Tryz.ntmps60
   go_wp2_with fail
   obtain ⟨w0, hw, k0, k1, k2, bb⟩ := mk3 w [.bool n, .slice a l c] [.bool (!n), .slice a' l' c'] [.bool false, .slice none 0 0] 68 68 68
   rw [← hw]
   clear hw
   go_fit (H.out _ bb)
   rintro e w1 ⟨rfl, b1⟩
   replace k0 := k0.below b1
   replace k1 := k1.below b1
   replace k2 := k2.below b1
   replace bb := Below.after bb b1
   clear b1
   have c0 := cel2_1 k0
   have c1 := cel2_1 k1
   go_wp2_with fail
   go_fit (H2.out _ bb)
   rintro e w2 ⟨u, rfl, ru, b1⟩
   obtain ⟨a2, l2, c2, rfl⟩ := rd_slice ru
   replace k1 := k1.below b1
   replace k2 := k2.below b1
   replace bb := Below.after bb b1
   clear b1 c0 c1 k0
   have c0 := cel2_0 k1
   obtain ⟨c1, c3⟩ := xk2 k2
   have f0 := k2.frozen 0
   have f1 := k2.frozen 1
   replace ru := shut ru
   go_wp2
   exact post_n (p := 4) (by kernel_rfl) rfl rfl ((k2.set 0 _).set 1 _) ⟨_, _, rfl, (HR.out _ _ ru.out).set2 k2 _ _, (bb.setCell (by simp; omega) _).setCell (by simp; omega) _⟩
  ·have H : Hid (∀ w1, Below w.heap.size w w1 → Calls Tryz.prog 92 #[v, v'] w1 fun e w' => ∃ v, e = .returned (.tuple #[v, .int .i64 0]) ∧ Rd w' v (M.digs B64 (k - k')) ∧ Below w1.heap.size w1 w') := fun w1 b => by
    have := sub_any v v' _ _ w1 (r.below b) (r'.below b) (M.Low.digs B64_two k) (M.Low.digs B64_two k') l1 l2
    rw [M.val_digs B64_two, M.val_digs B64_two] at this
    exact this.mono fun e w' h => by obtain ⟨v, h1, h2⟩ := h.1 (Nat.le_of_not_lt hlt); exact ⟨v, h1, h2, h.2.2⟩
   obtain ⟨a, l, c, rfl⟩ := rd_slice r
   obtain ⟨a', l', c', rfl⟩ := rd_slice r'
   have HR : Hid (∀ w u, Rd w u (M.digs B64 (k - k')) → NV w n u (sgn n k + sgn (!n) k') (L + 1)) := fun w u r => ⟨_, r, Nat.lt_of_lt_of_le (show k - k' < B64 ^ L by omega) (pow_le_B64 (by omega)), by rw [← difz_eq]; unfold difz; rw [if_neg hlt]⟩
   generalize sgn n k + sgn (!n) k' = z at *
   clear r r' l1 l2 hk hk'
   go_enter Tryz.func60, Tryz.ntmps60
   go_wp2_with fail
   obtain ⟨w0, hw, k0, k1, k2, bb⟩ := mk3 w [.bool n, .slice a l c] [.bool (!n), .slice a' l' c'] [.bool false, .slice none 0 0] 68 68 68
   rw [← hw]
   clear hw
   go_fit (H.out _ bb)
   rintro e w1 ⟨u, rfl, ru, b1⟩
   obtain ⟨a2, l2, c2, rfl⟩ := rd_slice ru
   replace k0 := k0.below b1
   replace k2 := k2.below b1
   replace bb := Below.after bb b1
   clear b1 k1
   have c0 := cel2_0 k0
   obtain ⟨c1, c3⟩ := xk2 k2
   have f0 := k2.frozen 0
   have f1 := k2.frozen 1
   replace ru := shut ru
   go_wp2
   exact post_n (p := 4) (by kernel_rfl) rfl rfl ((k2.set 0 _).set 1 _) ⟨_, _, rfl, (HR.out _ _ ru.out).set2 k2 _ _, (bb.setCell (by simp; omega) _).setCell (by simp; omega) _⟩
theorem nsgn_not (n : Bool) (k : Nat) : sgn (!n) k = -sgn n k := by unfold sgn; cases n <;> simp
theorem nminus_any (n n' : Bool) (v v' : Value) (z z' : Int) (L : Nat) (w : World) (hL : L ≤ 1000) (h : NV w n v z L) (h' : NV w n' v' z' L) :
  Calls Tryz.prog 144 #[.agg #[.bool n, v], .agg #[.bool n', v']] w fun e w' => ∃ m u, e = .returned (.agg #[.bool m, u]) ∧ NV w' m u (z - z') (L + 1) ∧ Below w.heap.size w w' := by
 have h2 : NV w (!n') v' (-z') L := by
  obtain ⟨k, r, hk, rfl⟩ := h'
  exact ⟨k, r, hk, (nsgn_not _ _).symm⟩
 have H : Hid (∀ w1, Below w.heap.size w w1 → Calls Tryz.prog 60 #[.agg #[.bool n, v], .agg #[.bool (!n'), v']] w1 fun e w' => ∃ m u, e = .returned (.agg #[.bool m, u]) ∧ NV w' m u (z - z') (L + 1) ∧ Below w1.heap.size w1 w') := fun w1 b => by
  have := nplus_any n (!n') v v' z (-z') L w1 hL (h.below b) (h2.below b)
  rwa [← Int.sub_eq_add_neg] at this
 obtain ⟨a, l, c, rfl⟩ := h.slice
 obtain ⟨a', l', c', rfl⟩ := h'.slice
 clear h h' h2
 go_enter Tryz.func144, Tryz.ntmps144
 go_wp2_with fail
 obtain ⟨w0, hw, k0, k1, k2, bb⟩ := mk3 w [.bool n, .slice a l c] [.bool n', .slice a' l' c'] [.bool false, .slice none 0 0] 68 68 68
 rw [← hw]
 clear hw
 go_fit (H.out _ bb)
 rintro e w1 ⟨m, u, rfl, nv, b1⟩
 obtain ⟨a2, l2, c2, rfl⟩ := nv.slice
 replace k2 := k2.below b1
 replace bb := Below.after bb b1
 clear b1 k1 k0
 obtain ⟨c1, c3⟩ := xk2 k2
 have f0 := k2.frozen 0
 have f1 := k2.frozen 1
 replace nv := shut nv
 go_wp2
 exact post_n (p := 4) (by kernel_rfl) rfl rfl ((k2.set 0 _).set 1 _) ⟨_, _, rfl, nv.out.set2 k2 _ _, (bb.setCell (by simp; omega) _).setCell (by simp; omega) _⟩
theorem nsgn_mul (n n' : Bool) (k k' : Nat) : sgn (n != n') (k * k') = sgn n k * sgn n' k' := by
 unfold sgn
 cases n <;> cases n' <;> simp <;> grind
theorem ntimes_any (n n' : Bool) (v v' : Value) (z z' : Int) (L L' : Nat) (w : World) (hL : L ≤ 1000) (hL' : L' ≤ 1000) (h : NV w n v z L) (h' : NV w n' v' z' L') :
  Calls Tryz.prog 59 #[.agg #[.bool n, v], .agg #[.bool n', v']] w fun e w' => ∃ m u, e = .returned (.agg #[.bool m, u]) ∧ NV w' m u (z * z') (L + L') ∧ (n = false → n' = false → m = false) ∧ Below w.heap.size w w' := by
 have H1 := shut (fun w1 (b : Below w.heap.size w w1) => nisone_any n v z L w1 (h.below b))
 have H2 := shut (fun w1 (b : Below w.heap.size w w1) => nisone_any n' v' z' L' w1 (h'.below b))
 have H3 : Hid (∀ w1, Below w.heap.size w w1 → Calls Tryz.prog 93 #[v, v'] w1 fun e w' => ∃ u, e = .returned (.tuple #[u, .int .i64 0]) ∧ NV w' (n != n') u (z * z') (L + L') ∧ Below w1.heap.size w1 w') := fun w1 b => by
  obtain ⟨k, r, hk, rfl⟩ := h
  obtain ⟨k', r', hk', rfl⟩ := h'
  have := mul_any v v' _ _ w1 (r.below b) (r'.below b) (M.Low.digs B64_two k) (M.Low.digs B64_two k') (nv_len hk hL) (nv_len hk' hL')
  rw [M.val_digs B64_two, M.val_digs B64_two] at this
  exact this.mono fun e w' ⟨u, h1, h2, h3⟩ => ⟨u, h1, ⟨_, h2, pow_mul_lt hk hk', (nsgn_mul _ _ _ _).symm⟩, h3⟩
 have HA : Hid (z = 1 → ∀ w1, Below w.heap.size w w1 → NV w1 n' v' (z * z') (L + L')) := fun e w1 b => by
  rw [e, Int.one_mul]
  exact (h'.below b).mono (by omega)
 have HB : Hid (z' = 1 → ∀ w1, Below w.heap.size w w1 → NV w1 n v (z * z') (L + L')) := fun e w1 b => by
  rw [e, Int.mul_one]
  exact (h.below b).mono (by omega)
 obtain ⟨a, l, c, rfl⟩ := h.slice
 obtain ⟨a', l', c', rfl⟩ := h'.slice
 clear h h'
 go_enter Tryz.func59, Tryz.ntmps59
 go_wp2_with fail
 obtain ⟨w0, hw, k0, k1, k2, bb⟩ := mk3 w [.bool n, .slice a l c] [.bool n', .slice a' l' c'] [.bool false, .slice none 0 0] 68 68 68
 rw [← hw]
 clear hw
 go_fit (H1.out _ bb)
 rintro e w1 ⟨b, rfl, hb, b1⟩
 replace k0 := k0.below b1
 replace k1 := k1.below b1
 replace k2 := k2.below b1
 replace bb := Below.after bb b1
 clear b1
 obtain ⟨c0, c1⟩ := xk2 k0
 obtain ⟨c2, c3⟩ := xk2 k1
 obtain ⟨c4, c5⟩ := xk2 k2
 have f0 := k2.frozen 0
 have f1 := k2.frozen 1
 cases b with
 | true =>
  have hz := (hb rfl).1
  clear hb
  have nv := shut ((HA.out hz _ bb).set2 k2 (.bool n') (.slice a' l' c'))
  clear hz
  go_wp2
  exact post_n (p := 4) (by kernel_rfl) rfl rfl ((k2.set 0 _).set 1 _) ⟨_, _, rfl, nv.out, fun _ h => h, (bb.setCell (by simp; omega) _).setCell (by simp; omega) _⟩
 | false =>
 clear hb
 go_wp2_with fail
 go_fit (H2.out _ bb)
 rintro e w2 ⟨b, rfl, hb, b1⟩
 replace k0 := k0.below b1
 replace k1 := k1.below b1
 replace k2 := k2.below b1
 replace bb := Below.after bb b1
 clear b1 c0 c1 c2 c3 c4 c5 f0 f1
 obtain ⟨c0, c1⟩ := xk2 k0
 obtain ⟨c2, c3⟩ := xk2 k1
 obtain ⟨c4, c5⟩ := xk2 k2
 have f0 := k2.frozen 0
 have f1 := k2.frozen 1
 cases b with
 | true =>
  have hz := (hb rfl).1
  clear hb
  have nv := shut ((HB.out hz _ bb).set2 k2 (.bool n) (.slice a l c))
  clear hz
  go_wp2
  exact post_n (p := 4) (by kernel_rfl) rfl rfl ((k2.set 0 _).set 1 _) ⟨_, _, rfl, nv.out, fun h _ => h, (bb.setCell (by simp; omega) _).setCell (by simp; omega) _⟩
 | false =>
 clear hb
 go_wp2_with fail
 go_fit (H3.out _ bb)
 rintro e w3 ⟨u, rfl, nv, b1⟩
 obtain ⟨a2, l2, c2', rfl⟩ := nv.slice
 replace k0 := k0.below b1
 replace k1 := k1.below b1
 replace k2 := k2.below b1
 replace bb := Below.after bb b1
 clear b1 c0 c1 c2 c3 c4 c5 f0 f1
 have c0 := cel2_0 k0
 have c2 := cel2_0 k1
 obtain ⟨c4, c5⟩ := xk2 k2
 have f0 := k2.frozen 0
 have f1 := k2.frozen 1
 replace nv := shut nv
 go_wp2
 exact post_n (p := 4) (by kernel_rfl) rfl rfl ((k2.set 0 _).set 1 _) ⟨_, _, rfl, nv.out.set2 k2 _ _, fun h h' => by rw [h, h']; rfl, (bb.setCell (by simp; omega) _).setCell (by simp; omega) _⟩
theorem natAbs_sgn (n : Bool) (k : Nat) : (sgn n k).natAbs = k := by
 unfold sgn
 split <;> omega
theorem nint_any (n : Bool) (v : Value) (z : Int) (L : Nat) (w : World) (hL : L ≤ 1000) (h : NV w n v z L) :
  Calls Tryz.prog 61 #[.agg #[.bool n, v]] w (Re w (.agg #[.bool (nfZ z), .string (sfZ z)])) := by
 have H1 : Hid (∀ w1, Below w.heap.size w w1 → Calls Tryz.prog 96 #[v] w1 (Re w1 (.tuple #[.string (sfZ z), .int .i64 0]))) := fun w1 b => by
  obtain ⟨k, r, hk, rfl⟩ := h
  have := nat_any v _ w1 (r.below b) (M.Low.digs B64_two k) (nv_len hk hL)
  rw [M.val_digs B64_two] at this
  unfold sfZ
  rw [natAbs_sgn]
  exact this
 have H2 : Hid (∀ w1, Below w.heap.size w w1 → Calls Tryz.prog 97 #[.agg #[.bool n, v]] w1 (Re w1 (.int .i64 z.sign))) := fun w1 b => nsign_any n v z L w1 (h.below b)
 have hs : decide (z.sign < 0) = nfZ z := by
  unfold nfZ
  rw [decide_eq_decide]
  constructor
  ·intro k
   rcases Int.lt_trichotomy z 0 with q | q | q
   ·exact q
   ·rw [q] at k; exact absurd k (by decide)
   ·rw [Int.sign_eq_one_of_pos q] at k; exact absurd k (by decide)
  ·intro k
   rw [Int.sign_eq_neg_one_of_neg k]; decide
 obtain ⟨s, hs'⟩ : ∃ s, s = z.sign := ⟨_, rfl⟩
 rw [← hs'] at hs H2
 obtain ⟨N, hN⟩ : ∃ N, N = nfZ z := ⟨_, rfl⟩
 obtain ⟨S, hS⟩ : ∃ S, S = sfZ z := ⟨_, rfl⟩
 rw [← hN] at hs ⊢
 rw [← hS] at H1 ⊢
 obtain ⟨a, l, c, rfl⟩ := h.slice
 clear h hs' hN hS
 go_enter Tryz.func61, Tryz.ntmps61
 go_wp2_with fail
 obtain ⟨w0, hw, k0, kr, bb⟩ := mk2 w [.bool n, .slice a l c] [.bool false, .string { data := #[] }] 68 24
 rw [← hw]
 clear hw
 go_fit (H1.out _ bb)
 rintro e w1 ⟨rfl, b1⟩
 replace k0 := k0.below b1
 replace kr := kr.below b1
 replace bb := Below.after bb b1
 clear b1
 obtain ⟨c0, c1⟩ := xk2 k0
 go_wp2_with fail
 clear c0 c1
 go_fit (H2.out _ bb)
 rintro e w2 ⟨rfl, b1⟩
 replace kr := kr.below b1
 replace bb := Below.after bb b1
 clear b1
 obtain ⟨c0, c1⟩ := xk2 kr
 have f0 := kr.frozen 0
 have f1 := kr.frozen 1
 go_wp2
 exact post_z (p := 2) (by kernel_rfl) rfl rfl ((kr.set 0 _).set 1 _) ⟨rfl, bset (bset bb (by omega) 0 _) (by omega) 1 _⟩
theorem vqm_add {a b : Rat} {k j : Nat} (ha : Bq a k) (hb : Bq b j) : Bq (a + b) (k + j + 1) := by
 rw [Rat.add_def']
 exact vq_mk (Nat.mul_pos a.den_pos b.den_pos) ((ha.1.mul hb.2).add ((hb.1.mul ha.2).mono (by omega))) ((vd_cast _ _ ha.2 hb.2).mono (by omega))
theorem vqm_sub {a b : Rat} {k j : Nat} (ha : Bq a k) (hb : Bq b j) : Bq (a - b) (k + j + 1) := by
 rw [Rat.sub_eq_add_neg]
 exact vqm_add ha (vq_neg hb)
theorem vqm_mul {a b : Rat} {k j : Nat} (ha : Bq a k) (hb : Bq b j) : Bq (a * b) (k + j) := by
 rw [Rat.mul_def']
 exact vq_mk (Nat.mul_pos a.den_pos b.den_pos) (ha.1.mul hb.1) (vd_cast _ _ ha.2 hb.2)
theorem Gm.way_x {X Y U : Int} {x y : Rat} (h : Gm.Way X Y U x y) : Rat.divInt X U = x := by
 have hp := Gm.upos h.1
 rw [Rat.divInt_eq_div, h.2.1, Rat.div_def]
 have := Rat.mul_inv_cancel (U : Rat) (by grind)
 grind
theorem bq_divI {X U : Int} {k : Nat} (hU : 0 < U) (hX : Bd X k) (hu : Bd U k) : Bq (Rat.divInt X U) k := by
 obtain ⟨m, rfl⟩ := Int.eq_ofNat_of_zero_le (Int.le_of_lt hU)
 show Bq (mkRat X m) k
 exact vq_mk (by omega) hX hu
theorem bq_wayx {X Y U : Int} {x y : Rat} {k : Nat} (h : Gm.Way X Y U x y) (hX : Bd X k) (hu : Bd U k) : Bq x k := by
 rw [← Gm.way_x h]; exact bq_divI h.1 hX hu
def fnn (m : Nat → Bool) (v : Nat → Value) (k i : Nat) : Value := if i / 2 < k then (if i % 2 = 0 then .bool (m (i / 2)) else v (i / 2)) else (if i % 2 = 0 then .bool false else .slice none 0 0)
theorem fnn_0 (m : Nat → Bool) (v : Nat → Value) {k j : Nat} (h : j < k) : fnn m v k (j * 2) = .bool (m j) := by
 unfold fnn
 rw [show j * 2 / 2 = j by omega, if_pos h, if_pos (by omega)]
theorem fnn_1 (m : Nat → Bool) (v : Nat → Value) {k j : Nat} (h : j < k) : fnn m v k (j * 2 + 1) = v j := by
 unfold fnn
 rw [show (j * 2 + 1) / 2 = j by omega, if_pos h, if_neg (by omega)]
theorem cellsN0 : Value.cells (.agg #[.bool false, .slice none 0 0]) = #[.bool false, .slice none 0 0] := by kernel_rfl
theorem run_mkN (n : Nat) (hn : n ≤ 1000000) (w : World) :
  ∃ w', (Instr.makeSlice 65 (.int .i64 n) (.int .i64 n)).run Tryz.prog w = .ok (.slice (some ⟨w.heap.size, 0, none⟩) n n) w' ∧ Cells w' w.heap.size 68 (n * 2) (fnn (fun _ => false) (fun _ => .slice none 0 0) 0) ∧ Below w.heap.size w w' := by
 obtain ⟨i0, hi, hz0, hz1, hz2⟩ := info_parts (show (Tryz.prog.info? 68).map (fun i => (i.zero, i.size, i.bytes)) = some (some (.agg #[.bool false, .slice none 0 0]), 2, 32) by kernel_rfl)
 have h := run_make (P := Tryz.prog) w 65 68 i0 (.agg #[.bool false, .slice none 0 0]) Tryz.underlying65 hi hz0 .i64 .i64 n n (by omega) (by omega) (by rw [hz2]; omega) (by omega)
 rw [hz1, cellsN0, Int.toNat_natCast] at h
 refine ⟨_, h, ⟨_, heap_alloc_new w _, size_madeCells _ _, fun i hi => ?_⟩, (Below.refl _ _).alloc (Nat.le_refl _) _⟩
 have e : (madeCells #[Value.bool false, .slice none 0 0] (n * 2))[i]? = some (#[Value.bool false, .slice none 0 0][i % 2]!) := by
  simp [madeCells, hi]
 rw [e]
 unfold fnn
 rw [if_neg (by omega)]
 by_cases e0 : i % 2 = 0
 ·rw [if_pos e0, e0]; rfl
 ·rw [if_neg e0, show i % 2 = 1 by omega]; rfl
theorem wpList_mkN {w : World} {ops : Array Oper} {rest : List Oper} {o : Oper} {a : Act} {Q : Exit → Act → World → Prop}
  (hg : o.guard = none) (l c : Operand) (hop : o.op = Op.makeSlice 65 l c) (L : Int) (n : Nat) (hl : a.eval l = .int .i64 L) (hc : a.eval c = .int .i64 L) (hL : L = (n : Int)) (hn : n ≤ 1000000)
  (hK : ∀ w1, Cells w1 w.heap.size 68 (n * 2) (fnn (fun _ => false) (fun _ => .slice none 0 0) 0) → Below w.heap.size w w1 → wpList Tryz.prog ops Q rest (a.put o.dst (.slice (some ⟨w.heap.size, 0, none⟩) n n)) w1) :
  wpList Tryz.prog ops Q (o :: rest) a w := by
 refine wpList_plain hg fun K hK' => ?_
 subst hL
 obtain ⟨w', hrun, hc', hb⟩ := run_mkN n hn w
 unfold Oper.wp
 simp [execOp, hop, hl, hc, hrun, Result.andThen]
 exact hK' _ _ (hK _ hc' hb)
theorem Cells.fill {w : World} {g n : Nat} {m : Nat → Bool} {v : Nat → Value} {k : Nat} (h : Cells w g 68 (n * 2) (fnn m v k)) (x : Bool) (y : Value) :
  Cells ((w.setCell ⟨g, k * 2, none⟩ (.bool x)).setCell ⟨g, k * 2 + 1, none⟩ y) g 68 (n * 2) (fnn (fun j => if j = k then x else m j) (fun j => if j = k then y else v j) (k + 1)) := by
 refine ((h.set (k * 2) (.bool x)).set (k * 2 + 1) y).congr fun i _ => ?_
 unfold fnn
 by_cases h1 : i = k * 2 + 1
 ·rw [if_pos h1, h1, show (k * 2 + 1) / 2 = k by omega, if_pos (by omega), if_neg (by omega)]
  simp
 ·rw [if_neg h1]
  by_cases h0 : i = k * 2
  ·rw [if_pos h0, h0, show k * 2 / 2 = k by omega, if_pos (by omega), if_pos (by omega)]
   simp
  ·rw [if_neg h0]
   by_cases hk : i / 2 < k
   ·have e : ¬ i / 2 = k := by omega
    rw [if_pos hk, if_pos (show i / 2 < k + 1 by omega)]
    simp only [e, if_false]
   ·rw [if_neg hk, if_neg (show ¬ i / 2 < k + 1 by omega)]
theorem NV.setC {w : World} {n : Bool} {u : Value} {z : Int} {L g N k : Nat} {m : Nat → Bool} {v : Nat → Value} (h : NV w n u z L) (hc : Cells w g 68 N (fnn m v k)) (hv : ∀ j, j < k → ∃ a l c, v j = .slice a l c) (x y : Value) (i : Nat) : NV ((w.setCell ⟨g, i, none⟩ x).setCell ⟨g, i + 1, none⟩ y) n u z L := by
 obtain ⟨q, r, h1, h2⟩ := h
 have rx : RdX w u (M.digs B64 q) g := by
  obtain ⟨a, cap, rfl, hcap, r⟩ := r
  refine ⟨a, cap, rfl, hcap, fun j hj => ?_⟩
  obtain ⟨b, off, rfl, hcell⟩ := r j hj
  refine ⟨b, off, rfl, ?_, hcell⟩
  intro hbg
  subst hbg
  have hl : off + j < N := by
   obtain ⟨cs, hh, hs, -⟩ := hc
   rcases Nat.lt_or_ge (off + j) N with hq | hq
   ·exact hq
   ·have e : cs[off + j]? = some (.int .u64 (lm (M.digs B64 q) j : Nat)) := by simpa [World.cell?, hh] using hcell
    rw [Array.getElem?_eq_none (by omega)] at e
    cases e
  rw [hc.cell hl] at hcell
  unfold fnn at hcell
  split at hcell
  ·rename_i hk
   split at hcell
   ·cases hcell
   ·obtain ⟨a', l', c', e⟩ := hv _ hk
    rw [e] at hcell
    cases hcell
  ·split at hcell <;> cases hcell
 exact ⟨q, ((rx.setX i x).setX (i + 1) y).rd, h1, h2⟩
theorem post_tn {fn : Func} {p u : Tmp} {R : Ending → World → Prop} {a : Act} {w : World} {g : Nat} {x y v : Value} (h : fn.results = #[.tmp u, .cell p 68]) (hp : a.tmps.getD p undef = .pointer (some ⟨g, 0, none⟩)) (hu : a.tmps.getD u undef = v) (hd : a.defers = [])
  (hc : Cel w g [x, y] 68) (hR : R (.returned (.tuple #[v, .agg #[x, y]])) w) : bodyPost Tryz.prog fn R .ret a w := by
 refine ⟨hd, .tuple #[v, .agg #[x, y]], ?_, hR⟩
 have hp' : a.tmps[p]?.getD undef = .pointer (some ⟨g, 0, none⟩) := by simpa using hp
 have hu' : a.tmps[u]?.getD undef = v := by simpa using hu
 simp only [results, h]
 simp [Result.andThen, hp', hu', asAddr, load_n hc]
def NVs (w : World) (m : Nat → Bool) (v : Nat → Value) (Z : Nat → Int) (L k : Nat) : Prop := ∀ q, q < k → NV w (m q) (v q) (Z q) L ∧ ∃ a l c, v q = .slice a l c
theorem NVs.below {w w' : World} {m : Nat → Bool} {v : Nat → Value} {Z : Nat → Int} {L k : Nat} (h : NVs w m v Z L k) (hb : Below w.heap.size w w') : NVs w' m v Z L k := fun q hq => ⟨(h q hq).1.below hb, (h q hq).2⟩
theorem NVs.fill {w : World} {g N : Nat} {m : Nat → Bool} {v : Nat → Value} {Z : Nat → Int} {L k : Nat} (h : NVs w m v Z L k) (hc : Cells w g 68 N (fnn m v k)) {x : Bool} {a : Option Addr} {l c : Nat} (hn : NV w x (.slice a l c) (Z k) L) (i : Nat) :
  NVs ((w.setCell ⟨g, i, none⟩ (.bool x)).setCell ⟨g, i + 1, none⟩ (.slice a l c)) (fun j => if j = k then x else m j) (fun j => if j = k then .slice a l c else v j) Z L (k + 1) := fun q hq => by
 have hv : ∀ j, j < k → ∃ a l c, v j = .slice a l c := fun j hj => (h j hj).2
 by_cases e : q = k
 ·subst e
  simp only [if_true]
  exact ⟨hn.setC hc hv _ _ i, a, l, c, rfl⟩
 ·simp only [e, if_false]
  exact ⟨(h q (by omega)).1.setC hc hv _ _ i, (h q (by omega)).2⟩
theorem pCheck_walk (n0 n1 n2 n3 n4 n5 : Bool) (s0 d0 s1 d1 s2 d2 s3 d3 s4 d4 s5 d5 : ByteArray) (E : Int) (w : World)
  (HC : Hid (∀ (w1 : World) (B : Nat), Below w.heap.size w w1 → Cel w1 B [.bool n0, .string s0, .string d0, .bool n1, .string s1, .string d1, .bool n2, .string s2, .string d2, .bool n3, .string s3, .string d3, .bool n4, .string s4, .string d4, .bool n5, .string s5, .string d5] 28 → Calls Tryz.prog 38 #[.slice (some ⟨B, 0, none⟩) 6 6] w1 (Re w1 (.int .i64 E)))) :
  Calls Tryz.prog 12 #[.agg #[.bool n0, .string s0, .string d0, .bool n1, .string s1, .string d1, .bool n2, .string s2, .string d2, .bool n3, .string s3, .string d3, .bool n4, .string s4, .string d4, .bool n5, .string s5, .string d5]] w (Re w (.int .i64 E)) := by
 go_enter Tryz.func12, Tryz.ntmps12
 go_wp2_with fail
 obtain ⟨w0, hw, kf, bb⟩ := mk1 w [.bool n0, .string s0, .string d0, .bool n1, .string s1, .string d1, .bool n2, .string s2, .string d2, .bool n3, .string s3, .string d3, .bool n4, .string s4, .string d4, .bool n5, .string s5, .string d5] 28
 rw [← hw]
 clear hw
 go_fit (HC.out _ _ bb kf)
 rintro e w1 ⟨rfl, b1⟩
 replace bb := Below.after bb b1
 clear b1 kf
 go_wp2
 go_ret
 exact ⟨rfl, bb⟩
theorem load_c3 {w : World} {g : Nat} {x y z : Value} (h : Cel w g [x, y, z] 70) : (loadVar 70 ⟨g, 0, none⟩).run Tryz.prog w = .ok (.agg #[x, y, z]) w :=
 run_loadVar_row w g 70 70 #[x, y, z] (0, 0) _ h Tryz.underlying70 rfl (by kernel_rfl)
theorem post_c3 {fn : Func} {p : Tmp} {R : Ending → World → Prop} {a : Act} {w : World} {g : Nat} {x y z : Value} (h : fn.results = #[.cell p 70]) (hp : a.tmps.getD p undef = .pointer (some ⟨g, 0, none⟩)) (hd : a.defers = [])
  (hc : Cel w g [x, y, z] 70) (hR : R (.returned (.agg #[x, y, z])) w) : bodyPost Tryz.prog fn R .ret a w := by
 refine ⟨hd, .agg #[x, y, z], ?_, hR⟩
 have hp' : a.tmps[p]?.getD undef = .pointer (some ⟨g, 0, none⟩) := by simpa using hp
 simp only [results, h]
 simp [hp', asAddr, load_c3 hc]
theorem no_c3 : ∀ (j : Nat) (k : IntKind) (i : Int), [Value.slice none 0 0, .bool false, .slice none 0 0][j]? ≠ some (.int k i) := by
 intro j k i
 match j with
 | 0 => simp
 | 1 => simp
 | 2 => simp
 | j + 3 => simp
theorem NV.setK {w : World} {n : Bool} {v : Value} {z : Int} {L g : Nat} {t : TypeId} (h : NV w n v z L) (hc : Cel w g [.slice none 0 0, .bool false, .slice none 0 0] t) (x y u : Value) : NV (((w.setCell ⟨g, 0, none⟩ x).setCell ⟨g, 1, none⟩ y).setCell ⟨g, 2, none⟩ u) n v z L := by
 obtain ⟨k, r, h1, h2⟩ := h
 exact ⟨k, ((((rdx_of_cel r hc no_c3).setX 0 x).setX 1 y).setX 2 u).rd, h1, h2⟩
theorem cleared_walk (n0 n1 n2 n3 n4 n5 : Bool) (s0 d0 s1 d1 s2 d2 s3 d3 s4 d4 s5 d5 : ByteArray) (Z : Nat → Int) (Q : Int) (L M' : Nat) (w : World)
  (HS : Hid (∀ (w1 : World) (B : Nat), Below w.heap.size w w1 → Cel w1 B [.bool n0, .string s0, .string d0, .bool n1, .string s1, .string d1, .bool n2, .string s2, .string d2, .bool n3, .string s3, .string d3, .bool n4, .string s4, .string d4, .bool n5, .string s5, .string d5] 28 → Calls Tryz.prog 34 #[.slice (some ⟨B, 0, none⟩) 6 6] w1 fun e w' => ∃ g m v a l c, w1.heap.size ≤ g ∧ e = .returned (.tuple #[.slice (some ⟨g, 0, none⟩) 6 6, .agg #[.bool false, .slice a l c]]) ∧ Cells w' g 68 (6 * 2) (fnn m v 6) ∧ NVs w' m v Z L 6 ∧ NV w' false (.slice a l c) Q M' ∧ Below w1.heap.size w1 w')) :
  Calls Tryz.prog 33 #[.agg #[.bool n0, .string s0, .string d0, .bool n1, .string s1, .string d1, .bool n2, .string s2, .string d2, .bool n3, .string s3, .string d3, .bool n4, .string s4, .string d4, .bool n5, .string s5, .string d5]] w fun e w' => ∃ g m v a l c, e = .returned (.agg #[.slice (some ⟨g, 0, none⟩) 6 6, .bool false, .slice a l c]) ∧ Cells w' g 68 (6 * 2) (fnn m v 6) ∧ NVs w' m v Z L 6 ∧ NV w' false (.slice a l c) Q M' ∧ Below w.heap.size w w' := by
 go_enter Tryz.func33, Tryz.ntmps33
 go_wp2_with fail
 obtain ⟨w0, hw, kf, kr, bb⟩ := mk2 w [.bool n0, .string s0, .string d0, .bool n1, .string s1, .string d1, .bool n2, .string s2, .string d2, .bool n3, .string s3, .string d3, .bool n4, .string s4, .string d4, .bool n5, .string s5, .string d5] [.slice none 0 0, .bool false, .slice none 0 0] 28 70
 rw [← hw]
 clear hw
 have t0 := kr.lt
 go_fit (HS.out _ _ bb kf)
 rintro e w1 ⟨g, m, v, a, l, c, gl, rfl, kg, hv, hq, b1⟩
 replace kr := kr.below b1
 replace bb := Below.after bb b1
 clear b1 kf
 have ob := bel_al w1 (.cells #[.bool false, .slice a l c] 68)
 replace kr := kr.below ob
 replace bb := Below.after bb ob
 replace kg := kg.below ob
 replace hv := hv.below ob
 replace hq := hq.below ob
 have tr := kr.lt
 have tg := kg.lt
 obtain ⟨e0, e1, e2⟩ := xk3 kr
 have f0 := Cel.frozen kr 0
 have f1 := Cel.frozen kr 1
 have f2 := Cel.frozen kr 2
 have ne : g ≠ w.heap.size + 1 := by omega
 clear ob
 go_wp2
 exact post_c3 (p := 2) (by kernel_rfl) rfl rfl (((kr.set 0 _).set 1 _).set 2 _) ⟨g, m, v, a, l, c, rfl, ((kg.other ne 0 _).other ne 1 _).other ne 2 _, fun q hq' => ⟨(hv q hq').1.setK kr _ _ _, (hv q hq').2⟩, hq.setK kr _ _ _, bset (bset (bset bb (by omega) 0 _) (by omega) 1 _) (by omega) 2 _⟩
theorem cel4_0 {w : World} {g : Nat} {x y z u : Value} {t : TypeId} (h : Cel w g [x, y, z, u] t) : w.cell? ⟨g, 0, none⟩ = some x := h.cell 0
theorem cel4_1 {w : World} {g : Nat} {x y z u : Value} {t : TypeId} (h : Cel w g [x, y, z, u] t) : w.cell? ⟨g, 1, none⟩ = some y := h.cell 1
theorem cel4_2 {w : World} {g : Nat} {x y z u : Value} {t : TypeId} (h : Cel w g [x, y, z, u] t) : w.cell? ⟨g, 2, none⟩ = some z := h.cell 2
theorem cel4_3 {w : World} {g : Nat} {x y z u : Value} {t : TypeId} (h : Cel w g [x, y, z, u] t) : w.cell? ⟨g, 3, none⟩ = some u := h.cell 3
theorem toolong_no (B : Nat) (s0 s1 s2 s3 : ByteArray) (w : World) (h : Cel w B [.string s0, .string s1, .string s2, .string s3] 22) (z0 : s0.size ≤ 100) (z1 : s1.size ≤ 100) (z2 : s2.size ≤ 100) (z3 : s3.size ≤ 100) :
  Calls Tryz.prog 64 #[.slice (some ⟨B, 0, none⟩) 4 4] w (Re w (.bool false)) := by
 have i0 : ¬ (100 : Int) < s0.size := by omega
 have i1 : ¬ (100 : Int) < s1.size := by omega
 have i2 : ¬ (100 : Int) < s2.size := by omega
 have i3 : ¬ (100 : Int) < s3.size := by omega
 go_enter Tryz.func64, Tryz.ntmps64
 go_wp2
 go_loopw [7] (fun i wr => Below w.heap.size w wr ∧ (i = .int .i64 0 ∨ i = .int .i64 1 ∨ i = .int .i64 2 ∨ i = .int .i64 3 ∨ i = .int .i64 4)) (fun i _ => 4 - (intOf i).toNat)
 case atStart => exact ⟨Below.refl _ _, Or.inl rfl⟩
 case round =>
  obtain ⟨bb, hi⟩ := hrel
  have k := h.below bb
  obtain ⟨c0, c1, c2, c3⟩ := xk4 k
  clear k
  rcases hi with rfl | rfl | rfl | rfl | rfl
  ·go_wp2
   exact ⟨⟨bb, Or.inr (Or.inl (by go_num))⟩, by simp [intOf]⟩
  ·go_wp2
   exact ⟨⟨bb, Or.inr (Or.inr (Or.inl (by go_num)))⟩, by simp [intOf]⟩
  ·go_wp2
   exact ⟨⟨bb, Or.inr (Or.inr (Or.inr (Or.inl (by go_num))))⟩, by simp [intOf]⟩
  ·go_wp2
   exact ⟨⟨bb, Or.inr (Or.inr (Or.inr (Or.inr (by go_num))))⟩, by simp [intOf]⟩
  ·go_wp2
   go_ret
   exact ⟨rfl, bb⟩
def RdPt (w : World) (a : Option Addr) (n : Nat) (N : Nat → Bool) (S D : Nat → ByteArray) (N' : Nat → Bool) (S' D' : Nat → ByteArray) : Prop :=
 ∀ j, j < n → ∃ b off, a = some ⟨b, off, none⟩ ∧ w.cell? ⟨b, off + j * 6, none⟩ = some (.bool (N j)) ∧ w.cell? ⟨b, off + j * 6 + 1, none⟩ = some (.string (S j)) ∧ w.cell? ⟨b, off + j * 6 + 2, none⟩ = some (.string (D j)) ∧ w.cell? ⟨b, off + j * 6 + 3, none⟩ = some (.bool (N' j)) ∧ w.cell? ⟨b, off + j * 6 + 4, none⟩ = some (.string (S' j)) ∧ w.cell? ⟨b, off + j * 6 + 5, none⟩ = some (.string (D' j))
theorem RdPt.below {w w' : World} {a : Option Addr} {n : Nat} {N N' : Nat → Bool} {S D S' D' : Nat → ByteArray} (h : RdPt w a n N S D N' S' D') (hb : Below w.heap.size w w') : RdPt w' a n N S D N' S' D' := by
 intro j hj
 obtain ⟨b, off, rfl, h0, h1, h2, h3, h4, h5⟩ := h j hj
 exact ⟨b, off, rfl, cell_below h0 hb, cell_below h1 hb, cell_below h2 hb, cell_below h3 hb, cell_below h4 hb, cell_below h5 hb⟩
theorem scheck_walk (a : Option Addr) (n cap : Nat) (N N' : Nat → Bool) (S D S' D' : Nat → ByteArray) (c : Nat → Nat) (w : World) (hn : n ≤ 1000000) (h : RdPt w a n N S D N' S' D')
  (HZ : Hid (∀ k, k < n → (S k).size ≤ 100 ∧ (D k).size ≤ 100 ∧ (S' k).size ≤ 100 ∧ (D' k).size ≤ 100))
  (HC : Hid (∀ (k : Nat) (w1 : World), k < n → Below w.heap.size w w1 → Calls Tryz.prog 141 #[.agg #[.bool (N k), .string (S k), .string (D k), .bool (N' k), .string (S' k), .string (D' k)]] w1 (Re w1 (.int .i64 (c k : Nat))))) :
  Calls Tryz.prog 106 #[.slice a n cap] w (Re w (.int .i64 (firstE c n : Nat))) := by
 replace h := shut h
 go_enter Tryz.func106, Tryz.ntmps106
 go_wp2
 go_loopw [8] (fun i wr => Below w.heap.size w wr ∧ ∃ k : Nat, k ≤ n ∧ i = .int .i64 k ∧ firstE c k = 0) (fun i _ => n - (intOf i).toNat)
 case atStart => exact ⟨Below.refl _ _, 0, by omega, rfl, rfl⟩
 case round =>
  obtain ⟨bb, k, hk, rfl, hz⟩ := hrel
  by_cases hkn : k < n
  ·obtain ⟨b, off, rfl, h0, h1, h2, h3, h4, h5⟩ := h.out.below bb k hkn
   go_wp2_with fail
   obtain ⟨w1, hw, kp, kq, b1⟩ := mk2 wr [.bool (N k), .string (S k), .string (D k), .bool (N' k), .string (S' k), .string (D' k)] [.string (S k), .string (D k), .string (S' k), .string (D' k)] 30 22
   rw [← hw]
   clear hw
   replace bb := Below.after bb b1
   clear b1 h0 h1 h2 h3 h4 h5
   go_fit (toolong_no _ _ _ _ _ _ kq (HZ.out k hkn).1 (HZ.out k hkn).2.1 (HZ.out k hkn).2.2.1 (HZ.out k hkn).2.2.2)
   rintro e w2 ⟨rfl, b1⟩
   replace kp := kp.below b1
   replace bb := Below.after bb b1
   clear b1 kq
   obtain ⟨c0, c1, c2, c3, c4, c5⟩ := xk6 kp
   go_wp2_with fail
   go_fit (HC.out k _ hkn bb)
   rintro e w3 ⟨rfl, b1⟩
   replace bb := Below.after bb b1
   clear b1 c0 c1 c2 c3 c4 c5 kp
   by_cases hc : c k = 0
   ·have hs : firstE c (k + 1) = 0 := by unfold firstE; rw [if_pos hz, hc]
    replace hs := shut hs
    replace hz := shut hz
    rw [hc]
    go_wp2
    exact ⟨⟨bb, k + 1, by omega, by go_num, hs.out⟩, by simp [intOf]; omega⟩
   ·have hs := firstE_stop hz hc n hkn
    replace hs := shut hs
    replace hz := shut hz
    go_wp2
    go_ret
    exact ⟨by rw [hs.out]; rfl, bb⟩
  ·obtain rfl : k = n := by omega
   replace hz := shut hz
   go_wp2
   go_ret
   exact ⟨by rw [hz.out]; rfl, bb⟩
theorem shared_walk (a : Option Addr) (n cap : Nat) (N : Nat → Bool) (S D U G F E C E' : Nat → ByteArray) (X Y : Nat → Int) (Q : Int) (L : Nat) (w : World) (hn : n ≤ 1000) (hL : L ≤ 1000) (h : RdQ w a n N S D)
  (H0 : Hid (∀ w1, Calls Tryz.prog 54 #[.int .i64 1] w1 (Re w1 (.agg #[.bool false, .string (U 0)]))))
  (H1 : Hid (∀ (k : Nat) (w1 : World), k < n → Below w.heap.size w w1 → Calls Tryz.prog 55 #[.agg #[.bool false, .string (U k)], .agg #[.bool false, .string (D k)]] w1 (Re w1 (.tuple #[.agg #[.bool false, .string (G k)], .int .i64 0]))))
  (H2 : Hid (∀ (k : Nat) (w1 : World), k < n → Below w.heap.size w w1 → Calls Tryz.prog 56 #[.agg #[.bool false, .string (D k)], .agg #[.bool false, .string (G k)]] w1 (Re w1 (.tuple #[.agg #[.bool false, .string (F k)], .agg #[.bool false, .string (E k)], .int .i64 0]))))
  (H3 : Hid (∀ (k : Nat) (w1 : World), k < n → Below w.heap.size w w1 → Calls Tryz.prog 57 #[.agg #[.bool false, .string (U k)], .agg #[.bool false, .string (F k)]] w1 (Re w1 (.tuple #[.agg #[.bool false, .string (U (k + 1))], .int .i64 0]))))
  (H4 : Hid (∀ (k : Nat) (w1 : World), k < n → Below w.heap.size w w1 → Calls Tryz.prog 56 #[.agg #[.bool false, .string (U n)], .agg #[.bool false, .string (D k)]] w1 (Re w1 (.tuple #[.agg #[.bool false, .string (C k)], .agg #[.bool false, .string (E' k)], .int .i64 0]))))
  (H5 : Hid (∀ (k : Nat) (w1 : World), k < n → Below w.heap.size w w1 → Calls Tryz.prog 58 #[.agg #[.bool (N k), .string (S k)]] w1 fun e w' => ∃ v, e = .returned (.agg #[.bool (N k), v]) ∧ NV w' (N k) v (X k) L ∧ Below w1.heap.size w1 w'))
  (H6 : Hid (∀ (k : Nat) (w1 : World), k < n → Below w.heap.size w w1 → Calls Tryz.prog 58 #[.agg #[.bool false, .string (C k)]] w1 fun e w' => ∃ v, e = .returned (.agg #[.bool false, v]) ∧ NV w' false v (Y k) L ∧ Below w1.heap.size w1 w'))
  (H7 : Hid (∀ (w1 : World), Below w.heap.size w w1 → Calls Tryz.prog 58 #[.agg #[.bool false, .string (U n)]] w1 fun e w' => ∃ v, e = .returned (.agg #[.bool false, v]) ∧ NV w' false v Q L ∧ Below w1.heap.size w1 w')) :
  Calls Tryz.prog 34 #[.slice a n cap] w fun e w' => ∃ g m v a l c, w.heap.size ≤ g ∧ e = .returned (.tuple #[.slice (some ⟨g, 0, none⟩) n n, .agg #[.bool false, .slice a l c]]) ∧ Cells w' g 68 (n * 2) (fnn m v n) ∧ NVs w' m v (fun q => X q * Y q) (L + L) n ∧ NV w' false (.slice a l c) Q L ∧ Below w.heap.size w w' := by
 replace h := shut h
 go_enter Tryz.func34, Tryz.ntmps34
 go_wp2_with fail
 obtain ⟨w0, hw, kr, bb⟩ := mk1 w [.bool false, .slice none 0 0] 68
 rw [← hw]
 clear hw
 go_fit (H0.out _)
 rintro e w1 ⟨rfl, b1⟩
 have sz := b1.size
 replace kr := kr.below b1
 replace bb := Below.after bb b1
 clear b1
 go_wp2_with fail
 obtain ⟨w2, hw, kU, b1⟩ := mk1 w1 [.bool false, .string (U 0)] 24
 rw [← hw]
 clear hw
 have tr := kr.lt
 replace kr := kr.below b1
 replace bb := Below.after bb b1
 clear b1
 go_loopw [22] (fun i wr => Below w.heap.size w wr ∧ ∃ k : Nat, k ≤ n ∧ i = .int .i64 k ∧ Cel wr w1.heap.size [.bool false, .string (U k)] 24 ∧ Cel wr w.heap.size [.bool false, .slice none 0 0] 68) (fun i _ => n - (intOf i).toNat)
 case atStart => exact ⟨bb, 0, by omega, rfl, kU, kr⟩
 case round =>
  clear bb kU kr
  obtain ⟨bb, k, hk, rfl, kU, kr⟩ := hrel
  by_cases hkn : k < n
  ·obtain ⟨b, off, rfl, h0, h1, h2⟩ := h.out.below bb k hkn
   obtain ⟨u0, u1⟩ := xk2 ((kU.alloc (.cells #[.bool (N k), .string (S k), .string (D k)] 26)).alloc (.cells #[.bool false, .string (D k)] 24))
   go_wp2_with fail
   obtain ⟨w3, hw, k6, k7, b1⟩ := mk2 wr [.bool (N k), .string (S k), .string (D k)] [.bool false, .string (D k)] 26 24
   rw [← hw]
   clear hw u0 u1 h0 h1 h2
   replace kU := kU.below b1
   replace kr := kr.below b1
   replace bb := Below.after bb b1
   clear b1
   go_fit (H1.out k _ hkn bb)
   rintro e w4 ⟨rfl, b1⟩
   replace kU := kU.below b1
   replace kr := kr.below b1
   replace k7 := k7.below b1
   replace bb := Below.after bb b1
   clear b1
   obtain ⟨x0, x1⟩ := xk2 (k7.alloc (.cells #[.bool false, .string (G k)] 24))
   obtain ⟨y0, y1⟩ := xk2 (Cel.new w4 [.bool false, .string (G k)] 24)
   go_wp2_with fail
   obtain ⟨w5, hw, k8, b1⟩ := mk1 w4 [.bool false, .string (G k)] 24
   rw [← hw]
   clear hw x0 x1 y0 y1 k6
   replace kU := kU.below b1
   replace kr := kr.below b1
   replace bb := Below.after bb b1
   clear b1
   go_fit (H2.out k _ hkn bb)
   rintro e w6 ⟨rfl, b1⟩
   replace kU := kU.below b1
   replace kr := kr.below b1
   replace bb := Below.after bb b1
   clear b1
   obtain ⟨u0, u1⟩ := xk2 ((kU.alloc (.cells #[.bool false, .string (F k)] 24)).alloc (.cells #[.bool false, .string (E k)] 24))
   obtain ⟨y0, y1⟩ := xk2 ((Cel.new w6 [.bool false, .string (F k)] 24).alloc (.cells #[.bool false, .string (E k)] 24))
   go_wp2_with fail
   obtain ⟨w7, hw, k10, k11, b1⟩ := mk2 w6 [.bool false, .string (F k)] [.bool false, .string (E k)] 24 24
   rw [← hw]
   clear hw u0 u1 y0 y1 k7 k8
   replace kU := kU.below b1
   replace kr := kr.below b1
   replace bb := Below.after bb b1
   clear b1
   go_fit (H3.out k _ hkn bb)
   rintro e w8 ⟨rfl, b1⟩
   replace kU := kU.below b1
   replace kr := kr.below b1
   replace bb := Below.after bb b1
   clear b1
   clear k10 k11
   obtain ⟨u0, u1⟩ := xk2 kU
   have f0 := Cel.frozen kU 0
   have f1 := Cel.frozen kU 1
   go_wp2
   exact ⟨⟨bset (bset bb (by omega) 0 _) (by omega) 1 _, k + 1, by omega, by go_num, (kU.set 0 _).set 1 _, (kr.other (by omega) 0 _).other (by omega) 1 _⟩, by simp [intOf]; omega⟩
  ·obtain rfl : k = n := by omega
   clear hkn hk
   have tU := kU.lt
   have tr2 := kr.lt
   have sb := bb.size
   go_wp2_with (at_make; refine wpList_mkN rfl _ _ rfl _ k rfl rfl rfl (by omega) ?_; intro w3 kg b1)
   replace kU := kU.below b1
   replace kr := kr.below b1
   replace bb := Below.after bb b1
   clear b1
   generalize wr.heap.size = gO at *
   go_loopw [54] (fun i wx => Below w.heap.size w wx ∧ ∃ (j : Nat) (m : Nat → Bool) (v : Nat → Value), j ≤ k ∧ i = .int .i64 j ∧ Cells wx gO 68 (k * 2) (fnn m v j) ∧ NVs wx m v (fun q => X q * Y q) (L + L) j ∧ Cel wx w1.heap.size [.bool false, .string (U k)] 24 ∧ Cel wx w.heap.size [.bool false, .slice none 0 0] 68) (fun i _ => k - (intOf i).toNat)
   case atStart => exact ⟨bb, 0, _, _, by omega, rfl, kg, fun q hq => absurd hq (by omega), kU, kr⟩
   case round =>
    clear bb kU kr kg
    obtain ⟨bb, j, m, v, hj, rfl, kg, hv, kU, kr⟩ := hrel
    have tg := kg.lt
    by_cases hjn : j < k
    ·obtain ⟨b, off, rfl, h0, h1, h2⟩ := h.out.below bb j hjn
     obtain ⟨u0, u1⟩ := xk2 (kU.alloc (.cells #[.bool (N j), .string (S j), .string (D j)] 26))
     go_wp2_with fail
     obtain ⟨w4, hw, k15, b1⟩ := mk1 wr [.bool (N j), .string (S j), .string (D j)] 26
     rw [← hw]
     clear hw u0 u1 h0 h1 h2
     replace kU := kU.below b1
     replace kr := kr.below b1
     replace kg := kg.below b1
     replace hv := hv.below b1
     replace bb := Below.after bb b1
     clear b1
     go_fit (H4.out j _ hjn bb)
     rintro e w5 ⟨rfl, b1⟩
     replace kU := kU.below b1
     replace kr := kr.below b1
     replace kg := kg.below b1
     replace k15 := k15.below b1
     replace hv := hv.below b1
     replace bb := Below.after bb b1
     clear b1
     have tg5 := kg.lt
     go_wp2_with fail
     obtain ⟨w6, hw, k16, k17, b1⟩ := mk2 w5 [.bool false, .string (C j)] [.bool false, .string (E' j)] 24 24
     rw [← hw]
     clear hw
     replace kU := kU.below b1
     replace kr := kr.below b1
     replace kg := kg.below b1
     replace k15 := k15.below b1
     replace hv := hv.below b1
     replace bb := Below.after bb b1
     clear b1
     have t15 := k15.lt
     have t16 := k16.lt
     have ne15 : wr.heap.size ≠ gO := by omega
     have ne16 : w5.heap.size ≠ gO := by omega
     have bd := bdrew w6
     replace kU := kU.below bd
     replace kr := kr.below bd
     replace kg := kg.below bd
     replace k15 := k15.below bd
     replace k16 := k16.below bd
     replace hv := hv.below bd
     replace bb := Below.after bb bd
     clear bd
     refine wp_region_held_drew (S := fun w' => xc3 w' wr.heap.size (.bool (N j)) (.string (S j)) (.string (D j)) ∧ xc2 w' w5.heap.size (.bool false) (.string (C j))) (by kernel_rfl) ⟨xk3 k15, xk2 k16⟩ (fun hS => ?_)
     generalize w6.drew = wd at *
     refine WA.start (n := 10) (by kernel_rfl) ?_
     refine WA.tp 0 rfl ?_
     refine WA.tp 1 rfl ?_
     refine WA.tp 2 rfl ?_
     refine WA.tp 3 rfl ?_
     refine WA.tp 5 rfl ?_
     refine WA.cal 4 rfl (fun K hK => ?_)
     simp only [List.getElem_toArray, List.getElem_cons_succ, List.getElem_cons_zero]
     go_simp
     go_fit (H5.out j _ hjn bb)
     rintro e wn ⟨v1, rfl, n1, b1⟩
     obtain ⟨a1, l1, c1, rfl⟩ := n1.slice
     replace kU := kU.below b1
     replace kr := kr.below b1
     replace kg := kg.below b1
     replace k15 := k15.below b1
     replace k16 := k16.below b1
     replace hv := hv.below b1
     replace bb := Below.after bb b1
     clear b1
     try go_wp2_with fail
     clear hS
     refine hK.out _ _ ⟨xk3 k15, xk2 k16⟩ (fun hS => ?_)
     clear hK K
     refine WA.cal 6 rfl (fun K hK => ?_)
     simp only [List.getElem_toArray, List.getElem_cons_succ, List.getElem_cons_zero]
     go_simp
     go_fit (H6.out j _ hjn bb)
     rintro e wm ⟨v2, rfl, n2, b1⟩
     obtain ⟨a2, l2, c2, rfl⟩ := n2.slice
     replace kU := kU.below b1
     replace kr := kr.below b1
     replace kg := kg.below b1
     replace k15 := k15.below b1
     replace k16 := k16.below b1
     replace n1 := n1.below b1
     replace hv := hv.below b1
     replace bb := Below.after bb b1
     clear b1
     try go_wp2_with fail
     clear hS
     refine hK.out _ _ ⟨xk3 k15, xk2 k16⟩ (fun hS => ?_)
     clear hK K
     refine WA.cal 7 rfl (fun K hK => ?_)
     simp only [List.getElem_toArray, List.getElem_cons_succ, List.getElem_cons_zero]
     go_simp
     go_fit (ntimes_any _ _ _ _ (X j) (Y j) L L _ hL hL n1 n2)
     rintro e wp ⟨m3, v3, rfl, n3, -, b1⟩
     obtain ⟨a3, l3, c3, rfl⟩ := n3.slice
     replace kU := kU.below b1
     replace kr := kr.below b1
     replace kg := kg.below b1
     replace k15 := k15.below b1
     replace k16 := k16.below b1
     replace hv := hv.below b1
     replace bb := Below.after bb b1
     clear b1
     clear n1 n2
     try go_wp2_with fail
     clear hS
     refine hK.out _ _ ⟨xk3 k15, xk2 k16⟩ (fun hS => ?_)
     clear hK K
     have i1 : (j : Int) < (k : Int) := by omega
     have i2 : ¬ (j : Int) < 0 := by omega
     refine WA.tp 8 rfl ?_
     have q0 := kg.cell (i := j * 2) (by omega)
     have q1 := kg.cell (i := j * 2 + 1) (by omega)
     have f0 := kg.frozen (j * 2)
     have f1 := kg.frozen (j * 2 + 1)
     refine WA.cal 9 rfl (fun K hK => ?_)
     simp only [List.getElem_toArray, List.getElem_cons_succ, List.getElem_cons_zero]
     go_simp
     try go_wp2_with fail
     clear q0 q1 f0 f1
     refine hK.out _ _ ⟨xk3 ((k15.other ne15 _ _).other ne15 _ _), xk2 ((k16.other ne16 _ _).other ne16 _ _)⟩ (fun _ => ?_)
     clear hK K hS
     refine WA.done (by kernel_rfl) ?_
     go_wp2
     exact ⟨⟨bset (bset bb (by omega) _ _) (by omega) _ _, j + 1, _, _, by omega, by go_num, kg.fill _ _, hv.fill kg n3 _, (kU.other (by omega) _ _).other (by omega) _ _, (kr.other (by omega) _ _).other (by omega) _ _⟩, by simp [intOf]; omega⟩
    ·obtain rfl : j = k := by omega
     obtain ⟨u0, u1⟩ := xk2 kU
     go_wp2_with fail
     clear u0 u1
     go_fit (H7.out _ bb)
     rintro e w9 ⟨v9, rfl, n9, b1⟩
     obtain ⟨a9, l9, c9, rfl⟩ := n9.slice
     replace kr := kr.below b1
     replace kg := kg.below b1
     replace hv := hv.below b1
     replace bb := Below.after bb b1
     clear b1
     obtain ⟨e0, e1⟩ := xk2 kr
     have f0 := Cel.frozen kr 0
     have f1 := Cel.frozen kr 1
     go_wp2
     exact post_tn (p := 3) (u := 2) (by kernel_rfl) rfl rfl rfl ((kr.set 0 _).set 1 _) ⟨gO, m, v, a9, l9, c9, sb, rfl, (kg.other (by omega) 0 _).other (by omega) 1 _, fun q hq => ⟨(hv q hq).1.set2 kr _ _, (hv q hq).2⟩, n9.set2 kr _ _, bset (bset bb (by omega) 0 _) (by omega) 1 _⟩
theorem post_nn {fn : Func} {p q : Tmp} {R : Ending → World → Prop} {a : Act} {w : World} {g g' : Nat} {x y x' y' : Value} (h : fn.results = #[.cell p 68, .cell q 68]) (hp : a.tmps.getD p undef = .pointer (some ⟨g, 0, none⟩)) (hq : a.tmps.getD q undef = .pointer (some ⟨g', 0, none⟩)) (hd : a.defers = [])
  (hc : Cel w g [x, y] 68) (hc' : Cel w g' [x', y'] 68) (hR : R (.returned (.tuple #[.agg #[x, y], .agg #[x', y']])) w) : bodyPost Tryz.prog fn R .ret a w := by
 refine ⟨hd, .tuple #[.agg #[x, y], .agg #[x', y']], ?_, hR⟩
 have hp' : a.tmps[p]?.getD undef = .pointer (some ⟨g, 0, none⟩) := by simpa using hp
 have hq' : a.tmps[q]?.getD undef = .pointer (some ⟨g', 0, none⟩) := by simpa using hq
 simp only [results, h]
 simp [Sem.run_bind, Result.andThen, hp', hq', asAddr, load_n hc, load_n hc']
theorem less_eq (n0 n1 : Bool) (s0 d0 s1 d1 : ByteArray) (z0 z1 D0 : Int) (L : Nat) (w : World) (hL : L ≤ 200)
  (H1 : Hid (∀ w1, Calls Tryz.prog 58 #[.agg #[.bool n0, .string s0]] w1 fun e w' => ∃ v, e = .returned (.agg #[.bool n0, v]) ∧ NV w' n0 v z0 L ∧ Below w1.heap.size w1 w'))
  (H2 : Hid (∀ w1, Calls Tryz.prog 58 #[.agg #[.bool n1, .string s1]] w1 fun e w' => ∃ v, e = .returned (.agg #[.bool n1, v]) ∧ NV w' n1 v z1 L ∧ Below w1.heap.size w1 w'))
  (H3 : Hid (∀ w1, Calls Tryz.prog 58 #[.agg #[.bool false, .string d0]] w1 fun e w' => ∃ v, e = .returned (.agg #[.bool false, v]) ∧ NV w' false v D0 L ∧ Below w1.heap.size w1 w')) (hd : (d0.toList == d1.toList) = true) :
  Calls Tryz.prog 142 #[.agg #[.bool n0, .string s0, .string d0], .agg #[.bool n1, .string s1, .string d1]] w fun e w' => ∃ m a l c a' l' c', e = .returned (.tuple #[.agg #[.bool m, .slice a l c], .agg #[.bool false, .slice a' l' c']]) ∧ NV w' m (.slice a l c) (z0 - z1) (L + 1) ∧ NV w' false (.slice a' l' c') (D0) (L) ∧ Below w.heap.size w w' := by
 go_enter Tryz.func142, Tryz.ntmps142
 go_wp2_with fail
 obtain ⟨w1, hw, ka, kb, kr, ks, b1⟩ := mk4 w [.bool n0, .string s0, .string d0] [.bool n1, .string s1, .string d1] [.bool false, .slice none 0 0] [.bool false, .slice none 0 0] 26 26 68 68
 rw [← hw]
 clear hw
 have sz := b1.size
 have ta := ka.lt
 have tb := kb.lt
 have tr := kr.lt
 have ts := ks.lt
 have bb := b1
 clear b1
 have mk : Hid (∀ w', SB w1 w' → xc3 w' w.heap.size (.bool n0) (.string s0) (.string d0) ∧ xc3 w' (w.heap.size + 1) (.bool n1) (.string s1) (.string d1)) := fun w' h => ⟨xk3 (ka.below h), xk3 (kb.below h)⟩
 go_cut [6, 7] from 10 to 15 (fun v u wx => ∃ gc gd a1 l1 c1 a2 l2 c2, v = .pointer (some ⟨gc, 0, none⟩) ∧ u = .pointer (some ⟨gd, 0, none⟩) ∧ w1.heap.size ≤ gc ∧ w1.heap.size ≤ gd ∧ Cel wx gc [.bool n0, .slice a1 l1 c1] 68 ∧ Cel wx gd [.bool n1, .slice a2 l2 c2] 68 ∧ NV wx n0 (.slice a1 l1 c1) z0 L ∧ NV wx n1 (.slice a2 l2 c2) z1 L ∧ Below w1.heap.size w1 wx)
 case first =>
  clear H3
  refine wp_region_held_drew (S := SB w1) (by kernel_rfl) (bdrew _) (fun bc => ?_)
  refine WA.start (n := 10) (by kernel_rfl) ?_
  refine WA.tl 0 rfl ?_
  refine WA.tl 1 rfl ?_
  refine WA.tl 3 rfl ?_
  refine WA.tl 4 rfl ?_
  refine WA.gen2 (i := 6) (s := 6) (i' := 7) (s' := 7) undef undef (Pt w1 [.bool false, .slice none 0 0] 68) (Pt w1 [.bool false, .slice none 0 0] 68) (fun b b' x x' hz hy hn => ?_)
  simp only [Act.put, List.setIfInBounds_toArray, List.set_cons_zero, List.set_cons_succ]
  replace hz := P2.mk hz hy hn
  clear hy hn
  revert b b' x x'
  refine WA.two 10 27 2 6 7 rfl rfl rfl bc ?_
  clear bc
  intro b b' x x' w' hz bx bc K hK
  clear bx
  simp only [List.getElem_toArray, List.getElem_cons_succ, List.getElem_cons_zero]
  go_simp
  go_fit (H1.out _)
  rintro e wn ⟨v1, rfl, nv1, bn⟩
  obtain ⟨a1, l1, c1, rfl⟩ := nv1.slice
  replace bc := Below.after bc bn
  try go_wp2_with fail
  refine hK.out _ _ bc (fun _ => ?_)
  replace hz := hz.below bn
  clear hK K bn
  revert b b' x x'
  refine WA.two 10 31 5 6 7 rfl rfl rfl bc ?_
  clear bc
  intro b b' x x' w' hz bx bc K hK
  replace nv1 := nv1.below bx
  clear bx
  simp only [List.getElem_toArray, List.getElem_cons_succ, List.getElem_cons_zero]
  go_simp
  go_fit (H2.out _)
  rintro e wn ⟨v2, rfl, nv2, bn⟩
  obtain ⟨a2, l2, c2, rfl⟩ := nv2.slice
  replace bc := Below.after bc bn
  try go_wp2_with fail
  refine hK.out _ _ bc (fun _ => ?_)
  replace hz := hz.below bn
  replace nv1 := nv1.below bn
  clear hK K bn
  revert b b' x x'
  refine WA.fin2 6 7 rfl rfl bc ?_
  clear bc
  intro x x' w' hz bx bc
  replace nv1 := nv1.below bx
  replace nv2 := nv2.below bx
  obtain ⟨g0, rfl, h0, k0⟩ := hz.p rfl
  obtain ⟨g1, rfl, h1, k1⟩ := hz.p' rfl
  have n01 : ¬ g0 = g1 := fun e => hz.ne rfl rfl (by rw [e])
  clear bx hz
  have e0_0 := cel2_0' k0
  have f0_0 := Cel.frozen k0 0
  have e0_1 := cel2_1' k0
  have f0_1 := Cel.frozen k0 1
  refine WA.call 8 rfl (fun K hK => ?_)
  simp only [List.getElem_toArray, List.getElem_cons_succ, List.getElem_cons_zero]
  go_simp
  try go_wp2_with fail
  clear e0_0 f0_0 e0_1 f0_1
  refine hK.out _ _ (bset (bset bc h0 0 (.bool n0)) h0 1 (.slice a1 l1 c1)) (fun hS => ?_)
  clear hK K
  replace nv1 := nv1.set2 k0 (.bool n0) (.slice a1 l1 c1)
  replace nv2 := nv2.set2 k0 (.bool n0) (.slice a1 l1 c1)
  replace k0 := (Cel.set (Cel.set k0 0 (.bool n0)) 1 (.slice a1 l1 c1))
  replace k1 := (Cel.other (Cel.other k1 (fun e => n01 e.symm) 0 (.bool n0)) (fun e => n01 e.symm) 1 (.slice a1 l1 c1))
  replace bc := (bset (bset bc h0 0 (.bool n0)) h0 1 (.slice a1 l1 c1))
  have e1_0 := cel2_0' k1
  have f1_0 := Cel.frozen k1 0
  have e1_1 := cel2_1' k1
  have f1_1 := Cel.frozen k1 1
  refine WA.call 9 rfl (fun K hK => ?_)
  simp only [List.getElem_toArray, List.getElem_cons_succ, List.getElem_cons_zero]
  go_simp
  try go_wp2_with fail
  clear e1_0 f1_0 e1_1 f1_1
  refine hK.out _ _ (bset (bset bc h1 0 (.bool n1)) h1 1 (.slice a2 l2 c2)) (fun hS => ?_)
  clear hK K
  replace nv1 := nv1.set2 k1 (.bool n1) (.slice a2 l2 c2)
  replace nv2 := nv2.set2 k1 (.bool n1) (.slice a2 l2 c2)
  replace k0 := (Cel.other (Cel.other k0 n01 0 (.bool n1)) n01 1 (.slice a2 l2 c2))
  replace k1 := (Cel.set (Cel.set k1 0 (.bool n1)) 1 (.slice a2 l2 c2))
  replace bc := (bset (bset bc h1 0 (.bool n1)) h1 1 (.slice a2 l2 c2))
  refine WA.done (by kernel_rfl) ?_
  go_wp2_with fail
  go_meet
  exact ⟨_, _, a1, l1, c1, a2, l2, c2, rfl, rfl, h0, h1, k0, k1, nv1, nv2, bc⟩
 case rest =>
 obtain ⟨gx, gy, a1, l1, c1, a2, l2, c2, rfl, rfl, lx, ly, kx, ky, nv1, nv2, b1⟩ := hcut
 clear mk
 have sz := b1.size
 replace ka := ka.below b1
 replace kb := kb.below b1
 replace kr := kr.below b1
 replace ks := ks.below b1
 replace bb := Below.after bb b1
 clear b1
 have tx := kx.lt
 have ty := ky.lt
 have ca := cel3_2 ka
 go_wp2_with fail
 go_fit (H3.out _)
 rintro e w3 ⟨v3, rfl, nv3, b1⟩
 obtain ⟨a3, l3, c3, rfl⟩ := nv3.slice
 replace ka := ka.below b1
 replace kb := kb.below b1
 replace kr := kr.below b1
 replace ks := ks.below b1
 replace kx := kx.below b1
 replace ky := ky.below b1
 replace nv1 := nv1.below b1
 replace nv2 := nv2.below b1
 replace bb := Below.after bb b1
 have sq0 := b1.size
 clear b1
 clear ca
 have ca := cel3_2 (ka.alloc (.cells #[.bool false, .slice a3 l3 c3] 68))
 have cb := cel3_2 (kb.alloc (.cells #[.bool false, .slice a3 l3 c3] 68))
 go_wp2_with fail
 obtain ⟨w4, hw, kz, b1⟩ := mk1 w3 [.bool false, .slice a3 l3 c3] 68
 rw [← hw]
 clear hw
 replace ka := ka.below b1
 replace kb := kb.below b1
 replace kr := kr.below b1
 replace ks := ks.below b1
 replace kx := kx.below b1
 replace ky := ky.below b1
 replace nv1 := nv1.below b1
 replace nv2 := nv2.below b1
 replace nv3 := nv3.below b1
 replace bb := Below.after bb b1
 have sq1 := b1.size
 have tz := kz.lt
 have sz := b1.size
 clear b1
 clear ca cb
 have tr' := kr.lt
 have mkS : Hid (∀ w', Cel w' (gx) [.bool n0, .slice a1 l1 c1] 68 → Cel w' (gy) [.bool n1, .slice a2 l2 c2] 68 → Cel w' (w3.heap.size) [.bool false, .slice a3 l3 c3] 68 → (xc2 w' gx (.bool n0) (.slice a1 l1 c1) ∧ xc2 w' gy (.bool n1) (.slice a2 l2 c2) ∧ xc2 w' w3.heap.size (.bool false) (.slice a3 l3 c3))) := fun w' hx hy hz => ⟨xk2 hx, xk2 hy, xk2 hz⟩
 have qxr : gx ≠ w.heap.size + 1 + 1 := by omega
 have qyr : gy ≠ w.heap.size + 1 + 1 := by omega
 have qzr : w3.heap.size ≠ w.heap.size + 1 + 1 := by omega
 have qxs : gx ≠ w.heap.size + 1 + 1 + 1 := by omega
 have qys : gy ≠ w.heap.size + 1 + 1 + 1 := by omega
 have qzs : w3.heap.size ≠ w.heap.size + 1 + 1 + 1 := by omega
 go_region_held3 (fun w' => xc2 w' gx (.bool n0) (.slice a1 l1 c1) ∧ xc2 w' gy (.bool n1) (.slice a2 l2 c2) ∧ xc2 w' w3.heap.size (.bool false) (.slice a3 l3 c3)) (first | with_reducible exact mkS.out _ kx ky kz | with_reducible exact mkS.out _ (Cel.other (Cel.other kx qxr 0 _) qxr 1 _) (Cel.other (Cel.other ky qyr 0 _) qyr 1 _) (Cel.other (Cel.other kz qzr 0 _) qzr 1 _) | with_reducible exact mkS.out _ (Cel.other (Cel.other (Cel.other (Cel.other kx qxr 0 _) qxr 1 _) qxs 0 _) qxs 1 _) (Cel.other (Cel.other (Cel.other (Cel.other ky qyr 0 _) qyr 1 _) qys 0 _) qys 1 _) (Cel.other (Cel.other (Cel.other (Cel.other kz qzr 0 _) qzr 1 _) qzs 0 _) qzs 1 _) | exact mkS.out _ kx ky kz) (first | (go_at_call 144; go_fit (nminus_any _ _ _ _ z0 z1 L _ (by omega) ?_ ?_); (first | exact nv1 | exact nv1.drew); (first | exact nv2 | exact nv2.drew); rintro e wn ⟨m5, v5, rfl, nv5, bn⟩; obtain ⟨a5, l5, c5, rfl⟩ := nv5.slice; replace kr := kr.below (un bn); replace ks := ks.below (un bn); replace kx := kx.below (un bn); replace ky := ky.below (un bn); replace kz := kz.below (un bn); (try replace nv1 := nv1.below (un bn)); (try replace nv2 := nv2.below (un bn)); (try replace nv3 := nv3.below (un bn)); replace bb := Below.after bb (un bn); have er0 := cel2_0 kr; have fr0 := Cel.frozen kr 0; have er1 := cel2_1 kr; have fr1 := Cel.frozen kr 1; have es0 := cel2_0 ks; have fs0 := Cel.frozen ks 0; have es1 := cel2_1 ks; have fs1 := Cel.frozen ks 1) | fail)
 replace nv5 := shut nv5
 replace nv3 := shut nv3
 go_wp2
 exact post_nn (p := 4) (q := 5) (by kernel_rfl) rfl rfl rfl ((((kr.set 0 _).set 1 _).other (by omega) _ _).other (by omega) _ _) ((((ks.other (by omega) _ _).other (by omega) _ _).set 0 _).set 1 _) ⟨_, _, _, _, _, _, _, rfl, (nv5.out.set2 kr _ _).set2 ((ks.other (by omega) _ _).other (by omega) _ _) _ _, (nv3.out.set2 kr _ _).set2 ((ks.other (by omega) _ _).other (by omega) _ _) _ _, bset (bset (bset (bset bb (by omega) 0 _) (by omega) 1 _) (by omega) 0 _) (by omega) 1 _⟩
theorem less_ne (n0 n1 : Bool) (s0 d0 s1 d1 : ByteArray) (z0 z1 D0 D1 : Int) (L : Nat) (w : World) (hL : L ≤ 200)
  (H1 : Hid (∀ w1, Calls Tryz.prog 58 #[.agg #[.bool n0, .string s0]] w1 fun e w' => ∃ v, e = .returned (.agg #[.bool n0, v]) ∧ NV w' n0 v z0 L ∧ Below w1.heap.size w1 w'))
  (H2 : Hid (∀ w1, Calls Tryz.prog 58 #[.agg #[.bool n1, .string s1]] w1 fun e w' => ∃ v, e = .returned (.agg #[.bool n1, v]) ∧ NV w' n1 v z1 L ∧ Below w1.heap.size w1 w'))
  (H3 : Hid (∀ w1, Calls Tryz.prog 58 #[.agg #[.bool false, .string d0]] w1 fun e w' => ∃ v, e = .returned (.agg #[.bool false, v]) ∧ NV w' false v D0 L ∧ Below w1.heap.size w1 w'))
  (H4 : Hid (∀ w1, Calls Tryz.prog 58 #[.agg #[.bool false, .string d1]] w1 fun e w' => ∃ v, e = .returned (.agg #[.bool false, v]) ∧ NV w' false v D1 L ∧ Below w1.heap.size w1 w')) (hd : (d0.toList == d1.toList) = false) :
  Calls Tryz.prog 142 #[.agg #[.bool n0, .string s0, .string d0], .agg #[.bool n1, .string s1, .string d1]] w fun e w' => ∃ m a l c a' l' c', e = .returned (.tuple #[.agg #[.bool m, .slice a l c], .agg #[.bool false, .slice a' l' c']]) ∧ NV w' m (.slice a l c) (z0 * D1 - z1 * D0) (L + L + 1) ∧ NV w' false (.slice a' l' c') (D0 * D1) (L + L) ∧ Below w.heap.size w w' := by
 go_enter Tryz.func142, Tryz.ntmps142
 go_wp2_with fail
 obtain ⟨w1, hw, ka, kb, kr, ks, b1⟩ := mk4 w [.bool n0, .string s0, .string d0] [.bool n1, .string s1, .string d1] [.bool false, .slice none 0 0] [.bool false, .slice none 0 0] 26 26 68 68
 rw [← hw]
 clear hw
 have sz := b1.size
 have ta := ka.lt
 have tb := kb.lt
 have tr := kr.lt
 have ts := ks.lt
 have bb := b1
 clear b1
 have mk : Hid (∀ w', SB w1 w' → xc3 w' w.heap.size (.bool n0) (.string s0) (.string d0) ∧ xc3 w' (w.heap.size + 1) (.bool n1) (.string s1) (.string d1)) := fun w' h => ⟨xk3 (ka.below h), xk3 (kb.below h)⟩
 go_cut [6, 7] from 10 to 15 (fun v u wx => ∃ gc gd a1 l1 c1 a2 l2 c2, v = .pointer (some ⟨gc, 0, none⟩) ∧ u = .pointer (some ⟨gd, 0, none⟩) ∧ w1.heap.size ≤ gc ∧ w1.heap.size ≤ gd ∧ Cel wx gc [.bool n0, .slice a1 l1 c1] 68 ∧ Cel wx gd [.bool n1, .slice a2 l2 c2] 68 ∧ NV wx n0 (.slice a1 l1 c1) z0 L ∧ NV wx n1 (.slice a2 l2 c2) z1 L ∧ Below w1.heap.size w1 wx)
 case first =>
  clear H3 H4
  refine wp_region_held_drew (S := SB w1) (by kernel_rfl) (bdrew _) (fun bc => ?_)
  refine WA.start (n := 10) (by kernel_rfl) ?_
  refine WA.tl 0 rfl ?_
  refine WA.tl 1 rfl ?_
  refine WA.tl 3 rfl ?_
  refine WA.tl 4 rfl ?_
  refine WA.gen2 (i := 6) (s := 6) (i' := 7) (s' := 7) undef undef (Pt w1 [.bool false, .slice none 0 0] 68) (Pt w1 [.bool false, .slice none 0 0] 68) (fun b b' x x' hz hy hn => ?_)
  simp only [Act.put, List.setIfInBounds_toArray, List.set_cons_zero, List.set_cons_succ]
  replace hz := P2.mk hz hy hn
  clear hy hn
  revert b b' x x'
  refine WA.two 10 27 2 6 7 rfl rfl rfl bc ?_
  clear bc
  intro b b' x x' w' hz bx bc K hK
  clear bx
  simp only [List.getElem_toArray, List.getElem_cons_succ, List.getElem_cons_zero]
  go_simp
  go_fit (H1.out _)
  rintro e wn ⟨v1, rfl, nv1, bn⟩
  obtain ⟨a1, l1, c1, rfl⟩ := nv1.slice
  replace bc := Below.after bc bn
  try go_wp2_with fail
  refine hK.out _ _ bc (fun _ => ?_)
  replace hz := hz.below bn
  clear hK K bn
  revert b b' x x'
  refine WA.two 10 31 5 6 7 rfl rfl rfl bc ?_
  clear bc
  intro b b' x x' w' hz bx bc K hK
  replace nv1 := nv1.below bx
  clear bx
  simp only [List.getElem_toArray, List.getElem_cons_succ, List.getElem_cons_zero]
  go_simp
  go_fit (H2.out _)
  rintro e wn ⟨v2, rfl, nv2, bn⟩
  obtain ⟨a2, l2, c2, rfl⟩ := nv2.slice
  replace bc := Below.after bc bn
  try go_wp2_with fail
  refine hK.out _ _ bc (fun _ => ?_)
  replace hz := hz.below bn
  replace nv1 := nv1.below bn
  clear hK K bn
  revert b b' x x'
  refine WA.fin2 6 7 rfl rfl bc ?_
  clear bc
  intro x x' w' hz bx bc
  replace nv1 := nv1.below bx
  replace nv2 := nv2.below bx
  obtain ⟨g0, rfl, h0, k0⟩ := hz.p rfl
  obtain ⟨g1, rfl, h1, k1⟩ := hz.p' rfl
  have n01 : ¬ g0 = g1 := fun e => hz.ne rfl rfl (by rw [e])
  clear bx hz
  have e0_0 := cel2_0' k0
  have f0_0 := Cel.frozen k0 0
  have e0_1 := cel2_1' k0
  have f0_1 := Cel.frozen k0 1
  refine WA.call 8 rfl (fun K hK => ?_)
  simp only [List.getElem_toArray, List.getElem_cons_succ, List.getElem_cons_zero]
  go_simp
  try go_wp2_with fail
  clear e0_0 f0_0 e0_1 f0_1
  refine hK.out _ _ (bset (bset bc h0 0 (.bool n0)) h0 1 (.slice a1 l1 c1)) (fun hS => ?_)
  clear hK K
  replace nv1 := nv1.set2 k0 (.bool n0) (.slice a1 l1 c1)
  replace nv2 := nv2.set2 k0 (.bool n0) (.slice a1 l1 c1)
  replace k0 := (Cel.set (Cel.set k0 0 (.bool n0)) 1 (.slice a1 l1 c1))
  replace k1 := (Cel.other (Cel.other k1 (fun e => n01 e.symm) 0 (.bool n0)) (fun e => n01 e.symm) 1 (.slice a1 l1 c1))
  replace bc := (bset (bset bc h0 0 (.bool n0)) h0 1 (.slice a1 l1 c1))
  have e1_0 := cel2_0' k1
  have f1_0 := Cel.frozen k1 0
  have e1_1 := cel2_1' k1
  have f1_1 := Cel.frozen k1 1
  refine WA.call 9 rfl (fun K hK => ?_)
  simp only [List.getElem_toArray, List.getElem_cons_succ, List.getElem_cons_zero]
  go_simp
  try go_wp2_with fail
  clear e1_0 f1_0 e1_1 f1_1
  refine hK.out _ _ (bset (bset bc h1 0 (.bool n1)) h1 1 (.slice a2 l2 c2)) (fun hS => ?_)
  clear hK K
  replace nv1 := nv1.set2 k1 (.bool n1) (.slice a2 l2 c2)
  replace nv2 := nv2.set2 k1 (.bool n1) (.slice a2 l2 c2)
  replace k0 := (Cel.other (Cel.other k0 n01 0 (.bool n1)) n01 1 (.slice a2 l2 c2))
  replace k1 := (Cel.set (Cel.set k1 0 (.bool n1)) 1 (.slice a2 l2 c2))
  replace bc := (bset (bset bc h1 0 (.bool n1)) h1 1 (.slice a2 l2 c2))
  refine WA.done (by kernel_rfl) ?_
  go_wp2_with fail
  go_meet
  exact ⟨_, _, a1, l1, c1, a2, l2, c2, rfl, rfl, h0, h1, k0, k1, nv1, nv2, bc⟩
 case rest =>
 obtain ⟨gx, gy, a1, l1, c1, a2, l2, c2, rfl, rfl, lx, ly, kx, ky, nv1, nv2, b1⟩ := hcut
 clear mk
 have sz := b1.size
 replace ka := ka.below b1
 replace kb := kb.below b1
 replace kr := kr.below b1
 replace ks := ks.below b1
 replace bb := Below.after bb b1
 clear b1
 have tx := kx.lt
 have ty := ky.lt
 have ca := cel3_2 ka
 go_wp2_with fail
 go_fit (H3.out _)
 rintro e w3 ⟨v3, rfl, nv3, b1⟩
 obtain ⟨a3, l3, c3, rfl⟩ := nv3.slice
 replace ka := ka.below b1
 replace kb := kb.below b1
 replace kr := kr.below b1
 replace ks := ks.below b1
 replace kx := kx.below b1
 replace ky := ky.below b1
 replace nv1 := nv1.below b1
 replace nv2 := nv2.below b1
 replace bb := Below.after bb b1
 have sq2 := b1.size
 clear b1
 clear ca
 have ca := cel3_2 (ka.alloc (.cells #[.bool false, .slice a3 l3 c3] 68))
 have cb := cel3_2 (kb.alloc (.cells #[.bool false, .slice a3 l3 c3] 68))
 go_wp2_with fail
 obtain ⟨w4, hw, kz, b1⟩ := mk1 w3 [.bool false, .slice a3 l3 c3] 68
 rw [← hw]
 clear hw
 replace ka := ka.below b1
 replace kb := kb.below b1
 replace kr := kr.below b1
 replace ks := ks.below b1
 replace kx := kx.below b1
 replace ky := ky.below b1
 replace nv1 := nv1.below b1
 replace nv2 := nv2.below b1
 replace nv3 := nv3.below b1
 replace bb := Below.after bb b1
 have sq3 := b1.size
 have tz := kz.lt
 have sz := b1.size
 clear b1
 clear ca cb
 have tr' := kr.lt
 have cb := cel3_2 kb
 go_wp2_with fail
 go_fit (H4.out _)
 rintro e w4' ⟨v4, rfl, nv4, b1⟩
 obtain ⟨a4, l4, c4, rfl⟩ := nv4.slice
 replace ka := ka.below b1
 replace kb := kb.below b1
 replace kr := kr.below b1
 replace ks := ks.below b1
 replace kx := kx.below b1
 replace ky := ky.below b1
 replace kz := kz.below b1
 replace nv1 := nv1.below b1
 replace nv2 := nv2.below b1
 replace nv3 := nv3.below b1
 replace bb := Below.after bb b1
 have sq4 := b1.size
 clear b1
 clear cb
 go_wp2_with fail
 obtain ⟨w6, hw, ku, b1⟩ := mk1 w4' [.bool false, .slice a4 l4 c4] 68
 rw [← hw]
 clear hw
 replace ka := ka.below b1
 replace kb := kb.below b1
 replace kr := kr.below b1
 replace ks := ks.below b1
 replace kx := kx.below b1
 replace ky := ky.below b1
 replace kz := kz.below b1
 replace nv1 := nv1.below b1
 replace nv2 := nv2.below b1
 replace nv3 := nv3.below b1
 replace nv4 := nv4.below b1
 replace bb := Below.after bb b1
 have sq5 := b1.size
 have tu := ku.lt
 have sz := b1.size
 clear b1
 have mkS : Hid (∀ w', Cel w' (gx) [.bool n0, .slice a1 l1 c1] 68 → Cel w' (gy) [.bool n1, .slice a2 l2 c2] 68 → Cel w' (w3.heap.size) [.bool false, .slice a3 l3 c3] 68 → Cel w' (w4'.heap.size) [.bool false, .slice a4 l4 c4] 68 → (xc2 w' gx (.bool n0) (.slice a1 l1 c1) ∧ xc2 w' gy (.bool n1) (.slice a2 l2 c2) ∧ xc2 w' w3.heap.size (.bool false) (.slice a3 l3 c3) ∧ xc2 w' w4'.heap.size (.bool false) (.slice a4 l4 c4))) := fun w' hx hy hz hu => ⟨xk2 hx, xk2 hy, xk2 hz, xk2 hu⟩
 have qxr : gx ≠ w.heap.size + 1 + 1 := by omega
 have qyr : gy ≠ w.heap.size + 1 + 1 := by omega
 have qzr : w3.heap.size ≠ w.heap.size + 1 + 1 := by omega
 have qur : w4'.heap.size ≠ w.heap.size + 1 + 1 := by omega
 have qxs : gx ≠ w.heap.size + 1 + 1 + 1 := by omega
 have qys : gy ≠ w.heap.size + 1 + 1 + 1 := by omega
 have qzs : w3.heap.size ≠ w.heap.size + 1 + 1 + 1 := by omega
 have qus : w4'.heap.size ≠ w.heap.size + 1 + 1 + 1 := by omega
 go_region_held3 (fun w' => xc2 w' gx (.bool n0) (.slice a1 l1 c1) ∧ xc2 w' gy (.bool n1) (.slice a2 l2 c2) ∧ xc2 w' w3.heap.size (.bool false) (.slice a3 l3 c3) ∧ xc2 w' w4'.heap.size (.bool false) (.slice a4 l4 c4)) (first | with_reducible exact mkS.out _ kx ky kz ku | with_reducible exact mkS.out _ (Cel.other (Cel.other kx qxr 0 _) qxr 1 _) (Cel.other (Cel.other ky qyr 0 _) qyr 1 _) (Cel.other (Cel.other kz qzr 0 _) qzr 1 _) (Cel.other (Cel.other ku qur 0 _) qur 1 _) | with_reducible exact mkS.out _ (Cel.other (Cel.other (Cel.other (Cel.other kx qxr 0 _) qxr 1 _) qxs 0 _) qxs 1 _) (Cel.other (Cel.other (Cel.other (Cel.other ky qyr 0 _) qyr 1 _) qys 0 _) qys 1 _) (Cel.other (Cel.other (Cel.other (Cel.other kz qzr 0 _) qzr 1 _) qzs 0 _) qzs 1 _) (Cel.other (Cel.other (Cel.other (Cel.other ku qur 0 _) qur 1 _) qus 0 _) qus 1 _) | exact mkS.out _ kx ky kz ku) (first | (go_at_call 59; go_fit (ntimes_any _ _ _ _ z0 D1 L L _ (by omega) (by omega) ?_ ?_); (first | exact nv1 | exact nv1.drew); (first | exact nv4 | exact nv4.drew); rintro e wn ⟨m5, v5, rfl, nv5, -, bn⟩; obtain ⟨a5, l5, c5, rfl⟩ := nv5.slice; replace kr := kr.below (un bn); replace ks := ks.below (un bn); replace kx := kx.below (un bn); replace ky := ky.below (un bn); replace kz := kz.below (un bn); replace ku := ku.below (un bn); (try replace nv1 := nv1.below (un bn)); (try replace nv2 := nv2.below (un bn)); (try replace nv3 := nv3.below (un bn)); (try replace nv4 := nv4.below (un bn)); (try replace nv6 := nv6.below (un bn)); (try replace nv7 := nv7.below (un bn)); replace bb := Below.after bb (un bn)) | (go_at_call 59; go_fit (ntimes_any _ _ _ _ z1 D0 L L _ (by omega) (by omega) ?_ ?_); (first | exact nv2 | exact nv2.drew); (first | exact nv3 | exact nv3.drew); rintro e wn ⟨m6, v6, rfl, nv6, -, bn⟩; obtain ⟨a6, l6, c6, rfl⟩ := nv6.slice; replace kr := kr.below (un bn); replace ks := ks.below (un bn); replace kx := kx.below (un bn); replace ky := ky.below (un bn); replace kz := kz.below (un bn); replace ku := ku.below (un bn); (try replace nv1 := nv1.below (un bn)); (try replace nv2 := nv2.below (un bn)); (try replace nv3 := nv3.below (un bn)); (try replace nv4 := nv4.below (un bn)); (try replace nv5 := nv5.below (un bn)); (try replace nv7 := nv7.below (un bn)); replace bb := Below.after bb (un bn)) | (go_at_call 144; go_fit (nminus_any _ _ _ _ (z0 * D1) (z1 * D0) (L + L) _ (by omega) ?_ ?_); (first | exact nv5 | exact nv5.drew); (first | exact nv6 | exact nv6.drew); rintro e wn ⟨m7, v7, rfl, nv7, bn⟩; obtain ⟨a7, l7, c7, rfl⟩ := nv7.slice; replace kr := kr.below (un bn); replace ks := ks.below (un bn); replace kx := kx.below (un bn); replace ky := ky.below (un bn); replace kz := kz.below (un bn); replace ku := ku.below (un bn); (try replace nv1 := nv1.below (un bn)); (try replace nv2 := nv2.below (un bn)); (try replace nv3 := nv3.below (un bn)); (try replace nv4 := nv4.below (un bn)); (try replace nv5 := nv5.below (un bn)); (try replace nv6 := nv6.below (un bn)); replace bb := Below.after bb (un bn)) | (go_at_call 59; go_fit (ntimes_any _ _ _ _ D0 D1 L L _ (by omega) (by omega) ?_ ?_); (first | exact nv3 | exact nv3.drew); (first | exact nv4 | exact nv4.drew); rintro e wn ⟨m8, v8, rfl, nv8, hm8, bn⟩; obtain ⟨a8, l8, c8, rfl⟩ := nv8.slice; replace kr := kr.below (un bn); replace ks := ks.below (un bn); replace kx := kx.below (un bn); replace ky := ky.below (un bn); replace kz := kz.below (un bn); replace ku := ku.below (un bn); (try replace nv1 := nv1.below (un bn)); (try replace nv2 := nv2.below (un bn)); (try replace nv3 := nv3.below (un bn)); (try replace nv4 := nv4.below (un bn)); (try replace nv5 := nv5.below (un bn)); (try replace nv6 := nv6.below (un bn)); (try replace nv7 := nv7.below (un bn)); replace bb := Below.after bb (un bn); have er0 := cel2_0 kr; have fr0 := Cel.frozen kr 0; have er1 := cel2_1 kr; have fr1 := Cel.frozen kr 1; have es0 := cel2_0 ks; have fs0 := Cel.frozen ks 0; have es1 := cel2_1 ks; have fs1 := Cel.frozen ks 1))
 obtain rfl := hm8 trivial trivial
 clear hm8
 replace nv7 := shut nv7
 replace nv8 := shut nv8
 go_wp2
 exact post_nn (p := 4) (q := 5) (by kernel_rfl) rfl rfl rfl ((((kr.set 0 _).set 1 _).other (by omega) _ _).other (by omega) _ _) ((((ks.other (by omega) _ _).other (by omega) _ _).set 0 _).set 1 _) ⟨_, _, _, _, _, _, _, rfl, (nv7.out.set2 kr _ _).set2 ((ks.other (by omega) _ _).other (by omega) _ _) _ _, (nv8.out.set2 kr _ _).set2 ((ks.other (by omega) _ _).other (by omega) _ _) _ _, bset (bset (bset (bset bb (by omega) 0 _) (by omega) 1 _) (by omega) 0 _) (by omega) 1 _⟩
end Go.Proofs.YtbafjmjcepcckaaGreatDoor
