/-
  Package whole: the greatest common divisor of 12 and 18, as the statements' own look asks it.
  Package whole: commonDivisor of 12 and 18.
  Package whole: Gcd of numbers of which 12 and 18 are the magnitudes.
  Package whole: Print of a number of one digit below 0.
  Package whole: Print of -4.
  gussetlaw02: live.
  gussetlaw02: small; three numbers in boxes.
  How many bytes sums and products have; numbers behind names.
-/
import Derived.Test.YtimmgjlojplccaaGreatDoorG02
import Derived.Test.YtimmgjlojplccaaGreatDoorG06
import Derived.Test.YtimmgjlojplccaaGreatDoorG25
import Derived.Test.YtimmgjlojplccaaGreatDoorG22
import Derived.Test.YtimmgjlojplccaaGreatDoorG21
namespace Go.Proofs.YtimmgjlojplccaaGreatDoor
open Go.RowKit Go.Shelf

/-- The table behind bits.TrailingZeros64 lies as Go lays it. -/
def Tab (w : World) : Prop := TabAt (lays729_ren.g 1) Lib.deBruijn64tab w
theorem Tab.below {w w' : World} (h : Tab w) (hb : Below w.heap.size w w') : Tab w' := fun j hj => by
  have := h j hj
  rw [hb.cell (World.block_lt_of_cell? w _ this)]
  exact this
theorem Tab.same {w w' : World} (h : Tab w) (hh : w'.heap = w.heap) : Tab w' := fun j hj => by
  have := h j hj
  simp only [World.cell?, hh] at this ⊢
  exact this

theorem tz_at (x k : Nat) (hx : x < 18446744073709551616) (hk : Lib.ctz 64 x = k) (w : World) (hT : Tab w) :
    Calls Tryz.prog 89 #[.int .u64 (x : Nat)] w fun e w' => e = .returned (.int .i64 (k : Nat)) ∧ w' = w := by
  subst hk
  exact tz64 x hx w (fun _ => hT)

theorem ldiv_live (v : Value) (w : World) (h : Rd w v [6]) (hT : Tab w) :
    Calls Tryz.prog 60 #[.int .u64 12, v] w fun e w' => e = .returned (.int .u64 6) ∧ w' = w := by
  obtain ⟨a, cap, rfl, hc, hcell⟩ := h
  obtain ⟨b, off, rfl, c0'⟩ := hcell 0 (by simp)
  have c0 : w.cell? ⟨b, off, none⟩ = some (.int .u64 6) := c0'
  have H14 : Hid (Calls Tryz.prog 89 #[.int .u64 14] w fun e w' => e = .returned (.int .i64 1) ∧ w' = w) := tz_at 14 1 (by omega) (by decide) w hT
  have H12 : Hid (Calls Tryz.prog 89 #[.int .u64 12] w fun e w' => e = .returned (.int .i64 2) ∧ w' = w) := tz_at 12 2 (by omega) (by decide) w hT
  have H6 : Hid (Calls Tryz.prog 89 #[.int .u64 6] w fun e w' => e = .returned (.int .i64 1) ∧ w' = w) := tz_at 6 1 (by omega) (by decide) w hT
  have g1 : bits BinOp.or IntKind.u64 12 6 = 14 := by decide
  clear hT hcell c0'
  simp only [List.length_cons, List.length_nil] at *
  go_enter Tryz.func60, Tryz.ntmps60
  go_wp2_with fail
  refine (H14.out).mono ?_
  rintro e w1 ⟨rfl, hw⟩
  subst hw
  go_wp2_with fail
  refine (H12.out).mono ?_
  rintro e w1 ⟨rfl, hw⟩
  subst hw
  go_wp2
  go_loopw [0, 5] (fun x y wr => wr = w1 ∧ x = .int .u64 3 ∧ (y = .int .u64 6 ∨ y = .int .u64 0)) (fun _ y _ => (intOf y).toNat)
  case atStart => exact ⟨rfl, rfl, Or.inl rfl⟩
  case round =>
    obtain ⟨rfl, rfl, rfl | rfl⟩ := hrel
    · go_wp2_with fail
      refine (H6.out).mono ?_
      rintro e w2 ⟨rfl, hw⟩
      subst hw
      go_wp2
      exact ⟨⟨trivial, rfl, Or.inr rfl⟩, by decide⟩
    · go_wp2
      go_ret
      exact ⟨rfl, rfl⟩
end Go.Proofs.YtimmgjlojplccaaGreatDoor
namespace Go.Proofs.YtimmgjlojplccaaGreatDoor
open Go.RowKit Go.Shelf

/-- 'append(v, ys...)' on a slice of the call's own. -/
theorem wpList_appR {w : World} {ops : Array Oper} {rest : List Oper} {o : Oper} {a : Act} {Q : Exit → Act → World → Prop}
    (hg : o.guard = none) (s x : Operand) (hop : o.op = Op.call { callee := Callee.builtin Builtin.append, args := #[s, x], argTypes := #[47, 47] })
    (base : Nat) (v : Value) (zs : List Nat) (hs : a.eval s = v) (hown : Own w base v zs) (hbase : base ≤ w.heap.size)
    (b off n cap : Nat) (hx : a.eval x = .slice (some ⟨b, off, none⟩) n cap) (ys : List Nat) (hn : n = ys.length)
    (hc : ∀ j, j < ys.length → w.cell? ⟨b, off + j, none⟩ = some (.int .u64 (lm ys j : Nat))) (hl : zs.length + ys.length ≤ 10000000)
    (hK : ∀ v' w', Own w' base v' (zs ++ ys) → w.grownBy w' v.ownBlock → (∀ w0, Below base w0 w → Below base w0 w') → wpList Tryz.prog ops Q rest (a.put o.dst v') w') :
    wpList Tryz.prog ops Q (o :: rest) a w := by
  obtain ⟨i0, hi, hz0, hz1, hz2⟩ := info_parts (show (Tryz.prog.info? 56).map (fun i => (i.zero, i.size, i.bytes)) = some (some (.int .u64 0), 1, 8) by kernel_rfl)
  subst hn
  refine wpList_append_own _ hg s x 47 hop base 56 i0 (.int .u64 0) 1 8 Tryz.underlying47 hi hz0 hz1 hz2 rfl (by decide) v zs.length (zs.map fun x => Value.int .u64 (x : Nat)) hs hown ⟨b, off, none⟩ ys.length cap (ys.map fun x => Value.int .u64 (x : Nat)) hx (by simp) ?_ ?_ ?_ ?_ hbase ?_
  · intro j u hj
    have hj' : j < ys.length := by
      have := List.getElem?_eq_some_iff.1 hj
      simpa using this.1
    have h := hc j hj'
    simp [hj'] at hj
    subst hj
    by_cases h0 : j = 0
    · subst h0; simpa [Addr.add, lm, hj'] using h
    · simpa [Addr.add, h0, lm, hj'] using h
  · intro u hu; simp at hu; obtain ⟨y, _, rfl⟩ := hu; rfl
  · unfold maxLen; omega
  · omega
  · intro v' w1 hown' hgrow _
    refine hK v' w1 ?_ hgrow ?_
    · unfold Own; simpa using hown'
    · intro w0 hb
      exact hb.grown hgrow hbase (fun k hk => (World.ownsRow.lt hown k hk).1)
theorem Own.made (w : World) (n : Nat) (hn : n ≤ 100000000) : Own (w.alloc (.cells (cellsOf (List.replicate n 0)) 56)) w.heap.size (.slice (some ⟨w.heap.size, 0, none⟩) 0 n) [] :=
  World.ownsRow_made w _ n (Nat.le_refl _) (by unfold maxLen; omega) (by simp [cellsOf])

theorem cmp_1218 (v0 v1 : Value) (w : World) (h0 : Rd w v0 [12]) (h1 : Rd w v1 [18]) :
    Calls Tryz.prog 24 #[v0, v1] w fun e w' => e = .returned (.tuple #[.int .i64 (-1), .int .i64 0]) ∧ Below w.heap.size w w' := by
  have := cmp_any v0 v1 [12] [18] w h0 h1 (low_of_all (by decide)) (low_of_all (by decide)) (by simp) (by simp)
  rwa [show cmpN (M.val B64 [12]) (M.val B64 [18]) = -1 from by simp only [M.val_cons, M.val_nil]; decide] at this
theorem div_1812 (v0 v1 : Value) (w : World) (h0 : Rd w v0 [18]) (h1 : Rd w v1 [12]) :
    Calls Tryz.prog 28 #[v0, v1] w fun e w' => ∃ q r, e = .returned (.tuple #[q, r, .int .i64 0]) ∧ Rd w' q [1] ∧ Rd w' r [6] ∧ Below w.heap.size w w' := by
  have := divmod_any v0 v1 [18] [12] w h0 h1 (low_of_all (by decide)) (low_of_all (by decide)) (by simp) (by simp)
  refine this.mono ?_
  rintro e w' ⟨-, h, hb⟩
  obtain ⟨q, r, rfl, hq, hr⟩ := h (by simp [M.val_cons, M.val_nil])
  refine ⟨q, r, rfl, ?_, ?_, hb⟩
  · rwa [show M.digs B64 (M.val B64 [18] / M.val B64 [12]) = [1] from by
      have e : M.val B64 [18] / M.val B64 [12] = M.val B64 [1] := by simp [M.val_cons, M.val_nil]
      rw [e]; exact digs_eq B64_two (low_of_all (by decide)) (trim_last (by decide)) rfl] at hq
  · rwa [show M.digs B64 (M.val B64 [18] % M.val B64 [12]) = [6] from by
      have e : M.val B64 [18] % M.val B64 [12] = M.val B64 [6] := by simp [M.val_cons, M.val_nil]
      rw [e]; exact digs_eq B64_two (low_of_all (by decide)) (trim_last (by decide)) rfl] at hr

set_option maxRecDepth 100000 in
set_option maxHeartbeats 2000000 in
theorem cdiv_live (v0 v1 : Value) (w : World) (h0 : Rd w v0 [12]) (h1 : Rd w v1 [18]) (hT : Tab w) :
    Calls Tryz.prog 31 #[v0, v1] w fun e w' => ∃ v, e = .returned v ∧ Rd w' v [6] ∧ Below w.heap.size w w' := by
  have r0 := h0
  have r1 := h1
  obtain ⟨a0, c0, rfl, hc0, hcell0⟩ := h0
  obtain ⟨b0, o0, rfl, -⟩ := hcell0 0 (by simp)
  obtain ⟨a1, c1, rfl, hc1, -⟩ := h1
  simp only [List.length_cons, List.length_nil, Nat.zero_add] at *
  go_enter Tryz.func31, Tryz.ntmps31
  go_wp2_with fail
  refine (cmp_1218 _ _ w r0 r1).mono ?_
  rintro e w1 ⟨rfl, hb1⟩
  have s0 := r0.below hb1
  have s1 := r1.below hb1
  have t1 := hT.below hb1
  have C0 : ∀ j, j < [12].length → w1.cell? ⟨b0, o0 + j, none⟩ = some (.int .u64 (lm [12] j : Nat)) := fun j hj => by
    obtain ⟨a, c, e, -, h⟩ := s0
    obtain ⟨b, o, e', h'⟩ := h j hj
    cases e
    cases e'
    exact h'
  clear hcell0
  have hmk : (Instr.makeSlice 47 (.int .i64 0) (.int .i64 1)).run Tryz.prog w1 = .ok (.slice (some ⟨w1.heap.size, 0, none⟩) 0 1) (w1.alloc (.cells #[.int .u64 0] 56)) := run_mk 0 1 (by omega) (by omega) w1
  have c00 : w1.cell? ⟨b0, o0, none⟩ = some (.int .u64 12) := C0 0 (by simp)
  have hlt : b0 < w1.heap.size := World.block_lt_of_cell? w1 _ c00
  clear C0
  go_wp2_with fail
  obtain ⟨w3, hw3⟩ : ∃ w3, w3 = w1.alloc (.cells #[.int .u64 12] 56) := ⟨_, rfl⟩
  have hb3 : Below w1.heap.size w1 w3 := by rw [hw3]; exact (Below.refl _ _).alloc (Nat.le_refl _) _
  have k3 : Blk w3 w1.heap.size [12] := by rw [hw3]; exact blk_new w1 [12]
  have HW3 := shut hw3
  clear hw3
  go_loopw [0, 1] (fun x y wr => x = .slice a1 1 c1 ∧ y = .slice (some ⟨w1.heap.size, 0, none⟩) 1 1 ∧ wr = w3) (fun _ _ _ => 0)
  case atStart => exact ⟨rfl, rfl, HW3.out.symm⟩
  case round =>
    obtain ⟨rfl, rfl, rfl⟩ := hrel
    have ry : Rd wr (.slice (some ⟨w1.heap.size, 0, none⟩) 1 1) [12] := k3.rd0 1 (by simp)
    clear HW3
    go_wp2_with fail
    refine (div_1812 _ _ wr (s1.below hb3) ry).mono ?_
    rintro e w4 ⟨q, r, rfl, rq, rr, hb4⟩
    obtain ⟨aq, cq, rfl, -, -⟩ := id rq
    obtain ⟨ar, cr, rfl, -, -⟩ := id rr
    have y0 : w4.cell? ⟨w1.heap.size, 0, none⟩ = some (.int .u64 12) := (k3.below hb4).cell (j := 0) (by simp)
    have bb4 := Below.after (Below.after hb1 hb3) hb4
    have t4 := (t1.below hb3).below hb4
    simp only [List.length_cons, List.length_nil, Nat.zero_add] at *
    go_wp2_with fail
    refine (ldiv_live _ w4 rr t4).mono ?_
    rintro e w5 ⟨rfl, hw⟩
    subst hw
    go_wp2
    go_ret
    exact ⟨_, rfl, rd1 _ rfl 6, bb4.alloc (Nat.le_trans bb4.size (Nat.le_refl _)) _⟩
end Go.Proofs.YtimmgjlojplccaaGreatDoor
namespace Go.Proofs.YtimmgjlojplccaaGreatDoor
open Go.RowKit Go.Shelf

theorem tell_6 (v : Value) (w : World) (h : Rd w v [6]) :
    Calls Tryz.prog 27 #[.agg #[.bool false, v]] w fun e w' => e = .returned (zI 6) ∧ Below w.heap.size w w' := by
  have := tell_any false v [6] w h (low_of_all (by decide)) (by simp)
  rwa [show sgn false (M.val B64 [6]) = 6 from by simp [sgn, M.val_cons, M.val_nil]] at this
theorem digs_one {n : Nat} (h0 : n ≠ 0) (h : n < B64) : M.digs B64 n = [n] := by
  have e : n = M.val B64 [n] := by simp [M.val_cons, M.val_nil]
  rw [e]
  rw [← e]
  conv => lhs; rw [e]
  exact digs_eq B64_two (low_of_all (by simpa using h)) (trim_last (by simpa using h0)) rfl

set_option maxRecDepth 100000 in
set_option maxHeartbeats 4000000 in
theorem zgcd_live (n0 n1 : Bool) (s0 s1 : ByteArray) (w : World) (o0 : OkZ n0 s0) (o1 : OkZ n1 s1) (z0 : s0.size ≤ 100) (z1 : s1.size ≤ 100) (e0 : natOf s0 = 12) (e1 : natOf s1 = 18) (hT : Tab w) :
    Calls Tryz.prog 14 #[.agg #[.bool n0, .string s0], .agg #[.bool n1, .string s1]] w fun e w' => e = .returned (.tuple #[zI 6, .int .i64 0]) ∧ Below w.heap.size w w' := by
  have x0 : M.digs B64 (natOf s0) = [12] := by rw [e0]; exact digs_one (by omega) (by unfold B64; omega)
  have x1 : M.digs B64 (natOf s1) = [18] := by rw [e1]; exact digs_one (by omega) (by unfold B64; omega)
  have X0 := shut x0
  have X1 := shut x1
  have HT := shut tell_6
  clear x0 x1 e0 e1
  generalize hR : zI 6 = R at *
  obtain ⟨za, zb, rfl⟩ : ∃ a b, R = .agg #[.bool a, .string b] := ⟨_, _, hR.symm⟩
  clear hR
  go_enter Tryz.func14, Tryz.ntmps14
  go_wp2_with fail
  obtain ⟨w0, hw0, k0, k1, k2, k3, hb0⟩ := boxes4 w (.bool n0) (.string s0) (.bool n1) (.string s1)
  rw [← hw0]
  clear hw0
  refine (read2_ok _ n0 n1 s0 s1 w0 k3 o0 o1 (by omega) (by omega)).mono ?_
  rintro e w1 ⟨g, v0, v1, rfl, kg, r0, r1, hg, hb⟩
  rw [X0.out] at r0
  rw [X1.out] at r1
  have c0 := kg.cell 0
  have c1 := kg.cell 1
  have c2 := kg.cell 2
  have c3 := kg.cell 3
  simp only [List.getElem?_cons_zero, List.getElem?_cons_succ] at c0 c1 c2 c3
  have m2 := k2.below hb
  have bb := Below.after hb0 hb
  have H55 := shut (cdiv_live v0 v1 w1.drew (show Rd w1 _ _ from r0.rd) (show Rd w1 _ _ from r1.rd) (show Tab w1 from (hT.below hb0).below hb))
  clear k0 k1 k2 k3 kg X0 X1 hT
  obtain ⟨a0, p0, rfl, -, -⟩ := id r0
  obtain ⟨a1, p1, rfl, -, -⟩ := id r1
  go_wp2
  go_region_with (first | (go_at_call 31; refine (H55.out).mono ?_; rintro e w2 ⟨v, rfl, rv, hb2'⟩; have hb2 : Below w1.heap.size w1 w2 := ⟨hb2'.os, hb2'.tape, hb2'.output, hb2'.size, hb2'.block⟩; obtain ⟨av, cv, rfl, -, -⟩ := id rv) | (go_at_call 27; refine (HT.out _ w2 rv).mono ?_; rintro e w3 ⟨rfl, hb3⟩; have q2 := (m2.below hb2).below hb3; have e0 := cel2_0 q2; have e1 := cel2_1 q2; have f0 := q2.frozen 0; have f1 := q2.frozen 1))
  all_goals try go_wp2
  all_goals refine post_z1 (p := 4) (u := 5) (by kernel_rfl) rfl rfl rfl ((q2.set 0 _).set 1 _) ⟨rfl, ((Below.after bb (Below.after hb2 hb3)).setCell (by simp; omega) _).setCell (by simp; omega) _⟩
end Go.Proofs.YtimmgjlojplccaaGreatDoor
namespace Go.Proofs.YtimmgjlojplccaaGreatDoor
open Go.RowKit Go.Shelf

theorem Ty.others {w w' : World} {v : Value} {b : Nat} (h : Ty w v) (hk : Lib.OthersKept 5 (some b) w w') (hb : ∀ cs fr, w.heap[b]? ≠ some (.cells cs 56 fr)) : Ty w' v := fun g off n c e => by
  obtain ⟨cs, fr, hh⟩ := h g off n c e
  refine ⟨cs, fr, hk g _ hh (fun e => ?_) (fun c fz h => by simp at h)⟩
  simp only [Option.some.injEq] at e
  subst e
  exact hb _ _ hh
theorem Rd.others {w w' : World} {v : Value} {xs : List Nat} {b : Nat} (h : Rd w v xs) (ht : Ty w v) (hk : Lib.OthersKept 5 (some b) w w') (hb : ∀ cs fr, w.heap[b]? ≠ some (.cells cs 56 fr)) : Rd w' v xs := by
  obtain ⟨a, cap, rfl, hc, h⟩ := h
  refine ⟨a, cap, rfl, hc, fun j hj => ?_⟩
  obtain ⟨g, off, rfl, hcell⟩ := h j hj
  refine ⟨g, off, rfl, ?_⟩
  obtain ⟨cs, fr, hh⟩ := ht g off _ _ rfl
  have := hk g _ hh (fun e => by
    simp only [Option.some.injEq] at e
    subst e
    exact hb _ _ hh) (fun c fz h => by simp at h)
  rw [World.cell?_of_block (w := w) (a := ⟨g, off + j, none⟩) (by rw [this, hh])]
  exact hcell
theorem builder_not {T e : TypeId} {B b : Nat} {bs : List Value} {w : World} (hT : T ≠ 56) (h : Lib.IsBuilderF T e B b bs w) : ∀ cs fr, w.heap[b]? ≠ some (.cells cs 56 fr) := by
  intro cs fr hh
  rcases h with ⟨-, v, hb, -⟩ | ⟨-, v, hb, -⟩ <;>
  · rw [hb] at hh
    simp at hh
    exact hT hh.2.1

theorem div_small {u : Nat} (h0 : 0 < u) (hu : u < 10) (v0 v1 : Value) (w : World) (r0 : Rd w v0 [u]) (r1 : Rd w v1 [ten19]) :
    Calls Tryz.prog 28 #[v0, v1] w fun e w' => ∃ q r, e = .returned (.tuple #[q, r, .int .i64 0]) ∧ Rd w' q [] ∧ Rd w' r [u] ∧ Ty w' r ∧ Below w.heap.size w w' := by
  have e1 : M.digs B64 u = [u] := digs_one (by omega) (by unfold B64; omega)
  have v1' : M.val B64 [u] = u := by rw [M.val_cons, M.val_nil]; omega
  have v2 : M.val B64 [ten19] = ten19 := by rw [M.val_cons, M.val_nil]; omega
  refine (divmod_ty v0 v1 [u] [ten19] w r0 r1 (low_of_all (by simp; unfold B64; omega)) (low_of_all (by decide)) (by simp) (by simp)).mono ?_
  rw [v1', v2]
  rintro e w' ⟨-, h, hb⟩
  obtain ⟨q, r, rfl, hq, hr, -, tr⟩ := h (by unfold ten19; omega)
  rw [show u / ten19 = 0 from Nat.div_eq_of_lt (by unfold ten19; omega)] at hq
  rw [show u % ten19 = u from Nat.mod_eq_of_lt (by unfold ten19; omega), e1] at hr
  exact ⟨q, r, rfl, hq, hr, tr, hb⟩

set_option maxRecDepth 100000 in
set_option maxHeartbeats 2000000 in
theorem wd1 (u : Nat) (h0 : 0 < u) (hu : u < 10) (B b g cap : Nat) (bs : List Value) (v p : Value) (w : World) (hv : Rd w v [u]) (hc : w.cell? ⟨g, 0, none⟩ = some p) (hp : Rd w p [ten19]) (h : Lib.IsBuilderF 61 5 B b bs w) (hlen : bs.length ≤ 100000) (hBw : B ≤ w.heap.size) :
    Calls Tryz.prog 32 #[.pointer (some ⟨b, 0, none⟩), v, .slice (some ⟨g, 0, none⟩) 1 cap] w fun e w' => e = .returned (.tuple #[]) ∧ (Lib.BuilderAtF 61 5 B b (.pointer (some ⟨b, 0, none⟩)) (bs ++ Lib.byteCells (nineteen 0) ++ Lib.byteCells (nineteen u)) w' ∧ Below B w w') := by
  have HD := shut (div_small h0 hu v p w hv hp)
  have H0 := shut (fun v a cap w hv h hl hB => wd0_body 0 (by omega) B b bs v a cap w (Or.inl ⟨rfl, hv⟩) h hl hB)
  have H1 := shut (fun v a cap w hv h hl hB => wd0_body u hu B b (bs ++ Lib.byteCells (nineteen 0)) v a cap w (Or.inr hv) h hl hB)
  have hl19 : (bs ++ Lib.byteCells (nineteen 0)).length ≤ 1000000 := by rw [List.length_append, Lib.byteCells, List.length_map]; simp [nineteen]; omega
  have HL := shut hl19
  clear hl19
  obtain ⟨av, cv, rfl, -, -⟩ := id hv
  obtain ⟨ap, cp, rfl, -, -⟩ := id hp
  clear hv hp
  go_enter Tryz.func32, Tryz.ntmps32
  go_wp2_with fail
  refine (HD.out).mono ?_
  rintro e w1 ⟨q, r, rfl, rq, rr, tr, hb1⟩
  obtain ⟨aq, cq, rfl, -, -⟩ := id rq
  obtain ⟨ar, cr, rfl, -, -⟩ := id rr
  have i1 := IsBuilderF_below h hb1
  have hB1 : B ≤ w1.heap.size := Nat.le_trans hBw hb1.size
  clear HD h
  go_wp2_with fail
  refine (H0.out _ _ _ w1 rq i1 (by omega) hB1).mono ?_
  rintro e w2 ⟨rfl, i2, hb2, k2⟩
  have hB2 : B ≤ w2.heap.size := Nat.le_trans hB1 hb2.size
  have rr2 := rr.others tr k2 (builder_not (by decide) i1)
  clear k2 rr tr
  go_wp2_with fail
  refine (H1.out _ _ _ w2 rr2 (Or.inr i2) HL.out hB2).mono ?_
  rintro e w3 ⟨rfl, i3, hb3, -⟩
  have HI := shut i3
  have HB := shut (((hb1.mono hBw).trans hb2).trans hb3)
  clear i2 i3 hb1 hb2 hb3
  go_wp2
  refine bodyPost_end (results_none rfl _ _ _) rfl ?_
  exact ⟨rfl, HI.out, HB.out⟩
end Go.Proofs.YtimmgjlojplccaaGreatDoor
namespace Go.Proofs.YtimmgjlojplccaaGreatDoor
open Go.RowKit Go.Shelf

theorem string_any_f (B b : Nat) (l : List UInt8) (w : World) (h : Lib.IsBuilderF 61 5 B b (Lib.byteCells l) w) (hBw : B ≤ w.heap.size) :
    Calls Tryz.prog 35 #[.pointer (some ⟨b, 0, none⟩)] w fun e w' => e = .returned (.string ⟨l.toArray⟩) ∧ (Lib.IsBuilderF 61 5 B b (Lib.byteCells l) w' ∧ Below B w w') := Any.Builder_String_any_f lays169 Extra_169 B b l w h hBw
theorem fresh_builder (w : World) : Lib.IsBuilderF 61 5 w.heap.size w.heap.size [] (w.alloc (.cells #[.pointer none, .slice none 0 0] 61)) :=
  Or.inl ⟨Nat.le_refl _, .slice none 0 0, heap_alloc_new w _, World.ownsRowF_nil _ _ _ _, by simp [Value.ownBlock]⟩
theorem cell_kept {B : Nat} {w w' : World} (hb : Below B w w') {g j : Nat} (hg : g < B) {v : Value} (h : w.cell? ⟨g, j, none⟩ = some v) : w'.cell? ⟨g, j, none⟩ = some v := by
  rw [World.cell?_of_block (w := w) (a := ⟨g, j, none⟩) (hb.block g hg)]; exact h
theorem box2 (w : World) (x0 x1 : Value) : ∃ w0, w0 = (w.alloc (.cells #[x0, x1] 24)).alloc (.cells #[x0, x1] 24) ∧
    Cel w0 w.heap.size [x0, x1] 24 ∧ Cel w0 (w.heap.size + 1) [x0, x1] 24 ∧ Below w.heap.size w w0 := by
  refine ⟨_, rfl, (Cel.new w [x0, x1] _).alloc _, ?_, by go_grown⟩
  have := Cel.new (w.alloc (.cells #[x0, x1] 24)) [x0, x1] 24
  simpa using this
theorem trim_04 : Lib.trimLeftB ((nineteen 0 ++ nineteen 4).toArray).toList 48 = [52] := by decide

set_option maxRecDepth 100000 in
set_option maxHeartbeats 4000000 in
theorem print_live (s0 : ByteArray) (w : World) (o0 : OkZ true s0) (z0 : s0.size ≤ 100) (e0 : natOf s0 = 4) :
    Calls Tryz.prog 15 #[.agg #[.bool true, .string s0]] w fun e w' => e = .returned (.tuple #[.string ⟨#[45, 52]⟩, .int .i64 0]) ∧ Below w.heap.size w w' := by
  have x0 : M.digs B64 (natOf s0) = [4] := by rw [e0]; exact digs_one (by omega) (by unfold B64; omega)
  have X0 := shut x0
  clear x0 e0
  go_enter Tryz.func15, Tryz.ntmps15
  go_wp2_with fail
  obtain ⟨w0, hw0, k0, k1, hb0⟩ := box2 w (.bool true) (.string s0)
  rw [← hw0]
  clear hw0
  refine (read1_ok _ true s0 w0 k1 o0 (by omega)).mono ?_
  rintro e w1 ⟨g, v0, rfl, kg, r0, hg, hb⟩
  rw [X0.out] at r0
  have m0 := k0.below hb
  have bb := Below.after hb0 hb
  clear k0 k1 X0 o0
  go_wp2
  obtain ⟨w2, hw2⟩ : ∃ w2, w2 = w1.alloc (.cells #[.pointer none, .slice none 0 0] 61) := ⟨_, rfl⟩
  have hb2 : Below w1.heap.size w1 w2 := by rw [hw2]; exact (Below.refl _ _).alloc (Nat.le_refl _) _
  have bld : Lib.IsBuilderF 61 5 w1.heap.size w1.heap.size [] w2 := by rw [hw2]; exact fresh_builder w1
  have kg2 := kg.below hb2
  have r2 := r0.rd.below hb2
  have c0 := cel2_0' kg2
  have c1 := cel2_1' kg2
  have hgl := kg.lt
  have bb2 := Below.after bb hb2
  have m2 := m0.below hb2
  rw [← hw2]
  clear hw2 kg r0
  have H52 := shut (powers_live v0 4 w2.drew (show Rd w2 _ _ from r2))
  obtain ⟨a0, p0, rfl, -, -⟩ := id r2
  simp only [List.length_cons, List.length_nil, Nat.zero_add] at kg2 r2 c1 H52
  clear kg2
  go_region_held3 (fun w' => w'.cell? ⟨g, 1, none⟩ = some (.slice a0 1 p0)) (first | exact c1 | exact c3 | exact c4) (first | (go_at_call 33; refine (H52.out).mono ?_; rintro e w3 ⟨g2, p, cap, rfl, cp, rp, -, hb3'⟩; have hb3 : Below w2.heap.size w2 w3 := ⟨hb3'.os, hb3'.tape, hb3'.output, hb3'.size, hb3'.block⟩; have c3 := cell_kept hb3 (Nat.lt_of_lt_of_le hgl hb2.size) c1) | (go_at_call 32; refine (wd1 4 (by omega) (by omega) w1.heap.size w1.heap.size g2 cap [] _ p w3 (r2.below hb3) cp rp (IsBuilderF_below bld hb3) (by simp) (Nat.le_trans hb2.size hb3.size)).mono ?_; rintro e w4 ⟨rfl, bld4, hb4⟩; have c4 := cell_kept hb4 hgl c3))
  have bl : Lib.IsBuilderF 61 5 w1.heap.size w1.heap.size (Lib.byteCells (nineteen 0 ++ nineteen 4)) w4 := by
    have e : Lib.byteCells (nineteen 0 ++ nineteen 4) = [] ++ Lib.byteCells (nineteen 0) ++ Lib.byteCells (nineteen 4) := by
      unfold Lib.byteCells
      rw [List.map_append, List.nil_append]
    rw [e]
    exact Or.inr bld4
  have hB4 : w1.heap.size ≤ w4.heap.size := Nat.le_trans (Nat.le_trans hb2.size hb3.size) hb4.size
  have HS := shut (string_any_f _ _ _ w4 bl hB4)
  have hwl : w.heap.size < w1.heap.size := m0.lt
  have n0 := cell_kept (hb3.mono hb2.size |>.trans hb4) hwl (cel2_0' m2)
  have bb4 : Below w.heap.size w w4 := (bb2.trans (hb3.mono (Nat.le_trans bb.size hb2.size))).trans (hb4.mono bb.size)
  clear bl bld4 bld c1 c3 c4 cp rp r2 H52 hb3' hb4 hb3 m2
  go_wp2_with fail
  refine (HS.out).mono ?_
  rintro e w5 ⟨rfl, -, hb5⟩
  have n0 := cell_kept hb5 hwl n0
  have bb5 := bb4.trans (hb5.mono bb.size)
  go_wp2_with fail
  refine (strings_TrimLeft_one _ 48 (by decide) w5).mono ?_
  rintro e w6 ⟨rfl, hw⟩
  subst hw
  rw [trim_04]
  go_wp2
  go_ret2
  exact ⟨rfl, bb5⟩
end Go.Proofs.YtimmgjlojplccaaGreatDoor
namespace Go.Proofs.YtimmgjlojplccaaGreatDoor
open Go.RowKit Go.Shelf

theorem zI_form (z : Int) (k : Nat) (hz : z.natAbs < 256 ^ k) : ∃ n s, zI z = .agg #[.bool n, .string s] ∧ OkZ n s ∧ s.size ≤ k ∧ zOf n s = z ∧ natOf s = z.natAbs ∧ n = decide (z < 0) :=
  ⟨_, _, rfl, okZ_zI z, strOf_lt hz, zOf_zI z, natOf_strOf _, rfl⟩

set_option maxRecDepth 100000 in
set_option maxHeartbeats 4000000 in
theorem live2_any (w : World) (hT : Tab w) : Calls Tryz.prog 7 #[] w fun e w' => e = .returned (.bool true) ∧ Below w.heap.size w w' := by
  obtain ⟨nf, sf, hf, hok, hsz, hz, hn, hneg⟩ : ∃ (nf : Int → Bool) (sf : Int → ByteArray), (∀ z, zI z = .agg #[.bool (nf z), .string (sf z)]) ∧ (∀ z, OkZ (nf z) (sf z)) ∧ (∀ z : Int, -100 ≤ z → z ≤ 100 → (sf z).size ≤ 1) ∧ (∀ z, zOf (nf z) (sf z) = z) ∧ (∀ z, natOf (sf z) = z.natAbs) ∧ (∀ z, nf z = decide (z < 0)) :=
    ⟨fun z => decide (z < 0), fun z => strOf z.natAbs, fun _ => rfl, okZ_zI, fun z h1 h2 => strOf_lt (by simp; omega), zOf_zI, fun z => natOf_strOf _, fun _ => rfl⟩
  have hD : ∀ w, Calls Tryz.prog 13 #[.agg #[.bool (nf (-7)), .string (sf (-7))], .agg #[.bool (nf 2), .string (sf 2)]] w fun e w' => e = .returned (.tuple #[.agg #[.bool (nf (-4)), .string (sf (-4))], .agg #[.bool (nf 1), .string (sf 1)], .int .i64 0]) ∧ Below w.heap.size w w' := fun w => by
    have := zdiv_ok _ _ _ _ w (hok (-7)) (hok 2) (Nat.le_trans (hsz _ (by omega) (by omega)) (by omega)) (Nat.le_trans (hsz _ (by omega) (by omega)) (by omega)) (by rw [hn]; decide)
    rw [hz, hz, show (-7 : Int) / 2 = -4 from by decide, show (-7 : Int) % 2 = 1 from by decide, hf (-4), hf 1] at this
    exact this
  have hG : ∀ w, Tab w → Calls Tryz.prog 14 #[.agg #[.bool (nf (-12)), .string (sf (-12))], .agg #[.bool (nf 18), .string (sf 18)]] w fun e w' => e = .returned (.tuple #[.agg #[.bool (nf 6), .string (sf 6)], .int .i64 0]) ∧ Below w.heap.size w w' := fun w h => by
    have := zgcd_live _ _ _ _ w (hok (-12)) (hok 18) (Nat.le_trans (hsz _ (by omega) (by omega)) (by omega)) (Nat.le_trans (hsz _ (by omega) (by omega)) (by omega)) (by rw [hn]; decide) (by rw [hn]; decide) h
    rw [hf 6] at this
    exact this
  have hO : ∀ (z : Int) (w : World), -100 ≤ z → z ≤ 100 → Calls Tryz.prog 22 #[.int .i64 z] w fun e w' => e = .returned (.agg #[.bool (nf z), .string (sf z)]) ∧ Below w.heap.size w w' := fun z w h1 h2 => by
    have := zof_any z (by omega) (by omega) w
    rw [hf z] at this
    exact this
  have hR : ∀ (z : Int) (w : World), -100 ≤ z → z ≤ 100 → Calls Tryz.prog 19 #[.int .i64 z] w fun e w' => e = .returned (.agg #[.bool (nf z), .string (sf z)]) ∧ Below w.heap.size w w' := fun z w h1 h2 => by
    have := rof_any z (by omega) (by omega) w
    rw [hf z] at this
    exact this
  have hP : ∀ w, Calls Tryz.prog 15 #[.agg #[.bool (nf (-4)), .string (sf (-4))]] w fun e w' => e = .returned (.tuple #[.string ⟨#[45, 52]⟩, .int .i64 0]) ∧ Below w.heap.size w w' := fun w => by
    have t : nf (-4) = true := by rw [hneg]; rfl
    have o := hok (-4)
    rw [t] at o ⊢
    exact print_live _ w o (Nat.le_trans (hsz _ (by omega) (by omega)) (by omega)) (by rw [hn]; decide)
  have HO := shut hO
  have HR := shut hR
  have HD := shut hD
  have HG := shut hG
  have HP := shut hP
  have HA := shut parse_live
  rw [zI_zero] at HA
  clear hD hG hO hR hP hf hok hsz hz hn hneg
  go_enter Tryz.func7, Tryz.ntmps7
  go_wp2_with fail
  refine (HO.out _ _ (by omega) (by omega)).mono ?_
  rintro e w1 ⟨rfl, b1⟩
  go_wp2_with fail
  refine (HO.out _ _ (by omega) (by omega)).mono ?_
  rintro e w2 ⟨rfl, b2⟩
  go_wp2_with fail
  refine (HD.out _).mono ?_
  rintro e w3 ⟨rfl, b3⟩
  replace b3 := Below.after (Below.after b1 b2) b3
  clear b1 b2 HD
  go_wp2_with fail
  obtain ⟨w4, hw4⟩ : ∃ w4, w4 = (w3.alloc (.cells #[.bool (nf (-4)), .string (sf (-4))] 24)).alloc (.cells #[.bool (nf 1), .string (sf 1)] 24) := ⟨_, rfl⟩
  have k1 : Cel w4 w3.heap.size [.bool (nf (-4)), .string (sf (-4))] 24 := by rw [hw4]; exact (Cel.new w3 _ _).alloc _
  have k2 : Cel w4 (w3.heap.size + 1) [.bool (nf 1), .string (sf 1)] 24 := by
    rw [hw4]
    have := Cel.new (w3.alloc (.cells #[.bool (nf (-4)), .string (sf (-4))] 24)) [.bool (nf 1), .string (sf 1)] 24
    simpa using this
  have b4 : Below w.heap.size w w4 := by rw [hw4]; exact (b3.alloc b3.size _).alloc (by simp; exact Nat.le_succ_of_le b3.size) _
  rw [← hw4]
  clear hw4 b3
  refine (HO.out _ w4 (by omega) (by omega)).mono ?_
  rintro e w5 ⟨rfl, b5⟩
  go_wp2_with fail
  refine (HO.out _ w5 (by omega) (by omega)).mono ?_
  rintro e w6 ⟨rfl, b6⟩
  have c6 := Below.after b5 b6
  replace k1 := k1.below c6
  replace k2 := k2.below c6
  replace b4 := Below.after b4 c6
  clear b5 b6 c6 HO
  go_wp2_with fail
  refine (HG.out w6 (hT.below b4)).mono ?_
  rintro e w7 ⟨rfl, b7⟩
  replace k1 := k1.below b7
  replace k2 := k2.below b7
  replace b4 := Below.after b4 b7
  clear b7 HG hT
  go_wp2_with fail
  obtain ⟨w8, hw8⟩ : ∃ w8, w8 = w7.alloc (.cells #[.bool (nf 6), .string (sf 6)] 24) := ⟨_, rfl⟩
  have k3 : Cel w8 w7.heap.size [.bool (nf 6), .string (sf 6)] 24 := by rw [hw8]; exact Cel.new w7 _ _
  have b8 : Below w7.heap.size w7 w8 := by rw [hw8]; exact (Below.refl _ _).alloc (Nat.le_refl _) _
  rw [← hw8]
  clear hw8
  replace k1 := k1.below b8
  replace k2 := k2.below b8
  replace b4 := Below.after b4 b8
  clear b8
  refine (HA.out w8).mono ?_
  rintro e w9 ⟨rfl, b9⟩
  replace k1 := k1.below b9
  replace k2 := k2.below b9
  replace k3 := k3.below b9
  replace b4 := Below.after b4 b9
  clear b9 HA
  have d0 := cel2_0' (k1.alloc (.cells #[.bool false, .string { data := #[] }] 24))
  have d1 := cel2_1' (k1.alloc (.cells #[.bool false, .string { data := #[] }] 24))
  go_wp2_with fail
  obtain ⟨w10, hw10⟩ : ∃ w10, w10 = w9.alloc (.cells #[.bool false, .string { data := #[] }] 24) := ⟨_, rfl⟩
  have b10 : Below w9.heap.size w9 w10 := by rw [hw10]; exact (Below.refl _ _).alloc (Nat.le_refl _) _
  rw [← hw10]
  clear hw10 d0 d1
  refine (HP.out w10).mono ?_
  rintro e w11 ⟨rfl, b11⟩
  have c11 := Below.after b10 b11
  replace k1 := k1.below c11
  replace k2 := k2.below c11
  replace k3 := k3.below c11
  replace b4 := Below.after b4 c11
  clear c11 b10 b11 HP
  go_wp2
  go_region_held3 (fun w' => w'.cell? ⟨w3.heap.size, 0, none⟩ = some (.bool (nf (-4))) ∧ w'.cell? ⟨w3.heap.size, 1, none⟩ = some (.string (sf (-4))) ∧ w'.cell? ⟨w3.heap.size + 1, 0, none⟩ = some (.bool (nf 1)) ∧ w'.cell? ⟨w3.heap.size + 1, 1, none⟩ = some (.string (sf 1)) ∧ w'.cell? ⟨w7.heap.size, 0, none⟩ = some (.bool (nf 6)) ∧ w'.cell? ⟨w7.heap.size, 1, none⟩ = some (.string (sf 6))) (exact ⟨cel2_0' k1, cel2_1' k1, cel2_0' k2, cel2_1' k2, cel2_0' k3, cel2_1' k3⟩) (first | (go_at_call 19; refine (HR.out _ _ (by omega) (by omega)).mono ?_; rintro e wn ⟨rfl, bn⟩; replace k1 := k1.below ⟨bn.os, bn.tape, bn.output, bn.size, bn.block⟩; replace k2 := k2.below ⟨bn.os, bn.tape, bn.output, bn.size, bn.block⟩; replace k3 := k3.below ⟨bn.os, bn.tape, bn.output, bn.size, bn.block⟩; replace b4 := Below.after b4 ⟨bn.os, bn.tape, bn.output, bn.size, bn.block⟩))
  go_wp2
  go_ret
  exact ⟨rfl, b4⟩
end Go.Proofs.YtimmgjlojplccaaGreatDoor
namespace Go.Proofs.YtimmgjlojplccaaGreatDoor
open Go.RowKit Go.Shelf

set_option maxHeartbeats 1000000 in
theorem small_yes (n0 n1 : Bool) (s0 s1 : ByteArray) (w : World) (h0 : s0.size ≤ 400) (h1 : s1.size ≤ 400) :
    Calls Tryz.prog 6 #[.agg #[.bool n0, .string s0], .agg #[.bool n1, .string s1]] w fun e w' => e = .returned (.bool true) ∧ Below w.heap.size w w' := by
  have d1 : Hid (decide ((s1.size : Int) ≤ 400) = true) := by show _ = _; simp; omega
  go_enter Tryz.func6, Tryz.ntmps6
  go_wp2
  go_ret
  exact ⟨by show Ending.returned (.bool (decide ((s1.size : Int) ≤ 400))) = _; rw [d1.out], by go_grown⟩
set_option maxHeartbeats 1000000 in
theorem small_no (n0 n1 : Bool) (s0 s1 : ByteArray) (w : World) (h : ¬ (s0.size ≤ 400 ∧ s1.size ≤ 400)) :
    Calls Tryz.prog 6 #[.agg #[.bool n0, .string s0], .agg #[.bool n1, .string s1]] w fun e w' => e = .returned (.bool false) ∧ Below w.heap.size w w' := by
  by_cases h0 : s0.size ≤ 400
  · have h1 : ¬ s1.size ≤ 400 := fun h1 => h ⟨h0, h1⟩
    clear h
    have d1 : Hid (decide ((s1.size : Int) ≤ 400) = false) := by show _ = _; simp; omega
    go_enter Tryz.func6, Tryz.ntmps6
    go_wp2
    go_ret
    exact ⟨by show Ending.returned (.bool (decide ((s1.size : Int) ≤ 400))) = _; rw [d1.out], by go_grown⟩
  · clear h
    go_enter Tryz.func6, Tryz.ntmps6
    go_wp2
    go_ret
    exact ⟨rfl, by go_grown⟩
theorem bx3 (w : World) (x0 x1 y0 y1 z0 z1 : Value) : ∃ w0, w0 = ((w.alloc (.cells #[x0, x1] 24)).alloc (.cells #[y0, y1] 24)).alloc (.cells #[z0, z1] 24) ∧
    Cel w0 w.heap.size [x0, x1] 24 ∧ Cel w0 (w.heap.size + 1) [y0, y1] 24 ∧ Cel w0 (w.heap.size + 1 + 1) [z0, z1] 24 ∧ Below w.heap.size w w0 := by
  refine ⟨_, rfl, ((Cel.new w [x0, x1] _).alloc _).alloc _, ?_, ?_, by go_grown⟩
  · have := (Cel.new (w.alloc (.cells #[x0, x1] 24)) [y0, y1] 24).alloc (.cells #[z0, z1] 24)
    simpa using this
  · have := Cel.new ((w.alloc (.cells #[x0, x1] 24)).alloc (.cells #[y0, y1] 24)) [z0, z1] 24
    simpa using this
theorem bx2 (w : World) (x0 x1 y0 y1 : Value) : ∃ w0, w0 = (w.alloc (.cells #[x0, x1] 24)).alloc (.cells #[y0, y1] 24) ∧
    Cel w0 w.heap.size [x0, x1] 24 ∧ Cel w0 (w.heap.size + 1) [y0, y1] 24 ∧ Below w.heap.size w w0 := by
  refine ⟨_, rfl, (Cel.new w [x0, x1] _).alloc _, ?_, by go_grown⟩
  have := Cel.new (w.alloc (.cells #[x0, x1] 24)) [y0, y1] 24
  simpa using this
/-- A number that has come out lies in a block of its own. -/
theorem bx1 (w : World) (x0 x1 : Value) : ∃ w0, w0 = w.alloc (.cells #[x0, x1] 24) ∧ Cel w0 w.heap.size [x0, x1] 24 ∧ Below w.heap.size w w0 :=
  ⟨_, rfl, Cel.new w _ _, (Below.refl _ _).alloc (Nat.le_refl _) _⟩
end Go.Proofs.YtimmgjlojplccaaGreatDoor
namespace Go.Proofs.YtimmgjlojplccaaGreatDoor
open Go.RowKit Go.Shelf

/-- At most k bytes. -/
def Bd (z : Int) (k : Nat) : Prop := z.natAbs < 256 ^ k
theorem pow256_pos (k : Nat) : 0 < 256 ^ k := Nat.pow_pos (by omega)
theorem Bd.zero (k : Nat) : Bd 0 k := pow256_pos k
theorem Bd.mono {z : Int} {j k : Nat} (h : Bd z j) (hk : j ≤ k) : Bd z k := Nat.lt_of_lt_of_le h (Nat.pow_le_pow_right (by omega) hk)
theorem bd_zOf {n : Bool} {s : ByteArray} {k : Nat} (h : s.size ≤ k) : Bd (zOf n s) k := by
  unfold Bd
  rw [natAbs_zOf]
  exact Nat.lt_of_lt_of_le (natOf_lt s) (Nat.pow_le_pow_right (by omega) h)
theorem Bd.add {x y : Int} {k : Nat} (hx : Bd x k) (hy : Bd y k) : Bd (x + y) (k + 1) := by
  unfold Bd at *
  rw [Nat.pow_succ]
  generalize 256 ^ k = p at *
  omega
theorem Bd.sub {x y : Int} {k : Nat} (hx : Bd x k) (hy : Bd y k) : Bd (x - y) (k + 1) := by
  unfold Bd at *
  rw [Nat.pow_succ]
  generalize 256 ^ k = p at *
  omega
theorem Bd.mul {x y : Int} {j k : Nat} (hx : Bd x j) (hy : Bd y k) : Bd (x * y) (j + k) := by
  unfold Bd at *
  rw [Int.natAbs_mul, Nat.pow_add]
  exact Nat.mul_lt_mul'' hx hy
theorem Bd.ite {c : Prop} [Decidable c] {x : Int} {k : Nat} (h : Bd x k) : Bd (if c then x else 0) k := by
  by_cases hc : c
  · rwa [if_pos hc]
  · rw [if_neg hc]; exact Bd.zero k
theorem Bd.size {z : Int} {k : Nat} (h : Bd z k) : (strOf z.natAbs).size ≤ k := strOf_lt h

/-- A sign and bytes of each number, behind names. -/
theorem named : ∃ (nf : Int → Bool) (sf : Int → ByteArray), (∀ z, zI z = .agg #[.bool (nf z), .string (sf z)]) ∧ (∀ z, OkZ (nf z) (sf z)) ∧ (∀ z k, Bd z k → (sf z).size ≤ k) ∧ (∀ z, zOf (nf z) (sf z) = z) ∧ (∀ n s, OkZ n s → nf (zOf n s) = n ∧ sf (zOf n s) = s) ∧ nf 0 = false ∧ sf 0 = ByteArray.empty :=
  ⟨fun z => decide (z < 0), fun z => strOf z.natAbs, fun _ => rfl, okZ_zI, fun z k h => h.size, zOf_zI, fun n s h => by
    have e := zV_ok h
    unfold zI zV at e
    simp only [Value.agg.injEq] at e
    have e' : [Value.bool n, .string s] = [.bool (decide (zOf n s < 0)), .string (strOf (zOf n s).natAbs)] := congrArg Array.toList e
    simp only [List.cons.injEq, Value.bool.injEq, Value.string.injEq] at e'
    exact ⟨e'.1.symm, e'.2.1.symm⟩, rfl, rfl⟩
theorem chk_named {n : Bool} {s : ByteArray} (h : OkZ n s) (hs : s.size ≤ 32000) : chk n s = 0 := (chk_ok hs).2 h
end Go.Proofs.YtimmgjlojplccaaGreatDoor
