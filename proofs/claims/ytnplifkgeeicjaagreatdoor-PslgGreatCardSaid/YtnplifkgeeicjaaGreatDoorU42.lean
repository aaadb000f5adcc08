/-
  a row, read; two lists of points, of segments, held against each other.
  counts' digits; a line's tokens in one text.
  a line's tokens in one text.
  rows that a region lays at open times.
  two lists held against each other.
  the texts of numbers.
-/
import Derived.Test.YtnplifkgeeicjaaGreatDoorU39
set_option maxRecDepth 20000
set_option maxHeartbeats 4000000
namespace Go.Proofs.YtnplifkgeeicjaaGreatDoor
open Go.RowKit
theorem flat_at {α : Type} (f : α → List Value) (z : Nat) (hf : ∀ a, (f a).length = z) : ∀ (l : List α) (j : Nat) (a : α) (i : Nat) (v : Value), l[j]? = some a → (f a)[i]? = some v → (l.flatMap f)[z * j + i]? = some v
 | [], _, _, _, _, h, _ => by simp at h
 | b :: l, 0, a, i, v, h, hv => by
  have : b = a := by simpa using h
  subst this
  rw [List.flatMap_cons, Nat.mul_zero, Nat.zero_add, List.getElem?_append_left (List.getElem?_eq_some_iff.1 hv).1]
  exact hv
 | b :: l, j + 1, a, i, v, h, hv => by
  have ih := flat_at f z hf l j a i v (by simpa using h) hv
  rw [List.flatMap_cons, List.getElem?_append_right (by rw [hf, Nat.mul_succ]; omega), hf, show z * (j + 1) + i - z = z * j + i by rw [Nat.mul_succ]; omega]
  exact ih
def RowR (w : World) (z : Nat) (v : Value) (l : List (List Value)) : Prop :=
 ∃ a c, v = .slice a l.length c ∧ l.length ≤ c ∧ ∀ j x, l[j]? = some x → ∃ g o, a = some ⟨g, o, none⟩ ∧ g < w.heap.size ∧ w.rangeAt g (o + j * z) x
theorem RowR.of {α : Type} {w : World} {B z : Nat} {ty : TypeId} {v : Value} {l : List α} (f : α → List Value) (hf : ∀ a, (f a).length = z) (h : w.ownsRow B ty z v l.length (l.flatMap f)) : RowR w z v (l.map f) := by
 have hc := fun g hg => h.cells (g := g) hg
 have hlt := h.lt
 rcases h.2 with ⟨rfl, hn⟩ | ⟨g, cap, cur, rfl, hb, hg, hcap, -⟩
 ·have : l = [] := List.length_eq_zero_iff.mp hn
  subst this
  exact ⟨none, 0, rfl, Nat.le_refl _, fun j x h => by simp at h⟩
 ·refine ⟨_, cap, by rw [List.length_map], by rw [List.length_map]; exact hcap, fun j x hx => ⟨g, 0, rfl, (hlt g rfl).2, fun i v hv => ?_⟩⟩
  rw [List.getElem?_map] at hx
  obtain ⟨a, ha, rfl⟩ := Option.map_eq_some_iff.1 hx
  have h1 := hc g rfl (z * j + i) v (flat_at f z hf l j a i v ha hv)
  rw [Addr.add_mid, Nat.mul_comm z j, show 0 + (j * z + i) = 0 + j * z + i by omega] at h1
  exact h1
theorem RowR.below {w w' : World} {z : Nat} {v : Value} {l : List (List Value)} (h : RowR w z v l) (k : Below w.heap.size w w') : RowR w' z v l := by
 obtain ⟨a, c, rfl, hcp, hr⟩ := h
 refine ⟨a, c, rfl, hcp, fun j x hx => ?_⟩
 obtain ⟨g, o, rfl, hg, hc⟩ := hr j x hx
 exact ⟨g, o, rfl, Nat.lt_of_lt_of_le hg k.size, fun i v hv => cell_below (hc i v hv) k⟩
theorem RowR.str {w : World} {v : Value} {t : ByteArray} {r : List ByteArray} (h : RowR w 1 v ((t :: r).map fun u => [Value.string u])) :
  ∃ g o c, v = .slice (some ⟨g, o, none⟩) (r.length + 1) c ∧ r.length + 1 ≤ c ∧ g < w.heap.size ∧ ∀ j u, (t :: r)[j]? = some u → w.cell? ⟨g, o + j, none⟩ = some (.string u) := by
 obtain ⟨a, c, rfl, hcp, hr⟩ := h
 obtain ⟨g, o, rfl, hg, -⟩ := hr 0 [.string t] rfl
 rw [List.length_map, List.length_cons] at hcp
 refine ⟨g, o, c, by rw [List.length_map, List.length_cons], hcp, hg, fun j u hu => ?_⟩
 obtain ⟨g', o', e, -, hc⟩ := hr j [.string u] (by rw [List.getElem?_map, hu]; rfl)
 injection e with e
 injection e with e1 e2
 subst e1 e2
 have := hc 0 (.string u) rfl
 rwa [Nat.mul_one, Nat.add_zero] at this
theorem cP_len (p : Q3 × Q3) : (cP p).length = 6 := rfl
theorem cS_len (p : Nat × Nat × Bool) : (cS p).length = 3 := rfl
abbrev dg (n : Nat) : ByteArray := ⟨(Lib.decDigits n).toArray⟩
theorem fint_any (n : Nat) (h : n < 100) (w : World) : Calls Tryz.prog 188 #[.int .i64 (n : Nat), .int .i64 10] w (Re w (.string (dg n))) := by
 have h1 : (0 : Int) ≤ (n : Int) := by omega
 have h2 : (n : Int) < 100 := by omega
 have HS := shut (fun w1 => internal_strconv_small n h w1)
 go_enter Tryz.func188, Tryz.ntmps188
 go_wp2_with (go_at_call 218; refine (HS.out _).mono ?_; rintro e w1 ⟨rfl, rfl⟩)
 go_ret
 exact ⟨rfl, Below.refl _ _⟩
theorem itoa2_any (n : Nat) (h : n < 100) (w : World) : Calls Tryz.prog 154 #[.int .i64 (n : Nat)] w (Re w (.string (dg n))) := by
 have HS := shut (fun w1 => fint_any n h w1)
 go_enter Tryz.func154, Tryz.ntmps154
 go_wp2_with (go_at_call 188; refine (HS.out _).mono ?_; rintro e w1 ⟨rfl, b⟩)
 go_ret
 exact ⟨rfl, b⟩
theorem itoa_any (n : Nat) (h : n < 100) (w : World) : Calls Tryz.prog 96 #[.int .i64 (n : Nat)] w (Re w (.string (dg n))) := by
 have HS := shut (fun w1 => itoa2_any n h w1)
 go_enter Tryz.func96, Tryz.ntmps96
 go_wp2_with (go_at_call 154; refine (HS.out _).mono ?_; rintro e w1 ⟨rfl, b⟩)
 go_ret
 exact ⟨rfl, b⟩
def kd8 (f : Bool) : ByteArray := if f then ⟨#[100]⟩ else ⟨#[110]⟩
theorem kind_any (a b : Nat) (f : Bool) (w : World) : Calls Tryz.prog 98 #[.agg #[.int .i64 (a : Nat), .int .i64 (b : Nat), .bool f]] w (Re w (.string (kd8 f))) := by
 go_enter Tryz.func98, Tryz.ntmps98
 go_upto_region 1 with fail
 obtain ⟨w0, hq, kz, b0⟩ := mk1 w [.int .i64 (a : Nat), .int .i64 (b : Nat), .bool f] 103
 rw [← hq]
 clear hq
 have k2 := kz.cell 2
 have c2 : w0.cell? ⟨w.heap.size, 2, none⟩ = some (.bool f) := k2
 clear k2 kz
 cases f <;> (go_wp2; go_ret; exact ⟨rfl, b0⟩)
def jnL : List ByteArray → List UInt8
 | [] => []
 | t :: r => t.data.toList ++ r.flatMap fun u => 32 :: u.data.toList
theorem writeString_n (B b : Nat) (bs : List Value) (s : ByteArray) (w : World) (h : Lib.BuilderAt 158 5 B b (.pointer (some ⟨b, 0, none⟩)) bs w) (hlen : bs.length + s.size ≤ 140737488355328) (hBw : B ≤ w.heap.size) :
  Calls Tryz.prog 100 #[.pointer (some ⟨b, 0, none⟩), .string s] w fun e w' => e = .returned (.tuple #[.int .i64 s.size, .nilIface]) ∧ (Lib.BuilderAt 158 5 B b (.pointer (some ⟨b, 0, none⟩)) (bs ++ Lib.strCells s) w' ∧ Below B w w') := Any.Builder_WriteString lays166 Extra_105 B b bs s w (Or.inr h) hlen hBw
theorem join_one (t : ByteArray) (v : Value) (w : World) (hr : RowR w 1 v ([t].map fun u => [Value.string u])) :
  Calls Tryz.prog 101 #[v, .string ⟨#[32]⟩] w (Re w (.string ⟨(jnL [t]).toArray⟩)) := by
 obtain ⟨g, o, c, rfl, hcp, hg, hc⟩ := RowR.str hr
 have c0 := hc 0 t rfl
 have c0' : w.cell? ⟨g, o, none⟩ = some (.string t) := c0
 clear hc hr
 go_enter Tryz.func101, Tryz.ntmps101
 go_wp2
 go_ret
 exact ⟨by simp [jnL], Below.refl _ _⟩
theorem join_more (t : ByteArray) (r : List ByteArray) (v : Value) (w : World) (hr : RowR w 1 v ((t :: r).map fun u => [Value.string u])) (hl : r.length ≤ 1000) (h0 : 0 < r.length) (hz : ∀ u, u ∈ t :: r → u.size ≤ 100000) :
  Calls Tryz.prog 101 #[v, .string ⟨#[32]⟩] w (Re w (.string ⟨(jnL (t :: r)).toArray⟩)) := by
 obtain ⟨g, o, c, rfl, hcp, hg, hc⟩ := RowR.str hr
 have HC := shut hc
 have HZ := shut hz
 obtain ⟨n, hn⟩ : ∃ n, n = r.length := ⟨_, rfl⟩
 rw [← hn] at hl h0 hcp ⊢
 have HN := shut hn
 clear hc hz hr hn
 have n0 : ¬ ((n + 1 : Nat) : Int) = 0 := by omega
 have n1 : ¬ ((n + 1 : Nat) : Int) = 1 := by omega
 go_enter Tryz.func101, Tryz.ntmps101
 have hq : ¬ (9223372036854775807 : Int) / (n : Int) ≤ 1 := by
  have : (2 : Int) ≤ (9223372036854775807 : Int) / (n : Int) := Int.le_ediv_of_mul_le (by omega) (by omega)
  omega
 go_upto_region 12 with fail
 clear hq
 go_loopw [5, 41] (fun s i wr => ∃ k S : Nat, k ≤ n + 1 ∧ i = .int .i64 (k : Nat) ∧ s = .int .i64 (S : Nat) ∧ S ≤ n + 100000 * k ∧ wr = w) (fun _ i _ => n + 1 - (intOf i).toNat)
 case atStart => exact ⟨0, n, Nat.zero_le _, rfl, rfl, Nat.le_refl _, rfl⟩
 case round =>
  obtain ⟨k, S, hk, rfl, rfl, hS, rfl⟩ := hrel
  by_cases hgo : k < n + 1
  ·have hgo' : (k : Int) < (n : Int) + 1 := by omega
   have hgo'' : (k : Int) < ((n + 1 : Nat) : Int) := by omega
   obtain ⟨u, hu⟩ : ∃ u, (t :: r)[k]? = some u := ⟨_, List.getElem?_eq_getElem (by rw [List.length_cons, ← HN.out]; exact hgo)⟩
   have cu := HC.out k u hu
   have zu := HZ.out u (List.mem_of_getElem? hu)
   have hb : ¬ (u.size : Int) > 9223372036854775807 - (S : Int) := by omega
   clear hu
   go_wp2
   go_roundw
   case rel => exact ⟨k + 1, S + u.size, by omega, by go_num, by go_num, by omega, trivial⟩
   case measure => simp [intOf]; omega
  ·have hgo' : ¬ (k : Int) < (n : Int) + 1 := by omega
   obtain ⟨w, hw⟩ : ∃ w, w = wr := ⟨_, rfl⟩
   subst hw
   go_upto_region 19 with fail
   obtain ⟨w0, hq, kb, b0⟩ := mk1 w [.pointer none, .slice none 0 0] 158
   rw [← hq]
   clear hq
   have hS' : S ≤ 281474976710656 := by omega
   have HG := Grow_fresh w.heap.size w.heap.size S w0 (Nat.le_refl _) kb b0.size hS'
   go_upto_region 20 with (go_at_call 158; refine HG.mono ?_; rintro e w1 ⟨rfl, A1, b1⟩)
   have HC1 := shut (fun j u hu w2 (b : Below w.heap.size w w2) => cell_below (HC.out j u hu) b)
   have c0 : w1.cell? ⟨g, o, none⟩ = some (.string t) := HC1.out 0 t rfl w1 (b0.trans b1)
   have zt := HZ.out t (by simp)
   have HW := writeString_n w.heap.size w.heap.size [] t w1 A1 (by simp; omega) (Nat.le_trans b0.size b1.size)
   clear HG A1 HC hS' hk hS hgo
   go_upto_region 21 with (go_at_call 100; refine HW.mono ?_; rintro e w2 ⟨rfl, A2, b2⟩)
   have B2 := (b0.trans b1).trans b2
   clear HW c0 b0 b1 b2 kb
   have A3 : Lib.BuilderAt 158 5 w.heap.size w.heap.size (.pointer (some ⟨w.heap.size, 0, none⟩)) (Lib.byteCells t.data.toList) w2 := A2
   clear A2
   go_upto_region 22 with fail
   go_loopw [65] (fun i wr => ∃ (k : Nat) (L : List UInt8), k ≤ n ∧ i = .int .i64 (k : Nat) ∧ Lib.BuilderAt 158 5 w.heap.size w.heap.size (.pointer (some ⟨w.heap.size, 0, none⟩)) (Lib.byteCells L) wr ∧ L.length ≤ 100000 + 100001 * k ∧ Below w.heap.size w wr ∧ Hid (L = t.data.toList ++ (r.take k).flatMap fun u => 32 :: u.data.toList)) (fun i _ => n - (intOf i).toNat)
   case atStart => exact ⟨0, t.data.toList, Nat.zero_le _, rfl, A3, by simpa using zt, B2, by show _ = _; simp⟩
   case round =>
    obtain ⟨j, L, hj, rfl, A, hL, B, HL⟩ := hrel
    by_cases hg2 : j < n
    ·have h1 : (j : Int) < (n : Int) := by omega
     obtain ⟨u, hu⟩ : ∃ u, r[j]? = some u := ⟨_, List.getElem?_eq_getElem (by rw [← HN.out]; exact hg2)⟩
     have cu := HC1.out (j + 1) u (by rw [List.getElem?_cons_succ]; exact hu) wr B
     have cu' : wr.cell? ⟨g, o + 1 + j, none⟩ = some (.string u) := by rw [show o + 1 + j = o + (j + 1) by omega]; exact cu
     have zu := HZ.out u (List.mem_cons_of_mem _ (List.mem_of_getElem? hu))
     have e1 : L ++ 32 :: u.data.toList = t.data.toList ++ (r.take (j + 1)).flatMap fun u => 32 :: u.data.toList := by
      rw [List.take_add_one, hu, HL.out]; simp
     have HE := shut e1
     have hsz := B.size
     clear e1 hu cu HL
     have HW := shut (writeString_n w.heap.size w.heap.size (Lib.byteCells L) ⟨#[32]⟩ wr A (by rw [Lib.byteCells_length]; show L.length + 1 ≤ _; omega) hsz)
     go_upto_region 25 with (go_at_call 100; refine HW.out.mono ?_; rintro e w4 ⟨rfl, A4, b4⟩)
     have HX := shut (writeString_n w.heap.size w.heap.size (Lib.byteCells L ++ Lib.strCells ⟨#[32]⟩) u w4 A4 (by rw [List.length_append, Lib.byteCells_length]; show L.length + 1 + u.size ≤ _; omega) (Nat.le_trans hsz b4.size))
     go_upto_region 26 with (go_at_call 100; refine HX.out.mono ?_; rintro e w5 ⟨rfl, A5, b5⟩)
     have B5 := (B.trans b4).trans b5
     have A6 : Lib.BuilderAt 158 5 w.heap.size w.heap.size (.pointer (some ⟨w.heap.size, 0, none⟩)) (Lib.byteCells (L ++ 32 :: u.data.toList)) w5 := by
      rw [show Lib.byteCells (L ++ 32 :: u.data.toList) = (Lib.byteCells L ++ Lib.strCells ⟨#[32]⟩) ++ Lib.strCells u by simp [Lib.byteCells, Lib.strCells]]
      exact A5
     have hlen : (L ++ 32 :: u.data.toList).length ≤ 100000 + 100001 * (j + 1) := by
      rw [List.length_append, List.length_cons, show u.data.toList.length = u.size from Array.length_toList]
      omega
     clear HW HX A A4 A5 b4 b5 B cu'
     go_wp2
     go_roundw
     case rel => exact ⟨j + 1, L ++ 32 :: u.data.toList, by omega, by go_num, A6, hlen, B5, HE.out⟩
     case measure => simp [intOf]; omega
    ·have h1 : ¬ (j : Int) < (n : Int) := by omega
     have hjn : j = r.length := by rw [← HN.out]; omega
     have e2 : L = jnL (t :: r) := by rw [HL.out, jnL, hjn, List.take_length]
     have HS := shut (String_any w.heap.size w.heap.size L wr (Or.inr A) B.size)
     rw [e2] at HS
     clear hjn e2 HL A hL
     go_wp2_with (go_at_call 102; refine HS.out.mono ?_; rintro e w6 ⟨rfl, b6⟩)
     go_ret
     exact ⟨rfl, B.trans b6⟩
def PtB (W : World) (z : List Value) (t : TypeId) (v : Value) (w : World) : Prop := ∃ g, v = .slice (some ⟨g, 0, none⟩) 1 1 ∧ W.heap.size ≤ g ∧ Cel w g z t
theorem PtB.below {W w w' : World} {z : List Value} {t : TypeId} {v : Value} (h : PtB W z t v w) (hb : Below w.heap.size w w') : PtB W z t v w' := by
 obtain ⟨g, h1, h2, h3⟩ := h
 exact ⟨g, h1, h2, h3.below hb⟩
theorem WA.rows3 {P : Program} {ops : Array Oper} {Q : Exit → Act → World → Prop} {w W : World} {o1 o2 o3 oc : Oper} {L : Bool → Bool → Bool → Array Bool} {A : Value → Value → Value → Act} {z1 z2 z3 : List Value} {t : TypeId} (c i1 i2 i3 : Nat) (r1 r2 r3 : Bool)
  (hc : ops[c]? = some oc) (h1 : ops[i1]? = some o1) (h2 : ops[i2]? = some o2) (h3 : ops[i3]? = some o3) (bW : SB W w)
  (ca : ∀ b1 b2 b3 x1 x2 x3 w', (b1 = true → PtB W z1 t x1 w') → (b2 = true → PtB W z2 t x2 w') → (b3 = true → PtB W z3 t x3 w') → (r1 = true → b1 = true) → (r2 = true → b2 = true) → (r3 = true → b3 = true) → SB W w' → Below w.heap.size w w' → ∀ K : Act → World → Prop, Shut (∀ a w'', SB W w'' → (SB W w'' → WA P ops Q (SB W) ((L b1 b2 b3).setIfInBounds c true) a w'') → K a w'') → if Region.wanted oc (yielded ops (A x1 x2 x3).tmps) = true then Oper.wp P oc (A x1 x2 x3) w' K Q else K ((A x1 x2 x3).put oc.dst undef) w')
  (al1 : ∀ x1 x2 x3 w', Region.wanted o1 (yielded ops (A x1 x2 x3).tmps) = true ∧ (execOp (A x1 x2 x3).eval o1).run P w' = .ok (.value (.slice (some ⟨w'.heap.size, 0, none⟩) 1 1)) (w'.alloc (.cells z1.toArray t)) ∧ ∀ u, (A x1 x2 x3).put o1.dst u = A u x2 x3 := by intros _ _ _ _; exact ⟨by rfl, by go_simp, fun _ => by kernel_rfl⟩)
  (al2 : ∀ x1 x2 x3 w', Region.wanted o2 (yielded ops (A x1 x2 x3).tmps) = true ∧ (execOp (A x1 x2 x3).eval o2).run P w' = .ok (.value (.slice (some ⟨w'.heap.size, 0, none⟩) 1 1)) (w'.alloc (.cells z2.toArray t)) ∧ ∀ u, (A x1 x2 x3).put o2.dst u = A x1 u x3 := by intros _ _ _ _; exact ⟨by rfl, by go_simp, fun _ => by kernel_rfl⟩)
  (al3 : ∀ x1 x2 x3 w', Region.wanted o3 (yielded ops (A x1 x2 x3).tmps) = true ∧ (execOp (A x1 x2 x3).eval o3).run P w' = .ok (.value (.slice (some ⟨w'.heap.size, 0, none⟩) 1 1)) (w'.alloc (.cells z3.toArray t)) ∧ ∀ u, (A x1 x2 x3).put o3.dst u = A x1 x2 u := by intros _ _ _ _; exact ⟨by rfl, by go_simp, fun _ => by kernel_rfl⟩)
  (hL1 : ∀ b1 b2 b3, (L b1 b2 b3).setIfInBounds i1 true = L true b2 b3 := by intro b1 b2 b3; cases b1 <;> cases b2 <;> cases b3 <;> kernel_rfl)
  (hL2 : ∀ b1 b2 b3, (L b1 b2 b3).setIfInBounds i2 true = L b1 true b3 := by intro b1 b2 b3; cases b1 <;> cases b2 <;> cases b3 <;> kernel_rfl)
  (hL3 : ∀ b1 b2 b3, (L b1 b2 b3).setIfInBounds i3 true = L b1 b2 true := by intro b1 b2 b3; cases b1 <;> cases b2 <;> cases b3 <;> kernel_rfl)
  (hR : ∀ b1 b2 b3, Region.ready .any ops (L b1 b2 b3) ≠ [] ∧ ∀ i ∈ Region.ready .any ops (L b1 b2 b3), (i = c ∧ (r1 = true → b1 = true) ∧ (r2 = true → b2 = true) ∧ (r3 = true → b3 = true)) ∨ i = i1 ∨ i = i2 ∨ i = i3) :
  ∀ b1 b2 b3 x1 x2 x3, (b1 = true → PtB W z1 t x1 w) → (b2 = true → PtB W z2 t x2 w) → (b3 = true → PtB W z3 t x3 w) → WA P ops Q (SB W) (L b1 b2 b3) (A x1 x2 x3) w := by
 intro b1 b2 b3 x1 x2 x3 f1 f2 f3
 refine WA.runs (fun l a w' => WA P ops Q (SB W) l a w' ∨ ∃ b1 b2 b3 x1 x2 x3, l = L b1 b2 b3 ∧ a = A x1 x2 x3 ∧ (b1 = true → PtB W z1 t x1 w') ∧ (b2 = true → PtB W z2 t x2 w') ∧ (b3 = true → PtB W z3 t x3 w') ∧ SB W w' ∧ Below w.heap.size w w') ?_ (Or.inr ⟨b1, b2, b3, x1, x2, x3, rfl, rfl, f1, f2, f3, bW, Below.refl _ _⟩)
 rintro l a w' (h | ⟨b1, b2, b3, x1, x2, x3, rfl, rfl, f1, f2, f3, bw, bn⟩)
 ·exact Or.inl h
 ·refine Or.inr ⟨(hR b1 b2 b3).1, fun i hi => ?_⟩
  rcases (hR b1 b2 b3).2 i hi with ⟨rfl, q1, q2, q3⟩ | rfl | rfl | rfl
  ·exact wpOp_step hc (fun K hK => ca b1 b2 b3 x1 x2 x3 w' f1 f2 f3 q1 q2 q3 bw bn K (fun a w'' hS hW => hK _ _ ⟨hS, Or.inl (hW hS)⟩))
  ·obtain ⟨hw, hr, hp⟩ := al1 x1 x2 x3 w'
   refine wpOp_step h1 (fun K hK => ?_)
   rw [if_pos hw]
   unfold Oper.wp
   rw [hr]
   simp only [Oper.upon]
   exact hK _ _ ⟨ba2 bw, Or.inr ⟨true, b2, b3, _, x2, x3, hL1 b1 b2 b3, hp _, fun _ => ⟨_, rfl, bw.size, Cel.new w' z1 t⟩, fun e => (f2 e).below (bel_al _ _), fun e => (f3 e).below (bel_al _ _), ba2 bw, ba2 bn⟩⟩
  ·obtain ⟨hw, hr, hp⟩ := al2 x1 x2 x3 w'
   refine wpOp_step h2 (fun K hK => ?_)
   rw [if_pos hw]
   unfold Oper.wp
   rw [hr]
   simp only [Oper.upon]
   exact hK _ _ ⟨ba2 bw, Or.inr ⟨b1, true, b3, x1, _, x3, hL2 b1 b2 b3, hp _, fun e => (f1 e).below (bel_al _ _), fun _ => ⟨_, rfl, bw.size, Cel.new w' z2 t⟩, fun e => (f3 e).below (bel_al _ _), ba2 bw, ba2 bn⟩⟩
  ·obtain ⟨hw, hr, hp⟩ := al3 x1 x2 x3 w'
   refine wpOp_step h3 (fun K hK => ?_)
   rw [if_pos hw]
   unfold Oper.wp
   rw [hr]
   simp only [Oper.upon]
   exact hK _ _ ⟨ba2 bw, Or.inr ⟨b1, b2, true, x1, x2, _, hL3 b1 b2 b3, hp _, fun e => (f1 e).below (bel_al _ _), fun e => (f2 e).below (bel_al _ _), fun _ => ⟨_, rfl, bw.size, Cel.new w' z3 t⟩, ba2 bw, ba2 bn⟩⟩
theorem WA.rows2 {P : Program} {ops : Array Oper} {Q : Exit → Act → World → Prop} {w W : World} {o1 o2 oc : Oper} {L : Bool → Bool → Array Bool} {A : Value → Value → Act} {z1 z2 : List Value} {t : TypeId} (c i1 i2 : Nat) (r1 r2 : Bool)
  (hc : ops[c]? = some oc) (h1 : ops[i1]? = some o1) (h2 : ops[i2]? = some o2) (bW : SB W w)
  (ca : ∀ b1 b2 x1 x2 w', (b1 = true → PtB W z1 t x1 w') → (b2 = true → PtB W z2 t x2 w') → (r1 = true → b1 = true) → (r2 = true → b2 = true) → SB W w' → Below w.heap.size w w' → ∀ K : Act → World → Prop, Shut (∀ a w'', SB W w'' → (SB W w'' → WA P ops Q (SB W) ((L b1 b2).setIfInBounds c true) a w'') → K a w'') → if Region.wanted oc (yielded ops (A x1 x2).tmps) = true then Oper.wp P oc (A x1 x2) w' K Q else K ((A x1 x2).put oc.dst undef) w')
  (al1 : ∀ x1 x2 w', Region.wanted o1 (yielded ops (A x1 x2).tmps) = true ∧ (execOp (A x1 x2).eval o1).run P w' = .ok (.value (.slice (some ⟨w'.heap.size, 0, none⟩) 1 1)) (w'.alloc (.cells z1.toArray t)) ∧ ∀ u, (A x1 x2).put o1.dst u = A u x2 := by intros _ _ _; exact ⟨by rfl, by go_simp, fun _ => by kernel_rfl⟩)
  (al2 : ∀ x1 x2 w', Region.wanted o2 (yielded ops (A x1 x2).tmps) = true ∧ (execOp (A x1 x2).eval o2).run P w' = .ok (.value (.slice (some ⟨w'.heap.size, 0, none⟩) 1 1)) (w'.alloc (.cells z2.toArray t)) ∧ ∀ u, (A x1 x2).put o2.dst u = A x1 u := by intros _ _ _; exact ⟨by rfl, by go_simp, fun _ => by kernel_rfl⟩)
  (hL1 : ∀ b1 b2, (L b1 b2).setIfInBounds i1 true = L true b2 := by intro b1 b2; cases b1 <;> cases b2 <;> kernel_rfl)
  (hL2 : ∀ b1 b2, (L b1 b2).setIfInBounds i2 true = L b1 true := by intro b1 b2; cases b1 <;> cases b2 <;> kernel_rfl)
  (hR : ∀ b1 b2, Region.ready .any ops (L b1 b2) ≠ [] ∧ ∀ i ∈ Region.ready .any ops (L b1 b2), (i = c ∧ (r1 = true → b1 = true) ∧ (r2 = true → b2 = true)) ∨ i = i1 ∨ i = i2) :
  ∀ b1 b2 x1 x2, (b1 = true → PtB W z1 t x1 w) → (b2 = true → PtB W z2 t x2 w) → WA P ops Q (SB W) (L b1 b2) (A x1 x2) w := by
 intro b1 b2 x1 x2 f1 f2
 refine WA.runs (fun l a w' => WA P ops Q (SB W) l a w' ∨ ∃ b1 b2 x1 x2, l = L b1 b2 ∧ a = A x1 x2 ∧ (b1 = true → PtB W z1 t x1 w') ∧ (b2 = true → PtB W z2 t x2 w') ∧ SB W w' ∧ Below w.heap.size w w') ?_ (Or.inr ⟨b1, b2, x1, x2, rfl, rfl, f1, f2, bW, Below.refl _ _⟩)
 rintro l a w' (h | ⟨b1, b2, x1, x2, rfl, rfl, f1, f2, bw, bn⟩)
 ·exact Or.inl h
 ·refine Or.inr ⟨(hR b1 b2).1, fun i hi => ?_⟩
  rcases (hR b1 b2).2 i hi with ⟨rfl, q1, q2⟩ | rfl | rfl
  ·exact wpOp_step hc (fun K hK => ca b1 b2 x1 x2 w' f1 f2 q1 q2 bw bn K (fun a w'' hS hW => hK _ _ ⟨hS, Or.inl (hW hS)⟩))
  ·obtain ⟨hw, hr, hp⟩ := al1 x1 x2 w'
   refine wpOp_step h1 (fun K hK => ?_)
   rw [if_pos hw]
   unfold Oper.wp
   rw [hr]
   simp only [Oper.upon]
   exact hK _ _ ⟨ba2 bw, Or.inr ⟨true, b2, _, x2, hL1 b1 b2, hp _, fun _ => ⟨_, rfl, bw.size, Cel.new w' z1 t⟩, fun e => (f2 e).below (bel_al _ _), ba2 bw, ba2 bn⟩⟩
  ·obtain ⟨hw, hr, hp⟩ := al2 x1 x2 w'
   refine wpOp_step h2 (fun K hK => ?_)
   rw [if_pos hw]
   unfold Oper.wp
   rw [hr]
   simp only [Oper.upon]
   exact hK _ _ ⟨ba2 bw, Or.inr ⟨b1, true, x1, _, hL2 b1 b2, hp _, fun e => (f1 e).below (bel_al _ _), fun _ => ⟨_, rfl, bw.size, Cel.new w' z2 t⟩, ba2 bw, ba2 bn⟩⟩
theorem WA.rows1 {P : Program} {ops : Array Oper} {Q : Exit → Act → World → Prop} {w W : World} {o1 oc : Oper} {L : Bool → Array Bool} {A : Value → Act} {z1 : List Value} {t : TypeId} (c i1 : Nat) (r1 : Bool)
  (hc : ops[c]? = some oc) (h1 : ops[i1]? = some o1) (bW : SB W w)
  (ca : ∀ b1 x1 w', (b1 = true → PtB W z1 t x1 w') → (r1 = true → b1 = true) → SB W w' → Below w.heap.size w w' → ∀ K : Act → World → Prop, Shut (∀ a w'', SB W w'' → (SB W w'' → WA P ops Q (SB W) ((L b1).setIfInBounds c true) a w'') → K a w'') → if Region.wanted oc (yielded ops (A x1).tmps) = true then Oper.wp P oc (A x1) w' K Q else K ((A x1).put oc.dst undef) w')
  (al1 : ∀ x1 w', Region.wanted o1 (yielded ops (A x1).tmps) = true ∧ (execOp (A x1).eval o1).run P w' = .ok (.value (.slice (some ⟨w'.heap.size, 0, none⟩) 1 1)) (w'.alloc (.cells z1.toArray t)) ∧ ∀ u, (A x1).put o1.dst u = A u := by intros _ _; exact ⟨by rfl, by go_simp, fun _ => by kernel_rfl⟩)
  (hL1 : ∀ b1, (L b1).setIfInBounds i1 true = L true := by intro b1; cases b1 <;> kernel_rfl)
  (hR : ∀ b1, Region.ready .any ops (L b1) ≠ [] ∧ ∀ i ∈ Region.ready .any ops (L b1), (i = c ∧ (r1 = true → b1 = true)) ∨ i = i1) :
  ∀ b1 x1, (b1 = true → PtB W z1 t x1 w) → WA P ops Q (SB W) (L b1) (A x1) w := by
 intro b1 x1 f1
 refine WA.runs (fun l a w' => WA P ops Q (SB W) l a w' ∨ ∃ b1 x1, l = L b1 ∧ a = A x1 ∧ (b1 = true → PtB W z1 t x1 w') ∧ SB W w' ∧ Below w.heap.size w w') ?_ (Or.inr ⟨b1, x1, rfl, rfl, f1, bW, Below.refl _ _⟩)
 rintro l a w' (h | ⟨b1, x1, rfl, rfl, f1, bw, bn⟩)
 ·exact Or.inl h
 ·refine Or.inr ⟨(hR b1).1, fun i hi => ?_⟩
  rcases (hR b1).2 i hi with ⟨rfl, q1⟩ | rfl
  ·exact wpOp_step hc (fun K hK => ca b1 x1 w' f1 q1 bw bn K (fun a w'' hS hW => hK _ _ ⟨hS, Or.inl (hW hS)⟩))
  ·obtain ⟨hw, hr, hp⟩ := al1 x1 w'
   refine wpOp_step h1 (fun K hK => ?_)
   rw [if_pos hw]
   unfold Oper.wp
   rw [hr]
   simp only [Oper.upon]
   exact hK _ _ ⟨ba2 bw, Or.inr ⟨true, _, hL1 b1, hp _, fun _ => ⟨_, rfl, bw.size, Cel.new w' z1 t⟩, ba2 bw, ba2 bn⟩⟩
theorem WA.genr3 {P : Program} {ops : Array Oper} {Q : Exit → Act → World → Prop} {S : World → Prop} {l : Array Bool} {a : Act} {w W : World} {i1 s1 i2 s2 i3 s3 : Nat} (v1 v2 v3 : Value) (z1 z2 z3 : List Value) (t : TypeId) (h : ∀ b1 b2 b3 x1 x2 x3, (b1 = true → PtB W z1 t x1 w) → (b2 = true → PtB W z2 t x2 w) → (b3 = true → PtB W z3 t x3 w) → WA P ops Q S (((l.setIfInBounds i1 b1).setIfInBounds i2 b2).setIfInBounds i3 b3) (((a.put (some s1) x1).put (some s2) x2).put (some s3) x3) w)
  (hl : (((l.setIfInBounds i1 false).setIfInBounds i2 false).setIfInBounds i3 false) = l := by kernel_rfl) (ha : (((a.put (some s1) v1).put (some s2) v2).put (some s3) v3) = a := by kernel_rfl) : WA P ops Q S l a w := by
 have := h false false false v1 v2 v3 (fun h => by cases h) (fun h => by cases h) (fun h => by cases h)
 rw [hl, ha] at this
 exact this
theorem eqPt (xn yn : Bool) (xs xd ys yd : ByteArray) (w1 : World) : (Op.equalIn 10000 30 ((qa2 xn xs xd yn ys yd)) ((qa2 xn xs xd yn ys yd))).run Tryz.prog w1 = .ok true w1 := by
 rw [show (10000 : Nat) = 9999 + 1 from rfl]
 go_simp
theorem eqSg (xa xb : Nat) (xf : Bool) (w1 : World) : (Op.equalIn 10000 103 (.agg #[.int .i64 (xa : Nat), .int .i64 (xb : Nat), .bool xf]) (.agg #[.int .i64 (xa : Nat), .int .i64 (xb : Nat), .bool xf])).run Tryz.prog w1 = .ok true w1 := by
 rw [show (10000 : Nat) = 9999 + 1 from rfl]
 go_simp
theorem same_pts (va vb : Value) (l : List (Q3 × Q3)) (hl : l.length ≤ 100000) (w : World) (ha : RowR w 6 va (l.map cP)) (hb : RowR w 6 vb (l.map cP)) :
  Calls Tryz.prog 50 #[va, vb] w (Re w (.bool true)) := by
 obtain ⟨aA, cA, rfl, -, hA⟩ := ha
 obtain ⟨aB, cB, rfl, -, hB⟩ := hb
 rw [List.length_map]
 obtain ⟨n, hn⟩ : ∃ n, n = l.length := ⟨_, rfl⟩
 rw [← hn] at hl ⊢
 have HN := shut hn
 have HA := shut hA
 have HB := shut hB
 clear hn hA hB
 go_enter Tryz.func50, Tryz.ntmps50
 go_wp2
 go_loopw [5] (fun i wr => ∃ k : Nat, k ≤ n ∧ i = .int .i64 (k : Nat) ∧ Below w.heap.size w wr) (fun i _ => n - (intOf i).toNat)
 case atStart => exact ⟨0, Nat.zero_le _, rfl, Below.refl _ _⟩
 case round =>
  obtain ⟨k, hk, rfl, bw⟩ := hrel
  by_cases hgo : k < n
  ·have hgo' : (k : Int) < (n : Int) := by omega
   obtain ⟨x, hx⟩ : ∃ x, l[k]? = some x := ⟨_, List.getElem?_eq_getElem (by rw [← HN.out]; exact hgo)⟩
   obtain ⟨gA, pA, rfl, lA, rA⟩ := HA.out k _ (by rw [List.getElem?_map, hx]; rfl)
   obtain ⟨gB, pB, rfl, lB, rB⟩ := HB.out k _ (by rw [List.getElem?_map, hx]; rfl)
   obtain ⟨⟨xn, xs, xd⟩, yn, ys, yd⟩ := x
   have qA : wr.rangeAt gA (pA + k * 6) (ql2 xn xs xd yn ys yd) := fun i v hv => cell_below (rA i v hv) bw
   have qB : wr.rangeAt gB (pB + k * 6) (ql2 xn xs xd yn ys yd) := fun i v hv => cell_below (rB i v hv) bw
   clear rA rB HA HB HN lA lB hx
   have bd : Below w.heap.size w wr.drew := Below.after bw (bdrew wr)
   have hE := fun w1 => eqPt xn yn xs xd ys yd w1
   go_wp2
   refine wp_region_held_drew (S := fun w' => w'.rangeAt gA (pA + k * 6) (ql2 xn xs xd yn ys yd) ∧ w'.rangeAt gB (pB + k * 6) (ql2 xn xs xd yn ys yd)) (by kernel_rfl) ⟨(World.rangeAt_drew _ _ _ _).2 qA, (World.rangeAt_drew _ _ _ _).2 qB⟩ (fun hS => ?_)
   clear qA qB bw
   generalize wr.drew = wd at *
   refine WA.start (n := 9) (by kernel_rfl) ?_
   refine WA.tp 0 rfl ?_
   refine WA.tp 1 rfl ?_
   refine WA.tp 4 rfl ?_
   refine WA.tp 5 rfl ?_
   refine WA.tp 2 rfl ?_
   refine WA.tp 3 rfl ?_ (hy := yieldsIf_load_mid (by rfl) 30 _ rfl gA (pA + k * 6) rfl (ql2 xn xs xd yn ys yd) _ (fun w' h => h.1) Tryz.underlying30 rfl (by kernel_rfl))
   refine WA.tp 6 rfl ?_
   refine WA.tp 7 rfl ?_ (hy := yieldsIf_load_mid (by rfl) 30 _ rfl gB (pB + k * 6) rfl (ql2 xn xs xd yn ys yd) _ (fun w' h => h.2) Tryz.underlying30 rfl (by kernel_rfl))
   refine WA.tp 8 rfl ?_
   refine WA.done (by kernel_rfl) ?_
   clear hS
   go_wp2
   go_roundw
   case rel => exact ⟨k + 1, by omega, by go_num, bd⟩
   case measure => simp [intOf]; omega
  ·have hgo' : ¬ (k : Int) < (n : Int) := by omega
   go_wp2
   go_ret
   exact ⟨rfl, bw⟩
theorem same_seg (va vb : Value) (l : List (Nat × Nat × Bool)) (hl : l.length ≤ 100000) (w : World) (ha : RowR w 3 va (l.map cS)) (hb : RowR w 3 vb (l.map cS)) :
  Calls Tryz.prog 51 #[va, vb] w (Re w (.bool true)) := by
 obtain ⟨aA, cA, rfl, -, hA⟩ := ha
 obtain ⟨aB, cB, rfl, -, hB⟩ := hb
 rw [List.length_map]
 obtain ⟨n, hn⟩ : ∃ n, n = l.length := ⟨_, rfl⟩
 rw [← hn] at hl ⊢
 have HN := shut hn
 have HA := shut hA
 have HB := shut hB
 clear hn hA hB
 go_enter Tryz.func51, Tryz.ntmps51
 go_wp2
 go_loopw [5] (fun i wr => ∃ k : Nat, k ≤ n ∧ i = .int .i64 (k : Nat) ∧ Below w.heap.size w wr) (fun i _ => n - (intOf i).toNat)
 case atStart => exact ⟨0, Nat.zero_le _, rfl, Below.refl _ _⟩
 case round =>
  obtain ⟨k, hk, rfl, bw⟩ := hrel
  by_cases hgo : k < n
  ·have hgo' : (k : Int) < (n : Int) := by omega
   obtain ⟨x, hx⟩ : ∃ x, l[k]? = some x := ⟨_, List.getElem?_eq_getElem (by rw [← HN.out]; exact hgo)⟩
   obtain ⟨gA, pA, rfl, lA, rA⟩ := HA.out k _ (by rw [List.getElem?_map, hx]; rfl)
   obtain ⟨gB, pB, rfl, lB, rB⟩ := HB.out k _ (by rw [List.getElem?_map, hx]; rfl)
   obtain ⟨xa, xb, xf⟩ := x
   have qA : wr.rangeAt gA (pA + k * 3) [.int .i64 (xa : Nat), .int .i64 (xb : Nat), .bool xf] := fun i v hv => cell_below (rA i v hv) bw
   have qB : wr.rangeAt gB (pB + k * 3) [.int .i64 (xa : Nat), .int .i64 (xb : Nat), .bool xf] := fun i v hv => cell_below (rB i v hv) bw
   clear rA rB HA HB HN lA lB hx
   have bd : Below w.heap.size w wr.drew := Below.after bw (bdrew wr)
   have hE := fun w1 => eqSg xa xb xf w1
   go_wp2
   refine wp_region_held_drew (S := fun w' => w'.rangeAt gA (pA + k * 3) [.int .i64 (xa : Nat), .int .i64 (xb : Nat), .bool xf] ∧ w'.rangeAt gB (pB + k * 3) [.int .i64 (xa : Nat), .int .i64 (xb : Nat), .bool xf]) (by kernel_rfl) ⟨(World.rangeAt_drew _ _ _ _).2 qA, (World.rangeAt_drew _ _ _ _).2 qB⟩ (fun hS => ?_)
   clear qA qB bw
   generalize wr.drew = wd at *
   refine WA.start (n := 9) (by kernel_rfl) ?_
   refine WA.tp 0 rfl ?_
   refine WA.tp 1 rfl ?_
   refine WA.tp 4 rfl ?_
   refine WA.tp 5 rfl ?_
   refine WA.tp 2 rfl ?_
   refine WA.tp 3 rfl ?_ (hy := yieldsIf_load_mid (by rfl) 103 _ rfl gA (pA + k * 3) rfl [.int .i64 (xa : Nat), .int .i64 (xb : Nat), .bool xf] _ (fun w' h => h.1) Tryz.underlying103 rfl (by kernel_rfl))
   refine WA.tp 6 rfl ?_
   refine WA.tp 7 rfl ?_ (hy := yieldsIf_load_mid (by rfl) 103 _ rfl gB (pB + k * 3) rfl [.int .i64 (xa : Nat), .int .i64 (xb : Nat), .bool xf] _ (fun w' h => h.2) Tryz.underlying103 rfl (by kernel_rfl))
   refine WA.tp 8 rfl ?_
   refine WA.done (by kernel_rfl) ?_
   clear hS
   go_wp2
   go_roundw
   case rel => exact ⟨k + 1, by omega, by go_num, bd⟩
   case measure => simp [intOf]; omega
  ·have hgo' : ¬ (k : Int) < (n : Int) := by omega
   go_wp2
   go_ret
   exact ⟨rfl, bw⟩
theorem sl_pts (va vb : Value) (l : List (Q3 × Q3)) (hl : l.length ≤ 100000) (w : World) (ha : RowR w 6 va (l.map cP)) (hb : RowR w 6 vb (l.map cP)) :
  Calls Tryz.prog 103 #[va, vb] w (Re w (.bool true)) := by
 obtain ⟨aA, cA, rfl, -, hA⟩ := ha
 obtain ⟨aB, cB, rfl, -, hB⟩ := hb
 rw [List.length_map]
 obtain ⟨n, hn⟩ : ∃ n, n = l.length := ⟨_, rfl⟩
 rw [← hn] at hl ⊢
 have HN := shut hn
 have HA := shut hA
 have HB := shut hB
 clear hn hA hB
 go_enter Tryz.func103, Tryz.ntmps103
 go_wp2
 go_loopw [13] (fun i wr => ∃ k : Nat, k ≤ n ∧ i = .int .i64 (k : Nat) ∧ Below w.heap.size w wr) (fun i _ => n - (intOf i).toNat)
 case atStart => exact ⟨0, Nat.zero_le _, rfl, Below.refl _ _⟩
 case round =>
  obtain ⟨k, hk, rfl, bw⟩ := hrel
  by_cases hgo : k < n
  ·have hgo' : (k : Int) < (n : Int) := by omega
   obtain ⟨x, hx⟩ : ∃ x, l[k]? = some x := ⟨_, List.getElem?_eq_getElem (by rw [← HN.out]; exact hgo)⟩
   obtain ⟨gA, pA, rfl, lA, rA⟩ := HA.out k _ (by rw [List.getElem?_map, hx]; rfl)
   obtain ⟨gB, pB, rfl, lB, rB⟩ := HB.out k _ (by rw [List.getElem?_map, hx]; rfl)
   obtain ⟨⟨xn, xs, xd⟩, yn, ys, yd⟩ := x
   have qA : wr.rangeAt gA (pA + k * 6) (ql2 xn xs xd yn ys yd) := fun i v hv => cell_below (rA i v hv) bw
   have qB : wr.rangeAt gB (pB + k * 6) (ql2 xn xs xd yn ys yd) := fun i v hv => cell_below (rB i v hv) bw
   clear rA rB HA HB HN lA lB hx
   have bd : Below w.heap.size w wr.drew := Below.after bw (bdrew wr)
   have hE := fun w1 => eqPt xn yn xs xd ys yd w1
   go_wp2
   refine wp_region_held_drew (S := fun w' => w'.rangeAt gA (pA + k * 6) (ql2 xn xs xd yn ys yd) ∧ w'.rangeAt gB (pB + k * 6) (ql2 xn xs xd yn ys yd)) (by kernel_rfl) ⟨(World.rangeAt_drew _ _ _ _).2 qA, (World.rangeAt_drew _ _ _ _).2 qB⟩ (fun hS => ?_)
   clear qA qB bw
   generalize wr.drew = wd at *
   refine WA.start (n := 9) (by kernel_rfl) ?_
   refine WA.tp 0 rfl ?_
   refine WA.tp 1 rfl ?_
   refine WA.tp 4 rfl ?_
   refine WA.tp 5 rfl ?_
   refine WA.tp 2 rfl ?_
   refine WA.tp 3 rfl ?_ (hy := yieldsIf_load_mid (by rfl) 30 _ rfl gA (pA + k * 6) rfl (ql2 xn xs xd yn ys yd) _ (fun w' h => h.1) Tryz.underlying30 rfl (by kernel_rfl))
   refine WA.tp 6 rfl ?_
   refine WA.tp 7 rfl ?_ (hy := yieldsIf_load_mid (by rfl) 30 _ rfl gB (pB + k * 6) rfl (ql2 xn xs xd yn ys yd) _ (fun w' h => h.2) Tryz.underlying30 rfl (by kernel_rfl))
   refine WA.tp 8 rfl ?_
   refine WA.done (by kernel_rfl) ?_
   clear hS
   go_wp2
   go_roundw
   case rel => exact ⟨k + 1, by omega, by go_num, bd⟩
   case measure => simp [intOf]; omega
  ·have hgo' : ¬ (k : Int) < (n : Int) := by omega
   go_wp2
   go_ret
   exact ⟨rfl, bw⟩
theorem sl_seg (va vb : Value) (l : List (Nat × Nat × Bool)) (hl : l.length ≤ 100000) (w : World) (ha : RowR w 3 va (l.map cS)) (hb : RowR w 3 vb (l.map cS)) :
  Calls Tryz.prog 104 #[va, vb] w (Re w (.bool true)) := by
 obtain ⟨aA, cA, rfl, -, hA⟩ := ha
 obtain ⟨aB, cB, rfl, -, hB⟩ := hb
 rw [List.length_map]
 obtain ⟨n, hn⟩ : ∃ n, n = l.length := ⟨_, rfl⟩
 rw [← hn] at hl ⊢
 have HN := shut hn
 have HA := shut hA
 have HB := shut hB
 clear hn hA hB
 go_enter Tryz.func104, Tryz.ntmps104
 go_wp2
 go_loopw [13] (fun i wr => ∃ k : Nat, k ≤ n ∧ i = .int .i64 (k : Nat) ∧ Below w.heap.size w wr) (fun i _ => n - (intOf i).toNat)
 case atStart => exact ⟨0, Nat.zero_le _, rfl, Below.refl _ _⟩
 case round =>
  obtain ⟨k, hk, rfl, bw⟩ := hrel
  by_cases hgo : k < n
  ·have hgo' : (k : Int) < (n : Int) := by omega
   obtain ⟨x, hx⟩ : ∃ x, l[k]? = some x := ⟨_, List.getElem?_eq_getElem (by rw [← HN.out]; exact hgo)⟩
   obtain ⟨gA, pA, rfl, lA, rA⟩ := HA.out k _ (by rw [List.getElem?_map, hx]; rfl)
   obtain ⟨gB, pB, rfl, lB, rB⟩ := HB.out k _ (by rw [List.getElem?_map, hx]; rfl)
   obtain ⟨xa, xb, xf⟩ := x
   have qA : wr.rangeAt gA (pA + k * 3) [.int .i64 (xa : Nat), .int .i64 (xb : Nat), .bool xf] := fun i v hv => cell_below (rA i v hv) bw
   have qB : wr.rangeAt gB (pB + k * 3) [.int .i64 (xa : Nat), .int .i64 (xb : Nat), .bool xf] := fun i v hv => cell_below (rB i v hv) bw
   clear rA rB HA HB HN lA lB hx
   have bd : Below w.heap.size w wr.drew := Below.after bw (bdrew wr)
   have hE := fun w1 => eqSg xa xb xf w1
   go_wp2
   refine wp_region_held_drew (S := fun w' => w'.rangeAt gA (pA + k * 3) [.int .i64 (xa : Nat), .int .i64 (xb : Nat), .bool xf] ∧ w'.rangeAt gB (pB + k * 3) [.int .i64 (xa : Nat), .int .i64 (xb : Nat), .bool xf]) (by kernel_rfl) ⟨(World.rangeAt_drew _ _ _ _).2 qA, (World.rangeAt_drew _ _ _ _).2 qB⟩ (fun hS => ?_)
   clear qA qB bw
   generalize wr.drew = wd at *
   refine WA.start (n := 9) (by kernel_rfl) ?_
   refine WA.tp 0 rfl ?_
   refine WA.tp 1 rfl ?_
   refine WA.tp 4 rfl ?_
   refine WA.tp 5 rfl ?_
   refine WA.tp 2 rfl ?_
   refine WA.tp 3 rfl ?_ (hy := yieldsIf_load_mid (by rfl) 103 _ rfl gA (pA + k * 3) rfl [.int .i64 (xa : Nat), .int .i64 (xb : Nat), .bool xf] _ (fun w' h => h.1) Tryz.underlying103 rfl (by kernel_rfl))
   refine WA.tp 6 rfl ?_
   refine WA.tp 7 rfl ?_ (hy := yieldsIf_load_mid (by rfl) 103 _ rfl gB (pB + k * 3) rfl [.int .i64 (xa : Nat), .int .i64 (xb : Nat), .bool xf] _ (fun w' h => h.2) Tryz.underlying103 rfl (by kernel_rfl))
   refine WA.tp 8 rfl ?_
   refine WA.done (by kernel_rfl) ?_
   clear hS
   go_wp2
   go_roundw
   case rel => exact ⟨k + 1, by omega, by go_num, bd⟩
   case measure => simp [intOf]; omega
  ·have hgo' : ¬ (k : Int) < (n : Int) := by omega
   go_wp2
   go_ret
   exact ⟨rfl, bw⟩
theorem cellsT0 : Value.cells (.string { data := #[] }) = #[.string { data := #[] }] := by kernel_rfl
theorem run_mkT (n : Nat) (hn : n ≤ 1000000) (w : World) :
  ∃ w', (Instr.makeSlice 91 (.int .i64 n) (.int .i64 n)).run Tryz.prog w = .ok (.slice (some ⟨w.heap.size, 0, none⟩) n n) w' ∧ Cells w' w.heap.size 9 n (fun _ => .string ⟨#[]⟩) ∧ Below w.heap.size w w' := by
 obtain ⟨i0, hi, hz0, hz1, hz2⟩ := info_parts (show (Tryz.prog.info? 9).map (fun i => (i.zero, i.size, i.bytes)) = some (some (.string ⟨#[]⟩), 1, 16) by kernel_rfl)
 have h := run_make (P := Tryz.prog) w 91 9 i0 (.string ⟨#[]⟩) Tryz.underlying91 hi hz0 .i64 .i64 n n (by omega) (by omega) (by rw [hz2]; omega) (by omega)
 rw [hz1, cellsT0, Int.toNat_natCast, Nat.mul_one] at h
 refine ⟨_, h, ⟨_, heap_alloc_new w _, size_madeCells _ _, fun i hi => ?_⟩, (Below.refl _ _).alloc (Nat.le_refl _) _⟩
 simp [madeCells, hi, Nat.mod_one]
theorem wpList_mkT {w : World} {ops : Array Oper} {rest : List Oper} {o : Oper} {a : Act} {Q : Exit → Act → World → Prop}
  (hg : o.guard = none) (l c : Operand) (hop : o.op = Op.makeSlice 91 l c) (L : Int) (n : Nat) (hl : a.eval l = .int .i64 L) (hc : a.eval c = .int .i64 L) (hL : L = (n : Int)) (hn : n ≤ 1000000)
  (hK : ∀ w1, Cells w1 w.heap.size 9 n (fun _ => .string ⟨#[]⟩) → Below w.heap.size w w1 → wpList Tryz.prog ops Q rest (a.put o.dst (.slice (some ⟨w.heap.size, 0, none⟩) n n)) w1) :
  wpList Tryz.prog ops Q (o :: rest) a w := by
 refine wpList_plain hg fun K hK' => ?_
 subst hL
 obtain ⟨w', hrun, hc', hb⟩ := run_mkT n hn w
 unfold Oper.wp
 simp [execOp, hop, hl, hc, hrun, Result.andThen]
 exact hK' _ _ (hK _ hc' hb)
def ft8 (l : List ByteArray) (k i : Nat) : Value := if i < k then .string (l.getD i eS) else .string ⟨#[]⟩
theorem ft8_up (l : List ByteArray) (k : Nat) (t : ByteArray) (ht : l[k]? = some t) (i : Nat) : (if i = k then Value.string t else ft8 l k i) = ft8 l (k + 1) i := by
 unfold ft8
 by_cases h : i = k
 ·subst h
  rw [if_pos rfl, if_pos (by omega), List.getD_eq_getElem?_getD, ht]; rfl
 ·rw [if_neg h]
  by_cases h' : i < k
  ·rw [if_pos h', if_pos (by omega)]
  ·rw [if_neg h', if_neg (by omega)]
theorem ft8_row {w : World} {B g : Nat} {l : List ByteArray} (hB : B ≤ g) (hl : l.length ≤ 1000000) (h : Cells w g 9 l.length (ft8 l l.length)) : w.ownsRow B 9 1 (.slice (some ⟨g, 0, none⟩) l.length l.length) l.length (l.map Value.string) := by
 obtain ⟨cs, h1, h2, h3⟩ := h
 refine ⟨by simp, Or.inr ⟨g, l.length, cs, rfl, hB, h1, Nat.le_refl _, by unfold maxLen; omega, by rw [h2, Nat.mul_one], ?_⟩⟩
 apply List.ext_getElem?
 intro i
 by_cases hi : i < l.length
 ·rw [List.getElem?_take_of_lt (by omega), Array.getElem?_toList, h3 i hi, List.getElem?_map, List.getElem?_eq_getElem hi]
  unfold ft8
  rw [if_pos hi, List.getD_eq_getElem?_getD, List.getElem?_eq_getElem hi]; rfl
 ·rw [List.getElem?_eq_none (by simp; omega), List.getElem?_eq_none (by simp; omega)]
def cQ (q : Q3) : List Value := (ql1 q.1 q.2.1 q.2.2)
def TX (T : Q3 → ByteArray) (q : Q3) (w : World) : Prop := ∀ w1, Below w.heap.size w w1 → Calls Tryz.prog 155 #[(qa1 q.1 q.2.1 q.2.2)] w1 fun e w' => ∃ t E, e = .returned (.tuple #[.string t, .int .i64 E]) ∧ T q = (if E = 0 then t else ⟨#[63]⟩) ∧ Below w1.heap.size w1 w'
theorem texts_any (T : Q3 → ByteArray) (l : List Q3) (hl : l.length ≤ 1000) (v : Value) (w : World) (hr : RowR w 3 v (l.map cQ)) (hT : ∀ q, q ∈ l → TX T q w) :
  Calls Tryz.prog 97 #[v] w fun e w' => ∃ v', e = .returned v' ∧ w'.ownsRow w.heap.size 9 1 v' l.length ((l.map T).map Value.string) ∧ Below w.heap.size w w' := by
 obtain ⟨a, c, rfl, hcp, hR⟩ := hr
 rw [List.length_map] at hcp ⊢
 obtain ⟨n, hn⟩ : ∃ n, n = l.length := ⟨_, rfl⟩
 rw [← hn] at hl hcp ⊢
 have HN := shut hn
 have HR := shut hR
 have HT := shut hT
 clear hn hR hT
 go_enter Tryz.func97, Tryz.ntmps97
 go_upto_region 3 with (refine wpList_mkT rfl _ _ rfl _ n rfl rfl rfl (by omega) (fun w1 kc b1 => ?_))
 go_loopw [13] (fun i wr => ∃ k : Nat, k ≤ n ∧ i = .int .i64 (k : Nat) ∧ Cells wr w.heap.size 9 n (ft8 (l.map T) k) ∧ Below w.heap.size w wr) (fun i _ => n - (intOf i).toNat)
 case atStart => exact ⟨0, Nat.zero_le _, rfl, kc.congr (fun i _ => by unfold ft8; rw [if_neg (by omega)]), b1⟩
 case round =>
  obtain ⟨k, hk, rfl, kc, bw⟩ := hrel
  by_cases hgo : k < n
  ·have hgo' : (k : Int) < (n : Int) := by omega
   obtain ⟨q, hq⟩ : ∃ q, l[k]? = some q := ⟨_, List.getElem?_eq_getElem (by rw [← HN.out]; exact hgo)⟩
   obtain ⟨g, o, rfl, hg, hc⟩ := HR.out k _ (by rw [List.getElem?_map, hq]; rfl)
   have HQ := HT.out q (List.mem_of_getElem? hq)
   have hqt : (l.map T)[k]? = some (T q) := by rw [List.getElem?_map, hq]; rfl
   obtain ⟨n0, s0, d0⟩ := q
   have qA : wr.rangeAt g (o + k * 3) (ql1 n0 s0 d0) := fun i v hv => cell_below (hc i v hv) bw
   clear hc hq HR HT HN
   have hsz := bw.size
   go_upto_region 5 with (refine wpList_load_mid rfl 26 _ rfl g (o + k * 3) rfl (ql1 n0 s0 d0) _ qA Tryz.underlying26 rfl (by kernel_rfl) ?_)
   obtain ⟨w0, hq, kb, b0⟩ := mk1 wr (ql1 n0 s0 d0) 26
   rw [← hq]
   clear hq
   go_upto_region 6 with (first | (refine wpList_load_row rfl 26 _ rfl _ rfl 26 _ (0, 0) _ kb Tryz.underlying26 rfl (by kernel_rfl) ?_) | (go_at_call 155; refine (HQ _ (Below.after bw b0)).mono ?_; rintro e w3 ⟨t, E, rfl, hTq, b3⟩))
   have k3 := (kc.below b0).below b3
   have B3 := Below.after (Below.after bw b0) b3
   have q0 := k3.cell hgo
   have f0 := k3.frozen k
   clear kb b0 b3 HQ qA kc bw hg hsz
   by_cases hE : E = 0
   ·rw [if_pos hE] at hTq
    rw [hTq] at hqt
    have hup := shut (ft8_up (l.map T) k t hqt)
    clear hTq hqt
    subst hE
    go_wp2
    go_roundw
    case rel => exact ⟨k + 1, by omega, by go_num, (k3.set k (.string t)).congr (fun i _ => hup.out i), B3.setCell (p := ⟨w.heap.size, k, none⟩) (Nat.le_refl _) _⟩
    case measure => simp [intOf]; omega
   ·rw [if_neg hE] at hTq
    rw [hTq] at hqt
    have hup := shut (ft8_up (l.map T) k _ hqt)
    clear hTq hqt
    go_wp2
    go_roundw
    case rel => exact ⟨k + 1, by omega, by go_num, (k3.set k (.string ⟨#[63]⟩)).congr (fun i _ => hup.out i), B3.setCell (p := ⟨w.heap.size, k, none⟩) (Nat.le_refl _) _⟩
    case measure => simp [intOf]; omega
  ·have hkn : k = l.length := by rw [← HN.out]; omega
   have hgo' : ¬ (k : Int) < (n : Int) := by omega
   subst hkn
   go_wp2
   go_ret
   have hrow := ft8_row (l := l.map T) (B := w.heap.size) (Nat.le_refl _) (by rw [List.length_map, ← HN.out]; omega) (by rw [List.length_map, ← HN.out]; rw [← HN.out] at kc; exact kc)
   rw [List.length_map] at hrow
   refine ⟨_, rfl, ?_, bw⟩
   rw [HN.out]
   rw [List.map_map] at hrow
   exact hrow
end Go.Proofs.YtnplifkgeeicjaaGreatDoor
