/-
  Determinants of up to four rows: two rows changed, one twice, transposed.
  Three rows of rows that a call makes side by side.
-/
import Derived.Maps.AppendAt
import Derived.Test.YtgihiaaodkkkbaaGreatDoorG72
namespace Go.Proofs.YtgihiaaodkkkbaaGreatDoor
namespace Dt

theorem det_1 (q : Nat → Nat → Rat) : det 1 q = q 0 0 := by
 simp [det, psum, Rat.zero_add]
theorem det_2 (q : Nat → Nat → Rat) : det 2 q = q 0 0 * q 1 1 - q 0 1 * q 1 0 := by
 simp [det, psum, minor, Rat.zero_add]
theorem det_3 (q : Nat → Nat → Rat) : det 3 q = q 0 0 * (q 1 1 * q 2 2 - q 1 2 * q 2 1) - q 0 1 * (q 1 0 * q 2 2 - q 1 2 * q 2 0) + q 0 2 * (q 1 0 * q 2 1 - q 1 1 * q 2 0) := by
 show psum (fun j => q 0 j * det 2 (minor q j)) 3 = _
 simp [psum, det_2, minor, Rat.zero_add]
theorem det_4 (q : Nat → Nat → Rat) : det 4 q = q 0 0 * (q 1 1 * (q 2 2 * q 3 3 - q 2 3 * q 3 2) - q 1 2 * (q 2 1 * q 3 3 - q 2 3 * q 3 1) + q 1 3 * (q 2 1 * q 3 2 - q 2 2 * q 3 1))
  - q 0 1 * (q 1 0 * (q 2 2 * q 3 3 - q 2 3 * q 3 2) - q 1 2 * (q 2 0 * q 3 3 - q 2 3 * q 3 0) + q 1 3 * (q 2 0 * q 3 2 - q 2 2 * q 3 0))
  + q 0 2 * (q 1 0 * (q 2 1 * q 3 3 - q 2 3 * q 3 1) - q 1 1 * (q 2 0 * q 3 3 - q 2 3 * q 3 0) + q 1 3 * (q 2 0 * q 3 1 - q 2 1 * q 3 0))
  - q 0 3 * (q 1 0 * (q 2 1 * q 3 2 - q 2 2 * q 3 1) - q 1 1 * (q 2 0 * q 3 2 - q 2 2 * q 3 0) + q 1 2 * (q 2 0 * q 3 1 - q 2 1 * q 3 0)) := by
 show psum (fun j => q 0 j * det 3 (minor q j)) 4 = _
 simp [psum, det_3, minor, Rat.zero_add]

/-- Which row stands in which place, if two change places. -/
def swp (a b i : Nat) : Nat := if i = b then a else if i = a then b else i
/-- Which row stands in which place, if one stands twice. -/
def twc (a b i : Nat) : Nat := if i = a then b else i
set_option maxHeartbeats 4000000 in
theorem det_swap {n a b : Nat} (hn : n ≤ 4) (ha : a < n) (hb : b < n) (hab : a ≠ b) (q : Nat → Nat → Rat) : det n (fun i j => q (swp a b i) j) = - det n q := by
 match n, hn, a, ha, b, hb, hab with
 | 1, _, 0, _, 0, _, h => exact absurd rfl h
 | 2, _, 0, _, 0, _, h => exact absurd rfl h
 | 2, _, 1, _, 1, _, h => exact absurd rfl h
 | 2, _, 0, _, 1, _, _ => rw [det_2, det_2]; simp [swp]; grind
 | 2, _, 1, _, 0, _, _ => rw [det_2, det_2]; simp [swp]; grind
 | 3, _, 0, _, 0, _, h => exact absurd rfl h
 | 3, _, 1, _, 1, _, h => exact absurd rfl h
 | 3, _, 2, _, 2, _, h => exact absurd rfl h
 | 3, _, 0, _, 1, _, _ => rw [det_3, det_3]; simp [swp]; grind
 | 3, _, 0, _, 2, _, _ => rw [det_3, det_3]; simp [swp]; grind
 | 3, _, 1, _, 0, _, _ => rw [det_3, det_3]; simp [swp]; grind
 | 3, _, 1, _, 2, _, _ => rw [det_3, det_3]; simp [swp]; grind
 | 3, _, 2, _, 0, _, _ => rw [det_3, det_3]; simp [swp]; grind
 | 3, _, 2, _, 1, _, _ => rw [det_3, det_3]; simp [swp]; grind
 | 4, _, 0, _, 0, _, h => exact absurd rfl h
 | 4, _, 1, _, 1, _, h => exact absurd rfl h
 | 4, _, 2, _, 2, _, h => exact absurd rfl h
 | 4, _, 3, _, 3, _, h => exact absurd rfl h
 | 4, _, 0, _, 1, _, _ => rw [det_4, det_4]; simp [swp]; grind
 | 4, _, 0, _, 2, _, _ => rw [det_4, det_4]; simp [swp]; grind
 | 4, _, 0, _, 3, _, _ => rw [det_4, det_4]; simp [swp]; grind
 | 4, _, 1, _, 0, _, _ => rw [det_4, det_4]; simp [swp]; grind
 | 4, _, 1, _, 2, _, _ => rw [det_4, det_4]; simp [swp]; grind
 | 4, _, 1, _, 3, _, _ => rw [det_4, det_4]; simp [swp]; grind
 | 4, _, 2, _, 0, _, _ => rw [det_4, det_4]; simp [swp]; grind
 | 4, _, 2, _, 1, _, _ => rw [det_4, det_4]; simp [swp]; grind
 | 4, _, 2, _, 3, _, _ => rw [det_4, det_4]; simp [swp]; grind
 | 4, _, 3, _, 0, _, _ => rw [det_4, det_4]; simp [swp]; grind
 | 4, _, 3, _, 1, _, _ => rw [det_4, det_4]; simp [swp]; grind
 | 4, _, 3, _, 2, _, _ => rw [det_4, det_4]; simp [swp]; grind
theorem half_zero {x : Rat} (h : x = -x) : x = 0 := by grind
theorem det_twice {n a b : Nat} (hn : n ≤ 4) (ha : a < n) (hb : b < n) (hab : a ≠ b) (q : Nat → Nat → Rat) : det n (fun i j => q (twc a b i) j) = 0 := by
 have h := det_swap hn ha hb hab (fun i j => q (twc a b i) j)
 have e : (fun i j => (fun i j => q (twc a b i) j) (swp a b i) j) = (fun i j => q (twc a b i) j) := by
  funext i j
  show q (twc a b (swp a b i)) j = q (twc a b i) j
  congr 1
  unfold twc swp
  by_cases h1 : i = b
  ·subst h1; simp
  ·simp [h1]; by_cases h2 : i = a <;> simp [h2]
 rw [e] at h
 exact half_zero h
set_option maxHeartbeats 4000000 in
theorem det_trans {n : Nat} (h1 : 1 ≤ n) (hn : n ≤ 4) (q : Nat → Nat → Rat) : det n (fun i j => q j i) = det n q := by
 match n, h1, hn with
 | 1, _, _ => rw [det_1, det_1]
 | 2, _, _ => rw [det_2, det_2]; grind
 | 3, _, _ => rw [det_3, det_3]; grind
 | 4, _, _ => rw [det_4, det_4]; grind
end Dt
end Go.Proofs.YtgihiaaodkkkbaaGreatDoor
namespace Go.Proofs.YtgihiaaodkkkbaaGreatDoor
open Go.RowKit

/-- A row of rows gets one more: where it lies then. -/
theorem wpList_appW {w : World} {ops : Array Oper} {rest : List Oper} {o : Oper} {a : Act} {Q : Exit → Act → World → Prop}
  (hg : o.guard = none) (s x : Operand) (hop : o.op = Op.call { callee := Callee.builtin Builtin.append, args := #[s, x], argTypes := #[22, 22] })
  (sv : Value) (n : Nat) (vs : List Value) (hs : a.eval s = sv) (B : Nat) (hown : w.ownsRow B 27 1 sv n vs) (hB : B ≤ w.heap.size) (b : Nat) (p : Value) (hp : p.oneCell' = true) (hx : a.eval x = .slice (some ⟨b, 0, none⟩) 1 1)
  (hc : w.cell? ⟨b, 0, none⟩ = some p) (hn : n ≤ 1000)
  (hK : ∀ v' w', w'.ownsRow B 27 1 v' (n + 1) (vs ++ [p]) → w.grownBy w' sv.ownBlock → (v'.ownBlock = sv.ownBlock ∨ v'.ownBlock = some w.heap.size) → wpList Tryz.prog ops Q rest (a.put o.dst v') w') :
  wpList Tryz.prog ops Q (o :: rest) a w := by
 obtain ⟨i0, hi, hz0, hz1, hz2⟩ := info_parts (show (Tryz.prog.info? 27).map (fun i => (i.zero, i.size, i.bytes)) = some (some (.slice none 0 0), 1, 24) by kernel_rfl)
 refine wpList_append_own_at _ hg s x 22 hop B 27 i0 (.slice none 0 0) 1 24 Tryz.underlying22 hi hz0 hz1 hz2 rfl (by decide) sv n vs hs hown ⟨b, 0, none⟩ 1 1 [p] hx (by simp) ?_ ?_ ?_ ?_ hB ?_
 ·intro j u hj
  match j, hj with
  | 0, hj => simp at hj; subst hj; simpa [Addr.add] using hc
 ·intro u hu; simp at hu; subst hu; exact hp
 ·unfold maxLen; omega
 ·omega
 ·intro v' w1 hown' hgrow hnil hat
  exact hK v' w1 hown' hgrow hat
/-- No block is under both. -/
def Apart (u v : Value) : Prop := ∀ b, u.ownBlock = some b → ¬ v.ownBlock = some b
theorem Apart.symm {u v : Value} (h : Apart u v) : Apart v u := fun b h1 h2 => h b h2 h1
theorem apart_nil (v : Value) : Apart (.slice none 0 0) v := fun b h => by simp [Value.ownBlock] at h
/-- The first l of some rows, told by their values. -/
def RowV (w : World) (B : Nat) (v : Value) (l : Nat) (f : Nat → Value) : Prop := w.ownsRow B 27 1 v l ((List.range l).map f)
theorem apart_more {w : World} {B l k : Nat} {t : TypeId} {u v v' : Value} {xs : List Value} (h : Apart v u) (ho : w.ownsRow B t k u l xs) (hat : v'.ownBlock = v.ownBlock ∨ v'.ownBlock = some w.heap.size) : Apart v' u := by
 intro b h1 h2
 rcases hat with e | e
 ·exact h b (by rw [← e]; exact h1) h2
 ·rw [e] at h1
  simp only [Option.some.injEq] at h1
  have := (ho.lt b h2).2
  omega
theorem apart_row {v u : Value} (h : Apart v u) : u.ownBlock = none ∨ u.ownBlock ≠ v.ownBlock := by
 cases e : u.ownBlock with
 | none => exact Or.inl rfl
 | some b => exact Or.inr fun e' => h b e'.symm e
theorem RowV.kept {w w' : World} {B l : Nat} {v u : Value} {f : Nat → Value} (h : RowV w B u l f) (hg : w.grownBy w' v.ownBlock) (ha : Apart v u) : RowV w' B u l f := World.ownsRow.kept h hg (apart_row ha)
theorem RowV.more {w' : World} {B l : Nat} {v' : Value} {f : Nat → Value} (h : w'.ownsRow B 27 1 v' (l + 1) ((List.range l).map f ++ [f l])) : RowV w' B v' (l + 1) f := by
 unfold RowV
 rw [List.range_succ, List.map_append]
 exact h
theorem MinR.kept {w w' : World} {B C l n k : Nat} {v u : Value} {xs : List Value} {q : Nat → Nat → Rat} (h : MinR w B u l n q) (hv : w.ownsRow C 27 1 v k xs) (hg : w.grownBy w' v.ownBlock) (ha : Apart v u) : MinR w' B u l n q := by
 obtain ⟨vs, h1, h2⟩ := h
 refine ⟨vs, World.ownsRow.kept h1 hg (apart_row ha), fun t ht => ?_⟩
 obtain ⟨g, c, e, hc, h3⟩ := h2 t ht
 refine ⟨g, c, e, hc, World.ownsRow.kept h3 hg (Or.inr fun e' => ?_)⟩
 obtain ⟨cs, hh⟩ := ownN_type h3 g rfl
 obtain ⟨cs', hh'⟩ := ownN_type hv g (by rw [← e']; rfl)
 rw [hh] at hh'
 simp at hh'
/-- Three rows of rows, side by side. -/
structure Three (w : World) (B : Nat) (v1 v2 v3 : Value) (l1 l2 l3 n : Nat) (f1 f2 : Nat → Value) (q : Nat → Nat → Rat) : Prop where
 r1 : RowV w B v1 l1 f1
 r2 : RowV w B v2 l2 f2
 r3 : MinR w B v3 l3 n q
 a12 : Apart v1 v2
 a13 : Apart v1 v3
 a23 : Apart v2 v3
theorem Three.nil (w : World) (B n : Nat) (f1 f2 : Nat → Value) (q : Nat → Nat → Rat) : Three w B (.slice none 0 0) (.slice none 0 0) (.slice none 0 0) 0 0 0 n f1 f2 q :=
 ⟨World.ownsRow_nil _ _ _ _, World.ownsRow_nil _ _ _ _, ⟨[], World.ownsRow_nil _ _ _ _, fun _ ht => absurd ht (Nat.not_lt_zero _)⟩, apart_nil _, apart_nil _, apart_nil _⟩
theorem Three.below {w w' : World} {B l1 l2 l3 n : Nat} {v1 v2 v3 : Value} {f1 f2 : Nat → Value} {q : Nat → Nat → Rat} (h : Three w B v1 v2 v3 l1 l2 l3 n f1 f2 q) (hb : Below w.heap.size w w') : Three w' B v1 v2 v3 l1 l2 l3 n f1 f2 q :=
 ⟨own_below h.r1 hb, own_below h.r2 hb, h.r3.below hb, h.a12, h.a13, h.a23⟩
theorem Three.app1 {w w1 : World} {B l1 l2 l3 n : Nat} {v1 v1' v2 v3 : Value} {f1 f2 : Nat → Value} {q : Nat → Nat → Rat} (h : Three w B v1 v2 v3 l1 l2 l3 n f1 f2 q) (P : w1.ownsRow B 27 1 v1' (l1 + 1) ((List.range l1).map f1 ++ [f1 l1])) (hg : w.grownBy w1 v1.ownBlock) (hat : v1'.ownBlock = v1.ownBlock ∨ v1'.ownBlock = some w.heap.size) : Three w1 B v1' v2 v3 (l1 + 1) l2 l3 n f1 f2 q := by
 obtain ⟨vs, m1, m2⟩ := h.r3
 exact ⟨RowV.more P, h.r2.kept hg h.a12, h.r3.kept h.r1 hg h.a13, apart_more h.a12 h.r2 hat, apart_more h.a13 m1 hat, h.a23⟩
theorem Three.app2 {w w1 : World} {B l1 l2 l3 n : Nat} {v1 v2' v2 v3 : Value} {f1 f2 : Nat → Value} {q : Nat → Nat → Rat} (h : Three w B v1 v2 v3 l1 l2 l3 n f1 f2 q) (P : w1.ownsRow B 27 1 v2' (l2 + 1) ((List.range l2).map f2 ++ [f2 l2])) (hg : w.grownBy w1 v2.ownBlock) (hat : v2'.ownBlock = v2.ownBlock ∨ v2'.ownBlock = some w.heap.size) : Three w1 B v1 v2' v3 l1 (l2 + 1) l3 n f1 f2 q := by
 obtain ⟨vs, m1, m2⟩ := h.r3
 exact ⟨h.r1.kept hg h.a12.symm, RowV.more P, h.r3.kept h.r2 hg h.a23, (apart_more h.a12.symm h.r1 hat).symm, h.a13, apart_more h.a23 m1 hat⟩
theorem Three.app3 {w w1 : World} {B l1 l2 l3 n g c : Nat} {v1 v2 v3 v3' : Value} {vs : List Value} {f1 f2 : Nat → Value} {q : Nat → Nat → Rat} (h : Three w B v1 v2 v3 l1 l2 l3 n f1 f2 q) (m1 : w.ownsRow B 27 1 v3 l3 vs) (m2 : ∀ t, t < l3 → ∃ g c, vs[t]? = some (.slice (some ⟨g, 0, none⟩) n c) ∧ n ≤ c ∧ w.ownsRow B 32 3 (.slice (some ⟨g, 0, none⟩) n c) n (flq n (q t))) (hr : w.ownsRow B 32 3 (.slice (some ⟨g, 0, none⟩) n c) n (flq n (q l3))) (hc : n ≤ c) (P : w1.ownsRow B 27 1 v3' (l3 + 1) (vs ++ [.slice (some ⟨g, 0, none⟩) n c])) (hg : w.grownBy w1 v3.ownBlock) (hat : v3'.ownBlock = v3.ownBlock ∨ v3'.ownBlock = some w.heap.size) : Three w1 B v1 v2 v3' l1 l2 (l3 + 1) n f1 f2 q :=
 ⟨h.r1.kept hg h.a13.symm, h.r2.kept hg h.a23.symm, MinR.more m1 m2 hr hc P hg, h.a12, (apart_more h.a13.symm h.r1 hat).symm, (apart_more h.a23.symm h.r2 hat).symm⟩
theorem flq_congr {n : Nat} {x y : Nat → Rat} (h : ∀ j, j < n → x j = y j) : flq n x = flq n y := by
 unfold flq
 refine List.map_congr_left fun i hi => ?_
 rw [List.mem_range] at hi
 unfold fq
 rw [h (i / 3) (by omega)]
theorem flq_more (t : Nat) (z : Nat → Rat) : flq t z ++ flq 1 (fun _ => z t) = flq (t + 1) z := by
 rw [flq_cat]
 refine flq_congr fun j hj => ?_
 unfold catq
 by_cases h : j < t
 ·rw [if_pos h]
 ·rw [if_neg h, show j = t by omega]
theorem RowV.slice {w : World} {B l : Nat} {v : Value} {f : Nat → Value} (h : RowV w B v l f) (hl : 0 < l) : ∃ g c, v = .slice (some ⟨g, 0, none⟩) l c := by
 rcases h.2 with ⟨_, e⟩ | ⟨g, cap, cur, hv, hb, hg, hn, _⟩
 ·omega
 ·exact ⟨g, cap, hv⟩
theorem RowV.rdR {w : World} {B n g c : Nat} {f : Nat → Value} {q : Nat → Nat → Rat} (h : RowV w B (.slice (some ⟨g, 0, none⟩) n c) n f) (hf : ∀ i, i < n → ∃ g o c, f i = .slice (some ⟨g, o, none⟩) n c ∧ n ≤ c ∧ RdQI w (some ⟨g, o, none⟩) n (q i)) : RdR w (some ⟨g, 0, none⟩) n n q := by
 intro i hi
 obtain ⟨g', o', c', e, hc, h3⟩ := hf i hi
 refine ⟨g, 0, some ⟨g', o', none⟩, c', rfl, ?_, hc, h3⟩
 have := World.ownsRow.cells h (g := g) rfl i (f i) (by rw [List.getElem?_map, List.getElem?_range hi]; rfl)
 rw [add_at, e] at this
 exact this
theorem rdqi_new (w : World) (z : Rat) (t : TypeId) : RdQI (w.alloc (.cells #[.bool (nfZ z.num), .string (sfZ z.num), .string (strOf z.den)] t)) (some ⟨w.heap.size, 0, none⟩) 1 (fun _ => z) := by
 intro j hj
 obtain rfl : j = 0 := by omega
 have k := Cel.new w [.bool (nfZ z.num), .string (sfZ z.num), .string (strOf z.den)] t
 exact ⟨_, _, rfl, cel3_0 k, cel3_1 k, cel3_2 k⟩
theorem rdG_of {w : World} {a : Option Addr} {n : Nat} {q : Nat → Nat → Rat} (h : RdR w a n n q) : RdG w a n (fun _ => n) (fun i j => nfZ (q i j).num) (fun i j => sfZ (q i j).num) (fun i j => strOf (q i j).den) := fun i hi => h i hi
theorem firstE_none {c : Nat → Nat} {n : Nat} (h : ∀ k, k < n → c k = 0) : firstE c n = 0 := by
 induction n with
 | zero => rfl
 | succ n ih => unfold firstE; rw [if_pos (ih fun k hk => h k (by omega))]; exact h n (by omega)
/-- vec.Det of rows that may be. -/
theorem detR_any (a : Option Addr) (n cap : Nat) (q : Nat → Nat → Rat) (w : World) (hT : Tab w) (h1 : 1 ≤ n) (h4 : n ≤ 4) (h : RdR w a n n q) (hb : ∀ i j, i < n → j < n → Bq (q i j) 80) :
  Calls Tryz.prog 13 #[.slice a n cap] w fun e w' => e = .returned (.tuple #[.agg #[.bool (nfZ (Dt.det n q).num), .string (sfZ (Dt.det n q).num), .string (strOf (Dt.det n q).den)], .int .i64 0]) ∧ Below w.heap.size w w' := by
 have hg := rdG_of h
 have hsq : sq n (fun _ => n) := ⟨h1, h4, fun _ _ => rfl⟩
 obtain ⟨c, hc⟩ : ∃ c : Nat → Nat, c = fun i => firstE (fun j => chkq (nfZ (q i j).num) (sfZ (q i j).num) (strOf (q i j).den)) n := ⟨_, rfl⟩
 have hE : firstE c n = 0 := firstE_none fun i hi => by
  rw [hc]
  refine firstE_none fun j hj => ?_
  have b := hb i j hi hj
  exact chkq_ok (okQ_qI (q i j)) (Nat.le_trans b.1.size (by omega)) (by have := b.2.size; simp at this; omega)
 refine vDet_sq a n cap c _ 0 w h4 (Or.inr ⟨rfl, hE, ⟨_, _, _, rfl⟩, fun w2 b2 => ?_⟩) (fun w2 b2 => ?_) (fun i hi => ?_)
 ·exact determinant_any a n cap q w2 (hT.below b2) h1 h4 (h.below b2) (fun i j hi hj => (hb i j hi hj).mono (by omega))
 ·have := isSquare_any a n cap (fun _ => n) _ _ _ w2 (hg.below b2)
  simpa [hsq] using this
 ·obtain ⟨b, off, ar, k, e, h0, hk, hr⟩ := hg i hi
  refine ⟨b, off, ar, n, k, e, h0, fun w2 b2 => ?_⟩
  rw [hc]
  exact vcheck_any ar n k _ _ _ w2 (hT.below b2) (by omega) (RdQ.below hr b2)
end Go.Proofs.YtgihiaaodkkkbaaGreatDoor
