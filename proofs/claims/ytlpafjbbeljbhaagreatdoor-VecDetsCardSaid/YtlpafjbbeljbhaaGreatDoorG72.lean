/-
  How long sums and products of rational numbers get.
  Rows of rational numbers that a call makes; appends to them.
  How long determinants of rational numbers get, and their parts.
  gussetref04's Det: the rows of a minor.
-/
import Derived.Test.YtlpafjbbeljbhaaGreatDoorG71
namespace Go.Proofs.YtlpafjbbeljbhaaGreatDoor
open Go.RowKit

theorem vd_cast (a b : Nat) {k j : Nat} (ha : Bd (a : Int) k) (hb : Bd (b : Int) j) : Bd ((a * b : Nat) : Int) (k + j) := by
 rw [Int.natCast_mul]
 exact ha.mul hb
theorem vq_mk {z : Int} {m k : Nat} (hm : 0 < m) (hz : Bd z k) (hd : Bd (m : Int) k) : Bq (mkRat z m) k := by
 refine ⟨?_, ?_⟩
 ·rw [Q.num_mk hm]
  refine hz.div _ ?_
  rw [← Int.dvd_natAbs, Int.ofNat_dvd]
  exact Nat.gcd_dvd_left _ _
 ·rw [Q.den_mk hm]
  exact hd.nat (Nat.div_le_self _ _)
theorem vq_add {a b : Rat} {k : Nat} (ha : Bq a k) (hb : Bq b k) : Bq (a + b) (k + k + 1) := by
 rw [Rat.add_def']
 exact vq_mk (Nat.mul_pos a.den_pos b.den_pos) ((ha.1.mul hb.2).add (hb.1.mul ha.2)) ((vd_cast _ _ ha.2 hb.2).mono (by omega))
theorem vq_neg {a : Rat} {k : Nat} (ha : Bq a k) : Bq (-a) k := ⟨by rw [Rat.neg_num]; exact ha.1.neg, ha.2⟩
theorem vq_sub {a b : Rat} {k : Nat} (ha : Bq a k) (hb : Bq b k) : Bq (a - b) (k + k + 1) := by
 rw [Rat.sub_eq_add_neg]
 exact vq_add ha (vq_neg hb)
theorem vq_mul {a b : Rat} {k : Nat} (ha : Bq a k) (hb : Bq b k) : Bq (a * b) (k + k + 1) := by
 rw [Rat.mul_def']
 exact vq_mk (Nat.mul_pos a.den_pos b.den_pos) ((ha.1.mul hb.1).mono (by omega)) ((vd_cast _ _ ha.2 hb.2).mono (by omega))
end Go.Proofs.YtlpafjbbeljbhaaGreatDoor
namespace Go.Proofs.YtlpafjbbeljbhaaGreatDoor
open Go.RowKit

/-- Rational numbers, one behind the other. -/
def fq (z : Nat → Rat) (i : Nat) : Value := if i % 3 = 0 then .bool (nfZ (z (i / 3)).num) else if i % 3 = 1 then .string (sfZ (z (i / 3)).num) else .string (strOf (z (i / 3)).den)
def flq (n : Nat) (z : Nat → Rat) : List Value := (List.range (n * 3)).map (fq z)
/-- Two rows, one behind the other. -/
def catq (n : Nat) (x y : Nat → Rat) : Nat → Rat := fun j => if j < n then x j else y (j - n)
theorem flq_cat (n m : Nat) (x y : Nat → Rat) : flq n x ++ flq m y = flq (n + m) (catq n x y) := by
 unfold flq
 rw [Nat.add_mul, List.range_add, List.map_append, List.map_map]
 congr 1
 ·refine List.map_congr_left fun i hi => ?_
  rw [List.mem_range] at hi
  unfold fq catq
  rw [if_pos (show i / 3 < n by omega)]
 ·refine List.map_congr_left fun i hi => ?_
  show fq y i = fq (catq n x y) (n * 3 + i)
  unfold fq catq
  rw [show (n * 3 + i) % 3 = i % 3 by omega, show (n * 3 + i) / 3 = n + i / 3 by omega, if_neg (show ¬ n + i / 3 < n by omega), show n + i / 3 - n = i / 3 by omega]
theorem flq_get {n : Nat} {z : Nat → Rat} {i : Nat} {u : Value} (h : (flq n z)[i]? = some u) : i < n * 3 ∧ u = fq z i := by
 unfold flq at h
 rw [List.getElem?_map] at h
 by_cases hi : i < n * 3
 ·rw [List.getElem?_range hi] at h
  simp only [Option.map_some, Option.some.injEq] at h
  exact ⟨hi, h.symm⟩
 ·rw [List.getElem?_eq_none (by simp; omega)] at h; cases h
theorem rdqi_cell {w : World} {b off n : Nat} {z : Nat → Rat} (h : RdQI w (some ⟨b, off, none⟩) n z) {i : Nat} (hi : i < n * 3) : w.cell? ⟨b, off + i, none⟩ = some (fq z i) := by
 obtain ⟨b', off', e, h0, h1, h2⟩ := h (i / 3) (by omega)
 simp only [Option.some.injEq, Addr.mk.injEq] at e
 obtain ⟨rfl, rfl, -⟩ := e
 unfold fq
 by_cases c0 : i % 3 = 0
 ·rw [if_pos c0, ← h0, show off + i = off + i / 3 * 3 by omega]
 ·rw [if_neg c0]
  by_cases c1 : i % 3 = 1
  ·rw [if_pos c1, ← h1, show off + i = off + i / 3 * 3 + 1 by omega]
  ·rw [if_neg c1, ← h2, show off + i = off + i / 3 * 3 + 2 by omega]
theorem rdqi_of {w : World} {b off n : Nat} {z : Nat → Rat} (h : ∀ i, i < n * 3 → w.cell? ⟨b, off + i, none⟩ = some (fq z i)) : RdQI w (some ⟨b, off, none⟩) n z := by
 intro j hj
 refine ⟨b, off, rfl, ?_, ?_, ?_⟩
 ·rw [h (j * 3) (by omega)]; unfold fq; rw [if_pos (by omega), show j * 3 / 3 = j by omega]
 ·rw [Nat.add_assoc, h (j * 3 + 1) (by omega)]; unfold fq; rw [if_neg (by omega), if_pos (by omega), show (j * 3 + 1) / 3 = j by omega]
 ·rw [Nat.add_assoc, h (j * 3 + 2) (by omega)]; unfold fq; rw [if_neg (by omega), if_neg (by omega), show (j * 3 + 2) / 3 = j by omega]
theorem cellsQ0 : Value.cells (.agg #[.bool false, .string { data := #[] }, .string { data := #[] }]) = #[.bool false, .string { data := #[] }, .string { data := #[] }] := by kernel_rfl
theorem wpList_appQ {w : World} {ops : Array Oper} {rest : List Oper} {o : Oper} {a : Act} {Q : Exit → Act → World → Prop}
  (hg : o.guard = none) (s x : Operand) (hop : o.op = Op.call { callee := Callee.builtin Builtin.append, args := #[s, x], argTypes := #[54, 54] })
  (sv : Value) (n : Nat) (vs : List Value) (hs : a.eval s = sv) (B : Nat) (hown : w.ownsRow B 26 3 sv n vs) (hB : B ≤ w.heap.size) (b off m c : Nat) (z : Nat → Rat) (hx : a.eval x = .slice (some ⟨b, off, none⟩) m c)
  (hc : RdQI w (some ⟨b, off, none⟩) m z) (hn : n + m ≤ 1000000)
  (hK : ∀ v' w', w'.ownsRow B 26 3 v' (n + m) (vs ++ flq m z) → w.grownBy w' sv.ownBlock → (v' = .slice none 0 0 ↔ sv = .slice none 0 0 ∧ m = 0) → wpList Tryz.prog ops Q rest (a.put o.dst v') w') :
  wpList Tryz.prog ops Q (o :: rest) a w := by
 obtain ⟨i0, hi, hz0, hz1, hz2⟩ := info_parts (show (Tryz.prog.info? 26).map (fun i => (i.zero, i.size, i.bytes)) = some (some (.agg #[.bool false, .string ⟨#[]⟩, .string ⟨#[]⟩]), 3, 40) by kernel_rfl)
 refine wpList_append_own _ hg s x 54 hop B 26 i0 (.agg #[.bool false, .string ⟨#[]⟩, .string ⟨#[]⟩]) 3 40 Tryz.underlying54 hi hz0 hz1 hz2 (by rw [cellsQ0]; rfl) (by decide) sv n vs hs hown ⟨b, off, none⟩ m c (flq m z) hx (by simp [flq]) ?_ ?_ ?_ ?_ hB hK
 ·intro j u hj
  obtain ⟨h1, rfl⟩ := flq_get hj
  rw [add_at]; exact rdqi_cell hc h1
 ·intro u hu
  unfold flq at hu
  rw [List.mem_map] at hu
  obtain ⟨y, -, rfl⟩ := hu
  unfold fq
  split
  ·rfl
  ·split <;> rfl
 ·unfold maxLen; omega
 ·omega
theorem rdQ_own {w : World} {B n g cap : Nat} {z : Nat → Rat} (h : w.ownsRow B 26 3 (.slice (some ⟨g, 0, none⟩) n cap) n (flq n z)) : RdQI w (some ⟨g, 0, none⟩) n z := by
 refine rdqi_of fun i hi => ?_
 have := World.ownsRow.cells h (g := g) rfl i (fq z i) (by unfold flq; rw [List.getElem?_map, List.getElem?_range hi]; rfl)
 rwa [add_at] at this
/-- A row of rows gets one more. -/
theorem wpList_appV {w : World} {ops : Array Oper} {rest : List Oper} {o : Oper} {a : Act} {Q : Exit → Act → World → Prop}
  (hg : o.guard = none) (s x : Operand) (hop : o.op = Op.call { callee := Callee.builtin Builtin.append, args := #[s, x], argTypes := #[49, 49] })
  (sv : Value) (n : Nat) (vs : List Value) (hs : a.eval s = sv) (B : Nat) (hown : w.ownsRow B 54 1 sv n vs) (hB : B ≤ w.heap.size) (b : Nat) (p : Value) (hp : p.oneCell' = true) (hx : a.eval x = .slice (some ⟨b, 0, none⟩) 1 1)
  (hc : w.cell? ⟨b, 0, none⟩ = some p) (hn : n ≤ 1000)
  (hK : ∀ v' w', w'.ownsRow B 54 1 v' (n + 1) (vs ++ [p]) → w.grownBy w' sv.ownBlock → wpList Tryz.prog ops Q rest (a.put o.dst v') w') :
  wpList Tryz.prog ops Q (o :: rest) a w := by
 obtain ⟨i0, hi, hz0, hz1, hz2⟩ := info_parts (show (Tryz.prog.info? 54).map (fun i => (i.zero, i.size, i.bytes)) = some (some (.slice none 0 0), 1, 24) by kernel_rfl)
 refine wpList_append_own _ hg s x 49 hop B 54 i0 (.slice none 0 0) 1 24 Tryz.underlying49 hi hz0 hz1 hz2 rfl (by decide) sv n vs hs hown ⟨b, 0, none⟩ 1 1 [p] hx (by simp) ?_ ?_ ?_ ?_ hB ?_
 ·intro j u hj
  match j, hj with
  | 0, hj => simp at hj; subst hj; simpa [Addr.add] using hc
 ·intro u hu; simp at hu; subst hu; exact hp
 ·unfold maxLen; omega
 ·omega
 ·intro v' w1 hown' hgrow hnil
  exact hK v' w1 hown' hgrow
end Go.Proofs.YtlpafjbbeljbhaaGreatDoor
namespace Go.Proofs.YtlpafjbbeljbhaaGreatDoor
open Go.RowKit

theorem psum_whole {n : Nat} {z : Nat → Nat → Int} {q : Nat → Nat → Rat} {c : Nat → Rat} (h : ∀ i j, i < n + 1 → j < n + 1 → (z i j : Rat) = c i * q i j) {k : Nat} (hk : k ≤ n + 1) :
  ((Dt.psum (fun j => z 0 j * Dt.det n (Dt.minor z j)) k : Int) : Rat) = Dt.prod (n + 1) c * Dt.psum (fun j => q 0 j * Dt.det n (Dt.minor q j)) k := by
 rw [Dt.psum_cast, ← Dt.psum_mul]
 refine Dt.psum_congr fun j hj => ?_
 have e := Dt.det_whole (n := n) (z := Dt.minor z j) (q := Dt.minor q j) (c := fun i => c (i + 1)) (fun i m hi hm => by
  unfold Dt.minor
  by_cases d : m < j
  ·rw [if_pos d]; exact h _ _ (by omega) (by omega)
  ·rw [if_neg d]; exact h _ _ (by omega) (by omega))
 rw [Rat.intCast_mul, e, h 0 j (by omega) (by omega)]
 show _ = c 0 * Dt.prod n (fun i => c (i + 1)) * (q 0 j * Dt.det n (Dt.minor q j))
 grind
theorem dens_short {q : Nat → Nat → Rat} {n : Nat} (hq : ∀ i j, i < n → j < n → Bq (q i j) 80) : ∀ x ∈ dall q n n, 0 < natOf x ∧ x.size ≤ 80 := fun x hx => by
 obtain ⟨i, j, hi, hj, rfl⟩ := mem_dall hx
 have hb := (hq i j hi hj).2.size
 exact ⟨by rw [natOf_strOf]; exact (q i j).den_pos, by simpa using hb⟩
theorem bq_psum {q : Nat → Nat → Rat} {n : Nat} (hn : n ≤ 3) (hq : ∀ i j, i < n + 1 → j < n + 1 → Bq (q i j) 80) {k : Nat} (hk : k ≤ n + 1) : Bq (Dt.psum (fun j => q 0 j * Dt.det n (Dt.minor q j)) k) 1700 := by
 have hd := dens_short hq
 have hpos : 0 < Dt.nprod ((dall q (n + 1) (n + 1)).map natOf) := Dt.nprod_pos fun x hx => by
  rw [List.mem_map] at hx
  obtain ⟨y, hy, rfl⟩ := hx
  exact (hd y hy).1
 have hz : ∀ i j, i < n + 1 → j < n + 1 → Bd (whole4 q (n + 1) i j) 401 := fun i j hi hj => by
  unfold whole4 clr
  rw [if_pos hj]
  have hl := densOf_len (fun j => strOf (q i j).den) (n + 1)
  refine (Bd.mul (hq i j hi hj).1 (bd_pex (k := 80) (fun x hx => ?_))).mono ?_
  ·obtain ⟨m, hm, rfl, -⟩ := mem_densOf hx
   have hb := (hq i m hi hm).2.size
   simpa using hb
  ·have : 80 * (densOf (fun j => strOf (q i j).den) (n + 1)).length ≤ 80 * 4 := Nat.mul_le_mul_left _ (by omega)
   omega
 have e := psum_whole (n := n) (z := whole4 q (n + 1)) (q := q) (c := fun i => ((Dt.nprod ((densOf (fun j => strOf (q i j).den) (n + 1)).map natOf) : Nat) : Rat)) (fun i j hi hj => clr_whole (q i) (n + 1) hj) hk
 rw [← dall_prod] at e
 rw [← Dt.mkRat_eq hpos e]
 refine vq_mk hpos ?_ ?_
 ·refine (bd_psum (X := 401 + (n * (401 + 5) + 1)) fun j hj => Bd.mul (hz 0 j (by omega) (by omega)) (bd_det n (by omega) fun i m hi hm => ?_)).mono ?_
  ·unfold Dt.minor
   by_cases d : m < j
   ·rw [if_pos d]; exact hz _ _ (by omega) (by omega)
   ·rw [if_neg d]; exact hz _ _ (by omega) (by omega)
  ·have : n * (401 + 5) ≤ 3 * (401 + 5) := Nat.mul_le_mul_right _ hn
   omega
 ·have h1 := nprod_lt (k := 80) (fun x hx => (hd x hx).2)
  have hl := dall_len q (n + 1) (n + 1)
  have h16 : (n + 1) * (n + 1) ≤ 4 * 4 := Nat.mul_le_mul (by omega) (by omega)
  have hb : Bd ((Dt.nprod ((dall q (n + 1) (n + 1)).map natOf) : Nat) : Int) (80 * (dall q (n + 1) (n + 1)).length + 1) := h1
  exact hb.mono (by omega)
theorem bq_minor {q : Nat → Nat → Rat} {n j : Nat} (hq : ∀ i j, i < n + 1 → j < n + 1 → Bq (q i j) 80) : ∀ i m, i < n → m < n → Bq (Dt.minor q j i m) 80 := fun i m hi hm => by
 unfold Dt.minor
 by_cases d : m < j
 ·rw [if_pos d]; exact hq _ _ (by omega) (by omega)
 ·rw [if_neg d]; exact hq _ _ (by omega) (by omega)
theorem bq_detq {q : Nat → Nat → Rat} {n : Nat} (h1 : 1 ≤ n) (hn : n ≤ 4) (hq : ∀ i j, i < n → j < n → Bq (q i j) 80) : Bq (Dt.det n q) 1700 := by
 obtain ⟨m, rfl⟩ : ∃ m, n = m + 1 := ⟨n - 1, by omega⟩
 exact bq_psum (by omega) hq (Nat.le_refl _)
end Go.Proofs.YtlpafjbbeljbhaaGreatDoor
namespace Go.Proofs.YtlpafjbbeljbhaaGreatDoor
open Go.RowKit

/-- The first l rows of a minor, as the call has made them. -/
def MinR (w : World) (B : Nat) (v : Value) (l n : Nat) (q : Nat → Nat → Rat) : Prop :=
 ∃ vs : List Value, w.ownsRow B 54 1 v l vs ∧ ∀ t, t < l → ∃ g c, vs[t]? = some (.slice (some ⟨g, 0, none⟩) n c) ∧ n ≤ c ∧ w.ownsRow B 26 3 (.slice (some ⟨g, 0, none⟩) n c) n (flq n (q t))
theorem MinR.below {w w' : World} {B l n : Nat} {v : Value} {q : Nat → Nat → Rat} (h : MinR w B v l n q) (hb : Below w.heap.size w w') : MinR w' B v l n q := by
 obtain ⟨vs, h1, h2⟩ := h
 refine ⟨vs, own_below h1 hb, fun t ht => ?_⟩
 obtain ⟨g, c, e, hc, h3⟩ := h2 t ht
 exact ⟨g, c, e, hc, own_below h3 hb⟩
theorem MinR.rdR {w : World} {B n g c : Nat} {q : Nat → Nat → Rat} (h : MinR w B (.slice (some ⟨g, 0, none⟩) n c) n n q) : RdR w (some ⟨g, 0, none⟩) n n q := by
 obtain ⟨vs, h1, h2⟩ := h
 intro i hi
 obtain ⟨g', c', e, hc, h3⟩ := h2 i hi
 refine ⟨g, 0, some ⟨g', 0, none⟩, c', rfl, ?_, hc, rdQ_own h3⟩
 have := World.ownsRow.cells h1 (g := g) rfl i _ e
 rwa [add_at] at this
/-- A row more. -/
theorem MinR.more {w w' : World} {B l n g c : Nat} {v v' : Value} {vs : List Value} {q : Nat → Nat → Rat} (h1 : w.ownsRow B 54 1 v l vs) (h2 : ∀ t, t < l → ∃ g c, vs[t]? = some (.slice (some ⟨g, 0, none⟩) n c) ∧ n ≤ c ∧ w.ownsRow B 26 3 (.slice (some ⟨g, 0, none⟩) n c) n (flq n (q t)))
  (hr : w.ownsRow B 26 3 (.slice (some ⟨g, 0, none⟩) n c) n (flq n (q l))) (hc : n ≤ c) (o : w'.ownsRow B 54 1 v' (l + 1) (vs ++ [.slice (some ⟨g, 0, none⟩) n c])) (hg : w.grownBy w' v.ownBlock) : MinR w' B v' (l + 1) n q := by
 have keep : ∀ (u : Value) (xs : List Value), w.ownsRow B 26 3 u n xs → w'.ownsRow B 26 3 u n xs := fun u xs hu => hu.kept hg (by
  cases hv : u.ownBlock with
  | none => exact Or.inl rfl
  | some b =>
   refine Or.inr fun e => ?_
   obtain ⟨cs, hh⟩ := ownN_type hu b hv
   obtain ⟨cs', hh'⟩ := ownN_type h1 b e.symm
   rw [hh] at hh'
   simp at hh')
 have hl : vs.length = l := by have := h1.1; omega
 refine ⟨_, o, fun t ht => ?_⟩
 by_cases e : t = l
 ·subst e
  exact ⟨g, c, by rw [List.getElem?_append_right (by omega), hl, Nat.sub_self]; rfl, hc, keep _ _ hr⟩
 ·obtain ⟨g', c', e', hc', h3⟩ := h2 t (by omega)
  exact ⟨g', c', by rw [List.getElem?_append_left (by omega)]; exact e', hc', keep _ _ h3⟩
theorem rdqi_some {w : World} {a : Option Addr} {n : Nat} {z : Nat → Rat} (h : RdQI w a n z) (hn : 0 < n) : ∃ b off, a = some ⟨b, off, none⟩ := by
 obtain ⟨b, off, e, -⟩ := h 0 hn
 exact ⟨b, off, e⟩
theorem rdqi_part {w : World} {b off n : Nat} {z : Nat → Rat} (h : RdQI w (some ⟨b, off, none⟩) n z) (k m : Nat) (hk : k + m ≤ n) : RdQI w (some ⟨b, off + k * 3, none⟩) m (fun j => z (k + j)) := by
 refine rdqi_of fun i hi => ?_
 rw [Nat.add_assoc, rdqi_cell h (show k * 3 + i < n * 3 by omega)]
 unfold fq
 rw [show (k * 3 + i) % 3 = i % 3 by omega, show (k * 3 + i) / 3 = k + i / 3 by omega]
theorem catq_minor (q : Nat → Nat → Rat) (k l n : Nat) : flq n (catq k (q (l + 1)) (fun j => q (l + 1) (k + 1 + j))) = flq n (Dt.minor q k l) := by
 unfold flq
 refine List.map_congr_left fun i _ => ?_
 unfold fq
 have e : catq k (q (l + 1)) (fun j => q (l + 1) (k + 1 + j)) (i / 3) = Dt.minor q k l (i / 3) := by
  unfold catq Dt.minor
  by_cases c : i / 3 < k
  ·rw [if_pos c, if_pos c]
  ·rw [if_neg c, if_neg c]
   show q (l + 1) (k + 1 + (i / 3 - k)) = _
   rw [show k + 1 + (i / 3 - k) = i / 3 + 1 by omega]
 rw [e]
/-- The contract of the reference's Det at n rows. -/
def RD (n : Nat) : Prop := ∀ (a : Option Addr) (cap : Nat) (q : Nat → Nat → Rat) (w : World), n ≤ cap → RdR w a n n q → (∀ i j, i < n → j < n → Bq (q i j) 80) →
  Calls Tryz.prog 32 #[.slice a n cap] w fun e w' => e = .returned (.agg #[.bool (nfZ (Dt.det n q).num), .string (sfZ (Dt.det n q).num), .string (strOf (Dt.det n q).den)]) ∧ Below w.heap.size w w'
theorem detq_one (q : Nat → Nat → Rat) : Dt.det 1 q = q 0 0 := by
 simp [Dt.det, Dt.psum]
 grind
set_option maxRecDepth 100000 in
set_option maxHeartbeats 4000000 in
theorem rd_one : RD 1 := by
 intro a cap q w hcap h hb
 obtain ⟨b, off, ar, c, rfl, h0, hc, hr⟩ := h 0 (by omega)
 rw [detq_one]
 obtain ⟨b2, off2, rfl, z0, z1, z2⟩ := hr 0 (by omega)
 simp only [Nat.zero_mul, Nat.add_zero] at z0 z1 z2 h0
 clear hb h hr
 replace h0 := cell_al h0 (.cells #[.bool false, .string { data := #[] }, .string { data := #[] }] 26)
 replace z0 := cell_al z0 (.cells #[.bool false, .string { data := #[] }, .string { data := #[] }] 26)
 replace z1 := cell_al z1 (.cells #[.bool false, .string { data := #[] }, .string { data := #[] }] 26)
 replace z2 := cell_al z2 (.cells #[.bool false, .string { data := #[] }, .string { data := #[] }] 26)
 go_enter Tryz.func32, Tryz.ntmps32
 go_wp2
 obtain ⟨w1, hw, kr, b1⟩ := mk1 w [.bool (nfZ (q 0 0).num), .string (sfZ (q 0 0).num), .string (strOf (q 0 0).den)] 26
 rw [← hw]
 exact post_q (p := 2) (by kernel_rfl) rfl rfl kr ⟨rfl, b1⟩
end Go.Proofs.YtlpafjbbeljbhaaGreatDoor
