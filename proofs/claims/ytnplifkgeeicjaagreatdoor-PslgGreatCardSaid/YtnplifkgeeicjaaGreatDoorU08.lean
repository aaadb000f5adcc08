/-
  math/bits.Mul64; blocks of which one alone is written.
  limb.addTimes.
  limb.addTo, limb.takeFrom.
  limb.takeTimes.
  limb.takeFrom.
-/
import Derived.Lib.Mul64
import Derived.Test.YtnplifkgeeicjaaGreatDoorU04
set_option maxHeartbeats 1000000
namespace Go.Proofs.YtnplifkgeeicjaaGreatDoor
open Go.RowKit
structure Only (g : Nat) (w w' : World) : Prop where
 os : w'.os = w.os
 tape : w'.tape = w.tape
 output : w'.output = w.output
 size : w'.heap.size = w.heap.size
 block : ∀ k, k ≠ g → w'.heap[k]? = w.heap[k]?
theorem Only.refl (g : Nat) (w : World) : Only g w w := ⟨rfl, rfl, rfl, rfl, fun _ _ => rfl⟩
theorem Only.trans {g : Nat} {a b c : World} (h : Only g a b) (k : Only g b c) : Only g a c :=
 ⟨k.os.trans h.os, k.tape.trans h.tape, k.output.trans h.output, k.size.trans h.size, fun i hi => (k.block i hi).trans (h.block i hi)⟩
theorem Only.setCell {g : Nat} {a w : World} (h : Only g a w) (j : Nat) (u : Value) : Only g a (w.setCell ⟨g, j, none⟩ u) :=
 h.trans ⟨rfl, rfl, rfl, by simp [World.setCell], fun k hk => Below.heap_setCell _ _ _ _ hk⟩
theorem Only.drew {g : Nat} {a w : World} (h : Only g a w) : Only g a w.drew := ⟨h.os, h.tape, h.output, h.size, h.block⟩
theorem Only.below {g B : Nat} {a w w' : World} (h : Below B a w) (k : Only g w w') (hB : B ≤ g) : Below B a w' :=
 h.trans ⟨k.os, k.tape, k.output, by rw [k.size]; exact Nat.le_refl _, fun i hi => k.block i (by omega)⟩
theorem Only.blk {g g' : Nat} {w w' : World} {ys : List Nat} (k : Only g w w') (h : Blk w g' ys) (hn : g' ≠ g) : Blk w' g' ys := by
 unfold Blk at *; rw [k.block g' hn]; exact h
def RdX (w : World) (v : Value) (xs : List Nat) (g : Nat) : Prop :=
 ∃ a cap, v = .slice a xs.length cap ∧ xs.length ≤ cap ∧ ∀ j, j < xs.length → ∃ b off, a = some ⟨b, off, none⟩ ∧ b ≠ g ∧ w.cell? ⟨b, off + j, none⟩ = some (.int .u64 (lm xs j : Nat))
theorem RdX.only {w w' : World} {v : Value} {xs : List Nat} {g : Nat} (h : RdX w v xs g) (k : Only g w w') : RdX w' v xs g := by
 obtain ⟨a, cap, rfl, hc, h⟩ := h
 refine ⟨a, cap, rfl, hc, fun j hj => ?_⟩
 obtain ⟨b, off, rfl, hb, hcell⟩ := h j hj
 exact ⟨b, off, rfl, hb, by rw [World.cell?_of_block (w := w) (k.block b hb)]; exact hcell⟩
theorem RdX.rd {w : World} {v : Value} {xs : List Nat} {g : Nat} (h : RdX w v xs g) : Rd w v xs := by
 obtain ⟨a, cap, rfl, hc, h⟩ := h
 refine ⟨a, cap, rfl, hc, fun j hj => ?_⟩
 obtain ⟨b, off, rfl, _, hcell⟩ := h j hj
 exact ⟨b, off, rfl, hcell⟩
theorem RdX.at {w : World} {a : Option Addr} {n cap g : Nat} {xs : List Nat} (h : RdX w (.slice a n cap) xs g) {j : Nat} (hj : j < xs.length) :
  ∃ b off, a = some ⟨b, off, none⟩ ∧ b ≠ g ∧ w.cell? ⟨b, off + j, none⟩ = some (.int .u64 (lm xs j : Nat)) := by
 obtain ⟨a', c', e, _, h'⟩ := h
 simp only [Value.slice.injEq] at e
 obtain ⟨rfl, rfl, rfl⟩ := e
 exact h' j hj
theorem Rd.apart {w w' : World} {v : Value} {xs : List Nat} {g : Nat} (h : Rd w v xs) (hb : Below w.heap.size w w') (hg : w.heap.size ≤ g) : RdX w' v xs g := by
 obtain ⟨a, cap, rfl, hc, h⟩ := h
 refine ⟨a, cap, rfl, hc, fun j hj => ?_⟩
 obtain ⟨b, off, rfl, hcell⟩ := h j hj
 have hlt := World.block_lt_of_cell? w _ hcell
 exact ⟨b, off, rfl, by simp at hlt; omega, by rw [hb.cell hlt]; exact hcell⟩
theorem Blk.rdX {w : World} {g g' : Nat} {ys : List Nat} (h : Blk w g' ys) (off n cap : Nat) (hn : off + n ≤ ys.length) (hc : n ≤ cap) (hg : g' ≠ g) : RdX w (.slice (some ⟨g', off, none⟩) n cap) ((ys.drop off).take n) g := by
 have e : ((ys.drop off).take n).length = n := by simp; omega
 refine ⟨_, cap, by rw [e], by omega, fun j hj => ⟨g', off, rfl, hg, ?_⟩⟩
 rw [e] at hj
 rw [h.cell (by omega), lm_take hj]
 simp [lm]
def mulHi (x y : Nat) : Nat := x * y / 18446744073709551616
def mulLo (x y : Nat) : Nat := x * y % 18446744073709551616
theorem mask32 (a : Nat) (ha : a < 18446744073709551616) : bits .and .u64 (a : Int) 4294967295 = ((a % 4294967296 : Nat) : Int) := by
 have h := bits_and_u64_nat a 4294967295 ha (by omega)
 rw [show a &&& 4294967295 = a % 4294967296 from Nat.and_two_pow_sub_one_eq_mod a 32] at h
 exact h
theorem castDiv32 (a : Nat) : (a : Int) / 4294967296 = ((a / 4294967296 : Nat) : Int) := by omega
theorem castMul (a b : Nat) : (a : Int) * (b : Int) = ((a * b : Nat) : Int) := (Int.natCast_mul a b).symm
theorem castAdd (a b : Nat) : (a : Int) + (b : Int) = ((a + b : Nat) : Int) := (Int.natCast_add a b).symm
theorem wrapIn (a : Nat) (ha : a < 18446744073709551616) : IntKind.u64.wrap (a : Int) = (a : Int) := by rw [IntKind.wrap_u64]; omega
theorem wrapMod (a : Nat) : IntKind.u64.wrap (a : Int) = ((a % 18446744073709551616 : Nat) : Int) := by rw [IntKind.wrap_u64]; omega
theorem mul64_any (x y : Nat) (hx : x < B64) (hy : y < B64) (w : World) :
  Calls Tryz.prog 242 #[.int .u64 (x : Nat), .int .u64 (y : Nat)] w fun e w' => e = .returned (.tuple #[.int .u64 (mulHi x y : Nat), .int .u64 (mulLo x y : Nat)]) ∧ w' = w := by
 unfold B64 at hx hy
 unfold mulHi mulLo
 obtain ⟨bd, bt, bw, hhi⟩ := Lib.mul64_hi x y hx hy
 have ba := Lib.half_mul_le (a := x / 4294967296) (b := y / 4294967296) (by omega) (by omega)
 have bb := Lib.half_mul_le (a := x / 4294967296) (b := y % 4294967296) (by omega) (by omega)
 have bc := Lib.half_mul_le (a := x % 4294967296) (b := y / 4294967296) (by omega) (by omega)
 have ba' : x / 4294967296 * (y / 4294967296) < 18446744073709551616 := by omega
 have bb' : x / 4294967296 * (y % 4294967296) < 18446744073709551616 := by omega
 have bc' : x % 4294967296 * (y / 4294967296) < 18446744073709551616 := by omega
 have bh1 : x / 4294967296 * (y / 4294967296) + (x / 4294967296 * (y % 4294967296) + x % 4294967296 * (y % 4294967296) / 4294967296) / 4294967296 < 18446744073709551616 := by omega
 have bh : x / 4294967296 * (y / 4294967296) + (x / 4294967296 * (y % 4294967296) + x % 4294967296 * (y % 4294967296) / 4294967296) / 4294967296 + ((x / 4294967296 * (y % 4294967296) + x % 4294967296 * (y % 4294967296) / 4294967296) % 4294967296 + x % 4294967296 * (y / 4294967296)) / 4294967296 < 18446744073709551616 := by omega
 go_enter Tryz.func242, Tryz.ntmps242
 go_wp2
 simp only [mask32 x hx, mask32 y hy, castDiv32, castMul, castAdd, wrapIn _ bd, wrapIn _ bb', wrapIn _ bt, mask32 _ bt, wrapIn _ bc', wrapIn _ bw, wrapIn _ ba', wrapIn _ bh1, wrapIn _ bh, wrapMod (x * y)]
 rw [hhi]
 go_ret2
 exact ⟨rfl, rfl⟩
theorem add64_0 (x y : Nat) (w : World) : (callFunc 176 #[.int .u64 (x : Nat), .int .u64 (y : Nat), .int .u64 0]).run Tryz.prog w =
  .ok (.value (.tuple #[.int .u64 (sum64 x y 0 : Nat), .int .u64 (car64 x y 0 : Nat)])) w := add64 x y 0 (by omega) w
theorem sub64_0 (x y : Nat) (w : World) : (callFunc 178 #[.int .u64 (x : Nat), .int .u64 (y : Nat), .int .u64 0]).run Tryz.prog w =
  .ok (.value (.tuple #[.int .u64 (dif64 x y 0 : Nat), .int .u64 (bor64 x y 0 : Nat)])) w := sub64 x y 0 (by omega) w
theorem set_mid (p d r q : List Nat) (x y : Nat) : (p ++ d ++ (x :: r) ++ q).set (p.length + d.length) y = p ++ (d ++ [y]) ++ r ++ q := by
 rw [List.append_assoc (p ++ d), List.set_append_right _ _ (by simp)]
 simp
theorem lm_mid (p d r q : List Nat) (x : Nat) : lm (p ++ d ++ (x :: r) ++ q) (p.length + d.length) = x := by
 unfold lm
 rw [List.append_assoc (p ++ d), List.getD_eq_getElem?_getD, List.getElem?_append_right (by simp)]
 simp
theorem drop_lm (s : List Nat) (k : Nat) (h : k < s.length) : s.drop k = lm s k :: s.drop (k + 1) := by
 rw [List.drop_eq_getElem_cons h]; simp [lm, h]
def atO (x l cc o : Nat) : Nat := sum64 o (sum64 (mulLo x l) cc 0) 0
def atC (x l cc o : Nat) : Nat := mulHi x l + car64 (mulLo x l) cc 0 + car64 o (sum64 (mulLo x l) cc 0) 0
theorem at_facts {x l cc o : Nat} (hx : x < B64) (hl : l < B64) (hc : cc < B64) (ho : o < B64) :
  mulHi x l + car64 (mulLo x l) cc 0 < B64 ∧ atC x l cc o < B64 ∧ atO x l cc o < B64 ∧ atO x l cc o + B64 * atC x l cc o = x * l + cc + o := by
 have hp : x * l ≤ 18446744073709551615 * 18446744073709551615 := Nat.mul_le_mul (by unfold B64 at hx; omega) (by unfold B64 at hl; omega)
 unfold atO atC mulHi mulLo sum64 car64
 unfold B64 at *
 generalize x * l = P at *
 refine ⟨by omega, by omega, by omega, by omega⟩
def AtAt (xs s d : List Nat) (l k cc : Nat) : Prop := d.length = k ∧ M.Low B64 d ∧ cc < B64 ∧ M.val B64 d + B64 ^ k * cc = M.val B64 (s.take k) + M.val B64 (xs.take k) * l
theorem AtAt.step {xs s d : List Nat} {l k cc : Nat} (lx : M.Low B64 xs) (ls : M.Low B64 s) (hl : l < B64) (h : AtAt xs s d l k cc) :
  AtAt xs s (d ++ [atO (lm xs k) l cc (lm s k)]) l (k + 1) (atC (lm xs k) l cc (lm s k)) := by
 obtain ⟨h1, h2, h3, h4⟩ := h
 obtain ⟨f1, f2, f3, f4⟩ := at_facts (lm_lt B64_pos lx k) hl h3 (lm_lt B64_pos ls k)
 refine ⟨by simp [h1], h2.snoc f3, f2, ?_⟩
 rw [M.val_snoc, h1, M.val_take_succ, M.val_take_succ, Nat.pow_succ]
 have e2 : B64 ^ k * (atO (lm xs k) l cc (lm s k) + B64 * atC (lm xs k) l cc (lm s k)) = B64 ^ k * (lm xs k * l + cc + lm s k) := by rw [f4]
 simp only [Nat.mul_add, ← Nat.mul_assoc] at e2
 show _ = _ + B64 ^ k * lm s k + (_ + B64 ^ k * lm xs k) * l
 rw [Nat.add_mul]
 omega
theorem addTimes_any (g : Nat) (p s q : List Nat) (vr : Value) (xs : List Nat) (l cap : Nat) (w : World) (hb : Blk w g (p ++ s ++ q)) (hs : s.length = xs.length) (hr : RdX w vr xs g)
  (ls : M.Low B64 s) (lx : M.Low B64 xs) (hl : l < B64) (hcap : xs.length ≤ cap) (hm : xs.length ≤ 1000000) :
  Calls Tryz.prog 212 #[.slice (some ⟨g, p.length, none⟩) xs.length cap, vr, .int .u64 (l : Nat)] w fun e w' => ∃ (s' : List Nat) (c : Nat), e = .returned (.int .u64 (c : Nat)) ∧ Blk w' g (p ++ s' ++ q) ∧ s'.length = xs.length ∧ M.Low B64 s' ∧ c < B64 ∧
   M.val B64 s' + B64 ^ xs.length * c = M.val B64 s + M.val B64 xs * l ∧ Only g w w' := by
 have hr0 := hr
 obtain ⟨a, ca, rfl, hca, -⟩ := hr
 have hcap' : (xs.length : Int) ≤ cap := by omega
 go_enter Tryz.func212, Tryz.ntmps212
 go_wp2
 go_loopw [7, 19] (fun c i wr => ∃ (k cc : Nat) (d : List Nat), k ≤ xs.length ∧ i = .int .i64 k ∧ c = .int .u64 cc ∧ AtAt xs s d l k cc ∧ Blk wr g (p ++ d ++ s.drop k ++ q) ∧ Only g w wr) (fun _ i _ => xs.length - (intOf i).toNat)
 case atStart => exact ⟨0, 0, [], by omega, rfl, rfl, ⟨rfl, M.Low.nil _, B64_pos, by simp [M.val]⟩, by simpa using hb, Only.refl _ _⟩
 case round =>
  obtain ⟨k, cc, d, hk, rfl, rfl, hat, hblk, hon⟩ := hrel
  have hdl : d.length = k := hat.1
  have hcc : cc < B64 := hat.2.2.1
  by_cases hlt : k < xs.length
  ·obtain ⟨b1, o1, rfl, hne, q1⟩ := (hr0.only hon).at hlt
   rw [drop_lm s k (by omega)] at hblk
   have hc1 := hblk.cell (j := p.length + k) (by simp; omega)
   have hf1 := hblk.frozen (p.length + k)
   rw [← hdl, lm_mid, hdl] at hc1
   have hset := hblk.set (p.length + k) (atO (lm xs k) l cc (lm s k))
   rw [← hdl, set_mid, hdl] at hset
   have HSET := hset
   obtain ⟨f1, f2, f3, f4⟩ := at_facts (lm_lt B64_pos lx k) hl hcc (lm_lt B64_pos ls k)
   have HST : Hid (AtAt xs s (d ++ [atO (lm xs k) l cc (lm s k)]) l (k + 1) (atC (lm xs k) l cc (lm s k))) := hat.step lx ls hl
   have hxl := lm_lt B64_pos lx k
   unfold atC at f2
   unfold B64 at f1 f2
   have HB : Hid (Blk (wr.setCell ⟨g, p.length + k, none⟩ (.int .u64 (atO (lm xs k) l cc (lm s k) : Nat))) g (p ++ (d ++ [atO (lm xs k) l cc (lm s k)]) ++ s.drop (k + 1) ++ q)) := hset
   clear hset HSET f3 f4
   go_wp2_with fail
   refine (mul64_any (lm xs k) l hxl hl _).mono ?_
   rintro e w' ⟨rfl, rfl⟩
   go_wp2_with (first | simp only [add64_0 (mulLo (lm xs k) l) cc] | simp only [add64_0 (lm s k) (sum64 (mulLo (lm xs k) l) cc 0)])
   exact ⟨⟨k + 1, _, _, by omega, by go_num, by simp only [atC, Int.natCast_add], HST.out, HB.out, hon.setCell _ _⟩, by simp [intOf]; omega⟩
  ·have hke : k = xs.length := by omega
   rw [List.drop_of_length_le (by omega), List.append_nil] at hblk
   obtain ⟨h1, h2, h3, h4⟩ := hat
   rw [M.val_take_all _ _ _ (by omega), M.val_take_all _ _ _ (by omega), hke] at h4
   have H4 : Hid (M.val B64 d + B64 ^ xs.length * cc = M.val B64 s + M.val B64 xs * l) := h4
   have HD : Hid (d.length = xs.length) := by rw [← hke]; exact h1
   clear h4 h1 hke hdl
   go_wp2
   go_ret
   exact ⟨d, cc, rfl, hblk, HD.out, h2, h3, H4.out, hon⟩
theorem add64_y0 (x c : Nat) (hc : c ≤ 1) (w : World) : (callFunc 176 #[.int .u64 (x : Nat), .int .u64 0, .int .u64 (c : Nat)]).run Tryz.prog w =
  .ok (.value (.tuple #[.int .u64 (sum64 x 0 c : Nat), .int .u64 (car64 x 0 c : Nat)])) w := add64 x 0 c hc w
theorem sub64_y0 (x c : Nat) (hc : c ≤ 1) (w : World) : (callFunc 178 #[.int .u64 (x : Nat), .int .u64 0, .int .u64 (c : Nat)]).run Tryz.prog w =
  .ok (.value (.tuple #[.int .u64 (dif64 x 0 c : Nat), .int .u64 (bor64 x 0 c : Nat)])) w := sub64 x 0 c hc w
theorem val_take_drop (b : Nat) (s : List Nat) (k : Nat) (h : k ≤ s.length) : M.val b s = M.val b (s.take k) + b ^ k * M.val b (s.drop k) := by
 conv => lhs; rw [← List.take_append_drop k s]
 rw [M.val_append, List.length_take, Nat.min_eq_left h]
theorem addTo_fin {b X V S1 D p pn c : Nat} (h4 : V + p * c = S1 + X) (hc : c = 0 ∨ (D = 0 ∧ p = pn)) : (V + p * D) + pn * c = (S1 + p * D) + X ∧ b = b := by
 refine ⟨?_, rfl⟩
 rcases hc with rfl | ⟨rfl, rfl⟩
 ·simp at h4 ⊢; omega
 ·simp; omega
theorem AddAt.fin2 {s xs d : List Nat} {k c : Nat} (h : AddAt s xs d k c) (hk : xs.length ≤ k) (hn : k ≤ s.length) (hc : c = 0 ∨ k = s.length) :
  M.val B64 (d ++ s.drop k) + B64 ^ s.length * c = M.val B64 s + M.val B64 xs := by
 obtain ⟨h1, h2, h3, h4⟩ := h
 rw [M.val_take_all _ xs _ hk] at h4
 rw [M.val_append, h1, val_take_drop B64 s k hn]
 refine (addTo_fin (b := 0) h4 ?_).1
 rcases hc with rfl | rfl
 ·exact Or.inl rfl
 ·exact Or.inr ⟨by simp [M.val], rfl⟩
theorem addTo_any (g : Nat) (p s q : List Nat) (vr : Value) (xs : List Nat) (cap : Nat) (w : World) (hb : Blk w g (p ++ s ++ q)) (hs : xs.length ≤ s.length) (hr : RdX w vr xs g)
  (ls : M.Low B64 s) (lx : M.Low B64 xs) (hm : s.length ≤ 1000000) :
  Calls Tryz.prog 214 #[.slice (some ⟨g, p.length, none⟩) s.length cap, vr] w fun e w' => ∃ (s' : List Nat) (c : Nat), e = .returned (.int .u64 (c : Nat)) ∧ Blk w' g (p ++ s' ++ q) ∧ s'.length = s.length ∧ M.Low B64 s' ∧ c ≤ 1 ∧
   M.val B64 s' + B64 ^ s.length * c = M.val B64 s + M.val B64 xs ∧ Only g w w' := by
 have hr0 := hr
 obtain ⟨a, ca, rfl, hca, -⟩ := hr
 go_enter Tryz.func214, Tryz.ntmps214
 go_wp2
 go_loopw [5, 11] (fun c i wr => ∃ (k cc : Nat) (d : List Nat), k ≤ xs.length ∧ i = .int .i64 k ∧ c = .int .u64 cc ∧ AddAt s xs d k cc ∧ Blk wr g (p ++ d ++ s.drop k ++ q) ∧ Only g w wr) (fun _ i _ => xs.length - (intOf i).toNat)
 case atStart => exact ⟨0, 0, [], by omega, rfl, rfl, ⟨rfl, M.Low.nil _, by omega, by simp [M.val]⟩, by simpa using hb, Only.refl _ _⟩
 case round =>
  obtain ⟨k, cc, d, hk, rfl, rfl, hat, hblk, hon⟩ := hrel
  have hdl : d.length = k := hat.1
  have hcc : cc ≤ 1 := hat.2.2.1
  by_cases hlt : k < xs.length
  ·obtain ⟨b1, o1, rfl, hne, q1⟩ := (hr0.only hon).at hlt
   rw [drop_lm s k (by omega)] at hblk
   have hc1 := hblk.cell (j := p.length + k) (by simp; omega)
   have hf1 := hblk.frozen (p.length + k)
   rw [← hdl, lm_mid, hdl] at hc1
   have hset := hblk.set (p.length + k) (sum64 (lm s k) (lm xs k) cc)
   rw [← hdl, set_mid, hdl] at hset
   have HST : Hid (AddAt s xs (d ++ [sum64 (lm s k) (lm xs k) cc]) (k + 1) (car64 (lm s k) (lm xs k) cc)) := hat.step ls lx
   have HB : Hid (Blk (wr.setCell ⟨g, p.length + k, none⟩ (.int .u64 (sum64 (lm s k) (lm xs k) cc : Nat))) g (p ++ (d ++ [sum64 (lm s k) (lm xs k) cc]) ++ s.drop (k + 1) ++ q)) := hset
   have hks : (k : Int) < s.length := by omega
   clear hset
   go_wp2_with (simp only [add64 (lm s k) (lm xs k) cc hcc])
   exact ⟨⟨k + 1, _, _, by omega, by go_num, rfl, HST.out, HB.out, hon.setCell _ _⟩, by simp [intOf]; omega⟩
  ·have hke : k = xs.length := by omega
   subst hke
   go_wp2
   clear hlt hk
   go_loopw [5, 8] (fun c i wr => ∃ (k cc : Nat) (d : List Nat), xs.length ≤ k ∧ k ≤ s.length ∧ i = .int .i64 k ∧ c = .int .u64 cc ∧ AddAt s xs d k cc ∧ Blk wr g (p ++ d ++ s.drop k ++ q) ∧ Only g w wr) (fun _ i _ => s.length - (intOf i).toNat)
   case atStart => exact ⟨xs.length, cc, d, by omega, hs, rfl, rfl, hat, hblk, hon⟩
   case round =>
    clear hat hblk hon hdl hcc
    obtain ⟨k, cc, d, hxk, hk, rfl, rfl, hat, hblk, hon⟩ := hrel
    have hdl : d.length = k := hat.1
    have hcc : cc ≤ 1 := hat.2.2.1
    have fin : cc = 0 ∨ k = s.length → Blk wr g (p ++ (d ++ s.drop k) ++ q) ∧ (d ++ s.drop k).length = s.length ∧ M.Low B64 (d ++ s.drop k) ∧ M.val B64 (d ++ s.drop k) + B64 ^ s.length * cc = M.val B64 s + M.val B64 xs := fun h =>
     ⟨by rw [← List.append_assoc p]; exact hblk, by simp; omega, hat.2.1.append (ls.drop k), hat.fin2 hxk hk h⟩
    have FIN : Hid (cc = 0 ∨ k = s.length → Blk wr g (p ++ (d ++ s.drop k) ++ q) ∧ (d ++ s.drop k).length = s.length ∧ M.Low B64 (d ++ s.drop k) ∧ M.val B64 (d ++ s.drop k) + B64 ^ s.length * cc = M.val B64 s + M.val B64 xs) := fin
    clear fin
    by_cases hc0 : cc = 0
    ·obtain ⟨g1, g2, g3, g4⟩ := FIN.out (Or.inl hc0)
     have G4 : Hid (M.val B64 (d ++ s.drop k) + B64 ^ s.length * cc = M.val B64 s + M.val B64 xs) := g4
     have G2 : Hid ((d ++ s.drop k).length = s.length) := g2
     clear g4 g2 FIN
     go_wp2
     go_ret
     exact ⟨d ++ s.drop k, cc, rfl, g1, G2.out, g3, hcc, G4.out, hon⟩
    ·by_cases hlt : k < s.length
     ·rw [drop_lm s k hlt] at hblk
      have hc1 := hblk.cell (j := p.length + k) (by simp; omega)
      have hf1 := hblk.frozen (p.length + k)
      rw [← hdl, lm_mid, hdl] at hc1
      have hst := hat.step ls lx
      rw [lm_ge hxk] at hst
      have hset := hblk.set (p.length + k) (sum64 (lm s k) 0 cc)
      rw [← hdl, set_mid, hdl] at hset
      have HST : Hid (AddAt s xs (d ++ [sum64 (lm s k) 0 cc]) (k + 1) (car64 (lm s k) 0 cc)) := hst
      have HB : Hid (Blk (wr.setCell ⟨g, p.length + k, none⟩ (.int .u64 (sum64 (lm s k) 0 cc : Nat))) g (p ++ (d ++ [sum64 (lm s k) 0 cc]) ++ s.drop (k + 1) ++ q)) := hset
      clear hset hst FIN
      go_wp2_with (simp only [add64_y0 (lm s k) cc hcc])
      exact ⟨⟨k + 1, _, _, by omega, by omega, by go_num, rfl, HST.out, HB.out, hon.setCell _ _⟩, by simp [intOf]; omega⟩
     ·obtain ⟨g1, g2, g3, g4⟩ := FIN.out (Or.inr (by omega))
      have G4 : Hid (M.val B64 (d ++ s.drop k) + B64 ^ s.length * cc = M.val B64 s + M.val B64 xs) := g4
      have G2 : Hid ((d ++ s.drop k).length = s.length) := g2
      clear g4 g2 FIN
      go_wp2
      go_ret
      exact ⟨d ++ s.drop k, cc, rfl, g1, G2.out, g3, hcc, G4.out, hon⟩
def ttO (x l cc o : Nat) : Nat := dif64 o (sum64 (mulLo x l) cc 0) 0
def ttC (x l cc o : Nat) : Nat := mulHi x l + car64 (mulLo x l) cc 0 + bor64 o (sum64 (mulLo x l) cc 0) 0
theorem tt_facts {x l cc o : Nat} (hx : x < B64) (hl : l < B64) (hc : cc < B64) (ho : o < B64) :
  mulHi x l + car64 (mulLo x l) cc 0 < B64 ∧ ttC x l cc o < B64 ∧ ttO x l cc o < B64 ∧ ttO x l cc o + x * l + cc = o + B64 * ttC x l cc o := by
 have hp : x * l ≤ 18446744073709551615 * 18446744073709551615 := Nat.mul_le_mul (by unfold B64 at hx; omega) (by unfold B64 at hl; omega)
 unfold ttO ttC mulHi mulLo sum64 car64 dif64 bor64
 unfold B64 at *
 generalize x * l = P at *
 refine ⟨by omega, by split <;> omega, by omega, by split <;> omega⟩
def TtAt (xs s d : List Nat) (l k cc : Nat) : Prop := d.length = k ∧ M.Low B64 d ∧ cc < B64 ∧ M.val B64 d + M.val B64 (xs.take k) * l = M.val B64 (s.take k) + B64 ^ k * cc
theorem TtAt.step {xs s d : List Nat} {l k cc : Nat} (lx : M.Low B64 xs) (ls : M.Low B64 s) (hl : l < B64) (h : TtAt xs s d l k cc) :
  TtAt xs s (d ++ [ttO (lm xs k) l cc (lm s k)]) l (k + 1) (ttC (lm xs k) l cc (lm s k)) := by
 obtain ⟨h1, h2, h3, h4⟩ := h
 obtain ⟨f1, f2, f3, f4⟩ := tt_facts (lm_lt B64_pos lx k) hl h3 (lm_lt B64_pos ls k)
 refine ⟨by simp [h1], h2.snoc f3, f2, ?_⟩
 rw [M.val_snoc, h1, M.val_take_succ, M.val_take_succ, Nat.pow_succ]
 have e2 : B64 ^ k * (ttO (lm xs k) l cc (lm s k) + lm xs k * l + cc) = B64 ^ k * (lm s k + B64 * ttC (lm xs k) l cc (lm s k)) := by rw [f4]
 simp only [Nat.mul_add, ← Nat.mul_assoc] at e2
 show _ + (_ + B64 ^ k * lm xs k) * l = _ + B64 ^ k * lm s k + _
 rw [Nat.add_mul]
 omega
theorem takeTimes_any (g : Nat) (p s q : List Nat) (vr : Value) (xs : List Nat) (l cap : Nat) (w : World) (hb : Blk w g (p ++ s ++ q)) (hs : s.length = xs.length) (hr : RdX w vr xs g)
  (ls : M.Low B64 s) (lx : M.Low B64 xs) (hl : l < B64) (hcap : xs.length ≤ cap) (hm : xs.length ≤ 1000000) :
  Calls Tryz.prog 267 #[.slice (some ⟨g, p.length, none⟩) xs.length cap, vr, .int .u64 (l : Nat)] w fun e w' => ∃ (s' : List Nat) (c : Nat), e = .returned (.int .u64 (c : Nat)) ∧ Blk w' g (p ++ s' ++ q) ∧ s'.length = xs.length ∧ M.Low B64 s' ∧ c < B64 ∧
   M.val B64 s' + M.val B64 xs * l = M.val B64 s + B64 ^ xs.length * c ∧ Only g w w' := by
 have hr0 := hr
 obtain ⟨a, ca, rfl, hca, -⟩ := hr
 have hcap' : (xs.length : Int) ≤ cap := by omega
 go_enter Tryz.func267, Tryz.ntmps267
 go_wp2
 go_loopw [7, 19] (fun c i wr => ∃ (k cc : Nat) (d : List Nat), k ≤ xs.length ∧ i = .int .i64 k ∧ c = .int .u64 cc ∧ TtAt xs s d l k cc ∧ Blk wr g (p ++ d ++ s.drop k ++ q) ∧ Only g w wr) (fun _ i _ => xs.length - (intOf i).toNat)
 case atStart => exact ⟨0, 0, [], by omega, rfl, rfl, ⟨rfl, M.Low.nil _, B64_pos, by simp [M.val]⟩, by simpa using hb, Only.refl _ _⟩
 case round =>
  obtain ⟨k, cc, d, hk, rfl, rfl, hat, hblk, hon⟩ := hrel
  have hdl : d.length = k := hat.1
  have hcc : cc < B64 := hat.2.2.1
  by_cases hlt : k < xs.length
  ·obtain ⟨b1, o1, rfl, hne, q1⟩ := (hr0.only hon).at hlt
   rw [drop_lm s k (by omega)] at hblk
   have hc1 := hblk.cell (j := p.length + k) (by simp; omega)
   have hf1 := hblk.frozen (p.length + k)
   rw [← hdl, lm_mid, hdl] at hc1
   have hset := hblk.set (p.length + k) (ttO (lm xs k) l cc (lm s k))
   rw [← hdl, set_mid, hdl] at hset
   have HSET := hset
   obtain ⟨f1, f2, f3, f4⟩ := tt_facts (lm_lt B64_pos lx k) hl hcc (lm_lt B64_pos ls k)
   have HST : Hid (TtAt xs s (d ++ [ttO (lm xs k) l cc (lm s k)]) l (k + 1) (ttC (lm xs k) l cc (lm s k))) := hat.step lx ls hl
   have hxl := lm_lt B64_pos lx k
   unfold ttC at f2
   unfold B64 at f1 f2
   have HB : Hid (Blk (wr.setCell ⟨g, p.length + k, none⟩ (.int .u64 (ttO (lm xs k) l cc (lm s k) : Nat))) g (p ++ (d ++ [ttO (lm xs k) l cc (lm s k)]) ++ s.drop (k + 1) ++ q)) := hset
   clear hset HSET f3 f4
   go_wp2_with fail
   refine (mul64_any (lm xs k) l hxl hl _).mono ?_
   rintro e w' ⟨rfl, rfl⟩
   go_wp2_with (first | simp only [add64_0 (mulLo (lm xs k) l) cc] | simp only [sub64_0 (lm s k) (sum64 (mulLo (lm xs k) l) cc 0)])
   exact ⟨⟨k + 1, _, _, by omega, by go_num, by simp only [ttC, Int.natCast_add], HST.out, HB.out, hon.setCell _ _⟩, by simp [intOf]; omega⟩
  ·have hke : k = xs.length := by omega
   rw [List.drop_of_length_le (by omega), List.append_nil] at hblk
   obtain ⟨h1, h2, h3, h4⟩ := hat
   rw [M.val_take_all _ _ _ (by omega), M.val_take_all _ _ _ (by omega), hke] at h4
   have H4 : Hid (M.val B64 d + M.val B64 xs * l = M.val B64 s + B64 ^ xs.length * cc) := h4
   have HD : Hid (d.length = xs.length) := by rw [← hke]; exact h1
   clear h4 h1 hke hdl
   go_wp2
   go_ret
   exact ⟨d, cc, rfl, hblk, HD.out, h2, h3, H4.out, hon⟩
theorem takeFrom_fin {X V S1 D p pn c : Nat} (h4 : V + X = S1 + p * c) (hc : c = 0 ∨ (D = 0 ∧ p = pn)) : (V + p * D) + X = (S1 + p * D) + pn * c := by
 rcases hc with rfl | ⟨rfl, rfl⟩
 ·simp at h4 ⊢; omega
 ·simp; omega
theorem SubAt.fin2 {s xs d : List Nat} {k c : Nat} (h : SubAt s xs d k c) (ls : M.Low B64 s) (hk : xs.length ≤ k) (hn : k ≤ s.length) (hc : c = 0 ∨ k = s.length) (hle : M.val B64 xs ≤ M.val B64 s) :
  M.val B64 (d ++ s.drop k) = M.val B64 s - M.val B64 xs := by
 obtain ⟨h1, h2, h3, h4⟩ := h
 have hlow := M.val_lt B64_pos (h2.append (ls.drop k))
 rw [List.length_append, List.length_drop, h1, show k + (s.length - k) = s.length by omega] at hlow
 rw [M.val_take_all _ xs _ hk] at h4
 have e := val_take_drop B64 s k hn
 have key : M.val B64 (d ++ s.drop k) + M.val B64 xs = M.val B64 s + B64 ^ s.length * c := by
  rw [M.val_append, h1, e]
  refine takeFrom_fin h4 ?_
  rcases hc with rfl | rfl
  ·exact Or.inl rfl
  ·exact Or.inr ⟨by simp [M.val], rfl⟩
 generalize B64 ^ s.length = P at *
 have : c = 0 ∨ c = 1 := by omega
 rcases this with rfl | rfl <;> omega
theorem takeFrom_any (g : Nat) (p s q : List Nat) (vr : Value) (xs : List Nat) (cap : Nat) (w : World) (hb : Blk w g (p ++ s ++ q)) (hs : xs.length ≤ s.length) (hr : RdX w vr xs g)
  (ls : M.Low B64 s) (lx : M.Low B64 xs) (hm : s.length ≤ 1000000) (hle : M.val B64 xs ≤ M.val B64 s) :
  Calls Tryz.prog 244 #[.slice (some ⟨g, p.length, none⟩) s.length cap, vr] w fun e w' => ∃ (s' : List Nat), e = .returned (.tuple #[]) ∧ Blk w' g (p ++ s' ++ q) ∧ s'.length = s.length ∧ M.Low B64 s' ∧
   M.val B64 s' = M.val B64 s - M.val B64 xs ∧ Only g w w' := by
 have hr0 := hr
 have HLE : Hid (M.val B64 xs ≤ M.val B64 s) := hle
 clear hle
 obtain ⟨a, ca, rfl, hca, -⟩ := hr
 go_enter Tryz.func244, Tryz.ntmps244
 go_wp2
 go_loopw [4, 10] (fun c i wr => ∃ (k cc : Nat) (d : List Nat), k ≤ xs.length ∧ i = .int .i64 k ∧ c = .int .u64 cc ∧ SubAt s xs d k cc ∧ Blk wr g (p ++ d ++ s.drop k ++ q) ∧ Only g w wr) (fun _ i _ => xs.length - (intOf i).toNat)
 case atStart => exact ⟨0, 0, [], by omega, rfl, rfl, ⟨rfl, M.Low.nil _, by omega, by simp [M.val]⟩, by simpa using hb, Only.refl _ _⟩
 case round =>
  obtain ⟨k, cc, d, hk, rfl, rfl, hat, hblk, hon⟩ := hrel
  have hdl : d.length = k := hat.1
  have hcc : cc ≤ 1 := hat.2.2.1
  by_cases hlt : k < xs.length
  ·obtain ⟨b1, o1, rfl, hne, q1⟩ := (hr0.only hon).at hlt
   rw [drop_lm s k (by omega)] at hblk
   have hc1 := hblk.cell (j := p.length + k) (by simp; omega)
   have hf1 := hblk.frozen (p.length + k)
   rw [← hdl, lm_mid, hdl] at hc1
   have hset := hblk.set (p.length + k) (dif64 (lm s k) (lm xs k) cc)
   rw [← hdl, set_mid, hdl] at hset
   have HST : Hid (SubAt s xs (d ++ [dif64 (lm s k) (lm xs k) cc]) (k + 1) (bor64 (lm s k) (lm xs k) cc)) := hat.step ls lx
   have HB : Hid (Blk (wr.setCell ⟨g, p.length + k, none⟩ (.int .u64 (dif64 (lm s k) (lm xs k) cc : Nat))) g (p ++ (d ++ [dif64 (lm s k) (lm xs k) cc]) ++ s.drop (k + 1) ++ q)) := hset
   have hks : (k : Int) < s.length := by omega
   clear hset
   go_wp2_with (simp only [sub64 (lm s k) (lm xs k) cc hcc])
   exact ⟨⟨k + 1, _, _, by omega, by go_num, rfl, HST.out, HB.out, hon.setCell _ _⟩, by simp [intOf]; omega⟩
  ·have hke : k = xs.length := by omega
   subst hke
   go_wp2
   clear hlt hk
   go_loopw [4, 7] (fun c i wr => ∃ (k cc : Nat) (d : List Nat), xs.length ≤ k ∧ k ≤ s.length ∧ i = .int .i64 k ∧ c = .int .u64 cc ∧ SubAt s xs d k cc ∧ Blk wr g (p ++ d ++ s.drop k ++ q) ∧ Only g w wr) (fun _ i _ => s.length - (intOf i).toNat)
   case atStart => exact ⟨xs.length, cc, d, by omega, hs, rfl, rfl, hat, hblk, hon⟩
   case round =>
    clear hat hblk hon hdl hcc
    obtain ⟨k, cc, d, hxk, hk, rfl, rfl, hat, hblk, hon⟩ := hrel
    have hdl : d.length = k := hat.1
    have hcc : cc ≤ 1 := hat.2.2.1
    have fin : cc = 0 ∨ k = s.length → Blk wr g (p ++ (d ++ s.drop k) ++ q) ∧ (d ++ s.drop k).length = s.length ∧ M.Low B64 (d ++ s.drop k) ∧ M.val B64 (d ++ s.drop k) = M.val B64 s - M.val B64 xs := fun h =>
     ⟨by rw [← List.append_assoc p]; exact hblk, by simp; omega, hat.2.1.append (ls.drop k), hat.fin2 ls hxk hk h HLE.out⟩
    have FIN : Hid (cc = 0 ∨ k = s.length → Blk wr g (p ++ (d ++ s.drop k) ++ q) ∧ (d ++ s.drop k).length = s.length ∧ M.Low B64 (d ++ s.drop k) ∧ M.val B64 (d ++ s.drop k) = M.val B64 s - M.val B64 xs) := fin
    clear fin
    by_cases hc0 : cc = 0
    ·obtain ⟨g1, g2, g3, g4⟩ := FIN.out (Or.inl hc0)
     have G4 : Hid (M.val B64 (d ++ s.drop k) = M.val B64 s - M.val B64 xs) := g4
     have G2 : Hid ((d ++ s.drop k).length = s.length) := g2
     clear g4 g2 FIN
     go_wp2
     go_end0
     exact ⟨d ++ s.drop k, rfl, g1, G2.out, g3, G4.out, hon⟩
    ·by_cases hlt : k < s.length
     ·rw [drop_lm s k hlt] at hblk
      have hc1 := hblk.cell (j := p.length + k) (by simp; omega)
      have hf1 := hblk.frozen (p.length + k)
      rw [← hdl, lm_mid, hdl] at hc1
      have hst := hat.step ls lx
      rw [lm_ge hxk] at hst
      have hset := hblk.set (p.length + k) (dif64 (lm s k) 0 cc)
      rw [← hdl, set_mid, hdl] at hset
      have HST : Hid (SubAt s xs (d ++ [dif64 (lm s k) 0 cc]) (k + 1) (bor64 (lm s k) 0 cc)) := hst
      have HB : Hid (Blk (wr.setCell ⟨g, p.length + k, none⟩ (.int .u64 (dif64 (lm s k) 0 cc : Nat))) g (p ++ (d ++ [dif64 (lm s k) 0 cc]) ++ s.drop (k + 1) ++ q)) := hset
      clear hset hst FIN
      go_wp2_with (simp only [sub64_y0 (lm s k) cc hcc])
      exact ⟨⟨k + 1, _, _, by omega, by omega, by go_num, rfl, HST.out, HB.out, hon.setCell _ _⟩, by simp [intOf]; omega⟩
     ·obtain ⟨g1, g2, g3, g4⟩ := FIN.out (Or.inr (by omega))
      have G4 : Hid (M.val B64 (d ++ s.drop k) = M.val B64 s - M.val B64 xs) := g4
      have G2 : Hid ((d ++ s.drop k).length = s.length) := g2
      clear g4 g2 FIN
      go_wp2
      go_end0
      exact ⟨d ++ s.drop k, rfl, g1, G2.out, g3, G4.out, hon⟩
end Go.Proofs.YtnplifkgeeicjaaGreatDoor
