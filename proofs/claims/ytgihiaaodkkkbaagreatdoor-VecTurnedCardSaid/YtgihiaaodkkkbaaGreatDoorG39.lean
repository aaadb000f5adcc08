/-
  Package vec: dot.
  Package vec: determinant.
  Package vec: the determinant of two rows.
  Package vec: isSquare, Det, of any rows.
  Package vec: each, where a number may not be; Plus, Minus, Scale, walked.
  Package vec: cross.
  Package vec: Norm2.
  Package vec: Plus, Minus, Scale, walked.
  gussetref03's Of; gussetlaw04's at, short, small.
-/
import Derived.Test.YtgihiaaodkkkbaaGreatDoorG34
import Derived.Test.YtgihiaaodkkkbaaGreatDoorG36
namespace Go.Proofs.YtgihiaaodkkkbaaGreatDoor
open Go.RowKit

end Go.Proofs.YtgihiaaodkkkbaaGreatDoor
namespace Go.Proofs.YtgihiaaodkkkbaaGreatDoor
open Go.RowKit

theorem ex_any (n B : Nat) (h1 : 1 ≤ n) (h4 : n ≤ 4) (hB : B ≤ 3000) : Ex n B := by
 match n, h1, h4 with
 | 1, _, _ => exact ex_one B
 | 2, _, _ => exact ex_succ 1 B (by omega) (by omega) hB (ex_one B)
 | 3, _, _ => exact ex_succ 2 B (by omega) (by omega) hB (ex_succ 1 B (by omega) (by omega) hB (ex_one B))
 | 4, _, _ => exact ex_succ 3 B (by omega) (by omega) hB (ex_succ 2 B (by omega) (by omega) hB (ex_succ 1 B (by omega) (by omega) hB (ex_one B)))
theorem own_set {w : World} {B n k g j : Nat} {t t' : TypeId} {v u : Value} {xs : List Value} (h : w.ownsRow B t k v n xs) (hc : ∃ cs, w.heap[g]? = some (.cells cs t' (0, 0))) (hne : t ≠ t') : (w.setCell ⟨g, j, none⟩ u).ownsRow B t k v n xs := by
 have hg : w.grownBy (w.setCell ⟨g, j, none⟩ u) (some g) := ⟨rfl, rfl, rfl, by simp, fun b _ hb => Below.heap_setCell _ _ _ _ (fun e => hb (by rw [e]))⟩
 refine h.kept hg (Or.inr fun e => ?_)
 obtain ⟨cs, hh⟩ := ownN_type h g e
 obtain ⟨cs', hh'⟩ := hc
 rw [hh] at hh'
 simp at hh'
 exact hne hh'.2
/-- The rows made whole. -/
def whole4 (q : Nat → Nat → Rat) (n : Nat) : Nat → Nat → Int := fun i => clr (q i) (densOf (fun j => strOf (q i j).den) n) n

set_option maxRecDepth 100000 in
set_option maxHeartbeats 8000000 in
theorem determinant_any (a : Option Addr) (n cap : Nat) (q : Nat → Nat → Rat) (w : World) (hT : Tab w) (h1 : 1 ≤ n) (h4 : n ≤ 4) (h : RdR w a n n q) (hq : ∀ i j, i < n → j < n → Bq (q i j) 170) :
  Calls Tryz.prog 43 #[.slice a n cap] w fun e w' => e = .returned (qI (Dt.det n q)) ∧ Below w.heap.size w w' := by
 replace h := shut h
 replace hT := shut hT
 replace hq := shut hq
 have HD : Hid (∀ i, i < n → ∀ x ∈ densOf (fun j => strOf (q i j).den) n, OkS x ∧ 0 < natOf x ∧ x.size ≤ 170) := fun i hi x hx => by
  obtain ⟨j, hj, rfl, -⟩ := mem_densOf hx
  have hb := (hq.out i j hi hj).2.size
  exact ⟨okS_strOf _, by rw [natOf_strOf]; exact (q i j).den_pos, by simpa using hb⟩
 have HDa : Hid (∀ x ∈ dall q n n, OkS x ∧ 0 < natOf x ∧ x.size ≤ 170) := fun x hx => by
  obtain ⟨i, j, hi, hj, rfl⟩ := mem_dall hx
  have hb := (hq.out i j hi hj).2.size
  exact ⟨okS_strOf _, by rw [natOf_strOf]; exact (q i j).den_pos, by simpa using hb⟩
 have HZ : Hid (∀ i j, i < n → j < n → Bd (whole4 q n i j) 851) := fun i j hi hj => by
  unfold whole4 clr
  rw [if_pos hj]
  have hl := densOf_len (fun j => strOf (q i j).den) n
  refine (Bd.mul (hq.out i j hi hj).1 (bd_pex (k := 170) (fun x hx => (HD.out i hi x hx).2.2))).mono ?_
  have : 170 * (densOf (fun j => strOf (q i j).den) n).length ≤ 170 * 4 := Nat.mul_le_mul_left _ (by omega)
  omega
 obtain ⟨K, hK⟩ : ∃ K, K = 8000 := ⟨_, rfl⟩
 have HK : Hid (K ≤ 8000) := by show K ≤ 8000; omega
 have HN : Hid (Bd (Dt.det n (whole4 q n)) K) := (bd_det n h4 HZ.out).mono (by have : n * (851 + 5) ≤ 4 * (851 + 5) := Nat.mul_le_mul_right _ h4; omega)
 have HLa : Hid (∀ k, k ≤ n → (dall q n k).length ≤ 16) := fun k hk => by
  have h0 := dall_len q n k
  have : k * n ≤ 4 * 4 := Nat.mul_le_mul (by omega) h4
  omega
 have HP : Hid (Dt.nprod ((dall q n n).map natOf) < 256 ^ K) := Nat.lt_of_lt_of_le (nprod_lt (k := 170) (fun x hx => (HDa.out x hx).2.2)) (Nat.pow_le_pow_right (by omega) (by have := HLa.out n (Nat.le_refl _); omega))
 have HQ : Hid (mkRat (Dt.det n (whole4 q n)) (Dt.nprod ((dall q n n).map natOf)) = Dt.det n q) := det_over q n (Dt.nprod_pos fun x hx => by
  rw [List.mem_map] at hx
  obtain ⟨y, hy, rfl⟩ := hx
  exact (HDa.out y hy).2.1)
 go_enter Tryz.func43, Tryz.ntmps43
 go_wp2_with (at_make; refine wpList_mkV rfl _ _ rfl _ n rfl rfl (by omega) (by omega) ?_; intro w1 k1 b1)
 clear hK
 obtain ⟨kr, bb1⟩ := al1 b1
 have KC : Hid (RowsC w1 (w.heap.size + 1) 0 n n (whole4 q n)) := ⟨_, by simpa using k1, fun i hi => by omega⟩
 clear k1 b1
 go_loopw [4, 13] (fun dv i wr => ∃ k : Nat, k ≤ n ∧ i = .int .i64 k ∧ wr.ownsRow w.heap.size 28 1 dv (dall q n k).length ((dall q n k).map Value.string) ∧ RowsC wr (w.heap.size + 1) k n n (whole4 q n) ∧ Cel wr w.heap.size [.bool false, .string { data := #[] }, .string { data := #[] }] 32 ∧ Below w.heap.size w wr) (fun _ i _ => n - (intOf i).toNat)
 case atStart => exact ⟨0, by omega, rfl, World.ownsRow_nil _ _ _ _, KC.out, kr, bb1⟩
 case round =>
  clear KC kr bb1
  obtain ⟨k, hk, rfl, ho, kc, kr, bb⟩ := hrel
  by_cases hkn : k < n
  ·obtain ⟨b, off, ar, c, rfl, h0, hc, hr⟩ := h.out.below bb k hkn
   replace hr := shut hr
   replace ho := shut ho
   have hlen := shut (HLa.out k hk)
   go_wp2_with fail
   go_fit (denominators_any ar n c _ _ _ wr (by omega) hr.out)
   rintro e w2 ⟨v, rfl, hu, b1⟩
   replace kc := kc.below b1
   replace kr := kr.below b1
   replace bb := Below.after bb b1
   replace hr := shut (RdQ.below hr.out b1)
   replace ho := shut (own_below ho.out b1)
   replace hu := shut hu
   clear b1 h0
   go_wp2_with fail
   go_fit (cleared_any ar n c (q k) v (densOf (fun j => strOf (q k j).den) n) w2 (by omega) hr.out (rds_own hu.out) (Nat.le_trans (densOf_len _ _) (by omega)) (fun x hx => ⟨(HD.out k hkn x hx).1, (HD.out k hkn x hx).2.2⟩) (fun j hj => (hq.out k j hkn hj).1))
   rintro e w3 ⟨g3, rfl, kz, hg3, b1⟩
   have hl3 : Hid (w.heap.size + 1 < g3) := by
    obtain ⟨f, kf, -⟩ := id kc
    exact Nat.lt_of_lt_of_le kf.lt hg3
   replace kc := kc.below b1
   replace kr := kr.below b1
   replace bb := Below.after bb b1
   replace ho := shut (own_below ho.out b1)
   replace hu := shut (own_below hu.out b1)
   clear b1 hg3 hr
   obtain ⟨f, kf, -⟩ := id kc
   have e0 := kf.cell hkn
   have f0 := kf.frozen k
   have ty : Hid (∃ cs, w3.heap[w.heap.size + 1]? = some (.cells cs 86 (0, 0))) := by
    obtain ⟨cs, hh, -⟩ := id kf
    exact ⟨cs, hh⟩
   clear kf
   go_wp2_with (at_builtin; refine wpList_appS rfl _ _ rfl u4 (dall q n k).length ((dall q n k).map Value.string) rfl w.heap.size (own_set ho.out ty.out (by decide)) (by have := bb.size; simpa using this) v (densOf (fun j => strOf (q k j).den) n) _ (own_set hu.out ty.out (by decide)) rfl (by have := hlen.out; have := densOf_len (fun j => strOf (q k j).den) n; omega) ?_; intro v' w4 o4 hg4)
   have ot := ownN_type (own_set (j := k) (u := .slice (some ⟨g3, 0, none⟩) n n) ho.out ty.out (by decide))
   have C4 := shut ((kc.put hl3.out kz).grown hg4 ot)
   have R4 := shut ((kr.other (g' := w.heap.size + 1) (by omega) k (.slice (some ⟨g3, 0, none⟩) n n)).grown hg4 ot (by decide))
   have B4 : Hid (Below w.heap.size w w4) := (bset bb (Nat.le_succ _) k _).grown hg4 (by have := bb.size; simpa using this) (fun g hg => ownN_block ho.out g hg)
   have O4 : Hid (w4.ownsRow w.heap.size 28 1 v' (dall q n (k + 1)).length ((dall q n (k + 1)).map Value.string)) := by
    show World.ownsRow _ _ _ _ _ _ _
    rw [show dall q n (k + 1) = dall q n k ++ densOf (fun j => strOf (q k j).den) n from rfl, List.length_append, List.map_append]
    exact o4
   clear o4 hg4 ot kc kr bb ho hu kz e0 f0 ty hl3
   go_wp2
   exact ⟨⟨k + 1, by omega, by go_num, O4.out, C4.out, R4.out, B4.out⟩, by simp [intOf]; omega⟩
  ·obtain rfl : k = n := by omega
   have HE := shut (fun w' r => ex_any k 851 h1 h4 (by omega) (some ⟨w.heap.size + 1, 0, none⟩) k (whole4 q k) w' (Nat.le_refl _) r HZ.out)
   have rm := shut kc.rdM
   replace ho := shut ho
   have hlen := shut (HLa.out k (Nat.le_refl _))
   clear kc
   go_wp2_with fail
   go_fit (HE.out _ rm.out)
   rintro e w2 ⟨rfl, b1⟩
   replace kr := kr.below b1
   replace bb := Below.after bb b1
   replace ho := shut (own_below ho.out b1)
   clear b1 rm
   have HO : Hid (Calls Tryz.prog 76 #[.agg #[.bool (nfZ (Dt.det k (whole4 q k))), .string (sfZ (Dt.det k (whole4 q k)))], u4] w2 fun e w' => e = .returned (qI (Dt.det k q)) ∧ Below w2.heap.size w2 w') := by
    have := over_any (Dt.det k (whole4 q k)) u4 (dall q k k) w2 (hT.out.below bb) (rds_own ho.out) (by have := hlen.out; omega) (fun x hx => ⟨(HDa.out x hx).1, (HDa.out x hx).2.1, by have := (HDa.out x hx).2.2; omega⟩) HK.out HN.out HP.out
    rw [HQ.out] at this
    exact this
   obtain ⟨rN, rS, rD, hr⟩ : ∃ x y z, qI (Dt.det k q) = .agg #[.bool x, .string y, .string z] := ⟨_, _, _, rfl⟩
   rw [hr] at HO
   replace hr := shut hr
   go_wp2_with fail
   go_fit (HO.out)
   rintro e w3 ⟨rfl, b1⟩
   replace kr := kr.below b1
   replace bb := Below.after bb b1
   clear b1 HO ho
   have d0 := cel3_0 kr
   have d1 := cel3_1 kr
   have d2 := cel3_2 kr
   have f0 := Cel.frozen kr 0
   have f1 := Cel.frozen kr 1
   have f2 := Cel.frozen kr 2
   go_wp2
   exact post_q (p := 2) (by kernel_rfl) rfl rfl (((kr.set 0 _).set 1 _).set 2 _) ⟨by rw [hr.out], bset (bset (bset bb (Nat.le_refl _) 0 _) (Nat.le_refl _) 1 _) (Nat.le_refl _) 2 _⟩
end Go.Proofs.YtgihiaaodkkkbaaGreatDoor
namespace Go.Proofs.YtgihiaaodkkkbaaGreatDoor
open Go.RowKit

/-- Two rows of two. -/
def m2 (x0 y0 x1 y1 : Rat) (i j : Nat) : Rat := f2 (f2 x0 y0 j) (f2 x1 y1 j) i
theorem det_m2 (x0 y0 x1 y1 : Rat) : Dt.det 2 (m2 x0 y0 x1 y1) = x0 * y1 - y0 * x1 := by
 simp [Dt.det, Dt.psum, Dt.minor, m2, f2]
 grind
theorem rdqi_2 {w : World} {B : Nat} {t : TypeId} {n0 n1 : Bool} {s0 d0 s1 d1 : ByteArray} (h : Cel w B [.bool n0, .string s0, .string d0, .bool n1, .string s1, .string d1] t) (o0 : OkQ n0 s0 d0) (o1 : OkQ n1 s1 d1) : RdQI w (some ⟨B, 0, none⟩) 2 (f2 (qOf n0 s0 d0) (qOf n1 s1 d1)) := by
 intro j hj
 obtain ⟨b, off, e, h0, h1, h2⟩ := rdq_2 h j hj
 refine ⟨b, off, e, ?_⟩
 obtain ⟨a0, a1, a2⟩ := o0.parts
 obtain ⟨b0, b1, b2⟩ := o1.parts
 match j, hj with
 | 0, _ =>
  refine ⟨h0.trans ?_, h1.trans ?_, h2.trans ?_⟩
  ·show some (Value.bool n0) = some (.bool (nfZ (qOf n0 s0 d0).num)); unfold nfZ; rw [a0]
  ·show some (Value.string s0) = some (.string (sfZ (qOf n0 s0 d0).num)); unfold sfZ; rw [a1]
  ·show some (Value.string d0) = some (.string (strOf (qOf n0 s0 d0).den)); rw [a2]
 | 1, _ =>
  refine ⟨h0.trans ?_, h1.trans ?_, h2.trans ?_⟩
  ·show some (Value.bool n1) = some (.bool (nfZ (qOf n1 s1 d1).num)); unfold nfZ; rw [b0]
  ·show some (Value.string s1) = some (.string (sfZ (qOf n1 s1 d1).num)); unfold sfZ; rw [b1]
  ·show some (Value.string d1) = some (.string (strOf (qOf n1 s1 d1).den)); rw [b2]
theorem det2_any (B g1 g2 : Nat) (n0 n1 n2 n3 : Bool) (s0 d0 s1 d1 s2 d2 s3 d3 : ByteArray) {w : World} (hT : Tab w) (hB : Cel w B [.slice (some ⟨g1, 0, none⟩) 2 2, .slice (some ⟨g2, 0, none⟩) 2 2] 27)
  (k1 : Cel w g1 [.bool n0, .string s0, .string d0, .bool n1, .string s1, .string d1] 32) (k2 : Cel w g2 [.bool n2, .string s2, .string d2, .bool n3, .string s3, .string d3] 32)
  (o0 : OkQ n0 s0 d0) (o1 : OkQ n1 s1 d1) (o2 : OkQ n2 s2 d2) (o3 : OkQ n3 s3 d3) (z0 : s0.size ≤ 170 ∧ d0.size ≤ 170) (z1 : s1.size ≤ 170 ∧ d1.size ≤ 170) (z2 : s2.size ≤ 170 ∧ d2.size ≤ 170) (z3 : s3.size ≤ 170 ∧ d3.size ≤ 170) :
  Calls Tryz.prog 43 #[.slice (some ⟨B, 0, none⟩) 2 2] w fun e w' => e = .returned (qI (qOf n0 s0 d0 * qOf n3 s3 d3 - qOf n1 s1 d1 * qOf n2 s2 d2)) ∧ Below w.heap.size w w' := by
 have := determinant_any (some ⟨B, 0, none⟩) 2 2 (m2 (qOf n0 s0 d0) (qOf n1 s1 d1) (qOf n2 s2 d2) (qOf n3 s3 d3)) w hT (by omega) (by omega) (fun i hi => ?_) (fun i j hi hj => ?_)
 ·rw [det_m2] at this
  exact this
 ·match i, hi with
  | 0, _ => exact ⟨B, 0, some ⟨g1, 0, none⟩, 2, rfl, hB.cell 0, Nat.le_refl _, rdqi_2 k1 o0 o1⟩
  | 1, _ => exact ⟨B, 0, some ⟨g2, 0, none⟩, 2, rfl, hB.cell 1, Nat.le_refl _, rdqi_2 k2 o2 o3⟩
 ·match i, j, hi, hj with
  | 0, 0, _, _ => exact o0.bq z0.1 z0.2
  | 0, 1, _, _ => exact o1.bq z1.1 z1.2
  | 1, 0, _, _ => exact o2.bq z2.1 z2.2
  | 1, 1, _, _ => exact o3.bq z3.1 z3.2
end Go.Proofs.YtgihiaaodkkkbaaGreatDoor
namespace Go.Proofs.YtgihiaaodkkkbaaGreatDoor
open Go.RowKit

/-- The slice at a reads in w as n rows of numbers, as long as told. -/
def RdG (w : World) (a : Option Addr) (n : Nat) (len : Nat → Nat) (N : Nat → Nat → Bool) (S D : Nat → Nat → ByteArray) : Prop := ∀ i, i < n → ∃ b off ar c, a = some ⟨b, off, none⟩ ∧ w.cell? ⟨b, off + i, none⟩ = some (.slice ar (len i) c) ∧ len i ≤ c ∧ RdQ w ar (len i) (N i) (S i) (D i)
theorem RdG.below {w w' : World} {a : Option Addr} {n : Nat} {len : Nat → Nat} {N : Nat → Nat → Bool} {S D : Nat → Nat → ByteArray} (h : RdG w a n len N S D) (hb : Below w.heap.size w w') : RdG w' a n len N S D := by
 intro i hi
 obtain ⟨b, off, ar, c, rfl, h0, hc, h1⟩ := h i hi
 exact ⟨b, off, ar, c, rfl, cell_below h0 hb, hc, h1.below hb⟩
/-- As many rows as may be, and rows as long. -/
def sq (n : Nat) (len : Nat → Nat) : Prop := 1 ≤ n ∧ n ≤ 4 ∧ ∀ i, i < n → len i = n
set_option maxRecDepth 100000 in
set_option maxHeartbeats 4000000 in
theorem isSquare_yes (a : Option Addr) (n cap : Nat) (len : Nat → Nat) (N : Nat → Nat → Bool) (S D : Nat → Nat → ByteArray) (w : World) (h : RdG w a n len N S D) (hs : sq n len) :
  Calls Tryz.prog 41 #[.slice a n cap] w fun e w' => e = .returned (.bool true) ∧ w' = w := by
 obtain ⟨h1, h4, hl⟩ := hs
 replace h := shut h
 replace hl := shut hl
 have i1 : ¬ (n : Int) < 1 := by omega
 have i2 : ¬ (4 : Int) < (n : Int) := by omega
 go_enter Tryz.func41, Tryz.ntmps41
 go_wp2
 go_loop [15] (fun i => ∃ k : Nat, k ≤ n ∧ i = .int .i64 k) (fun i => n - (intOf i).toNat)
 case atStart => exact ⟨0, by omega, rfl⟩
 case round =>
  obtain ⟨k, hk, rfl⟩ := hrel
  by_cases hkn : k < n
  ·obtain ⟨b, off, ar, c, rfl, h0, hc, -⟩ := h.out k hkn
   rw [hl.out k hkn] at h0
   go_wp2
   exact ⟨⟨k + 1, by omega, by go_num⟩, by simp [intOf]; omega⟩
  ·obtain rfl : k = n := by omega
   go_wp2
   go_ret
   exact ⟨rfl, rfl⟩
set_option maxRecDepth 100000 in
set_option maxHeartbeats 4000000 in
theorem isSquare_few (a : Option Addr) (n cap : Nat) (w : World) (h1 : n < 1) :
  Calls Tryz.prog 41 #[.slice a n cap] w fun e w' => e = .returned (.bool false) ∧ w' = w := by
 have i1 : (n : Int) < 1 := by omega
 go_enter Tryz.func41, Tryz.ntmps41
 go_wp2
 go_ret
 exact ⟨rfl, rfl⟩
set_option maxRecDepth 100000 in
set_option maxHeartbeats 4000000 in
theorem isSquare_many (a : Option Addr) (n cap : Nat) (w : World) (h1 : 4 < n) :
  Calls Tryz.prog 41 #[.slice a n cap] w fun e w' => e = .returned (.bool false) ∧ w' = w := by
 have i1 : ¬ (n : Int) < 1 := by omega
 have i2 : (4 : Int) < (n : Int) := by omega
 go_enter Tryz.func41, Tryz.ntmps41
 go_wp2
 go_ret
 exact ⟨rfl, rfl⟩
set_option maxRecDepth 100000 in
set_option maxHeartbeats 4000000 in
theorem isSquare_not (a : Option Addr) (n cap : Nat) (len : Nat → Nat) (N : Nat → Nat → Bool) (S D : Nat → Nat → ByteArray) (w : World) (h : RdG w a n len N S D) (h1 : 1 ≤ n) (h4 : n ≤ 4) (hs : ¬ ∀ i, i < n → len i = n) :
  Calls Tryz.prog 41 #[.slice a n cap] w fun e w' => e = .returned (.bool false) ∧ w' = w := by
 replace h := shut h
 replace hs := shut hs
 have i1 : ¬ (n : Int) < 1 := by omega
 have i2 : ¬ (4 : Int) < (n : Int) := by omega
 go_enter Tryz.func41, Tryz.ntmps41
 go_wp2
 go_loop [15] (fun i => ∃ k : Nat, k ≤ n ∧ i = .int .i64 k ∧ ∀ j, j < k → len j = n) (fun i => n - (intOf i).toNat)
 case atStart => exact ⟨0, by omega, rfl, fun j hj => by omega⟩
 case round =>
  obtain ⟨k, hk, rfl, hz⟩ := hrel
  replace hz := shut hz
  by_cases hkn : k < n
  ·obtain ⟨b, off, ar, c, rfl, h0, hc, -⟩ := h.out k hkn
   by_cases he : len k = n
   ·rw [he] at h0
    replace he := shut he
    go_wp2
    exact ⟨⟨k + 1, by omega, by go_num, fun j hj => by
     by_cases e : j = k
     ·subst e; exact he.out
     ·exact hz.out j (by omega)⟩, by simp [intOf]; omega⟩
   ·have he' : ((len k : Int) == (n : Int)) = false := beq_eq_false_iff_ne.2 (by omega)
    have he2 : ¬ (len k : Int) = (n : Int) := by omega
    go_wp2
    go_ret
    exact ⟨rfl, rfl⟩
  ·exact absurd (fun j hj => hz.out j (by omega)) hs.out
open Classical in
theorem isSquare_any (a : Option Addr) (n cap : Nat) (len : Nat → Nat) (N : Nat → Nat → Bool) (S D : Nat → Nat → ByteArray) (w : World) (h : RdG w a n len N S D) :
  Calls Tryz.prog 41 #[.slice a n cap] w fun e w' => e = .returned (.bool (decide (sq n len))) ∧ w' = w := by
 by_cases h1 : 1 ≤ n
 ·by_cases h4 : n ≤ 4
  ·by_cases hl : ∀ i, i < n → len i = n
   ·rw [decide_eq_true (show sq n len from ⟨h1, h4, hl⟩)]; exact isSquare_yes a n cap len N S D w h ⟨h1, h4, hl⟩
   ·rw [decide_eq_false (fun e => hl e.2.2)]; exact isSquare_not a n cap len N S D w h h1 h4 hl
  ·rw [decide_eq_false (fun e => h4 e.2.1)]; exact isSquare_many a n cap w (by omega)
 ·rw [decide_eq_false (fun e => h1 e.1)]; exact isSquare_few a n cap w (by omega)

set_option maxRecDepth 100000 in
set_option maxHeartbeats 4000000 in
theorem vDet_no (v : Option Addr) (n cap : Nat) (w : World)
  (H : Hid (∀ w1, Below w.heap.size w w1 → Calls Tryz.prog 41 #[.slice v n cap] w1 fun e w' => e = .returned (.bool false) ∧ w' = w1)) :
  Calls Tryz.prog 13 #[.slice v n cap] w fun e w' => e = .returned (.tuple #[.agg #[.bool false, .string { data := #[] }, .string { data := #[] }], .int .i64 1]) ∧ Below w.heap.size w w' := by
 go_enter Tryz.func13, Tryz.ntmps13
 go_wp2_with fail
 go_fit (H.out _ (bel_al _ _))
 rintro e w1 ⟨rfl, rfl⟩
 obtain ⟨w1, hw, kr, bb⟩ := mk1 w [.bool false, .string { data := #[] }, .string { data := #[] }] 32
 rw [← hw]
 clear hw
 have d0 := cel3_0 kr
 have d1 := cel3_1 kr
 have d2 := cel3_2 kr
 have f0 := Cel.frozen kr 0
 have f1 := Cel.frozen kr 1
 have f2 := Cel.frozen kr 2
 go_wp2
 exact post_q1 (p := 2) (u := 3) (v := .int .i64 1) (by kernel_rfl) rfl rfl rfl (((kr.set 0 _).set 1 _).set 2 _) ⟨rfl, bset (bset (bset bb (Nat.le_refl _) 0 _) (Nat.le_refl _) 1 _) (Nat.le_refl _) 2 _⟩
set_option maxRecDepth 100000 in
set_option maxHeartbeats 8000000 in
theorem vDet_sq (a : Option Addr) (n cap : Nat) (c : Nat → Nat) (R : Value) (E : Nat) (w : World) (h4 : n ≤ 4)
  (hR : Hid (R = .agg #[.bool false, .string { data := #[] }, .string { data := #[] }] ∧ E = firstE c n ∧ ¬ E = 0 ∨ E = 0 ∧ firstE c n = 0 ∧ (∃ x y z, R = .agg #[.bool x, .string y, .string z]) ∧ ∀ w1, Below w.heap.size w w1 → Calls Tryz.prog 43 #[.slice a n cap] w1 fun e w' => e = .returned R ∧ Below w1.heap.size w1 w'))
  (H : Hid (∀ w1, Below w.heap.size w w1 → Calls Tryz.prog 41 #[.slice a n cap] w1 fun e w' => e = .returned (.bool true) ∧ w' = w1))
  (HR : Hid (∀ i, i < n → ∃ b off ar m k, a = some ⟨b, off, none⟩ ∧ w.cell? ⟨b, off + i, none⟩ = some (.slice ar m k) ∧ ∀ w1, Below w.heap.size w w1 → Calls Tryz.prog 42 #[.slice ar m k] w1 fun e w' => e = .returned (.int .i64 (c i : Nat)) ∧ Below w1.heap.size w1 w')) :
  Calls Tryz.prog 13 #[.slice a n cap] w fun e w' => e = .returned (.tuple #[R, .int .i64 (E : Nat)]) ∧ Below w.heap.size w w' := by
 go_enter Tryz.func13, Tryz.ntmps13
 go_wp2_with fail
 go_fit (H.out _ (bel_al _ _))
 rintro e w1 ⟨rfl, rfl⟩
 obtain ⟨w1, hw, kr, bb⟩ := mk1 w [.bool false, .string { data := #[] }, .string { data := #[] }] 32
 rw [← hw]
 clear hw H
 go_wp2_with fail
 go_loopw [13] (fun i wr => ∃ k : Nat, k ≤ n ∧ i = .int .i64 k ∧ firstE c k = 0 ∧ Cel wr w.heap.size [.bool false, .string { data := #[] }, .string { data := #[] }] 32 ∧ Below w.heap.size w wr) (fun i _ => n - (intOf i).toNat)
 case atStart => exact ⟨0, by omega, rfl, rfl, kr, bb⟩
 case round =>
  clear kr bb
  obtain ⟨k, hk, rfl, hz, kr, bb⟩ := hrel
  by_cases hkn : k < n
  ·obtain ⟨b, off, ar, m, kc, rfl, h0, hc⟩ := HR.out k hkn
   replace h0 := cell_below h0 bb
   have HC := shut (hc wr bb)
   clear hc
   go_wp2_with fail
   go_fit (HC.out)
   rintro e w2 ⟨rfl, b1⟩
   replace kr := kr.below b1
   replace bb := Below.after bb b1
   clear b1 h0 HC
   by_cases hck : c k = 0
   ·have hs : Hid (firstE c (k + 1) = 0) := by show firstE c (k + 1) = 0; unfold firstE; rw [if_pos hz, hck]
    replace hz := shut hz
    rw [hck]
    go_wp2
    exact ⟨⟨k + 1, by omega, by go_num, hs.out, kr, bb⟩, by simp [intOf]; omega⟩
   ·have hs := firstE_stop hz hck n hkn
    have hE : Hid (R = .agg #[.bool false, .string { data := #[] }, .string { data := #[] }] ∧ E = c k) := by
     rcases hR.out with ⟨r, e, -⟩ | ⟨-, e, -⟩
     ·exact ⟨r, by rw [e, hs]⟩
     ·rw [hs] at e; exact absurd e hck
    replace hs := shut hs
    replace hz := shut hz
    have d0 := cel3_0 kr
    have d1 := cel3_1 kr
    have d2 := cel3_2 kr
    have f0 := Cel.frozen kr 0
    have f1 := Cel.frozen kr 1
    have f2 := Cel.frozen kr 2
    go_wp2
    exact post_q1 (p := 2) (u := 3) (v := .int .i64 (c k : Nat)) (by kernel_rfl) rfl rfl rfl (((kr.set 0 _).set 1 _).set 2 _) ⟨by rw [hE.out.1, hE.out.2], bset (bset (bset bb (Nat.le_refl _) 0 _) (Nat.le_refl _) 1 _) (Nat.le_refl _) 2 _⟩
  ·obtain rfl : k = n := by omega
   rcases hR.out with ⟨-, e, ne⟩ | ⟨e0, -, ⟨x, y, z, hr⟩, hd⟩
   ·rw [hz] at e; exact absurd e ne
   ·subst hr e0
    have HD := shut (hd wr bb)
    clear hd hR
    replace hz := shut hz
    go_wp2_with fail
    go_fit (HD.out)
    rintro e w2 ⟨rfl, b1⟩
    replace kr := kr.below b1
    replace bb := Below.after bb b1
    clear b1 HD
    have d0 := cel3_0 kr
    have d1 := cel3_1 kr
    have d2 := cel3_2 kr
    have f0 := Cel.frozen kr 0
    have f1 := Cel.frozen kr 1
    have f2 := Cel.frozen kr 2
    go_wp2
    exact post_q1 (p := 2) (u := 3) (v := .int .i64 0) (by kernel_rfl) rfl rfl rfl (((kr.set 0 _).set 1 _).set 2 _) ⟨rfl, bset (bset (bset bb (Nat.le_refl _) 0 _) (Nat.le_refl _) 1 _) (Nat.le_refl _) 2 _⟩
end Go.Proofs.YtgihiaaodkkkbaaGreatDoor
namespace Go.Proofs.YtgihiaaodkkkbaaGreatDoor
open Go.RowKit

end Go.Proofs.YtgihiaaodkkkbaaGreatDoor
namespace Go.Proofs.YtgihiaaodkkkbaaGreatDoor
open Go.RowKit

set_option maxRecDepth 100000 in
set_option maxHeartbeats 16000000 in
theorem cross_ok (n0 n1 n2 n3 rN : Bool) (s0 d0 s1 d1 s2 d2 s3 d3 rS rD : ByteArray) (w : World)
  (HC : Hid (∀ (B : Nat) (w1 : World), Below w.heap.size w w1 → Cel w1 B [.bool n0, .string s0, .string d0, .bool n1, .string s1, .string d1, .bool n2, .string s2, .string d2, .bool n3, .string s3, .string d3] 32 → Calls Tryz.prog 42 #[.slice (some ⟨B, 0, none⟩) 4 4] w1 fun e w' => e = .returned (.int .i64 0) ∧ Below w1.heap.size w1 w'))
  (HD : Hid (∀ (B g1 g2 : Nat) (w1 : World), Below w.heap.size w w1 → Cel w1 B [.slice (some ⟨g1, 0, none⟩) 2 2, .slice (some ⟨g2, 0, none⟩) 2 2] 27 → Cel w1 g1 [.bool n0, .string s0, .string d0, .bool n1, .string s1, .string d1] 32 → Cel w1 g2 [.bool n2, .string s2, .string d2, .bool n3, .string s3, .string d3] 32 → Calls Tryz.prog 43 #[.slice (some ⟨B, 0, none⟩) 2 2] w1 fun e w' => e = .returned (.agg #[.bool rN, .string rS, .string rD]) ∧ Below w1.heap.size w1 w')) :
  Calls Tryz.prog 37 #[.agg #[.bool n0, .string s0, .string d0, .bool n1, .string s1, .string d1], .agg #[.bool n2, .string s2, .string d2, .bool n3, .string s3, .string d3]] w fun e w' => e = .returned (.tuple #[.agg #[.bool rN, .string rS, .string rD], .int .i64 0]) ∧ Below w.heap.size w w' := by
 go_enter Tryz.func37, Tryz.ntmps37
 go_wp2_with fail
 obtain ⟨w1, hw, ka, kb, kr, kl, b1⟩ := mk4 w [.bool n0, .string s0, .string d0, .bool n1, .string s1, .string d1] [.bool n2, .string s2, .string d2, .bool n3, .string s3, .string d3] [.bool false, .string { data := #[] }, .string { data := #[] }] [.bool n0, .string s0, .string d0, .bool n1, .string s1, .string d1, .bool n2, .string s2, .string d2, .bool n3, .string s3, .string d3] 39 39 32 32
 rw [← hw]
 clear hw
 go_fit (HC.out _ _ b1 kl)
 rintro e w2 ⟨rfl, b2⟩
 replace ka := ka.below b2
 replace kb := kb.below b2
 replace kr := kr.below b2
 have bb := Below.after b1 b2
 clear b1 b2 kl
 go_wp2_with fail
 have qka : w.heap.size ≠ w.heap.size + 1 + 1 := by omega
 have qkb : w.heap.size + 1 ≠ w.heap.size + 1 + 1 := by omega
 have mkS : Hid (∀ w', Cel w' (w.heap.size) [.bool n0, .string s0, .string d0, .bool n1, .string s1, .string d1] 39 → Cel w' (w.heap.size + 1) [.bool n2, .string s2, .string d2, .bool n3, .string s3, .string d3] 39 → (w'.cell? ⟨w.heap.size, 0, none⟩ = some (.bool n0) ∧ w'.cell? ⟨w.heap.size, 1, none⟩ = some (.string s0) ∧ w'.cell? ⟨w.heap.size, 2, none⟩ = some (.string d0) ∧ w'.cell? ⟨w.heap.size, 3, none⟩ = some (.bool n1) ∧ w'.cell? ⟨w.heap.size, 4, none⟩ = some (.string s1) ∧ w'.cell? ⟨w.heap.size, 5, none⟩ = some (.string d1) ∧ w'.cell? ⟨w.heap.size + 1, 0, none⟩ = some (.bool n2) ∧ w'.cell? ⟨w.heap.size + 1, 1, none⟩ = some (.string s2) ∧ w'.cell? ⟨w.heap.size + 1, 2, none⟩ = some (.string d2) ∧ w'.cell? ⟨w.heap.size + 1, 3, none⟩ = some (.bool n3) ∧ w'.cell? ⟨w.heap.size + 1, 4, none⟩ = some (.string s3) ∧ w'.cell? ⟨w.heap.size + 1, 5, none⟩ = some (.string d3))) := fun w' hka hkb => ⟨cel6_0 hka, cel6_1 hka, cel6_2 hka, cel6_3 hka, cel6_4 hka, cel6_5 hka, cel6_0 hkb, cel6_1 hkb, cel6_2 hkb, cel6_3 hkb, cel6_4 hkb, cel6_5 hkb⟩
 go_region_held3 (fun w' => w'.cell? ⟨w.heap.size, 0, none⟩ = some (.bool n0) ∧ w'.cell? ⟨w.heap.size, 1, none⟩ = some (.string s0) ∧ w'.cell? ⟨w.heap.size, 2, none⟩ = some (.string d0) ∧ w'.cell? ⟨w.heap.size, 3, none⟩ = some (.bool n1) ∧ w'.cell? ⟨w.heap.size, 4, none⟩ = some (.string s1) ∧ w'.cell? ⟨w.heap.size, 5, none⟩ = some (.string d1) ∧ w'.cell? ⟨w.heap.size + 1, 0, none⟩ = some (.bool n2) ∧ w'.cell? ⟨w.heap.size + 1, 1, none⟩ = some (.string s2) ∧ w'.cell? ⟨w.heap.size + 1, 2, none⟩ = some (.string d2) ∧ w'.cell? ⟨w.heap.size + 1, 3, none⟩ = some (.bool n3) ∧ w'.cell? ⟨w.heap.size + 1, 4, none⟩ = some (.string s3) ∧ w'.cell? ⟨w.heap.size + 1, 5, none⟩ = some (.string d3)) (first | with_reducible exact mkS.out _ ka kb | with_reducible exact mkS.out _ (ka.alloc _) (kb.alloc _) | with_reducible exact mkS.out _ (Cel.other (Cel.other (Cel.other ka qka 0 _) qka 1 _) qka 2 _) (Cel.other (Cel.other (Cel.other kb qkb 0 _) qkb 1 _) qkb 2 _) | exact mkS.out _ ka kb) (first | (go_at_call 71; go_fit (pair_any n0 n1 s0 d0 s1 d1 _); rintro e wn1 ⟨g1, rfl, k1, hg1, bn1⟩; replace ka := ka.below ⟨bn1.os, bn1.tape, bn1.output, bn1.size, bn1.block⟩; replace kb := kb.below ⟨bn1.os, bn1.tape, bn1.output, bn1.size, bn1.block⟩; replace kr := kr.below ⟨bn1.os, bn1.tape, bn1.output, bn1.size, bn1.block⟩; replace bb := Below.after bb ⟨bn1.os, bn1.tape, bn1.output, bn1.size, bn1.block⟩) | (go_at_call 71; go_fit (pair_any n2 n3 s2 d2 s3 d3 _); rintro e wn2 ⟨g2, rfl, k2, hg2, bn2⟩; replace ka := ka.below ⟨bn2.os, bn2.tape, bn2.output, bn2.size, bn2.block⟩; replace kb := kb.below ⟨bn2.os, bn2.tape, bn2.output, bn2.size, bn2.block⟩; replace kr := kr.below ⟨bn2.os, bn2.tape, bn2.output, bn2.size, bn2.block⟩; replace k1 := k1.below ⟨bn2.os, bn2.tape, bn2.output, bn2.size, bn2.block⟩; replace bb := Below.after bb ⟨bn2.os, bn2.tape, bn2.output, bn2.size, bn2.block⟩) | (go_at_call 43; go_fit (HD.out _ g1 g2 _ (ba bb _) (Cel.new _ _ _) (k1.alloc _) (k2.alloc _)); rintro e wn3 ⟨rfl, bn3⟩; obtain ⟨-, bn4⟩ := al1 bn3; replace ka := ka.below ⟨bn4.os, bn4.tape, bn4.output, bn4.size, bn4.block⟩; replace kb := kb.below ⟨bn4.os, bn4.tape, bn4.output, bn4.size, bn4.block⟩; replace kr := kr.below ⟨bn4.os, bn4.tape, bn4.output, bn4.size, bn4.block⟩; replace bb := Below.after bb ⟨bn4.os, bn4.tape, bn4.output, bn4.size, bn4.block⟩; have e0 := cel3_0 kr; have f0 := Cel.frozen kr 0; have e1 := cel3_1 kr; have f1 := Cel.frozen kr 1; have e2 := cel3_2 kr; have f2 := Cel.frozen kr 2))
 go_wp2
 exact post_q1 (p := 4) (u := 5) (v := .int .i64 0) (by kernel_rfl) rfl rfl rfl (((kr.set 0 _).set 1 _).set 2 _) ⟨rfl, bset (bset (bset bb (by omega) 0 _) (by omega) 1 _) (by omega) 2 _⟩
end Go.Proofs.YtgihiaaodkkkbaaGreatDoor
namespace Go.Proofs.YtgihiaaodkkkbaaGreatDoor
open Go.RowKit

end Go.Proofs.YtgihiaaodkkkbaaGreatDoor
namespace Go.Proofs.YtgihiaaodkkkbaaGreatDoor
open Go.RowKit

end Go.Proofs.YtgihiaaodkkkbaaGreatDoor
namespace Go.Proofs.YtgihiaaodkkkbaaGreatDoor
open Go.RowKit

set_option maxRecDepth 100000 in
set_option maxHeartbeats 2000000 in
theorem roq_walk (x : Int) (xN : Bool) (xS : ByteArray) (w : World)
  (H : Hid (∀ w1, Calls Tryz.prog 72 #[.int .i64 x] w1 fun e w' => e = .returned (.agg #[.bool xN, .string xS]) ∧ Below w1.heap.size w1 w')) :
  Calls Tryz.prog 39 #[.int .i64 x] w fun e w' => e = .returned (.agg #[.bool xN, .string xS, .string ⟨#[1]⟩]) ∧ Below w.heap.size w w' := by
 go_enter Tryz.func39, Tryz.ntmps39
 go_wp2_with fail
 go_fit (H.out _)
 rintro e w1 ⟨rfl, b1⟩
 obtain ⟨kr, b1⟩ := al1 b1
 have d0 := cel3_0 kr
 have d1 := cel3_1 kr
 have d2 := cel3_2 kr
 have f0 := Cel.frozen kr 0
 have f1 := Cel.frozen kr 1
 have f2 := Cel.frozen kr 2
 go_wp2
 exact post_q (p := 2) (by kernel_rfl) rfl rfl (((kr.set 0 _).set 1 _).set 2 _) ⟨rfl, bset (bset (bset b1 (Nat.le_refl _) 0 _) (Nat.le_refl _) 1 _) (Nat.le_refl _) 2 _⟩
theorem roq_any (x : Int) (h1 : -1000 ≤ x) (h2 : x ≤ 1000) (w : World) :
  Calls Tryz.prog 39 #[.int .i64 x] w fun e w' => e = .returned (.agg #[.bool (nfZ x), .string (sfZ x), .string ⟨#[1]⟩]) ∧ Below w.heap.size w w' :=
 roq_walk x _ _ w (fun w1 => rof_any x (by omega) (by omega) w1)
set_option maxRecDepth 100000 in
set_option maxHeartbeats 2000000 in
theorem lat_any (x y : Int) (h1 : -1000 ≤ x) (h2 : x ≤ 1000) (h3 : -1000 ≤ y) (h4 : y ≤ 1000) (w : World) :
  Calls Tryz.prog 38 #[.int .i64 x, .int .i64 y] w fun e w' => e = .returned (.agg #[.bool (nfZ x), .string (sfZ x), .string ⟨#[1]⟩, .bool (nfZ y), .string (sfZ y), .string ⟨#[1]⟩]) ∧ Below w.heap.size w w' := by
 have H1 := shut (fun w => roq_any x h1 h2 w)
 have H2 := shut (fun w => roq_any y h3 h4 w)
 clear h1 h2 h3 h4
 go_enter Tryz.func38, Tryz.ntmps38
 go_wp2_with fail
 go_fit (H1.out _)
 rintro e w1 ⟨rfl, b1⟩
 obtain ⟨kr, bb⟩ := al1 b1
 clear b1
 go_wp2_with fail
 go_fit (H2.out _)
 rintro e w2 ⟨rfl, b1⟩
 replace kr := kr.below b1
 replace bb := Below.after bb b1
 clear b1
 have f0 := Cel.frozen kr 0
 have f1 := Cel.frozen kr 1
 have f2 := Cel.frozen kr 2
 have f3 := Cel.frozen kr 3
 have f4 := Cel.frozen kr 4
 have f5 := Cel.frozen kr 5
 have r0 := cel6_0 kr
 have r1 := cel6_1 kr
 have r2 := cel6_2 kr
 have r3 := cel6_3 kr
 have r4 := cel6_4 kr
 have r5 := cel6_5 kr
 go_wp2
 exact post_p (p := 4) (by kernel_rfl) rfl rfl (kr.set6 _ _ _ _ _ _) ⟨rfl, bset6 bb (Nat.le_refl _) _ _ _ _ _ _⟩
/-- Few bytes. -/
def sh (s d : ByteArray) : Bool := decide (s.size ≤ 80 ∧ d.size ≤ 80)
set_option maxRecDepth 100000 in
set_option maxHeartbeats 2000000 in
theorem short_any (n : Bool) (s d : ByteArray) (w : World) :
  Calls Tryz.prog 36 #[.agg #[.bool n, .string s, .string d]] w fun e w' => e = .returned (.bool (sh s d)) ∧ Below w.heap.size w w' := by
 by_cases hs : s.size ≤ 80
 ·by_cases hd : d.size ≤ 80
  ·have e : Hid (sh s d = true) := decide_eq_true ⟨hs, hd⟩
   have i1 : (s.size : Int) ≤ 80 := by omega
   have i2 : (d.size : Int) ≤ 80 := by omega
   go_enter Tryz.func36, Tryz.ntmps36
   go_wp2
   go_ret
   exact ⟨by rw [e.out]; rfl, bel_al _ _⟩
  ·have e : Hid (sh s d = false) := decide_eq_false fun h => hd h.2
   have i1 : (s.size : Int) ≤ 80 := by omega
   have i2 : ¬ (d.size : Int) ≤ 80 := by omega
   go_enter Tryz.func36, Tryz.ntmps36
   go_wp2
   go_ret
   exact ⟨by rw [e.out]; rfl, bel_al _ _⟩
 ·have e : Hid (sh s d = false) := decide_eq_false fun h => hs h.1
  have i1 : ¬ (s.size : Int) ≤ 80 := by omega
  go_enter Tryz.func36, Tryz.ntmps36
  go_wp2
  go_ret
  exact ⟨by rw [e.out]; rfl, bel_al _ _⟩
end Go.Proofs.YtgihiaaodkkkbaaGreatDoor
