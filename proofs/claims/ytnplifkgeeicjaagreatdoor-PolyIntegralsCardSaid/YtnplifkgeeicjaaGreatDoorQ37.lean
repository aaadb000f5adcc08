import Derived.Test.YtnplifkgeeicjaaGreatDoorQ35
set_option maxRecDepth 100000
set_option maxHeartbeats 2000000
namespace Go.Proofs.YtnplifkgeeicjaaGreatDoor
open Go.RowKit
theorem Tm (a : Option Addr) (n cap : Nat) (N : Nat → Bool) (S D : Nat → ByteArray) (w : World) (hT : Fi w) (hn : n ≤ 1000000) (h : RdQ w a n N S D) :
  Calls Tryz.prog 197 #[.slice a n cap] w (Re w (.int .i64 (Br (fun j => Bt (N j) (S j) (D j)) n : Nat))) :=
 Rk a n cap N S D _ w hn h (fun j w1 b => Nu (N j) (S j) (D j) w1 (hT.b b))
def f2 {α : Type} (x y : α) (j : Nat) : α := if j = 0 then x else y
def f4 {α : Type} (x y z u : α) (j : Nat) : α := if j = 0 then x else if j = 1 then y else if j = 2 then z else u
theorem Bff {w : World} {B : Nat} {t : TypeId} {n0 n1 : Bool} {s0 d0 s1 d1 : ByteArray} (h : Be w B (Cn n0 s0 d0 n1 s1 d1) t) : RdQ w (some ⟨B, 0, none⟩) 2 (f2 n0 n1) (f2 s0 s1) (f2 d0 d1) := by
 intro j hj
 refine ⟨B, 0, rfl, ?_⟩
 match j, hj with
 | 0, _ => exact ⟨h.cell 0, h.cell 1, h.cell 2⟩
 | 1, _ => exact ⟨h.cell 3, h.cell 4, h.cell 5⟩
def Fy (a b : Nat) : Nat := if a = 0 then b else a
theorem Dn {a b : Nat} : Fy a b = 0 ↔ a = 0 ∧ b = 0 := by
 unfold Fy
 by_cases h : a = 0
 ·rw [if_pos h]; exact ⟨fun e => ⟨h, e⟩, fun e => e.2⟩
 ·rw [if_neg h]; exact ⟨fun e => absurd e h, fun e => absurd e.1 h⟩
theorem Bc1 (B : Nat) (n0 n1 : Bool) (s0 d0 s1 d1 : ByteArray) (w : World) (hT : Fi w) (h : Be w B (Cn n0 s0 d0 n1 s1 d1) 26) :
  Calls Tryz.prog 197 #[.slice (some ⟨B, 0, none⟩) 2 2] w (Re w (.int .i64 (Kp n0 s0 d0 n1 s1 d1 : Nat))) := by
 have := Tm (some ⟨B, 0, none⟩) 2 2 _ _ _ w hT (by omega) (Bff h)
 exact this
theorem Fx (n0 n1 : Bool) (s0 d0 s1 d1 : ByteArray) (w : World) (hT : Fi w) :
  Calls Tryz.prog 164 #[(B4 n0 s0 d0 n1 s1 d1)] w (Re w (.int .i64 (Kp n0 s0 d0 n1 s1 d1 : Nat))) := by
 replace hT := Ba hT
 obtain ⟨E, hE⟩ : ∃ E, E = Kp n0 s0 d0 n1 s1 d1 := ⟨_, rfl⟩
 have H : Hid (∀ (B : Nat) (w1 : World), Below w.heap.size w w1 → Be w1 B (Cn n0 s0 d0 n1 s1 d1) 26 → Calls Tryz.prog 197 #[.slice (some ⟨B, 0, none⟩) 2 2] w1 (Re w1 (.int .i64 (E : Nat)))) := fun B w1 b k => by rw [hE]; exact Bc1 B n0 n1 s0 d0 s1 d1 w1 (hT.out.b b) k
 rw [← hE]
 clear hE
 go_enter Tryz.func164, Tryz.ntmps164
 go_wp2_with fail
 obtain ⟨w1, hw, ka, kl, b1⟩ := Gx w (Cn n0 s0 d0 n1 s1 d1) (Cn n0 s0 d0 n1 s1 d1) 30 26
 rw [← hw]
 clear hw
 go_fit (H.out _ _ b1 kl)
 rintro e w2 ⟨rfl, b2⟩
 go_wp2
 go_ret
 exact ⟨rfl, Ia b1 b2⟩
theorem Bam (x : Int) (xN : Bool) (xS : ByteArray) (w : World)
  (H : Hid (∀ w1, Calls Tryz.prog 58 #[.int .i64 x] w1 (Re w1 (.agg #[Iz xN, I xS])))) :
  Calls Tryz.prog 40 #[.int .i64 x] w (Re w ((Bo xN xS ⟨#[1]⟩))) := by
 go_enter Tryz.func40, Tryz.ntmps40
 go_wp2_with fail
 go_fit (H.out _)
 rintro e w1 ⟨rfl, b1⟩
 obtain ⟨kr, b1⟩ := Tf b1
 obtain ⟨d0, d1, d2⟩ := Ch kr
 have f0 := Be.o kr 0
 have f1 := Be.o kr 1
 have f2 := Be.o kr 2
 go_wp2
 exact Cu (p := 2) (by kernel_rfl) rfl rfl (((kr.set 0 _).set 1 _).set 2 _) ⟨rfl, Bi (Bi (Bi b1 (Jb _) 0 _) (Jb _) 1 _) (Jb _) 2 _⟩
theorem Kd (x : Int) (h1 : -1000 ≤ x) (h2 : x ≤ 1000) (w : World) :
  Calls Tryz.prog 40 #[.int .i64 x] w (Re w ((Bo (Bs x) (Bp x) ⟨#[1]⟩))) :=
 Bam x _ _ w (fun w1 => Lg x (by omega) (by omega) w1)
theorem My (a b : Nat) {k j : Nat} (ha : Bd (a : Int) k) (hb : Bd (b : Int) j) : Bd ((a * b : Nat) : Int) (k + j) := by
 rw [Int.natCast_mul]
 exact ha.mul hb
theorem Nj {z : Int} {m k : Nat} (hm : 0 < m) (hz : Bd z k) (hd : Bd (m : Int) k) : Bq (mkRat z m) k := by
 refine ⟨?_, ?_⟩
 ·rw [Q.num_mk hm]
  refine hz.div _ ?_
  rw [← Int.dvd_natAbs, Int.ofNat_dvd]
  exact Nat.gcd_dvd_left _ _
 ·rw [Q.den_mk hm]
  exact hd.nat (Nat.div_le_self _ _)
theorem Bfq {a b : Rat} {k : Nat} (ha : Bq a k) (hb : Bq b k) : Bq (a + b) (k + k + 1) := by
 rw [Rat.add_def']
 exact Nj (Nat.mul_pos a.den_pos b.den_pos) ((ha.1.mul hb.2).add (hb.1.mul ha.2)) ((My _ _ ha.2 hb.2).mono (by omega))
theorem Zq {a : Rat} {k : Nat} (ha : Bq a k) : Bq (-a) k := ⟨by rw [Rat.neg_num]; exact ha.1.neg, ha.2⟩
theorem Pu {a b : Rat} {k : Nat} (ha : Bq a k) (hb : Bq b k) : Bq (a - b) (k + k + 1) := by
 rw [Rat.sub_eq_add_neg]
 exact Bfq ha (Zq hb)
theorem Zr {a b : Rat} {k : Nat} (ha : Bq a k) (hb : Bq b k) : Bq (a * b) (k + k + 1) := by
 rw [Rat.mul_def']
 exact Nj (Nat.mul_pos a.den_pos b.den_pos) ((ha.1.mul hb.1).mono (by omega)) ((My _ _ ha.2 hb.2).mono (by omega))
def m2 (x0 y0 x1 y1 : Rat) (i j : Nat) : Rat := f2 (f2 x0 y0 j) (f2 x1 y1 j) i
def sq (n : Nat) (len : Nat → Nat) : Prop := 1 ≤ n ∧ n ≤ 4 ∧ ∀ i, i < n → len i = n
theorem Nx {fn : Func} {p : Tmp} {R : Ending → World → Prop} {a : Act} {w : World} {g : Nat} {x y z x' y' z' : Value} (h : fn.results = #[.cell p 30]) (hp : a.tmps.getD p undef = .pointer (some ⟨g, 0, none⟩)) (hd : a.defers = [])
  (hc : Be w g [x, y, z, x', y', z'] 30) (hR : R (.returned (.agg #[x, y, z, x', y', z'])) w) : bodyPost Tryz.prog fn R .ret a w := by
 refine ⟨hd, .agg #[x, y, z, x', y', z'], ?_, hR⟩
 exact results_cell_row (P := Tryz.prog) h _ w g 30 #[x, y, z, x', y', z'] (0, 0) _ hp hc Tryz.underlying30 rfl (by kernel_rfl)
theorem K4 {w : World} {g : Nat} {x y z x' y' z' : Value} {t : TypeId} (h : Be w g [x, y, z, x', y', z'] t) : w.cell? ⟨g, 0, none⟩ = some x := h.cell 0
theorem K0 {w : World} {g : Nat} {x y z x' y' z' : Value} {t : TypeId} (h : Be w g [x, y, z, x', y', z'] t) : w.cell? ⟨g, 1, none⟩ = some y := h.cell 1
theorem Kz {w : World} {g : Nat} {x y z x' y' z' : Value} {t : TypeId} (h : Be w g [x, y, z, x', y', z'] t) : w.cell? ⟨g, 2, none⟩ = some z := h.cell 2
theorem Hd {w : World} {g : Nat} {x y z x' y' z' : Value} {t : TypeId} (h : Be w g [x, y, z, x', y', z'] t) : w.cell? ⟨g, 3, none⟩ = some x' := h.cell 3
theorem Hc {w : World} {g : Nat} {x y z x' y' z' : Value} {t : TypeId} (h : Be w g [x, y, z, x', y', z'] t) : w.cell? ⟨g, 4, none⟩ = some y' := h.cell 4
theorem Hb {w : World} {g : Nat} {x y z x' y' z' : Value} {t : TypeId} (h : Be w g [x, y, z, x', y', z'] t) : w.cell? ⟨g, 5, none⟩ = some z' := h.cell 5
theorem Be.set6 {w : World} {g : Nat} {x y z x' y' z' : Value} {t : TypeId} (h : Be w g [x, y, z, x', y', z'] t) (a b c d e f : Value) : Be ((((((w.setCell ⟨g, 0, none⟩ a).setCell ⟨g, 1, none⟩ b).setCell ⟨g, 2, none⟩ c).setCell ⟨g, 3, none⟩ d).setCell ⟨g, 4, none⟩ e).setCell ⟨g, 5, none⟩ f) g [a, b, c, d, e, f] t :=
 (((((h.set 0 a).set 1 b).set 2 c).set 3 d).set 4 e).set 5 f
theorem Mu {N : Nat} {w wn : World} {g : Nat} (b : Below N w wn) (h : N ≤ g) (x0 x1 x2 x3 x4 x5 : Value) : Below N w ((((((wn.setCell ⟨g, 0, none⟩ x0).setCell ⟨g, 1, none⟩ x1).setCell ⟨g, 2, none⟩ x2).setCell ⟨g, 3, none⟩ x3).setCell ⟨g, 4, none⟩ x4).setCell ⟨g, 5, none⟩ x5) :=
 Bi (Bi (Bi (Bi (Bi (Bi b h 0 x0) h 1 x1) h 2 x2) h 3 x3) h 4 x4) h 5 x5
end Go.Proofs.YtnplifkgeeicjaaGreatDoor
