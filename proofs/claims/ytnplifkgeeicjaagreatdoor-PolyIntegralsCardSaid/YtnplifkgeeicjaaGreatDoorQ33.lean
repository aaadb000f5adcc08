import Derived.Test.YtnplifkgeeicjaaGreatDoorQ26
import Derived.Test.YtnplifkgeeicjaaGreatDoorQ32
namespace Go.Proofs.YtnplifkgeeicjaaGreatDoor
open Go.RowKit Go.Shelf
def Fi (w : World) : Prop := TabAt (Fg.g 1) Lib.deBruijn64tab w
theorem Fi.b {w w' : World} (h : Fi w) (hb : Below w.heap.size w w') : Fi w' := fun j hj => by
 have := h j hj
 rw [hb.cell (World.block_lt_of_cell? w _ this)]
 exact this
open Go.RowKit Go.Shelf
theorem Tn (x : Nat) (h0 : 0 < x) (hx : x < 18446744073709551616) (w : World) (hT : Fi w) :
  Calls Tryz.prog 239 #[.int .u64 (x : Nat)] w fun e w' => (∃ i m : Nat, e = .returned (.int .i64 (i : Nat)) ∧ i < 64 ∧ x = 2 ^ i * (2 * m + 1)) ∧ w' = w := by
 refine (Bh6 x hx w (fun _ => hT)).mono ?_
 rintro e w' ⟨rfl, rfl⟩
 obtain ⟨m, h1, h2⟩ := Lib.ctzFrom_spec 64 x h0 hx
 have e : Lib.ctz 64 x = Lib.ctzFrom 64 x := by unfold Lib.ctz; rw [if_neg (by omega)]
 rw [e]
 exact ⟨⟨_, m, rfl, h2, h1⟩, rfl⟩
theorem V9 {x i m : Nat} (h : x = 2 ^ i * (2 * m + 1)) : (x : Int) / 2 ^ i = ((2 * m + 1 : Nat) : Int) := by
 rw [← Ez, h, Nat.mul_div_cancel_left _ (Nat.pow_pos (by omega))]
set_option maxRecDepth 100000 in
set_option maxHeartbeats 2000000 in
theorem Bbv (x y : Nat) (v : Value) (w : World) (x0 : 0 < x) (lx : x < 18446744073709551616) (ly : y < 18446744073709551616) (h : Rd w v [y]) (hT : Fi w) :
  Calls Tryz.prog 209 #[.int .u64 (x : Nat), v] w fun e w' => e = .returned (.int .u64 (Nat.gcd x y : Nat)) ∧ w' = w := by
 obtain ⟨a, cap, rfl, hc, hcell⟩ := h
 obtain ⟨b, off, rfl, c0'⟩ := hcell 0 (by simp)
 have c0 : w.cell? ⟨b, off, none⟩ = some (.int .u64 (y : Nat)) := c0'
 have lor : x ||| y < 18446744073709551616 := Nat.or_lt_two_pow (n := 64) lx ly
 have g1 : bits BinOp.or IntKind.u64 (x : Int) (y : Int) = ((x ||| y : Nat) : Int) := bits_or_u64_nat _ _ lx ly
 have oor : 0 < x ||| y := by
  rcases Nat.eq_zero_or_pos (x ||| y) with g | g
  ·have := (Nat.or_eq_zero_iff.1 g).1; omega
  ·exact g
 have TO := Ba (Tn (x ||| y) oor lor w hT)
 have TX := Ba (Tn x x0 lx w hT)
 have TZ := Ba (fun z (h0 : 0 < z) (hz : z < 18446744073709551616) => Tn z h0 hz w hT)
 have LX := Ba lx
 have LY := Ba ly
 clear hcell c0' lor oor hT lx ly
 simp only [List.length_cons, List.length_nil] at *
 go_enter Tryz.func209, Tryz.ntmps209
 go_wp2_with fail
 refine (TO.out).mono ?_
 rintro e w1 ⟨⟨t, m, rfl, ht, h1⟩, hw⟩
 subst hw
 have O := Ba (M.or_twos h1)
 clear h1
 go_wp2_with fail
 refine (TX.out).mono ?_
 rintro e w1 ⟨⟨i, n, rfl, hi, h2⟩, hw⟩
 subst hw
 have hsh := V9 h2
 obtain ⟨x', hx'⟩ : ∃ x', x' = 2 * n + 1 := ⟨_, rfl⟩
 have ho : x' % 2 = 1 := by omega
 rw [← hx'] at hsh h2
 have X2 := Ba h2
 have HO := Ba ho
 have x'le : x' ≤ x := by
  rw [h2]
  exact Nat.le_mul_of_pos_left _ (Nat.pow_pos (by omega))
 have HX' := Ba x'le
 clear h2 hx' ho x'le
 go_wp2
 go_loopw [0, 5] (fun vx vy wr => ∃ X Y : Nat, wr = w1 ∧ vx = .int .u64 X ∧ vy = .int .u64 Y ∧ X % 2 = 1 ∧ X ≤ x ∧ Y < 18446744073709551616 ∧ Nat.gcd X Y = Nat.gcd x' y) (fun x y _ => (intOf x).toNat + (intOf y).toNat)
 case atStart => exact ⟨x', y, rfl, rfl, rfl, HO.out, HX'.out, LY.out, rfl⟩
 case round =>
  obtain ⟨X, Y, rfl, rfl, rfl, oX, lX, lY, hg⟩ := hrel
  have OX := Ba oX
  have LX1 := Ba lX
  have LY1 := Ba lY
  have HG := Ba hg
  clear oX lX lY hg
  by_cases hY : Y = 0
  ·have hw : IntKind.u64.wrap ((X : Int) * 2 ^ t) = ((Nat.gcd x y : Nat) : Int) := by
    have e := M.gcd_twos X2.out HO.out O.out.1 O.out.2.1 O.out.2.2
    have e2 := HG.out
    rw [hY, Nat.gcd_zero_right] at e2
    rw [← e2] at e
    rw [← Da, ← e]
    exact Cs _ (Nat.lt_of_le_of_lt (Nat.le_of_dvd x0 (Nat.gcd_dvd_left x y)) LX.out)
   go_wp2
   go_ret
   exact ⟨rfl, rfl⟩
  ·have hY1 : ((Y : Int) != 0) = true := by simpa using hY
   have TY := Ba (TZ.out Y (by omega) LY1.out)
   go_wp2_with fail
   refine (TY.out).mono ?_
   rintro e w2 ⟨⟨j, n2, rfl, hj, h2⟩, hw⟩
   subst hw
   have hs2 := V9 h2
   obtain ⟨y', hy'⟩ : ∃ y', y' = 2 * n2 + 1 := ⟨_, rfl⟩
   have oy' : y' % 2 = 1 := by omega
   rw [← hy'] at hs2 h2
   have y'le : y' ≤ Y := by
    rw [h2]
    exact Nat.le_mul_of_pos_left _ (Nat.pow_pos (by omega))
   have Y2 := Ba h2
   have OY := Ba oy'
   have HY' := Ba y'le
   clear h2 hy' oy' y'le
   go_wp2
   have e1 : min (X : Int) (y' : Int) = ((min X y' : Nat) : Int) := by omega
   have e2 : IntKind.u64.wrap (max (X : Int) (y' : Int) - min (X : Int) (y' : Int)) = ((max X y' - min X y' : Nat) : Int) := by
    rw [show max (X : Int) (y' : Int) - min (X : Int) (y' : Int) = ((max X y' - min X y' : Nat) : Int) by omega]
    exact Cs _ (by have := LX.out; have := LX1.out; have := LY1.out; have := HY'.out; omega)
   rw [e2, e1]
   have q1 := OX.out
   have q2 := OY.out
   have q3 := LX1.out
   have q4 := HY'.out
   have q5 := LX.out
   have q6 := LY1.out
   refine ⟨⟨min X y', max X y' - min X y', trivial, rfl, rfl, by omega, by omega, by omega, ?_⟩, by simp only [intOf]; omega⟩
   rw [M.gcd_min_max, ← HG.out]
   have := Y2.out
   rw [this, M.gcd_odd_right q1]
theorem Bbu (x : Nat) (v : Value) (w : World) (h : Rd w v []) :
  Calls Tryz.prog 209 #[.int .u64 (x : Nat), v] w fun e w' => e = .returned (.int .u64 (x : Nat)) ∧ w' = w := by
 obtain ⟨a, cap, rfl, -, -⟩ := h
 simp only [List.length_nil]
 go_enter Tryz.func209, Tryz.ntmps209
 go_wp2
 go_ret
 exact ⟨rfl, rfl⟩
theorem Ln {n : Nat} (h0 : n ≠ 0) (h : n < Bb) : M.digs Bb n = [n] := by
 rw [M.digs_pos Bg (by omega), Nat.mod_eq_of_lt h, Nat.div_eq_of_lt h, M.digs_zero]
theorem Pk (x z : Nat) (v : Value) (w : World) (x0 : 0 < x) (lx : x < Bb) (hz : z < x) (h : Rd w v (M.digs Bb z)) (hT : Fi w) :
  Calls Tryz.prog 209 #[.int .u64 (x : Nat), v] w fun e w' => e = .returned (.int .u64 (Nat.gcd x z : Nat)) ∧ w' = w := by
 by_cases h0 : z = 0
 ·subst h0
  rw [M.digs_zero] at h
  rw [Nat.gcd_zero_right]
  exact Bbu x v w h
 ·rw [Ln h0 (by omega)] at h
  exact Bbv x z v w x0 lx (by unfold Bb at lx; omega) h hT
open Go.RowKit Go.Shelf
def Neg (b : List Nat) : Prop := 0 < b.length ∧ lm b 0 = 45
instance (b : List Nat) : Decidable (Neg b) := by unfold Neg; exact inferInstance
end Go.Proofs.YtnplifkgeeicjaaGreatDoor
