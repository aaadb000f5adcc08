/-
  Package rat: sum and product, of numbers that may be.
  Package rat: difference, quotient.
  Package rat: Add, Sub, Mul, Div, of any two numbers.
  Package rat: Cmp, Sign, Of.
  Package rat: Make, of any two numbers.
  Package rat: rounded.
  Package rat: power.
-/
import Derived.Test.YtdbnkcimcpnpdaaGreatDoorG40
namespace Go.Proofs.YtdbnkcimcpnpdaaGreatDoor
open Go.RowKit

/-- Signs and bytes behind names; those of no sign apart. -/
theorem named0 : ∃ (nf : Int → Bool) (sf : Int → ByteArray), (∀ z, zI z = .agg #[.bool (nf z), .string (sf z)]) ∧ (∀ z, OkZ (nf z) (sf z)) ∧ (∀ z k, Bd z k → (sf z).size ≤ k) ∧ (∀ z, zOf (nf z) (sf z) = z) ∧ (∀ z, natOf (sf z) = z.natAbs) ∧ (∀ m : Nat, nf (m : Int) = false) ∧ (∀ m : Nat, sf (m : Int) = strOf m) ∧ (∀ m : Nat, natOf (sf (m : Int)) = m) ∧ (∀ m : Nat, zI (m : Int) = .agg #[.bool false, .string (sf (m : Int))]) := by
 obtain ⟨nf, sf, h1, h2, h3, h4, -, h6, h7, h8⟩ := named
 have hn : ∀ m : Nat, nf (m : Int) = false := fun m => by rw [h7]; simp
 exact ⟨nf, sf, h1, h2, h3, h4, h6, hn, fun m => by rw [h8]; rfl, fun m => by rw [h6]; rfl, fun m => by rw [h1, hn]⟩
theorem bd_nat {s : ByteArray} {k : Nat} (h : s.size ≤ k) : Bd ((natOf s : Nat) : Int) k := bd_zOf (n := false) h
theorem zOf_false (s : ByteArray) : zOf false s = ((natOf s : Nat) : Int) := rfl

end Go.Proofs.YtdbnkcimcpnpdaaGreatDoor
namespace Go.Proofs.YtdbnkcimcpnpdaaGreatDoor
open Go.RowKit

set_option maxRecDepth 100000 in
set_option maxHeartbeats 4000000 in
theorem quotient_none (n0 n1 : Bool) (s0 d0 d1 : ByteArray) (w : World) :
  Calls Tryz.prog 52 #[.agg #[.bool n0, .string s0, .string d0], .agg #[.bool n1, .string ByteArray.empty, .string d1]] w fun e w' => e = .returned (.tuple #[.agg #[.bool false, .string { data := #[] }, .string { data := #[] }], .int .i64 3]) ∧ Below w.heap.size w w' := by
 go_enter Tryz.func52, Tryz.ntmps52
 go_wp2
 obtain ⟨w1, hw, ka, kb, kr, b1⟩ := mk3 w [.bool n0, .string s0, .string d0] [.bool n1, .string ByteArray.empty, .string d1] [.bool false, .string { data := #[] }, .string { data := #[] }] 26 26 26
 rw [← hw]
 clear hw
 have sz := b1.size
 have ta := ka.lt
 have tb := kb.lt
 have tr := kr.lt
 have bb := b1
 clear b1
 exact post_q1 (p := 4) (u := 5) (by kernel_rfl) rfl rfl rfl kr ⟨rfl, bb⟩

end Go.Proofs.YtdbnkcimcpnpdaaGreatDoor
namespace Go.Proofs.YtdbnkcimcpnpdaaGreatDoor
open Go.RowKit

/-- No number: what is told beside an error. -/
def qZ : Value := .agg #[.bool false, .string { data := #[] }, .string { data := #[] }]
theorem checkH (n0 n1 : Bool) (s0 d0 s1 d1 : ByteArray) (w : World) (hT : Tab w) : Hid (∀ (B : Nat) (w1 : World), Below w.heap.size w w1 → Cel w1 B [.bool n0, .string s0, .string d0, .bool n1, .string s1, .string d1] 26 → Calls Tryz.prog 39 #[.slice (some ⟨B, 0, none⟩) 2 2] w1 fun e w' => e = .returned (.int .i64 (twoq n0 s0 d0 n1 s1 d1 : Nat)) ∧ Below w1.heap.size w1 w') :=
 fun B w1 b h => check2_any B n0 n1 s0 d0 s1 d1 w1 (hT.below b) h

theorem qdiv_zero (n0 n1 : Bool) (s0 d0 s1 d1 : ByteArray) (w : World) (hT : Tab w) (h : twoq n0 s0 d0 n1 s1 d1 = 0) (hs : natOf s1 = 0) :
  Calls Tryz.prog 20 #[.agg #[.bool n0, .string s0, .string d0], .agg #[.bool n1, .string s1, .string d1]] w fun e w' => e = .returned (.tuple #[qZ, .int .i64 3]) ∧ Below w.heap.size w w' := by
 have o1 := (chkq_zero (twoq_zero.1 h).2).1
 have g3 : s1 = ByteArray.empty := ByteArray.size_eq_zero_iff.1 ((okS_nil o1.1.1).2 hs)
 subst g3
 refine div_walk n0 n1 _ s0 d0 _ d1 _ _ 3 w (fun w1 b => ?_)
 have hc := checkH n0 n1 s0 d0 ByteArray.empty d1 w1 (hT.below b)
 rw [h] at hc
 exact reckon_quotient n0 n1 _ s0 d0 _ d1 _ _ 3 w1 hc (fun w2 _ => quotient_none n0 n1 s0 d0 d1 w2)
end Go.Proofs.YtdbnkcimcpnpdaaGreatDoor
namespace Go.Proofs.YtdbnkcimcpnpdaaGreatDoor
open Go.RowKit

set_option maxRecDepth 100000 in
set_option maxHeartbeats 2000000 in
theorem of_walk (zN : Bool) (zS : ByteArray) (n : Int) (w : World)
  (H1 : Hid (∀ w1, Calls Tryz.prog 76 #[.int .i64 n] w1 fun e w' => e = .returned (.agg #[.bool zN, .string zS]) ∧ Below w1.heap.size w1 w')) :
  Calls Tryz.prog 37 #[.int .i64 n] w fun e w' => e = .returned (.agg #[.bool zN, .string zS, .string ⟨#[1]⟩]) ∧ Below w.heap.size w w' := by
 go_enter Tryz.func37, Tryz.ntmps37
 go_wp2_with fail
 go_fit (H1.out _)
 rintro e w1 ⟨rfl, b1⟩
 obtain ⟨kr, b1⟩ := al1 b1
 have sz := b1.size
 have bb := b1
 clear b1
 have tr := kr.lt
 have cr_0 := cel3_0 kr
 have fr_1 := Cel.frozen kr 0
 have cr_2 := cel3_1 kr
 have fr_3 := Cel.frozen kr 1
 have cr_4 := cel3_2 kr
 have fr_5 := Cel.frozen kr 2
 go_wp2
 exact post_q (p := 2) (by kernel_rfl) rfl rfl (((kr.set 0 _).set 1 _).set 2 _) ⟨rfl, bset (bset (bset bb (by omega) 0 _) (by omega) 1 _) (by omega) 2 _⟩

theorem qI_int (z : Int) {n : Bool} {s : ByteArray} (h : zI z = .agg #[.bool n, .string s]) : qI (z : Rat) = .agg #[.bool n, .string s, .string ⟨#[1]⟩] :=
 qI_of (q := (z : Rat)) (m := 1) ⟨rfl, rfl⟩ h strOf_one.symm
theorem qof_any (z : Int) (h1 : -9223372036854775808 ≤ z) (h2 : z < 9223372036854775808) (w : World) :
  Calls Tryz.prog 37 #[.int .i64 z] w fun e w' => e = .returned (qI (z : Rat)) ∧ Below w.heap.size w w' := by
 obtain ⟨nf, sf, hf, -⟩ := named0
 rw [qI_int z (hf z)]
 exact of_walk _ _ z w (fun w1 => by have := zof_any z h1 h2 w1; rwa [hf] at this)

end Go.Proofs.YtdbnkcimcpnpdaaGreatDoor
namespace Go.Proofs.YtdbnkcimcpnpdaaGreatDoor
open Go.RowKit

theorem isE {s : ByteArray} (h : 0 < natOf s) : s.toList.isEmpty = false := by
 have : 0 < s.size := Nat.pos_of_ne_zero fun e => by have := natOf_empty e; omega
 simpa using toList_ne this
theorem make_ok (n0 n1 : Bool) (s0 s1 : ByteArray) (w : World) (hT : Tab w) (o0 : OkZ n0 s0) (o1 : OkZ n1 s1) {K : Nat} (hK : K ≤ 8000) (z0 : s0.size ≤ K) (z1 : s1.size ≤ K) (hp : 0 < natOf s1) :
  Calls Tryz.prog 36 #[.agg #[.bool n0, .string s0], .agg #[.bool n1, .string s1]] w fun e w' => e = .returned (.tuple #[qI (Rat.divInt (zOf n0 s0) (zOf n1 s1)), .int .i64 0]) ∧ Below w.heap.size w w' := by
 obtain ⟨nf, sf, hf, hok, hsz, hz, hnat, hneg, hstr, hnn, hfn⟩ := named0
 obtain ⟨t, ht, hL⟩ := tooLong_any s0 s1
 obtain rfl : t = false := by
  cases t with
  | false => rfl
  | true => have := ht.1 rfl; omega
 have C0 : Hid (∀ w1, Calls Tryz.prog 73 #[.agg #[.bool n0, .string s0]] w1 fun e w' => e = .returned (.int .i64 0) ∧ Below w1.heap.size w1 w') := by
  intro w1
  have := check_any n0 s0 w1
  rwa [(chk_ok (by omega)).2 o0] at this
 have C1 : Hid (∀ w1, Calls Tryz.prog 73 #[.agg #[.bool n1, .string s1]] w1 fun e w' => e = .returned (.int .i64 0) ∧ Below w1.heap.size w1 w') := by
  intro w1
  have := check_any n1 s1 w1
  rwa [(chk_ok (by omega)).2 o1] at this
 obtain ⟨G, hG⟩ : ∃ G, G = Nat.gcd (natOf s0) (natOf s1) := ⟨_, rfl⟩
 have hGp : 0 < G := by rw [hG]; exact Nat.gcd_pos_of_pos_right _ hp
 have hd : zOf n1 s1 ≠ 0 := fun e => by have := natAbs_zOf n1 s1; rw [e] at this; simp at this; omega
 have key := Q.make_low (zOf n0 s0) (zOf n1 s1) hd G (by rw [natAbs_zOf, natAbs_zOf]; exact hG)
 rw [natAbs_zOf] at key
 have bG : Bd (G : Int) K := (bd_nat z1).nat (by rw [hG]; exact Nat.le_of_dvd hp (Nat.gcd_dvd_right _ _))
 have hD : Hid (∀ w1, Below w.heap.size w w1 → Calls Tryz.prog 74 #[.agg #[.bool n0, .string s0], .agg #[.bool n1, .string s1]] w1 fun e w' => e = .returned (.agg #[.bool false, .string (sf (G : Nat))]) ∧ Below w1.heap.size w1 w') := by
  intro w1 b
  have := divisor_ok n0 n1 s0 s1 w1 o0 o1 (by omega) (by omega) (hT.below b)
  rwa [← hG, hfn] at this
 have hQ : Hid (∀ w1, Calls Tryz.prog 75 #[.agg #[.bool false, .string s1], .agg #[.bool false, .string (sf (G : Nat))]] w1 fun e w' => e = .returned (.agg #[.bool false, .string (sf ((natOf s1 / G : Nat) : Int))]) ∧ Below w1.heap.size w1 w') := by
  intro w1
  have := cut_ok false s1 (sf (G : Nat)) w1 ⟨o1.1, fun h => by cases h⟩ (hok _).1 (by omega) (Nat.le_trans (hsz _ _ bG) (by omega)) (by rw [hnn]; exact hGp)
  rwa [hnn, zOf_false, ← Int.natCast_ediv, hfn] at this
 have hneg1 : zOf n1 s1 < 0 ↔ n1 = true := by
  cases n1 with
  | false => simp [zOf]
  | true => simp [zOf]; omega
 have eq := qI_of key (hf _) (hstr _).symm.symm
 rw [eq]
 by_cases h0 : 0 < natOf s0
 ·have on : OkZ (!(n0 == n1)) s0 := ⟨o0.1, fun _ => Nat.pos_of_ne_zero fun e => by have := natOf_empty e; omega⟩
  have ez : (if zOf n1 s1 < 0 then -zOf n0 s0 else zOf n0 s0) = zOf (!(n0 == n1)) s0 := by
   cases n1 with
   | false => rw [if_neg (by rw [hneg1]; simp)]; cases n0 <;> rfl
   | true => rw [if_pos (by rw [hneg1])]; cases n0 <;> simp [zOf]
  rw [ez]
  refine make_some n0 n1 false _ false s0 s1 (sf (G : Nat)) _ _ w (isE hp) (isE h0) (shut hL) C0 C1 hD ?_ hQ
  intro w1
  have := cut_ok _ s0 (sf (G : Nat)) w1 on (hok _).1 (by omega) (Nat.le_trans (hsz _ _ bG) (by omega)) (by rw [hnn]; exact hGp)
  rwa [hnn, hf] at this
 ·have g3 : s0 = ByteArray.empty := ByteArray.size_eq_zero_iff.1 ((okS_nil o0.1).2 (by omega))
  subst g3
  have ez : (if zOf n1 s1 < 0 then -zOf n0 ByteArray.empty else zOf n0 ByteArray.empty) = 0 := by
   have : zOf n0 ByteArray.empty = 0 := by cases n0 <;> rfl
   rw [this]; simp
  rw [ez]
  refine make_none n0 n1 false _ false s1 (sf (G : Nat)) _ _ w (isE hp) (shut hL) C0 C1 hD ?_ hQ
  intro w1
  have := cut_ok false ByteArray.empty (sf (G : Nat)) w1 ⟨fun h => absurd h (by decide), fun h => by cases h⟩ (hok _).1 (by decide) (Nat.le_trans (hsz _ _ bG) (by omega)) (by rw [hnn]; exact hGp)
  rwa [hnn, show zOf false ByteArray.empty = 0 from rfl, hf] at this
end Go.Proofs.YtdbnkcimcpnpdaaGreatDoor
namespace Go.Proofs.YtdbnkcimcpnpdaaGreatDoor
open Go.RowKit

/-- The nearest whole number; of two as near the even one. -/
def rnd (n : Int) (d : Nat) : Int := if (d : Int) < n % d + n % d ∨ (n % d + n % d = d ∧ (n / d) % 2 = 1) then n / d + 1 else n / d
theorem odd_abs (q : Int) : q.natAbs % 2 = 1 ↔ q % 2 = 1 := by omega
theorem rounded_ok (n0 : Bool) (s0 s1 : ByteArray) (w : World) (o0 : OkZ n0 s0) (o1 : OkS s1) {K : Nat} (hK : K ≤ 15000) (z0 : s0.size ≤ K) (z1 : s1.size ≤ K) (hp : 0 < natOf s1) :
  Calls Tryz.prog 60 #[.agg #[.bool n0, .string s0], .agg #[.bool false, .string s1]] w fun e w' => e = .returned (zI (rnd (zOf n0 s0) (natOf s1))) ∧ Below w.heap.size w w' := by
 obtain ⟨nf, sf, hf, hok, hsz, hz, hnat, hneg, hstr, hnn, hfn⟩ := named0
 obtain ⟨n, hn⟩ : ∃ n, n = zOf n0 s0 := ⟨_, rfl⟩
 obtain ⟨d, hd⟩ : ∃ d, d = natOf s1 := ⟨_, rfl⟩
 have ed : OkZ false s1 := ⟨o1, fun h => by cases h⟩
 have bn : Bd n K := by rw [hn]; exact bd_zOf z0
 have bd' : Bd (d : Int) K := by rw [hd]; exact bd_nat z1
 have dpos : (0 : Int) < d := by omega
 have r0 := Int.emod_nonneg n (show (d : Int) ≠ 0 by omega)
 have r1 := Int.emod_lt_of_pos n dpos
 have bq : Bd (n / (d : Int)) K := bn.le (Int.natAbs_ediv_le_natAbs n d)
 have br : Bd (n % (d : Int)) K := bd'.le (by omega)
 have brr : Bd (n % (d : Int) + n % (d : Int)) (K + 1) := br.add br
 have H1 : Hid (∀ w1, Calls Tryz.prog 93 #[.agg #[.bool n0, .string s0], .agg #[.bool false, .string s1]] w1 fun e w' => e = .returned (.tuple #[.agg #[.bool (nf (n / (d : Int))), .string (sf (n / (d : Int)))], .agg #[.bool (nf (n % (d : Int))), .string (sf (n % (d : Int)))], .int .i64 0]) ∧ Below w1.heap.size w1 w') := by
  intro w1
  have := zdiv_ok n0 false s0 s1 w1 o0 ed (by omega) (by omega) hp
  rwa [zOf_false, ← hn, ← hd, hf, hf] at this
 have H2 : Hid (∀ w1, Calls Tryz.prog 79 #[.agg #[.bool (nf (n % (d : Int))), .string (sf (n % (d : Int)))], .agg #[.bool (nf (n % (d : Int))), .string (sf (n % (d : Int)))]] w1 fun e w' => e = .returned (.agg #[.bool (nf (n % (d : Int) + n % (d : Int))), .string (sf (n % (d : Int) + n % (d : Int)))]) ∧ Below w1.heap.size w1 w') := by
  intro w1
  have := plus_ok _ _ _ _ w1 (hok (n % (d : Int))) (hok (n % (d : Int))) (Nat.le_trans (hsz _ _ br) (by omega)) (Nat.le_trans (hsz _ _ br) (by omega))
  rwa [hz, hf] at this
 have H3 : Hid (∀ w1, Calls Tryz.prog 40 #[.agg #[.bool (nf (n % (d : Int) + n % (d : Int))), .string (sf (n % (d : Int) + n % (d : Int)))], .agg #[.bool false, .string s1]] w1 fun e w' => e = .returned (.int .i64 (cmpZ (n % (d : Int) + n % (d : Int)) d)) ∧ Below w1.heap.size w1 w') := by
  intro w1
  have := order_ok _ false _ s1 w1 (hok (n % (d : Int) + n % (d : Int))) ed (Nat.le_trans (hsz _ _ brr) (by omega)) (by omega)
  rwa [hz, zOf_false, ← hd] at this
 have H4 : Hid (∀ w1, Calls Tryz.prog 76 #[.int .i64 1] w1 fun e w' => e = .returned (.agg #[.bool (nf 1), .string (sf 1)]) ∧ Below w1.heap.size w1 w') := by
  intro w1
  have := zof_any 1 (by omega) (by omega) w1
  rwa [hf] at this
 have b1 : Bd (1 : Int) 1 := by unfold Bd; decide
 have H5 : Hid (∀ w1, Calls Tryz.prog 79 #[.agg #[.bool (nf (n / (d : Int))), .string (sf (n / (d : Int)))], .agg #[.bool (nf 1), .string (sf 1)]] w1 fun e w' => e = .returned (.agg #[.bool (nf (n / (d : Int) + 1)), .string (sf (n / (d : Int) + 1))]) ∧ Below w1.heap.size w1 w') := by
  intro w1
  have := plus_ok _ _ _ _ w1 (hok (n / (d : Int))) (hok 1) (Nat.le_trans (hsz _ _ bq) (by omega)) (Nat.le_trans (hsz _ _ b1) (by omega))
  rwa [hz, hz, hf] at this
 have H6 : Hid (∀ w1, Calls Tryz.prog 94 #[.agg #[.bool (nf (n / (d : Int))), .string (sf (n / (d : Int)))]] w1 fun e w' => e = .returned (.bool (decide ((n / (d : Int)).natAbs % 2 = 1))) ∧ Below w1.heap.size w1 w') := by
  intro w1
  have := odd_ok (nf (n / (d : Int))) _ w1 (Nat.le_trans (hsz _ _ bq) (by omega))
  rwa [hnat] at this
 rw [← hn, ← hd]
 unfold rnd
 by_cases c1 : (d : Int) < n % d + n % d
 ·rw [if_pos (Or.inl c1), hf]
  rw [show cmpZ (n % (d : Int) + n % (d : Int)) d = 1 by unfold cmpZ; rw [if_neg (by omega), if_pos c1]] at H3
  exact rnd_up n0 false _ _ _ _ _ s0 s1 _ _ _ _ _ w H1 H2 H3 H4 H5
 ·by_cases c2 : n % (d : Int) + n % (d : Int) = d
  ·rw [show cmpZ (n % (d : Int) + n % (d : Int)) d = 0 by unfold cmpZ; rw [if_neg (by omega), if_neg (by omega)]] at H3
   by_cases c3 : (n / (d : Int)) % 2 = 1
   ·rw [if_pos (Or.inr ⟨c2, c3⟩), hf]
    rw [decide_eq_true ((odd_abs _).2 c3)] at H6
    exact rnd_odd n0 false _ _ _ _ _ s0 s1 _ _ _ _ _ w H1 H2 H3 H4 H5 H6
   ·rw [if_neg (by rintro (h | h); · exact c1 h
                   ·exact c3 h.2), hf]
    rw [decide_eq_false (fun h => c3 ((odd_abs _).1 h))] at H6
    exact rnd_even n0 false _ _ _ s0 s1 _ _ _ w H1 H2 H3 H6
  ·rw [if_neg (by rintro (h | h); · exact c1 h
                  ·exact c2 h.1), hf]
   rw [show cmpZ (n % (d : Int) + n % (d : Int)) d = -1 by unfold cmpZ; rw [if_pos (by omega)]] at H3
   exact rnd_down n0 false _ _ _ s0 s1 _ _ _ w H1 H2 H3
end Go.Proofs.YtdbnkcimcpnpdaaGreatDoor
namespace Go.Proofs.YtdbnkcimcpnpdaaGreatDoor
open Go.RowKit Go.Shelf

set_option maxRecDepth 100000 in
set_option maxHeartbeats 4000000 in
theorem power_walk (p : Nat) (hp : p ≤ 100) (xN yN zN : Bool) (t u xS yS zS : ByteArray) (ht : t.size ≤ 100) (hu : u.size ≤ 100) (w : World)
  (H1 : Hid (∀ w1, Calls Tryz.prog 62 #[.string ⟨#[48]⟩, .int .i64 ((p : Int) / 2)] w1 fun e w' => e = .returned (.string t) ∧ Below w1.heap.size w1 w'))
  (H2 : Hid (∀ w1, Calls Tryz.prog 54 #[.string (⟨#[49]⟩ ++ t)] w1 fun e w' => e = .returned (.tuple #[.agg #[.bool xN, .string xS], .int .i64 0]) ∧ Below w1.heap.size w1 w'))
  (H3 : Hid (∀ w1, Calls Tryz.prog 62 #[.string ⟨#[48]⟩, .int .i64 ((p : Int) - (p : Int) / 2)] w1 fun e w' => e = .returned (.string u) ∧ Below w1.heap.size w1 w'))
  (H4 : Hid (∀ w1, Calls Tryz.prog 54 #[.string (⟨#[49]⟩ ++ u)] w1 fun e w' => e = .returned (.tuple #[.agg #[.bool yN, .string yS], .int .i64 0]) ∧ Below w1.heap.size w1 w'))
  (H5 : Hid (∀ w1, Calls Tryz.prog 41 #[.agg #[.bool xN, .string xS], .agg #[.bool yN, .string yS]] w1 fun e w' => e = .returned (.agg #[.bool zN, .string zS]) ∧ Below w1.heap.size w1 w')) :
  Calls Tryz.prog 61 #[.int .i64 (p : Nat)] w fun e w' => e = .returned (.agg #[.bool zN, .string zS]) ∧ Below w.heap.size w w' := by
 go_enter Tryz.func61, Tryz.ntmps61
 go_wp2_with fail
 go_fit (H1.out _)
 rintro e w1 ⟨rfl, b1⟩
 obtain ⟨kr, b1⟩ := al1 b1
 have sz := b1.size
 have bb := b1
 clear b1
 have tr := kr.lt
 go_wp2_with fail
 go_fit (H2.out _)
 rintro e w2 ⟨rfl, b1⟩
 have sz := b1.size
 replace kr := kr.below b1
 replace bb := Below.after bb b1
 clear b1
 go_wp2_with fail
 go_fit (H3.out _)
 rintro e w3 ⟨rfl, b1⟩
 obtain ⟨kx, b1⟩ := al1 b1
 have sz := b1.size
 replace kr := kr.below b1
 replace bb := Below.after bb b1
 clear b1
 have tx := kx.lt
 go_wp2_with fail
 go_fit (H4.out _)
 rintro e w4 ⟨rfl, b1⟩
 have sz := b1.size
 replace kr := kr.below b1
 replace kx := kx.below b1
 replace bb := Below.after bb b1
 clear b1
 have cx_0 := cel2_0' kx
 have cx_1 := cel2_1' kx
 have cx_2 := cel2_0' (kx.alloc (.cells #[.bool yN, .string yS] 24))
 have cx_3 := cel2_1' (kx.alloc (.cells #[.bool yN, .string yS] 24))
 go_wp2_with fail
 clear cx_0 cx_1 cx_2 cx_3
 go_fit (H5.out _)
 rintro e w5 ⟨rfl, b1⟩
 obtain ⟨ky, b1⟩ := al1 b1
 have sz := b1.size
 replace kr := kr.below b1
 replace kx := kx.below b1
 replace bb := Below.after bb b1
 clear b1
 have ty := ky.lt
 have cr_0 := cel2_0' kr
 have fr_1 := Cel.frozen kr 0
 have cr_2 := cel2_1' kr
 have fr_3 := Cel.frozen kr 1
 go_wp2
 exact post_z (p := 2) (by kernel_rfl) rfl rfl ((kr.set 0 _).set 1 _) ⟨rfl, bset (bset bb (by omega) 0 _) (by omega) 1 _⟩

theorem decTo_ten : ∀ (k : Nat) (b : List Nat), (lm b 0 = 49) → (∀ j, 1 ≤ j → j ≤ k → lm b j = 48) → decTo b (k + 1) = 10 ^ k
 | 0, b, h, _ => by simp [decTo, h]
 | k + 1, b, h, h2 => by
  show 10 * decTo b (k + 1) + (lm b (k + 1) - 48) = _
  rw [decTo_ten k b h (fun j a c => h2 j a (by omega)), h2 (k + 1) (by omega) (by omega), Nat.pow_succ]
  omega
/-- 1 with k noughts. -/
def tens (k : Nat) : ByteArray := ⟨#[49]⟩ ++ (⟨(Lib.repeatL [48] k).toArray⟩ : ByteArray)
theorem rep48 (k : Nat) : Lib.repeatL ([48] : List UInt8) k = List.replicate k 48 := by
 induction k with
 | zero => rfl
 | succ k ih =>
  show [48] ++ Lib.repeatL [48] k = _
  rw [ih, List.replicate_succ]
  rfl
theorem tens_byts (k : Nat) : byts (tens k) = 49 :: List.replicate k 48 := by
 unfold tens byts
 rw [rep48]
 simp
theorem tens_parse (k : Nat) (hk : k ≤ 59) (w : World) :
  Calls Tryz.prog 54 #[.string (tens k)] w fun e w' => e = .returned (.tuple #[zI ((10 ^ k : Nat) : Int), .int .i64 0]) ∧ Below w.heap.size w w' := by
 have hb := tens_byts k
 have h0 : lm (byts (tens k)) 0 = 49 := by rw [hb]; rfl
 have hl : (byts (tens k)).length = k + 1 := by rw [hb]; simp
 have hr : ∀ j, 1 ≤ j → j ≤ k → lm (byts (tens k)) j = 48 := fun j a b => by
  rw [hb]
  unfold lm
  obtain ⟨i, rfl⟩ : ∃ i, j = i + 1 := ⟨j - 1, by omega⟩
  rw [List.getD_cons_succ, List.getD_eq_getElem?_getD, List.getElem?_replicate, if_pos (by omega)]
  rfl
 have hs : (tens k).size = k + 1 := by rw [← byts_length, hl]
 have := parse_pos (tens k) w (fun h => by omega) ⟨by omega, by omega, fun h => by omega, fun j hj => by
  by_cases j0 : j = 0
  ·subst j0; omega
  ·have := hr j (by omega) (by omega); omega⟩
 rw [hs, decTo_ten k _ h0 hr] at this
 exact this
theorem rep_ok (k : Nat) (hk : k ≤ 1000) (w : World) :
  Calls Tryz.prog 62 #[.string ⟨#[48]⟩, .int .i64 (k : Nat)] w fun e w' => e = .returned (.string ⟨(Lib.repeatL [48] k).toArray⟩) ∧ Below w.heap.size w w' :=
 strings_Repeat ⟨#[48]⟩ k w (by omega) (by show 1 * k ≤ _; omega)
theorem rep_size (k : Nat) : (⟨(Lib.repeatL [48] k).toArray⟩ : ByteArray).size = k := by
 rw [rep48]
 simp [ByteArray.size]
theorem power_ok (p : Nat) (hp : p ≤ 100) (w : World) :
  Calls Tryz.prog 61 #[.int .i64 (p : Nat)] w fun e w' => e = .returned (zI ((10 ^ p : Nat) : Int)) ∧ Below w.heap.size w w' := by
 obtain ⟨nf, sf, hf, hok, hsz, hz, hnat, hneg, hstr, hnn, hfn⟩ := named0
 have b : ∀ k : Nat, Bd ((10 ^ k : Nat) : Int) (k + 1) := fun k => by
  unfold Bd
  rw [Int.natAbs_natCast]
  exact Nat.lt_of_le_of_lt (Nat.pow_le_pow_left (by omega) k) (Nat.pow_lt_pow_right (by omega) (by omega))
 obtain ⟨h, hh⟩ : ∃ h, h = p / 2 := ⟨_, rfl⟩
 obtain ⟨h', hh'⟩ : ∃ h', h' = p - p / 2 := ⟨_, rfl⟩
 rw [hfn]
 refine power_walk p hp false false false _ _ (sf ((10 ^ h : Nat) : Int)) (sf ((10 ^ h' : Nat) : Int)) (sf ((10 ^ p : Nat) : Int)) (by rw [rep_size h]; omega) (by rw [rep_size h']; omega) w ?_ ?_ ?_ ?_ ?_
 ·intro w1
  have := rep_ok h (by omega) w1
  rwa [show ((h : Nat) : Int) = (p : Int) / 2 by omega] at this
 ·intro w1
  have := tens_parse h (by omega) w1
  rwa [hfn] at this
 ·intro w1
  have := rep_ok h' (by omega) w1
  rwa [show ((h' : Nat) : Int) = (p : Int) - (p : Int) / 2 by omega] at this
 ·intro w1
  have := tens_parse h' (by omega) w1
  rwa [hfn] at this
 ·intro w1
  have := times_ok false false (sf ((10 ^ h : Nat) : Int)) (sf ((10 ^ h' : Nat) : Int)) w1 ⟨(hok _).1, fun h => by cases h⟩ ⟨(hok _).1, fun h => by cases h⟩ (Nat.le_trans (hsz _ _ (b h)) (by omega)) (Nat.le_trans (hsz _ _ (b h')) (by omega))
  rwa [zOf_false, zOf_false, hnn, hnn, ← Int.natCast_mul, ← Nat.pow_add, show h + h' = p by omega, hfn] at this

end Go.Proofs.YtdbnkcimcpnpdaaGreatDoor
