/-
  gussetlaw03: RatNear, walked.
  gussetlaw03: RatNear, walked.
-/
import Derived.Test.YtdbnkcimcpnpdaaGreatDoorG27
import Derived.Test.YtdbnkcimcpnpdaaGreatDoorG33
import Derived.Test.YtdbnkcimcpnpdaaGreatDoorG36
namespace Go.Proofs.YtdbnkcimcpnpdaaGreatDoor
open Go.RowKit Go.Shelf

set_option maxRecDepth 100000 in
set_option maxHeartbeats 8000000 in
theorem near_l1 (n0 : Bool) (s0 d0 : ByteArray) (P : Int) (h0 : (16 : Int) < s0.size) (w : World)
  (HL : Hid (∀ w1, Below w.heap.size w w1 → Calls Tryz.prog 10 #[] w1 fun e w' => e = .returned (.bool true) ∧ Below w1.heap.size w1 w')) :
  Calls Tryz.prog 8 #[.agg #[.bool n0, .string s0, .string d0], .int .i64 P] w fun e w' => e = .returned (.bool true) ∧ Below w.heap.size w w' := by
 go_enter Tryz.func8, Tryz.ntmps8
 go_wp2_with fail
 go_fit (HL.out _ (ba (Below.refl _ _) _))
 rintro e w1 ⟨rfl, b1⟩
 obtain ⟨ka, b1⟩ := al1 b1
 have sz := b1.size
 have bb := b1
 clear b1
 have ta := ka.lt
 clear ta
 go_wp2
 go_ret
 exact ⟨rfl, bb⟩
set_option maxRecDepth 100000 in
set_option maxHeartbeats 8000000 in
theorem near_l2 (n0 : Bool) (s0 d0 : ByteArray) (P : Int) (h0 : ¬ (16 : Int) < s0.size) (h1 : (24 : Int) < d0.size) (w : World)
  (HL : Hid (∀ w1, Below w.heap.size w w1 → Calls Tryz.prog 10 #[] w1 fun e w' => e = .returned (.bool true) ∧ Below w1.heap.size w1 w')) :
  Calls Tryz.prog 8 #[.agg #[.bool n0, .string s0, .string d0], .int .i64 P] w fun e w' => e = .returned (.bool true) ∧ Below w.heap.size w w' := by
 go_enter Tryz.func8, Tryz.ntmps8
 go_wp2_with fail
 go_fit (HL.out _ (ba (Below.refl _ _) _))
 rintro e w1 ⟨rfl, b1⟩
 obtain ⟨ka, b1⟩ := al1 b1
 have sz := b1.size
 have bb := b1
 clear b1
 have ta := ka.lt
 clear ta
 go_wp2
 go_ret
 exact ⟨rfl, bb⟩
set_option maxRecDepth 100000 in
set_option maxHeartbeats 8000000 in
theorem near_l3 (n0 : Bool) (s0 d0 : ByteArray) (P : Int) (h0 : ¬ (16 : Int) < s0.size) (h1 : ¬ (24 : Int) < d0.size) (c : Int) (hc : ¬ c = 0) (w : World)
  (HL : Hid (∀ w1, Below w.heap.size w w1 → Calls Tryz.prog 10 #[] w1 fun e w' => e = .returned (.bool true) ∧ Below w1.heap.size w1 w'))
  (K0 : Hid (∀ w1, Calls Tryz.prog 25 #[.agg #[.bool n0, .string s0, .string d0]] w1 fun e w' => e = .returned (.int .i64 c) ∧ Below w1.heap.size w1 w')) :
  Calls Tryz.prog 8 #[.agg #[.bool n0, .string s0, .string d0], .int .i64 P] w fun e w' => e = .returned (.bool true) ∧ Below w.heap.size w w' := by
 go_enter Tryz.func8, Tryz.ntmps8
 go_wp2_with fail
 go_fit (K0.out _)
 rintro e w1 ⟨rfl, b1⟩
 obtain ⟨ka, b1⟩ := al1 b1
 have sz := b1.size
 have bb := b1
 clear b1
 have ta := ka.lt
 clear ta
 have ca_0 := cel3_0 ka
 have ca_1 := cel3_1 ka
 have ca_2 := cel3_2 ka
 go_wp2_with fail
 clear ca_0 ca_1 ca_2
 go_fit (HL.out _ bb)
 rintro e w2 ⟨rfl, b1⟩
 have sz := b1.size
 replace ka := ka.below b1
 replace bb := Below.after bb b1
 clear b1
 go_wp2
 go_ret
 exact ⟨rfl, bb⟩
set_option maxRecDepth 100000 in
set_option maxHeartbeats 8000000 in
theorem near_l4 (n0 : Bool) (s0 d0 : ByteArray) (P : Int) (h0 : ¬ (16 : Int) < s0.size) (h1 : ¬ (24 : Int) < d0.size) (hp : P < 0) (w : World)
  (HL : Hid (∀ w1, Below w.heap.size w w1 → Calls Tryz.prog 10 #[] w1 fun e w' => e = .returned (.bool true) ∧ Below w1.heap.size w1 w'))
  (K0 : Hid (∀ w1, Calls Tryz.prog 25 #[.agg #[.bool n0, .string s0, .string d0]] w1 fun e w' => e = .returned (.int .i64 0) ∧ Below w1.heap.size w1 w')) :
  Calls Tryz.prog 8 #[.agg #[.bool n0, .string s0, .string d0], .int .i64 P] w fun e w' => e = .returned (.bool true) ∧ Below w.heap.size w w' := by
 go_enter Tryz.func8, Tryz.ntmps8
 go_wp2_with fail
 go_fit (K0.out _)
 rintro e w1 ⟨rfl, b1⟩
 obtain ⟨ka, b1⟩ := al1 b1
 have sz := b1.size
 have bb := b1
 clear b1
 have ta := ka.lt
 clear ta
 have ca_0 := cel3_0 ka
 have ca_1 := cel3_1 ka
 have ca_2 := cel3_2 ka
 go_wp2_with fail
 clear ca_0 ca_1 ca_2
 go_fit (HL.out _ bb)
 rintro e w2 ⟨rfl, b1⟩
 have sz := b1.size
 replace ka := ka.below b1
 replace bb := Below.after bb b1
 clear b1
 go_wp2
 go_ret
 exact ⟨rfl, bb⟩
set_option maxRecDepth 100000 in
set_option maxHeartbeats 8000000 in
theorem near_l5 (n0 : Bool) (s0 d0 : ByteArray) (P : Int) (h0 : ¬ (16 : Int) < s0.size) (h1 : ¬ (24 : Int) < d0.size) (hp0 : ¬ P < 0) (hp : 15 < P) (w : World)
  (HL : Hid (∀ w1, Below w.heap.size w w1 → Calls Tryz.prog 10 #[] w1 fun e w' => e = .returned (.bool true) ∧ Below w1.heap.size w1 w'))
  (K0 : Hid (∀ w1, Calls Tryz.prog 25 #[.agg #[.bool n0, .string s0, .string d0]] w1 fun e w' => e = .returned (.int .i64 0) ∧ Below w1.heap.size w1 w')) :
  Calls Tryz.prog 8 #[.agg #[.bool n0, .string s0, .string d0], .int .i64 P] w fun e w' => e = .returned (.bool true) ∧ Below w.heap.size w w' := by
 go_enter Tryz.func8, Tryz.ntmps8
 go_wp2_with fail
 go_fit (K0.out _)
 rintro e w1 ⟨rfl, b1⟩
 obtain ⟨ka, b1⟩ := al1 b1
 have sz := b1.size
 have bb := b1
 clear b1
 have ta := ka.lt
 clear ta
 have ca_0 := cel3_0 ka
 have ca_1 := cel3_1 ka
 have ca_2 := cel3_2 ka
 go_wp2_with fail
 clear ca_0 ca_1 ca_2
 go_fit (HL.out _ bb)
 rintro e w2 ⟨rfl, b1⟩
 have sz := b1.size
 replace ka := ka.below b1
 replace bb := Below.after bb b1
 clear b1
 go_wp2
 go_ret
 exact ⟨rfl, bb⟩
end Go.Proofs.YtdbnkcimcpnpdaaGreatDoor
namespace Go.Proofs.YtdbnkcimcpnpdaaGreatDoor
open Go.RowKit Go.Shelf
set_option maxRecDepth 100000 in
set_option maxHeartbeats 16000000 in
theorem near_ok (n0 nN tN fN gN : Bool) (s0 d0 R X nS tS tD fS fD gS gD twS teS bS : ByteArray) (D E : Nat → ByteArray) (p : Nat) (c : Int) (h0 : ¬ (16 : Int) < s0.size) (h1 : ¬ (24 : Int) < d0.size) (hp : p ≤ 15) (hR1 : 0 < R.size) (hR2 : R.size ≤ 1000) (hD0 : D 0 = ByteArray.empty) (hDs : ∀ i, (D i).size ≤ i) (HD : Hid (∀ (i : Nat) (h : i < R.size), (R[i]'h = 46 ∧ D (i + 1) = D i) ∨ (R[i]'h = 48 ∧ D i = ByteArray.empty ∧ D (i + 1) = D i) ∨ (R[i]'h = 45 ∧ D i = ByteArray.empty ∧ D (i + 1) = D i) ∨ (¬ R[i]'h = 46 ∧ ¬ R[i]'h = 45 ∧ ((D i).toList.isEmpty = false ∨ (D i = ByteArray.empty ∧ ¬ R[i]'h = 48)) ∧ D (i + 1) = D i ++ R.extract i (i + 1)))) (HX : Hid ((D R.size = ByteArray.empty ∧ X = ⟨#[48]⟩) ∨ ((D R.size).toList.isEmpty = false ∧ R[0]'hR1 = 45 ∧ X = ⟨#[45]⟩ ++ D R.size) ∨ ((D R.size).toList.isEmpty = false ∧ ¬ R[0]'hR1 = 45 ∧ X = D R.size))) (hc : c ≤ 0) (w : World)
  (HL : Hid (∀ w1, Below w.heap.size w w1 → Calls Tryz.prog 10 #[] w1 fun e w' => e = .returned (.bool true) ∧ Below w1.heap.size w1 w'))
  (K0 : Hid (∀ w1, Calls Tryz.prog 25 #[.agg #[.bool n0, .string s0, .string d0]] w1 fun e w' => e = .returned (.int .i64 0) ∧ Below w1.heap.size w1 w'))
  (D0 : Hid (∀ w1, Below w.heap.size w w1 → Calls Tryz.prog 28 #[.agg #[.bool n0, .string s0, .string d0], .int .i64 (p : Int)] w1 fun e w' => e = .returned (.tuple #[.string R, .int .i64 0]) ∧ Below w1.heap.size w1 w'))
  (HN : Hid (∀ w1, Calls Tryz.prog 30 #[.string X] w1 fun e w' => e = .returned (.tuple #[.agg #[.bool nN, .string nS], .int .i64 0]) ∧ Below w1.heap.size w1 w'))
  (H1 : Hid (∀ w1, Calls Tryz.prog 31 #[.int .i64 1] w1 fun e w' => e = .returned (.agg #[.bool false, .string (E 0)]) ∧ Below w1.heap.size w1 w'))
  (H10 : Hid (∀ w1, Calls Tryz.prog 31 #[.int .i64 10] w1 fun e w' => e = .returned (.agg #[.bool false, .string teS]) ∧ Below w1.heap.size w1 w'))
  (H2 : Hid (∀ w1, Calls Tryz.prog 31 #[.int .i64 2] w1 fun e w' => e = .returned (.agg #[.bool false, .string twS]) ∧ Below w1.heap.size w1 w'))
  (HT : Hid (∀ (i : Nat) w1, i < p → Calls Tryz.prog 32 #[.agg #[.bool false, .string (E i)], .agg #[.bool false, .string teS]] w1 fun e w' => e = .returned (.agg #[.bool false, .string (E (i + 1))]) ∧ Below w1.heap.size w1 w'))
  (HB : Hid (∀ w1, Calls Tryz.prog 32 #[.agg #[.bool false, .string (E p)], .agg #[.bool false, .string twS]] w1 fun e w' => e = .returned (.agg #[.bool false, .string bS]) ∧ Below w1.heap.size w1 w'))
  (HLo : Hid (∀ w1, Calls Tryz.prog 33 #[.agg #[.bool nN, .string nS], .agg #[.bool false, .string (E p)]] w1 fun e w' => e = .returned (.agg #[.bool tN, .string tS, .string tD]) ∧ Below w1.heap.size w1 w'))
  (HLe : Hid (∀ w1, Calls Tryz.prog 17 #[.agg #[.bool tN, .string tS, .string tD], .agg #[.bool n0, .string s0, .string d0]] w1 fun e w' => e = .returned (.agg #[.bool fN, .string fS, .string fD]) ∧ Below w1.heap.size w1 w'))
  (HH : Hid (∀ w1, Calls Tryz.prog 33 #[.agg #[.bool false, .string (E 0)], .agg #[.bool false, .string bS]] w1 fun e w' => e = .returned (.agg #[.bool gN, .string gS, .string gD]) ∧ Below w1.heap.size w1 w'))
  (HO : Hid (∀ w1, Calls Tryz.prog 15 #[.agg #[.bool false, .string fS, .string fD], .agg #[.bool gN, .string gS, .string gD]] w1 fun e w' => e = .returned (.int .i64 c) ∧ Below w1.heap.size w1 w')) :
  Calls Tryz.prog 8 #[.agg #[.bool n0, .string s0, .string d0], .int .i64 (p : Int)] w fun e w' => e = .returned (.bool true) ∧ Below w.heap.size w w' := by
 have hpn : ¬ (p : Int) < 0 := by omega
 have hpm : ¬ (15 : Int) < (p : Int) := by omega
 go_enter Tryz.func8, Tryz.ntmps8
 go_wp2_with fail
 go_fit (K0.out _)
 rintro e w1 ⟨rfl, b1⟩
 obtain ⟨ka, b1⟩ := al1 b1
 have sz := b1.size
 have bb := b1
 clear b1
 have ta := ka.lt
 clear ta
 have ca_0 := cel3_0 ka
 have ca_1 := cel3_1 ka
 have ca_2 := cel3_2 ka
 go_wp2_with fail
 clear ca_0 ca_1 ca_2
 go_fit (D0.out _ bb)
 rintro e w2 ⟨rfl, b1⟩
 have sz := b1.size
 replace ka := ka.below b1
 replace bb := Below.after bb b1
 clear b1
 have hRe : R.toList.isEmpty = false := by simpa using toList_ne hR1
 clear D0 K0
 have e1 : decide ((p : Int) < 0) = false := decide_eq_false (by omega)
 have e2 : decide ((15 : Int) < (p : Int)) = false := decide_eq_false (by omega)
 rw [e1, e2]
 simp only [Bool.or_self]
 clear e1 e2
 go_wp2_with fail
 go_loopw [7, 8] (fun dv iv wr => ∃ i : Nat, dv = .string (D i) ∧ iv = .int .i64 (i : Int) ∧ i ≤ R.size ∧ wr = w2) (fun _ iv _ => R.size - (intOf iv).toNat)
 case atStart => exact ⟨0, by rw [hD0]; rfl, rfl, by omega, rfl⟩
 case round =>
  obtain ⟨i, rfl, rfl, hi, rfl⟩ := hrel
  by_cases hlt : i < R.size
  ·have hlt' : (i : Int) < (R.size : Int) := by omega
   clear HX HN H1 H10 H2 HT HB HLo HLe HH HO HL
   have hds := hDs i
   have hi1 : (i : Int) + 1 ≤ (R.size : Int) := by omega
   have hRz : (R.size : Int) ≤ 1000 := by omega
   have f1 : (0 : Int) ≤ (i : Int) := by omega
   have f2 : (i : Int) ≤ (i : Int) + 1 := by omega
   have f3 : ((i : Int) + 1).toNat = i + 1 := by omega
   rcases HD.out i hlt with ⟨p3, q⟩ | ⟨p3, q0, q⟩ | ⟨p3, q0, q⟩ | ⟨p3, p4, q0, q⟩
   ·have p2 : ((R[i]).toNat : Int) = 46 := by rw [p3]; rfl
    clear HD
    go_wp2
    refine ⟨⟨i + 1, by rw [q], by simp, by omega, by first | rfl | trivial⟩, ?_⟩
    simp [intOf]; omega
   ·have p2 : ((R[i]).toNat : Int) = 48 := by rw [p3]; rfl
    clear HD
    rw [q0] at q ⊢
    go_wp2
    refine ⟨⟨i + 1, by first | (rw [q]; done) | (rw [q]; rfl), by simp, by omega, by first | rfl | trivial⟩, ?_⟩
    simp [intOf]; omega
   ·have p2 : ((R[i]).toNat : Int) = 45 := by rw [p3]; rfl
    clear HD
    rw [q0] at q ⊢
    go_wp2
    refine ⟨⟨i + 1, by first | (rw [q]; done) | (rw [q]; rfl), by simp, by omega, by first | rfl | trivial⟩, ?_⟩
    simp [intOf]; omega
   ·have p2 : ¬ ((R[i]).toNat : Int) = 46 := fun h => p3 (UInt8.toNat.inj (by show _ = 46; omega))
    have p5 : ¬ ((R[i]).toNat : Int) = 45 := fun h => p4 (UInt8.toNat.inj (by show _ = 45; omega))
    have b2 : (((R[i]).toNat : Int) != 46) = true := by simpa using p2
    have b5 : (((R[i]).toNat : Int) != 45) = true := by simpa using p5
    clear HD
    have hes : (R.extract i (i + 1)).size ≤ 1000 := by rw [ByteArray.size_extract]; omega
    rcases q0 with q0 | ⟨q0, q1⟩
    ·by_cases p6 : R[i] = 48
     ·have p7 : ((R[i]).toNat : Int) = 48 := by rw [p6]; rfl
      go_wp2
      refine ⟨⟨i + 1, by rw [q], by simp, by omega, by first | rfl | trivial⟩, ?_⟩
      simp [intOf]; omega
     ·have p7 : ¬ ((R[i]).toNat : Int) = 48 := fun h => p6 (UInt8.toNat.inj (by show _ = 48; omega))
      have b7 : (((R[i]).toNat : Int) == 48) = false := by simpa using p7
      go_wp2
      refine ⟨⟨i + 1, by rw [q], by simp, by omega, by first | rfl | trivial⟩, ?_⟩
      simp [intOf]; omega
    ·have p7 : ¬ ((R[i]).toNat : Int) = 48 := fun h => q1 (UInt8.toNat.inj (by show _ = 48; omega))
     have b7 : (((R[i]).toNat : Int) == 48) = false := by simpa using p7
     rw [q0] at q ⊢
     go_wp2
     refine ⟨⟨i + 1, by first | (rw [q]; done) | (rw [q]; rfl), by simp, by omega, by first | rfl | trivial⟩, ?_⟩
     simp [intOf]; omega
  ·have hge : ¬ (i : Int) < (R.size : Int) := by omega
   obtain rfl : i = R.size := by omega
   have hds := hDs R.size
   clear HD hDs hlt
   go_upto_if 88 with fail
   go_cut [7] from 87 to 93 (fun dv wx => dv = .string X ∧ wx = wr)
   case first =>
    clear HN H1 H10 H2 HT HB HLo HLe HH HO HL
    have hz1 : (0 : Int) < (R.size : Int) := by omega
    rcases HX.out with ⟨e1, e⟩ | ⟨e1, e2, e⟩ | ⟨e1, e2, e⟩
    ·have he : (D R.size).toList.isEmpty = true := by rw [e1, ByteArray.toList_eq]; rfl
     clear HX
     rw [he]
     go_wp2
     go_meet
     exact ⟨by rw [e], rfl⟩
    ·have p2 : ((R[0]).toNat : Int) = 45 := by rw [e2]; rfl
     have p8 : (((R[0]).toNat : Int) == 45) = true := by simpa using p2
     clear HX
     rw [e1]
     go_wp2
     go_meet
     exact ⟨by rw [e], rfl⟩
    ·have p2 : ¬ ((R[0]).toNat : Int) = 45 := fun h => e2 (UInt8.toNat.inj (by show _ = 45; omega))
     have p8 : (((R[0]).toNat : Int) == 45) = false := by simpa using p2
     clear HX
     rw [e1]
     go_wp2
     go_meet
     exact ⟨by rw [e], rfl⟩
   case rest =>
   obtain ⟨rfl, rfl⟩ := hcut
   clear HX hD0 hds
   go_wp2_with fail
   go_fit (HN.out _)
   rintro e w3 ⟨rfl, b1⟩
   have sz := b1.size
   replace ka := ka.below b1
   replace bb := Below.after bb b1
   clear b1
   clear HN
   go_wp2_with fail
   go_fit (H1.out _)
   rintro e w4 ⟨rfl, b1⟩
   obtain ⟨kn, b1⟩ := al1 b1
   have sz := b1.size
   replace ka := ka.below b1
   replace bb := Below.after bb b1
   clear b1
   have tn := kn.lt
   go_wp2_with fail
   obtain ⟨w5, hw, ke, b1⟩ := mk1 w4 [.bool false, .string (E 0)] 24
   rw [← hw]
   clear hw
   have sz := b1.size
   have te := ke.lt
   replace ka := ka.below b1
   replace kn := kn.below b1
   replace bb := Below.after bb b1
   clear b1
   have hna := ka.lt
   have ne0 : ¬ w.heap.size = w4.heap.size := by omega
   have ne1 : ¬ (w3.heap.size) = w4.heap.size := by omega
   have le0 : w.heap.size ≤ w4.heap.size := by omega
   go_loopw [12] (fun iv wr => ∃ i : Nat, iv = .int .i64 (i : Int) ∧ i ≤ p ∧ Cel wr w.heap.size [.bool n0, .string s0, .string d0] 26 ∧ Cel wr (w3.heap.size) [.bool nN, .string nS] 24 ∧ Cel wr (w4.heap.size) [.bool false, .string (E i)] 24 ∧ Below w.heap.size w wr) (fun iv _ => p - (intOf iv).toNat)
   case atStart => exact ⟨0, rfl, by omega, ka, kn, ke, bb⟩
   case round =>
    clear ka kn ke bb
    obtain ⟨i, rfl, hi, ka, kn, ke, bb⟩ := hrel
    by_cases hlt : i < p
    ·have hlt' : (i : Int) < (p : Int) := by omega
     have HT' := shut (fun w1 => HT.out i w1 hlt)
     clear HT HB HLo HLe HH HO HL H1 H2
     have c0 := cel2_0' ke
     have c1 := cel2_1' ke
     go_wp2
     go_region_with (first | (go_at_call 31; go_fit (H10.out _); rintro e wa ⟨rfl, b1'⟩; have b1 : Below wr.heap.size wr wa := ⟨b1'.os, b1'.tape, b1'.output, b1'.size, b1'.block⟩; have d0 := cel2_0' (ke.below b1); have d1 := cel2_1' (ke.below b1)) | (go_at_call 32; go_fit (HT'.out _); rintro e wb ⟨rfl, b2⟩; have q2 := (ke.below b1).below b2; have qa := (ka.below b1).below b2; have qn := (kn.below b1).below b2; have bb2 := Below.after bb (Below.after b1 b2); have e0 := cel2_0' q2; have e1 := cel2_1' q2; have f0 := q2.frozen 0; have f1 := q2.frozen 1))
     all_goals (clear c0 c1; try clear d0 d1)
     all_goals (try clear e0 e1 f0 f1)
     all_goals have q3 := (q2.set 0 (.bool false)).set 1 (.string (E (i + 1)))
     all_goals have qa3 := (qa.other ne0 0 (.bool false)).other ne0 1 (.string (E (i + 1)))
     all_goals have qn3 := (qn.other ne1 0 (.bool false)).other ne1 1 (.string (E (i + 1)))
     all_goals have b3 := bset (g := w4.heap.size) (bset (g := w4.heap.size) bb2 le0 0 (.bool false)) le0 1 (.string (E (i + 1)))
     all_goals try go_wp2
     all_goals refine ⟨⟨i + 1, ?_, by omega, qa3, qn3, q3, b3⟩, ?_⟩
     all_goals first | rfl | (simp [intOf]; omega) | simp
    ·have hge : ¬ (i : Int) < (p : Int) := by omega
     obtain rfl : i = p := by omega
     clear HT H10 hlt ne0 ne1 le0
     have cn_0 := cel2_0' kn
     have cn_1 := cel2_1' kn
     have ce_2 := cel2_0' ke
     have ce_3 := cel2_1' ke
     go_wp2_with fail
     clear cn_0 cn_1 ce_2 ce_3
     go_fit (HLo.out _)
     rintro e w6 ⟨rfl, b1⟩
     have sz := b1.size
     replace ka := ka.below b1
     replace kn := kn.below b1
     replace ke := ke.below b1
     replace bb := Below.after bb b1
     clear b1
     clear HLo
     have ca_0 := cel3_0 ka
     have ca_1 := cel3_1 ka
     have ca_2 := cel3_2 ka
     have ca_3 := cel3_0 (ka.alloc (.cells #[.bool tN, .string tS, .string tD] 26))
     have ca_4 := cel3_1 (ka.alloc (.cells #[.bool tN, .string tS, .string tD] 26))
     have ca_5 := cel3_2 (ka.alloc (.cells #[.bool tN, .string tS, .string tD] 26))
     go_wp2_with fail
     clear ca_0 ca_1 ca_2 ca_3 ca_4 ca_5
     go_fit (HLe.out _)
     rintro e w7 ⟨rfl, b1⟩
     obtain ⟨kt, b1⟩ := al1 b1
     have sz := b1.size
     replace ka := ka.below b1
     replace kn := kn.below b1
     replace ke := ke.below b1
     replace bb := Below.after bb b1
     clear b1
     have tt := kt.lt
     clear HLe
     go_wp2_with fail
     obtain ⟨w8, hw, kf, b1⟩ := mk1 w7 [.bool false, .string fS, .string fD] 26
     rw [← hw]
     clear hw
     have sz := b1.size
     have tf := kf.lt
     replace ka := ka.below b1
     replace kn := kn.below b1
     replace ke := ke.below b1
     replace kt := kt.below b1
     replace bb := Below.after bb b1
     clear b1
     clear kn kt
     have mkS : ∀ w', Below w8.heap.size w8 w' → (Below w8.heap.size w8 w' ∧ w'.cell? ⟨w4.heap.size, 0, none⟩ = some (.bool false) ∧ w'.cell? ⟨w4.heap.size, 1, none⟩ = some (.string (E i))) := fun w' h => ⟨h, cel2_0' (ke.below h), cel2_1' (ke.below h)⟩
     have bcS : ∀ w', (Below w8.heap.size w8 w' ∧ w'.cell? ⟨w4.heap.size, 0, none⟩ = some (.bool false) ∧ w'.cell? ⟨w4.heap.size, 1, none⟩ = some (.string (E i))) → Below w8.heap.size w8 w' := fun w' h => h.1
     replace mkS := shut mkS
     replace bcS := shut bcS
     go_cut [15] from 118 to 122 (fun v wx => ∃ gc, v = .pointer (some ⟨gc, 0, none⟩) ∧ w8.heap.size ≤ gc ∧ Cel wx gc [.bool gN, .string gS, .string gD] 26 ∧ Below w8.heap.size w8 wx)
     case first =>
      clear HO HL ka kf
      refine wp_region_held_drew (S := (fun w' => Below w8.heap.size w8 w' ∧ w'.cell? ⟨w4.heap.size, 0, none⟩ = some (.bool false) ∧ w'.cell? ⟨w4.heap.size, 1, none⟩ = some (.string (E i)))) (by kernel_rfl) (mkS.out _ (bdrew _)) (fun _ => ?_)
      refine absO 7 (by kernel_rfl) (fun ops q SP hops hq hSP => ?_)
      obtain ⟨fr, hfr⟩ : ∃ fr : Value → Value → Value → Value → Value → Act, fr = (fun x15 x118 x120 x121 x122 => { tmps := #[.agg #[.bool n0, .string s0, .string d0], .int .i64 ↑i, .pointer (some ⟨w.heap.size, 0, none⟩), undef, .bool false, .string R, .int .i64 0, .string X, .int .i64 ↑R.size, .pointer (some ⟨w3.heap.size, 0, none⟩), .int .i64 0, .pointer (some ⟨w4.heap.size, 0, none⟩), .int .i64 ↑i, .pointer (some ⟨w6.heap.size, 0, none⟩), .pointer (some ⟨w7.heap.size, 0, none⟩), x15, .pointer (some ⟨w.heap.size, 0, none⟩), .pointer (some ⟨w.heap.size, 1, none⟩), .string s0, .int .i64 ↑s0.size, .bool false, .bool false, .pointer (some ⟨w.heap.size, 2, none⟩), .string d0, .int .i64 ↑d0.size, .bool false, .bool false, .bool false, .agg #[.bool n0, .string s0, .string d0], .int .i64 0, .bool false, .bool false, .bool false, .int .i64 ↑i, .bool false, .bool false, .bool false, .int .i64 ↑i, .bool false, .bool false, undef, .tuple #[.string R, .int .i64 0], .agg #[.bool n0, .string s0, .string d0], .int .i64 ↑i, .tuple #[.string R, .int .i64 0], .string R, .int .i64 0, .int .i64 0, .bool false, .bool false, .string R, .bool false, .bool false, .int .i64 ↑R.size, .string R, .int .i64 ↑R.size, .bool false, u57, u58, u59, u60, u61, u62, u63, u64, u65, u66, u67, u68, u69, u70, u71, u72, u73, u74, u75, u76, u77, u78, u79, u80, u81, u82, u83, u84, u85, u86, u87, u88, u89, u90, u91, u92, u93, .tuple #[.agg #[.bool nN, .string nS], .int .i64 0], .string X, .tuple #[.agg #[.bool nN, .string nS], .int .i64 0], .agg #[.bool nN, .string nS], .int .i64 0, .agg #[.bool false, .string (E 0)], .int .i64 ↑i, .int .i64 ↑i, .bool false, u103, u104, u105, u106, u107, .int .i64 0, .bool false, .agg #[.bool nN, .string nS], .agg #[.bool false, .string (E i)], .agg #[.bool tN, .string tS, .string tD], .agg #[.bool tN, .string tS, .string tD], .agg #[.bool n0, .string s0, .string d0], .agg #[.bool fN, .string fS, .string fD], .pointer (some ⟨w7.heap.size, 0, none⟩), .pointer (some ⟨w7.heap.size, 0, none⟩), x118, .agg #[.bool false, .string (E i)], x120, x121, x122, undef, undef, undef, undef, undef, undef, undef], defers := [] }) := ⟨_, rfl⟩
      have L4_0 : Hid (∀ (g0 : Nat) (w' : World) (hS : SP w') (k0 : Cel w' g0 [.bool false, .string { data := #[] }, .string { data := #[] }] 26) (h0 : w8.heap.size ≤ g0), wpAnyH Tryz.prog .any ops q SP 1 (ls 7 [0, 1, 2, 3, 4, 5]) (fr (.pointer (some ⟨g0, 0, none⟩)) (.agg #[.bool false, .string (E 0)]) (.agg #[.bool false, .string twS]) (.agg #[.bool false, .string bS]) (.agg #[.bool gN, .string gS, .string gD])) w') := by
       subst hops hq hSP hfr
       intro g0 w' hS k0 h0
       have bc := bcS.out _ hS
       dsimp only
       have e0_0 := cel3_0 k0
       have f0_0 := Cel.frozen k0 0
       have e0_1 := cel3_1 k0
       have f0_1 := Cel.frozen k0 1
       have e0_2 := cel3_2 k0
       have f0_2 := Cel.frozen k0 2
       refine rdy [6] (by kernel_rfl) ?_
       refine AllReadyH.cons (o := _) rfl (fun K hK => ?_) AllReadyH.nil
       simp only [List.getElem_toArray, List.getElem_cons_succ, List.getElem_cons_zero]
       go_simp
       try go_wp2_with fail
       clear e0_0 f0_0 e0_1 f0_1 e0_2 f0_2
       refine hK.out _ _ (mkS.out _ (bset (bset (bset bc h0 0 (.bool gN)) h0 1 (.string gS)) h0 2 (.string gD))) (fun hS => ?_)
       clear hK K
       replace k0 := (Cel.set (Cel.set (Cel.set k0 0 (.bool gN)) 1 (.string gS)) 2 (.string gD))
       replace bc := (bset (bset (bset bc h0 0 (.bool gN)) h0 1 (.string gS)) h0 2 (.string gD))
       refine wpAnyH_done (by kernel_rfl) ?_ _
       go_wp2_with fail
       go_meet
       exact ⟨_, rfl, h0, k0, bc⟩
      have L4_ : Hid (∀ (w' : World) (hS : SP w'), wpAnyH Tryz.prog .any ops q SP 2 (ls 7 [0, 1, 2, 3, 4]) (fr undef (.agg #[.bool false, .string (E 0)]) (.agg #[.bool false, .string twS]) (.agg #[.bool false, .string bS]) (.agg #[.bool gN, .string gS, .string gD])) w') := by
       subst hops hq hSP hfr
       intro w' hS
       have bc := bcS.out _ hS
       dsimp only
       refine rdy [5] (by kernel_rfl) ?_
       refine AllReadyH.cons (o := _) rfl (fun K hK => ?_) AllReadyH.nil
       ·simp only [List.getElem_toArray, List.getElem_cons_succ, List.getElem_cons_zero]
        go_simp
        try go_wp2_with fail
        refine hK.out _ _ (mkS.out _ (ba bc _)) (fun hS => ?_)
        clear hK K
        exact lst (L4_0.out _ _ hS (Cel.new w' _ _) bc.size) (by kernel_rfl)
      have L3_0 : Hid (∀ (g0 : Nat) (w' : World) (hS : SP w') (k0 : Cel w' g0 [.bool false, .string { data := #[] }, .string { data := #[] }] 26) (h0 : w8.heap.size ≤ g0), wpAnyH Tryz.prog .any ops q SP 2 (ls 7 [0, 1, 2, 3, 5]) (fr (.pointer (some ⟨g0, 0, none⟩)) (.agg #[.bool false, .string (E 0)]) (.agg #[.bool false, .string twS]) (.agg #[.bool false, .string bS]) undef) w') := by
       clear L4_
       subst hops hq hSP hfr
       intro g0 w' hS k0 h0
       have bc := bcS.out _ hS
       dsimp only
       refine rdy [4] (by kernel_rfl) ?_
       refine AllReadyH.cons (o := _) rfl (fun K hK => ?_) AllReadyH.nil
       ·simp only [List.getElem_toArray, List.getElem_cons_succ, List.getElem_cons_zero]
        go_simp
        go_fit (HH.out _)
        rintro e wn ⟨rfl, bn⟩
        have bcn := Below.after bc bn
        try go_wp2_with fail
        refine hK.out _ _ (mkS.out _ bcn) (fun hS => ?_)
        clear hK K
        exact lst (L4_0.out g0 wn hS (k0.below bn) h0) (by kernel_rfl)
      have L3_ : Hid (∀ (w' : World) (hS : SP w'), wpAnyH Tryz.prog .any ops q SP 3 (ls 7 [0, 1, 2, 3]) (fr undef (.agg #[.bool false, .string (E 0)]) (.agg #[.bool false, .string twS]) (.agg #[.bool false, .string bS]) undef) w') := by
       clear L4_0
       subst hops hq hSP hfr
       intro w' hS
       have bc := bcS.out _ hS
       dsimp only
       refine rdy [4, 5] (by kernel_rfl) ?_
       refine AllReadyH.cons (o := _) rfl (fun K hK => ?_) (AllReadyH.cons (o := _) rfl (fun K hK => ?_) AllReadyH.nil)
       ·simp only [List.getElem_toArray, List.getElem_cons_succ, List.getElem_cons_zero]
        go_simp
        go_fit (HH.out _)
        rintro e wn ⟨rfl, bn⟩
        have bcn := Below.after bc bn
        try go_wp2_with fail
        refine hK.out _ _ (mkS.out _ bcn) (fun hS => ?_)
        clear hK K
        exact lst (L4_.out wn hS) (by kernel_rfl)
       ·simp only [List.getElem_toArray, List.getElem_cons_succ, List.getElem_cons_zero]
        go_simp
        try go_wp2_with fail
        refine hK.out _ _ (mkS.out _ (ba bc _)) (fun hS => ?_)
        clear hK K
        exact lst (L3_0.out _ _ hS (Cel.new w' _ _) bc.size) (by kernel_rfl)
      have L2_0 : Hid (∀ (g0 : Nat) (w' : World) (hS : SP w') (k0 : Cel w' g0 [.bool false, .string { data := #[] }, .string { data := #[] }] 26) (h0 : w8.heap.size ≤ g0), wpAnyH Tryz.prog .any ops q SP 3 (ls 7 [0, 1, 2, 5]) (fr (.pointer (some ⟨g0, 0, none⟩)) (.agg #[.bool false, .string (E 0)]) (.agg #[.bool false, .string twS]) undef undef) w') := by
       clear L4_0 L4_ L3_
       subst hops hq hSP hfr
       intro g0 w' hS k0 h0
       have bc := bcS.out _ hS
       dsimp only
       refine rdy [3] (by kernel_rfl) ?_
       refine AllReadyH.cons (o := _) rfl (fun K hK => ?_) AllReadyH.nil
       ·simp only [List.getElem_toArray, List.getElem_cons_succ, List.getElem_cons_zero]
        go_simp
        go_fit (HB.out _)
        rintro e wn ⟨rfl, bn⟩
        have bcn := Below.after bc bn
        try go_wp2_with fail
        refine hK.out _ _ (mkS.out _ bcn) (fun hS => ?_)
        clear hK K
        exact lst (L3_0.out g0 wn hS (k0.below bn) h0) (by kernel_rfl)
      have L2_ : Hid (∀ (w' : World) (hS : SP w'), wpAnyH Tryz.prog .any ops q SP 4 (ls 7 [0, 1, 2]) (fr undef (.agg #[.bool false, .string (E 0)]) (.agg #[.bool false, .string twS]) undef undef) w') := by
       clear L4_0 L4_ L3_0
       subst hops hq hSP hfr
       intro w' hS
       have bc := bcS.out _ hS
       dsimp only
       refine rdy [3, 5] (by kernel_rfl) ?_
       refine AllReadyH.cons (o := _) rfl (fun K hK => ?_) (AllReadyH.cons (o := _) rfl (fun K hK => ?_) AllReadyH.nil)
       ·simp only [List.getElem_toArray, List.getElem_cons_succ, List.getElem_cons_zero]
        go_simp
        go_fit (HB.out _)
        rintro e wn ⟨rfl, bn⟩
        have bcn := Below.after bc bn
        try go_wp2_with fail
        refine hK.out _ _ (mkS.out _ bcn) (fun hS => ?_)
        clear hK K
        exact lst (L3_.out wn hS) (by kernel_rfl)
       ·simp only [List.getElem_toArray, List.getElem_cons_succ, List.getElem_cons_zero]
        go_simp
        try go_wp2_with fail
        refine hK.out _ _ (mkS.out _ (ba bc _)) (fun hS => ?_)
        clear hK K
        exact lst (L2_0.out _ _ hS (Cel.new w' _ _) bc.size) (by kernel_rfl)
      have L1_0 : Hid (∀ (g0 : Nat) (w' : World) (hS : SP w') (k0 : Cel w' g0 [.bool false, .string { data := #[] }, .string { data := #[] }] 26) (h0 : w8.heap.size ≤ g0), wpAnyH Tryz.prog .any ops q SP 4 (ls 7 [0, 1, 5]) (fr (.pointer (some ⟨g0, 0, none⟩)) (.agg #[.bool false, .string (E 0)]) undef undef undef) w') := by
       clear L4_0 L4_ L3_0 L3_ L2_
       subst hops hq hSP hfr
       intro g0 w' hS k0 h0
       have bc := bcS.out _ hS
       dsimp only
       refine rdy [2] (by kernel_rfl) ?_
       refine AllReadyH.cons (o := _) rfl (fun K hK => ?_) AllReadyH.nil
       ·simp only [List.getElem_toArray, List.getElem_cons_succ, List.getElem_cons_zero]
        go_simp
        go_fit (H2.out _)
        rintro e wn ⟨rfl, bn⟩
        have bcn := Below.after bc bn
        try go_wp2_with fail
        refine hK.out _ _ (mkS.out _ bcn) (fun hS => ?_)
        clear hK K
        exact lst (L2_0.out g0 wn hS (k0.below bn) h0) (by kernel_rfl)
      have L1_ : Hid (∀ (w' : World) (hS : SP w'), wpAnyH Tryz.prog .any ops q SP 5 (ls 7 [0, 1]) (fr undef (.agg #[.bool false, .string (E 0)]) undef undef undef) w') := by
       clear L4_0 L4_ L3_0 L3_ L2_0
       subst hops hq hSP hfr
       intro w' hS
       have bc := bcS.out _ hS
       dsimp only
       refine rdy [2, 5] (by kernel_rfl) ?_
       refine AllReadyH.cons (o := _) rfl (fun K hK => ?_) (AllReadyH.cons (o := _) rfl (fun K hK => ?_) AllReadyH.nil)
       ·simp only [List.getElem_toArray, List.getElem_cons_succ, List.getElem_cons_zero]
        go_simp
        go_fit (H2.out _)
        rintro e wn ⟨rfl, bn⟩
        have bcn := Below.after bc bn
        try go_wp2_with fail
        refine hK.out _ _ (mkS.out _ bcn) (fun hS => ?_)
        clear hK K
        exact lst (L2_.out wn hS) (by kernel_rfl)
       ·simp only [List.getElem_toArray, List.getElem_cons_succ, List.getElem_cons_zero]
        go_simp
        try go_wp2_with fail
        refine hK.out _ _ (mkS.out _ (ba bc _)) (fun hS => ?_)
        clear hK K
        exact lst (L1_0.out _ _ hS (Cel.new w' _ _) bc.size) (by kernel_rfl)
      have L0_0 : Hid (∀ (g0 : Nat) (w' : World) (hS : SP w') (k0 : Cel w' g0 [.bool false, .string { data := #[] }, .string { data := #[] }] 26) (h0 : w8.heap.size ≤ g0), wpAnyH Tryz.prog .any ops q SP 5 (ls 7 [1, 5]) (fr (.pointer (some ⟨g0, 0, none⟩)) undef undef undef undef) w') := by
       clear L4_0 L4_ L3_0 L3_ L2_0 L2_ L1_
       subst hops hq hSP hfr
       intro g0 w' hS k0 h0
       have bc := bcS.out _ hS
       dsimp only
       refine rdy [0] (by kernel_rfl) ?_
       refine AllReadyH.cons (o := _) rfl (fun K hK => ?_) AllReadyH.nil
       ·simp only [List.getElem_toArray, List.getElem_cons_zero]
        go_simp
        go_fit (H1.out _)
        rintro e wn ⟨rfl, bn⟩
        have bcn := Below.after bc bn
        try go_wp2_with fail
        refine hK.out _ _ (mkS.out _ bcn) (fun hS => ?_)
        clear hK K
        exact lst (L1_0.out g0 wn hS (k0.below bn) h0) (by kernel_rfl)
      have L0_ : Hid (∀ (w' : World) (hS : SP w'), wpAnyH Tryz.prog .any ops q SP 6 (ls 7 [1]) (fr undef undef undef undef undef) w') := by
       clear L4_0 L4_ L3_0 L3_ L2_0 L2_ L1_0
       subst hops hq hSP hfr
       intro w' hS
       have bc := bcS.out _ hS
       dsimp only
       refine rdy [0, 5] (by kernel_rfl) ?_
       refine AllReadyH.cons (o := _) rfl (fun K hK => ?_) (AllReadyH.cons (o := _) rfl (fun K hK => ?_) AllReadyH.nil)
       ·simp only [List.getElem_toArray, List.getElem_cons_zero]
        go_simp
        go_fit (H1.out _)
        rintro e wn ⟨rfl, bn⟩
        have bcn := Below.after bc bn
        try go_wp2_with fail
        refine hK.out _ _ (mkS.out _ bcn) (fun hS => ?_)
        clear hK K
        exact lst (L1_.out wn hS) (by kernel_rfl)
       ·simp only [List.getElem_toArray, List.getElem_cons_succ, List.getElem_cons_zero]
        go_simp
        try go_wp2_with fail
        refine hK.out _ _ (mkS.out _ (ba bc _)) (fun hS => ?_)
        clear hK K
        exact lst (L0_0.out _ _ hS (Cel.new w' _ _) bc.size) (by kernel_rfl)
      clear L4_0 L4_ L3_0 L3_ L2_0 L2_ L1_0 L1_ L0_0
      subst hops hq hSP hfr
      refine wpAnyH_take (i := 1) (oi := _) (v := ?_) rfl (by kernel_rfl) (by kernel_rfl) (by kernel_rfl) (fun _ _ _ h => h) (Or.inl ⟨by rfl, ?_⟩) (by assumption) ?_
      rotate_left
      ·(intro w hSw; (try dsimp only at hSw); go_simp; try with_reducible rfl)
      try simp only [Act.put, List.getElem_toArray, List.getElem_cons_succ, List.getElem_cons_zero, List.setIfInBounds_toArray, List.set_cons_zero, List.set_cons_succ]
      exact lst (L0_.out _ (mkS.out _ (bdrew _))) (by kernel_rfl)
     case rest =>
     obtain ⟨gh, rfl, lh, kh, b1⟩ := hcut
     clear mkS bcS
     have sz := b1.size
     replace ka := ka.below b1
     replace ke := ke.below b1
     replace kf := kf.below b1
     replace bb := Below.after bb b1
     clear b1
     have th := kh.lt
     clear H1 H2 HB HH
     have cf_0 := cel3_0 kf
     have cf_1 := cel3_1 kf
     have cf_2 := cel3_2 kf
     have ch_3 := cel3_0 kh
     have ch_4 := cel3_1 kh
     have ch_5 := cel3_2 kh
     go_wp2_with fail
     clear cf_0 cf_1 cf_2 ch_3 ch_4 ch_5
     go_fit (HO.out _)
     rintro e w9 ⟨rfl, b1⟩
     have sz := b1.size
     replace ka := ka.below b1
     replace ke := ke.below b1
     replace kf := kf.below b1
     replace kh := kh.below b1
     replace bb := Below.after bb b1
     clear b1
     clear HO
     go_wp2_with fail
     go_fit (HL.out _ bb)
     rintro e w10 ⟨rfl, b1⟩
     have sz := b1.size
     replace ka := ka.below b1
     replace ke := ke.below b1
     replace kf := kf.below b1
     replace kh := kh.below b1
     replace bb := Below.after bb b1
     clear b1
     go_wp2
     go_ret
     exact ⟨rfl, bb⟩
end Go.Proofs.YtdbnkcimcpnpdaaGreatDoor
