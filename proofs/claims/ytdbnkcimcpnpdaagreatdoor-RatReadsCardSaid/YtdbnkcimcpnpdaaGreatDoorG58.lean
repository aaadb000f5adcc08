/-
  Package rat: Parse, walked; gussetref03: Text, walked.
-/
import Derived.Shelf.Strings.Cut
import Derived.Shelf.Vars
import Derived.Test.YtdbnkcimcpnpdaaGreatDoorG45
namespace Go.Proofs.YtdbnkcimcpnpdaaGreatDoor
open Go.RowKit Go.Shelf

set_option maxRecDepth 100000 in
set_option maxHeartbeats 4000000 in
theorem qparse_cut (nN rN : Bool) (s o u nS dS rS rD : ByteArray) (hd : dS.toList.isEmpty = false) (w : World)
  (HC : Hid (∀ w1, Below w.heap.size w w1 → Calls Tryz.prog 53 #[.string s, .string ⟨#[47]⟩] w1 fun e w' => e = .returned (.tuple #[.string o, .string u, .bool true]) ∧ Below w1.heap.size w1 w'))
  (HN : Hid (∀ w1, Calls Tryz.prog 54 #[.string o] w1 fun e w' => e = .returned (.tuple #[.agg #[.bool nN, .string nS], .int .i64 0]) ∧ Below w1.heap.size w1 w'))
  (HD : Hid (∀ w1, Calls Tryz.prog 54 #[.string u] w1 fun e w' => e = .returned (.tuple #[.agg #[.bool false, .string dS], .int .i64 0]) ∧ Below w1.heap.size w1 w'))
  (HM : Hid (∀ w1, Below w.heap.size w w1 → Calls Tryz.prog 36 #[.agg #[.bool nN, .string nS], .agg #[.bool false, .string dS]] w1 fun e w' => e = .returned (.tuple #[.agg #[.bool rN, .string rS, .string rD], .int .i64 0]) ∧ Below w1.heap.size w1 w')) :
  Calls Tryz.prog 23 #[.string s] w fun e w' => e = .returned (.tuple #[.agg #[.bool rN, .string rS, .string rD], .int .i64 0]) ∧ Below w.heap.size w w' := by
 go_enter Tryz.func23, Tryz.ntmps23
 go_wp2_with fail
 go_fit (HC.out _ (ba (Below.refl _ _) _))
 rintro e w1 ⟨rfl, b1⟩
 obtain ⟨kr, b1⟩ := al1 b1
 have sz := b1.size
 have bb := b1
 clear b1
 have tr := kr.lt
 go_wp2_with fail
 go_fit (HN.out _)
 rintro e w2 ⟨rfl, b1⟩
 have sz := b1.size
 replace kr := kr.below b1
 replace bb := Below.after bb b1
 clear b1
 go_wp2_with fail
 go_fit (HD.out _)
 rintro e w3 ⟨rfl, b1⟩
 obtain ⟨kn, b1⟩ := al1 b1
 have sz := b1.size
 replace kr := kr.below b1
 replace bb := Below.after bb b1
 clear b1
 have tn := kn.lt
 have cn_0 := cel2_0' kn
 have cn_1 := cel2_1' kn
 have cn_2 := cel2_0' (kn.alloc (.cells #[.bool false, .string dS] 24))
 have cn_3 := cel2_1' (kn.alloc (.cells #[.bool false, .string dS] 24))
 go_wp2_with fail
 clear cn_0 cn_1 cn_2 cn_3
 go_fit (HM.out _ (ba bb _))
 rintro e w4 ⟨rfl, b1⟩
 obtain ⟨kd, b1⟩ := al1 b1
 have sz := b1.size
 replace kr := kr.below b1
 replace kn := kn.below b1
 replace bb := Below.after bb b1
 clear b1
 have td := kd.lt
 have cr_0 := cel3_0 kr
 have fr_1 := Cel.frozen kr 0
 have cr_2 := cel3_1 kr
 have fr_3 := Cel.frozen kr 1
 have cr_4 := cel3_2 kr
 have fr_5 := Cel.frozen kr 2
 go_wp2
 exact post_q1 (p := 2) (u := 3) (by kernel_rfl) rfl rfl rfl (((kr.set 0 _).set 1 _).set 2 _) ⟨rfl, bset (bset (bset bb (by omega) 0 _) (by omega) 1 _) (by omega) 2 _⟩
set_option maxRecDepth 100000 in
set_option maxHeartbeats 4000000 in
theorem qparse_one (nN rN : Bool) (s o u nS dS rS rD : ByteArray) (hd : dS.toList.isEmpty = false) (w : World)
  (HC : Hid (∀ w1, Below w.heap.size w w1 → Calls Tryz.prog 53 #[.string s, .string ⟨#[47]⟩] w1 fun e w' => e = .returned (.tuple #[.string o, .string u, .bool false]) ∧ Below w1.heap.size w1 w'))
  (HN : Hid (∀ w1, Calls Tryz.prog 54 #[.string o] w1 fun e w' => e = .returned (.tuple #[.agg #[.bool nN, .string nS], .int .i64 0]) ∧ Below w1.heap.size w1 w'))
  (HD : Hid (∀ w1, Calls Tryz.prog 54 #[.string ⟨#[49]⟩] w1 fun e w' => e = .returned (.tuple #[.agg #[.bool false, .string dS], .int .i64 0]) ∧ Below w1.heap.size w1 w'))
  (HM : Hid (∀ w1, Below w.heap.size w w1 → Calls Tryz.prog 36 #[.agg #[.bool nN, .string nS], .agg #[.bool false, .string dS]] w1 fun e w' => e = .returned (.tuple #[.agg #[.bool rN, .string rS, .string rD], .int .i64 0]) ∧ Below w1.heap.size w1 w')) :
  Calls Tryz.prog 23 #[.string s] w fun e w' => e = .returned (.tuple #[.agg #[.bool rN, .string rS, .string rD], .int .i64 0]) ∧ Below w.heap.size w w' := by
 go_enter Tryz.func23, Tryz.ntmps23
 go_wp2_with fail
 go_fit (HC.out _ (ba (Below.refl _ _) _))
 rintro e w1 ⟨rfl, b1⟩
 obtain ⟨kr, b1⟩ := al1 b1
 have sz := b1.size
 have bb := b1
 clear b1
 have tr := kr.lt
 go_wp2_with fail
 go_fit (HN.out _)
 rintro e w2 ⟨rfl, b1⟩
 have sz := b1.size
 replace kr := kr.below b1
 replace bb := Below.after bb b1
 clear b1
 go_wp2_with fail
 go_fit (HD.out _)
 rintro e w3 ⟨rfl, b1⟩
 obtain ⟨kn, b1⟩ := al1 b1
 have sz := b1.size
 replace kr := kr.below b1
 replace bb := Below.after bb b1
 clear b1
 have tn := kn.lt
 have cn_0 := cel2_0' kn
 have cn_1 := cel2_1' kn
 have cn_2 := cel2_0' (kn.alloc (.cells #[.bool false, .string dS] 24))
 have cn_3 := cel2_1' (kn.alloc (.cells #[.bool false, .string dS] 24))
 go_wp2_with fail
 clear cn_0 cn_1 cn_2 cn_3
 go_fit (HM.out _ (ba bb _))
 rintro e w4 ⟨rfl, b1⟩
 obtain ⟨kd, b1⟩ := al1 b1
 have sz := b1.size
 replace kr := kr.below b1
 replace kn := kn.below b1
 replace bb := Below.after bb b1
 clear b1
 have td := kd.lt
 have cr_0 := cel3_0 kr
 have fr_1 := Cel.frozen kr 0
 have cr_2 := cel3_1 kr
 have fr_3 := Cel.frozen kr 1
 have cr_4 := cel3_2 kr
 have fr_5 := Cel.frozen kr 2
 go_wp2
 exact post_q1 (p := 2) (u := 3) (by kernel_rfl) rfl rfl rfl (((kr.set 0 _).set 1 _).set 2 _) ⟨rfl, bset (bset (bset bb (by omega) 0 _) (by omega) 1 _) (by omega) 2 _⟩
set_option maxRecDepth 100000 in
set_option maxHeartbeats 4000000 in
theorem rtextq_one (n0 : Bool) (s0 d0 t : ByteArray) (h : (d0.toList == [1]) = true) (w : World)
  (H1 : Hid (∀ w1, Calls Tryz.prog 59 #[.agg #[.bool n0, .string s0]] w1 fun e w' => e = .returned (.string t) ∧ Below w1.heap.size w1 w')) :
  Calls Tryz.prog 27 #[.agg #[.bool n0, .string s0, .string d0]] w fun e w' => e = .returned (.string t) ∧ Below w.heap.size w w' := by
 go_enter Tryz.func27, Tryz.ntmps27
 go_wp2_with fail
 go_fit (H1.out _)
 rintro e w1 ⟨rfl, b1⟩
 obtain ⟨ka, b1⟩ := al1 b1
 have sz := b1.size
 have bb := b1
 clear b1
 have ta := ka.lt
 have ca_0 := cel3_0 ka
 have ca_1 := cel3_1 ka
 have ca_2 := cel3_2 ka
 go_wp2
 go_ret
 exact ⟨rfl, bb⟩
set_option maxRecDepth 100000 in
set_option maxHeartbeats 4000000 in
theorem rtextq_two (n0 : Bool) (s0 d0 t v : ByteArray) (h : (d0.toList == [1]) = false) (ht : t.size ≤ 10000) (hv : v.size ≤ 10000) (w : World)
  (H1 : Hid (∀ w1, Calls Tryz.prog 59 #[.agg #[.bool n0, .string s0]] w1 fun e w' => e = .returned (.string t) ∧ Below w1.heap.size w1 w'))
  (H2 : Hid (∀ w1, Calls Tryz.prog 59 #[.agg #[.bool false, .string d0]] w1 fun e w' => e = .returned (.string v) ∧ Below w1.heap.size w1 w')) :
  Calls Tryz.prog 27 #[.agg #[.bool n0, .string s0, .string d0]] w fun e w' => e = .returned (.string ((t ++ ⟨#[47]⟩) ++ v)) ∧ Below w.heap.size w w' := by
 go_enter Tryz.func27, Tryz.ntmps27
 go_wp2_with fail
 go_fit (H1.out _)
 rintro e w1 ⟨rfl, b1⟩
 obtain ⟨ka, b1⟩ := al1 b1
 have sz := b1.size
 have bb := b1
 clear b1
 have ta := ka.lt
 have ca_0 := cel3_0 ka
 have ca_1 := cel3_1 ka
 have ca_2 := cel3_2 ka
 go_wp2_with fail
 clear ca_0 ca_1 ca_2
 go_fit (rden_any _ _ _ _)
 rintro e w2 ⟨rfl, b1⟩
 have sz := b1.size
 replace ka := ka.below b1
 replace bb := Below.after bb b1
 clear b1
 go_wp2_with fail
 go_fit (H2.out _)
 rintro e w3 ⟨rfl, b1⟩
 have sz := b1.size
 replace ka := ka.below b1
 replace bb := Below.after bb b1
 clear b1
 go_wp2
 go_ret
 exact ⟨rfl, bb⟩
end Go.Proofs.YtdbnkcimcpnpdaaGreatDoor
