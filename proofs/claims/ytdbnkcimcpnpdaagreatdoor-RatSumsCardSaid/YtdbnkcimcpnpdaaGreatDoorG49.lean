/-
  gussetlaw03: fine.
-/
import Derived.Test.YtdbnkcimcpnpdaaGreatDoorG27
import Derived.Test.YtdbnkcimcpnpdaaGreatDoorG33
import Derived.Test.YtdbnkcimcpnpdaaGreatDoorG36
namespace Go.Proofs.YtdbnkcimcpnpdaaGreatDoor
open Go.RowKit Go.Shelf

set_option maxRecDepth 100000 in
set_option maxHeartbeats 4000000 in
theorem fine_0 (n0 n1 : Bool) (s0 d0 s1 d1 : ByteArray) (w : World)
  (S0 : Hid (∀ w1, Calls Tryz.prog 34 #[.agg #[.bool n0, .string s0, .string d0]] w1 fun e w' => e = .returned (.bool false) ∧ Below w1.heap.size w1 w')) :
  Calls Tryz.prog 9 #[.agg #[.bool n0, .string s0, .string d0], .agg #[.bool n1, .string s1, .string d1]] w fun e w' => e = .returned (.bool false) ∧ Below w.heap.size w w' := by
 go_enter Tryz.func9, Tryz.ntmps9
 go_wp2_with fail
 go_fit (S0.out _)
 rintro e w1 ⟨rfl, b1⟩
 obtain ⟨ka, kb, b1⟩ := al2 b1
 have sz := b1.size
 have bb := b1
 clear b1
 have ta := ka.lt
 have tb := kb.lt
 clear ta tb
 have ca_0 := cel3_0 ka
 have ca_1 := cel3_1 ka
 have ca_2 := cel3_2 ka
 have cb_3 := cel3_0 kb
 have cb_4 := cel3_1 kb
 have cb_5 := cel3_2 kb
 go_wp2
 go_ret
 exact ⟨rfl, bb⟩
set_option maxRecDepth 100000 in
set_option maxHeartbeats 4000000 in
theorem fine_1 (n0 n1 : Bool) (s0 d0 s1 d1 : ByteArray) (w : World)
  (S0 : Hid (∀ w1, Calls Tryz.prog 34 #[.agg #[.bool n0, .string s0, .string d0]] w1 fun e w' => e = .returned (.bool true) ∧ Below w1.heap.size w1 w'))
  (S1 : Hid (∀ w1, Calls Tryz.prog 34 #[.agg #[.bool n1, .string s1, .string d1]] w1 fun e w' => e = .returned (.bool false) ∧ Below w1.heap.size w1 w')) :
  Calls Tryz.prog 9 #[.agg #[.bool n0, .string s0, .string d0], .agg #[.bool n1, .string s1, .string d1]] w fun e w' => e = .returned (.bool false) ∧ Below w.heap.size w w' := by
 go_enter Tryz.func9, Tryz.ntmps9
 go_wp2_with fail
 go_fit (S0.out _)
 rintro e w1 ⟨rfl, b1⟩
 obtain ⟨ka, kb, b1⟩ := al2 b1
 have sz := b1.size
 have bb := b1
 clear b1
 have ta := ka.lt
 have tb := kb.lt
 clear ta tb
 have ca_0 := cel3_0 ka
 have ca_1 := cel3_1 ka
 have ca_2 := cel3_2 ka
 have cb_3 := cel3_0 kb
 have cb_4 := cel3_1 kb
 have cb_5 := cel3_2 kb
 go_wp2_with fail
 clear ca_0 ca_1 ca_2 cb_3 cb_4 cb_5
 go_fit (S1.out _)
 rintro e w2 ⟨rfl, b1⟩
 have sz := b1.size
 replace ka := ka.below b1
 replace kb := kb.below b1
 replace bb := Below.after bb b1
 clear b1
 have ca_0 := cel3_0 ka
 have ca_1 := cel3_1 ka
 have ca_2 := cel3_2 ka
 have cb_3 := cel3_0 kb
 have cb_4 := cel3_1 kb
 have cb_5 := cel3_2 kb
 go_wp2
 go_ret
 exact ⟨rfl, bb⟩
set_option maxRecDepth 100000 in
set_option maxHeartbeats 4000000 in
theorem fine_2 (n0 n1 : Bool) (s0 d0 s1 d1 : ByteArray) (c : Int) (hc : ¬ c = 0) (w : World)
  (S0 : Hid (∀ w1, Calls Tryz.prog 34 #[.agg #[.bool n0, .string s0, .string d0]] w1 fun e w' => e = .returned (.bool true) ∧ Below w1.heap.size w1 w'))
  (S1 : Hid (∀ w1, Calls Tryz.prog 34 #[.agg #[.bool n1, .string s1, .string d1]] w1 fun e w' => e = .returned (.bool true) ∧ Below w1.heap.size w1 w'))
  (H0 : Hid (∀ w1, Calls Tryz.prog 35 #[.agg #[.bool n0, .string s0, .string d0], .agg #[.bool n1, .string s1, .string d1]] w1 fun e w' => e = .returned (.int .i64 c) ∧ Below w1.heap.size w1 w')) :
  Calls Tryz.prog 9 #[.agg #[.bool n0, .string s0, .string d0], .agg #[.bool n1, .string s1, .string d1]] w fun e w' => e = .returned (.bool false) ∧ Below w.heap.size w w' := by
 go_enter Tryz.func9, Tryz.ntmps9
 go_wp2_with fail
 go_fit (S0.out _)
 rintro e w1 ⟨rfl, b1⟩
 obtain ⟨ka, kb, b1⟩ := al2 b1
 have sz := b1.size
 have bb := b1
 clear b1
 have ta := ka.lt
 have tb := kb.lt
 clear ta tb
 have ca_0 := cel3_0 ka
 have ca_1 := cel3_1 ka
 have ca_2 := cel3_2 ka
 have cb_3 := cel3_0 kb
 have cb_4 := cel3_1 kb
 have cb_5 := cel3_2 kb
 go_wp2_with fail
 clear ca_0 ca_1 ca_2 cb_3 cb_4 cb_5
 go_fit (S1.out _)
 rintro e w2 ⟨rfl, b1⟩
 have sz := b1.size
 replace ka := ka.below b1
 replace kb := kb.below b1
 replace bb := Below.after bb b1
 clear b1
 have ca_0 := cel3_0 ka
 have ca_1 := cel3_1 ka
 have ca_2 := cel3_2 ka
 have cb_3 := cel3_0 kb
 have cb_4 := cel3_1 kb
 have cb_5 := cel3_2 kb
 go_wp2_with fail
 clear ca_0 ca_1 ca_2 cb_3 cb_4 cb_5
 go_fit (H0.out _)
 rintro e w3 ⟨rfl, b1⟩
 have sz := b1.size
 replace ka := ka.below b1
 replace kb := kb.below b1
 replace bb := Below.after bb b1
 clear b1
 have ca_0 := cel3_0 ka
 have ca_1 := cel3_1 ka
 have ca_2 := cel3_2 ka
 have cb_3 := cel3_0 kb
 have cb_4 := cel3_1 kb
 have cb_5 := cel3_2 kb
 go_wp2
 go_ret
 exact ⟨by simp [hc], bb⟩
set_option maxRecDepth 100000 in
set_option maxHeartbeats 4000000 in
theorem fine_ok (n0 n1 : Bool) (s0 d0 s1 d1 : ByteArray) (w : World)
  (S0 : Hid (∀ w1, Calls Tryz.prog 34 #[.agg #[.bool n0, .string s0, .string d0]] w1 fun e w' => e = .returned (.bool true) ∧ Below w1.heap.size w1 w'))
  (S1 : Hid (∀ w1, Calls Tryz.prog 34 #[.agg #[.bool n1, .string s1, .string d1]] w1 fun e w' => e = .returned (.bool true) ∧ Below w1.heap.size w1 w'))
  (H0 : Hid (∀ w1, Calls Tryz.prog 35 #[.agg #[.bool n0, .string s0, .string d0], .agg #[.bool n1, .string s1, .string d1]] w1 fun e w' => e = .returned (.int .i64 0) ∧ Below w1.heap.size w1 w')) :
  Calls Tryz.prog 9 #[.agg #[.bool n0, .string s0, .string d0], .agg #[.bool n1, .string s1, .string d1]] w fun e w' => e = .returned (.bool true) ∧ Below w.heap.size w w' := by
 go_enter Tryz.func9, Tryz.ntmps9
 go_wp2_with fail
 go_fit (S0.out _)
 rintro e w1 ⟨rfl, b1⟩
 obtain ⟨ka, kb, b1⟩ := al2 b1
 have sz := b1.size
 have bb := b1
 clear b1
 have ta := ka.lt
 have tb := kb.lt
 clear ta tb
 have ca_0 := cel3_0 ka
 have ca_1 := cel3_1 ka
 have ca_2 := cel3_2 ka
 have cb_3 := cel3_0 kb
 have cb_4 := cel3_1 kb
 have cb_5 := cel3_2 kb
 go_wp2_with fail
 clear ca_0 ca_1 ca_2 cb_3 cb_4 cb_5
 go_fit (S1.out _)
 rintro e w2 ⟨rfl, b1⟩
 have sz := b1.size
 replace ka := ka.below b1
 replace kb := kb.below b1
 replace bb := Below.after bb b1
 clear b1
 have ca_0 := cel3_0 ka
 have ca_1 := cel3_1 ka
 have ca_2 := cel3_2 ka
 have cb_3 := cel3_0 kb
 have cb_4 := cel3_1 kb
 have cb_5 := cel3_2 kb
 go_wp2_with fail
 clear ca_0 ca_1 ca_2 cb_3 cb_4 cb_5
 go_fit (H0.out _)
 rintro e w3 ⟨rfl, b1⟩
 have sz := b1.size
 replace ka := ka.below b1
 replace kb := kb.below b1
 replace bb := Below.after bb b1
 clear b1
 have ca_0 := cel3_0 ka
 have ca_1 := cel3_1 ka
 have ca_2 := cel3_2 ka
 have cb_3 := cel3_0 kb
 have cb_4 := cel3_1 kb
 have cb_5 := cel3_2 kb
 go_wp2
 go_ret
 exact ⟨rfl, bb⟩

end Go.Proofs.YtdbnkcimcpnpdaaGreatDoor
