/-
  strings.Cut around one sign, for a text of any length.
  Package rat: Parse, walked; gussetref03: Text, walked.
  Package rat: Parse of what Print prints; gussetref03.Text of any number.
  Package rat: Parse of what is refused, walked.
  gussetref03: Parse, walked.
  Both read the same number out of any text, or refuse it alike.
-/
import Derived.Test.YtnplifkgeeicjaaGreatDoorU34
import Derived.Test.YtnplifkgeeicjaaGreatDoorU40
set_option maxRecDepth 100000
set_option maxHeartbeats 8000000
namespace Go.Proofs.YtnplifkgeeicjaaGreatDoor
open Go.RowKit Go.Shelf
theorem index_one' (s : ByteArray) (w : World) :
  Calls Tryz.prog 269 #[.string s, .string ⟨#[47]⟩] w fun e w' => e = .returned (.int .i64 (Lib.index s.data.toList [47])) ∧ w' = w := by
 rw [Lib.index_one]
 exact Any.stringslite_Index_one (ρ := lays145_ren) { lays145 with } s 47 w
theorem slcut_none (s : ByteArray) (w : World) (h : Lib.index s.data.toList [47] = -1) :
  Calls Tryz.prog 245 #[.string s, .string ⟨#[47]⟩] w (Re w (.tuple #[.string s, .string ⟨#[]⟩, .bool false])) := by
 have H := index_one' s
 rw [h] at H
 replace H := shut H
 clear h
 go_enter Tryz.func245, Tryz.ntmps245
 go_wp2_with fail
 go_fit (H.out _)
 rintro e w1 ⟨rfl, rfl⟩
 go_wp2
 go_ret3
 exact ⟨rfl, Below.refl _ _⟩
theorem slcut_hit (s : ByteArray) (i : Nat) (w : World) (h : Lib.index s.data.toList [47] = (i : Int)) (hi : i + 1 ≤ s.size) (hz : s.size ≤ 9223372036854775807) :
  Calls Tryz.prog 245 #[.string s, .string ⟨#[47]⟩] w (Re w (.tuple #[.string (s.extract 0 i), .string (s.extract (i + 1) s.size), .bool true])) := by
 have H := index_one' s
 rw [h] at H
 replace H := shut H
 have c1 : (0 : Int) ≤ (i : Int) := by omega
 have c2 : (i : Int) ≤ (s.size : Int) := by omega
 have c3 : (0 : Int) ≤ (i : Int) + 1 := by omega
 have c4 : (i : Int) + 1 ≤ (s.size : Int) := by omega
 have c5 : (s.size : Int) ≤ 9223372036854775807 := by omega
 clear h
 go_enter Tryz.func245, Tryz.ntmps245
 go_wp2_with fail
 go_fit (H.out _)
 rintro e w1 ⟨rfl, rfl⟩
 go_wp2_with fail
 go_quiet (fail)
 go_wp2
 go_ret3
 exact ⟨rfl, below_drewN (Below.refl _ _) _⟩
theorem scut1_none (s : ByteArray) (w : World) (h : Lib.index s.data.toList [47] = -1) :
  Calls Tryz.prog 215 #[.string s, .string ⟨#[47]⟩] w (Re w (.tuple #[.string s, .string ⟨#[]⟩, .bool false])) := by
 have H := shut (fun w => slcut_none s w h)
 clear h
 go_enter Tryz.func215, Tryz.ntmps215
 go_wp2_with fail
 go_fit (H.out _)
 rintro e w1 ⟨rfl, b1⟩
 go_wp2
 go_ret3
 exact ⟨rfl, b1⟩
theorem scut1_hit (s : ByteArray) (i : Nat) (w : World) (h : Lib.index s.data.toList [47] = (i : Int)) (hi : i + 1 ≤ s.size) (hz : s.size ≤ 9223372036854775807) :
  Calls Tryz.prog 215 #[.string s, .string ⟨#[47]⟩] w (Re w (.tuple #[.string (s.extract 0 i), .string (s.extract (i + 1) s.size), .bool true])) := by
 have H := shut (fun w => slcut_hit s i w h hi hz)
 clear h
 go_enter Tryz.func215, Tryz.ntmps215
 go_wp2_with fail
 go_fit (H.out _)
 rintro e w1 ⟨rfl, b1⟩
 go_wp2
 go_ret3
 exact ⟨rfl, b1⟩
end Go.Proofs.YtnplifkgeeicjaaGreatDoor
namespace Go.Proofs.YtnplifkgeeicjaaGreatDoor
open Go.RowKit Go.Shelf
theorem qparse_cut (nN rN : Bool) (s o u nS dS rS rD : ByteArray) (hd : dS.toList.isEmpty = false) (w : World)
  (HC : Hid (∀ w1, Below w.heap.size w w1 → Calls Tryz.prog 215 #[.string s, .string ⟨#[47]⟩] w1 (Re w1 (.tuple #[.string o, .string u, .bool true]))))
  (HN : Hid (∀ w1, Calls Tryz.prog 216 #[.string o] w1 (Re w1 (.tuple #[.agg #[.bool nN, .string nS], .int .i64 0]))))
  (HD : Hid (∀ w1, Calls Tryz.prog 216 #[.string u] w1 (Re w1 (.tuple #[.agg #[.bool false, .string dS], .int .i64 0]))))
  (HM : Hid (∀ w1, Below w.heap.size w w1 → Calls Tryz.prog 217 #[.agg #[.bool nN, .string nS], .agg #[.bool false, .string dS]] w1 (Re w1 (.tuple #[(qa1 rN rS rD), .int .i64 0])))) :
  Calls Tryz.prog 184 #[.string s] w (Re w (.tuple #[(qa1 rN rS rD), .int .i64 0])) := by
 go_enter Tryz.func184, Tryz.ntmps184
 go_wp2_with fail
 go_fit (HC.out _ (ba (Below.refl _ _) _))
 rintro e w1 ⟨rfl, b1⟩
 obtain ⟨kr, b1⟩ := al1 b1
 have sz := b1.size
 have bb := b1
 clear b1
 have tr := kr.lt
 go_wp2_with fail
 go_fit (HN.out _)
 rintro e w2 ⟨rfl, b1⟩
 have sz := b1.size
 replace kr := kr.below b1
 replace bb := Below.after bb b1
 clear b1
 go_wp2_with fail
 go_fit (HD.out _)
 rintro e w3 ⟨rfl, b1⟩
 obtain ⟨kn, b1⟩ := al1 b1
 have sz := b1.size
 replace kr := kr.below b1
 replace bb := Below.after bb b1
 clear b1
 have tn := kn.lt
 obtain ⟨cn_0, cn_1⟩ := xk2 kn
 obtain ⟨cn_2, cn_3⟩ := xk2 (kn.alloc (.cells #[.bool false, .string dS] 24))
 go_wp2_with fail
 clear cn_0 cn_1 cn_2 cn_3
 go_fit (HM.out _ (ba bb _))
 rintro e w4 ⟨rfl, b1⟩
 obtain ⟨kd, b1⟩ := al1 b1
 have sz := b1.size
 replace kr := kr.below b1
 replace kn := kn.below b1
 replace bb := Below.after bb b1
 clear b1
 have td := kd.lt
 have cr_0 := cel3_0 kr
 have fr_1 := Cel.frozen kr 0
 have cr_2 := cel3_1 kr
 have fr_3 := Cel.frozen kr 1
 have cr_4 := cel3_2 kr
 have fr_5 := Cel.frozen kr 2
 go_wp2
 exact post_q1 (p := 2) (u := 3) (by kernel_rfl) rfl rfl rfl (((kr.set 0 _).set 1 _).set 2 _) ⟨rfl, bset (bset (bset bb (by omega) 0 _) (by omega) 1 _) (by omega) 2 _⟩
theorem qparse_one (nN rN : Bool) (s o u nS dS rS rD : ByteArray) (hd : dS.toList.isEmpty = false) (w : World)
  (HC : Hid (∀ w1, Below w.heap.size w w1 → Calls Tryz.prog 215 #[.string s, .string ⟨#[47]⟩] w1 (Re w1 (.tuple #[.string o, .string u, .bool false]))))
  (HN : Hid (∀ w1, Calls Tryz.prog 216 #[.string o] w1 (Re w1 (.tuple #[.agg #[.bool nN, .string nS], .int .i64 0]))))
  (HD : Hid (∀ w1, Calls Tryz.prog 216 #[.string ⟨#[49]⟩] w1 (Re w1 (.tuple #[.agg #[.bool false, .string dS], .int .i64 0]))))
  (HM : Hid (∀ w1, Below w.heap.size w w1 → Calls Tryz.prog 217 #[.agg #[.bool nN, .string nS], .agg #[.bool false, .string dS]] w1 (Re w1 (.tuple #[(qa1 rN rS rD), .int .i64 0])))) :
  Calls Tryz.prog 184 #[.string s] w (Re w (.tuple #[(qa1 rN rS rD), .int .i64 0])) := by
 go_enter Tryz.func184, Tryz.ntmps184
 go_wp2_with fail
 go_fit (HC.out _ (ba (Below.refl _ _) _))
 rintro e w1 ⟨rfl, b1⟩
 obtain ⟨kr, b1⟩ := al1 b1
 have sz := b1.size
 have bb := b1
 clear b1
 have tr := kr.lt
 go_wp2_with fail
 go_fit (HN.out _)
 rintro e w2 ⟨rfl, b1⟩
 have sz := b1.size
 replace kr := kr.below b1
 replace bb := Below.after bb b1
 clear b1
 go_wp2_with fail
 go_fit (HD.out _)
 rintro e w3 ⟨rfl, b1⟩
 obtain ⟨kn, b1⟩ := al1 b1
 have sz := b1.size
 replace kr := kr.below b1
 replace bb := Below.after bb b1
 clear b1
 have tn := kn.lt
 obtain ⟨cn_0, cn_1⟩ := xk2 kn
 obtain ⟨cn_2, cn_3⟩ := xk2 (kn.alloc (.cells #[.bool false, .string dS] 24))
 go_wp2_with fail
 clear cn_0 cn_1 cn_2 cn_3
 go_fit (HM.out _ (ba bb _))
 rintro e w4 ⟨rfl, b1⟩
 obtain ⟨kd, b1⟩ := al1 b1
 have sz := b1.size
 replace kr := kr.below b1
 replace kn := kn.below b1
 replace bb := Below.after bb b1
 clear b1
 have td := kd.lt
 have cr_0 := cel3_0 kr
 have fr_1 := Cel.frozen kr 0
 have cr_2 := cel3_1 kr
 have fr_3 := Cel.frozen kr 1
 have cr_4 := cel3_2 kr
 have fr_5 := Cel.frozen kr 2
 go_wp2
 exact post_q1 (p := 2) (u := 3) (by kernel_rfl) rfl rfl rfl (((kr.set 0 _).set 1 _).set 2 _) ⟨rfl, bset (bset (bset bb (by omega) 0 _) (by omega) 1 _) (by omega) 2 _⟩
theorem rtextq_one (n0 : Bool) (s0 d0 t : ByteArray) (h : (d0.toList == [1]) = true) (w : World)
  (H1 : Hid (∀ w1, Calls Tryz.prog 109 #[.agg #[.bool n0, .string s0]] w1 (Re w1 (.string t)))) :
  Calls Tryz.prog 56 #[(qa1 n0 s0 d0)] w (Re w (.string t)) := by
 go_enter Tryz.func56, Tryz.ntmps56
 go_wp2_with fail
 go_fit (H1.out _)
 rintro e w1 ⟨rfl, b1⟩
 obtain ⟨ka, b1⟩ := al1 b1
 have sz := b1.size
 have bb := b1
 clear b1
 have ta := ka.lt
 obtain ⟨ca_0, ca_1, ca_2⟩ := xk3 ka
 go_wp2
 go_ret
 exact ⟨rfl, bb⟩
theorem rtextq_two (n0 : Bool) (s0 d0 t v : ByteArray) (h : (d0.toList == [1]) = false) (ht : t.size ≤ 10000) (hv : v.size ≤ 10000) (w : World)
  (H1 : Hid (∀ w1, Calls Tryz.prog 109 #[.agg #[.bool n0, .string s0]] w1 (Re w1 (.string t))))
  (H2 : Hid (∀ w1, Calls Tryz.prog 109 #[.agg #[.bool false, .string d0]] w1 (Re w1 (.string v)))) :
  Calls Tryz.prog 56 #[(qa1 n0 s0 d0)] w (Re w (.string ((t ++ ⟨#[47]⟩) ++ v))) := by
 go_enter Tryz.func56, Tryz.ntmps56
 go_wp2_with fail
 go_fit (H1.out _)
 rintro e w1 ⟨rfl, b1⟩
 obtain ⟨ka, b1⟩ := al1 b1
 have sz := b1.size
 have bb := b1
 clear b1
 have ta := ka.lt
 obtain ⟨ca_0, ca_1, ca_2⟩ := xk3 ka
 go_wp2_with fail
 clear ca_0 ca_1 ca_2
 go_fit (rden_any _ _ _ _)
 rintro e w2 ⟨rfl, b1⟩
 have sz := b1.size
 replace ka := ka.below b1
 replace bb := Below.after bb b1
 clear b1
 go_wp2_with fail
 go_fit (H2.out _)
 rintro e w3 ⟨rfl, b1⟩
 have sz := b1.size
 replace ka := ka.below b1
 replace bb := Below.after bb b1
 clear b1
 go_wp2
 go_ret
 exact ⟨rfl, bb⟩
end Go.Proofs.YtnplifkgeeicjaaGreatDoor
namespace Go.Proofs.YtnplifkgeeicjaaGreatDoor
open Go.RowKit Go.Shelf
theorem qV_is {n : Bool} {s d : ByteArray} (h : OkQ n s d) : ((qa1 n s d) : Value) = qI (qOf n s d) := by
 unfold qI
 rw [h.parts.1, h.parts.2.1, h.parts.2.2]
theorem rtextq_any (n : Bool) (s d : ByteArray) (w : World) (o : OkQ n s d) (zs : s.size ≤ 400) (zd : d.size ≤ 400) :
  Calls Tryz.prog 56 #[(qa1 n s d)] w (Re w (.string (qtxt n s d))) := by
 have H1 := fun w1 => rtext_loop n s w1 zs _ rfl
 have H2 := fun w1 => rtext_loop false d w1 zd _ rfl
 unfold qtxt
 by_cases h1 : natOf d = 1
 ·rw [if_pos h1]
  have ed : d = ⟨#[1]⟩ := (okS_one o.2.1).2 h1
  subst ed
  exact rtextq_one n s ⟨#[1]⟩ (ptxt n s) (by rw [ByteArray.toList_eq]; rfl) w H1
 ·rw [if_neg h1]
  exact rtextq_two n s d (ptxt n s) (ptxt false d) (ne1 (fun e => h1 (by rw [e, natOf_one]))) (Nat.le_trans (ptxt_size n s zs) (by omega)) (Nat.le_trans (ptxt_size false d zd) (by omega)) w H1 H2
end Go.Proofs.YtnplifkgeeicjaaGreatDoor
namespace Go.Proofs.YtnplifkgeeicjaaGreatDoor
open Go.RowKit Go.Shelf
theorem qparse_nbad1 (nN : Bool) (s o u nS : ByteArray) (c : Int) (hc : ¬ c = 0) (w : World)
  (HC : Hid (∀ w1, Below w.heap.size w w1 → Calls Tryz.prog 215 #[.string s, .string ⟨#[47]⟩] w1 (Re w1 (.tuple #[.string o, .string u, .bool true]))))
  (HN : Hid (∀ w1, Calls Tryz.prog 216 #[.string o] w1 (Re w1 (.tuple #[.agg #[.bool nN, .string nS], .int .i64 c])))) :
  Calls Tryz.prog 184 #[.string s] w (Re w (.tuple #[(qa1 false eB eB), .int .i64 c])) := by
 go_enter Tryz.func184, Tryz.ntmps184
 go_wp2_with fail
 go_fit (HC.out _ (ba (Below.refl _ _) _))
 rintro e w1 ⟨rfl, b1⟩
 obtain ⟨kr, b1⟩ := al1 b1
 have sz := b1.size
 have bb := b1
 clear b1
 have tr := kr.lt
 go_wp2_with fail
 go_fit (HN.out _)
 rintro e w2 ⟨rfl, b1⟩
 have sz := b1.size
 replace kr := kr.below b1
 replace bb := Below.after bb b1
 clear b1
 have cr_0 := cel3_0 kr
 have fr_1 := Cel.frozen kr 0
 have cr_2 := cel3_1 kr
 have fr_3 := Cel.frozen kr 1
 have cr_4 := cel3_2 kr
 have fr_5 := Cel.frozen kr 2
 have cr_6 := cel3_0 (kr.alloc (.cells #[.bool nN, .string nS] 24))
 have fr_7 := Cel.frozen (kr.alloc (.cells #[.bool nN, .string nS] 24)) 0
 have cr_8 := cel3_1 (kr.alloc (.cells #[.bool nN, .string nS] 24))
 have fr_9 := Cel.frozen (kr.alloc (.cells #[.bool nN, .string nS] 24)) 1
 have cr_10 := cel3_2 (kr.alloc (.cells #[.bool nN, .string nS] 24))
 have fr_11 := Cel.frozen (kr.alloc (.cells #[.bool nN, .string nS] 24)) 2
 go_wp2
 exact post_q1 (p := 2) (u := 3) (by kernel_rfl) rfl rfl rfl ((((kr.alloc _).set 0 _).set 1 _).set 2 _) ⟨rfl, bset (bset (bset (ba bb _) (by omega) 0 _) (by omega) 1 _) (by omega) 2 _⟩
theorem qparse_nbad0 (nN : Bool) (s o u nS : ByteArray) (c : Int) (hc : ¬ c = 0) (w : World)
  (HC : Hid (∀ w1, Below w.heap.size w w1 → Calls Tryz.prog 215 #[.string s, .string ⟨#[47]⟩] w1 (Re w1 (.tuple #[.string o, .string u, .bool false]))))
  (HN : Hid (∀ w1, Calls Tryz.prog 216 #[.string o] w1 (Re w1 (.tuple #[.agg #[.bool nN, .string nS], .int .i64 c])))) :
  Calls Tryz.prog 184 #[.string s] w (Re w (.tuple #[(qa1 false eB eB), .int .i64 c])) := by
 go_enter Tryz.func184, Tryz.ntmps184
 go_wp2_with fail
 go_fit (HC.out _ (ba (Below.refl _ _) _))
 rintro e w1 ⟨rfl, b1⟩
 obtain ⟨kr, b1⟩ := al1 b1
 have sz := b1.size
 have bb := b1
 clear b1
 have tr := kr.lt
 go_wp2_with fail
 go_fit (HN.out _)
 rintro e w2 ⟨rfl, b1⟩
 have sz := b1.size
 replace kr := kr.below b1
 replace bb := Below.after bb b1
 clear b1
 have cr_0 := cel3_0 kr
 have fr_1 := Cel.frozen kr 0
 have cr_2 := cel3_1 kr
 have fr_3 := Cel.frozen kr 1
 have cr_4 := cel3_2 kr
 have fr_5 := Cel.frozen kr 2
 have cr_6 := cel3_0 (kr.alloc (.cells #[.bool nN, .string nS] 24))
 have fr_7 := Cel.frozen (kr.alloc (.cells #[.bool nN, .string nS] 24)) 0
 have cr_8 := cel3_1 (kr.alloc (.cells #[.bool nN, .string nS] 24))
 have fr_9 := Cel.frozen (kr.alloc (.cells #[.bool nN, .string nS] 24)) 1
 have cr_10 := cel3_2 (kr.alloc (.cells #[.bool nN, .string nS] 24))
 have fr_11 := Cel.frozen (kr.alloc (.cells #[.bool nN, .string nS] 24)) 2
 go_wp2
 exact post_q1 (p := 2) (u := 3) (by kernel_rfl) rfl rfl rfl ((((kr.alloc _).set 0 _).set 1 _).set 2 _) ⟨rfl, bset (bset (bset (ba bb _) (by omega) 0 _) (by omega) 1 _) (by omega) 2 _⟩
theorem qparse_dbad1 (nN : Bool) (s o u nS : ByteArray) (dN : Bool) (dS : ByteArray) (c : Int) (hc : ¬ c = 0) (w : World)
  (HC : Hid (∀ w1, Below w.heap.size w w1 → Calls Tryz.prog 215 #[.string s, .string ⟨#[47]⟩] w1 (Re w1 (.tuple #[.string o, .string u, .bool true]))))
  (HN : Hid (∀ w1, Calls Tryz.prog 216 #[.string o] w1 (Re w1 (.tuple #[.agg #[.bool nN, .string nS], .int .i64 0]))))
  (HD : Hid (∀ w1, Calls Tryz.prog 216 #[.string u] w1 (Re w1 (.tuple #[.agg #[.bool dN, .string dS], .int .i64 c])))) :
  Calls Tryz.prog 184 #[.string s] w (Re w (.tuple #[(qa1 false eB eB), .int .i64 4])) := by
 go_enter Tryz.func184, Tryz.ntmps184
 go_wp2_with fail
 go_fit (HC.out _ (ba (Below.refl _ _) _))
 rintro e w1 ⟨rfl, b1⟩
 obtain ⟨kr, b1⟩ := al1 b1
 have sz := b1.size
 have bb := b1
 clear b1
 have tr := kr.lt
 go_wp2_with fail
 go_fit (HN.out _)
 rintro e w2 ⟨rfl, b1⟩
 have sz := b1.size
 replace kr := kr.below b1
 replace bb := Below.after bb b1
 clear b1
 go_wp2_with fail
 go_fit (HD.out _)
 rintro e w3 ⟨rfl, b1⟩
 obtain ⟨kn, b1⟩ := al1 b1
 have sz := b1.size
 replace kr := kr.below b1
 replace bb := Below.after bb b1
 clear b1
 have tn := kn.lt
 have cr_0 := cel3_0 kr
 have fr_1 := Cel.frozen kr 0
 have cr_2 := cel3_1 kr
 have fr_3 := Cel.frozen kr 1
 have cr_4 := cel3_2 kr
 have fr_5 := Cel.frozen kr 2
 have cr_6 := cel3_0 (kr.alloc (.cells #[.bool dN, .string dS] 24))
 have fr_7 := Cel.frozen (kr.alloc (.cells #[.bool dN, .string dS] 24)) 0
 have cr_8 := cel3_1 (kr.alloc (.cells #[.bool dN, .string dS] 24))
 have fr_9 := Cel.frozen (kr.alloc (.cells #[.bool dN, .string dS] 24)) 1
 have cr_10 := cel3_2 (kr.alloc (.cells #[.bool dN, .string dS] 24))
 have fr_11 := Cel.frozen (kr.alloc (.cells #[.bool dN, .string dS] 24)) 2
 go_wp2
 exact post_q1 (p := 2) (u := 3) (by kernel_rfl) rfl rfl rfl ((((kr.alloc _).set 0 _).set 1 _).set 2 _) ⟨rfl, bset (bset (bset (ba bb _) (by omega) 0 _) (by omega) 1 _) (by omega) 2 _⟩
theorem qparse_dbad2 (nN : Bool) (s o u nS : ByteArray) (dS : ByteArray) (w : World)
  (HC : Hid (∀ w1, Below w.heap.size w w1 → Calls Tryz.prog 215 #[.string s, .string ⟨#[47]⟩] w1 (Re w1 (.tuple #[.string o, .string u, .bool true]))))
  (HN : Hid (∀ w1, Calls Tryz.prog 216 #[.string o] w1 (Re w1 (.tuple #[.agg #[.bool nN, .string nS], .int .i64 0]))))
  (HD : Hid (∀ w1, Calls Tryz.prog 216 #[.string u] w1 (Re w1 (.tuple #[.agg #[.bool true, .string dS], .int .i64 0])))) :
  Calls Tryz.prog 184 #[.string s] w (Re w (.tuple #[(qa1 false eB eB), .int .i64 4])) := by
 go_enter Tryz.func184, Tryz.ntmps184
 go_wp2_with fail
 go_fit (HC.out _ (ba (Below.refl _ _) _))
 rintro e w1 ⟨rfl, b1⟩
 obtain ⟨kr, b1⟩ := al1 b1
 have sz := b1.size
 have bb := b1
 clear b1
 have tr := kr.lt
 go_wp2_with fail
 go_fit (HN.out _)
 rintro e w2 ⟨rfl, b1⟩
 have sz := b1.size
 replace kr := kr.below b1
 replace bb := Below.after bb b1
 clear b1
 go_wp2_with fail
 go_fit (HD.out _)
 rintro e w3 ⟨rfl, b1⟩
 obtain ⟨kn, b1⟩ := al1 b1
 have sz := b1.size
 replace kr := kr.below b1
 replace bb := Below.after bb b1
 clear b1
 have tn := kn.lt
 have cr_0 := cel3_0 kr
 have fr_1 := Cel.frozen kr 0
 have cr_2 := cel3_1 kr
 have fr_3 := Cel.frozen kr 1
 have cr_4 := cel3_2 kr
 have fr_5 := Cel.frozen kr 2
 have cr_6 := cel3_0 (kr.alloc (.cells #[.bool true, .string dS] 24))
 have fr_7 := Cel.frozen (kr.alloc (.cells #[.bool true, .string dS] 24)) 0
 have cr_8 := cel3_1 (kr.alloc (.cells #[.bool true, .string dS] 24))
 have fr_9 := Cel.frozen (kr.alloc (.cells #[.bool true, .string dS] 24)) 1
 have cr_10 := cel3_2 (kr.alloc (.cells #[.bool true, .string dS] 24))
 have fr_11 := Cel.frozen (kr.alloc (.cells #[.bool true, .string dS] 24)) 2
 go_wp2
 exact post_q1 (p := 2) (u := 3) (by kernel_rfl) rfl rfl rfl ((((kr.alloc _).set 0 _).set 1 _).set 2 _) ⟨rfl, bset (bset (bset (ba bb _) (by omega) 0 _) (by omega) 1 _) (by omega) 2 _⟩
theorem qparse_dbad3 (nN : Bool) (s o u nS : ByteArray) (w : World)
  (HC : Hid (∀ w1, Below w.heap.size w w1 → Calls Tryz.prog 215 #[.string s, .string ⟨#[47]⟩] w1 (Re w1 (.tuple #[.string o, .string u, .bool true]))))
  (HN : Hid (∀ w1, Calls Tryz.prog 216 #[.string o] w1 (Re w1 (.tuple #[.agg #[.bool nN, .string nS], .int .i64 0]))))
  (HD : Hid (∀ w1, Calls Tryz.prog 216 #[.string u] w1 (Re w1 (.tuple #[.agg #[.bool false, .string { data := #[] }], .int .i64 0])))) :
  Calls Tryz.prog 184 #[.string s] w (Re w (.tuple #[(qa1 false eB eB), .int .i64 4])) := by
 go_enter Tryz.func184, Tryz.ntmps184
 go_wp2_with fail
 go_fit (HC.out _ (ba (Below.refl _ _) _))
 rintro e w1 ⟨rfl, b1⟩
 obtain ⟨kr, b1⟩ := al1 b1
 have sz := b1.size
 have bb := b1
 clear b1
 have tr := kr.lt
 go_wp2_with fail
 go_fit (HN.out _)
 rintro e w2 ⟨rfl, b1⟩
 have sz := b1.size
 replace kr := kr.below b1
 replace bb := Below.after bb b1
 clear b1
 go_wp2_with fail
 go_fit (HD.out _)
 rintro e w3 ⟨rfl, b1⟩
 obtain ⟨kn, b1⟩ := al1 b1
 have sz := b1.size
 replace kr := kr.below b1
 replace bb := Below.after bb b1
 clear b1
 have tn := kn.lt
 have cr_0 := cel3_0 kr
 have fr_1 := Cel.frozen kr 0
 have cr_2 := cel3_1 kr
 have fr_3 := Cel.frozen kr 1
 have cr_4 := cel3_2 kr
 have fr_5 := Cel.frozen kr 2
 have cr_6 := cel3_0 (kr.alloc (.cells #[.bool false, .string { data := #[] }] 24))
 have fr_7 := Cel.frozen (kr.alloc (.cells #[.bool false, .string { data := #[] }] 24)) 0
 have cr_8 := cel3_1 (kr.alloc (.cells #[.bool false, .string { data := #[] }] 24))
 have fr_9 := Cel.frozen (kr.alloc (.cells #[.bool false, .string { data := #[] }] 24)) 1
 have cr_10 := cel3_2 (kr.alloc (.cells #[.bool false, .string { data := #[] }] 24))
 have fr_11 := Cel.frozen (kr.alloc (.cells #[.bool false, .string { data := #[] }] 24)) 2
 go_wp2
 exact post_q1 (p := 2) (u := 3) (by kernel_rfl) rfl rfl rfl ((((kr.alloc _).set 0 _).set 1 _).set 2 _) ⟨rfl, bset (bset (bset (ba bb _) (by omega) 0 _) (by omega) 1 _) (by omega) 2 _⟩
end Go.Proofs.YtnplifkgeeicjaaGreatDoor
namespace Go.Proofs.YtnplifkgeeicjaaGreatDoor
open Go.RowKit Go.Shelf
theorem rparseq_a0 (s : ByteArray) (hz : s.size ≤ 9223372036854775807) (hA : ∀ (i : Nat) (h : i < s.size), ¬ s[i]'h = 47) (nN : Bool) (nS : ByteArray) (c : Int) (hc : ¬ c = 0) (w : World)
  (HN : Hid (∀ w1, Calls Tryz.prog 187 #[.string s] w1 (Re w1 (.tuple #[.agg #[.bool nN, .string nS], .int .i64 c])))) :
  Calls Tryz.prog 153 #[.string s] w (Re w (.tuple #[(qa1 false eB eB), .int .i64 c])) := by
 go_enter Tryz.func153, Tryz.ntmps153
 go_wp2_with fail
 obtain ⟨w1, hw, kr, b1⟩ := mk1 w (ql1 false eB eB) 26
 rw [← hw]
 clear hw
 have sz := b1.size
 have tr := kr.lt
 have bb := b1
 clear b1
 go_wp2
 go_loopw [4, 5] (fun av iv wr => ∃ i : Nat, av = .int .i64 (-1) ∧ iv = .int .i64 (i : Int) ∧ i ≤ s.size ∧ wr = w1) (fun _ iv _ => s.size - (intOf iv).toNat)
 case atStart => exact ⟨0, rfl, rfl, by omega, rfl⟩
 case round =>
  obtain ⟨i, rfl, rfl, hi, rfl⟩ := hrel
  by_cases hlt : i < s.size
  ·have hlt' : (i : Int) < (s.size : Int) := by omega
   have p3 := hA i hlt
   have p2 : ¬ ((s[i]).toNat : Int) = 47 := fun h => p3 (UInt8.toNat.inj (by show _ = 47; omega))
   clear hA
   go_wp2
   refine ⟨⟨i + 1, rfl, by simp, by omega, by first | rfl | trivial⟩, ?_⟩
   simp [intOf]; omega
  ·have hge : ¬ (i : Int) < (s.size : Int) := by omega
   clear hA
   go_wp2_with fail
   go_fit (HN.out _)
   rintro e w2 ⟨rfl, b1⟩
   have sz := b1.size
   replace kr := kr.below b1
   replace bb := Below.after bb b1
   clear b1
   have cr_0 := cel3_0 kr
   have fr_1 := Cel.frozen kr 0
   have cr_2 := cel3_1 kr
   have fr_3 := Cel.frozen kr 1
   have cr_4 := cel3_2 kr
   have fr_5 := Cel.frozen kr 2
   have cr_6 := cel3_0 (kr.alloc (.cells #[.bool nN, .string nS] 24))
   have fr_7 := Cel.frozen (kr.alloc (.cells #[.bool nN, .string nS] 24)) 0
   have cr_8 := cel3_1 (kr.alloc (.cells #[.bool nN, .string nS] 24))
   have fr_9 := Cel.frozen (kr.alloc (.cells #[.bool nN, .string nS] 24)) 1
   have cr_10 := cel3_2 (kr.alloc (.cells #[.bool nN, .string nS] 24))
   have fr_11 := Cel.frozen (kr.alloc (.cells #[.bool nN, .string nS] 24)) 2
   go_wp2
   exact post_q1 (p := 2) (u := 3) (by kernel_rfl) rfl rfl rfl ((((kr.alloc _).set 0 _).set 1 _).set 2 _) ⟨rfl, bset (bset (bset (ba bb _) (by omega) 0 _) (by omega) 1 _) (by omega) 2 _⟩
theorem rparseq_a1 (s : ByteArray) (hz : s.size ≤ 9223372036854775807) (hA : ∀ (i : Nat) (h : i < s.size), ¬ s[i]'h = 47) (nN : Bool) (nS : ByteArray) (w : World)
  (HN : Hid (∀ w1, Calls Tryz.prog 187 #[.string s] w1 (Re w1 (.tuple #[.agg #[.bool nN, .string nS], .int .i64 0])))) :
  Calls Tryz.prog 153 #[.string s] w (Re w (.tuple #[(qa1 nN nS ⟨#[1]⟩), .int .i64 0])) := by
 go_enter Tryz.func153, Tryz.ntmps153
 go_wp2_with fail
 obtain ⟨w1, hw, kr, b1⟩ := mk1 w (ql1 false eB eB) 26
 rw [← hw]
 clear hw
 have sz := b1.size
 have tr := kr.lt
 have bb := b1
 clear b1
 go_wp2
 go_loopw [4, 5] (fun av iv wr => ∃ i : Nat, av = .int .i64 (-1) ∧ iv = .int .i64 (i : Int) ∧ i ≤ s.size ∧ wr = w1) (fun _ iv _ => s.size - (intOf iv).toNat)
 case atStart => exact ⟨0, rfl, rfl, by omega, rfl⟩
 case round =>
  obtain ⟨i, rfl, rfl, hi, rfl⟩ := hrel
  by_cases hlt : i < s.size
  ·have hlt' : (i : Int) < (s.size : Int) := by omega
   have p3 := hA i hlt
   have p2 : ¬ ((s[i]).toNat : Int) = 47 := fun h => p3 (UInt8.toNat.inj (by show _ = 47; omega))
   clear hA
   go_wp2
   refine ⟨⟨i + 1, rfl, by simp, by omega, by first | rfl | trivial⟩, ?_⟩
   simp [intOf]; omega
  ·have hge : ¬ (i : Int) < (s.size : Int) := by omega
   clear hA
   go_wp2_with fail
   go_fit (HN.out _)
   rintro e w2 ⟨rfl, b1⟩
   have sz := b1.size
   replace kr := kr.below b1
   replace bb := Below.after bb b1
   clear b1
   have cr_0 := cel3_0 kr
   have fr_1 := Cel.frozen kr 0
   have cr_2 := cel3_1 kr
   have fr_3 := Cel.frozen kr 1
   have cr_4 := cel3_2 kr
   have fr_5 := Cel.frozen kr 2
   have cr_6 := cel3_0 (kr.alloc (.cells #[.bool nN, .string nS] 24))
   have fr_7 := Cel.frozen (kr.alloc (.cells #[.bool nN, .string nS] 24)) 0
   have cr_8 := cel3_1 (kr.alloc (.cells #[.bool nN, .string nS] 24))
   have fr_9 := Cel.frozen (kr.alloc (.cells #[.bool nN, .string nS] 24)) 1
   have cr_10 := cel3_2 (kr.alloc (.cells #[.bool nN, .string nS] 24))
   have fr_11 := Cel.frozen (kr.alloc (.cells #[.bool nN, .string nS] 24)) 2
   go_wp2
   exact post_q1 (p := 2) (u := 3) (by kernel_rfl) rfl rfl rfl ((((kr.alloc _).set 0 _).set 1 _).set 2 _) ⟨rfl, bset (bset (bset (ba bb _) (by omega) 0 _) (by omega) 1 _) (by omega) 2 _⟩
theorem rparseq_b0 (s o u : ByteArray) (hz : s.size ≤ 9223372036854775807) (K : Nat) (hK : K < s.size) (hB : ∀ (i : Nat) (h : i < K), ¬ s[i]'(Nat.lt_trans h hK) = 47) (hk : s[K]'hK = 47) (HO : Hid (s.extract 0 K = o)) (HU : Hid (s.extract (K + 1) s.size = u)) (nN : Bool) (nS : ByteArray) (dN : Bool) (dS : ByteArray) (c c2 : Int) (hc : ¬ c = 0) (w : World)
  (HN : Hid (∀ w1, Calls Tryz.prog 187 #[.string o] w1 (Re w1 (.tuple #[.agg #[.bool nN, .string nS], .int .i64 c]))))
  (HD : Hid (∀ w1, Calls Tryz.prog 187 #[.string u] w1 (Re w1 (.tuple #[.agg #[.bool dN, .string dS], .int .i64 c2])))) :
  Calls Tryz.prog 153 #[.string s] w (Re w (.tuple #[(qa1 false eB eB), .int .i64 4])) := by
 go_enter Tryz.func153, Tryz.ntmps153
 go_wp2_with fail
 obtain ⟨w1, hw, kr, b1⟩ := mk1 w (ql1 false eB eB) 26
 rw [← hw]
 clear hw
 have sz := b1.size
 have tr := kr.lt
 have bb := b1
 clear b1
 go_wp2
 go_loopw [4, 5] (fun av iv wr => ∃ i : Nat, ((i ≤ K ∧ av = .int .i64 (-1)) ∨ (K < i ∧ av = .int .i64 (K : Int))) ∧ iv = .int .i64 (i : Int) ∧ i ≤ s.size ∧ wr = w1) (fun _ iv _ => s.size - (intOf iv).toNat)
 case atStart => exact ⟨0, Or.inl ⟨by omega, rfl⟩, rfl, by omega, rfl⟩
 case round =>
  obtain ⟨i, hcase, rfl, hi, rfl⟩ := hrel
  by_cases hlt : i < s.size
  ·have hlt' : (i : Int) < (s.size : Int) := by omega
   rcases hcase with ⟨hc, rfl⟩ | ⟨hc, rfl⟩
   ·by_cases hk0 : i < K
    ·have p3 := hB i hk0
     have p2 : ¬ ((s[i]).toNat : Int) = 47 := fun h => p3 (UInt8.toNat.inj (by show _ = 47; omega))
     clear hB hk
     go_wp2
     refine ⟨⟨i + 1, Or.inl ⟨by omega, rfl⟩, by simp, by omega, by first | rfl | trivial⟩, ?_⟩
     simp [intOf]; omega
    ·obtain rfl : i = K := by omega
     have p2 : ((s[i]).toNat : Int) = 47 := by rw [hk]; rfl
     clear hB
     go_wp2
     refine ⟨⟨i + 1, Or.inr ⟨by omega, rfl⟩, by simp, by omega, by first | rfl | trivial⟩, ?_⟩
     simp [intOf]; omega
   ·have q1 : ¬ ((K : Int) < 0) := by omega
    clear hB hk
    by_cases p3 : s[i] = 47
    ·have p2 : ((s[i]).toNat : Int) = 47 := by rw [p3]; rfl
     go_wp2
     refine ⟨⟨i + 1, Or.inr ⟨by omega, rfl⟩, by simp, by omega, by first | rfl | trivial⟩, ?_⟩
     simp [intOf]; omega
    ·have p2 : ¬ ((s[i]).toNat : Int) = 47 := fun h => p3 (UInt8.toNat.inj (by show _ = 47; omega))
     go_wp2
     refine ⟨⟨i + 1, Or.inr ⟨by omega, rfl⟩, by simp, by omega, by first | rfl | trivial⟩, ?_⟩
     simp [intOf]; omega
  ·have hge : ¬ (i : Int) < (s.size : Int) := by omega
   rcases hcase with ⟨hc, rfl⟩ | ⟨hc, rfl⟩
   ·omega
   have q1 : ¬ ((K : Int) < 0) := by omega
   have q2 : (K : Int) ≤ (s.size : Int) := by omega
   have q3 : (K : Int) + 1 ≤ (s.size : Int) := by omega
   have q4 : (s.size : Int) ≤ 9223372036854775807 := by omega
   clear hB hk
   have hO := HO.out
   have hU := HU.out
   go_wp2_with fail
   go_fit (HN.out _)
   rintro e w2 ⟨rfl, b1⟩
   have sz := b1.size
   replace kr := kr.below b1
   replace bb := Below.after bb b1
   clear b1
   go_wp2_with fail
   go_fit (HD.out _)
   rintro e w3 ⟨rfl, b1⟩
   obtain ⟨kn, b1⟩ := al1 b1
   have sz := b1.size
   replace kr := kr.below b1
   replace bb := Below.after bb b1
   clear b1
   have tn := kn.lt
   have cr_0 := cel3_0 kr
   have fr_1 := Cel.frozen kr 0
   have cr_2 := cel3_1 kr
   have fr_3 := Cel.frozen kr 1
   have cr_4 := cel3_2 kr
   have fr_5 := Cel.frozen kr 2
   have cr_6 := cel3_0 (kr.alloc (.cells #[.bool dN, .string dS] 24))
   have fr_7 := Cel.frozen (kr.alloc (.cells #[.bool dN, .string dS] 24)) 0
   have cr_8 := cel3_1 (kr.alloc (.cells #[.bool dN, .string dS] 24))
   have fr_9 := Cel.frozen (kr.alloc (.cells #[.bool dN, .string dS] 24)) 1
   have cr_10 := cel3_2 (kr.alloc (.cells #[.bool dN, .string dS] 24))
   have fr_11 := Cel.frozen (kr.alloc (.cells #[.bool dN, .string dS] 24)) 2
   go_wp2
   exact post_q1 (p := 2) (u := 3) (by kernel_rfl) rfl rfl rfl ((((kr.alloc _).set 0 _).set 1 _).set 2 _) ⟨rfl, bset (bset (bset (ba bb _) (by omega) 0 _) (by omega) 1 _) (by omega) 2 _⟩
theorem rparseq_b1 (s o u : ByteArray) (hz : s.size ≤ 9223372036854775807) (K : Nat) (hK : K < s.size) (hB : ∀ (i : Nat) (h : i < K), ¬ s[i]'(Nat.lt_trans h hK) = 47) (hk : s[K]'hK = 47) (HO : Hid (s.extract 0 K = o)) (HU : Hid (s.extract (K + 1) s.size = u)) (nN : Bool) (nS : ByteArray) (dN : Bool) (dS : ByteArray) (c : Int) (hc : ¬ c = 0) (w : World)
  (HN : Hid (∀ w1, Calls Tryz.prog 187 #[.string o] w1 (Re w1 (.tuple #[.agg #[.bool nN, .string nS], .int .i64 0]))))
  (HD : Hid (∀ w1, Calls Tryz.prog 187 #[.string u] w1 (Re w1 (.tuple #[.agg #[.bool dN, .string dS], .int .i64 c])))) :
  Calls Tryz.prog 153 #[.string s] w (Re w (.tuple #[(qa1 false eB eB), .int .i64 4])) := by
 go_enter Tryz.func153, Tryz.ntmps153
 go_wp2_with fail
 obtain ⟨w1, hw, kr, b1⟩ := mk1 w (ql1 false eB eB) 26
 rw [← hw]
 clear hw
 have sz := b1.size
 have tr := kr.lt
 have bb := b1
 clear b1
 go_wp2
 go_loopw [4, 5] (fun av iv wr => ∃ i : Nat, ((i ≤ K ∧ av = .int .i64 (-1)) ∨ (K < i ∧ av = .int .i64 (K : Int))) ∧ iv = .int .i64 (i : Int) ∧ i ≤ s.size ∧ wr = w1) (fun _ iv _ => s.size - (intOf iv).toNat)
 case atStart => exact ⟨0, Or.inl ⟨by omega, rfl⟩, rfl, by omega, rfl⟩
 case round =>
  obtain ⟨i, hcase, rfl, hi, rfl⟩ := hrel
  by_cases hlt : i < s.size
  ·have hlt' : (i : Int) < (s.size : Int) := by omega
   rcases hcase with ⟨hc, rfl⟩ | ⟨hc, rfl⟩
   ·by_cases hk0 : i < K
    ·have p3 := hB i hk0
     have p2 : ¬ ((s[i]).toNat : Int) = 47 := fun h => p3 (UInt8.toNat.inj (by show _ = 47; omega))
     clear hB hk
     go_wp2
     refine ⟨⟨i + 1, Or.inl ⟨by omega, rfl⟩, by simp, by omega, by first | rfl | trivial⟩, ?_⟩
     simp [intOf]; omega
    ·obtain rfl : i = K := by omega
     have p2 : ((s[i]).toNat : Int) = 47 := by rw [hk]; rfl
     clear hB
     go_wp2
     refine ⟨⟨i + 1, Or.inr ⟨by omega, rfl⟩, by simp, by omega, by first | rfl | trivial⟩, ?_⟩
     simp [intOf]; omega
   ·have q1 : ¬ ((K : Int) < 0) := by omega
    clear hB hk
    by_cases p3 : s[i] = 47
    ·have p2 : ((s[i]).toNat : Int) = 47 := by rw [p3]; rfl
     go_wp2
     refine ⟨⟨i + 1, Or.inr ⟨by omega, rfl⟩, by simp, by omega, by first | rfl | trivial⟩, ?_⟩
     simp [intOf]; omega
    ·have p2 : ¬ ((s[i]).toNat : Int) = 47 := fun h => p3 (UInt8.toNat.inj (by show _ = 47; omega))
     go_wp2
     refine ⟨⟨i + 1, Or.inr ⟨by omega, rfl⟩, by simp, by omega, by first | rfl | trivial⟩, ?_⟩
     simp [intOf]; omega
  ·have hge : ¬ (i : Int) < (s.size : Int) := by omega
   rcases hcase with ⟨hc, rfl⟩ | ⟨hc, rfl⟩
   ·omega
   have q1 : ¬ ((K : Int) < 0) := by omega
   have q2 : (K : Int) ≤ (s.size : Int) := by omega
   have q3 : (K : Int) + 1 ≤ (s.size : Int) := by omega
   have q4 : (s.size : Int) ≤ 9223372036854775807 := by omega
   clear hB hk
   have hO := HO.out
   have hU := HU.out
   go_wp2_with fail
   go_fit (HN.out _)
   rintro e w2 ⟨rfl, b1⟩
   have sz := b1.size
   replace kr := kr.below b1
   replace bb := Below.after bb b1
   clear b1
   go_wp2_with fail
   go_fit (HD.out _)
   rintro e w3 ⟨rfl, b1⟩
   obtain ⟨kn, b1⟩ := al1 b1
   have sz := b1.size
   replace kr := kr.below b1
   replace bb := Below.after bb b1
   clear b1
   have tn := kn.lt
   have cr_0 := cel3_0 kr
   have fr_1 := Cel.frozen kr 0
   have cr_2 := cel3_1 kr
   have fr_3 := Cel.frozen kr 1
   have cr_4 := cel3_2 kr
   have fr_5 := Cel.frozen kr 2
   have cr_6 := cel3_0 (kr.alloc (.cells #[.bool dN, .string dS] 24))
   have fr_7 := Cel.frozen (kr.alloc (.cells #[.bool dN, .string dS] 24)) 0
   have cr_8 := cel3_1 (kr.alloc (.cells #[.bool dN, .string dS] 24))
   have fr_9 := Cel.frozen (kr.alloc (.cells #[.bool dN, .string dS] 24)) 1
   have cr_10 := cel3_2 (kr.alloc (.cells #[.bool dN, .string dS] 24))
   have fr_11 := Cel.frozen (kr.alloc (.cells #[.bool dN, .string dS] 24)) 2
   go_wp2
   exact post_q1 (p := 2) (u := 3) (by kernel_rfl) rfl rfl rfl ((((kr.alloc _).set 0 _).set 1 _).set 2 _) ⟨rfl, bset (bset (bset (ba bb _) (by omega) 0 _) (by omega) 1 _) (by omega) 2 _⟩
theorem rparseq_b2 (s o u : ByteArray) (hz : s.size ≤ 9223372036854775807) (K : Nat) (hK : K < s.size) (hB : ∀ (i : Nat) (h : i < K), ¬ s[i]'(Nat.lt_trans h hK) = 47) (hk : s[K]'hK = 47) (HO : Hid (s.extract 0 K = o)) (HU : Hid (s.extract (K + 1) s.size = u)) (nN : Bool) (nS : ByteArray) (dS : ByteArray) (w : World)
  (HN : Hid (∀ w1, Calls Tryz.prog 187 #[.string o] w1 (Re w1 (.tuple #[.agg #[.bool nN, .string nS], .int .i64 0]))))
  (HD : Hid (∀ w1, Calls Tryz.prog 187 #[.string u] w1 (Re w1 (.tuple #[.agg #[.bool true, .string dS], .int .i64 0])))) :
  Calls Tryz.prog 153 #[.string s] w (Re w (.tuple #[(qa1 false eB eB), .int .i64 4])) := by
 go_enter Tryz.func153, Tryz.ntmps153
 go_wp2_with fail
 obtain ⟨w1, hw, kr, b1⟩ := mk1 w (ql1 false eB eB) 26
 rw [← hw]
 clear hw
 have sz := b1.size
 have tr := kr.lt
 have bb := b1
 clear b1
 go_wp2
 go_loopw [4, 5] (fun av iv wr => ∃ i : Nat, ((i ≤ K ∧ av = .int .i64 (-1)) ∨ (K < i ∧ av = .int .i64 (K : Int))) ∧ iv = .int .i64 (i : Int) ∧ i ≤ s.size ∧ wr = w1) (fun _ iv _ => s.size - (intOf iv).toNat)
 case atStart => exact ⟨0, Or.inl ⟨by omega, rfl⟩, rfl, by omega, rfl⟩
 case round =>
  obtain ⟨i, hcase, rfl, hi, rfl⟩ := hrel
  by_cases hlt : i < s.size
  ·have hlt' : (i : Int) < (s.size : Int) := by omega
   rcases hcase with ⟨hc, rfl⟩ | ⟨hc, rfl⟩
   ·by_cases hk0 : i < K
    ·have p3 := hB i hk0
     have p2 : ¬ ((s[i]).toNat : Int) = 47 := fun h => p3 (UInt8.toNat.inj (by show _ = 47; omega))
     clear hB hk
     go_wp2
     refine ⟨⟨i + 1, Or.inl ⟨by omega, rfl⟩, by simp, by omega, by first | rfl | trivial⟩, ?_⟩
     simp [intOf]; omega
    ·obtain rfl : i = K := by omega
     have p2 : ((s[i]).toNat : Int) = 47 := by rw [hk]; rfl
     clear hB
     go_wp2
     refine ⟨⟨i + 1, Or.inr ⟨by omega, rfl⟩, by simp, by omega, by first | rfl | trivial⟩, ?_⟩
     simp [intOf]; omega
   ·have q1 : ¬ ((K : Int) < 0) := by omega
    clear hB hk
    by_cases p3 : s[i] = 47
    ·have p2 : ((s[i]).toNat : Int) = 47 := by rw [p3]; rfl
     go_wp2
     refine ⟨⟨i + 1, Or.inr ⟨by omega, rfl⟩, by simp, by omega, by first | rfl | trivial⟩, ?_⟩
     simp [intOf]; omega
    ·have p2 : ¬ ((s[i]).toNat : Int) = 47 := fun h => p3 (UInt8.toNat.inj (by show _ = 47; omega))
     go_wp2
     refine ⟨⟨i + 1, Or.inr ⟨by omega, rfl⟩, by simp, by omega, by first | rfl | trivial⟩, ?_⟩
     simp [intOf]; omega
  ·have hge : ¬ (i : Int) < (s.size : Int) := by omega
   rcases hcase with ⟨hc, rfl⟩ | ⟨hc, rfl⟩
   ·omega
   have q1 : ¬ ((K : Int) < 0) := by omega
   have q2 : (K : Int) ≤ (s.size : Int) := by omega
   have q3 : (K : Int) + 1 ≤ (s.size : Int) := by omega
   have q4 : (s.size : Int) ≤ 9223372036854775807 := by omega
   clear hB hk
   have hO := HO.out
   have hU := HU.out
   go_wp2_with fail
   go_fit (HN.out _)
   rintro e w2 ⟨rfl, b1⟩
   have sz := b1.size
   replace kr := kr.below b1
   replace bb := Below.after bb b1
   clear b1
   go_wp2_with fail
   go_fit (HD.out _)
   rintro e w3 ⟨rfl, b1⟩
   obtain ⟨kn, b1⟩ := al1 b1
   have sz := b1.size
   replace kr := kr.below b1
   replace bb := Below.after bb b1
   clear b1
   have tn := kn.lt
   have cr_0 := cel3_0 kr
   have fr_1 := Cel.frozen kr 0
   have cr_2 := cel3_1 kr
   have fr_3 := Cel.frozen kr 1
   have cr_4 := cel3_2 kr
   have fr_5 := Cel.frozen kr 2
   have cr_6 := cel3_0 (kr.alloc (.cells #[.bool true, .string dS] 24))
   have fr_7 := Cel.frozen (kr.alloc (.cells #[.bool true, .string dS] 24)) 0
   have cr_8 := cel3_1 (kr.alloc (.cells #[.bool true, .string dS] 24))
   have fr_9 := Cel.frozen (kr.alloc (.cells #[.bool true, .string dS] 24)) 1
   have cr_10 := cel3_2 (kr.alloc (.cells #[.bool true, .string dS] 24))
   have fr_11 := Cel.frozen (kr.alloc (.cells #[.bool true, .string dS] 24)) 2
   go_wp2
   exact post_q1 (p := 2) (u := 3) (by kernel_rfl) rfl rfl rfl ((((kr.alloc _).set 0 _).set 1 _).set 2 _) ⟨rfl, bset (bset (bset (ba bb _) (by omega) 0 _) (by omega) 1 _) (by omega) 2 _⟩
theorem rparseq_b3 (s o u : ByteArray) (hz : s.size ≤ 9223372036854775807) (K : Nat) (hK : K < s.size) (hB : ∀ (i : Nat) (h : i < K), ¬ s[i]'(Nat.lt_trans h hK) = 47) (hk : s[K]'hK = 47) (HO : Hid (s.extract 0 K = o)) (HU : Hid (s.extract (K + 1) s.size = u)) (nN : Bool) (nS : ByteArray) (w : World)
  (HN : Hid (∀ w1, Calls Tryz.prog 187 #[.string o] w1 (Re w1 (.tuple #[.agg #[.bool nN, .string nS], .int .i64 0]))))
  (HD : Hid (∀ w1, Calls Tryz.prog 187 #[.string u] w1 (Re w1 (.tuple #[.agg #[.bool false, .string { data := #[] }], .int .i64 0])))) :
  Calls Tryz.prog 153 #[.string s] w (Re w (.tuple #[(qa1 false eB eB), .int .i64 4])) := by
 go_enter Tryz.func153, Tryz.ntmps153
 go_wp2_with fail
 obtain ⟨w1, hw, kr, b1⟩ := mk1 w (ql1 false eB eB) 26
 rw [← hw]
 clear hw
 have sz := b1.size
 have tr := kr.lt
 have bb := b1
 clear b1
 go_wp2
 go_loopw [4, 5] (fun av iv wr => ∃ i : Nat, ((i ≤ K ∧ av = .int .i64 (-1)) ∨ (K < i ∧ av = .int .i64 (K : Int))) ∧ iv = .int .i64 (i : Int) ∧ i ≤ s.size ∧ wr = w1) (fun _ iv _ => s.size - (intOf iv).toNat)
 case atStart => exact ⟨0, Or.inl ⟨by omega, rfl⟩, rfl, by omega, rfl⟩
 case round =>
  obtain ⟨i, hcase, rfl, hi, rfl⟩ := hrel
  by_cases hlt : i < s.size
  ·have hlt' : (i : Int) < (s.size : Int) := by omega
   rcases hcase with ⟨hc, rfl⟩ | ⟨hc, rfl⟩
   ·by_cases hk0 : i < K
    ·have p3 := hB i hk0
     have p2 : ¬ ((s[i]).toNat : Int) = 47 := fun h => p3 (UInt8.toNat.inj (by show _ = 47; omega))
     clear hB hk
     go_wp2
     refine ⟨⟨i + 1, Or.inl ⟨by omega, rfl⟩, by simp, by omega, by first | rfl | trivial⟩, ?_⟩
     simp [intOf]; omega
    ·obtain rfl : i = K := by omega
     have p2 : ((s[i]).toNat : Int) = 47 := by rw [hk]; rfl
     clear hB
     go_wp2
     refine ⟨⟨i + 1, Or.inr ⟨by omega, rfl⟩, by simp, by omega, by first | rfl | trivial⟩, ?_⟩
     simp [intOf]; omega
   ·have q1 : ¬ ((K : Int) < 0) := by omega
    clear hB hk
    by_cases p3 : s[i] = 47
    ·have p2 : ((s[i]).toNat : Int) = 47 := by rw [p3]; rfl
     go_wp2
     refine ⟨⟨i + 1, Or.inr ⟨by omega, rfl⟩, by simp, by omega, by first | rfl | trivial⟩, ?_⟩
     simp [intOf]; omega
    ·have p2 : ¬ ((s[i]).toNat : Int) = 47 := fun h => p3 (UInt8.toNat.inj (by show _ = 47; omega))
     go_wp2
     refine ⟨⟨i + 1, Or.inr ⟨by omega, rfl⟩, by simp, by omega, by first | rfl | trivial⟩, ?_⟩
     simp [intOf]; omega
  ·have hge : ¬ (i : Int) < (s.size : Int) := by omega
   rcases hcase with ⟨hc, rfl⟩ | ⟨hc, rfl⟩
   ·omega
   have q1 : ¬ ((K : Int) < 0) := by omega
   have q2 : (K : Int) ≤ (s.size : Int) := by omega
   have q3 : (K : Int) + 1 ≤ (s.size : Int) := by omega
   have q4 : (s.size : Int) ≤ 9223372036854775807 := by omega
   clear hB hk
   have hO := HO.out
   have hU := HU.out
   go_wp2_with fail
   go_fit (HN.out _)
   rintro e w2 ⟨rfl, b1⟩
   have sz := b1.size
   replace kr := kr.below b1
   replace bb := Below.after bb b1
   clear b1
   go_wp2_with fail
   go_fit (HD.out _)
   rintro e w3 ⟨rfl, b1⟩
   obtain ⟨kn, b1⟩ := al1 b1
   have sz := b1.size
   replace kr := kr.below b1
   replace bb := Below.after bb b1
   clear b1
   have tn := kn.lt
   have cr_0 := cel3_0 kr
   have fr_1 := Cel.frozen kr 0
   have cr_2 := cel3_1 kr
   have fr_3 := Cel.frozen kr 1
   have cr_4 := cel3_2 kr
   have fr_5 := Cel.frozen kr 2
   have cr_6 := cel3_0 (kr.alloc (.cells #[.bool false, .string { data := #[] }] 24))
   have fr_7 := Cel.frozen (kr.alloc (.cells #[.bool false, .string { data := #[] }] 24)) 0
   have cr_8 := cel3_1 (kr.alloc (.cells #[.bool false, .string { data := #[] }] 24))
   have fr_9 := Cel.frozen (kr.alloc (.cells #[.bool false, .string { data := #[] }] 24)) 1
   have cr_10 := cel3_2 (kr.alloc (.cells #[.bool false, .string { data := #[] }] 24))
   have fr_11 := Cel.frozen (kr.alloc (.cells #[.bool false, .string { data := #[] }] 24)) 2
   go_wp2
   exact post_q1 (p := 2) (u := 3) (by kernel_rfl) rfl rfl rfl ((((kr.alloc _).set 0 _).set 1 _).set 2 _) ⟨rfl, bset (bset (bset (ba bb _) (by omega) 0 _) (by omega) 1 _) (by omega) 2 _⟩
theorem rparseq_b4 (s o u : ByteArray) (hz : s.size ≤ 9223372036854775807) (K : Nat) (hK : K < s.size) (hB : ∀ (i : Nat) (h : i < K), ¬ s[i]'(Nat.lt_trans h hK) = 47) (hk : s[K]'hK = 47) (HO : Hid (s.extract 0 K = o)) (HU : Hid (s.extract (K + 1) s.size = u)) (nN : Bool) (nS : ByteArray) (rN : Bool) (dS rS rD : ByteArray) (hd : dS.toList.isEmpty = false) (w : World)
  (HN : Hid (∀ w1, Calls Tryz.prog 187 #[.string o] w1 (Re w1 (.tuple #[.agg #[.bool nN, .string nS], .int .i64 0]))))
  (HD : Hid (∀ w1, Calls Tryz.prog 187 #[.string u] w1 (Re w1 (.tuple #[.agg #[.bool false, .string dS], .int .i64 0]))))
  (HL : Hid (∀ w1, Calls Tryz.prog 57 #[.agg #[.bool nN, .string nS], .agg #[.bool false, .string dS]] w1 (Re w1 ((qa1 rN rS rD))))) :
  Calls Tryz.prog 153 #[.string s] w (Re w (.tuple #[(qa1 rN rS rD), .int .i64 0])) := by
 go_enter Tryz.func153, Tryz.ntmps153
 go_wp2_with fail
 obtain ⟨w1, hw, kr, b1⟩ := mk1 w (ql1 false eB eB) 26
 rw [← hw]
 clear hw
 have sz := b1.size
 have tr := kr.lt
 have bb := b1
 clear b1
 go_wp2
 go_loopw [4, 5] (fun av iv wr => ∃ i : Nat, ((i ≤ K ∧ av = .int .i64 (-1)) ∨ (K < i ∧ av = .int .i64 (K : Int))) ∧ iv = .int .i64 (i : Int) ∧ i ≤ s.size ∧ wr = w1) (fun _ iv _ => s.size - (intOf iv).toNat)
 case atStart => exact ⟨0, Or.inl ⟨by omega, rfl⟩, rfl, by omega, rfl⟩
 case round =>
  obtain ⟨i, hcase, rfl, hi, rfl⟩ := hrel
  by_cases hlt : i < s.size
  ·have hlt' : (i : Int) < (s.size : Int) := by omega
   rcases hcase with ⟨hc, rfl⟩ | ⟨hc, rfl⟩
   ·by_cases hk0 : i < K
    ·have p3 := hB i hk0
     have p2 : ¬ ((s[i]).toNat : Int) = 47 := fun h => p3 (UInt8.toNat.inj (by show _ = 47; omega))
     clear hB hk
     go_wp2
     refine ⟨⟨i + 1, Or.inl ⟨by omega, rfl⟩, by simp, by omega, by first | rfl | trivial⟩, ?_⟩
     simp [intOf]; omega
    ·obtain rfl : i = K := by omega
     have p2 : ((s[i]).toNat : Int) = 47 := by rw [hk]; rfl
     clear hB
     go_wp2
     refine ⟨⟨i + 1, Or.inr ⟨by omega, rfl⟩, by simp, by omega, by first | rfl | trivial⟩, ?_⟩
     simp [intOf]; omega
   ·have q1 : ¬ ((K : Int) < 0) := by omega
    clear hB hk
    by_cases p3 : s[i] = 47
    ·have p2 : ((s[i]).toNat : Int) = 47 := by rw [p3]; rfl
     go_wp2
     refine ⟨⟨i + 1, Or.inr ⟨by omega, rfl⟩, by simp, by omega, by first | rfl | trivial⟩, ?_⟩
     simp [intOf]; omega
    ·have p2 : ¬ ((s[i]).toNat : Int) = 47 := fun h => p3 (UInt8.toNat.inj (by show _ = 47; omega))
     go_wp2
     refine ⟨⟨i + 1, Or.inr ⟨by omega, rfl⟩, by simp, by omega, by first | rfl | trivial⟩, ?_⟩
     simp [intOf]; omega
  ·have hge : ¬ (i : Int) < (s.size : Int) := by omega
   rcases hcase with ⟨hc, rfl⟩ | ⟨hc, rfl⟩
   ·omega
   have q1 : ¬ ((K : Int) < 0) := by omega
   have q2 : (K : Int) ≤ (s.size : Int) := by omega
   have q3 : (K : Int) + 1 ≤ (s.size : Int) := by omega
   have q4 : (s.size : Int) ≤ 9223372036854775807 := by omega
   clear hB hk
   have hO := HO.out
   have hU := HU.out
   go_wp2_with fail
   go_fit (HN.out _)
   rintro e w2 ⟨rfl, b1⟩
   have sz := b1.size
   replace kr := kr.below b1
   replace bb := Below.after bb b1
   clear b1
   go_wp2_with fail
   go_fit (HD.out _)
   rintro e w3 ⟨rfl, b1⟩
   obtain ⟨kn, b1⟩ := al1 b1
   have sz := b1.size
   replace kr := kr.below b1
   replace bb := Below.after bb b1
   clear b1
   have tn := kn.lt
   obtain ⟨cn_0, cn_1⟩ := xk2 kn
   obtain ⟨cn_2, cn_3⟩ := xk2 (kn.alloc (.cells #[.bool false, .string dS] 24))
   go_wp2_with fail
   clear cn_0 cn_1 cn_2 cn_3
   go_fit (HL.out _)
   rintro e w4 ⟨rfl, b1⟩
   obtain ⟨kd, b1⟩ := al1 b1
   have sz := b1.size
   replace kr := kr.below b1
   replace kn := kn.below b1
   replace bb := Below.after bb b1
   clear b1
   have td := kd.lt
   have cr_0 := cel3_0 kr
   have fr_1 := Cel.frozen kr 0
   have cr_2 := cel3_1 kr
   have fr_3 := Cel.frozen kr 1
   have cr_4 := cel3_2 kr
   have fr_5 := Cel.frozen kr 2
   go_wp2
   exact post_q1 (p := 2) (u := 3) (by kernel_rfl) rfl rfl rfl (((kr.set 0 _).set 1 _).set 2 _) ⟨rfl, bset (bset (bset bb (by omega) 0 _) (by omega) 1 _) (by omega) 2 _⟩
end Go.Proofs.YtnplifkgeeicjaaGreatDoor
namespace Go.Proofs.YtnplifkgeeicjaaGreatDoor
open Go.RowKit Go.Shelf
theorem bd_sgn {n : Bool} {V : Nat} (h : V < B64 ^ 4) : Bd (sgn n V) 32 := by
 unfold Bd
 have e : B64 ^ 4 = 256 ^ 32 := by unfold B64; decide
 have a : (sgn n V).natAbs = V := by cases n <;> simp [sgn]
 rw [a, ← e]
 exact h
theorem parse_two (s : ByteArray) : ∃ n E : Int, (E = 0 ∨ E = 4) ∧ Bd n 32 ∧
  (∀ w, Calls Tryz.prog 216 #[.string s] w (Re w (.tuple #[zI n, .int .i64 E]))) ∧
  (∀ w, Calls Tryz.prog 187 #[.string s] w (Re w (.tuple #[zI n, .int .i64 E]))) := by
 by_cases hn : 0 < s.size ∧ lm (byts s) 0 = 45
 ·by_cases h0 : s = ⟨#[45, 48]⟩
  ·subst h0
   exact ⟨0, 4, Or.inr rfl, Bd.zero _, fun w => parse_m0 w, fun w => rpbad_neg _ w hn _ rfl (Or.inr (Or.inr (by decide)))⟩
  ·by_cases h : NatS (byts (s.extract 1 s.size))
   ·have h' := h
    obtain ⟨a1, a2, a3, a4⟩ := h'
    have hb := dec_lt4 h
    rw [byts_length] at a1 a2 a3 a4 hb
    have h3 : lm (byts (s.extract 1 s.size)) 0 = 48 → False := fun e => by
     have l1 := a3 e
     have l2 : (s.extract 1 s.size).size = s.size - 1 := by rw [ByteArray.size_extract]; omega
     have l3 : s.size = 2 := by omega
     rw [l3] at e
     exact h0 (two_bytes _ l3 hn.2 e)
    exact ⟨_, 0, Or.inl rfl, bd_sgn hb, fun w => parse_neg s w hn h0 h, fun w => rparse_neg s w hn _ rfl a1 a2 h3 true ⟨fun _ => a4, fun _ => rfl⟩⟩
   ·refine ⟨0, 4, Or.inr rfl, Bd.zero _, fun w => parse_negbad s w hn h0 h, fun w => ?_⟩
    by_cases hb : (s.extract 1 s.size).size < 1 ∨ 60 < (s.extract 1 s.size).size ∨ lm (byts (s.extract 1 s.size)) 0 = 48
    ·exact rpbad_neg s w hn _ rfl hb
    ·refine rparse_neg s w hn _ rfl (by omega) (by omega) (by omega) false ⟨(fun h => by cases h), fun a => absurd ?_ h⟩
     unfold NatS
     rw [byts_length]
     exact ⟨by omega, by omega, by omega, a⟩
 ·by_cases h : NatS (byts s)
  ·have h' := h
   obtain ⟨a1, a2, a3, a4⟩ := h'
   have hb := dec_lt4 h
   rw [byts_length] at a1 a2 a3 a4 hb
   exact ⟨_, 0, Or.inl rfl, bd_sgn hb, fun w => parse_pos s w hn h, fun w => rparse_pos s w hn a1 a2 a3 true ⟨fun _ => a4, fun _ => rfl⟩⟩
  ·refine ⟨0, 4, Or.inr rfl, Bd.zero _, fun w => parse_posbad s w hn h, fun w => ?_⟩
   by_cases hb : s.size < 1 ∨ 60 < s.size ∨ (lm (byts s) 0 = 48 ∧ 1 < s.size)
   ·exact rpbad_pos s w hn hb
   ·refine rparse_pos s w hn (by omega) (by omega) (by omega) false ⟨(fun h => by cases h), fun a => absurd ?_ h⟩
    unfold NatS
    rw [byts_length]
    exact ⟨by omega, by omega, by omega, a⟩
theorem occ1 (l : List UInt8) (c : UInt8) (i : Nat) : Lib.occAt l [c] i = true ↔ l[i]? = some c := by
 unfold Lib.occAt
 have h : (l.drop i)[0]? = l[i]? := by rw [List.getElem?_drop, Nat.add_zero]
 rw [← h]
 cases l.drop i with
 | nil => simp
 | cons a t =>
  have e : List.isPrefixOf [c] (a :: t) = (c == a) := by simp [List.isPrefixOf]
  rw [e, beq_iff_eq, List.getElem?_cons_zero, Option.some.injEq]
  exact eq_comm
theorem at47 (s : ByteArray) (i : Nat) (h : i < s.size) : s.data.toList[i]? = some 47 ↔ s[i]'h = 47 := by
 have h' : i < s.data.size := h
 rw [Array.getElem?_toList, Array.getElem?_eq_getElem h', Option.some.injEq]
 rfl
theorem where47 (s : ByteArray) : (Lib.index s.data.toList [47] = -1 ∧ ∀ (i : Nat) (h : i < s.size), ¬ s[i]'h = 47) ∨ ∃ (K : Nat) (hK : K < s.size), Lib.index s.data.toList [47] = (K : Int) ∧ s[K]'hK = 47 ∧ ∀ (i : Nat) (h : i < K), ¬ s[i]'(Nat.lt_trans h hK) = 47 := by
 have hl : s.data.toList.length = s.size := by
  show s.data.toList.length = s.data.size
  exact Array.length_toList
 rcases Lib.index_spec s.data.toList [47] with ⟨h1, h2⟩ | ⟨K, h1, h2, h3, h4⟩
 ·refine Or.inl ⟨h1, fun i h e => ?_⟩
  have := h2 i (by omega)
  rw [(occ1 _ _ _).2 ((at47 s i h).2 e)] at this
  cases this
 ·have h5 := (occ1 _ _ _).1 h3
  have hK : K < s.size := by
   have := (List.getElem?_eq_some_iff.1 h5).1
   omega
  refine Or.inr ⟨K, hK, h1, (at47 s K hK).1 h5, fun i h e => ?_⟩
  have := h4 i h
  rw [(occ1 _ _ _).2 ((at47 s i (Nat.lt_trans h hK)).2 e)] at this
  cases this
theorem qreads (s : ByteArray) (hz : s.size ≤ 9223372036854775807) : ∃ (rN : Bool) (rS rD : ByteArray) (E : Int),
  (∀ w, Tab w → Calls Tryz.prog 184 #[.string s] w (Re w (.tuple #[(qa1 rN rS rD), .int .i64 E]))) ∧
  (∀ w, Calls Tryz.prog 153 #[.string s] w (Re w (.tuple #[(qa1 rN rS rD), .int .i64 E]))) := by
 obtain ⟨nf, sf, hf, hok, hsz, hzz, hnat, hneg, hstr, hnn, hfn⟩ := named0
 obtain ⟨nq, sq, dq, hq, -⟩ := named3
 rcases where47 s with ⟨h1, hA⟩ | ⟨K, hK, h1, hk, hB⟩
 ·obtain ⟨n, E, hE, bn, P1, P2⟩ := parse_two s
  simp only [hf] at P1 P2
  have zn : (sf n).size ≤ 32 := hsz _ _ bn
  rcases hE with rfl | rfl
  ·refine ⟨nf n, sf n, ⟨#[1]⟩, 0, fun w hT => ?_, fun w => rparseq_a1 s hz hA (nf n) (sf n) w P2⟩
   refine qparse_one (nf n) (nf n) s s ⟨#[]⟩ (sf n) ⟨#[1]⟩ (sf n) ⟨#[1]⟩ (isE (by rw [natOf_one]; omega)) w (fun w1 b => scut1_none s w1 h1) P1 (fun w1 => ?_) (fun w1 b => ?_)
   ·have := parse_ptxt false ⟨#[1]⟩ w1 ok_one (by decide)
    rwa [ptxt_one] at this
   ·have := make_ok (nf n) false (sf n) ⟨#[1]⟩ w1 (hT.below b) (hok n) ok_one (K := 32) (by omega) zn (by decide) (by rw [natOf_one]; omega)
    have e1 : zOf false ⟨#[1]⟩ = 1 := by rw [zOf_false, natOf_one]; rfl
    have e2 : Rat.divInt n 1 = (n : Rat) := by
     rw [show (1 : Int) = ((1 : Nat) : Int) from rfl, Rat.divInt_ofNat]
     exact Rat.ext (Q.mk_low (by omega) (by simp)).1 (Q.mk_low (by omega) (by simp)).2
    rw [hzz, e1, e2, qI_int n (hf n)] at this
    exact this
  ·exact ⟨false, { data := #[] }, { data := #[] }, 4, fun w hT => qparse_nbad0 (nf n) s s ⟨#[]⟩ (sf n) 4 (by omega) w (fun w1 b => scut1_none s w1 h1) P1, fun w => rparseq_a0 s hz hA (nf n) (sf n) 4 (by omega) w P2⟩
 ·obtain ⟨n, E1, hE1, bn, P1, P2⟩ := parse_two (s.extract 0 K)
  obtain ⟨d, E2, hE2, bd, R1, R2⟩ := parse_two (s.extract (K + 1) s.size)
  simp only [hf] at P1 P2 R1 R2
  have zn : (sf n).size ≤ 32 := hsz _ _ bn
  have zd : (sf d).size ≤ 32 := hsz _ _ bd
  have HC := fun (w1 : World) => scut1_hit s K w1 h1 (by omega) hz
  rcases hE1 with rfl | rfl
  ·rcases hE2 with rfl | rfl
   ·cases hd : nf d with
    | true =>
     rw [hd] at R1 R2
     exact ⟨false, { data := #[] }, { data := #[] }, 4, fun w hT => qparse_dbad2 (nf n) s _ _ (sf n) (sf d) w (fun w1 b => HC w1) P1 R1, fun w => rparseq_b2 s _ _ hz K hK hB hk (shut rfl) (shut rfl) (nf n) (sf n) (sf d) w P2 R2⟩
    | false =>
     rw [hd] at R1 R2
     have okd := hok d
     rw [hd] at okd
     by_cases h0 : 0 < natOf (sf d)
     ·have hl := fun w1 => low_any (nf n) false (sf n) (sf d) w1 (hok n) okd (by omega) (by omega) h0
      have hm := fun (w1 : World) (hT : Tab w1) => make_ok (nf n) false (sf n) (sf d) w1 hT (hok n) okd (K := 32) (by omega) zn zd h0
      simp only [hq] at hl hm
      exact ⟨_, _, _, 0, fun w hT => qparse_cut (nf n) _ s _ _ (sf n) (sf d) _ _ (isE h0) w (fun w1 b => HC w1) P1 R1 (fun w1 b => hm w1 (hT.below b)), fun w => rparseq_b4 s _ _ hz K hK hB hk (shut rfl) (shut rfl) (nf n) (sf n) _ (sf d) _ _ (isE h0) w P2 R2 hl⟩
     ·have e0 : sf d = { data := #[] } := by
       by_cases hs : 0 < (sf d).size
       ·have := natOf_pos okd.1 hs
        omega
       ·exact ByteArray.size_eq_zero_iff.1 (by omega)
      rw [e0] at R1 R2
      exact ⟨false, { data := #[] }, { data := #[] }, 4, fun w hT => qparse_dbad3 (nf n) s _ _ (sf n) w (fun w1 b => HC w1) P1 R1, fun w => rparseq_b3 s _ _ hz K hK hB hk (shut rfl) (shut rfl) (nf n) (sf n) w P2 R2⟩
   ·exact ⟨false, { data := #[] }, { data := #[] }, 4, fun w hT => qparse_dbad1 (nf n) s _ _ (sf n) (nf d) (sf d) 4 (by omega) w (fun w1 b => HC w1) P1 R1, fun w => rparseq_b1 s _ _ hz K hK hB hk (shut rfl) (shut rfl) (nf n) (sf n) (nf d) (sf d) 4 (by omega) w P2 R2⟩
  ·exact ⟨false, { data := #[] }, { data := #[] }, 4, fun w hT => qparse_nbad1 (nf n) s _ _ (sf n) 4 (by omega) w (fun w1 b => HC w1) P1, fun w => rparseq_b0 s _ _ hz K hK hB hk (shut rfl) (shut rfl) (nf n) (sf n) (nf d) (sf d) 4 E2 (by omega) w P2 R2⟩
end Go.Proofs.YtnplifkgeeicjaaGreatDoor
