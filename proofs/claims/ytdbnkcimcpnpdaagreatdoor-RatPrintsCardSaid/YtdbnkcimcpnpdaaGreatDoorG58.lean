/-
  Package rat: Parse, walked; gussetref03: Text, walked.
  Package rat: Parse of what Print prints; gussetref03.Text of any number.
-/
import Derived.Test.YtdbnkcimcpnpdaaGreatDoorG42
import Derived.Test.YtdbnkcimcpnpdaaGreatDoorG45
import Derived.Test.YtdbnkcimcpnpdaaGreatDoorG57
import Derived.Test.YtdbnkcimcpnpdaaGreatDoorG59
namespace Go.Proofs.YtdbnkcimcpnpdaaGreatDoor
open Go.RowKit Go.Shelf

set_option maxRecDepth 100000 in
set_option maxHeartbeats 4000000 in
theorem qparse_cut (nN rN : Bool) (s o u nS dS rS rD : ByteArray) (hd : dS.toList.isEmpty = false) (w : World)
  (HC : Hid (∀ w1, Below w.heap.size w w1 → Calls Tryz.prog 53 #[.string s, .string ⟨#[47]⟩] w1 fun e w' => e = .returned (.tuple #[.string o, .string u, .bool true]) ∧ Below w1.heap.size w1 w'))
  (HN : Hid (∀ w1, Calls Tryz.prog 54 #[.string o] w1 fun e w' => e = .returned (.tuple #[.agg #[.bool nN, .string nS], .int .i64 0]) ∧ Below w1.heap.size w1 w'))
  (HD : Hid (∀ w1, Calls Tryz.prog 54 #[.string u] w1 fun e w' => e = .returned (.tuple #[.agg #[.bool false, .string dS], .int .i64 0]) ∧ Below w1.heap.size w1 w'))
  (HM : Hid (∀ w1, Below w.heap.size w w1 → Calls Tryz.prog 36 #[.agg #[.bool nN, .string nS], .agg #[.bool false, .string dS]] w1 fun e w' => e = .returned (.tuple #[.agg #[.bool rN, .string rS, .string rD], .int .i64 0]) ∧ Below w1.heap.size w1 w')) :
  Calls Tryz.prog 23 #[.string s] w fun e w' => e = .returned (.tuple #[.agg #[.bool rN, .string rS, .string rD], .int .i64 0]) ∧ Below w.heap.size w w' := by
 go_enter Tryz.func23, Tryz.ntmps23
 go_wp2_with fail
 go_fit (HC.out _ (ba (Below.refl _ _) _))
 rintro e w1 ⟨rfl, b1⟩
 obtain ⟨kr, b1⟩ := al1 b1
 have sz := b1.size
 have bb := b1
 clear b1
 have tr := kr.lt
 go_wp2_with fail
 go_fit (HN.out _)
 rintro e w2 ⟨rfl, b1⟩
 have sz := b1.size
 replace kr := kr.below b1
 replace bb := Below.after bb b1
 clear b1
 go_wp2_with fail
 go_fit (HD.out _)
 rintro e w3 ⟨rfl, b1⟩
 obtain ⟨kn, b1⟩ := al1 b1
 have sz := b1.size
 replace kr := kr.below b1
 replace bb := Below.after bb b1
 clear b1
 have tn := kn.lt
 have cn_0 := cel2_0' kn
 have cn_1 := cel2_1' kn
 have cn_2 := cel2_0' (kn.alloc (.cells #[.bool false, .string dS] 24))
 have cn_3 := cel2_1' (kn.alloc (.cells #[.bool false, .string dS] 24))
 go_wp2_with fail
 clear cn_0 cn_1 cn_2 cn_3
 go_fit (HM.out _ (ba bb _))
 rintro e w4 ⟨rfl, b1⟩
 obtain ⟨kd, b1⟩ := al1 b1
 have sz := b1.size
 replace kr := kr.below b1
 replace kn := kn.below b1
 replace bb := Below.after bb b1
 clear b1
 have td := kd.lt
 have cr_0 := cel3_0 kr
 have fr_1 := Cel.frozen kr 0
 have cr_2 := cel3_1 kr
 have fr_3 := Cel.frozen kr 1
 have cr_4 := cel3_2 kr
 have fr_5 := Cel.frozen kr 2
 go_wp2
 exact post_q1 (p := 2) (u := 3) (by kernel_rfl) rfl rfl rfl (((kr.set 0 _).set 1 _).set 2 _) ⟨rfl, bset (bset (bset bb (by omega) 0 _) (by omega) 1 _) (by omega) 2 _⟩
set_option maxRecDepth 100000 in
set_option maxHeartbeats 4000000 in
theorem qparse_one (nN rN : Bool) (s o u nS dS rS rD : ByteArray) (hd : dS.toList.isEmpty = false) (w : World)
  (HC : Hid (∀ w1, Below w.heap.size w w1 → Calls Tryz.prog 53 #[.string s, .string ⟨#[47]⟩] w1 fun e w' => e = .returned (.tuple #[.string o, .string u, .bool false]) ∧ Below w1.heap.size w1 w'))
  (HN : Hid (∀ w1, Calls Tryz.prog 54 #[.string o] w1 fun e w' => e = .returned (.tuple #[.agg #[.bool nN, .string nS], .int .i64 0]) ∧ Below w1.heap.size w1 w'))
  (HD : Hid (∀ w1, Calls Tryz.prog 54 #[.string ⟨#[49]⟩] w1 fun e w' => e = .returned (.tuple #[.agg #[.bool false, .string dS], .int .i64 0]) ∧ Below w1.heap.size w1 w'))
  (HM : Hid (∀ w1, Below w.heap.size w w1 → Calls Tryz.prog 36 #[.agg #[.bool nN, .string nS], .agg #[.bool false, .string dS]] w1 fun e w' => e = .returned (.tuple #[.agg #[.bool rN, .string rS, .string rD], .int .i64 0]) ∧ Below w1.heap.size w1 w')) :
  Calls Tryz.prog 23 #[.string s] w fun e w' => e = .returned (.tuple #[.agg #[.bool rN, .string rS, .string rD], .int .i64 0]) ∧ Below w.heap.size w w' := by
 go_enter Tryz.func23, Tryz.ntmps23
 go_wp2_with fail
 go_fit (HC.out _ (ba (Below.refl _ _) _))
 rintro e w1 ⟨rfl, b1⟩
 obtain ⟨kr, b1⟩ := al1 b1
 have sz := b1.size
 have bb := b1
 clear b1
 have tr := kr.lt
 go_wp2_with fail
 go_fit (HN.out _)
 rintro e w2 ⟨rfl, b1⟩
 have sz := b1.size
 replace kr := kr.below b1
 replace bb := Below.after bb b1
 clear b1
 go_wp2_with fail
 go_fit (HD.out _)
 rintro e w3 ⟨rfl, b1⟩
 obtain ⟨kn, b1⟩ := al1 b1
 have sz := b1.size
 replace kr := kr.below b1
 replace bb := Below.after bb b1
 clear b1
 have tn := kn.lt
 have cn_0 := cel2_0' kn
 have cn_1 := cel2_1' kn
 have cn_2 := cel2_0' (kn.alloc (.cells #[.bool false, .string dS] 24))
 have cn_3 := cel2_1' (kn.alloc (.cells #[.bool false, .string dS] 24))
 go_wp2_with fail
 clear cn_0 cn_1 cn_2 cn_3
 go_fit (HM.out _ (ba bb _))
 rintro e w4 ⟨rfl, b1⟩
 obtain ⟨kd, b1⟩ := al1 b1
 have sz := b1.size
 replace kr := kr.below b1
 replace kn := kn.below b1
 replace bb := Below.after bb b1
 clear b1
 have td := kd.lt
 have cr_0 := cel3_0 kr
 have fr_1 := Cel.frozen kr 0
 have cr_2 := cel3_1 kr
 have fr_3 := Cel.frozen kr 1
 have cr_4 := cel3_2 kr
 have fr_5 := Cel.frozen kr 2
 go_wp2
 exact post_q1 (p := 2) (u := 3) (by kernel_rfl) rfl rfl rfl (((kr.set 0 _).set 1 _).set 2 _) ⟨rfl, bset (bset (bset bb (by omega) 0 _) (by omega) 1 _) (by omega) 2 _⟩
set_option maxRecDepth 100000 in
set_option maxHeartbeats 4000000 in
theorem rtextq_one (n0 : Bool) (s0 d0 t : ByteArray) (h : (d0.toList == [1]) = true) (w : World)
  (H1 : Hid (∀ w1, Calls Tryz.prog 59 #[.agg #[.bool n0, .string s0]] w1 fun e w' => e = .returned (.string t) ∧ Below w1.heap.size w1 w')) :
  Calls Tryz.prog 27 #[.agg #[.bool n0, .string s0, .string d0]] w fun e w' => e = .returned (.string t) ∧ Below w.heap.size w w' := by
 go_enter Tryz.func27, Tryz.ntmps27
 go_wp2_with fail
 go_fit (H1.out _)
 rintro e w1 ⟨rfl, b1⟩
 obtain ⟨ka, b1⟩ := al1 b1
 have sz := b1.size
 have bb := b1
 clear b1
 have ta := ka.lt
 have ca_0 := cel3_0 ka
 have ca_1 := cel3_1 ka
 have ca_2 := cel3_2 ka
 go_wp2
 go_ret
 exact ⟨rfl, bb⟩
set_option maxRecDepth 100000 in
set_option maxHeartbeats 4000000 in
theorem rtextq_two (n0 : Bool) (s0 d0 t v : ByteArray) (h : (d0.toList == [1]) = false) (ht : t.size ≤ 10000) (hv : v.size ≤ 10000) (w : World)
  (H1 : Hid (∀ w1, Calls Tryz.prog 59 #[.agg #[.bool n0, .string s0]] w1 fun e w' => e = .returned (.string t) ∧ Below w1.heap.size w1 w'))
  (H2 : Hid (∀ w1, Calls Tryz.prog 59 #[.agg #[.bool false, .string d0]] w1 fun e w' => e = .returned (.string v) ∧ Below w1.heap.size w1 w')) :
  Calls Tryz.prog 27 #[.agg #[.bool n0, .string s0, .string d0]] w fun e w' => e = .returned (.string ((t ++ ⟨#[47]⟩) ++ v)) ∧ Below w.heap.size w w' := by
 go_enter Tryz.func27, Tryz.ntmps27
 go_wp2_with fail
 go_fit (H1.out _)
 rintro e w1 ⟨rfl, b1⟩
 obtain ⟨ka, b1⟩ := al1 b1
 have sz := b1.size
 have bb := b1
 clear b1
 have ta := ka.lt
 have ca_0 := cel3_0 ka
 have ca_1 := cel3_1 ka
 have ca_2 := cel3_2 ka
 go_wp2_with fail
 clear ca_0 ca_1 ca_2
 go_fit (rden_any _ _ _ _)
 rintro e w2 ⟨rfl, b1⟩
 have sz := b1.size
 replace ka := ka.below b1
 replace bb := Below.after bb b1
 clear b1
 go_wp2_with fail
 go_fit (H2.out _)
 rintro e w3 ⟨rfl, b1⟩
 have sz := b1.size
 replace ka := ka.below b1
 replace bb := Below.after bb b1
 clear b1
 go_wp2
 go_ret
 exact ⟨rfl, bb⟩
end Go.Proofs.YtdbnkcimcpnpdaaGreatDoor
namespace Go.Proofs.YtdbnkcimcpnpdaaGreatDoor
open Go.RowKit Go.Shelf

theorem MaxL.below {w w' : World} (h : MaxL w) (hb : Below w.heap.size w w') : MaxL w' := by
 obtain ⟨m, hm⟩ := h
 refine ⟨m, ?_⟩
 rw [hb.cell (World.block_lt_of_cell? w _ hm)]
 exact hm
theorem qV_is {n : Bool} {s d : ByteArray} (h : OkQ n s d) : (.agg #[.bool n, .string s, .string d] : Value) = qI (qOf n s d) := by
 unfold qI
 rw [h.parts.1, h.parts.2.1, h.parts.2.2]
theorem dt_mem {V t : Nat} (h : t ∈ dt V) : 48 ≤ t ∧ t < 58 := by
 unfold dt at h
 rw [List.mem_reverse, List.mem_map] at h
 obtain ⟨x, hx, rfl⟩ := h
 have := M.digs_lt (b := 10) (by omega) V x hx
 omega
theorem strB_no {l : List Nat} (h : ∀ t ∈ l, 45 = t ∨ (48 ≤ t ∧ t < 58)) : ∀ x ∈ (strB l).data.toList, x ≠ 47 := by
 intro x hx e
 unfold strB at hx
 rw [List.mem_map] at hx
 obtain ⟨t, ht, rfl⟩ := hx
 have h1 := h t ht
 have h2 := congrArg UInt8.toNat e
 rw [UInt8.toNat_ofNat'] at h2
 have h3 : (47 : UInt8).toNat = 47 := rfl
 rw [h3] at h2
 omega
theorem ptxt_no (n : Bool) (s : ByteArray) : ∀ x ∈ (ptxt n s).data.toList, x ≠ 47 := by
 unfold ptxt
 split
 ·decide
 ·split
  ·refine strB_no fun t ht => ?_
   rcases List.mem_cons.1 ht with rfl | h
   ·exact Or.inl rfl
   ·exact Or.inr (dt_mem h)
  ·exact strB_no fun t ht => Or.inr (dt_mem ht)
theorem ba_eta (t : ByteArray) : (⟨t.data.toList.toArray⟩ : ByteArray) = t := rfl
theorem scut_plain (t : ByteArray) (w : World) (hm : MaxL w) (hz : t.size ≤ 100000) (h : ∀ x ∈ t.data.toList, x ≠ 47) :
  Calls Tryz.prog 53 #[.string t, .string ⟨#[47]⟩] w fun e w' => e = .returned (.tuple #[.string t, .string ⟨#[]⟩, .bool false]) ∧ Below w.heap.size w w' := by
 have := strings_Cut t ⟨#[47]⟩ w (by omega) hm
 rw [show (ByteArray.mk #[47]).data.toList = [47] from rfl, cut_none 47 _ h] at this
 refine this.mono ?_
 rintro e w' ⟨rfl, n, rfl⟩
 exact ⟨rfl, below_drewN (Below.refl _ _) n⟩
theorem scut_two (t u : ByteArray) (w : World) (hm : MaxL w) (hz : t.size ≤ 100000) (hy : u.size ≤ 100000) (h : ∀ x ∈ t.data.toList, x ≠ 47) :
  Calls Tryz.prog 53 #[.string ((t ++ ⟨#[47]⟩) ++ u), .string ⟨#[47]⟩] w fun e w' => e = .returned (.tuple #[.string t, .string u, .bool true]) ∧ Below w.heap.size w w' := by
 have hs : ((t ++ ⟨#[47]⟩) ++ u).size < 4294967281 := by
  rw [app_size, app_size]
  have : (ByteArray.mk #[47]).size = 1 := rfl
  omega
 have := strings_Cut ((t ++ ⟨#[47]⟩) ++ u) ⟨#[47]⟩ w hs hm
 have e : ((t ++ ⟨#[47]⟩) ++ u).data.toList = t.data.toList ++ 47 :: u.data.toList := by simp
 rw [show (ByteArray.mk #[47]).data.toList = [47] from rfl, e, cut_hit 47 _ _ h] at this
 refine this.mono ?_
 rintro e w' ⟨rfl, n, rfl⟩
 exact ⟨rfl, below_drewN (Below.refl _ _) n⟩
theorem parse_ptxt (n : Bool) (s : ByteArray) (w : World) (o : OkZ n s) (z : s.size ≤ 24) :
  Calls Tryz.prog 54 #[.string (ptxt n s)] w fun e w' => e = .returned (.tuple #[.agg #[.bool n, .string s], .int .i64 0]) ∧ Below w.heap.size w w' := parse_text n s w o z _ rfl
theorem ptxt_one : ptxt false ⟨#[1]⟩ = ⟨#[49]⟩ := by
 unfold ptxt
 rw [natOf_one]
 decide
theorem ok_one : OkZ false ⟨#[1]⟩ := ⟨(okS_strOf 1) |> fun h => by rwa [strOf_one] at h, fun h => by cases h⟩
theorem qparse_text (n : Bool) (s d : ByteArray) (w : World) (hT : Tab w) (hm : MaxL w) (o : OkQ n s d) (zs : s.size ≤ 24) (zd : d.size ≤ 24) :
  Calls Tryz.prog 23 #[.string (qtxt n s d)] w fun e w' => e = .returned (.tuple #[.agg #[.bool n, .string s, .string d], .int .i64 0]) ∧ Below w.heap.size w w' := by
 have HN := fun w1 => parse_ptxt n s w1 o.1 zs
 unfold qtxt
 by_cases h1 : natOf d = 1
 ·rw [if_pos h1]
  have ed : d = ⟨#[1]⟩ := (okS_one o.2.1).2 h1
  subst ed
  refine qparse_one n n _ _ _ s ⟨#[1]⟩ s ⟨#[1]⟩ (isE (by rw [natOf_one]; omega)) w (fun w1 b => scut_plain _ w1 (hm.below b) (Nat.le_trans (ptxt_size n s (by omega)) (by omega)) (ptxt_no n s)) HN (fun w1 => ?_) (fun w1 b => ?_)
  ·have := parse_ptxt false ⟨#[1]⟩ w1 ok_one (by decide)
   rwa [ptxt_one] at this
  ·have := make_ok n false s ⟨#[1]⟩ w1 (hT.below b) o.1 ok_one (K := 24) (by omega) zs (by decide) (by rw [natOf_one]; omega)
   rw [zOf_false, Rat.divInt_ofNat] at this
   rw [qV_is o]
   exact this
 ·rw [if_neg h1]
  have od : OkZ false d := ⟨o.2.1, fun h => by cases h⟩
  refine qparse_cut n n _ _ _ s d s d (isE o.2.2.1) w (fun w1 b => scut_two _ _ w1 (hm.below b) (Nat.le_trans (ptxt_size n s (by omega)) (by omega)) (Nat.le_trans (ptxt_size false d (by omega)) (by omega)) (ptxt_no n s)) HN (fun w1 => parse_ptxt false d w1 od zd) (fun w1 b => ?_)
  have := make_ok n false s d w1 (hT.below b) o.1 od (K := 24) (by omega) zs zd o.2.2.1
  rw [zOf_false, Rat.divInt_ofNat] at this
  rw [qV_is o]
  exact this
theorem rtextq_any (n : Bool) (s d : ByteArray) (w : World) (o : OkQ n s d) (zs : s.size ≤ 400) (zd : d.size ≤ 400) :
  Calls Tryz.prog 27 #[.agg #[.bool n, .string s, .string d]] w fun e w' => e = .returned (.string (qtxt n s d)) ∧ Below w.heap.size w w' := by
 have H1 := fun w1 => rtext_loop n s w1 zs _ rfl
 have H2 := fun w1 => rtext_loop false d w1 zd _ rfl
 unfold qtxt
 by_cases h1 : natOf d = 1
 ·rw [if_pos h1]
  have ed : d = ⟨#[1]⟩ := (okS_one o.2.1).2 h1
  subst ed
  exact rtextq_one n s ⟨#[1]⟩ (ptxt n s) (by rw [ByteArray.toList_eq]; rfl) w H1
 ·rw [if_neg h1]
  exact rtextq_two n s d (ptxt n s) (ptxt false d) (ne1 (fun e => h1 (by rw [e, natOf_one]))) (Nat.le_trans (ptxt_size n s zs) (by omega)) (Nat.le_trans (ptxt_size false d zd) (by omega)) w H1 H2
end Go.Proofs.YtdbnkcimcpnpdaaGreatDoor
