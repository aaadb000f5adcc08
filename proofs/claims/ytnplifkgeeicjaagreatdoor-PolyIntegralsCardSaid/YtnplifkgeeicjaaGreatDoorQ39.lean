import Derived.Test.YtnplifkgeeicjaaGreatDoorQ38
set_option maxRecDepth 100000
set_option maxHeartbeats 16000000
namespace Go.Proofs.YtnplifkgeeicjaaGreatDoor
open Go.RowKit
theorem X7 {w : World} {B : Nat} {t : TypeId} {N : Nat → Bool} {S D : Nat → ByteArray} (h : Be w B (Di (N 0) (S 0) (D 0) (N 1) (S 1) (D 1) (N 2) (S 2) (D 2) (N 3) (S 3) (D 3) (N 4) (S 4) (D 4) (N 5) (S 5) (D 5)) t) : RdQ w (some ⟨B, 0, none⟩) 6 N S D := by
 intro j hj
 refine ⟨B, 0, rfl, ?_⟩
 match j, hj with
 | 0, _ => exact ⟨h.cell 0, h.cell 1, h.cell 2⟩
 | 1, _ => exact ⟨h.cell 3, h.cell 4, h.cell 5⟩
 | 2, _ => exact ⟨h.cell 6, h.cell 7, h.cell 8⟩
 | 3, _ => exact ⟨h.cell 9, h.cell 10, h.cell 11⟩
 | 4, _ => exact ⟨h.cell 12, h.cell 13, h.cell 14⟩
 | 5, _ => exact ⟨h.cell 15, h.cell 16, h.cell 17⟩
theorem Nz (N : Nat → Bool) (S D : Nat → ByteArray) (w : World) (hT : Fi w) (hz : ∀ k, k < 6 → (S k).size ≤ 100 ∧ (D k).size ≤ 100) :
  Calls Tryz.prog 117 #[(Cp (N 0) (S 0) (D 0) (N 1) (S 1) (D 1) (N 2) (S 2) (D 2) (N 3) (S 3) (D 3) (N 4) (S 4) (D 4) (N 5) (S 5) (D 5))] w (Re w (.int .i64 (Br (fun k => Bt (N k) (S k) (D k)) 6 : Nat))) := by
 refine Sn _ _ _ _ _ _ _ _ _ _ _ _ _ _ _ _ _ _ _ w ?_
 intro w1 B b k
 exact Oi (some ⟨B, 0, none⟩) 6 6 N S D _ w1 (by omega) (X7 k) (fun k hk => hz k hk) (fun k w2 _ b2 => Nu (N k) (S k) (D k) w2 ((hT.b b).b b2))
theorem Ve (r : Nat → Rat) {K : Nat} (hK : K ≤ 100) (w : World) (hT : Fi w) (hb : ∀ k, k < 6 → Bq (r k) K) :
  Calls Tryz.prog 61 #[(Cp (Bs (r 0).num) (Bp (r 0).num) (Bf (r 0).den) (Bs (r 1).num) (Bp (r 1).num) (Bf (r 1).den) (Bs (r 2).num) (Bp (r 2).num) (Bf (r 2).den) (Bs (r 3).num) (Bp (r 3).num) (Bf (r 3).den) (Bs (r 4).num) (Bp (r 4).num) (Bf (r 4).den) (Bs (r 5).num) (Bp (r 5).num) (Bf (r 5).den))] w fun e w' => ∃ g m v a l c, e = .returned (.agg #[.slice (some ⟨g, 0, none⟩) 6 6, Iz false, .slice a l c]) ∧ Ck w' g 66 (6 * 2) (Na m v 6) ∧ Km w' m v (fun q => (r q).num * ((um r 6 / (r q).den : Nat) : Int)) (80 + 80) 6 ∧ NV w' false (.slice a l c) ((um r 6 : Nat) : Int) 80 ∧ Below w.heap.size w w' := by
 refine Qz _ _ _ _ _ _ _ _ _ _ _ _ _ _ _ _ _ _ _ _ _ _ w ?_
 intro w1 B b k
 exact Nq (some ⟨B, 0, none⟩) 6 6 r hK (by omega) w1 (hT.b b) (X7 (N := fun k => Bs (r k).num) (S := fun k => Bp (r k).num) (D := fun k => Bf (r k).den) k) hb
theorem Bez {N M : Int} (h1 : 0 < M) (h2 : M ≤ 1000) (h3 : 0 ≤ N) (h4 : N ≤ M) : Bq (Rat.divInt N M) 2 := by
 obtain ⟨m, rfl⟩ := Int.eq_ofNat_of_zero_le (Int.le_of_lt h1)
 show Bq (mkRat N m) 2
 exact Nj (by omega) (by unfold Bd; omega) (by unfold Bd; omega)
theorem Be.oth3 {w : World} {g g' : Nat} {cs : List Value} {t : TypeId} (h : Be w g cs t) (hne : g ≠ g') (x0 x1 x2 : Value) : Be (((w.setCell ⟨g', 0, none⟩ x0).setCell ⟨g', 1, none⟩ x1).setCell ⟨g', 2, none⟩ x2) g cs t :=
 ((h.w hne 0 x0).w hne 1 x1).w hne 2 x2
theorem Yc (n0 n1 n2 n3 n4 n5 : Bool) (s0 d0 s1 d1 s2 d2 s3 d3 s4 d4 s5 d5 : ByteArray) (a : Option Addr) (n cap : Nat) (N N' : Nat → Bool) (S D S' D' : Nat → ByteArray) (c : Nat → Nat) (w : World) (hn : n ≤ 1000000) (h : O7 w a n N S D N' S' D')
  (HF : Hid (∀ (w1 : World), Below w.heap.size w w1 → Calls Tryz.prog 117 #[(Cp n0 s0 d0 n1 s1 d1 n2 s2 d2 n3 s3 d3 n4 s4 d4 n5 s5 d5)] w1 (Re w1 (.int .i64 0))))
  (HC : Hid (∀ (k : Nat) (w1 : World) (B : Nat), k < n → Below w.heap.size w w1 → Be w1 B (Cn (N k) (S k) (D k) (N' k) (S' k) (D' k)) 26 → Calls Tryz.prog 118 #[.slice (some ⟨B, 0, none⟩) 2 2] w1 (Re w1 (.int .i64 (c k : Nat))))) :
  Calls Tryz.prog 59 #[(Cp n0 s0 d0 n1 s1 d1 n2 s2 d2 n3 s3 d3 n4 s4 d4 n5 s5 d5), .slice a n cap] w (Re w (.int .i64 (Br c n : Nat))) := by
 replace h := Ba h
 go_enter Tryz.func59, Tryz.ntmps59
 go_wp2_with (refine Je rfl 28 _ rfl w.heap.size rfl 28 _ (0, 0) _ (Be.new w (Di n0 s0 d0 n1 s1 d1 n2 s2 d2 n3 s3 d3 n4 s4 d4 n5 s5 d5) 28) Tryz.underlying28 rfl (by kernel_rfl) ?_)
 obtain ⟨w0, hq, kf, bb⟩ := D7 w (Di n0 s0 d0 n1 s1 d1 n2 s2 d2 n3 s3 d3 n4 s4 d4 n5 s5 d5) 28
 rw [← hq]
 clear hq kf
 go_fit (HF.out _ bb)
 rintro e w1 ⟨rfl, b1⟩
 replace bb := Ia bb b1
 clear b1
 go_wp2_with fail
 go_loopw [16] (fun i wr => Below w.heap.size w wr ∧ ∃ k : Nat, k ≤ n ∧ i = .int .i64 k ∧ Br c k = 0) (fun i _ => n - (intOf i).toNat)
 case atStart => exact ⟨bb, 0, by omega, rfl, rfl⟩
 case round =>
  clear bb
  obtain ⟨bb, k, hk, rfl, hz⟩ := hrel
  by_cases hkn : k < n
  ·obtain ⟨b, off, rfl, h0, h1, h2, h3, h4, h5⟩ := h.out.b bb k hkn
   go_wp2_with fail
   obtain ⟨w1, hw, kp, kq, b1⟩ := Gx wr (Cn (N k) (S k) (D k) (N' k) (S' k) (D' k)) (Cn (N k) (S k) (D k) (N' k) (S' k) (D' k)) 30 26
   rw [← hw]
   clear hw
   replace bb := Ia bb b1
   clear b1 h0 h1 h2 h3 h4 h5 kp
   go_fit (HC.out k _ _ hkn bb kq)
   rintro e w3 ⟨rfl, b1⟩
   replace bb := Ia bb b1
   clear b1 kq
   by_cases hc : c k = 0
   ·have hs : Br c (k + 1) = 0 := by unfold Br; rw [if_pos hz, hc]
    replace hs := Ba hs
    replace hz := Ba hz
    rw [hc]
    go_wp2
    exact ⟨⟨bb, k + 1, by omega, by go_num, hs.out⟩, by simp [intOf]; omega⟩
   ·have hs := Dv hz hc n hkn
    replace hs := Ba hs
    replace hz := Ba hz
    go_wp2
    go_ret
    exact ⟨by rw [hs.out]; rfl, bb⟩
  ·obtain rfl : k = n := by omega
   replace hz := Ba hz
   go_wp2
   go_ret
   exact ⟨by rw [hz.out]; rfl, bb⟩
theorem Uo (n0 n1 n2 n3 n4 n5 : Bool) (s0 d0 s1 d1 s2 d2 s3 d3 s4 d4 s5 d5 : ByteArray) (E : Nat) (hE : ¬ E = 0) (a : Option Addr) (n cap : Nat) (w : World)
  (HF : Hid (∀ (w1 : World), Below w.heap.size w w1 → Calls Tryz.prog 117 #[(Cp n0 s0 d0 n1 s1 d1 n2 s2 d2 n3 s3 d3 n4 s4 d4 n5 s5 d5)] w1 (Re w1 (.int .i64 (E : Nat))))) :
  Calls Tryz.prog 59 #[(Cp n0 s0 d0 n1 s1 d1 n2 s2 d2 n3 s3 d3 n4 s4 d4 n5 s5 d5), .slice a n cap] w (Re w (.int .i64 (E : Nat))) := by
 go_enter Tryz.func59, Tryz.ntmps59
 go_wp2_with (refine Je rfl 28 _ rfl w.heap.size rfl 28 _ (0, 0) _ (Be.new w (Di n0 s0 d0 n1 s1 d1 n2 s2 d2 n3 s3 d3 n4 s4 d4 n5 s5 d5) 28) Tryz.underlying28 rfl (by kernel_rfl) ?_)
 obtain ⟨w0, hq, kf, bb⟩ := D7 w (Di n0 s0 d0 n1 s1 d1 n2 s2 d2 n3 s3 d3 n4 s4 d4 n5 s5 d5) 28
 rw [← hq]
 clear hq kf
 go_fit (HF.out _ bb)
 rintro e w1 ⟨rfl, b1⟩
 replace bb := Ia bb b1
 clear b1
 go_wp2
 go_ret
 exact ⟨rfl, bb⟩
theorem Up (F : Nat → Bool) (G H : Nat → ByteArray) (a : Option Addr) (n cap : Nat) (N N' : Nat → Bool) (S D S' D' : Nat → ByteArray) (w : World) (hT : Fi w) (hn : n ≤ 1000000) (h : O7 w a n N S D N' S' D') (hf : ∀ k, k < 6 → (G k).size ≤ 100 ∧ (H k).size ≤ 100) (hz : ∀ k, k < n → ((S k).size ≤ 100 ∧ (D k).size ≤ 100) ∧ ((S' k).size ≤ 100 ∧ (D' k).size ≤ 100)) :
  Calls Tryz.prog 59 #[(Cp (F 0) (G 0) (H 0) (F 1) (G 1) (H 1) (F 2) (G 2) (H 2) (F 3) (G 3) (H 3) (F 4) (G 4) (H 4) (F 5) (G 5) (H 5)), .slice a n cap] w (Re w (.int .i64 ((Fy (Br (fun k => Bt (F k) (G k) (H k)) 6) (Br (fun k => Fy (Bt (N k) (S k) (D k)) (Bt (N' k) (S' k) (D' k))) n) : Nat) : Nat))) := by
 by_cases hE : Br (fun k => Bt (F k) (G k) (H k)) 6 = 0
 ·have hF : ∀ w1, Below w.heap.size w w1 → _ := fun w1 b => Nz F G H w1 (hT.b b) hf
  rw [hE] at hF
  refine (Yc _ _ _ _ _ _ _ _ _ _ _ _ _ _ _ _ _ _ a n cap N N' S D S' D' (fun k => Fy (Bt (N k) (S k) (D k)) (Bt (N' k) (S' k) (D' k))) w hn h hF ?_).mono (fun e w' h => ⟨by rw [h.1, hE]; rfl, h.2⟩)
  intro k w1 B hk b kq
  have := Oi (some ⟨B, 0, none⟩) 2 2 (f2 (N k) (N' k)) (f2 (S k) (S' k)) (f2 (D k) (D' k)) _ w1 (by omega) (Bff kq) (fun j hj => by
   match j, hj with
   | 0, _ => exact (hz k hk).1
   | 1, _ => exact (hz k hk).2) (fun j w2 _ b2 => Nu _ _ _ w2 ((hT.b b).b b2))
  exact this.mono (fun e w' h => ⟨by rw [h.1]; rfl, h.2⟩)
 ·refine (Uo _ _ _ _ _ _ _ _ _ _ _ _ _ _ _ _ _ _ (Br (fun k => Bt (F k) (G k) (H k)) 6) hE a n cap w (fun w1 b => Nz F G H w1 (hT.b b) hf)).mono (fun e w' h => ⟨by rw [h.1]; unfold Fy; rw [if_neg hE], h.2⟩)
theorem Oe (N M : Int) (xN yN : Bool) (xS yS : ByteArray) (rN : Bool) (rS rD : ByteArray) (w : World)
  (H1 : Hid (∀ w1, Below w.heap.size w w1 → Calls Tryz.prog 58 #[.int .i64 N] w1 (Re w1 (.agg #[Iz xN, I xS]))))
  (H2 : Hid (∀ w1, Below w.heap.size w w1 → Calls Tryz.prog 58 #[.int .i64 M] w1 (Re w1 (.agg #[Iz yN, I yS]))))
  (H3 : Hid (∀ w1, Below w.heap.size w w1 → Calls Tryz.prog 57 #[.agg #[Iz xN, I xS], .agg #[Iz yN, I yS]] w1 (Re w1 ((Bo rN rS rD))))) :
  Calls Tryz.prog 29 #[.int .i64 N, .int .i64 M] w (Re w ((Bo rN rS rD))) := by
 go_enter Tryz.func29, Tryz.ntmps29
 go_wp2_with fail
 obtain ⟨w0, hw, kr, bb⟩ := D7 w (Bx false eB eB) 26
 rw [← hw]
 clear hw
 go_fit (H1.out _ bb)
 rintro e w1 ⟨rfl, b1⟩
 replace kr := kr.b b1
 replace bb := Ia bb b1
 clear b1
 go_wp2_with fail
 go_fit (H2.out _ bb)
 rintro e w2 ⟨rfl, b1⟩
 replace kr := kr.b b1
 replace bb := Ia bb b1
 clear b1
 go_wp2_with fail
 go_fit (H3.out _ bb)
 rintro e w3 ⟨rfl, b1⟩
 replace kr := kr.b b1
 replace bb := Ia bb b1
 clear b1
 obtain ⟨e0, e1, e2⟩ := Ch kr
 have f0 := Be.o kr 0
 have f1 := Be.o kr 1
 have f2 := Be.o kr 2
 go_wp2
 exact Cu (p := 4) (by kernel_rfl) rfl rfl (((kr.set 0 _).set 1 _).set 2 _) ⟨rfl, Bi (Bi (Bi bb (by omega) 0 _) (by omega) 1 _) (by omega) 2 _⟩
def SpV (w : World) (m0 : Bool) (a0 : Option Addr) (l0 c0 : Nat) (m1 : Bool) (a1 : Option Addr) (l1 c1 : Nat) (a2 : Option Addr) (l2 c2 : Nat) (X Y U : Int) (x y : Rat) : Prop := NV w m0 (.slice a0 l0 c0) X 53 ∧ NV w m1 (.slice a1 l1 c1) Y 53 ∧ NV w false (.slice a2 l2 c2) U 52 ∧ Gm.Way X Y U x y
theorem SpV.b {w w' : World} {m0 : Bool} {a0 : Option Addr} {l0 c0 : Nat} {m1 : Bool} {a1 : Option Addr} {l1 c1 : Nat} {a2 : Option Addr} {l2 c2 : Nat} {X Y U : Int} {x y : Rat} (h : SpV w m0 a0 l0 c0 m1 a1 l1 c1 a2 l2 c2 X Y U x y) (b : Below w.heap.size w w') : SpV w' m0 a0 l0 c0 m1 a1 l1 c1 a2 l2 c2 X Y U x y := ⟨h.1.b b, h.2.1.b b, h.2.2.1.b b, h.2.2.2⟩
theorem SpV.set6 {w : World} {n0 : Bool} {a0 : Option Addr} {l0 c0 : Nat} {n1 : Bool} {a1 : Option Addr} {l1 c1 : Nat} {a2 : Option Addr} {l2 c2 : Nat} {X Y U : Int} {rx ry : Rat} {m o p : Bool} {g : Nat} {a b d : Option Addr} {l c l3 c3 l4 c4 : Nat} {t : TypeId} (h : SpV w n0 a0 l0 c0 n1 a1 l1 c1 a2 l2 c2 X Y U rx ry) (hc : Be w g [Iz m, .slice a l c, Iz o, .slice b l3 c3, Iz p, .slice d l4 c4] t) (x0 x1 x2 x3 x4 x5 : Value) : SpV ((((((w.setCell ⟨g, 0, none⟩ x0).setCell ⟨g, 1, none⟩ x1).setCell ⟨g, 2, none⟩ x2).setCell ⟨g, 3, none⟩ x3).setCell ⟨g, 4, none⟩ x4).setCell ⟨g, 5, none⟩ x5) n0 a0 l0 c0 n1 a1 l1 c1 a2 l2 c2 X Y U rx ry := ⟨h.1.set6 hc x0 x1 x2 x3 x4 x5, h.2.1.set6 hc x0 x1 x2 x3 x4 x5, h.2.2.1.set6 hc x0 x1 x2 x3 x4 x5, h.2.2.2⟩
theorem Ui (n0 n1 n2 n3 n4 n5 : Bool) (s0 d0 s1 d1 s2 d2 s3 d3 s4 d4 s5 d5 : ByteArray) (u0 u3 : Bool) (u1 u2 u4 u5 : ByteArray) (v0 v3 : Bool) (v1 v2 v4 v5 : ByteArray) (rN : Bool) (rS rD : ByteArray) (w : World)
  (M1 : Hid (∀ w1, Below w.heap.size w w1 → Calls Tryz.prog 73 #[(B4 n2 s2 d2 n3 s3 d3), (B4 n0 s0 d0 n1 s1 d1)] w1 (Re w1 ((B4 u0 u1 u2 u3 u4 u5)))))
  (M2 : Hid (∀ w1, Below w.heap.size w w1 → Calls Tryz.prog 73 #[(B4 n4 s4 d4 n5 s5 d5), (B4 n0 s0 d0 n1 s1 d1)] w1 (Re w1 ((B4 v0 v1 v2 v3 v4 v5)))))
  (CR : Hid (∀ w1, Below w.heap.size w w1 → Calls Tryz.prog 72 #[(B4 u0 u1 u2 u3 u4 u5), (B4 v0 v1 v2 v3 v4 v5)] w1 (Re w1 ((Bo rN rS rD))))) :
  Calls Tryz.prog 76 #[(B4 n0 s0 d0 n1 s1 d1), (B4 n2 s2 d2 n3 s3 d3), (B4 n4 s4 d4 n5 s5 d5)] w (Re w ((Bo rN rS rD))) := by
 go_enter Tryz.func76, Tryz.ntmps76
 go_wp2_with fail
 obtain ⟨w1, hw, ka, kb, kc, kr, bb⟩ := mk4 w (Cn n0 s0 d0 n1 s1 d1) (Cn n2 s2 d2 n3 s3 d3) (Cn n4 s4 d4 n5 s5 d5) (Bx false eB eB) 30 30 30 26
 rw [← hw]
 clear hw
 have tr := kr.lt
 have bd := Cd w1
 replace ka := ka.b bd
 replace kb := kb.b bd
 replace kc := kc.b bd
 replace kr := kr.b bd
 replace bb := Ia bb bd
 clear bd
 refine Jc (S := fun w' => Gl w' w.heap.size (Iz n0) (I s0) (I d0) (Iz n1) (I s1) (I d1) ∧ Gl w' (w.heap.size + 1) (Iz n2) (I s2) (I d2) (Iz n3) (I s3) (I d3) ∧ Gl w' (w.heap.size + 1 + 1) (Iz n4) (I s4) (I d4) (Iz n5) (I s5) (I d5)) (by kernel_rfl) ⟨Cw ka, Cw kb, Cw kc⟩ (fun hS => ?_)
 refine WA.start (n := 8) (by kernel_rfl) ?_
 refine WA.tp 0 rfl ?_
 refine WA.tp 1 rfl ?_
 refine WA.tp 3 rfl ?_
 refine WA.tp 4 rfl ?_
 refine WA.cal 2 rfl (fun K hK => ?_)
 simp only [Jq]
 go_simp
 go_fit (M1.out _ bb)
 rintro e wn ⟨rfl, bn⟩
 replace ka := ka.b bn
 replace kb := kb.b bn
 replace kc := kc.b bn
 replace kr := kr.b bn
 replace bb := Ia bb bn
 try go_wp2_with fail
 clear hS
 refine hK.out _ _ ⟨Cw ka, Cw kb, Cw kc⟩ (fun hS => ?_)
 clear hK K bn
 refine WA.cal 5 rfl (fun K hK => ?_)
 simp only [Jq]
 go_simp
 go_fit (M2.out _ bb)
 rintro e wn ⟨rfl, bn⟩
 replace ka := ka.b bn
 replace kb := kb.b bn
 replace kc := kc.b bn
 replace kr := kr.b bn
 replace bb := Ia bb bn
 try go_wp2_with fail
 clear hS
 refine hK.out _ _ ⟨Cw ka, Cw kb, Cw kc⟩ (fun hS => ?_)
 clear hK K bn
 refine WA.cal 6 rfl (fun K hK => ?_)
 simp only [Jq]
 go_simp
 go_fit (CR.out _ bb)
 rintro e wn ⟨rfl, bn⟩
 replace ka := ka.b bn
 replace kb := kb.b bn
 replace kc := kc.b bn
 replace kr := kr.b bn
 replace bb := Ia bb bn
 try go_wp2_with fail
 clear hS
 refine hK.out _ _ ⟨Cw ka, Cw kb, Cw kc⟩ (fun hS => ?_)
 clear hK K bn
 obtain ⟨e0, e1, e2⟩ := Ch kr
 have f0 := Be.o kr 0
 have f1 := Be.o kr 1
 have f2 := Be.o kr 2
 refine WA.cal 7 rfl (fun K hK => ?_)
 simp only [Jq]
 go_simp
 try go_wp2_with fail
 clear e0 f0 e1 f1 e2 f2
 clear hS
 refine hK.out _ _ ⟨Cw (ka.oth3 (by omega) _ _ _), Cw (kb.oth3 (by omega) _ _ _), Cw (kc.oth3 (by omega) _ _ _)⟩ (fun hS => ?_)
 clear hK K
 refine WA.done (by kernel_rfl) ?_
 clear hS
 go_wp2_with fail
 exact Cu (p := 6) (by kernel_rfl) rfl rfl (((kr.set 0 _).set 1 _).set 2 _) ⟨rfl, Bi (Bi (Bi bb (by omega) 0 _) (by omega) 1 _) (by omega) 2 _⟩
theorem Bag (n0 n1 n2 n3 : Bool) (s0 d0 s1 d1 s2 d2 s3 d3 : ByteArray) (x y : Rat) (w : World)
  (H1 : Hid (∀ w1, Calls Tryz.prog 165 #[(Bo n2 s2 d2), (Bo n0 s0 d0)] w1 fun e w' => ∃ m a l c a' l' c' X U, e = .returned (.tuple #[.agg #[Iz m, .slice a l c], .agg #[Iz false, .slice a' l' c']]) ∧ NV w' m (.slice a l c) X 27 ∧ NV w' false (.slice a' l' c') U 26 ∧ 0 < U ∧ (X : Rat) = (U : Rat) * x ∧ Below w1.heap.size w1 w'))
  (H2 : Hid (∀ w1, Calls Tryz.prog 165 #[(Bo n3 s3 d3), (Bo n1 s1 d1)] w1 fun e w' => ∃ m a l c a' l' c' X U, e = .returned (.tuple #[.agg #[Iz m, .slice a l c], .agg #[Iz false, .slice a' l' c']]) ∧ NV w' m (.slice a l c) X 27 ∧ NV w' false (.slice a' l' c') U 26 ∧ 0 < U ∧ (X : Rat) = (U : Rat) * y ∧ Below w1.heap.size w1 w')) :
  Calls Tryz.prog 120 #[(B4 n0 s0 d0 n1 s1 d1), (B4 n2 s2 d2 n3 s3 d3)] w fun e w' => ∃ m0 a0 l0 c0 m1 a1 l1 c1 a2 l2 c2 X Y U, e = .returned (.agg #[Iz m0, .slice a0 l0 c0, Iz m1, .slice a1 l1 c1, Iz false, .slice a2 l2 c2]) ∧ NV w' m0 (.slice a0 l0 c0) X 53 ∧ NV w' m1 (.slice a1 l1 c1) Y 53 ∧ NV w' false (.slice a2 l2 c2) U 52 ∧ Gm.Way X Y U x y ∧ Below w.heap.size w w' := by
 go_enter Tryz.func120, Tryz.ntmps120
 go_wp2_with fail
 obtain ⟨w0, hw, ka, kb, kr, bb⟩ := K9 w (Cn n0 s0 d0 n1 s1 d1) (Cn n2 s2 d2 n3 s3 d3) [Iz false, .slice none 0 0, Iz false, .slice none 0 0, Iz false, .slice none 0 0] 30 30 176
 rw [← hw]
 clear hw
 have tr := kr.lt
 go_fit (H1.out _)
 rintro e w1 ⟨m1, a1, l1, c1, a2, l2, c2, X, U, rfl, nv1, nv2, hU, hX, b1⟩
 replace ka := ka.b b1
 replace kb := kb.b b1
 replace kr := kr.b b1
 replace bb := Ia bb b1
 have sq0 := b1.size
 clear b1
 replace hX := Ba hX
 replace hU := Ba hU
 have ca3 := Hd ((ka.alloc (.cells #[Iz m1, .slice a1 l1 c1] 66)).alloc (.cells #[Iz false, .slice a2 l2 c2] 66))
 have ca4 := Hc ((ka.alloc (.cells #[Iz m1, .slice a1 l1 c1] 66)).alloc (.cells #[Iz false, .slice a2 l2 c2] 66))
 have ca5 := Hb ((ka.alloc (.cells #[Iz m1, .slice a1 l1 c1] 66)).alloc (.cells #[Iz false, .slice a2 l2 c2] 66))
 have cb3 := Hd ((kb.alloc (.cells #[Iz m1, .slice a1 l1 c1] 66)).alloc (.cells #[Iz false, .slice a2 l2 c2] 66))
 have cb4 := Hc ((kb.alloc (.cells #[Iz m1, .slice a1 l1 c1] 66)).alloc (.cells #[Iz false, .slice a2 l2 c2] 66))
 have cb5 := Hb ((kb.alloc (.cells #[Iz m1, .slice a1 l1 c1] 66)).alloc (.cells #[Iz false, .slice a2 l2 c2] 66))
 go_wp2_with fail
 obtain ⟨w2, hw, kx, kv, b1⟩ := Gx w1 [Iz m1, .slice a1 l1 c1] [Iz false, .slice a2 l2 c2] 66 66
 rw [← hw]
 clear hw ca3 ca4 ca5 cb3 cb4 cb5
 replace ka := ka.b b1
 replace kb := kb.b b1
 replace kr := kr.b b1
 replace nv1 := nv1.b b1
 replace nv2 := nv2.b b1
 replace bb := Ia bb b1
 have sq1 := b1.size
 clear b1
 have tx := kx.lt
 have tv := kv.lt
 go_fit (H2.out _)
 rintro e w3 ⟨m3, a3, l3, c3, a4, l4, c4, Y, V, rfl, nv3, nv4, hV, hY, b1⟩
 replace kr := kr.b b1
 replace kx := kx.b b1
 replace kv := kv.b b1
 replace nv1 := nv1.b b1
 replace nv2 := nv2.b b1
 replace bb := Ia bb b1
 have sq2 := b1.size
 clear b1
 replace hY := Ba hY
 replace hV := Ba hV
 obtain ⟨cv0, cv1⟩ := B7 ((kv.alloc (.cells #[Iz m3, .slice a3 l3 c3] 66)).alloc (.cells #[Iz false, .slice a4 l4 c4] 66))
 go_wp2_with fail
 obtain ⟨w4, hw, ky, ku, b1⟩ := Gx w3 [Iz m3, .slice a3 l3 c3] [Iz false, .slice a4 l4 c4] 66 66
 rw [← hw]
 clear hw cv0 cv1
 replace kr := kr.b b1
 replace kx := kx.b b1
 replace kv := kv.b b1
 replace nv1 := nv1.b b1
 replace nv2 := nv2.b b1
 replace nv3 := nv3.b b1
 replace nv4 := nv4.b b1
 replace bb := Ia bb b1
 have sq3 := b1.size
 clear b1
 have ty := ky.lt
 have tu := ku.lt
 go_fit (Bbf _ _ U V 26 _ (by omega) nv2 nv4)
 rintro e w5 ⟨rfl, b1⟩
 replace kr := kr.b b1
 replace kx := kx.b b1
 replace ky := ky.b b1
 replace kv := kv.b b1
 replace ku := ku.b b1
 replace nv1 := nv1.b b1
 replace nv2 := nv2.b b1
 replace nv3 := nv3.b b1
 replace nv4 := nv4.b b1
 replace bb := Ia bb b1
 have sq4 := b1.size
 clear b1
 by_cases hs : U = V
 ·have hd := decide_eq_true hs
  rw [hd]
  clear hd
  obtain ⟨cx0, cx1⟩ := B7 kx
  obtain ⟨cy0, cy1⟩ := B7 ky
  obtain ⟨cv0, cv1⟩ := B7 kv
  have e0 := K4 kr
  have f0 := Be.o kr 0
  have e1 := K0 kr
  have f1 := Be.o kr 1
  have e2 := Kz kr
  have f2 := Be.o kr 2
  have e3 := Hd kr
  have f3 := Be.o kr 3
  have e4 := Hc kr
  have f4 := Be.o kr 4
  have e5 := Hb kr
  have f5 := Be.o kr 5
  replace nv1 := Ba nv1
  replace nv2 := Ba nv2
  replace nv3 := Ba nv3
  go_wp2
  exact Ba6 (p := 4) (by kernel_rfl) rfl rfl ((((((kr.set 0 _).set 1 _).set 2 _).set 3 _).set 4 _).set 5 _) ⟨_, _, _, _, _, _, _, _, _, _, _, _, _, _, rfl, (nv1.out.mono (by omega)).set6 kr _ _ _ _ _ _, (nv3.out.mono (by omega)).set6 kr _ _ _ _ _ _, (nv2.out.mono (by omega)).set6 kr _ _ _ _ _ _, ⟨hU.out, hX.out, by rw [hs]; exact hY.out⟩, Bi (Bi (Bi (Bi (Bi (Bi bb (by omega) 0 _) (by omega) 1 _) (by omega) 2 _) (by omega) 3 _) (by omega) 4 _) (by omega) 5 _⟩
 ·have hd := decide_eq_false hs
  rw [hd]
  clear hd
  go_wp2_with fail
  have mkS : Hid (∀ w', Be w' (w1.heap.size) [Iz m1, .slice a1 l1 c1] 66 → Be w' (w1.heap.size + 1) [Iz false, .slice a2 l2 c2] 66 → Be w' (w3.heap.size) [Iz m3, .slice a3 l3 c3] 66 → Be w' (w3.heap.size + 1) [Iz false, .slice a4 l4 c4] 66 → (Fb w' w1.heap.size (Iz m1) (.slice a1 l1 c1) ∧ Fb w' (w1.heap.size + 1) (Iz false) (.slice a2 l2 c2) ∧ Fb w' w3.heap.size (Iz m3) (.slice a3 l3 c3) ∧ Fb w' (w3.heap.size + 1) (Iz false) (.slice a4 l4 c4))) := fun w' hx hv hy hu => ⟨B7 hx, B7 hv, B7 hy, B7 hu⟩
  have qxr : w1.heap.size ≠ w.heap.size + 1 + 1 := by omega
  have qvr : w1.heap.size + 1 ≠ w.heap.size + 1 + 1 := by omega
  have qyr : w3.heap.size ≠ w.heap.size + 1 + 1 := by omega
  have qur : w3.heap.size + 1 ≠ w.heap.size + 1 + 1 := by omega
  go_region_held3 (fun w' => Fb w' w1.heap.size (Iz m1) (.slice a1 l1 c1) ∧ Fb w' (w1.heap.size + 1) (Iz false) (.slice a2 l2 c2) ∧ Fb w' w3.heap.size (Iz m3) (.slice a3 l3 c3) ∧ Fb w' (w3.heap.size + 1) (Iz false) (.slice a4 l4 c4)) (first | with_reducible exact mkS.out _ kx kv ky ku | with_reducible exact mkS.out _ (Be.w (Be.w (Be.w (Be.w (Be.w (Be.w kx qxr 0 _) qxr 1 _) qxr 2 _) qxr 3 _) qxr 4 _) qxr 5 _) (Be.w (Be.w (Be.w (Be.w (Be.w (Be.w kv qvr 0 _) qvr 1 _) qvr 2 _) qvr 3 _) qvr 4 _) qvr 5 _) (Be.w (Be.w (Be.w (Be.w (Be.w (Be.w ky qyr 0 _) qyr 1 _) qyr 2 _) qyr 3 _) qyr 4 _) qyr 5 _) (Be.w (Be.w (Be.w (Be.w (Be.w (Be.w ku qur 0 _) qur 1 _) qur 2 _) qur 3 _) qur 4 _) qur 5 _) | exact mkS.out _ kx kv ky ku) (first | (go_at_call 68; go_fit (B5 _ _ _ _ X V 27 26 _ (by omega) (by omega) ?_ ?_); (first | exact nv1 | exact nv1.drew); (first | exact nv4 | exact nv4.drew); rintro e wn ⟨m5, v5, rfl, nv5, -, bn⟩; obtain ⟨a5, l5, c5, rfl⟩ := nv5.slice; replace kr := kr.b (un bn); replace kx := kx.b (un bn); replace ky := ky.b (un bn); replace kv := kv.b (un bn); replace ku := ku.b (un bn); (try replace nv1 := nv1.b (un bn)); (try replace nv2 := nv2.b (un bn)); (try replace nv3 := nv3.b (un bn)); (try replace nv4 := nv4.b (un bn)); (try replace nv6 := nv6.b (un bn)); replace bb := Ia bb (un bn)) | (go_at_call 68; go_fit (B5 _ _ _ _ Y U 27 26 _ (by omega) (by omega) ?_ ?_); (first | exact nv3 | exact nv3.drew); (first | exact nv2 | exact nv2.drew); rintro e wn ⟨m6, v6, rfl, nv6, -, bn⟩; obtain ⟨a6, l6, c6, rfl⟩ := nv6.slice; replace kr := kr.b (un bn); replace kx := kx.b (un bn); replace ky := ky.b (un bn); replace kv := kv.b (un bn); replace ku := ku.b (un bn); (try replace nv1 := nv1.b (un bn)); (try replace nv2 := nv2.b (un bn)); (try replace nv3 := nv3.b (un bn)); (try replace nv4 := nv4.b (un bn)); (try replace nv5 := nv5.b (un bn)); replace bb := Ia bb (un bn)) | (go_at_call 68; go_fit (B5 _ _ _ _ U V 26 26 _ (by omega) (by omega) ?_ ?_); (first | exact nv2 | exact nv2.drew); (first | exact nv4 | exact nv4.drew); rintro e wn ⟨m7, v7, rfl, nv7, hm7, bn⟩; obtain ⟨a7, l7, c7, rfl⟩ := nv7.slice; replace kr := kr.b (un bn); replace kx := kx.b (un bn); replace ky := ky.b (un bn); replace kv := kv.b (un bn); replace ku := ku.b (un bn); (try replace nv1 := nv1.b (un bn)); (try replace nv2 := nv2.b (un bn)); (try replace nv3 := nv3.b (un bn)); (try replace nv4 := nv4.b (un bn)); (try replace nv5 := nv5.b (un bn)); (try replace nv6 := nv6.b (un bn)); replace bb := Ia bb (un bn); have er0 := K4 kr; have fr0 := Be.o kr 0; have er1 := K0 kr; have fr1 := Be.o kr 1; have er2 := Kz kr; have fr2 := Be.o kr 2; have er3 := Hd kr; have fr3 := Be.o kr 3; have er4 := Hc kr; have fr4 := Be.o kr 4; have er5 := Hb kr; have fr5 := Be.o kr 5))
  obtain rfl := hm7 trivial trivial
  clear hm7
  replace nv5 := Ba nv5
  replace nv6 := Ba nv6
  replace nv7 := Ba nv7
  go_wp2
  refine Ba6 (p := 4) (by kernel_rfl) rfl rfl ((((((kr.set 0 _).set 1 _).set 2 _).set 3 _).set 4 _).set 5 _) ⟨_, _, _, _, _, _, _, _, _, _, _, _, _, _, rfl, nv5.out.set6 kr _ _ _ _ _ _, nv6.out.set6 kr _ _ _ _ _ _, nv7.out.set6 kr _ _ _ _ _ _, ⟨Int.mul_pos hU.out hV.out, ?_, ?_⟩, Bi (Bi (Bi (Bi (Bi (Bi bb (by omega) 0 _) (by omega) 1 _) (by omega) 2 _) (by omega) 3 _) (by omega) 4 _) (by omega) 5 _⟩
  ·rw [Rat.intCast_mul, Rat.intCast_mul, hX.out]; grind
  ·rw [Rat.intCast_mul, Rat.intCast_mul, hY.out]; grind
theorem NV.sharp {w : World} {n : Bool} {v : Value} {z : Int} {L K M' : Nat} (h : NV w n v z L) (hz : Bd z K) (hM : K ≤ 8 * M') : NV w n v z M' := by
 obtain ⟨k, r, -, rfl⟩ := h
 refine ⟨k, r, ?_, rfl⟩
 have e : (C4 n k).natAbs = k := Kx n k
 unfold Bd at hz
 rw [e] at hz
 refine Jl hz ?_
 rw [show Bb = 256 ^ 8 by unfold Bb; decide, ← Nat.pow_mul]
 exact Nat.pow_le_pow_right (by omega) hM
def vsa : Value → Option Addr | .slice a _ _ => a | _ => none
def vsl : Value → Nat | .slice _ l _ => l | _ => 0
def vsc : Value → Nat | .slice _ _ c => c | _ => 0
theorem Be9 {v : Value} (h : ∃ a l c, v = .slice a l c) : v = .slice (vsa v) (vsl v) (vsc v) := by
 obtain ⟨a, l, c, rfl⟩ := h
 rfl
theorem Bgj (f : Nat → ByteArray) {n j : Nat} (h : j < n) : nt ((List.range n).map f) j = f j := by
 unfold nt
 simp [List.getD, h]
theorem Bdl {w : World} {g n : Nat} {t : TypeId} {Z : Nat → Int} (h : Ck w g t n (Od Z n)) : RdS w (.slice (some ⟨g, 0, none⟩) n n) ((List.range n).map fun k => Bp (Z k)) := by
 refine ⟨some ⟨g, 0, none⟩, n, by simp, by simp, fun j hj => ⟨g, 0, rfl, ?_⟩⟩
 have hj' : j < n := by simpa using hj
 rw [Nat.zero_add, h.cell hj', Bgj _ hj']
 unfold Od
 rw [if_pos hj']
def Gn (Z : Nat → Int) (n : Nat) : Nat := Dt.nprod ((List.range n).map fun k => (Z k).natAbs)
theorem Bbt {l : List Nat} (h : ∀ x ∈ l, 0 < x) {x : Nat} (hx : x ∈ l) : x ≤ Dt.nprod l := by
 induction l with
 | nil => cases hx
 | cons y l ih =>
  have hp : 0 < Dt.nprod l := Dt.nprod_pos fun z hz => h z (by simp [hz])
  show x ≤ y * Dt.nprod l
  rcases List.mem_cons.1 hx with rfl | hx
  ·exact Nat.le_mul_of_pos_right _ hp
  ·exact Jf (ih (fun z hz => h z (by simp [hz])) hx) (Nat.le_mul_of_pos_left _ (h y (by simp)))
theorem Zm {Z : Nat → Int} {n : Nat} (h : ∀ k, k < n → 0 < Z k) {k : Nat} (hk : k < n) : (Z k).natAbs ≤ Gn Z n := by
 refine Bbt (fun x hx => ?_) (List.mem_map.2 ⟨k, List.mem_range.2 hk, rfl⟩)
 rw [List.mem_map] at hx
 obtain ⟨j, hj, rfl⟩ := hx
 have := h j (List.mem_range.1 hj)
 omega
theorem Yk (m0 : Bool) (v0 : Value) (a : Option Addr) (n cap : Nat) (m : Nat → Bool) (v : Nat → Value) (z : Int) (Z : Nat → Int) (L K : Nat) (w : World) (hT : Fi w) (hn : n ≤ 1000) (hL : L ≤ 1000) (hK : K ≤ 8000)
  (n0 : NV w m0 v0 z L) (hr : Hm w a n m v) (hv : Km w m v Z L n) (hp : ∀ k, k < n → 0 < Z k) (hz : Bd z K) (hs : ∀ k, k < n → Bd (Z k) 8000) (hP : Gn Z n < 256 ^ K) {x : Rat} (hx : mkRat z (Gn Z n) = x) :
  Calls Tryz.prog 122 #[.agg #[Iz m0, v0], .slice a n cap] w (Re w ((Bo (Bs x.num) (Bp x.num) (Bf x.den)))) := by
 subst hx
 have hr' : Hm w a n m (fun j => .slice (vsa (v j)) (vsl (v j)) (vsc (v j))) := fun j hj => by
  obtain ⟨b, off, e, h0, h1⟩ := hr j hj
  refine ⟨b, off, e, h0, ?_⟩
  show _ = some (Value.slice (vsa (v j)) (vsl (v j)) (vsc (v j)))
  rw [← Be9 (hv j hj).2]
  exact h1
 refine Pg m0 v0 a n cap m (fun j => vsa (v j)) (fun j => vsl (v j)) (fun j => vsc (v j)) z Z _ _ _ w hn n0.slice hr' (fun k w1 hk b => ?_) (fun w1 b => Hs _ _ z L w1 hL (n0.b b)) (fun g w1 b hc => ?_)
 ·have := Hs (m k) (v k) (Z k) L w1 hL ((hv k hk).1.b b)
  rw [Be9 (hv k hk).2] at this
  exact this
 ·have e : ((List.range n).map fun k => Bp (Z k)).map Bc = (List.range n).map fun k => (Z k).natAbs := by
   rw [List.map_map]
   exact List.map_congr_left fun k _ => Db (Z k)
  have := So z (.slice (some ⟨g, 0, none⟩) n n) ((List.range n).map fun k => Bp (Z k)) w1 (hT.b b) (Bdl hc) (by simpa using hn) (fun y hy => by
   rw [List.mem_map] at hy
   obtain ⟨k, hk, rfl⟩ := hy
   rw [List.mem_range] at hk
   have := hp k hk
   exact ⟨Lk _, by rw [Db]; omega, (hs k hk).size⟩) hK hz (by rw [e]; exact hP)
  rw [e] at this
  exact this
theorem Bd.abs {z : Int} {k : Nat} (h : Bd z k) : Bd ((z.natAbs : Nat) : Int) k := by unfold Bd at h ⊢; simpa using h
theorem Yj (m0 : Bool) (v0 : Value) (a : Option Addr) (n cap : Nat) (m : Nat → Bool) (v : Nat → Value) (z : Int) (Z : Nat → Int) (L K : Nat) (w : World) (hT : Fi w) (hn : n ≤ 1000) (hK : K ≤ 8000)
  (n0 : NV w m0 v0 z L) (hr : Hm w a n m v) (hv : Km w m v Z L n) (hp : ∀ k, k < n → 0 < Z k) (hz : Bd z K) (hB : Bd ((Gn Z n : Nat) : Int) K) {x : Rat} (hx : mkRat z (Gn Z n) = x) :
  Calls Tryz.prog 122 #[.agg #[Iz m0, v0], .slice a n cap] w (Re w ((Bo (Bs x.num) (Bp x.num) (Bf x.den)))) := by
 have hP : Gn Z n < 256 ^ K := by unfold Bd at hB; simpa using hB
 have hb : ∀ k, k < n → Bd (Z k) K := fun k hk => Nat.lt_of_le_of_lt (Zm hp hk) hP
 exact Yk m0 v0 a n cap m v z Z 1000 K w hT hn (by omega) hK (n0.sharp hz (by omega)) hr (fun k hk => ⟨(hv k hk).1.sharp (hb k hk) (by omega), (hv k hk).2⟩) hp hz (fun k hk => (hb k hk).mono hK) hP hx
theorem Bc9 (n0 n1 n2 n3 : Bool) (s0 d0 s1 d1 s2 d2 s3 d3 : ByteArray) (w : World) (o0 : On n0 s0 d0) (o1 : On n1 s1 d1) (o2 : On n2 s2 d2) (o3 : On n3 s3 d3) (z0 : s0.size ≤ 100 ∧ d0.size ≤ 100) (z1 : s1.size ≤ 100 ∧ d1.size ≤ 100) (z2 : s2.size ≤ 100 ∧ d2.size ≤ 100) (z3 : s3.size ≤ 100 ∧ d3.size ≤ 100) :
  Calls Tryz.prog 120 #[(B4 n0 s0 d0 n1 s1 d1), (B4 n2 s2 d2 n3 s3 d3)] w fun e w' => ∃ m0 a0 l0 c0 m1 a1 l1 c1 a2 l2 c2 X Y U, e = .returned (.agg #[Iz m0, .slice a0 l0 c0, Iz m1, .slice a1 l1 c1, Iz false, .slice a2 l2 c2]) ∧ NV w' m0 (.slice a0 l0 c0) X 53 ∧ NV w' m1 (.slice a1 l1 c1) Y 53 ∧ NV w' false (.slice a2 l2 c2) U 52 ∧ Gm.Way X Y U (Gh n2 s2 d2 - Gh n0 s0 d0) (Gh n3 s3 d3 - Gh n1 s1 d1) ∧ Below w.heap.size w w' :=
 Bag n0 n1 n2 n3 s0 d0 s1 d1 s2 d2 s3 d3 _ _ w (fun w1 => Sw n2 n0 s2 d2 s0 d0 w1 o2 o0 z2 z0) (fun w1 => Sw n3 n1 s3 d3 s1 d1 w1 o3 o1 z3 z1)
theorem Tt (m0 m1 m2 m3 m4 m5 : Bool) (a0 a1 a2 a3 a4 a5 : Option Addr) (l0 c0 l1 c1 l2 c2 l3 c3 l4 c4 l5 c5 : Nat) (X Y X' Y' : Int) (L : Nat) (w : World) (hL : L ≤ 200) (nv0 : NV w m0 (.slice a0 l0 c0) X L) (nv1 : NV w m1 (.slice a1 l1 c1) Y L) (nv3 : NV w m3 (.slice a3 l3 c3) X' L) (nv4 : NV w m4 (.slice a4 l4 c4) Y' L) :
  Calls Tryz.prog 121 #[.agg #[Iz m0, .slice a0 l0 c0, Iz m1, .slice a1 l1 c1, Iz m2, .slice a2 l2 c2], .agg #[Iz m3, .slice a3 l3 c3, Iz m4, .slice a4 l4 c4, Iz m5, .slice a5 l5 c5]] w fun e w' => ∃ m u, e = .returned (.agg #[Iz m, u]) ∧ NV w' m u (X * Y' - Y * X') (L + L + 1) ∧ Below w.heap.size w w' := by
 go_enter Tryz.func121, Tryz.ntmps121
 go_wp2_with fail
 obtain ⟨w0, hw, ka, kb, kr, bb⟩ := K9 w [Iz m0, .slice a0 l0 c0, Iz m1, .slice a1 l1 c1, Iz m2, .slice a2 l2 c2] [Iz m3, .slice a3 l3 c3, Iz m4, .slice a4 l4 c4, Iz m5, .slice a5 l5 c5] [Iz false, .slice none 0 0] 176 176 66
 rw [← hw]
 clear hw
 have tr := kr.lt
 replace nv0 := nv0.b bb
 replace nv1 := nv1.b bb
 replace nv3 := nv3.b bb
 replace nv4 := nv4.b bb
 have mkS : Hid (∀ w', Be w' (w.heap.size) [Iz m0, .slice a0 l0 c0, Iz m1, .slice a1 l1 c1, Iz m2, .slice a2 l2 c2] 176 → Be w' (w.heap.size + 1) [Iz m3, .slice a3 l3 c3, Iz m4, .slice a4 l4 c4, Iz m5, .slice a5 l5 c5] 176 → (Gl w' w.heap.size (Iz m0) (.slice a0 l0 c0) (Iz m1) (.slice a1 l1 c1) (Iz m2) (.slice a2 l2 c2) ∧ Gl w' (w.heap.size + 1) (Iz m3) (.slice a3 l3 c3) (Iz m4) (.slice a4 l4 c4) (Iz m5) (.slice a5 l5 c5))) := fun w' ha hb => ⟨Cw ha, Cw hb⟩
 have qar : w.heap.size ≠ w.heap.size + 1 + 1 := by omega
 have qbr : w.heap.size + 1 ≠ w.heap.size + 1 + 1 := by omega
 go_region_held3 (fun w' => Gl w' w.heap.size (Iz m0) (.slice a0 l0 c0) (Iz m1) (.slice a1 l1 c1) (Iz m2) (.slice a2 l2 c2) ∧ Gl w' (w.heap.size + 1) (Iz m3) (.slice a3 l3 c3) (Iz m4) (.slice a4 l4 c4) (Iz m5) (.slice a5 l5 c5)) (first | with_reducible exact mkS.out _ ka kb | with_reducible exact mkS.out _ (Be.w (Be.w ka qar 0 _) qar 1 _) (Be.w (Be.w kb qbr 0 _) qbr 1 _) | exact mkS.out _ ka kb) (first | (go_at_call 68; go_fit (B5 _ _ _ _ X Y' L L _ (by omega) (by omega) ?_ ?_); (first | exact nv0 | exact nv0.drew); (first | exact nv4 | exact nv4.drew); rintro e wn ⟨m6, v6, rfl, nv6, -, bn⟩; obtain ⟨a6, l6, c6, rfl⟩ := nv6.slice; replace ka := ka.b (un bn); replace kb := kb.b (un bn); replace kr := kr.b (un bn); (try replace nv0 := nv0.b (un bn)); (try replace nv1 := nv1.b (un bn)); (try replace nv3 := nv3.b (un bn)); (try replace nv4 := nv4.b (un bn)); (try replace nv7 := nv7.b (un bn)); replace bb := Ia bb (un bn)) | (go_at_call 68; go_fit (B5 _ _ _ _ Y X' L L _ (by omega) (by omega) ?_ ?_); (first | exact nv1 | exact nv1.drew); (first | exact nv3 | exact nv3.drew); rintro e wn ⟨m7, v7, rfl, nv7, -, bn⟩; obtain ⟨a7, l7, c7, rfl⟩ := nv7.slice; replace ka := ka.b (un bn); replace kb := kb.b (un bn); replace kr := kr.b (un bn); (try replace nv0 := nv0.b (un bn)); (try replace nv1 := nv1.b (un bn)); (try replace nv3 := nv3.b (un bn)); (try replace nv4 := nv4.b (un bn)); (try replace nv6 := nv6.b (un bn)); replace bb := Ia bb (un bn)) | (go_at_call 167; go_fit (Kv _ _ _ _ (X * Y') (Y * X') (L + L) _ (by omega) ?_ ?_); (first | exact nv6 | exact nv6.drew); (first | exact nv7 | exact nv7.drew); rintro e wn ⟨m8, v8, rfl, nv8, bn⟩; obtain ⟨a8, l8, c8, rfl⟩ := nv8.slice; replace ka := ka.b (un bn); replace kb := kb.b (un bn); replace kr := kr.b (un bn); (try replace nv0 := nv0.b (un bn)); (try replace nv1 := nv1.b (un bn)); (try replace nv3 := nv3.b (un bn)); (try replace nv4 := nv4.b (un bn)); (try replace nv6 := nv6.b (un bn)); (try replace nv7 := nv7.b (un bn)); replace bb := Ia bb (un bn); have er0 := Dy kr; have fr0 := Be.o kr 0; have er1 := H9 kr; have fr1 := Be.o kr 1))
 replace nv8 := Ba nv8
 go_wp2
 exact Fj (p := 4) (by kernel_rfl) rfl rfl ((kr.set 0 _).set 1 _) ⟨_, _, rfl, nv8.out.set2 kr _ _, Bi (Bi bb (by omega) 0 _) (by omega) 1 _⟩
end Go.Proofs.YtnplifkgeeicjaaGreatDoor
