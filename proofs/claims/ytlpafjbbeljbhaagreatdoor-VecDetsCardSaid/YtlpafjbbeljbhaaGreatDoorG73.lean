/-
  gussetref04's Det, from n rows to one more.
-/
import Derived.Test.YtlpafjbbeljbhaaGreatDoorG38
import Derived.Test.YtlpafjbbeljbhaaGreatDoorG72
namespace Go.Proofs.YtlpafjbbeljbhaaGreatDoor
open Go.RowKit

theorem rtimesJ (x y : Rat) {K : Nat} (hK : K ≤ 4000) (bx : Bq x K) (bY : Bq y K) (w : World) :
  Calls Tryz.prog 37 #[.agg #[.bool (nfZ (x).num), .string (sfZ (x).num), .string (strOf (x).den)], .agg #[.bool (nfZ (y).num), .string (sfZ (y).num), .string (strOf (y).den)]] w fun e w' => e = .returned (.agg #[.bool (nfZ (x * y).num), .string (sfZ (x * y).num), .string (strOf (x * y).den)]) ∧ Below w.heap.size w w' := by
 have zx := bx.2.size
 have zy := bY.2.size
 have := rtimesq_any (nfZ x.num) (nfZ y.num) (sfZ x.num) (strOf x.den) (sfZ y.num) (strOf y.den) w (okQ_qI x) (okQ_qI y) hK bx.1.size (by simpa using zx) bY.1.size (by simpa using zy)
 rw [show qOf (nfZ x.num) (sfZ x.num) (strOf x.den) = x from qOf_qI x, show qOf (nfZ y.num) (sfZ y.num) (strOf y.den) = y from qOf_qI y] at this
 exact this
theorem rsumJ (x y : Rat) {K : Nat} (hK : K ≤ 4000) (bx : Bq x K) (bY : Bq y K) (w : World) :
  Calls Tryz.prog 35 #[.agg #[.bool (nfZ (x).num), .string (sfZ (x).num), .string (strOf (x).den)], .agg #[.bool (nfZ (y).num), .string (sfZ (y).num), .string (strOf (y).den)]] w fun e w' => e = .returned (.agg #[.bool (nfZ (x + y).num), .string (sfZ (x + y).num), .string (strOf (x + y).den)]) ∧ Below w.heap.size w w' := by
 have zx := bx.2.size
 have zy := bY.2.size
 have := rsumq_any (nfZ x.num) (nfZ y.num) (sfZ x.num) (strOf x.den) (sfZ y.num) (strOf y.den) w (okQ_qI x) (okQ_qI y) hK bx.1.size (by simpa using zx) bY.1.size (by simpa using zy)
 rw [show qOf (nfZ x.num) (sfZ x.num) (strOf x.den) = x from qOf_qI x, show qOf (nfZ y.num) (sfZ y.num) (strOf y.den) = y from qOf_qI y] at this
 exact this
theorem rnegJ (x : Rat) (w : World) : Calls Tryz.prog 33 #[.agg #[.bool (nfZ (x).num), .string (sfZ (x).num), .string (strOf (x).den)]] w fun e w' => e = .returned (.agg #[.bool (nfZ (-x).num), .string (sfZ (-x).num), .string (strOf (-x).den)]) ∧ Below w.heap.size w w' := by
 obtain ⟨m, o, e, h⟩ := rnegq_ok (nfZ x.num) (sfZ x.num) (strOf x.den) (okQ_qI x)
 rw [show qOf (nfZ x.num) (sfZ x.num) (strOf x.den) = x from qOf_qI x] at e
 have hp : nfZ (qOf m (sfZ x.num) (strOf x.den)).num = m ∧ sfZ (qOf m (sfZ x.num) (strOf x.den)).num = sfZ x.num ∧ strOf (qOf m (sfZ x.num) (strOf x.den)).den = strOf x.den := o.parts
 rw [e] at hp
 rw [hp.1, hp.2.1, hp.2.2]
 exact h w
theorem vcutq_at {W wn : World} {gc : Nat} {x y z x' y' z' : Value} {t : TypeId} (bc : Below W.heap.size W wn) (k : Cel wn gc [x, y, z] t) (h : W.heap.size ≤ gc) :
  ∃ gc', Value.pointer (some ⟨gc, 0, none⟩) = .pointer (some ⟨gc', 0, none⟩) ∧ W.heap.size ≤ gc' ∧ Cel (((wn.setCell ⟨gc, 0, none⟩ x').setCell ⟨gc, 1, none⟩ y').setCell ⟨gc, 2, none⟩ z') gc' [x', y', z'] t ∧ Below W.heap.size W (((wn.setCell ⟨gc, 0, none⟩ x').setCell ⟨gc, 1, none⟩ y').setCell ⟨gc, 2, none⟩ z') :=
 ⟨gc, rfl, h, ((k.set 0 x').set 1 y').set 2 z', bset (bset (bset bc h 0 _) h 1 _) h 2 _⟩
theorem vcutq_new {W wn : World} {x' y' z' : Value} {t : TypeId} (bc : Below W.heap.size W wn) :
  ∃ gc', Value.pointer (some ⟨wn.heap.size, 0, none⟩) = .pointer (some ⟨gc', 0, none⟩) ∧ W.heap.size ≤ gc' ∧ Cel (wn.alloc (.cells #[x', y', z'] t)) gc' [x', y', z'] t ∧ Below W.heap.size W (wn.alloc (.cells #[x', y', z'] t)) :=
 ⟨wn.heap.size, rfl, bc.size, Cel.new wn [x', y', z'] t, ba bc _⟩
theorem psumq_odd {f : Nat → Rat} {k : Nat} (h : k % 2 = 1) : Dt.psum f (k + 1) = Dt.psum f k + -f k := by
 show (if k % 2 = 1 then Dt.psum f k - f k else Dt.psum f k + f k) = _
 rw [if_pos h, Rat.sub_eq_add_neg]
theorem psumq_even {f : Nat → Rat} {k : Nat} (h : ¬ k % 2 = 1) : Dt.psum f (k + 1) = Dt.psum f k + f k := by
 show (if k % 2 = 1 then Dt.psum f k - f k else Dt.psum f k + f k) = _
 rw [if_neg h]
theorem sliceQ_from {w : World} {g o n c k : Nat} {z : Nat → Rat} (hk : k < n + 1) (hc : n + 1 ≤ c) (hr : RdQI w (some ⟨g, o, none⟩) (n + 1) z) :
  ∃ o', (∀ w' : World, (Instr.slice 54 (.slice (some ⟨g, o, none⟩) (n + 1) c) (some (.int .i64 ((k : Int) + 1))) none none).run Tryz.prog w' = .ok (.slice (some ⟨g, o', none⟩) (n - k) (c - (k + 1))) w') ∧ Hid (RdQI w (some ⟨g, o', none⟩) (n - k) (fun j => z (k + 1 + j))) := by
 refine ⟨if c = k + 1 then o else o + (k + 1) * 3, fun w' => ?_, ?_⟩
 ·rw [run_slice_l (P := Tryz.prog) w' 54 (some ⟨g, o, none⟩) (n + 1) c (by kernel_rfl) .i64 ((k : Int) + 1) (by omega) (by omega)]
  have hs : (sizeOf (Tryz.prog.elem 54)).run Tryz.prog w' = .ok 3 w' := by kernel_rfl
  rw [hs, show ((k : Int) + 1).toNat = k + 1 by omega]
  simp only [Result.andThen, sliced]
  rw [show n + 1 - (k + 1) = n - k by omega]
  by_cases e : c = k + 1
  ·rw [if_pos e, if_pos e]
  ·rw [if_neg e, if_neg e]
   simp only [Option.map_some, add_at]
 ·show RdQI _ _ _ _
  by_cases e : c = k + 1
  ·intro i hi; omega
  ·rw [if_neg e]; exact rdqi_part hr (k + 1) (n - k) (by omega)

set_option maxRecDepth 100000 in
set_option maxHeartbeats 16000000 in
theorem rd_succ (n : Nat) (h1 : 1 ≤ n) (h3 : n ≤ 3) (ih : RD n) : RD (n + 1) := by
 intro a cap q w hcap h hb
 have HD := shut (fun k hk => bq_psum h3 hb (k := k) hk)
 have HM := shut (fun j => bq_minor (n := n) (j := j) hb)
 have HN : Hid (∀ j, j < n + 1 → Bq (Dt.det n (Dt.minor q j)) 1700) := fun j _ => bq_detq h1 (by omega) (HM.out j)
 replace h := shut h
 replace hb := shut hb
 obtain ⟨f, hf⟩ : ∃ f : Nat → Rat, f = fun j => q 0 j * Dt.det n (Dt.minor q j) := ⟨_, rfl⟩
 have HE' : Hid (Dt.det (n + 1) q = Dt.psum f (n + 1)) := by show _ = _; rw [hf]; rfl
 have HF : Hid (∀ j, f j = q 0 j * Dt.det n (Dt.minor q j)) := fun j => by rw [hf]
 rw [← hf] at HD
 clear hf
 have H0 := shut (fun w => roq_any 0 (by omega) (by omega) w)
 have hn1 : ¬ ((n + 1 : Nat) : Int) = 1 := by omega
 have h9 : ((n : Int) + 1 == 1) = false := beq_eq_false_iff_ne.2 (by omega)
 have hn2 : ¬ n = 0 := by omega
 go_enter Tryz.func32, Tryz.ntmps32
 go_wp2_with fail
 go_fit (H0.out _)
 rintro e w1 ⟨rfl, b1⟩
 obtain ⟨kr, bb⟩ := al1 b1
 clear b1 H0
 go_wp2_with fail
 have hps := shut kr.lt
 obtain ⟨w2, hw, ks, b1⟩ := mk1 w1 [.bool (nfZ 0), .string (sfZ 0), .string ⟨#[1]⟩] 26
 rw [← hw]
 clear hw
 replace kr := kr.below b1
 replace bb := Below.after bb b1
 clear b1
 generalize w1.heap.size = ps at *
 have HS0 : Hid (Cel w2 ps [.bool (nfZ (Dt.psum f 0).num), .string (sfZ (Dt.psum f 0).num), .string (strOf (Dt.psum f 0).den)] 26) := ks
 clear ks
 go_loopw [4] (fun i wr => ∃ k : Nat, k ≤ n + 1 ∧ i = .int .i64 k ∧ Cel wr w.heap.size [.bool false, .string { data := #[] }, .string { data := #[] }] 26 ∧ Cel wr ps [.bool (nfZ (Dt.psum f k).num), .string (sfZ (Dt.psum f k).num), .string (strOf (Dt.psum f k).den)] 26 ∧ Below w.heap.size w wr) (fun i _ => n + 1 - (intOf i).toNat)
 case atStart => exact ⟨0, by omega, rfl, kr, HS0.out, bb⟩
 case round =>
  clear HS0 kr bb
  obtain ⟨k, hk, rfl, kr, ks, bb⟩ := hrel
  by_cases hkn : k < n + 1
  ·have hkI : (k : Int) < (n : Int) + 1 := by omega
   go_wp2_with fail
   go_loopw [5, 6] (fun v i wx => Below wr.heap.size wr wx ∧ ∃ l : Nat, l ≤ n ∧ i = .int .i64 ((l : Int) + 1) ∧ MinR wx wr.heap.size v l n (Dt.minor q k)) (fun _ i _ => n + 1 - (intOf i).toNat)
   case atStart => exact ⟨Below.refl _ _, 0, by omega, rfl, [], World.ownsRow_nil _ _ _ _, fun t ht => absurd ht (Nat.not_lt_zero _)⟩
   case round =>
    obtain ⟨bx, l, hl, rfl, hm⟩ := hrel
    have b0 := shut bx.size
    replace hm := shut hm
    by_cases hln : l < n
    ·obtain ⟨b, off, ar, c, rfl, h0, hc, hr⟩ := (h.out.below bb).below bx (l + 1) (by omega)
     obtain ⟨g, o, rfl⟩ := rdqi_some hr (by omega)
     replace hr := shut hr
     have i0 : (l : Int) < (n : Int) := by omega
     have i1 : (0 : Int) ≤ (l : Int) + 1 := by omega
     have i2 : ((l : Int) + 1).toNat = l + 1 := by omega
     have s1 : (k : Int) ≤ c := by omega
     have s0 : (0 : Int) ≤ (k : Int) := by omega
     have r0 : Hid (RdQI wr (some ⟨g, o, none⟩) k (q (l + 1))) := fun i hi => hr.out i (by omega)
     go_wp2_with (at_builtin; refine wpList_appQ rfl _ _ rfl (.slice none 0 0) 0 [] rfl wr.heap.size (World.ownsRow_nil _ _ _ _) (Nat.le_refl _) g o k c (q (l+1)) rfl r0.out (by omega) ?_)
     intro v2 w2 o2 hg2 hnil
     have b2 : Below wr.heap.size wr w2 := (Below.refl _ _).grown hg2 (Nat.le_refl _) (fun g hg => by simp [Value.ownBlock] at hg)
     replace h0 := cell_below h0 b2
     replace hr := shut (show RdQI w2 _ _ _ from RdQ.below hr.out b2)
     have O2 : Hid (w2.ownsRow wr.heap.size 26 3 v2 k (flq k (q (l + 1)))) := o2
     clear o2
     clear hg2 hnil r0
     have q1 : (0 : Int) ≤ (k : Int) + 1 := by omega
     have q2 : (k : Int) + 1 ≤ (n : Int) + 1 := by omega
     have q3 : IntKind.i64.wrap ((k : Int) + 1) = (k : Int) + 1 := by rw [IntKind.wrap_i64]; omega
     have q4 : (k : Int) ≤ (n : Int) := by omega
     have tn : ((k : Int) + 1).toNat = k + 1 := by omega
     have hsl : ∃ o', (∀ w' : World, (Instr.slice 54 (.slice (some ⟨g, o, none⟩) (n + 1) c) (some (.int .i64 ((k : Int) + 1))) none none).run Tryz.prog w' = .ok (.slice (some ⟨g, o', none⟩) (n - k) (c - (k + 1))) w') ∧ Hid (RdQI w2 (some ⟨g, o', none⟩) (n - k) (fun j => q (l + 1) (k + 1 + j))) := by
      exact sliceQ_from hkn hc hr.out
     obtain ⟨o', hsl, r1⟩ := hsl
     go_wp2_with (first | (at_builtin; refine wpList_appQ rfl _ _ rfl v2 k (flq k (q (l + 1))) rfl wr.heap.size O2.out b2.size g o' (n - k) _ (fun j => q (l + 1) (k + 1 + j)) rfl r1.out (by omega) ?_) | fail)
     intro v3 w3 o3 hg3 hnil
     have b3 : Below wr.heap.size wr w3 := b2.grown hg3 b2.size (fun g hg => ownN_block O2.out g hg)
     rw [flq_cat, show k + (n - k) = n by omega, catq_minor] at o3
     obtain ⟨g3, c3, rfl, hc3⟩ : ∃ g3 c3, v3 = .slice (some ⟨g3, 0, none⟩) n c3 ∧ n ≤ c3 := by
      rcases o3.2 with ⟨_, e⟩ | ⟨g, cap, cur, hv, hb, hg, hn, _⟩
      ·omega
      ·exact ⟨g, cap, hv, hn⟩
     obtain ⟨vs, m1, m2⟩ := hm.out.below b3
     replace bx := Below.after bx b3
     have O3 := shut (o3.mono b0.out)
     have M1 := shut m1
     have M2 := shut m2
     clear m1 m2 o3 hg3 hnil b2 b3 O2 r1 hsl hm hr h0
     go_wp2_with (first | (at_builtin; refine wpList_appV rfl _ _ rfl u5 l vs rfl _ (M1.out.alloc _) (by have := bx.size; simp; omega) w3.heap.size (.slice (some ⟨g3, 0, none⟩) n c3) rfl rfl (by simp) (by omega) ?_) | fail)
     intro v4 w4 o4 hg4
     have b4 := (ba bx _).grown hg4 (by have := bx.size; simp; omega) (fun g hg => ownN_block M1.out g hg)
     have HM4 := shut (MinR.more (q := Dt.minor q k) (M1.out.alloc _) (fun t ht => by obtain ⟨g, c, e, hc, h3⟩ := M2.out t ht; exact ⟨g, c, e, hc, h3.alloc _⟩) (O3.out.alloc _) hc3 o4 hg4)
     clear o4 hg4 M1 M2 O3
     go_wp2
     exact ⟨⟨b4, l + 1, by omega, by go_num, HM4.out⟩, by simp [intOf]; omega⟩
    ·obtain rfl : l = n := by omega
     obtain ⟨g5, c5, rfl, hc5⟩ : ∃ g5 c5, u5 = .slice (some ⟨g5, 0, none⟩) l c5 ∧ l ≤ c5 := by
      obtain ⟨vs, m1, -⟩ := hm.out
      rcases m1.2 with ⟨_, e⟩ | ⟨g, cap, cur, hv, hb, hg, hn, _⟩
      ·omega
      ·exact ⟨g, cap, hv, hn⟩
     have RM := shut hm.out.rdR
     clear hm
     replace kr := kr.below bx
     replace ks := ks.below bx
     replace bb := Below.after bb bx
     clear bx b0
     have hkl : ¬ (l : Int) + 1 < (l : Int) + 1 := by omega
     go_wp2_with fail
     obtain ⟨b, off, ar, c, rfl, h0, hc, hr⟩ := h.out.below bb 0 (by omega)
     obtain ⟨g, o, rfl⟩ := rdqi_some hr (by omega)
     obtain ⟨b', off', e', z0, z1, z2⟩ := hr k hkn
     simp only [Option.some.injEq, Addr.mk.injEq] at e'
     obtain ⟨rfl, rfl, -⟩ := e'
     simp only [Nat.add_zero] at h0
     clear hr
     have s0 : (0 : Int) ≤ (k : Int) := by omega
     have HE : Hid (∀ w', Below wr.heap.size wr w' → Calls Tryz.prog 32 #[.slice (some ⟨g5, 0, none⟩) l c5] w' fun e w'' => e = .returned (.agg #[.bool (nfZ (Dt.det l (Dt.minor q k)).num), .string (sfZ (Dt.det l (Dt.minor q k)).num), .string (strOf (Dt.det l (Dt.minor q k)).den)]) ∧ Below w'.heap.size w' w'') := fun w' b' => ih (some ⟨g5, 0, none⟩) c5 (Dt.minor q k) w' hc5 (RM.out.below b') (HM.out k)
     have HMu : Hid (∀ w', Calls Tryz.prog 37 #[.agg #[.bool (nfZ (q 0 k).num), .string (sfZ (q 0 k).num), .string (strOf (q 0 k).den)], .agg #[.bool (nfZ (Dt.det l (Dt.minor q k)).num), .string (sfZ (Dt.det l (Dt.minor q k)).num), .string (strOf (Dt.det l (Dt.minor q k)).den)]] w' fun e w'' => e = .returned (.agg #[.bool (nfZ (f k).num), .string (sfZ (f k).num), .string (strOf (f k).den)]) ∧ Below w'.heap.size w' w'') := fun w' => by
      rw [HF.out k]
      exact rtimesJ (q 0 k) (Dt.det l (Dt.minor q k)) (K := 1700) (by omega) ((hb.out 0 k (by omega) hkn).mono (by omega)) (HN.out k hkn) w'
     have mkS : ∀ w', Below wr.heap.size wr w' → (Below wr.heap.size wr w' ∧ w'.cell? ⟨b, off, none⟩ = some (.slice (some ⟨g, o, none⟩) (l + 1) c) ∧ w'.cell? ⟨g, o + k * 3, none⟩ = some (.bool (nfZ (q 0 k).num)) ∧ w'.cell? ⟨g, o + k * 3 + 1, none⟩ = some (.string (sfZ (q 0 k).num)) ∧ w'.cell? ⟨g, o + k * 3 + 2, none⟩ = some (.string (strOf (q 0 k).den))) := fun w' h => ⟨h, cell_below h0 h, cell_below z0 h, cell_below z1 h, cell_below z2 h⟩
     have bcS : ∀ w', (Below wr.heap.size wr w' ∧ w'.cell? ⟨b, off, none⟩ = some (.slice (some ⟨g, o, none⟩) (l + 1) c) ∧ w'.cell? ⟨g, o + k * 3, none⟩ = some (.bool (nfZ (q 0 k).num)) ∧ w'.cell? ⟨g, o + k * 3 + 1, none⟩ = some (.string (sfZ (q 0 k).num)) ∧ w'.cell? ⟨g, o + k * 3 + 2, none⟩ = some (.string (strOf (q 0 k).den))) → Below wr.heap.size wr w' := fun w' h => h.1
     replace mkS := shut mkS
     replace bcS := shut bcS
     go_cut [8] from 51 to 59 (fun v wx => ∃ gc, v = .pointer (some ⟨gc, 0, none⟩) ∧ wr.heap.size ≤ gc ∧ Cel wx gc [.bool (nfZ (f k).num), .string (sfZ (f k).num), .string (strOf (f k).den)] 26 ∧ Below wr.heap.size wr wx)
     case first =>
      clear HD HM HN HE' HF kr ks bb RM
      go_region_held3 (fun w' => Below wr.heap.size wr w' ∧ w'.cell? ⟨b, off, none⟩ = some (.slice (some ⟨g, o, none⟩) (l + 1) c) ∧ w'.cell? ⟨g, o + k * 3, none⟩ = some (.bool (nfZ (q 0 k).num)) ∧ w'.cell? ⟨g, o + k * 3 + 1, none⟩ = some (.string (sfZ (q 0 k).num)) ∧ w'.cell? ⟨g, o + k * 3 + 2, none⟩ = some (.string (strOf (q 0 k).den))) (first | exact mkS.out _ (bdrew _) | with_reducible exact mkS.out _ bc3 | with_reducible exact mkS.out _ bc2 | with_reducible exact mkS.out _ (ba bc3 _) | with_reducible exact mkS.out _ (ba bc2 _) | exact mkS.out _ (ba (bdrew _) _) | exact mkS.out _ (bset (bset (bset bc3 (Nat.le_refl _) _ _) (Nat.le_refl _) _ _) (Nat.le_refl _) _ _) | exact mkS.out _ (bset (bset (bset bc3 bc2.size _ _) bc2.size _ _) bc2.size _ _)) (first | (go_at_call 32; go_fit (HE.out _ ?_); exact bcS.out _ (by assumption); rintro e wn2 ⟨rfl, bn2⟩; have bc2 := Below.after (bcS.out _ (by assumption)) bn2) | (go_at_call 37; go_fit (HMu.out _); rintro e wn3 ⟨rfl, bn3⟩; have bc3 := Below.after (bcS.out _ (by assumption)) bn3; (try (with_reducible have kz2 := ((al1 bn2).1.below bn3))); (try (have f0 := Cel.frozen kz2 0; have f1 := Cel.frozen kz2 1; have f2 := Cel.frozen kz2 2; have e0 := cel3_0 kz2; have e1 := cel3_1 kz2; have e2 := cel3_2 kz2)); (try (with_reducible have kz3 := (al1 bn3).1)); (try (have f0 := Cel.frozen kz3 0; have f1 := Cel.frozen kz3 1; have f2 := Cel.frozen kz3 2; have e0 := cel3_0 kz3; have e1 := cel3_1 kz3; have e2 := cel3_2 kz3)); (try (with_reducible have kz0 := ((vl1d bn2).1.below bn3))); (try (have f0 := Cel.frozen kz0 0; have f1 := Cel.frozen kz0 1; have f2 := Cel.frozen kz0 2; have e0 := cel3_0 kz0; have e1 := cel3_1 kz0; have e2 := cel3_2 kz0))))
      all_goals (try go_wp2_with fail)
      all_goals go_meet
      all_goals first | (with_reducible exact vcutq_new bc3) | exact vcutq_at bc3 kz0 (Nat.le_refl _) | exact vcutq_at bc3 kz2 (Nat.le_refl _) | exact vcutq_at bc3 kz3 bc2.size
     case rest =>
      obtain ⟨gt, rfl, lt, kt, b1⟩ := hcut
      clear mkS bcS HE HMu RM h0 z0 z1 z2
      have l1 : ps < wr.heap.size := ks.lt
      replace kr := kr.below b1
      replace ks := ks.below b1
      replace bb := Below.after bb b1
      have hlt : Hid (ps < gt) := Nat.lt_of_lt_of_le l1 lt
      clear b1 lt l1
      have c0 := cel3_0 ks
      have c1 := cel3_1 ks
      have c2 := cel3_2 ks
      have d0 := cel3_0 kt
      have d1 := cel3_1 kt
      have d2 := cel3_2 kt
      have HBf : Hid (Bq (f k) 3401) := by
       show Bq _ _
       rw [HF.out k]
       exact vq_mul ((hb.out 0 k (by omega) hkn).mono (by omega)) (HN.out k hkn)
      have HBs : Hid (Bq (Dt.psum f k) 3401) := (HD.out k (by omega)).mono (by omega)
      by_cases ho : k % 2 = 1
      ·have ho' : (k : Int) % 2 = 1 := by omega
       have HS := shut (fun w' => rsumJ (Dt.psum f k) (-f k) (K := 3401) (by omega) HBs.out (vq_neg HBf.out) w')
       rw [← psumq_odd ho] at HS
       have HNg := shut (fun w' => rnegJ (f k) w')
       replace ho := shut ho
       go_wp2_with fail
       go_fit (HNg.out _)
       rintro e wn ⟨rfl, b1⟩
       replace kr := kr.below b1
       replace ks := ks.below b1
       replace kt := kt.below b1
       replace bb := Below.after bb b1
       clear b1 c0 c1 c2 d0 d1 d2
       have c0 := cel3_0 ks
       have c1 := cel3_1 ks
       have c2 := cel3_2 ks
       have d0 := cel3_0 kt
       have d1 := cel3_1 kt
       have d2 := cel3_2 kt
       have f0 := Cel.frozen kt 0
       have f1 := Cel.frozen kt 1
       have f2 := Cel.frozen kt 2
       have ne1 : ¬ gt = ps := by have := hlt.out; omega
       have ne2 : ¬ ps = gt := by have := hlt.out; omega
       go_wp2_with fail
       go_fit (HS.out _)
       rintro e wm ⟨rfl, b1⟩
       have hp := hps.out
       have hq := hlt.out
       replace kr := (((kr.other (by omega) _ _).other (by omega) _ _).other (by omega) _ _).below b1
       replace ks := (((ks.other (by omega) _ _).other (by omega) _ _).other (by omega) _ _).below b1
       replace bb := Below.after (bset (bset (bset bb (by omega) _ _) (by omega) _ _) (by omega) _ _) b1
       clear b1 c0 c1 c2 d0 d1 d2 f0 f1 f2 kt hp hq ne1 ne2
       have c0 := cel3_0 ks
       have c1 := cel3_1 ks
       have c2 := cel3_2 ks
       have f0 := Cel.frozen ks 0
       have f1 := Cel.frozen ks 1
       have f2 := Cel.frozen ks 2
       go_wp2
       have hp := hps.out
       exact ⟨⟨k + 1, by omega, by go_num, ((kr.other (by omega) _ _).other (by omega) _ _).other (by omega) _ _, ((ks.set 0 _).set 1 _).set 2 _, bset (bset (bset bb (by omega) _ _) (by omega) _ _) (by omega) _ _⟩, by simp [intOf]; omega⟩
      ·have ho' : ¬ (k : Int) % 2 = 1 := by omega
       have ho2 : (k : Int) % 2 = 0 := by omega
       have HS := shut (fun w' => rsumJ (Dt.psum f k) (f k) (K := 3401) (by omega) HBs.out HBf.out w')
       rw [← psumq_even ho] at HS
       replace ho := shut ho
       go_wp2_with fail
       go_fit (HS.out _)
       rintro e wn ⟨rfl, b1⟩
       replace kr := kr.below b1
       replace ks := ks.below b1
       replace bb := Below.after bb b1
       clear b1 c0 c1 c2 d0 d1 d2
       have c0 := cel3_0 ks
       have c1 := cel3_1 ks
       have c2 := cel3_2 ks
       have f0 := Cel.frozen ks 0
       have f1 := Cel.frozen ks 1
       have f2 := Cel.frozen ks 2
       go_wp2
       have hp := hps.out
       exact ⟨⟨k + 1, by omega, by go_num, ((kr.other (by omega) _ _).other (by omega) _ _).other (by omega) _ _, ((ks.set 0 _).set 1 _).set 2 _, bset (bset (bset bb (by omega) _ _) (by omega) _ _) (by omega) _ _⟩, by simp [intOf]; omega⟩
  ·obtain rfl : k = n + 1 := by omega
   have c0 := cel3_0 ks
   have c1 := cel3_1 ks
   have c2 := cel3_2 ks
   have d0 := cel3_0 kr
   have d1 := cel3_1 kr
   have d2 := cel3_2 kr
   have f0 := Cel.frozen kr 0
   have f1 := Cel.frozen kr 1
   have f2 := Cel.frozen kr 2
   go_wp2
   exact post_q (p := 2) (by kernel_rfl) rfl rfl (((kr.set 0 _).set 1 _).set 2 _) ⟨by rw [HE'.out], bset (bset (bset bb (Nat.le_refl _) 0 _) (Nat.le_refl _) 1 _) (Nat.le_refl _) 2 _⟩
theorem rd_any : ∀ n, 1 ≤ n → n ≤ 4 → RD n
 | 1, _, _ => rd_one
 | n + 2, _, h => rd_succ (n + 1) (by omega) (by omega) (rd_any (n + 1) (by omega) (by omega))
end Go.Proofs.YtlpafjbbeljbhaaGreatDoor
