import Derived.Test.YtnplifkgeeicjaaGreatDoorQ36
import Derived.Test.YtnplifkgeeicjaaGreatDoorQ37
set_option maxRecDepth 100000
set_option maxHeartbeats 16000000
namespace Go.Proofs.YtnplifkgeeicjaaGreatDoor
open Go.RowKit Go.Shelf
theorem R9 (n0 n1 n2 n3 xN yN : Bool) (s0 d0 s1 d1 s2 d2 s3 d3 xS xD yS yD : ByteArray) (w : World)
  (H1 : Hid (∀ w1, Calls Tryz.prog 41 #[(Bo n0 s0 d0), (Bo n2 s2 d2)] w1 (Re w1 ((Bo xN xS xD)))))
  (H2 : Hid (∀ w1, Calls Tryz.prog 41 #[(Bo n1 s1 d1), (Bo n3 s3 d3)] w1 (Re w1 ((Bo yN yS yD))))) :
  Calls Tryz.prog 139 #[(B4 n0 s0 d0 n1 s1 d1), (B4 n2 s2 d2 n3 s3 d3)] w (Re w ((B4 xN xS xD yN yS yD))) := by
 go_enter Tryz.func139, Tryz.ntmps139
 go_wp2_with fail
 obtain ⟨w1, hw, ka, kb, kr, b1⟩ := K9 w (Cn n0 s0 d0 n1 s1 d1) (Cn n2 s2 d2 n3 s3 d3) (Cn false eB eB false eB eB) 30 30 30
 rw [← hw]
 clear hw
 have sz := b1.size
 have ta := ka.lt
 have tb := kb.lt
 have tr := kr.lt
 have bb := b1
 clear b1
 have qa : w.heap.size ≠ w.heap.size + 1 + 1 := by omega
 have qb : w.heap.size + 1 ≠ w.heap.size + 1 + 1 := by omega
 have mkS : Hid (∀ w', Be w' (w.heap.size) (Cn n0 s0 d0 n1 s1 d1) 30 → Be w' (w.heap.size + 1) (Cn n2 s2 d2 n3 s3 d3) 30 → (Gl w' w.heap.size (Iz n0) (I s0) (I d0) (Iz n1) (I s1) (I d1) ∧ Gl w' (w.heap.size + 1) (Iz n2) (I s2) (I d2) (Iz n3) (I s3) (I d3))) := fun w' ha hb => ⟨Cw ha, Cw hb⟩
 go_region_held3 (fun w' => Gl w' w.heap.size (Iz n0) (I s0) (I d0) (Iz n1) (I s1) (I d1) ∧ Gl w' (w.heap.size + 1) (Iz n2) (I s2) (I d2) (Iz n3) (I s3) (I d3)) (first | with_reducible exact mkS.out _ ka kb | with_reducible exact mkS.out _ (ka.alloc _) (kb.alloc _) | with_reducible exact mkS.out _ (Be.w (Be.w (Be.w (Be.w (Be.w (Be.w ka qa 0 _) qa 1 _) qa 2 _) qa 3 _) qa 4 _) qa 5 _) (Be.w (Be.w (Be.w (Be.w (Be.w (Be.w kb qb 0 _) qb 1 _) qb 2 _) qb 3 _) qb 4 _) qb 5 _) | exact mkS.out _ ka kb) (first | (go_at_call 41; go_fit (H1.out _); rintro e wn ⟨rfl, bn⟩; replace ka := ka.b (un bn); replace kb := kb.b (un bn); replace kr := kr.b (un bn); replace bb := Ia bb (un bn)) | (go_at_call 41; go_fit (H2.out _); rintro e wn ⟨rfl, bn⟩; replace ka := ka.b (un bn); replace kb := kb.b (un bn); replace kr := kr.b (un bn); replace bb := Ia bb (un bn); have e0 := K4 kr; have f0 := Be.o kr 0; have e1 := K0 kr; have f1 := Be.o kr 1; have e2 := Kz kr; have f2 := Be.o kr 2; have e3 := Hd kr; have f3 := Be.o kr 3; have e4 := Hc kr; have f4 := Be.o kr 4; have e5 := Hb kr; have f5 := Be.o kr 5))
 go_wp2
 exact Nx (p := 4) (by kernel_rfl) rfl rfl (kr.set6 _ _ _ _ _ _) ⟨rfl, Mu bb (by omega) _ _ _ _ _ _⟩
theorem Qd (n0 n1 n2 n3 xN yN : Bool) (s0 d0 s1 d1 s2 d2 s3 d3 xS xD yS yD : ByteArray) (w : World)
  (H1 : Hid (∀ w1, Calls Tryz.prog 80 #[(Bo n0 s0 d0), (Bo n2 s2 d2)] w1 (Re w1 ((Bo xN xS xD)))))
  (H2 : Hid (∀ w1, Calls Tryz.prog 80 #[(Bo n1 s1 d1), (Bo n3 s3 d3)] w1 (Re w1 ((Bo yN yS yD))))) :
  Calls Tryz.prog 73 #[(B4 n0 s0 d0 n1 s1 d1), (B4 n2 s2 d2 n3 s3 d3)] w (Re w ((B4 xN xS xD yN yS yD))) := by
 go_enter Tryz.func73, Tryz.ntmps73
 go_wp2_with fail
 obtain ⟨w1, hw, ka, kb, kr, b1⟩ := K9 w (Cn n0 s0 d0 n1 s1 d1) (Cn n2 s2 d2 n3 s3 d3) (Cn false eB eB false eB eB) 30 30 30
 rw [← hw]
 clear hw
 have sz := b1.size
 have ta := ka.lt
 have tb := kb.lt
 have tr := kr.lt
 have bb := b1
 clear b1
 have qa : w.heap.size ≠ w.heap.size + 1 + 1 := by omega
 have qb : w.heap.size + 1 ≠ w.heap.size + 1 + 1 := by omega
 have mkS : Hid (∀ w', Be w' (w.heap.size) (Cn n0 s0 d0 n1 s1 d1) 30 → Be w' (w.heap.size + 1) (Cn n2 s2 d2 n3 s3 d3) 30 → (Gl w' w.heap.size (Iz n0) (I s0) (I d0) (Iz n1) (I s1) (I d1) ∧ Gl w' (w.heap.size + 1) (Iz n2) (I s2) (I d2) (Iz n3) (I s3) (I d3))) := fun w' ha hb => ⟨Cw ha, Cw hb⟩
 go_region_held3 (fun w' => Gl w' w.heap.size (Iz n0) (I s0) (I d0) (Iz n1) (I s1) (I d1) ∧ Gl w' (w.heap.size + 1) (Iz n2) (I s2) (I d2) (Iz n3) (I s3) (I d3)) (first | with_reducible exact mkS.out _ ka kb | with_reducible exact mkS.out _ (ka.alloc _) (kb.alloc _) | with_reducible exact mkS.out _ (Be.w (Be.w (Be.w (Be.w (Be.w (Be.w ka qa 0 _) qa 1 _) qa 2 _) qa 3 _) qa 4 _) qa 5 _) (Be.w (Be.w (Be.w (Be.w (Be.w (Be.w kb qb 0 _) qb 1 _) qb 2 _) qb 3 _) qb 4 _) qb 5 _) | exact mkS.out _ ka kb) (first | (go_at_call 80; go_fit (H1.out _); rintro e wn ⟨rfl, bn⟩; replace ka := ka.b (un bn); replace kb := kb.b (un bn); replace kr := kr.b (un bn); replace bb := Ia bb (un bn)) | (go_at_call 80; go_fit (H2.out _); rintro e wn ⟨rfl, bn⟩; replace ka := ka.b (un bn); replace kb := kb.b (un bn); replace kr := kr.b (un bn); replace bb := Ia bb (un bn); have e0 := K4 kr; have f0 := Be.o kr 0; have e1 := K0 kr; have f1 := Be.o kr 1; have e2 := Kz kr; have f2 := Be.o kr 2; have e3 := Hd kr; have f3 := Be.o kr 3; have e4 := Hc kr; have f4 := Be.o kr 4; have e5 := Hb kr; have f5 := Be.o kr 5))
 go_wp2
 exact Nx (p := 4) (by kernel_rfl) rfl rfl (kr.set6 _ _ _ _ _ _) ⟨rfl, Mu bb (by omega) _ _ _ _ _ _⟩
theorem Qf (n0 n1 n2 n3 xN yN rN : Bool) (s0 d0 s1 d1 s2 d2 s3 d3 xS xD yS yD rS rD : ByteArray) (w : World)
  (H1 : Hid (∀ w1, Calls Tryz.prog 36 #[(Bo n0 s0 d0), (Bo n3 s3 d3)] w1 (Re w1 ((Bo xN xS xD)))))
  (H2 : Hid (∀ w1, Calls Tryz.prog 36 #[(Bo n1 s1 d1), (Bo n2 s2 d2)] w1 (Re w1 ((Bo yN yS yD)))))
  (H3 : Hid (∀ w1, Calls Tryz.prog 80 #[(Bo xN xS xD), (Bo yN yS yD)] w1 (Re w1 ((Bo rN rS rD))))) :
  Calls Tryz.prog 72 #[(B4 n0 s0 d0 n1 s1 d1), (B4 n2 s2 d2 n3 s3 d3)] w (Re w ((Bo rN rS rD))) := by
 go_enter Tryz.func72, Tryz.ntmps72
 go_wp2_with fail
 obtain ⟨w1, hw, ka, kb, kr, b1⟩ := K9 w (Cn n0 s0 d0 n1 s1 d1) (Cn n2 s2 d2 n3 s3 d3) (Bx false eB eB) 30 30 26
 rw [← hw]
 clear hw
 have sz := b1.size
 have ta := ka.lt
 have tb := kb.lt
 have tr := kr.lt
 have bb := b1
 clear b1
 have qa : w.heap.size ≠ w.heap.size + 1 + 1 := by omega
 have qb : w.heap.size + 1 ≠ w.heap.size + 1 + 1 := by omega
 have mkS : Hid (∀ w', Be w' (w.heap.size) (Cn n0 s0 d0 n1 s1 d1) 30 → Be w' (w.heap.size + 1) (Cn n2 s2 d2 n3 s3 d3) 30 → (Gl w' w.heap.size (Iz n0) (I s0) (I d0) (Iz n1) (I s1) (I d1) ∧ Gl w' (w.heap.size + 1) (Iz n2) (I s2) (I d2) (Iz n3) (I s3) (I d3))) := fun w' ha hb => ⟨Cw ha, Cw hb⟩
 go_region_held3 (fun w' => Gl w' w.heap.size (Iz n0) (I s0) (I d0) (Iz n1) (I s1) (I d1) ∧ Gl w' (w.heap.size + 1) (Iz n2) (I s2) (I d2) (Iz n3) (I s3) (I d3)) (first | with_reducible exact mkS.out _ ka kb | with_reducible exact mkS.out _ (ka.alloc _) (kb.alloc _) | with_reducible exact mkS.out _ (Be.w (Be.w (Be.w ka qa 0 _) qa 1 _) qa 2 _) (Be.w (Be.w (Be.w kb qb 0 _) qb 1 _) qb 2 _) | exact mkS.out _ ka kb) (first | (go_at_call 36; go_fit (H1.out _); rintro e wn ⟨rfl, bn⟩; replace ka := ka.b (un bn); replace kb := kb.b (un bn); replace kr := kr.b (un bn); replace bb := Ia bb (un bn)) | (go_at_call 36; go_fit (H2.out _); rintro e wn ⟨rfl, bn⟩; replace ka := ka.b (un bn); replace kb := kb.b (un bn); replace kr := kr.b (un bn); replace bb := Ia bb (un bn)) | (go_at_call 80; go_fit (H3.out _); rintro e wn ⟨rfl, bn⟩; replace ka := ka.b (un bn); replace kb := kb.b (un bn); replace kr := kr.b (un bn); replace bb := Ia bb (un bn); have e0 := Ey kr; have f0 := Be.o kr 0; have e1 := Ex kr; have f1 := Be.o kr 1; have e2 := Dk kr; have f2 := Be.o kr 2))
 go_wp2
 exact Cu (p := 4) (by kernel_rfl) rfl rfl (((kr.set 0 _).set 1 _).set 2 _) ⟨rfl, Bi (Bi (Bi bb (by omega) 0 _) (by omega) 1 _) (by omega) 2 _⟩
open Go.RowKit
theorem mk5 (w : World) (c0 c1 c2 c3 c4 : List Value) (t0 t1 t2 t3 t4 : TypeId) : ∃ w', w' = ((((w.alloc (.cells c0.toArray t0)).alloc (.cells c1.toArray t1)).alloc (.cells c2.toArray t2)).alloc (.cells c3.toArray t3)).alloc (.cells c4.toArray t4) ∧ Be w' w.heap.size c0 t0 ∧ Be w' (w.heap.size + 1) c1 t1 ∧ Be w' (w.heap.size + 1 + 1) c2 t2 ∧ Be w' (w.heap.size + 1 + 1 + 1) c3 t3 ∧ Be w' (w.heap.size + 1 + 1 + 1 + 1) c4 t4 ∧ Below w.heap.size w w' := by
 obtain ⟨v, hv, k0, k1, k2, k3, b⟩ := mk4 w c0 c1 c2 c3 t0 t1 t2 t3
 obtain ⟨u, hu, k4, b'⟩ := D7 v c4 t4
 have hs : v.heap.size = w.heap.size + 1 + 1 + 1 + 1 := by rw [hv]; simp
 refine ⟨u, by rw [hu, hv], k0.b b', k1.b b', k2.b b', k3.b b', by rw [← hs]; exact k4, Ia b b'⟩
open Go.RowKit
theorem Bes : Value.cells (.string { data := #[] }) = #[.string { data := #[] }] := by kernel_rfl
theorem Bde (n : Nat) (hn : n ≤ 1000000) (w : World) :
  ∃ w', (Instr.makeSlice 223 (.int .i64 n) (.int .i64 n)).run Tryz.prog w = .ok (.slice (some ⟨w.heap.size, 0, none⟩) n n) w' ∧ Ck w' w.heap.size 22 n (fun _ => I ⟨#[]⟩) ∧ Below w.heap.size w w' := by
 obtain ⟨i0, hi, hz0, hz1, hz2⟩ := info_parts (show (Tryz.prog.info? 22).map (fun i => (i.zero, i.size, i.bytes)) = some (some (I ⟨#[]⟩), 1, 16) by kernel_rfl)
 have h := run_make (P := Tryz.prog) w 223 22 i0 (I ⟨#[]⟩) Tryz.underlying223 hi hz0 .i64 .i64 n n (by omega) (by omega) (by rw [hz2]; omega) (by omega)
 rw [hz1, Bes, Int.toNat_natCast, Nat.mul_one] at h
 refine ⟨_, h, ⟨_, heap_alloc_new w _, size_madeCells _ _, fun i hi => ?_⟩, (Jg _ _).alloc (Jb _) _⟩
 simp [madeCells, hi, Nat.mod_one]
theorem Ti {w : World} {ops : Array Oper} {rest : List Oper} {o : Oper} {a : Act} {Q : Exit → Act → World → Prop}
  (hg : o.guard = none) (l c : Operand) (hop : o.op = Op.makeSlice 223 l c) (L : Int) (n : Nat) (hl : a.eval l = .int .i64 L) (hc : a.eval c = .int .i64 L) (hL : L = (n : Int)) (hn : n ≤ 1000000)
  (hK : ∀ w1, Ck w1 w.heap.size 22 n (fun _ => I ⟨#[]⟩) → Below w.heap.size w w1 → wpList Tryz.prog ops Q rest (a.put o.dst (.slice (some ⟨w.heap.size, 0, none⟩) n n)) w1) :
  wpList Tryz.prog ops Q (o :: rest) a w := by
 refine wpList_plain hg fun K hK' => ?_
 subst hL
 obtain ⟨w', hrun, hc', hb⟩ := Bde n hn w
 unfold Oper.wp
 simp [execOp, hop, hl, hc, hrun, Result.andThen]
 exact hK' _ _ (hK _ hc' hb)
def Hm (w : World) (a : Option Addr) (n : Nat) (m : Nat → Bool) (v : Nat → Value) : Prop :=
 ∀ j, j < n → ∃ b off, a = some ⟨b, off, none⟩ ∧ w.cell? ⟨b, off + j * 2, none⟩ = some (Iz (m j)) ∧ w.cell? ⟨b, off + j * 2 + 1, none⟩ = some (v j)
theorem Hm.b {w w' : World} {a : Option Addr} {n : Nat} {m : Nat → Bool} {v : Nat → Value} (h : Hm w a n m v) (hb : Below w.heap.size w w') : Hm w' a n m v := by
 intro j hj
 obtain ⟨b, off, e, h0, h1⟩ := h j hj
 exact ⟨b, off, e, Bh h0 hb, Bh h1 hb⟩
def Od (Z : Nat → Int) (k i : Nat) : Value := if i < k then I (Bp (Z i)) else I ⟨#[]⟩
theorem Bgv (Z : Nat → Int) (k i : Nat) : (if i = k then Value.string (Bp (Z k)) else Od Z k i) = Od Z (k + 1) i := by
 unfold Od
 by_cases h : i = k
 ·rw [if_pos h, if_pos (by omega), h]
 ·rw [if_neg h]
  by_cases h' : i < k
  ·rw [if_pos h', if_pos (by omega)]
  ·rw [if_neg h', if_neg (by omega)]
theorem Pg (n0 : Bool) (v0 : Value) (a : Option Addr) (n cap : Nat) (m : Nat → Bool) (al : Nat → Option Addr) (ll cl : Nat → Nat) (z : Int) (Z : Nat → Int) (xN : Bool) (xS xD : ByteArray) (w : World) (hn : n ≤ 1000) (hv0 : ∃ a l c, v0 = .slice a l c)
  (h : Hm w a n m (fun j => .slice (al j) (ll j) (cl j)))
  (H1 : Hid (∀ (k : Nat) (w1 : World), k < n → Below w.heap.size w w1 → Calls Tryz.prog 168 #[.agg #[Iz (m k), .slice (al k) (ll k) (cl k)]] w1 (Re w1 (.agg #[Iz (Bs (Z k)), I (Bp (Z k))]))))
  (H2 : Hid (∀ w1, Below w.heap.size w w1 → Calls Tryz.prog 168 #[.agg #[Iz n0, v0]] w1 (Re w1 (.agg #[Iz (Bs z), I (Bp z)]))))
  (H3 : Hid (∀ (g : Nat) (w1 : World), Below w.heap.size w w1 → Ck w1 g 22 n (Od Z n) → Calls Tryz.prog 169 #[.agg #[Iz (Bs z), I (Bp z)], .slice (some ⟨g, 0, none⟩) n n] w1 (Re w1 ((Bo xN xS xD))))) :
  Calls Tryz.prog 122 #[.agg #[Iz n0, v0], .slice a n cap] w (Re w ((Bo xN xS xD))) := by
 obtain ⟨a0, l0, c0, rfl⟩ := hv0
 replace h := Ba h
 go_enter Tryz.func122, Tryz.ntmps122
 go_wp2_with (at_make; refine Ti rfl _ _ rfl _ n rfl rfl rfl (by omega) ?_; intro w1 k1 b1)
 obtain ⟨k0, kr, bb⟩ := al2 b1
 have K1 : Hid (Ck w1 (w.heap.size + 1 + 1) 22 n (Od Z 0)) := by
  show Ck _ _ _ _ _
  have k1' : Ck w1 (w.heap.size + 1 + 1) 22 n (fun _ => I ⟨#[]⟩) := by simpa using k1
  refine k1'.congr fun i hi => ?_
  unfold Od
  rw [if_neg (by omega)]
 clear k1 b1
 go_loopw [13] (fun i wr => ∃ k : Nat, k ≤ n ∧ i = .int .i64 k ∧ Ck wr (w.heap.size + 1 + 1) 22 n (Od Z k) ∧ Be wr w.heap.size [Iz n0, .slice a0 l0 c0] 66 ∧ Be wr (w.heap.size + 1) (Bx false eB eB) 26 ∧ Below w.heap.size w wr) (fun i _ => n - (intOf i).toNat)
 case atStart => exact ⟨0, by omega, rfl, K1.out, k0, kr, bb⟩
 case round =>
  clear K1 k0 kr bb
  obtain ⟨k, hk, rfl, kg, k0, kr, bb⟩ := hrel
  by_cases hkn : k < n
  ·obtain ⟨b, off, rfl, h0, h1⟩ := h.out.b bb k hkn
   go_wp2_with fail
   go_fit (H1.out k _ hkn (ba bb _))
   rintro e w2 ⟨rfl, b2⟩
   obtain ⟨-, b2⟩ := Tf b2
   replace kg := kg.b b2
   replace k0 := k0.b b2
   replace kr := kr.b b2
   replace bb := Ia bb b2
   clear b2 h0 h1
   have fl := Bb2 (Bs (Z k)) (Bp (Z k))
   have q0 := kg.cell hkn
   have q1 := kg.o k
   have kg' : Hid (Ck (w2.setCell ⟨w.heap.size + 1 + 1, k, none⟩ (I (Bp (Z k)))) (w.heap.size + 1 + 1) 22 n (Od Z (k + 1))) := by
    show Ck _ _ _ _ _
    exact (kg.set k (I (Bp (Z k)))).congr fun i hi => Bgv Z k i
   have k0' := Ba (Be.w (g' := w.heap.size + 1 + 1) k0 (by omega) k (I (Bp (Z k))))
   have kr' := Ba (Be.w (g' := w.heap.size + 1 + 1) kr (by omega) k (I (Bp (Z k))))
   have bb' := Ba (Bi (g := w.heap.size + 1 + 1) bb (by omega) k (I (Bp (Z k))))
   clear kg k0 kr bb
   go_wp2
   exact ⟨⟨k + 1, by omega, by go_num, kg'.out, k0'.out, kr'.out, bb'.out⟩, by simp [intOf]; omega⟩
  ·obtain rfl : k = n := by omega
   obtain ⟨c0, c1⟩ := B7 k0
   go_wp2_with fail
   clear c0 c1
   go_fit (H2.out _ bb)
   rintro e w2 ⟨rfl, b2⟩
   replace kg := kg.b b2
   replace kr := kr.b b2
   replace bb := Ia bb b2
   clear b2
   go_wp2_with fail
   go_fit (H3.out _ _ bb kg)
   rintro e w3 ⟨rfl, b2⟩
   replace kr := kr.b b2
   replace bb := Ia bb b2
   clear b2
   have e0 := Ey kr
   have f0 := kr.o 0
   have e1 := Ex kr
   have f1 := kr.o 1
   have e2 := Dk kr
   have f2 := kr.o 2
   go_wp2
   exact Cu (p := 4) (by kernel_rfl) rfl rfl (((kr.set 0 _).set 1 _).set 2 _) ⟨rfl, Bi (Bi (Bi bb (by omega) 0 _) (by omega) 1 _) (by omega) 2 _⟩
open Go.RowKit
theorem Xx (dN : Bool) (dS dD : ByteArray) (eN : Bool) (eS eD : ByteArray) (w : World)
  (TI : Hid (∀ w1, Below w.heap.size w w1 → Calls Tryz.prog 36 #[(Bo dN dS dD), (Bo dN dS dD)] w1 (Re w1 ((Bo eN eS eD))))) :
  Calls Tryz.prog 137 #[(Bo dN dS dD)] w (Re w ((Bo eN eS eD))) := by
 go_enter Tryz.func137, Tryz.ntmps137
 go_wp2_with fail
 obtain ⟨w0, hw, ka, kr, bb⟩ := Gx w (Bx dN dS dD) (Bx false eB eB) 26 26
 rw [← hw]
 clear hw
 go_fit (TI.out _ bb)
 rintro e w1 ⟨rfl, b1⟩
 replace kr := kr.b b1
 replace bb := Ia bb b1
 clear b1 ka
 obtain ⟨e0, e1, e2⟩ := Ch kr
 have f0 := Be.o kr 0
 have f1 := Be.o kr 1
 have f2 := Be.o kr 2
 go_wp2
 exact Cu (p := 2) (by kernel_rfl) rfl rfl (((kr.set 0 _).set 1 _).set 2 _) ⟨rfl, Bi (Bi (Bi bb (by omega) 0 _) (by omega) 1 _) (by omega) 2 _⟩
open Go.RowKit
theorem Ck.row6 {w : World} {g : Nat} {t : TypeId} {m : Nat → Bool} {v : Nat → Value} (h : Ck w g t (6 * 2) (Na m v 6)) : Be w g [Iz (m 0), v 0, Iz (m 1), v 1, Iz (m 2), v 2, Iz (m 3), v 3, Iz (m 4), v 4, Iz (m 5), v 5] t := by
 obtain ⟨cs, h1, h2, h3⟩ := h
 have e : cs = #[Iz (m 0), v 0, Iz (m 1), v 1, Iz (m 2), v 2, Iz (m 3), v 3, Iz (m 4), v 4, Iz (m 5), v 5] := by
  apply Array.ext_getElem?
  intro i
  by_cases hi : i < 12
  ·rw [h3 i hi]
   match i, hi with
   | 0, _ => rfl
   | 1, _ => rfl
   | 2, _ => rfl
   | 3, _ => rfl
   | 4, _ => rfl
   | 5, _ => rfl
   | 6, _ => rfl
   | 7, _ => rfl
   | 8, _ => rfl
   | 9, _ => rfl
   | 10, _ => rfl
   | 11, _ => rfl
  ·rw [Array.getElem?_eq_none (by omega), Array.getElem?_eq_none (by simp; omega)]
 subst e
 exact h1
theorem Bdx (m : Nat → Bool) (v : Nat → Value) (uv xn yn tn : Bool) (ua xa ya ta : Option Addr) (ul uc xl xc yl yc tl tc : Nat) (Z : Nat → Int) (X Y T : Int) (La Lx g : Nat) (w : World) (hL : La + Lx + Lx + 10 ≤ 1000)
  (kg : Ck w g 66 (6 * 2) (Na m v 6)) (hv : Km w m v Z La 6) (nx : NV w xn (.slice xa xl xc) X Lx) (ny : NV w yn (.slice ya yl yc) Y Lx) (nt : NV w tn (.slice ta tl tc) T Lx) :
  Calls Tryz.prog 65 #[.agg #[.slice (some ⟨g, 0, none⟩) 6 6, Iz uv, .slice ua ul uc], .agg #[Iz xn, .slice xa xl xc], .agg #[Iz yn, .slice ya yl yc], .agg #[Iz tn, .slice ta tl tc]] w fun e w' => ∃ m a l c, e = .returned (.agg #[Iz m, .slice a l c]) ∧ NV w' m (.slice a l c) ((Z 0 * T + Z 1 * X + Z 2 * Y) * T + (Z 3 * X + Z 4 * Y) * X + Z 5 * Y * Y) (La + Lx + Lx + 4) ∧ Below w.heap.size w w' := by
 obtain ⟨n0, a0, l0, c0, e0⟩ := hv 0 (by omega)
 obtain ⟨n1, a1, l1, c1, e1⟩ := hv 1 (by omega)
 obtain ⟨n2, a2, l2, c2, e2⟩ := hv 2 (by omega)
 obtain ⟨n3, a3, l3, c3, e3⟩ := hv 3 (by omega)
 obtain ⟨n4, a4, l4, c4, e4⟩ := hv 4 (by omega)
 obtain ⟨n5, a5, l5, c5, e5⟩ := hv 5 (by omega)
 have k := kg.row6
 rw [e0, e1, e2, e3, e4, e5] at k
 rw [e0] at n0
 rw [e1] at n1
 rw [e2] at n2
 rw [e3] at n3
 rw [e4] at n4
 rw [e5] at n5
 exact Be3 _ _ _ _ _ _ _ _ _ _ _ _ _ _ _ _ _ _ _ _ _ _ _ _ uv xn yn tn ua xa ya ta ul uc xl xc yl yc tl tc _ _ _ _ _ _ X Y T La Lx g w hL k n0 n1 n2 n3 n4 n5 nx ny nt
theorem Sh (n : Int) (f : Bool) (s : ByteArray) (L : Nat) (w : World)
  (H0 : Hid (∀ w1, Calls Tryz.prog 123 #[.int .i64 n] w1 (Re w1 (.agg #[Iz f, I s]))))
  (H1 : Hid (∀ w1, Calls Tryz.prog 66 #[.agg #[Iz f, I s]] w1 fun e w' => ∃ v, e = .returned (.agg #[Iz f, v]) ∧ NV w' f v n L ∧ Below w1.heap.size w1 w')) :
  Calls Tryz.prog 129 #[.int .i64 n] w fun e w' => ∃ a l c, e = .returned (.agg #[Iz f, .slice a l c]) ∧ NV w' f (.slice a l c) n L ∧ Below w.heap.size w w' := by
 go_enter Tryz.func129, Tryz.ntmps129
 go_wp2_with fail
 obtain ⟨w0, hw, kr, bb⟩ := D7 w [Iz false, .slice none 0 0] 66
 rw [← hw]
 clear hw
 go_fit (H0.out _)
 rintro e w1 ⟨rfl, b1⟩
 replace kr := kr.b b1
 replace bb := Ia bb b1
 clear b1
 go_wp2_with fail
 go_fit (H1.out _)
 rintro e w2 ⟨v, rfl, n1, b1⟩
 obtain ⟨a, l, c, rfl⟩ := n1.slice
 replace kr := kr.b b1
 replace bb := Ia bb b1
 clear b1
 obtain ⟨e0, e1⟩ := B7 kr
 have f0 := Be.o kr 0
 have f1 := Be.o kr 1
 go_wp2
 exact Fj (p := 2) (by kernel_rfl) rfl rfl ((kr.set 0 _).set 1 _) ⟨_, _, _, rfl, n1.set2 kr _ _, Bi (Bi bb (by omega) 0 _) (by omega) 1 _⟩
theorem F9 (n : Int) (h1 : -1000000 ≤ n) (h2 : n ≤ 1000000) (w : World) :
  Calls Tryz.prog 129 #[.int .i64 n] w fun e w' => ∃ a l c, e = .returned (.agg #[Iz (Bs n), .slice a l c]) ∧ NV w' (Bs n) (.slice a l c) n 1 ∧ Below w.heap.size w w' := by
 have hz : Bc (Bp n) < Bb ^ 1 := by
  rw [Db, Nat.pow_one]
  exact Nat.lt_of_le_of_lt (show n.natAbs ≤ 1000000 by omega) (by decide)
 have hs : (Bp n).size ≤ 8 := Oj (K := 8) (show n.natAbs < 256 ^ 8 by omega)
 refine Sh n (Bs n) (Bp n) 1 w ?_ ?_
 ·exact fun w1 => Vs n (by omega) (by omega) w1
 ·intro w1
  have := Ee (Bs n) (Bp n) w1 (by omega) (Mc n).1 1 hz
  rwa [show C4 (Bs n) (Bc (Bp n)) = n from L5 _] at this
open Go.RowKit
theorem Ld {a b : Rat} {k j : Nat} (ha : Bq a k) (hb : Bq b j) : Bq (a + b) (k + j + 1) := by
 rw [Rat.add_def']
 exact Nj (Nat.mul_pos a.den_pos b.den_pos) ((ha.1.mul hb.2).add ((hb.1.mul ha.2).mono (by omega))) ((My _ _ ha.2 hb.2).mono (by omega))
theorem Dw {a b : Rat} {k j : Nat} (ha : Bq a k) (hb : Bq b j) : Bq (a - b) (k + j + 1) := by
 rw [Rat.sub_eq_add_neg]
 exact Ld ha (Zq hb)
theorem Et {a b : Rat} {k j : Nat} (ha : Bq a k) (hb : Bq b j) : Bq (a * b) (k + j) := by
 rw [Rat.mul_def']
 exact Nj (Nat.mul_pos a.den_pos b.den_pos) (ha.1.mul hb.1) (My _ _ ha.2 hb.2)
open Go.RowKit
def Pw {α : Type} (x y z : α) (j : Nat) : α := if j = 0 then x else if j = 1 then y else z
theorem X8 {w : World} {B : Nat} {t : TypeId} {m1 m2 m3 : Bool} {a1 a2 a3 : Option Addr} {l1 c1 l2 c2 l3 c3 : Nat} (h : Be w B [Iz m1, .slice a1 l1 c1, Iz m2, .slice a2 l2 c2, Iz m3, .slice a3 l3 c3] t) : Hm w (some ⟨B, 0, none⟩) 3 (Pw m1 m2 m3) (fun j => .slice (Pw a1 a2 a3 j) (Pw l1 l2 l3 j) (Pw c1 c2 c3 j)) := by
 intro j hj
 refine ⟨B, 0, rfl, ?_⟩
 match j, hj with
 | 0, _ => exact ⟨h.cell 0, h.cell 1⟩
 | 1, _ => exact ⟨h.cell 2, h.cell 3⟩
 | 2, _ => exact ⟨h.cell 4, h.cell 5⟩
open Go.RowKit
theorem Qc (n0 n1 n2 n3 n4 n5 n10 n11 n12 n13 n14 : Bool) (s0 d0 s1 d1 s2 d2 s3 d3 s4 d4 s5 d5 s10 d10 s11 d11 s12 d12 s13 d13 s14 d14 : ByteArray) (G : Int) (w : World)
  (H1 : Hid (∀ w1, Calls Tryz.prog 73 #[(B4 n2 s2 d2 n3 s3 d3), (B4 n0 s0 d0 n1 s1 d1)] w1 (Re w1 ((B4 n10 s10 d10 n11 s11 d11)))))
  (H2 : Hid (∀ w1, Calls Tryz.prog 73 #[(B4 n4 s4 d4 n5 s5 d5), (B4 n0 s0 d0 n1 s1 d1)] w1 (Re w1 ((B4 n12 s12 d12 n13 s13 d13)))))
  (H3 : Hid (∀ w1, Calls Tryz.prog 72 #[(B4 n10 s10 d10 n11 s11 d11), (B4 n12 s12 d12 n13 s13 d13)] w1 (Re w1 ((Bo n14 s14 d14)))))
  (H4 : Hid (∀ w1, Calls Tryz.prog 71 #[(Bo n14 s14 d14)] w1 (Re w1 (.int .i64 (G))))) :
  Calls Tryz.prog 35 #[(B4 n0 s0 d0 n1 s1 d1), (B4 n2 s2 d2 n3 s3 d3), (B4 n4 s4 d4 n5 s5 d5)] w (Re w (.int .i64 (G))) := by
 go_enter Tryz.func35, Tryz.ntmps35
 go_wp2_with fail
 obtain ⟨w0, hw, ka, kb, kc, bb⟩ := K9 w (Cn n0 s0 d0 n1 s1 d1) (Cn n2 s2 d2 n3 s3 d3) (Cn n4 s4 d4 n5 s5 d5) 30 30 30
 rw [← hw]
 clear hw
 have mkS : Hid (∀ w', Be w' (w.heap.size) (Cn n0 s0 d0 n1 s1 d1) 30 → Be w' (w.heap.size + 1) (Cn n2 s2 d2 n3 s3 d3) 30 → Be w' (w.heap.size + 1 + 1) (Cn n4 s4 d4 n5 s5 d5) 30 → (Gl w' w.heap.size (Iz n0) (I s0) (I d0) (Iz n1) (I s1) (I d1) ∧ Gl w' (w.heap.size + 1) (Iz n2) (I s2) (I d2) (Iz n3) (I s3) (I d3) ∧ Gl w' (w.heap.size + 1 + 1) (Iz n4) (I s4) (I d4) (Iz n5) (I s5) (I d5))) := fun w' ha hb hc => ⟨Cw ha, Cw hb, Cw hc⟩
 go_region_held3 (fun w' => Gl w' w.heap.size (Iz n0) (I s0) (I d0) (Iz n1) (I s1) (I d1) ∧ Gl w' (w.heap.size + 1) (Iz n2) (I s2) (I d2) (Iz n3) (I s3) (I d3) ∧ Gl w' (w.heap.size + 1 + 1) (Iz n4) (I s4) (I d4) (Iz n5) (I s5) (I d5)) (first | with_reducible exact mkS.out _ ka kb kc | exact mkS.out _ ka kb kc) (first | (go_at_call 73; go_fit (H1.out _); rintro e wn ⟨rfl, bn⟩; replace ka := ka.b (un bn); replace kb := kb.b (un bn); replace kc := kc.b (un bn); replace bb := Ia bb (un bn)) | (go_at_call 73; go_fit (H2.out _); rintro e wn ⟨rfl, bn⟩; replace ka := ka.b (un bn); replace kb := kb.b (un bn); replace kc := kc.b (un bn); replace bb := Ia bb (un bn)) | (go_at_call 72; go_fit (H3.out _); rintro e wn ⟨rfl, bn⟩; replace ka := ka.b (un bn); replace kb := kb.b (un bn); replace kc := kc.b (un bn); replace bb := Ia bb (un bn)) | (go_at_call 71; go_fit (H4.out _); rintro e wn ⟨rfl, bn⟩; replace ka := ka.b (un bn); replace kb := kb.b (un bn); replace kc := kc.b (un bn); replace bb := Ia bb (un bn)))
 go_wp2
 go_ret
 exact ⟨rfl, bb⟩
open Go.RowKit
theorem X3 (n0 n1 n2 n3 : Bool) (s0 d0 s1 d1 s2 d2 s3 d3 : ByteArray) (u0 u3 : Bool) (u1 u2 u4 u5 : ByteArray) (kN : Bool) (kS kD : ByteArray) (r0 r3 : Bool) (r1 r2 r4 r5 : ByteArray) (w : World)
  (PL : Hid (∀ w1, Below w.heap.size w w1 → Calls Tryz.prog 139 #[(B4 n0 s0 d0 n1 s1 d1), (B4 n2 s2 d2 n3 s3 d3)] w1 (Re w1 ((B4 u0 u1 u2 u3 u4 u5)))))
  (FC : Hid (∀ w1, Below w.heap.size w w1 → Calls Tryz.prog 29 #[.int .i64 1, .int .i64 2] w1 (Re w1 ((Bo kN kS kD)))))
  (SC : Hid (∀ w1, Below w.heap.size w w1 → Calls Tryz.prog 138 #[(B4 u0 u1 u2 u3 u4 u5), (Bo kN kS kD)] w1 (Re w1 ((B4 r0 r1 r2 r3 r4 r5))))) :
  Calls Tryz.prog 79 #[(B4 n0 s0 d0 n1 s1 d1), (B4 n2 s2 d2 n3 s3 d3)] w (Re w ((B4 r0 r1 r2 r3 r4 r5))) := by
 go_enter Tryz.func79, Tryz.ntmps79
 go_wp2_with fail
 obtain ⟨w1, hw, ka, kb, kr, bb⟩ := K9 w (Cn n0 s0 d0 n1 s1 d1) (Cn n2 s2 d2 n3 s3 d3) (Cn false eB eB false eB eB) 30 30 30
 rw [← hw]
 clear hw
 have tr := kr.lt
 obtain ⟨ca_0, ca_1, ca_2, ca_3, ca_4, ca_5⟩ := Cw ka
 obtain ⟨cb_6, cb_7, cb_8, cb_9, cb_10, cb_11⟩ := Cw kb
 go_wp2_with fail
 clear ca_0 ca_1 ca_2 ca_3 ca_4 ca_5 cb_6 cb_7 cb_8 cb_9 cb_10 cb_11
 go_fit (PL.out _ bb)
 rintro e w11 ⟨rfl, b1⟩
 have sz := b1.size
 replace ka := ka.b b1
 replace kb := kb.b b1
 replace kr := kr.b b1
 replace bb := Ia bb b1
 clear b1
 go_wp2_with fail
 go_fit (FC.out _ bb)
 rintro e w12 ⟨rfl, b1⟩
 have sz := b1.size
 replace ka := ka.b b1
 replace kb := kb.b b1
 replace kr := kr.b b1
 replace bb := Ia bb b1
 clear b1
 go_wp2_with fail
 go_fit (SC.out _ bb)
 rintro e w13 ⟨rfl, b1⟩
 have sz := b1.size
 replace ka := ka.b b1
 replace kb := kb.b b1
 replace kr := kr.b b1
 replace bb := Ia bb b1
 clear b1
 obtain ⟨e0, e1, e2, e3, e4, e5⟩ := Cw kr
 have f0 := Be.o kr 0
 have f1 := Be.o kr 1
 have f2 := Be.o kr 2
 have f3 := Be.o kr 3
 have f4 := Be.o kr 4
 have f5 := Be.o kr 5
 go_wp2
 exact Nx (p := 4) (by kernel_rfl) rfl rfl (kr.set6 _ _ _ _ _ _) ⟨rfl, Mu bb (by omega) _ _ _ _ _ _⟩
open Go.RowKit Go.Shelf
theorem R8 (n0 n1 n2 xN yN : Bool) (s0 d0 s1 d1 s2 d2 xS xD yS yD : ByteArray) (w : World)
  (H1 : Hid (∀ w1, Calls Tryz.prog 36 #[(Bo n0 s0 d0), (Bo n2 s2 d2)] w1 (Re w1 ((Bo xN xS xD)))))
  (H2 : Hid (∀ w1, Calls Tryz.prog 36 #[(Bo n1 s1 d1), (Bo n2 s2 d2)] w1 (Re w1 ((Bo yN yS yD))))) :
  Calls Tryz.prog 138 #[(B4 n0 s0 d0 n1 s1 d1), (Bo n2 s2 d2)] w (Re w ((B4 xN xS xD yN yS yD))) := by
 go_enter Tryz.func138, Tryz.ntmps138
 go_wp2_with fail
 obtain ⟨w1, hw, ka, kk, kr, b1⟩ := K9 w (Cn n0 s0 d0 n1 s1 d1) (Bx n2 s2 d2) (Cn false eB eB false eB eB) 30 26 30
 rw [← hw]
 clear hw
 have sz := b1.size
 have ta := ka.lt
 have tk := kk.lt
 have tr := kr.lt
 have bb := b1
 clear b1
 have qa : w.heap.size ≠ w.heap.size + 1 + 1 := by omega
 have qk : w.heap.size + 1 ≠ w.heap.size + 1 + 1 := by omega
 have mkS : Hid (∀ w', Be w' (w.heap.size) (Cn n0 s0 d0 n1 s1 d1) 30 → Be w' (w.heap.size + 1) (Bx n2 s2 d2) 26 → (Gl w' w.heap.size (Iz n0) (I s0) (I d0) (Iz n1) (I s1) (I d1) ∧ Gy w' (w.heap.size + 1) (Iz n2) (I s2) (I d2))) := fun w' ha hk => ⟨Cw ha, Ch hk⟩
 go_region_held3 (fun w' => Gl w' w.heap.size (Iz n0) (I s0) (I d0) (Iz n1) (I s1) (I d1) ∧ Gy w' (w.heap.size + 1) (Iz n2) (I s2) (I d2)) (first | with_reducible exact mkS.out _ ka kk | with_reducible exact mkS.out _ (ka.alloc _) (kk.alloc _) | with_reducible exact mkS.out _ (Be.w (Be.w (Be.w (Be.w (Be.w (Be.w ka qa 0 _) qa 1 _) qa 2 _) qa 3 _) qa 4 _) qa 5 _) (Be.w (Be.w (Be.w (Be.w (Be.w (Be.w kk qk 0 _) qk 1 _) qk 2 _) qk 3 _) qk 4 _) qk 5 _) | exact mkS.out _ ka kk) (first | (go_at_call 36; go_fit (H1.out _); rintro e wn ⟨rfl, bn⟩; replace ka := ka.b (un bn); replace kk := kk.b (un bn); replace kr := kr.b (un bn); replace bb := Ia bb (un bn)) | (go_at_call 36; go_fit (H2.out _); rintro e wn ⟨rfl, bn⟩; replace ka := ka.b (un bn); replace kk := kk.b (un bn); replace kr := kr.b (un bn); replace bb := Ia bb (un bn); have e0 := K4 kr; have f0 := Be.o kr 0; have e1 := K0 kr; have f1 := Be.o kr 1; have e2 := Kz kr; have f2 := Be.o kr 2; have e3 := Hd kr; have f3 := Be.o kr 3; have e4 := Hc kr; have f4 := Be.o kr 4; have e5 := Hb kr; have f5 := Be.o kr 5))
 go_wp2
 exact Nx (p := 4) (by kernel_rfl) rfl rfl (kr.set6 _ _ _ _ _ _) ⟨rfl, Mu bb (by omega) _ _ _ _ _ _⟩
open Go.RowKit
theorem Sn (n0 n1 n2 n3 n4 n5 : Bool) (s0 d0 s1 d1 s2 d2 s3 d3 s4 d4 s5 d5 : ByteArray) (E : Int) (w : World)
  (HC : Hid (∀ (w1 : World) (B : Nat), Below w.heap.size w w1 → Be w1 B (Di n0 s0 d0 n1 s1 d1 n2 s2 d2 n3 s3 d3 n4 s4 d4 n5 s5 d5) 28 → Calls Tryz.prog 118 #[.slice (some ⟨B, 0, none⟩) 6 6] w1 (Re w1 (.int .i64 E)))) :
  Calls Tryz.prog 117 #[(Cp n0 s0 d0 n1 s1 d1 n2 s2 d2 n3 s3 d3 n4 s4 d4 n5 s5 d5)] w (Re w (.int .i64 E)) := by
 go_enter Tryz.func117, Tryz.ntmps117
 go_wp2_with fail
 obtain ⟨w0, hw, kf, bb⟩ := D7 w (Di n0 s0 d0 n1 s1 d1 n2 s2 d2 n3 s3 d3 n4 s4 d4 n5 s5 d5) 28
 rw [← hw]
 clear hw
 go_fit (HC.out _ _ bb kf)
 rintro e w1 ⟨rfl, b1⟩
 replace bb := Ia bb b1
 clear b1 kf
 go_wp2
 go_ret
 exact ⟨rfl, bb⟩
theorem Bec {w : World} {g : Nat} {x y z : Value} (h : Be w g [x, y, z] 111) : (loadVar 111 ⟨g, 0, none⟩).run Tryz.prog w = .ok (.agg #[x, y, z]) w :=
 run_loadVar_row w g 111 111 #[x, y, z] (0, 0) _ h Tryz.underlying111 rfl (by kernel_rfl)
theorem Bdu {fn : Func} {p : Tmp} {R : Ending → World → Prop} {a : Act} {w : World} {g : Nat} {x y z : Value} (h : fn.results = #[.cell p 111]) (hp : a.tmps.getD p undef = .pointer (some ⟨g, 0, none⟩)) (hd : a.defers = [])
  (hc : Be w g [x, y, z] 111) (hR : R (.returned (.agg #[x, y, z])) w) : bodyPost Tryz.prog fn R .ret a w := by
 refine ⟨hd, .agg #[x, y, z], ?_, hR⟩
 have hp' : a.tmps[p]?.getD undef = .pointer (some ⟨g, 0, none⟩) := by simpa using hp
 simp only [results, h]
 simp [hp', asAddr, Bec hc]
theorem Bhg : ∀ (j : Nat) (k : IntKind) (i : Int), [Value.slice none 0 0, Iz false, .slice none 0 0][j]? ≠ some (.int k i) := by
 intro j k i
 match j with
 | 0 => simp
 | 1 => simp
 | 2 => simp
 | j + 3 => simp
theorem NV.setK {w : World} {n : Bool} {v : Value} {z : Int} {L g : Nat} {t : TypeId} (h : NV w n v z L) (hc : Be w g [.slice none 0 0, Iz false, .slice none 0 0] t) (x y u : Value) : NV (((w.setCell ⟨g, 0, none⟩ x).setCell ⟨g, 1, none⟩ y).setCell ⟨g, 2, none⟩ u) n v z L := by
 obtain ⟨k, r, h1, h2⟩ := h
 exact ⟨k, ((((F8 r hc Bhg).setX 0 x).setX 1 y).setX 2 u).rd, h1, h2⟩
theorem Qz (n0 n1 n2 n3 n4 n5 : Bool) (s0 d0 s1 d1 s2 d2 s3 d3 s4 d4 s5 d5 : ByteArray) (Z : Nat → Int) (Q : Int) (L M' : Nat) (w : World)
  (HS : Hid (∀ (w1 : World) (B : Nat), Below w.heap.size w w1 → Be w1 B (Di n0 s0 d0 n1 s1 d1 n2 s2 d2 n3 s3 d3 n4 s4 d4 n5 s5 d5) 28 → Calls Tryz.prog 62 #[.slice (some ⟨B, 0, none⟩) 6 6] w1 fun e w' => ∃ g m v a l c, w1.heap.size ≤ g ∧ e = .returned (.tuple #[.slice (some ⟨g, 0, none⟩) 6 6, .agg #[Iz false, .slice a l c]]) ∧ Ck w' g 66 (6 * 2) (Na m v 6) ∧ Km w' m v Z L 6 ∧ NV w' false (.slice a l c) Q M' ∧ Below w1.heap.size w1 w')) :
  Calls Tryz.prog 61 #[(Cp n0 s0 d0 n1 s1 d1 n2 s2 d2 n3 s3 d3 n4 s4 d4 n5 s5 d5)] w fun e w' => ∃ g m v a l c, e = .returned (.agg #[.slice (some ⟨g, 0, none⟩) 6 6, Iz false, .slice a l c]) ∧ Ck w' g 66 (6 * 2) (Na m v 6) ∧ Km w' m v Z L 6 ∧ NV w' false (.slice a l c) Q M' ∧ Below w.heap.size w w' := by
 go_enter Tryz.func61, Tryz.ntmps61
 go_wp2_with fail
 obtain ⟨w0, hw, kf, kr, bb⟩ := Gx w (Di n0 s0 d0 n1 s1 d1 n2 s2 d2 n3 s3 d3 n4 s4 d4 n5 s5 d5) [.slice none 0 0, Iz false, .slice none 0 0] 28 111
 rw [← hw]
 clear hw
 have t0 := kr.lt
 go_fit (HS.out _ _ bb kf)
 rintro e w1 ⟨g, m, v, a, l, c, gl, rfl, kg, hv, hq, b1⟩
 replace kr := kr.b b1
 replace bb := Ia bb b1
 clear b1 kf
 have ob := Ct w1 (.cells #[Iz false, .slice a l c] 66)
 replace kr := kr.b ob
 replace bb := Ia bb ob
 replace kg := kg.b ob
 replace hv := hv.b ob
 replace hq := hq.b ob
 have tr := kr.lt
 have tg := kg.lt
 obtain ⟨e0, e1, e2⟩ := Ch kr
 have f0 := Be.o kr 0
 have f1 := Be.o kr 1
 have f2 := Be.o kr 2
 have ne : g ≠ w.heap.size + 1 := by omega
 clear ob
 go_wp2
 exact Bdu (p := 2) (by kernel_rfl) rfl rfl (((kr.set 0 _).set 1 _).set 2 _) ⟨g, m, v, a, l, c, rfl, ((kg.w ne 0 _).w ne 1 _).w ne 2 _, fun q hq' => ⟨(hv q hq').1.setK kr _ _ _, (hv q hq').2⟩, hq.setK kr _ _ _, Bi (Bi (Bi bb (by omega) 0 _) (by omega) 1 _) (by omega) 2 _⟩
open Go.RowKit
theorem Bbf (v v' : Value) (U V : Int) (L : Nat) (w : World) (hL : L ≤ 1000) (h : NV w false v U L) (h' : NV w false v' V L) :
  Calls Tryz.prog 166 #[.agg #[Iz false, v], .agg #[Iz false, v']] w (Re w (Iz (decide (U = V)))) := by
 obtain ⟨k, r, hk, rfl⟩ := h
 obtain ⟨k', r', hk', rfl⟩ := h'
 have := Yi false false v v' k k' L w r r' hL hk hk'
 have e : decide (C4 false k = C4 false k') = decide (k = k') := by
  simp only [C4, Bool.false_eq_true, if_false]
  by_cases h : k = k'
  ·rw [decide_eq_true h, decide_eq_true (by omega)]
  ·rw [decide_eq_false h, decide_eq_false (by omega)]
 rw [e]
 exact this
theorem Ba6 {fn : Func} {p : Tmp} {R : Ending → World → Prop} {a : Act} {w : World} {g : Nat} {x0 x1 x2 x3 x4 x5 : Value} (h : fn.results = #[.cell p 176]) (hp : a.tmps.getD p undef = .pointer (some ⟨g, 0, none⟩)) (hd : a.defers = [])
  (hc : Be w g [x0, x1, x2, x3, x4, x5] 176) (hR : R (.returned (.agg #[x0, x1, x2, x3, x4, x5])) w) : bodyPost Tryz.prog fn R .ret a w := by
 refine ⟨hd, .agg #[x0, x1, x2, x3, x4, x5], ?_, hR⟩
 exact results_cell_row (P := Tryz.prog) h _ w g 176 #[x0, x1, x2, x3, x4, x5] (0, 0) _ hp hc Tryz.underlying176 rfl (by kernel_rfl)
theorem Sw (n0 n1 : Bool) (s0 d0 s1 d1 : ByteArray) (w : World) (o0 : On n0 s0 d0) (o1 : On n1 s1 d1) (z0 : s0.size ≤ 100 ∧ d0.size ≤ 100) (z1 : s1.size ≤ 100 ∧ d1.size ≤ 100) :
  Calls Tryz.prog 165 #[(Bo n0 s0 d0), (Bo n1 s1 d1)] w fun e w' => ∃ m a l c a' l' c' X U, e = .returned (.tuple #[.agg #[Iz m, .slice a l c], .agg #[Iz false, .slice a' l' c']]) ∧ NV w' m (.slice a l c) X 27 ∧ NV w' false (.slice a' l' c') U 26 ∧ 0 < U ∧ (X : Rat) = (U : Rat) * (Gh n0 s0 d0 - Gh n1 s1 d1) ∧ Below w.heap.size w w' := by
 have H1 : Hid (∀ w1, Calls Tryz.prog 66 #[.agg #[Iz n0, I s0]] w1 fun e w' => ∃ v, e = .returned (.agg #[Iz n0, v]) ∧ NV w' n0 v (Cq n0 s0) 13 ∧ Below w1.heap.size w1 w') := fun w1 => Ee n0 s0 w1 (by omega) o0.1.1 13 (Cg 13 (by omega))
 have H2 : Hid (∀ w1, Calls Tryz.prog 66 #[.agg #[Iz n1, I s1]] w1 fun e w' => ∃ v, e = .returned (.agg #[Iz n1, v]) ∧ NV w' n1 v (Cq n1 s1) 13 ∧ Below w1.heap.size w1 w') := fun w1 => Ee n1 s1 w1 (by omega) o1.1.1 13 (Cg 13 (by omega))
 have H3 : Hid (∀ w1, Calls Tryz.prog 66 #[.agg #[Iz false, I d0]] w1 fun e w' => ∃ v, e = .returned (.agg #[Iz false, v]) ∧ NV w' false v (Bc d0 : Int) 13 ∧ Below w1.heap.size w1 w') := fun w1 => Ee false d0 w1 (by omega) o0.2.1 13 (Cg 13 (by omega))
 have H4 : Hid (∀ w1, Calls Tryz.prog 66 #[.agg #[Iz false, I d1]] w1 fun e w' => ∃ v, e = .returned (.agg #[Iz false, v]) ∧ NV w' false v (Bc d1 : Int) 13 ∧ Below w1.heap.size w1 w') := fun w1 => Ee false d1 w1 (by omega) o1.2.1 13 (Cg 13 (by omega))
 have q0 : Gh n0 s0 d0 = (Cq n0 s0 : Rat) / (Bc d0 : Rat) := by unfold Gh; rw [Rat.mkRat_eq_div]
 have q1 : Gh n1 s1 d1 = (Cq n1 s1 : Rat) / (Bc d1 : Rat) := by unfold Gh; rw [Rat.mkRat_eq_div]
 have p0 : (0 : Int) < (Bc d0 : Int) := by have := o0.2.2.1; omega
 have p1 : (0 : Int) < (Bc d1 : Int) := by have := o1.2.2.1; omega
 have r0 : ((Bc d0 : Int) : Rat) ≠ 0 := by
  intro h
  have : (Bc d0 : Int) = 0 := by exact_mod_cast h
  omega
 have r1 : ((Bc d1 : Int) : Rat) ≠ 0 := by
  intro h
  have : (Bc d1 : Int) = 0 := by exact_mod_cast h
  omega
 rw [q0, q1]
 cases hd : (d0.toList == d1.toList)
 ·refine (Bef n0 n1 s0 d0 s1 d1 _ _ _ _ 13 w (by omega) H1 H2 H3 H4 hd).mono ?_
  rintro e w' ⟨m, a, l, c, a', l', c', rfl, h1, h2, h3⟩
  refine ⟨m, a, l, c, a', l', c', _, _, rfl, h1, h2, Int.mul_pos p0 p1, ?_, h3⟩
  simp only [Rat.intCast_sub, Rat.intCast_mul]
  rw [show ((Bc d0 : Nat) : Rat) = ((Bc d0 : Int) : Rat) from rfl, show ((Bc d1 : Nat) : Rat) = ((Bc d1 : Int) : Rat) from rfl]
  grind
 ·have hdd : d0 = d1 := by
   have : d0.toList = d1.toList := by simpa using hd
   have h2 : d0.data = d1.data := by
    rw [ByteArray.toList_eq, ByteArray.toList_eq] at this
    exact Array.toList_inj.1 this
   cases d0; cases d1; simp_all
  refine (Beg n0 n1 s0 d0 s1 d1 _ _ _ 13 w (by omega) H1 H2 H3 hd).mono ?_
  rintro e w' ⟨m, a, l, c, a', l', c', rfl, h1, h2, h3⟩
  refine ⟨m, a, l, c, a', l', c', _, _, rfl, h1.mono (by omega), h2.mono (by omega), p0, ?_, h3⟩
  rw [← hdd]
  simp only [Rat.intCast_sub]
  rw [show ((Bc d0 : Nat) : Rat) = ((Bc d0 : Int) : Rat) from rfl]
  grind
open Go.RowKit
def um (r : Nat → Rat) : Nat → Nat
 | 0 => 1
 | k + 1 => um r k * ((r k).den / Nat.gcd (um r k) (r k).den)
theorem Zt (r : Nat → Rat) : ∀ k, 0 < um r k
 | 0 => Nat.one_pos
 | k + 1 => Nat.mul_pos (Zt r k) (Nat.div_pos (Nat.le_of_dvd (r k).den_pos (Nat.gcd_dvd_right _ _)) (Nat.gcd_pos_of_pos_right _ (r k).den_pos))
theorem Bfs (r : Nat → Rat) (k : Nat) : (r k).den ∣ um r (k + 1) := by
 obtain ⟨c, hc⟩ := Nat.gcd_dvd_left (um r k) (r k).den
 refine ⟨c, ?_⟩
 show um r k * ((r k).den / Nat.gcd (um r k) (r k).den) = _
 have e := Nat.div_mul_cancel (Nat.gcd_dvd_right (um r k) (r k).den)
 generalize (r k).den / Nat.gcd (um r k) (r k).den = q at *
 generalize Nat.gcd (um r k) (r k).den = g at *
 rw [hc, ← e, Nat.mul_assoc, Nat.mul_comm c q, ← Nat.mul_assoc, Nat.mul_comm g q]
theorem Zu (r : Nat → Rat) {j : Nat} : ∀ {n : Nat}, j < n → (r j).den ∣ um r n
 | 0, h => absurd h (by omega)
 | n + 1, h => by
  by_cases e : j = n
  ·subst e; exact Bfs r j
  ·exact Nat.dvd_trans (Zu r (by omega : j < n)) (Nat.dvd_mul_right _ _)
theorem Mi {r : Nat → Rat} {K : Nat} : ∀ {n : Nat}, (∀ k, k < n → Bq (r k) K) → Bd ((um r n : Nat) : Int) (K * n + 1)
 | 0, _ => by unfold Bd; show 1 < _; rw [Nat.mul_zero, Nat.zero_add]; decide
 | n + 1, h => by
  have h1 := Mi (n := n) (fun k hk => h k (by omega))
  have h2 : Bd (((r n).den / Nat.gcd (um r n) (r n).den : Nat) : Int) K := (h n (by omega)).2.nat (Nat.div_le_self _ _)
  have := h1.mul h2
  show Bd ((um r n * ((r n).den / Nat.gcd (um r n) (r n).den) : Nat) : Int) _
  rw [Int.natCast_mul]
  exact this.mono (by rw [Nat.mul_add]; omega)
theorem okn (m : Nat) : Kj false (Bf m) := by
 have := Qj (m : Int)
 rwa [decide_eq_false (by omega), Int.natAbs_natCast] at this
theorem zon (m : Nat) : Cq false (Bf m) = (m : Int) := by
 have := Pr (m : Int)
 rwa [decide_eq_false (by omega), Int.natAbs_natCast] at this
theorem zIn (m : Nat) : zI ((m : Nat) : Int) = .agg #[Iz false, I (Bf m)] := by
 unfold zI zV
 simp
theorem szn {m K : Nat} (h : Bd ((m : Nat) : Int) K) : (Bf m).size ≤ K := by
 have := h.size
 simpa using this
theorem Nq (a : Option Addr) (n cap : Nat) (r : Nat → Rat) {K : Nat} (hK : K ≤ 100) (hn : n ≤ 6) (w : World) (hT : Fi w) (h : RdQ w a n (fun k => Bs (r k).num) (fun k => Bp (r k).num) (fun k => Bf (r k).den)) (hb : ∀ k, k < n → Bq (r k) K) :
  Calls Tryz.prog 62 #[.slice a n cap] w fun e w' => ∃ g m v a' l c, w.heap.size ≤ g ∧ e = .returned (.tuple #[.slice (some ⟨g, 0, none⟩) n n, .agg #[Iz false, .slice a' l c]]) ∧ Ck w' g 66 (n * 2) (Na m v n) ∧ Km w' m v (fun q => (r q).num * ((um r n / (r q).den : Nat) : Int)) (80 + 80) n ∧ NV w' false (.slice a' l c) ((um r n : Nat) : Int) 80 ∧ Below w.heap.size w w' := by
 have bu : ∀ k, k ≤ n → Bd ((um r k : Nat) : Int) 601 := fun k hk => (Mi (fun j hj => hb j (by omega))).mono (by have : K * k ≤ 100 * 6 := Nat.mul_le_mul hK (by omega); omega)
 have bd : ∀ k, k < n → Bd (((r k).den : Nat) : Int) 601 := fun k hk => (hb k hk).2.mono (by omega)
 have bnum : ∀ k, k < n → (Bp (r k).num).size ≤ 601 := fun k hk => Jf (Oj (hb k hk).1) (by omega)
 refine Rt a n cap _ _ _ (fun k => Bf (um r k)) (fun k => Bf (Nat.gcd (um r k) (r k).den)) (fun k => Bf ((r k).den / Nat.gcd (um r k) (r k).den)) (fun k => Bf ((r k).den % Nat.gcd (um r k) (r k).den)) (fun k => Bf (um r n / (r k).den)) (fun k => Bf (um r n % (r k).den)) (fun k => (r k).num) (fun k => ((um r n / (r k).den : Nat) : Int)) _ 80 w (by omega) (by omega) h ?_ ?_ ?_ ?_ ?_ ?_ ?_ ?_
 ·intro w1
  have := Vs 1 (by omega) (by omega) w1
  rwa [show (1 : Int) = ((1 : Nat) : Int) from rfl, zIn] at this
 ·intro k w1 hk b
  have := Pp false false (Bf (um r k)) (Bf (r k).den) w1 (okn _) (okn _) (Jf (szn (bu k (by omega))) (by omega)) (Jf (szn (bd k hk)) (by omega)) (hT.b b)
  rwa [Bu, Bu, zIn] at this
 ·intro k w1 hk b
  have hg : Nat.gcd (um r k) (r k).den ≤ (r k).den := Nat.le_of_dvd (r k).den_pos (Nat.gcd_dvd_right _ _)
  have := Pq false false (Bf (r k).den) (Bf (Nat.gcd (um r k) (r k).den)) w1 (okn _) (okn _) (Jf (szn (bd k hk)) (by omega)) (Jf (szn ((bd k hk).nat hg)) (by omega)) (by rw [Bu]; exact Nat.gcd_pos_of_pos_right _ (r k).den_pos)
  rwa [zon, zon, ← Int.natCast_ediv, ← Int.natCast_emod, zIn, zIn] at this
 ·intro k w1 hk b
  have := Vt false false (Bf (um r k)) (Bf ((r k).den / Nat.gcd (um r k) (r k).den)) w1 (okn _) (okn _) (Jf (szn (bu k (by omega))) (by omega)) (Jf (szn ((bd k hk).nat (Nat.div_le_self _ _))) (by omega))
  rwa [zon, zon, ← Int.natCast_mul, zIn] at this
 ·intro k w1 hk b
  have := Pq false false (Bf (um r n)) (Bf (r k).den) w1 (okn _) (okn _) (Jf (szn (bu n (Jb _))) (by omega)) (Jf (szn (bd k hk)) (by omega)) (by rw [Bu]; exact (r k).den_pos)
  rwa [zon, zon, ← Int.natCast_ediv, ← Int.natCast_emod, zIn, zIn] at this
 ·intro k w1 hk b
  have := Ee (Bs (r k).num) (Bp (r k).num) w1 (Jf (bnum k hk) (by omega)) (Mc (r k).num).1 80 (Cg 80 (Jf (bnum k hk) (by omega)))
  rwa [show C4 (Bs (r k).num) (Bc (Bp (r k).num)) = (r k).num from L5 _] at this
 ·intro k w1 hk b
  have hz := szn ((bu n (Jb _)).nat (Nat.div_le_self (um r n) (r k).den))
  have := Ee false (Bf (um r n / (r k).den)) w1 (Jf hz (by omega)) (okn _).1 80 (Cg 80 (Jf hz (by omega)))
  rwa [show C4 false (Bc (Bf (um r n / (r k).den))) = ((um r n / (r k).den : Nat) : Int) from zon _] at this
 ·intro w1 b
  have hz := szn (bu n (Jb _))
  have := Ee false (Bf (um r n)) w1 (Jf hz (by omega)) (okn _).1 80 (Cg 80 (Jf hz (by omega)))
  rwa [show C4 false (Bc (Bf (um r n))) = ((um r n : Nat) : Int) from zon _] at this
theorem Bfr (r : Nat → Rat) {j n : Nat} (h : j < n) : (((r j).num * ((um r n / (r j).den : Nat) : Int) : Int) : Rat) = ((um r n : Nat) : Rat) * r j := by
 obtain ⟨c, hc⟩ := Zu r h
 rw [hc, Nat.mul_div_cancel_left _ (r j).den_pos]
 have e := Rat.mkRat_self (r j)
 rw [Rat.mkRat_eq_div] at e
 have hd : ((r j).den : Rat) ≠ 0 := fun q => by
  have q' : ((r j).den : Rat) = ((0 : Nat) : Rat) := q
  rw [Rat.natCast_inj] at q'
  have := (r j).den_pos
  omega
 rw [Rat.div_def] at e
 have k := Rat.mul_inv_cancel _ hd
 push_cast
 generalize ((r j).den : Rat)⁻¹ = i at *
 generalize ((r j).den : Rat) = d at *
 generalize ((r j).num : Rat) = m at *
 generalize r j = x at *
 grind
open Go.RowKit
def RdW (w : World) (a : Option Addr) (n : Nat) (W : Nat → Int) : Prop := ∀ j, j < n → ∃ b off, a = some ⟨b, off, none⟩ ∧ w.cell? ⟨b, off + j, none⟩ = some (.int .i64 (W j))
theorem RdW.b {w w' : World} {a : Option Addr} {n : Nat} {W : Nat → Int} (h : RdW w a n W) (hb : Below w.heap.size w w') : RdW w' a n W := by
 intro j hj
 obtain ⟨b, off, e, h0⟩ := h j hj
 exact ⟨b, off, e, Bh h0 hb⟩
def D6 (Z W : Nat → Int) : Nat → Int
 | 0 => 0
 | k + 1 => D6 Z W k + Z k * W k
theorem Wp (w : World) (L : Nat) : NV w false (.slice none 0 0) 0 L := by
 have r : Rd w (.slice none 0 0) [] := ⟨none, 0, rfl, by simp, fun j hj => by simp at hj⟩
 exact ⟨0, by simpa [M.digs, M.digsF] using r, Nat.pow_pos (by decide), rfl⟩
open Go.RowKit
theorem Ki {w : World} {d g i j k : Nat} {u : Value} (h : w.cell? ⟨d, i, none⟩ = some u) (hne : ¬ d = g) (x y : Value) : ((w.setCell ⟨g, j, none⟩ x).setCell ⟨g, k, none⟩ y).cell? ⟨d, i, none⟩ = some u := by
 rw [World.cell?_setCell_other _ _ _ _ (fun e => hne (by injection e with e; exact e.symm)), World.cell?_setCell_other _ _ _ _ (fun e => hne (by injection e with e; exact e.symm))]
 exact h
theorem Fo (la wa : Option Addr) (n lcap m wcap : Nat) (N : Nat → Bool) (v : Nat → Value) (Z W : Nat → Int) (L : Nat) (w : World) (hm : m ≤ n) (hn : n ≤ 10) (hL : L ≤ 900)
  (hl : Hm w la n N v) (hv : Km w N v Z L n) (hw : RdW w wa m W)
  (HS : Hid (∀ (k : Nat) (w1 : World), k < m → Calls Tryz.prog 129 #[.int .i64 (W k)] w1 fun e w' => ∃ f a l c, e = .returned (.agg #[Iz f, .slice a l c]) ∧ NV w' f (.slice a l c) (W k) 1 ∧ Below w1.heap.size w1 w')) :
  Calls Tryz.prog 64 #[.slice la n lcap, .slice wa m wcap] w fun e w' => ∃ f a l c, e = .returned (.agg #[Iz f, .slice a l c]) ∧ NV w' f (.slice a l c) (D6 Z W m) (L + 1 + m) ∧ Below w.heap.size w w' := by
 replace hl := Ba hl
 replace hv := Ba hv
 replace hw := Ba hw
 go_enter Tryz.func64, Tryz.ntmps64
 go_wp2_with fail
 obtain ⟨w0, hq, kr, ks, bb⟩ := Gx w [Iz false, .slice none 0 0] [Iz false, .slice none 0 0] 66 66
 rw [← hq]
 clear hq
 go_loopw [11] (fun i wr => Below w.heap.size w wr ∧ ∃ (k : Nat) (f : Bool) (a : Option Addr) (l c : Nat), k ≤ m ∧ i = .int .i64 k ∧ Be wr (w.heap.size + 1) [Iz f, .slice a l c] 66 ∧ NV wr f (.slice a l c) (D6 Z W k) (L + 1 + k) ∧ Be wr w.heap.size [Iz false, .slice none 0 0] 66) (fun i _ => m - (intOf i).toNat)
 case atStart => exact ⟨bb, 0, _, _, _, _, by omega, rfl, ks, Wp _ _, kr⟩
 case round =>
  clear bb kr ks
  obtain ⟨bb, k, f, a, l, c, hk, rfl, ks, ns, kr⟩ := hrel
  by_cases hkm : k < m
  ·obtain ⟨b, off, rfl, h0⟩ := hw.out.b bb k hkm
   obtain ⟨d, o, rfl, g0, g1⟩ := hl.out.b bb k (by omega)
   have hd : d < w.heap.size := by
    obtain ⟨d', o', e, q0, -⟩ := hl.out k (by omega)
    injection e with e
    injection e with e1 e2
    subst e1
    exact World.block_lt_of_cell? w _ q0
   obtain ⟨nk, ak, lk, ck, ek⟩ := hv.out k (by omega)
   rw [ek] at nk g1
   replace nk := nk.b bb
   have i1 : (k : Int) < (n : Int) := by omega
   have i2 : ¬ (k : Int) < 0 := by omega
   have i3 : (k : Int) < (m : Int) := by omega
   go_wp2_with fail
   clear h0
   have bd := Cd wr
   replace ks := ks.b bd
   replace kr := kr.b bd
   replace ns := ns.b bd
   replace nk := nk.b bd
   replace g0 := Bh g0 bd
   replace g1 := Bh g1 bd
   replace bb := Ia bb bd
   clear bd
   refine Jc (S := fun w' => w'.cell? ⟨d, o + k * 2, none⟩ = some (Iz (N k)) ∧ w'.cell? ⟨d, o + k * 2 + 1, none⟩ = some (.slice ak lk ck)) (by kernel_rfl) ⟨g0, g1⟩ (fun hS => ?_)
   generalize wr.drew = wd at *
   refine WA.start (n := 10) (by kernel_rfl) ?_
   refine WA.tp 1 rfl ?_
   refine WA.tp 2 rfl ?_
   refine WA.tp 3 rfl ?_
   refine WA.tp 4 rfl ?_
   refine WA.tp 5 rfl ?_
   refine WA.genR (i := 0) (s := 16) (.agg #[Iz f, .slice a l c]) (fun b x hz => ?_)
   simp only [Jp]
   obtain ⟨c0, c1⟩ := B7 ks
   revert b x
   refine WA.oneR 10 62 6 0 rfl rfl hS ?_
   clear hS c0 c1
   intro b x hz K hK
   simp only [Jq]
   go_simp
   go_fit (HS.out k _ hkm)
   rintro e w1 ⟨f1, a1, l1, c1, rfl, n1, b1⟩
   replace ks := ks.b b1
   replace kr := kr.b b1
   replace ns := ns.b b1
   replace nk := nk.b b1
   replace g0 := Bh g0 b1
   replace g1 := Bh g1 b1
   replace bb := Ia bb b1
   clear b1
   try go_wp2_with fail
   refine hK.out _ _ ⟨g0, g1⟩ (fun hS => ?_)
   clear hK K
   obtain ⟨c0, c1⟩ := B7 ks
   revert b x
   refine WA.oneR 10 126 7 0 rfl rfl hS ?_
   clear hS c0 c1
   intro b x hz K hK
   simp only [Jq]
   go_simp
   go_fit (B5 _ _ _ _ (Z k) (W k) L 1 _ (by omega) (by omega) nk n1)
   rintro e w2 ⟨f2, v2, rfl, n2, -, b1⟩
   obtain ⟨a2, l2, c2, rfl⟩ := n2.slice
   clear nk n1
   replace ks := ks.b b1
   replace kr := kr.b b1
   replace ns := ns.b b1
   replace g0 := Bh g0 b1
   replace g1 := Bh g1 b1
   replace bb := Ia bb b1
   clear b1
   try go_wp2_with fail
   refine hK.out _ _ ⟨g0, g1⟩ (fun hS => ?_)
   clear hK K
   obtain ⟨c0, c1⟩ := B7 ks
   revert b x
   refine WA.finR 0 rfl hS ?_
   clear c0 c1
   refine WA.cal 8 rfl (fun K hK => ?_)
   simp only [Jq]
   go_simp
   go_fit (Ef _ _ _ _ (D6 Z W k) (Z k * W k) (L + 1 + k) _ (by omega) ns (n2.mono (by omega)))
   rintro e w3 ⟨f3, v3, rfl, n3, b1⟩
   obtain ⟨a3, l3, c3, rfl⟩ := n3.slice
   clear ns n2
   replace ks := ks.b b1
   replace kr := kr.b b1
   replace g0 := Bh g0 b1
   replace g1 := Bh g1 b1
   replace bb := Ia bb b1
   clear b1
   try go_wp2_with fail
   clear hS
   refine hK.out _ _ ⟨g0, g1⟩ (fun hS => ?_)
   clear hK K
   obtain ⟨c0, c1⟩ := B7 ks
   have q0 := Be.o ks 0
   have q1 := Be.o ks 1
   refine WA.cal 9 rfl (fun K hK => ?_)
   simp only [Jq]
   go_simp
   try go_wp2_with fail
   clear c0 c1 q0 q1 hS
   have hne : ¬ (d = w.heap.size + 1) := by omega
   refine hK.out _ _ ⟨Ki g0 hne _ _, Ki g1 hne _ _⟩ (fun hS => ?_)
   clear hK K
   refine WA.done (by kernel_rfl) ?_
   clear hS
   replace n3 := n3.set2 ks (Iz f3) (.slice a3 l3 c3)
   replace kr := kr.oth2 (show w.heap.size ≠ w.heap.size + 1 by omega) (Iz f3) (.slice a3 l3 c3)
   have bs := bb
   replace bs := Bi (Bi bs (show w.heap.size ≤ w.heap.size + 1 by omega) 0 (Iz f3)) (show w.heap.size ≤ w.heap.size + 1 by omega) 1 (.slice a3 l3 c3)
   replace ks := (ks.set 0 (Iz f3)).set 1 (.slice a3 l3 c3)
   clear bb g0 g1
   go_wp2_with fail
   refine ⟨⟨bs, k + 1, f3, a3, l3, c3, by omega, by go_num, ks, n3, kr⟩, ?_⟩
   simp [intOf]; omega
  ·have hkm' : k = m := by omega
   subst hkm'
   have i3 : ¬ (k : Int) < (k : Int) := by omega
   obtain ⟨c0, c1⟩ := B7 ks
   obtain ⟨d0, d1⟩ := B7 kr
   have q0 := Be.o kr 0
   have q1 := Be.o kr 1
   have hne : ¬ (w.heap.size + 1 = w.heap.size) := by omega
   go_wp2
   exact Fj (p := 4) (by kernel_rfl) rfl rfl ((kr.set 0 _).set 1 _) (by cases f with | false => exact Or.inl ⟨a, l, c, rfl, ns.set2 kr _ _, Bi (Bi bb (Jb _) 0 _) (Jb _) 1 _⟩ | true => exact Or.inr ⟨a, l, c, rfl, ns.set2 kr _ _, Bi (Bi bb (Jb _) 0 _) (Jb _) 1 _⟩)
open Go.RowKit
theorem NV.bd {w : World} {n : Bool} {v : Value} {z : Int} {L K : Nat} (h : NV w n v z L) (hK : 8 * L ≤ K) : Bd z K := by
 obtain ⟨k, -, hk, rfl⟩ := h
 rw [Kk] at hk
 show (C4 n k).natAbs < _
 rw [Kx]
 exact Jl hk (Nat.pow_le_pow_right (by omega) hK)
theorem Bdk {w : World} {g : Nat} {t : TypeId} {Z : Nat → Int} (h : Ck w g t 2 (Od Z 2)) : RdS w (.slice (some ⟨g, 0, none⟩) 2 2) [Bp (Z 0), Bp (Z 1)] := by
 refine ⟨_, 2, rfl, Jb _, fun j hj => ⟨g, 0, rfl, ?_⟩⟩
 have hj' : j < 2 := hj
 rw [Nat.zero_add, h.cell hj']
 match j, hj' with
 | 0, _ => rfl
 | 1, _ => rfl
def Px {α : Type} (x y : α) (j : Nat) : α := if j = 0 then x else y
theorem Bdm {w : World} {B : Nat} {t : TypeId} {m1 m2 : Bool} {a1 a2 : Option Addr} {l1 c1 l2 c2 : Nat} (h : Be w B [Iz m1, .slice a1 l1 c1, Iz m2, .slice a2 l2 c2] t) : Hm w (some ⟨B, 0, none⟩) 2 (Px m1 m2) (fun j => .slice (Px a1 a2 j) (Px l1 l2 j) (Px c1 c2 j)) := by
 intro j hj
 refine ⟨B, 0, rfl, ?_⟩
 match j, hj with
 | 0, _ => exact ⟨h.cell 0, h.cell 1⟩
 | 1, _ => exact ⟨h.cell 2, h.cell 3⟩
theorem Bgk (m0 m1 m2 : Bool) (v0 : Value) (a1 a2 : Option Addr) (l1 c1 l2 c2 : Nat) (z d1 d2 : Int) (L : Nat) (B : Nat) (w : World) (hT : Fi w) (hL : L ≤ 400) (p1 : 0 < d1) (p2 : 0 < d2)
  (n0 : NV w m0 v0 z L) (n1 : NV w m1 (.slice a1 l1 c1) d1 L) (n2 : NV w m2 (.slice a2 l2 c2) d2 L) (h : Be w B [Iz m1, .slice a1 l1 c1, Iz m2, .slice a2 l2 c2] 66) :
  Calls Tryz.prog 122 #[.agg #[Iz m0, v0], .slice (some ⟨B, 0, none⟩) 2 2] w (Re w ((Bo (Bs (mkRat z (d1.natAbs * d2.natAbs)).num) (Bp (mkRat z (d1.natAbs * d2.natAbs)).num) (Bf (mkRat z (d1.natAbs * d2.natAbs)).den)))) := by
 refine Pg m0 v0 _ 2 2 (Px m1 m2) (Px a1 a2) (Px l1 l2) (Px c1 c2) z (Px d1 d2) _ _ _ w (by omega) n0.slice (Bdm h) (fun k w1 hk b => ?_) (fun w1 b => Hs _ _ z L w1 (by omega) (n0.b b)) (fun g w1 b hc => ?_)
 ·match k, hk with
  | 0, _ => exact Hs _ _ d1 L w1 (by omega) (n1.b b)
  | 1, _ => exact Hs _ _ d2 L w1 (by omega) (n2.b b)
 ·have b0 := n0.bd (K := 4000) (by omega)
  have b1 := n1.bd (K := 4000) (by omega)
  have b2 := n2.bd (K := 4000) (by omega)
  have o1 : Pn (Bp d1) ∧ 0 < Bc (Bp d1) ∧ (Bp d1).size ≤ 8000 := ⟨Lk d1, by rw [Db]; omega, Jf b1.size (by omega)⟩
  have o2 : Pn (Bp d2) ∧ 0 < Bc (Bp d2) ∧ (Bp d2).size ≤ 8000 := ⟨Lk d2, by rw [Db]; omega, Jf b2.size (by omega)⟩
  have hm := b1.mul b2
  have := So z (.slice (some ⟨g, 0, none⟩) 2 2) [Bp d1, Bp d2] w1 (hT.b b) (Bdk hc) (by simp) (fun x hx => by rcases List.mem_cons.1 hx with rfl | hx; exact o1; rcases List.mem_cons.1 hx with rfl | hx; exact o2; cases hx) (K := 4000 + 4000) (by omega) (b0.mono (by omega)) (by
   show Bc (Bp d1) * (Bc (Bp d2) * 1) < _
   rw [Nat.mul_one, Db, Db, ← Int.natAbs_mul]
   exact hm)
  rw [show Dt.nprod ([Bp d1, Bp d2].map Bc) = d1.natAbs * d2.natAbs by show Bc (Bp d1) * (Bc (Bp d2) * 1) = _; rw [Nat.mul_one, Db, Db]] at this
  exact this
end Go.Proofs.YtnplifkgeeicjaaGreatDoor
