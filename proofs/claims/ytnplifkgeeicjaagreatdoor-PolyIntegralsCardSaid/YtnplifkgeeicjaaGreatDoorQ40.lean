import Derived.Maps.AppendAt
import Derived.Test.YtnplifkgeeicjaaGreatDoorQ39
set_option maxRecDepth 100000
set_option maxHeartbeats 16000000
namespace Go.Proofs.YtnplifkgeeicjaaGreatDoor
open Go.RowKit
theorem Sv (va ya a2 a3 : Option Addr) (vl vc yl yc l2 c2 l3 c3 : Nat) (f2 f3 : Bool) (wa : Option Addr) (wl wc : Nat) (ZW : Int) (Lw : Nat) (rN : Bool) (rS rD : ByteArray) (w : World)
  (HW : Hid (∀ w1, Below w.heap.size w w1 → Calls Tryz.prog 64 #[.slice va vl vc, .slice wa wl wc] w1 fun e w' => ∃ f a l c, e = .returned (.agg #[Iz f, .slice a l c]) ∧ NV w' f (.slice a l c) ZW Lw ∧ Below w1.heap.size w1 w'))
  (HP : Hid (∀ w1 f a l c, Below w.heap.size w w1 → NV w1 f (.slice a l c) ZW Lw → Calls Tryz.prog 67 #[.agg #[.slice va vl vc, .slice ya yl yc, Iz f2, .slice a2 l2 c2, Iz f3, .slice a3 l3 c3], .agg #[Iz f, .slice a l c], .int .i64 120, .slice ya yl yc] w1 (Re w1 ((Bo rN rS rD))))) :
  Calls Tryz.prog 31 #[.agg #[.slice va vl vc, .slice ya yl yc, Iz f2, .slice a2 l2 c2, Iz f3, .slice a3 l3 c3], .slice wa wl wc] w (Re w ((Bo rN rS rD))) := by
 go_enter Tryz.func31, Tryz.ntmps31
 go_wp2_with fail
 obtain ⟨w0, hq, ks, kr, bb⟩ := Gx w [.slice va vl vc, .slice ya yl yc, Iz f2, .slice a2 l2 c2, Iz f3, .slice a3 l3 c3] (Bx false eB eB) 68 26
 rw [← hq]
 clear hq
 have bd := Cd w0
 replace ks := ks.b bd
 replace kr := kr.b bd
 replace bb := Ia bb bd
 clear bd
 refine Jc (S := fun w' => Gl w' w.heap.size (.slice va vl vc) (.slice ya yl yc) (Iz f2) (.slice a2 l2 c2) (Iz f3) (.slice a3 l3 c3)) (by kernel_rfl) (Cw ks) (fun hS => ?_)
 generalize w0.drew = wd at *
 refine WA.start (n := 9) (by kernel_rfl) ?_
 refine WA.tp 0 rfl ?_
 refine WA.tp 1 rfl ?_
 refine WA.tp 2 rfl ?_
 refine WA.tp 3 rfl ?_
 refine WA.tp 5 rfl ?_
 refine WA.tp 6 rfl ?_
 clear hS
 refine WA.cal 4 rfl (fun K hK => ?_)
 simp only [Jq]
 go_simp
 go_fit (HW.out _ bb)
 rintro e w1 ⟨f1, a1, l1, c1, rfl, n1, b1⟩
 replace ks := ks.b b1
 replace kr := kr.b b1
 replace bb := Ia bb b1
 clear b1
 try go_wp2_with fail
 refine hK.out _ _ (Cw ks) (fun hS => ?_)
 clear hK K hS
 refine WA.cal 7 rfl (fun K hK => ?_)
 simp only [Jq]
 go_simp
 go_fit (HP.out _ f1 a1 l1 c1 bb n1)
 rintro e w2 ⟨rfl, b1⟩
 clear n1
 replace ks := ks.b b1
 replace kr := kr.b b1
 replace bb := Ia bb b1
 clear b1
 try go_wp2_with fail
 refine hK.out _ _ (Cw ks) (fun hS => ?_)
 clear hK K hS
 obtain ⟨e0, e1, e2⟩ := Ch kr
 have q0 := Be.o kr 0
 have q1 := Be.o kr 1
 have q2 := Be.o kr 2
 refine WA.cal 8 rfl (fun K hK => ?_)
 simp only [Jq]
 go_simp
 try go_wp2_with fail
 clear e0 e1 e2 q0 q1 q2
 have hne : w.heap.size ≠ w.heap.size + 1 := by omega
 refine hK.out _ _ (Cw (((ks.w hne 0 _).w hne 1 _).w hne 2 _)) (fun hS => ?_)
 clear hK K hS
 refine WA.done (by kernel_rfl) ?_
 go_wp2
 exact Cu (p := 4) (by kernel_rfl) rfl rfl (((kr.set 0 _).set 1 _).set 2 _) ⟨rfl, Bi (Bi (Bi bb (by omega) 0 _) (by omega) 1 _) (by omega) 2 _⟩
theorem Bed {w : World} {g : Nat} {cs : List Value} (h : Be w g cs 37) (hl : cs.length = 9) : (loadVar 37 ⟨g, 0, none⟩).run Tryz.prog w = .ok (.agg cs.toArray) w :=
 run_loadVar_row w g 37 37 cs.toArray (0, 0) _ h Tryz.underlying37 rfl (by rw [List.size_toArray, hl]; kernel_rfl)
theorem Wn {fn : Func} {p u : Tmp} {R : Ending → World → Prop} {a : Act} {w : World} {g : Nat} {cs : List Value} {v : Value} (h : fn.results = #[.cell p 37, .tmp u]) (hp : a.tmps.getD p undef = .pointer (some ⟨g, 0, none⟩)) (hu : a.tmps.getD u undef = v) (hd : a.defers = [])
  (hc : Be w g cs 37) (hl : cs.length = 9) (hR : R (.returned (.tuple #[.agg cs.toArray, v])) w) : bodyPost Tryz.prog fn R .ret a w := by
 refine ⟨hd, .tuple #[.agg cs.toArray, v], ?_, hR⟩
 have hp' : a.tmps[p]?.getD undef = .pointer (some ⟨g, 0, none⟩) := by simpa using hp
 have hu' : a.tmps[u]?.getD undef = v := by simpa using hu
 simp only [results, h]
 simp [hp', hu', asAddr, Bed hc hl]
theorem Sk (n0 n1 n2 n3 n4 n5 p0 p1 p2 p3 p4 p5 : Bool) (s0 d0 s1 d1 s2 d2 s3 d3 s4 d4 s5 d5 q0 r0 q1 r1 q2 r2 q3 r3 q4 r4 q5 r5 : ByteArray) (E : Int) (w : World) (hE : ¬ E = 0)
  (HS : Hid (∀ w1, Below w.heap.size w w1 → Calls Tryz.prog 30 #[(Cp n0 s0 d0 n1 s1 d1 n2 s2 d2 n3 s3 d3 n4 s4 d4 n5 s5 d5), (B4 p0 q0 r0 p1 q1 r1), (B4 p2 q2 r2 p3 q3 r3), (B4 p4 q4 r4 p5 q5 r5)] w1 (Re w1 (.tuple #[.agg #[.slice none 0 0, .slice none 0 0, Iz false, .slice none 0 0, Iz false, .slice none 0 0], .int .i64 E])))) :
  Calls Tryz.prog 12 #[(Cp n0 s0 d0 n1 s1 d1 n2 s2 d2 n3 s3 d3 n4 s4 d4 n5 s5 d5), (B4 p0 q0 r0 p1 q1 r1), (B4 p2 q2 r2 p3 q3 r3), (B4 p4 q4 r4 p5 q5 r5)] w (Re w (.tuple #[(Wj false eB eB false eB eB false eB eB), .int .i64 E])) := by
 go_enter Tryz.func12, Tryz.ntmps12
 go_upto_region 1 with fail
 obtain ⟨w0, hq, kf, ka, kb, kc, kr, bb⟩ := mk5 w (Di n0 s0 d0 n1 s1 d1 n2 s2 d2 n3 s3 d3 n4 s4 d4 n5 s5 d5) (Cn p0 q0 r0 p1 q1 r1) (Cn p2 q2 r2 p3 q3 r3) (Cn p4 q4 r4 p5 q5 r5) (Oz false eB eB false eB eB false eB eB) 28 30 30 30 37
 rw [← hq]
 clear hq
 obtain ⟨x0, x1, x2, x3, x4, x5⟩ := Cw ka
 obtain ⟨y0, y1, y2, y3, y4, y5⟩ := Cw kb
 obtain ⟨z0, z1, z2, z3, z4, z5⟩ := Cw kc
 go_wp2_with (refine Je rfl 28 _ rfl _ rfl 28 _ (0, 0) _ kf Tryz.underlying28 rfl (by kernel_rfl) ?_)
 clear x0 x1 x2 x3 x4 x5 y0 y1 y2 y3 y4 y5 z0 z1 z2 z3 z4 z5
 clear kf ka kb kc
 go_fit (HS.out _ bb)
 rintro e w1 ⟨rfl, b1⟩
 replace kr := kr.b b1
 replace bb := Ia bb b1
 clear b1
 have b1 := Ct w1 (.cells #[.slice none 0 0, .slice none 0 0, Iz false, .slice none 0 0, Iz false, .slice none 0 0] 68)
 replace kr := kr.b b1
 replace bb := Ia bb b1
 clear b1
 have e0 := kr.cell 0
 have f0 := Be.o kr 0
 have e1 := kr.cell 1
 have f1 := Be.o kr 1
 have e2 := kr.cell 2
 have f2 := Be.o kr 2
 have e3 := kr.cell 3
 have f3 := Be.o kr 3
 have e4 := kr.cell 4
 have f4 := Be.o kr 4
 have e5 := kr.cell 5
 have f5 := Be.o kr 5
 have e6 := kr.cell 6
 have f6 := Be.o kr 6
 have e7 := kr.cell 7
 have f7 := Be.o kr 7
 have e8 := kr.cell 8
 have f8 := Be.o kr 8
 go_wp2
 exact Wn (p := 8) (u := 9) (v := .int .i64 E) (by kernel_rfl) rfl rfl rfl ((((((((((kr.set 0 _).set 1 _).set 2 _).set 3 _).set 4 _).set 5 _).set 6 _).set 7 _).set 8 _)) rfl ⟨rfl, Bi (Bi (Bi (Bi (Bi (Bi (Bi (Bi (Bi (bb) (by omega) 0 _) (by omega) 1 _) (by omega) 2 _) (by omega) 3 _) (by omega) 4 _) (by omega) 5 _) (by omega) 6 _) (by omega) 7 _) (by omega) 8 _⟩
def O2 (u : Value) : Prop := ∀ k x, u ≠ .int k x
def NI (w : World) (g : Nat) : Prop := ∀ i u, w.cell? ⟨g, i, none⟩ = some u → O2 u
theorem Ws (b : Bool) : O2 (Iz b) := fun _ _ h => by cases h
theorem Sr (a : Option Addr) (l c : Nat) : O2 (.slice a l c) := fun _ _ h => by cases h
theorem Xb {w : World} {g : Nat} {cs : Array Value} {t : TypeId} {fr : Nat × Nat} (h : w.heap[g]? = some (.cells cs t fr)) (i : Nat) : w.cell? ⟨g, i, none⟩ = cs[i]? := by
 simp [World.cell?, h]
theorem Sq {n : Nat} {u : Value} (h : u ∈ (Builtin.zeroCells #[Iz false, .slice none 0 0] n).toList) : O2 u := by
 unfold Builtin.zeroCells at h
 simp only [Array.toList_map, List.mem_map] at h
 obtain ⟨k, -, rfl⟩ := h
 rcases Nat.mod_two_eq_zero_or_one k with e | e
 ·rw [show k % (#[Value.bool false, .slice none 0 0] : Array Value).size = 0 from e]; exact Ws _
 ·rw [show k % (#[Value.bool false, .slice none 0 0] : Array Value).size = 1 from e]; exact Sr _ _ _
theorem Wt {w : World} {g : Nat} {cs : Array Value} {t : TypeId} {fr : Nat × Nat} (h : w.heap[g]? = some (.cells cs t fr)) (hc : ∀ u ∈ cs.toList, O2 u) : NI w g := fun i u hu => by
 rw [Xb h] at hu
 exact hc u (by rw [Array.mem_toList_iff]; exact Array.mem_of_getElem? hu)
theorem Bhf {w : World} {g : Nat} {cs : Array Value} {t : TypeId} {fr : Nat × Nat} (h : w.heap[g]? = some (.cells cs t fr)) (hn : NI w g) : ∀ u ∈ cs.toList, O2 u := fun u hu => by
 rw [Array.mem_toList_iff] at hu
 obtain ⟨i, hi⟩ := Array.mem_iff_getElem?.1 hu
 exact hn i u (by rw [Xb h]; exact hi)
theorem Ox {P : Program} (w : World) (base : Nat) (t ty e : TypeId) (i : TypeInfo) (z : Value) (ht : P.underlying t = some (.slice e)) (hi : P.info? e = some i) (hz : i.zero = some z)
  (hz' : z.cells = #[Iz false, .slice none 0 0]) (v : Value) (n : Nat) (xs : List Value) (hown : w.ownsRow base e i.size v n xs)
  (a : Addr) (m c : Nat) (news : List Value) (hl : news.length = m * i.size) (hnews : ∀ j u, news[j]? = some u → w.cell? (a.add j) = some u) (h1 : ∀ u ∈ news, u.oneCell' = true)
  (h63 : n + m ≤ maxLen) (hbytes : (n + m) * i.bytes ≤ 140737488355328) (hN : ∀ g, v.ownBlock = some g → NI w g) (hw : ∀ u ∈ news, O2 u) {v' : Value} {w' : World}
  (hr : (Builtin.append_ #[t, t] ty #[v, .slice (some a) m c]).run P w = .ok v' w') : ∀ g, v'.ownBlock = some g → NI w' g := by
 have hsmall : n + m ≤ 9223372036854775807 := by simp only [maxLen] at h63; omega
 rcases hown.2 with ⟨rfl, rfl⟩ | ⟨g, cap, cur, rfl, hbg, hg, hnc, hcm, hcs, htake⟩
 ·by_cases hm : m = 0
  ·subst hm
   have e2 : (Builtin.append_ #[t, t] ty #[.slice none 0 0, .slice (some a) 0 c]).run P w = .ok (.slice none 0 0) w := by
    simp [Builtin.append_, run_underlying ht, sizeOf, typeInfo, hi, Builtin.lenOf, Builtin.firstCells, loadCells, loadCellsFrom]
   rw [e2] at hr
   injection hr with h2 h3
   subst h2
   intro g hg
   cases hg
  ·have e2 := run_append_nil (P := P) w t ty e i z ht hi hz a m c news hl hnews (by omega) (by omega) (by have hb := hbytes; simp only [Nat.zero_add] at hb; omega)
   rw [e2] at hr
   injection hr with h2 h3
   subst h2 h3
   intro g hg
   injection hg with hg
   subst hg
   refine Wt (heap_alloc_new w.drew _) (fun u hu => ?_)
   simp only [Array.toList_append, List.mem_append] at hu
   rcases hu with hu | hu
   ·exact hw u (by simpa using hu)
   ·rw [hz'] at hu
    exact Sq hu
 ·have hN := Bhf hg (hN g rfl)
  by_cases hroom : n + m ≤ cap
  ·have hfit : n * i.size + news.length ≤ cur.size := by rw [hl, hcs, ← Nat.add_mul]; exact Jo _ hroom
   have e2 := run_append_room (P := P) w t ty e i ht hi g n cap cur hg a m c news hl hnews h1 hroom hfit
   rw [e2] at hr
   injection hr with h2 h3
   subst h2 h3
   intro g' hg'
   injection hg' with hg'
   subst hg'
   refine Wt (setRow_heap w g cur _ e _ hg) (fun u hu => ?_)
   simp only [List.append_assoc, List.mem_append] at hu
   rcases hu with hu | hu | hu
   ·exact hN u (List.mem_of_mem_take hu)
   ·exact hw u hu
   ·exact hN u (List.mem_of_mem_drop hu)
  ·have holds : ∀ j u, xs[j]? = some u → w.cell? ((⟨g, 0, none⟩ : Addr).add j) = some u := hown.cells (g := g) rfl
   have e2 := run_append_grow (P := P) w t ty e i z ht hi hz ⟨g, 0, none⟩ n cap xs hown.1 holds a m c news hl hnews (by omega) (by omega) (growslice_fits (by omega) hbytes)
   rw [e2] at hr
   injection hr with h2 h3
   subst h2 h3
   intro g' hg'
   injection hg' with hg'
   subst hg'
   refine Wt (heap_alloc_new w.drew _) (fun u hu => ?_)
   simp only [Array.toList_append, List.mem_append] at hu
   rcases hu with (hu | hu) | hu
   ·exact hN u (List.mem_of_mem_take (by rw [htake]; simpa using hu))
   ·exact hw u (by simpa using hu)
   ·rw [hz'] at hu
    exact Sq hu
def Yx (N : Nat → Bool) (v : Nat → Value) (i : Nat) : Value := if i % 2 = 0 then Iz (N (i / 2)) else v (i / 2)
def Mw (n : Nat) (N : Nat → Bool) (v : Nat → Value) : List Value := (List.range (n * 2)).map (Yx N v)
theorem Qs {n : Nat} {N : Nat → Bool} {v : Nat → Value} {i : Nat} {u : Value} (h : (Mw n N v)[i]? = some u) : i < n * 2 ∧ u = Yx N v i := by
 unfold Mw at h
 rw [List.getElem?_map] at h
 rcases Nat.lt_or_ge i (n * 2) with hi | hi
 ·rw [List.getElem?_range hi] at h
  simp at h
  exact ⟨hi, h.symm⟩
 ·rw [List.getElem?_eq_none (by simpa using hi)] at h
  cases h
theorem Sc {w : World} {b off n : Nat} {N : Nat → Bool} {v : Nat → Value} (h : Hm w (some ⟨b, off, none⟩) n N v) {i : Nat} (hi : i < n * 2) : w.cell? ⟨b, off + i, none⟩ = some (Yx N v i) := by
 obtain ⟨b', off', e, h0, h1⟩ := h (i / 2) (by omega)
 injection e with e
 injection e with e1 e2
 subst e1 e2
 unfold Yx
 rcases Nat.mod_two_eq_zero_or_one i with e | e
 ·rw [if_pos e]
  rwa [show i / 2 * 2 = i by omega] at h0
 ·rw [if_neg (by omega)]
  rwa [show off + i / 2 * 2 + 1 = off + i by omega] at h1
theorem Bgc {w : World} {b off n : Nat} {N : Nat → Bool} {v : Nat → Value} (h : ∀ i, i < n * 2 → w.cell? ⟨b, off + i, none⟩ = some (Yx N v i)) : Hm w (some ⟨b, off, none⟩) n N v := fun j hj => by
 refine ⟨b, off, rfl, ?_, ?_⟩
 ·rw [h (j * 2) (by omega)]; unfold Yx; rw [if_pos (by omega), show j * 2 / 2 = j by omega]
 ·rw [Nat.add_assoc, h (j * 2 + 1) (by omega)]; unfold Yx; rw [if_neg (by omega), show (j * 2 + 1) / 2 = j by omega]
theorem Nb {n : Nat} {N : Nat → Bool} {v : Nat → Value} (hv : ∀ q, q < n → ∃ a l c, v q = .slice a l c) {u : Value} (h : u ∈ Mw n N v) : O2 u ∧ u.oneCell' = true := by
 obtain ⟨i, hi⟩ := List.mem_iff_getElem?.1 h
 obtain ⟨h1, rfl⟩ := Qs hi
 unfold Yx
 split
 ·exact ⟨Ws _, rfl⟩
 ·obtain ⟨a, l, c, e⟩ := hv (i / 2) (by omega)
  rw [e]
  exact ⟨Sr _ _ _, rfl⟩
theorem Rh {w : World} {o : Oper} {a : Act} {K : Act → World → Prop} {Q : Exit → Act → World → Prop} (s x : Operand)
  (hop : o.op = Op.call { callee := Callee.builtin Builtin.append, args := #[s, x], argTypes := #[63, 63] })
  (sv : Value) (n : Nat) (vs : List Value) (hs : a.eval s = sv) (B : Nat) (hown : w.ownsRow B 66 2 sv n vs) (hB : B ≤ w.heap.size) (b off m c : Nat) (N : Nat → Bool) (v : Nat → Value) (hx : a.eval x = .slice (some ⟨b, off, none⟩) m c)
  (hc : Hm w (some ⟨b, off, none⟩) m N v) (hv : ∀ q, q < m → ∃ a l c, v q = .slice a l c) (hn : n + m ≤ 1000000) (hN : ∀ g, sv.ownBlock = some g → NI w g)
  (hK : ∀ v' w', w'.ownsRow B 66 2 v' (n + m) (vs ++ Mw m N v) → w.grownBy w' sv.ownBlock → (∀ g, v'.ownBlock = some g → NI w' g) → K (a.put o.dst v') w') :
  o.wp Tryz.prog a w K Q := by
 obtain ⟨i0, hi, hz0, hz1, hz2⟩ := info_parts (show (Tryz.prog.info? 66).map (fun i => (i.zero, i.size, i.bytes)) = some (some (.agg #[Iz false, .slice none 0 0]), 2, 32) by kernel_rfl)
 have hl : (Mw m N v).length = m * 2 := by simp [Mw]
 have hnews : ∀ j u, (Mw m N v)[j]? = some u → w.cell? ((⟨b, off, none⟩ : Addr).add j) = some u := fun j u hj => by
  obtain ⟨h1, rfl⟩ := Qs hj
  rw [Vh]
  exact Sc hc h1
 obtain ⟨v', w', hr, h2, h3, -⟩ := run_append_own (P := Tryz.prog) w B 63 o.type 66 i0 (.agg #[Iz false, .slice none 0 0]) 2 32 Tryz.underlying63 hi hz0 hz1 hz2 (by rw [Lq]; rfl) (by decide) sv n vs hown ⟨b, off, none⟩ m c (Mw m N v) hl hnews (fun u hu => (Nb hv hu).2) (by unfold maxLen; omega) (by omega) hB
 have h4 := Ox (P := Tryz.prog) w B 63 o.type 66 i0 (.agg #[Iz false, .slice none 0 0]) Tryz.underlying63 hi hz0 Lq sv n vs (by rw [hz1]; exact hown) ⟨b, off, none⟩ m c (Mw m N v) (by rw [hz1]; exact hl) hnews (fun u hu => (Nb hv hu).2) (by unfold maxLen; omega) (by rw [hz2]; omega) hN (fun u hu => (Nb hv hu).1) hr
 unfold Oper.wp execOp
 simp only [hop, resolve, invoke, builtin, Sem.run_bind, Sem.run_pure, Result.andThen_ok, List.map_toArray, List.map_cons, List.map_nil, hs, hx, hr]
 exact hK v' w' h2 h3 h4
theorem Ps {w : World} {ops : Array Oper} {rest : List Oper} {o : Oper} {a : Act} {Q : Exit → Act → World → Prop}
  (hgd : o.guard = none) (s x : Operand) (hop : o.op = Op.call { callee := Callee.builtin Builtin.append, args := #[s, x], argTypes := #[63, 63] })
  (sv : Value) (n : Nat) (vs : List Value) (hs : a.eval s = sv) (B : Nat) (hown : w.ownsRow B 66 2 sv n vs) (hB : B ≤ w.heap.size) (b off m c : Nat) (N : Nat → Bool) (v : Nat → Value) (hx : a.eval x = .slice (some ⟨b, off, none⟩) m c)
  (hc : Hm w (some ⟨b, off, none⟩) m N v) (hv : ∀ q, q < m → ∃ a l c, v q = .slice a l c) (hn : n + m ≤ 1000000) (hN : ∀ g, sv.ownBlock = some g → NI w g)
  (hK : ∀ v' w', w'.ownsRow B 66 2 v' (n + m) (vs ++ Mw m N v) → w.grownBy w' sv.ownBlock → (∀ g, v'.ownBlock = some g → NI w' g) → wpList Tryz.prog ops Q rest (a.put o.dst v') w') :
  wpList Tryz.prog ops Q (o :: rest) a w :=
 wpList_plain hgd fun _ hK' => Rh s x hop sv n vs hs B hown hB b off m c N v hx hc hv hn hN fun v' w' h2 h3 h4 => hK' _ _ (hK v' w' h2 h3 h4)
def Ei {α : Type} (n : Nat) (x y : Nat → α) : Nat → α := fun j => if j < n then x j else y (j - n)
theorem Qt (n m : Nat) (x y : Nat → Bool) (v u : Nat → Value) : Mw n x v ++ Mw m y u = Mw (n + m) (Ei n x y) (Ei n v u) := by
 unfold Mw
 rw [Nat.add_mul, List.range_add, List.map_append]
 congr 1
 ·refine List.map_congr_left fun i hi => ?_
  rw [List.mem_range] at hi
  unfold Yx Ei
  rw [if_pos (show i / 2 < n by omega), if_pos (show i / 2 < n by omega)]
 ·rw [List.map_map]
  refine List.map_congr_left fun i hi => ?_
  show Yx y u i = Yx (Ei n x y) (Ei n v u) (n * 2 + i)
  unfold Yx Ei
  rw [show (n * 2 + i) % 2 = i % 2 by omega, if_neg (show ¬ (n * 2 + i) / 2 < n by omega), if_neg (show ¬ (n * 2 + i) / 2 < n by omega), show (n * 2 + i) / 2 - n = i / 2 by omega]
theorem Qe {w : World} {B n g cap : Nat} {N : Nat → Bool} {v : Nat → Value} (h : w.ownsRow B 66 2 (.slice (some ⟨g, 0, none⟩) n cap) n (Mw n N v)) : Hm w (some ⟨g, 0, none⟩) n N v := by
 refine Bgc fun i hi => ?_
 have := h.cells (g := g) rfl i (Yx N v i) (by unfold Mw; rw [List.getElem?_map, List.getElem?_range hi]; rfl)
 rwa [Vh] at this
theorem Pf {w : World} {B n : Nat} {v : Value} {xs : List Value} {t : TypeId} {k : Nat} (h : w.ownsRow B t k v n xs) (hn : 0 < n) : ∃ g cap, v = .slice (some ⟨g, 0, none⟩) n cap ∧ B ≤ g := by
 rcases h.2 with ⟨-, rfl⟩ | ⟨g, cap, cur, rfl, hb, -⟩
 ·omega
 ·exact ⟨g, cap, rfl, hb⟩
theorem Bdy {w : World} {B g n : Nat} {cs : List Value} {t : TypeId} {k : Nat} (h : Be w g cs t) (hB : B ≤ g) (hl : cs.length = n * k) (hn : n ≤ 1000000) : w.ownsRow B t k (.slice (some ⟨g, 0, none⟩) n n) n cs := by
 refine ⟨hl, .inr ⟨g, n, cs.toArray, rfl, hB, h, Jb _, by unfold maxLen; omega, by simpa using hl, ?_⟩⟩
 rw [← hl]
 simp
theorem Kw {w : World} {g : Nat} {cs : List Value} {t : TypeId} (h : Be w g cs t) (hc : ∀ u ∈ cs, O2 u) : NI w g := Wt h (fun u hu => hc u (by simpa using hu))
theorem NV.grown {w w' : World} {n : Bool} {u : Value} {z : Int} {L : Nat} {row : Option Nat} (h : NV w n u z L) (hg : w.grownBy w' row) (hN : ∀ g, row = some g → NI w g) : NV w' n u z L := by
 obtain ⟨k, ⟨a, cap, rfl, hcap, hc⟩, h1, h2⟩ := h
 refine ⟨k, ⟨a, cap, rfl, hcap, fun j hj => ?_⟩, h1, h2⟩
 obtain ⟨b, off, rfl, hcell⟩ := hc j hj
 exact ⟨b, off, rfl, hg.cell hcell (fun e => hN b e.symm _ _ hcell _ _ rfl)⟩
theorem Ni {w : World} {ops : Array Oper} {rest : List Oper} {o : Oper} {a : Act} {Q : Exit → Act → World → Prop}
  (hg : o.guard = none) (s x : Operand) (hop : o.op = Op.call { callee := Callee.builtin Builtin.append, args := #[s, x], argTypes := #[63, 63] })
  (sv : Value) (n : Nat) (vs : List Value) (hs : a.eval s = sv) (B : Nat) (hown : w.ownsRow B 66 2 sv n vs) (hB : B ≤ w.heap.size) (b off m c : Nat) (N : Nat → Bool) (v : Nat → Value) (hx : a.eval x = .slice (some ⟨b, off, none⟩) m c)
  (hc : Hm w (some ⟨b, off, none⟩) m N v) (hv : ∀ q, q < m → ∃ a l c, v q = .slice a l c) (hn : n + m ≤ 1000000)
  (hK : ∀ v' w', w'.ownsRow B 66 2 v' (n + m) (vs ++ Mw m N v) → w.grownBy w' sv.ownBlock → (v' = .slice none 0 0 ↔ sv = .slice none 0 0 ∧ m = 0) → wpList Tryz.prog ops Q rest (a.put o.dst v') w') :
  wpList Tryz.prog ops Q (o :: rest) a w := by
 obtain ⟨i0, hi, hz0, hz1, hz2⟩ := info_parts (show (Tryz.prog.info? 66).map (fun i => (i.zero, i.size, i.bytes)) = some (some (.agg #[Iz false, .slice none 0 0]), 2, 32) by kernel_rfl)
 refine wpList_append_own _ hg s x 63 hop B 66 i0 (.agg #[Iz false, .slice none 0 0]) 2 32 Tryz.underlying63 hi hz0 hz1 hz2 (by rw [Lq]; rfl) (by decide) sv n vs hs hown ⟨b, off, none⟩ m c (Mw m N v) hx (by simp [Mw]) ?_ ?_ ?_ ?_ hB hK
 ·intro j u hj
  obtain ⟨h1, rfl⟩ := Qs hj
  rw [Vh]
  exact Sc hc h1
 ·exact fun u hu => (Nb hv hu).2
 ·unfold maxLen; omega
 ·omega
theorem Bb1 (n : Nat) (w : World) (h0 : 0 < n) (hn : n ≤ 100000) :
  Calls Tryz.prog 133 #[.slice none 0 0, .int .i64 n] w fun e w' => ∃ cap, e = .returned (.slice (some ⟨w.heap.size, 0, none⟩) 0 cap) ∧ w'.ownsRow w.heap.size 66 2 (.slice (some ⟨w.heap.size, 0, none⟩) 0 cap) 0 [] ∧ Below w.heap.size w w' := by
 obtain ⟨i0, hi, hz0, hz1, hz2⟩ := info_parts (show (Tryz.prog.info? 66).map (fun i => (i.zero, i.size, i.bytes)) = some (some (.agg #[Iz false, .slice none 0 0]), 2, 32) by kernel_rfl)
 have happ := Lib.run_append_nil_zeros (P := Tryz.prog) w 63 3 63 66 i0 (.agg #[Iz false, .slice none 0 0]) .i64 .i64 Tryz.underlying63 Tryz.underlying3 hi hz0 n h0 (by omega) (by omega) (by rw [hz2]; omega)
 generalize hcap : grownCap w n 0 66 = cap at happ
 have hge : n ≤ cap := by rw [← hcap]; exact grownCap_ge w _ 0 _
 have hle : cap ≤ maxLen := by rw [← hcap]; exact grownCap_le_maxLen w _ 0 _ (by unfold maxLen; omega)
 rw [Lq] at happ
 generalize hZ : (Builtin.zeroCells #[Value.bool false, .slice none 0 0] n ++ Builtin.zeroCells #[Value.bool false, .slice none 0 0] (cap - n)) = Z at happ
 have hZs : Z.size = cap * 2 := by rw [← hZ]; simp [size_zeroCells]; omega
 clear hcap hZ
 have HO : Hid ((w.drew.alloc (.cells Z 66)).ownsRow w.heap.size 66 2 (.slice (some ⟨w.heap.size, 0, none⟩) 0 cap) 0 []) := World.ownsRow_made w.drew Z cap (Jb _) hle hZs
 have HB : Hid (Below w.heap.size w (w.drew.alloc (.cells Z 66))) := (Cd w).alloc (Jb _) _
 clear hle hZs
 go_enter Tryz.func133, Tryz.ntmps133
 go_wp2_with (at_builtin; refine Lib.wpList_append_run _ rfl _ _ _ _ rfl _ _ rfl rfl _ _ happ ?_)
 go_ret
 exact ⟨cap, rfl, HO.out, HB.out⟩
theorem Vd (B b0 o0 n0 c0 b1 o1 n1 c1 : Nat) (N N' : Nat → Bool) (x y : Nat → Value) (w : World) (hB : Be w B [.slice (some ⟨b0, o0, none⟩) n0 c0, .slice (some ⟨b1, o1, none⟩) n1 c1] 63)
  (h0 : Hm w (some ⟨b0, o0, none⟩) n0 N x) (h1 : Hm w (some ⟨b1, o1, none⟩) n1 N' y) (hx : ∀ q, q < n0 → ∃ a l c, x q = .slice a l c) (hy : ∀ q, q < n1 → ∃ a l c, y q = .slice a l c) (hp : 0 < n0 + n1) (hn : n0 + n1 ≤ 1000) :
  Calls Tryz.prog 69 #[.slice (some ⟨B, 0, none⟩) 2 2] w fun e w' => ∃ g cap, e = .returned (.slice (some ⟨g, 0, none⟩) (n0 + n1 : Nat) cap) ∧ n0 + n1 ≤ cap ∧ Hm w' (some ⟨g, 0, none⟩) (n0 + n1) (Ei n0 N N') (Ei n0 x y) ∧ w.heap.size ≤ g ∧ Below w.heap.size w w' := by
 have k0 := hB.cell 0
 have k1 := hB.cell 1
 simp only [Jn, Jm] at k0 k1
 replace h0 := Ba h0
 replace hx := Ba hx
 replace hy := Ba hy
 replace h1 := Ba h1
 have HG : Hid (∀ w : World, Calls Tryz.prog 133 #[.slice none 0 0, .int .i64 ((n0 : Int) + (n1 : Int))] w fun e w' => ∃ cap, e = .returned (.slice (some ⟨w.heap.size, 0, none⟩) 0 cap) ∧ w'.ownsRow w.heap.size 66 2 (.slice (some ⟨w.heap.size, 0, none⟩) 0 cap) 0 [] ∧ Below w.heap.size w w') := fun w => by
  have := Bb1 (n0 + n1) w hp (by omega)
  rwa [Int.natCast_add] at this
 go_enter Tryz.func69, Tryz.ntmps69
 go_wp2_with fail
 refine wp_loop_rounds 3 ?_
 rw [rounds_succ]
 go_wp2_with fail
 rw [rounds_succ]
 go_wp2_with fail
 rw [rounds_succ]
 go_wp2_with fail
 go_fit (HG.out _)
 rintro e w1 ⟨cap, rfl, ho, b1⟩
 clear HG
 go_wp2_with fail
 go_loopw [6, 27] (fun v i wr => Below w.heap.size w wr ∧ v ≠ .slice none 0 0 ∧ ((i = .int .i64 0 ∧ wr.ownsRow w.heap.size 66 2 v 0 []) ∨ (i = .int .i64 1 ∧ wr.ownsRow w.heap.size 66 2 v n0 (Mw n0 N x)) ∨ (i = .int .i64 2 ∧ wr.ownsRow w.heap.size 66 2 v (n0 + n1) (Mw (n0 + n1) (Ei n0 N N') (Ei n0 x y))))) (fun _ i _ => 2 - (intOf i).toNat)
 case atStart => exact ⟨b1, by simp, Or.inl ⟨rfl, ho⟩⟩
 case round =>
  clear ho b1
  obtain ⟨bb, hv, hi⟩ := hrel
  replace k0 := Bh k0 bb
  replace k1 := Bh k1 bb
  have r0 := Ba (h0.out.b bb)
  have r1 := Ba (h1.out.b bb)
  replace hv := Ba hv
  rcases hi with ⟨rfl, ho⟩ | ⟨rfl, ho⟩ | ⟨rfl, ho⟩
  ·replace ho := Ba ho
   go_wp2_with (at_builtin; refine Ni rfl _ _ rfl u6 0 [] rfl w.heap.size ho.out bb.size b0 o0 n0 c0 N x rfl r0.out hx.out (by omega) ?_; intro v' w2 o2 hg2 hnil)
   have B2 : Hid (Below w.heap.size w w2) := bb.grown hg2 bb.size (fun g hg => N0 ho.out g hg)
   have N2 : Hid (v' ≠ .slice none 0 0) := fun e => hv.out (hnil.1 e).1
   rw [List.nil_append, Nat.zero_add] at o2
   replace o2 := Ba o2
   clear hg2 hnil ho hv k0 k1 bb
   go_wp2
   exact ⟨⟨B2.out, N2.out, Or.inr (Or.inl ⟨by go_num, o2.out⟩)⟩, by simp [intOf]⟩
  ·replace ho := Ba ho
   go_wp2_with (at_builtin; refine Ni rfl _ _ rfl u6 n0 (Mw n0 N x) rfl w.heap.size ho.out bb.size b1 o1 n1 c1 N' y rfl r1.out hy.out (by omega) ?_; intro v' w2 o2 hg2 hnil)
   have B2 : Hid (Below w.heap.size w w2) := bb.grown hg2 bb.size (fun g hg => N0 ho.out g hg)
   have N2 : Hid (v' ≠ .slice none 0 0) := fun e => hv.out (hnil.1 e).1
   rw [Qt] at o2
   replace o2 := Ba o2
   clear hg2 hnil ho hv k0 k1 bb
   go_wp2
   exact ⟨⟨B2.out, N2.out, Or.inr (Or.inr ⟨by go_num, o2.out⟩)⟩, by simp [intOf]⟩
  ·rcases id ho.2 with ⟨e, -⟩ | ⟨g, cap', cur, rfl, hg, hh, hc, -⟩
   ·exact absurd e hv.out
   ·have R := Ba (Qe ho)
    clear ho hv hh
    go_wp2
    go_ret
    exact ⟨g, cap', rfl, hc, R.out, hg, bb⟩
theorem Bby {w : World} {g : Nat} {o : Obj} (h : w.heap[g]? = some o) (x : Obj) : (w.alloc x).heap[g]? = some o := by
 rw [Below.heap_alloc _ _ _ (by rcases Nat.lt_or_ge g w.heap.size with q | q; exact q; rw [Array.getElem?_eq_none q] at h; cases h)]
 exact h
theorem Uz {B : Nat} {w w' : World} {g : Nat} {o : Obj} (h : w.heap[g]? = some o) (b : Below B w w') (hg : g < B) : w'.heap[g]? = some o := (b.block g hg).trans h
def sqT : List (List Int) := [[6, -1, -1, 0, -4, 0], [-1, 6, -1, 0, 0, -4], [-1, -1, 6, -4, 0, 0], [0, 0, -4, 32, 16, 16], [-4, 0, 0, 16, 32, 16], [0, -4, 0, 16, 16, 32]]
def Fz (i j : Nat) : Int := (sqT.getD i []).getD j 0
def Mb (V : Nat → Int) : Nat → Int
 | 0 => 0
 | k + 1 => Mb V k + V k * D6 V (Fz k) 6
theorem Ek {w : World} {ops : Array Oper} {rest : List Oper} {o : Oper} {a : Act} {Q : Exit → Act → World → Prop} (hg : o.guard = none) (t : TypeId) (x ix : Operand) (hop : o.op = Op.index t x ix) (cs : Array Value) (k : Nat) (hx : a.eval x = .agg cs) (hix : a.eval ix = .int .i64 k) (r : Value)
  (hr : (Instr.index t (.agg cs) (.int .i64 k)).run Tryz.prog w = .ok r w) (hK : wpList Tryz.prog ops Q rest (a.put o.dst r) w) : wpList Tryz.prog ops Q (o :: rest) a w := by
 refine wpList_plain hg fun K hK' => ?_
 unfold Oper.wp execOp
 simp only [hop, hx, hix, Sem.run_bind, Result.andThen_ok, hr]
 exact hK' _ _ hK
theorem Bfy (k : Nat) (hk : k < 6) (w : World) : (Instr.index 121 (.agg #[.int .i64 6, .int .i64 (-1), .int .i64 (-1), .int .i64 0, .int .i64 (-4), .int .i64 0, .int .i64 (-1), .int .i64 6, .int .i64 (-1), .int .i64 0, .int .i64 0, .int .i64 (-4), .int .i64 (-1), .int .i64 (-1), .int .i64 6, .int .i64 (-4), .int .i64 0, .int .i64 0, .int .i64 0, .int .i64 0, .int .i64 (-4), .int .i64 32, .int .i64 16, .int .i64 16, .int .i64 (-4), .int .i64 0, .int .i64 0, .int .i64 16, .int .i64 32, .int .i64 16, .int .i64 0, .int .i64 (-4), .int .i64 0, .int .i64 16, .int .i64 16, .int .i64 32]) (.int .i64 k)).run Tryz.prog w = .ok (.agg #[.int .i64 (Fz k 0), .int .i64 (Fz k 1), .int .i64 (Fz k 2), .int .i64 (Fz k 3), .int .i64 (Fz k 4), .int .i64 (Fz k 5)]) w := by
 obtain rfl | rfl | rfl | rfl | rfl | rfl : k = 0 ∨ k = 1 ∨ k = 2 ∨ k = 3 ∨ k = 4 ∨ k = 5 := by omega
 all_goals kernel_rfl
theorem Rs (va ya a2 a3 : Option Addr) (vc yl yc l2 c2 l3 c3 : Nat) (f2 f3 : Bool) (N : Nat → Bool) (v : Nat → Value) (V : Nat → Int) (L : Nat) (rN : Bool) (rS rD : ByteArray) (w : World) (hL : L ≤ 400) (tg : TypeId) (fr : Nat × Nat)
  (ht : w.heap[3]? = some (.cells #[.int .i64 6, .int .i64 (-1), .int .i64 (-1), .int .i64 0, .int .i64 (-4), .int .i64 0, .int .i64 (-1), .int .i64 6, .int .i64 (-1), .int .i64 0, .int .i64 0, .int .i64 (-4), .int .i64 (-1), .int .i64 (-1), .int .i64 6, .int .i64 (-4), .int .i64 0, .int .i64 0, .int .i64 0, .int .i64 0, .int .i64 (-4), .int .i64 32, .int .i64 16, .int .i64 16, .int .i64 (-4), .int .i64 0, .int .i64 0, .int .i64 16, .int .i64 32, .int .i64 16, .int .i64 0, .int .i64 (-4), .int .i64 0, .int .i64 16, .int .i64 16, .int .i64 32] tg fr))
  (hr : Hm w va 6 N v) (hv : Km w N v V L 6)
  (HW : Hid (∀ k w1 B, k < 6 → Below w.heap.size w w1 → Be w1 B [.int .i64 (Fz k 0), .int .i64 (Fz k 1), .int .i64 (Fz k 2), .int .i64 (Fz k 3), .int .i64 (Fz k 4), .int .i64 (Fz k 5)] 60 → Calls Tryz.prog 64 #[.slice va 6 vc, .slice (some ⟨B, 0, none⟩) 6 6] w1 fun e w' => ∃ f a l c, e = .returned (.agg #[Iz f, .slice a l c]) ∧ NV w' f (.slice a l c) (D6 V (Fz k) 6) (L + 7) ∧ Below w1.heap.size w1 w'))
  (M' : Nat → Bool) (u : Nat → Value) (HC : Hid (∀ w1 B, Below w.heap.size w w1 → Be w1 B [.slice ya yl yc, .slice ya yl yc] 63 → Calls Tryz.prog 69 #[.slice (some ⟨B, 0, none⟩) 2 2] w1 fun e w' => ∃ g cap, e = .returned (.slice (some ⟨g, 0, none⟩) 6 cap) ∧ Hm w' (some ⟨g, 0, none⟩) 6 M' u ∧ Below w1.heap.size w1 w'))
  (HP : Hid (∀ w1 f a l c g cap, Below w.heap.size w w1 → NV w1 f (.slice a l c) (Mb V 6) (L + L + 13) → Hm w1 (some ⟨g, 0, none⟩) 6 M' u → Calls Tryz.prog 67 #[.agg #[.slice va 6 vc, .slice ya yl yc, Iz f2, .slice a2 l2 c2, Iz f3, .slice a3 l3 c3], .agg #[Iz f, .slice a l c], .int .i64 360, .slice (some ⟨g, 0, none⟩) 6 cap] w1 (Re w1 ((Bo rN rS rD))))) :
  Calls Tryz.prog 32 #[.agg #[.slice va 6 vc, .slice ya yl yc, Iz f2, .slice a2 l2 c2, Iz f3, .slice a3 l3 c3]] w (Re w ((Bo rN rS rD))) := by
 replace hr := Ba hr
 replace hv := Ba hv
 have HT := Ba ht
 go_enter Tryz.func32, Tryz.ntmps32
 go_wp2_with (refine Je rfl 121 _ rfl 3 rfl tg _ fr _ (Bby (Bby (Bby HT.out _) _) _) Tryz.underlying121 rfl (by kernel_rfl) ?_)
 have hI : Hid (∀ k w1, k < 6 → (Instr.index 121 (.agg #[.int .i64 6, .int .i64 (-1), .int .i64 (-1), .int .i64 0, .int .i64 (-4), .int .i64 0, .int .i64 (-1), .int .i64 6, .int .i64 (-1), .int .i64 0, .int .i64 0, .int .i64 (-4), .int .i64 (-1), .int .i64 (-1), .int .i64 6, .int .i64 (-4), .int .i64 0, .int .i64 0, .int .i64 0, .int .i64 0, .int .i64 (-4), .int .i64 32, .int .i64 16, .int .i64 16, .int .i64 (-4), .int .i64 0, .int .i64 0, .int .i64 16, .int .i64 32, .int .i64 16, .int .i64 0, .int .i64 (-4), .int .i64 0, .int .i64 16, .int .i64 16, .int .i64 32]) (.int .i64 (k : Nat))).run Tryz.prog w1 = .ok (.agg #[.int .i64 (Fz k 0), .int .i64 (Fz k 1), .int .i64 (Fz k 2), .int .i64 (Fz k 3), .int .i64 (Fz k 4), .int .i64 (Fz k 5)]) w1) := fun k w1 hk => Bfy k hk w1
 clear HT ht
 generalize (#[.int .i64 6, .int .i64 (-1), .int .i64 (-1), .int .i64 0, .int .i64 (-4), .int .i64 0, .int .i64 (-1), .int .i64 6, .int .i64 (-1), .int .i64 0, .int .i64 0, .int .i64 (-4), .int .i64 (-1), .int .i64 (-1), .int .i64 6, .int .i64 (-4), .int .i64 0, .int .i64 0, .int .i64 0, .int .i64 0, .int .i64 (-4), .int .i64 32, .int .i64 16, .int .i64 16, .int .i64 (-4), .int .i64 0, .int .i64 0, .int .i64 16, .int .i64 32, .int .i64 16, .int .i64 0, .int .i64 (-4), .int .i64 0, .int .i64 16, .int .i64 16, .int .i64 32] : Array Value) = TQ at *
 obtain ⟨w0, hq, ks, kr, kn, bb⟩ := K9 w [.slice va 6 vc, .slice ya yl yc, Iz f2, .slice a2 l2 c2, Iz f3, .slice a3 l3 c3] (Bx false eB eB) [Iz false, .slice none 0 0] 68 26 66
 rw [← hq]
 clear hq
 go_loopw [8] (fun i wr => Below w.heap.size w wr ∧ ∃ (k : Nat) (f : Bool) (a : Option Addr) (l c : Nat), k ≤ 6 ∧ i = .int .i64 k ∧ Be wr (w.heap.size + 1 + 1) [Iz f, .slice a l c] 66 ∧ NV wr f (.slice a l c) (Mb V k) (L + L + 7 + k) ∧ Be wr (w.heap.size + 1) (Bx false eB eB) 26 ∧ Be wr w.heap.size [.slice va 6 vc, .slice ya yl yc, Iz f2, .slice a2 l2 c2, Iz f3, .slice a3 l3 c3] 68) (fun i _ => 6 - (intOf i).toNat)
 case atStart => exact ⟨bb, 0, _, _, _, _, by omega, rfl, kn, Wp _ _, kr, ks⟩
 case round =>
  clear bb kr ks kn
  obtain ⟨bb, k, f, a, l, c, hk, rfl, kn, ns, kr, ks⟩ := hrel
  by_cases hkm : k < 6
  ·obtain ⟨d, o, rfl, g0, g1⟩ := hr.out.b bb k hkm
   have hd : d < w.heap.size := by
    obtain ⟨d', o', e, q0, -⟩ := hr.out k (by omega)
    injection e with e
    injection e with e1 e2
    subst e1
    exact World.block_lt_of_cell? w _ q0
   obtain ⟨nk, ak, lk, ck, ek⟩ := hv.out k (by omega)
   rw [ek] at nk g1
   replace nk := nk.b bb
   have i1 : (k : Int) < 6 := by omega
   have i2 : ¬ (k : Int) < 0 := by omega
   go_wp2_with (refine Ek rfl 121 _ _ rfl TQ k rfl rfl _ (hI.out k _ hkm) ?_)
   obtain ⟨wq, hq, kw, bd⟩ := D7 wr [.int .i64 (Fz k 0), .int .i64 (Fz k 1), .int .i64 (Fz k 2), .int .i64 (Fz k 3), .int .i64 (Fz k 4), .int .i64 (Fz k 5)] 60
   rw [← hq]
   clear hq
   replace kn := kn.b bd
   replace kr := kr.b bd
   replace ks := ks.b bd
   replace ns := ns.b bd
   replace nk := nk.b bd
   replace g0 := Bh g0 bd
   replace g1 := Bh g1 bd
   replace bb := Ia bb bd
   clear bd
   have bd := Cd wq
   replace kn := kn.b bd
   replace kr := kr.b bd
   replace ks := ks.b bd
   replace ns := ns.b bd
   replace nk := nk.b bd
   replace g0 := Bh g0 bd
   replace g1 := Bh g1 bd
   replace kw := kw.b bd
   replace bb := Ia bb bd
   clear bd
   refine Jc (S := fun w' => w'.cell? ⟨w.heap.size, 0, none⟩ = some (.slice (some ⟨d, o, none⟩) 6 vc) ∧ w'.cell? ⟨d, o + k * 2, none⟩ = some (Iz (N k)) ∧ w'.cell? ⟨d, o + k * 2 + 1, none⟩ = some (.slice ak lk ck)) (by kernel_rfl) ⟨ks.cell 0, g0, g1⟩ (fun hS => ?_)
   generalize wq.drew = wd at *
   refine WA.start (n := 13) (by kernel_rfl) ?_
   refine WA.tp 1 rfl ?_
   refine WA.tp 2 rfl ?_
   refine WA.tp 3 rfl ?_
   refine WA.tp 4 rfl ?_
   refine WA.tp 5 rfl ?_
   refine WA.tp 6 rfl ?_
   refine WA.tp 7 rfl ?_
   refine WA.tp 8 rfl ?_
   refine WA.genR (i := 0) (s := 12) (.agg #[Iz f, .slice a l c]) (fun b x hz => ?_)
   simp only [Jp]
   obtain ⟨c0, c1⟩ := B7 kn
   revert b x
   refine WA.oneR 13 510 9 0 rfl rfl hS ?_
   clear hS c0 c1
   intro b x hz K hK
   simp only [Jq]
   go_simp
   go_fit (HW.out k _ _ hkm bb kw)
   rintro e w1 ⟨f1, a1, l1, c1, rfl, n1, b1⟩
   clear kw
   replace kn := kn.b b1
   replace kr := kr.b b1
   replace ks := ks.b b1
   replace ns := ns.b b1
   replace nk := nk.b b1
   replace g0 := Bh g0 b1
   replace g1 := Bh g1 b1
   replace bb := Ia bb b1
   clear b1
   try go_wp2_with fail
   refine hK.out _ _ ⟨ks.cell 0, g0, g1⟩ (fun hS => ?_)
   clear hK K
   obtain ⟨c0, c1⟩ := B7 kn
   revert b x
   refine WA.oneR 13 1022 10 0 rfl rfl hS ?_
   clear hS c0 c1
   intro b x hz K hK
   simp only [Jq]
   go_simp
   go_fit (B5 _ _ _ _ (V k) (D6 V (Fz k) 6) L (L + 7) _ (by omega) (by omega) nk n1)
   rintro e w2 ⟨f2', v2, rfl, n2, -, b1⟩
   obtain ⟨a2', l2', c2', rfl⟩ := n2.slice
   clear nk n1
   replace kn := kn.b b1
   replace kr := kr.b b1
   replace ks := ks.b b1
   replace ns := ns.b b1
   replace g0 := Bh g0 b1
   replace g1 := Bh g1 b1
   replace bb := Ia bb b1
   clear b1
   try go_wp2_with fail
   refine hK.out _ _ ⟨ks.cell 0, g0, g1⟩ (fun hS => ?_)
   clear hK K
   obtain ⟨c0, c1⟩ := B7 kn
   revert b x
   refine WA.finR 0 rfl hS ?_
   clear c0 c1
   refine WA.cal 11 rfl (fun K hK => ?_)
   simp only [Jq]
   go_simp
   go_fit (Ef _ _ _ _ (Mb V k) (V k * D6 V (Fz k) 6) (L + L + 7 + k) _ (by omega) ns (n2.mono (by omega)))
   rintro e w3 ⟨f3', v3, rfl, n3, b1⟩
   obtain ⟨a3', l3', c3', rfl⟩ := n3.slice
   clear ns n2
   replace kn := kn.b b1
   replace kr := kr.b b1
   replace ks := ks.b b1
   replace g0 := Bh g0 b1
   replace g1 := Bh g1 b1
   replace bb := Ia bb b1
   clear b1
   try go_wp2_with fail
   clear hS
   refine hK.out _ _ ⟨ks.cell 0, g0, g1⟩ (fun hS => ?_)
   clear hK K
   obtain ⟨c0, c1⟩ := B7 kn
   have q0 := Be.o kn 0
   have q1 := Be.o kn 1
   refine WA.cal 12 rfl (fun K hK => ?_)
   simp only [Jq]
   go_simp
   try go_wp2_with fail
   clear c0 c1 q0 q1 hS
   have hne : ¬ (d = w.heap.size + 1 + 1) := by omega
   replace ks := ks.oth2 (show w.heap.size ≠ w.heap.size + 1 + 1 by omega) (Iz f3') (.slice a3' l3' c3')
   refine hK.out _ _ ⟨ks.cell 0, Ki g0 hne _ _, Ki g1 hne _ _⟩ (fun hS => ?_)
   clear hK K
   refine WA.done (by kernel_rfl) ?_
   clear hS
   replace n3 := n3.set2 kn (Iz f3') (.slice a3' l3' c3')
   replace kr := kr.oth2 (show w.heap.size + 1 ≠ w.heap.size + 1 + 1 by omega) (Iz f3') (.slice a3' l3' c3')
   replace bb := Bi (Bi bb (show w.heap.size ≤ w.heap.size + 1 + 1 by omega) 0 (Iz f3')) (show w.heap.size ≤ w.heap.size + 1 + 1 by omega) 1 (.slice a3' l3' c3')
   replace kn := (kn.set 0 (Iz f3')).set 1 (.slice a3' l3' c3')
   clear g0 g1
   go_wp2_with fail
   refine ⟨⟨bb, k + 1, f3', a3', l3', c3', by omega, by go_num, kn, n3, kr, ks⟩, ?_⟩
   simp [intOf]; omega
  ·obtain rfl : k = 6 := by omega
   have i3 : ¬ ((6 : Nat) : Int) < 6 := by omega
   clear hr hv HW hI i3 hkm
   go_wp2_with fail
   have bd := Cd wr
   replace kn := kn.b bd
   replace kr := kr.b bd
   replace ks := ks.b bd
   replace ns := ns.b bd
   replace bb := Ia bb bd
   clear bd
   refine Jc (S := fun w' => Gl w' w.heap.size (.slice va 6 vc) (.slice ya yl yc) (Iz f2) (.slice a2 l2 c2) (Iz f3) (.slice a3 l3 c3) ∧ Fb w' (w.heap.size + 1 + 1) (Iz f) (.slice a l c)) (by kernel_rfl) ⟨Cw ks, B7 kn⟩ (fun hS => ?_)
   generalize wr.drew = wd at *
   refine WA.start (n := 10) (by kernel_rfl) ?_
   refine WA.tp 0 rfl ?_
   refine WA.tp 1 rfl ?_
   refine WA.tp 2 rfl ?_
   refine WA.tp 3 rfl ?_
   refine WA.tp 4 rfl ?_
   refine WA.tp 5 rfl ?_
   clear hS
   refine WA.cal 6 rfl (fun K hK => ?_)
   simp only [Jq]
   go_simp
   try go_wp2_with fail
   obtain ⟨w1, hw, kp, b1⟩ := D7 wd [.slice ya yl yc, .slice ya yl yc] 63
   rw [← hw]
   clear hw
   replace kn := kn.b b1
   replace kr := kr.b b1
   replace ks := ks.b b1
   replace ns := ns.b b1
   replace bb := Ia bb b1
   clear b1
   refine hK.out _ _ ⟨Cw ks, B7 kn⟩ (fun hS => ?_)
   clear hK K hS
   refine WA.cal 7 rfl (fun K hK => ?_)
   simp only [Jq]
   go_simp
   go_fit (HC.out _ _ bb kp)
   rintro e w2 ⟨g, cap, rfl, hr2, b1⟩
   clear kp
   replace hr2 := Ba hr2
   replace kn := kn.b b1
   replace kr := kr.b b1
   replace ks := ks.b b1
   replace ns := ns.b b1
   replace bb := Ia bb b1
   clear b1
   try go_wp2_with fail
   refine hK.out _ _ ⟨Cw ks, B7 kn⟩ (fun hS => ?_)
   clear hK K hS
   refine WA.cal 8 rfl (fun K hK => ?_)
   simp only [Jq]
   go_simp
   go_fit (HP.out _ _ _ _ _ _ cap bb ns hr2.out)
   rintro e w3 ⟨rfl, b1⟩
   clear ns hr2
   replace kn := kn.b b1
   replace kr := kr.b b1
   replace ks := ks.b b1
   replace bb := Ia bb b1
   clear b1
   try go_wp2_with fail
   refine hK.out _ _ ⟨Cw ks, B7 kn⟩ (fun hS => ?_)
   clear hK K hS
   obtain ⟨e0, e1, e2⟩ := Ch kr
   have q0 := Be.o kr 0
   have q1 := Be.o kr 1
   have q2 := Be.o kr 2
   refine WA.cal 9 rfl (fun K hK => ?_)
   simp only [Jq]
   go_simp
   try go_wp2_with fail
   clear e0 e1 e2 q0 q1 q2
   have hne : w.heap.size ≠ w.heap.size + 1 := by omega
   have hne' : w.heap.size + 1 + 1 ≠ w.heap.size + 1 := by omega
   refine hK.out _ _ ⟨Cw (((ks.w hne 0 _).w hne 1 _).w hne 2 _), B7 (((kn.w hne' 0 _).w hne' 1 _).w hne' 2 _)⟩ (fun hS => ?_)
   clear hK K hS
   refine WA.done (by kernel_rfl) ?_
   go_wp2
   exact Cu (p := 2) (by kernel_rfl) rfl rfl (((kr.set 0 _).set 1 _).set 2 _) ⟨rfl, Bi (Bi (Bi bb (by omega) 0 _) (by omega) 1 _) (by omega) 2 _⟩
def ldT : List (List Int) := [[2, -1, -1, 8, 4, 8], [-1, 2, -1, 8, 8, 4], [-1, -1, 2, 4, 8, 8]]
def Eh (i j : Nat) : Int := (ldT.getD i []).getD j 0
theorem Bgr (k : Nat) (hk : k < 3) (w : World) : (Instr.index 73 (.agg #[.int .i64 2, .int .i64 (-1), .int .i64 (-1), .int .i64 8, .int .i64 4, .int .i64 8, .int .i64 (-1), .int .i64 2, .int .i64 (-1), .int .i64 8, .int .i64 8, .int .i64 4, .int .i64 (-1), .int .i64 (-1), .int .i64 2, .int .i64 4, .int .i64 8, .int .i64 8]) (.int .i64 k)).run Tryz.prog w = .ok (.agg #[.int .i64 (Eh k 0), .int .i64 (Eh k 1), .int .i64 (Eh k 2), .int .i64 (Eh k 3), .int .i64 (Eh k 4), .int .i64 (Eh k 5)]) w := by
 obtain rfl | rfl | rfl : k = 0 ∨ k = 1 ∨ k = 2 := by omega
 all_goals kernel_rfl
theorem Bdv (n0 n1 n2 n3 n4 n5 p0 p1 p2 p3 p4 p5 : Bool) (s0 d0 s1 d1 s2 d2 s3 d3 s4 d4 s5 d5 q0 r0 q1 r1 q2 r2 q3 r3 q4 r4 q5 r5 : ByteArray) (X : Nat → Bool) (Y Z : Nat → ByteArray) (w : World) (tg : TypeId) (fr : Nat × Nat) (ht : w.heap[1]? = some (.cells #[.int .i64 2, .int .i64 (-1), .int .i64 (-1), .int .i64 8, .int .i64 4, .int .i64 8, .int .i64 (-1), .int .i64 2, .int .i64 (-1), .int .i64 8, .int .i64 8, .int .i64 4, .int .i64 (-1), .int .i64 (-1), .int .i64 2, .int .i64 4, .int .i64 8, .int .i64 8] tg fr)) (SP : World → Nat → Nat → Nat → Option Addr → Nat → Nat → Option Addr → Nat → Nat → Prop) (SPb : ∀ w w' g gy c a2 l2 c2 a3 l3 c3, SP w g gy c a2 l2 c2 a3 l3 c3 → Below w.heap.size w w' → SP w' g gy c a2 l2 c2 a3 l3 c3)
  (HS : Hid (∀ w1, Below w.heap.size w w1 → Calls Tryz.prog 30 #[(Cp n0 s0 d0 n1 s1 d1 n2 s2 d2 n3 s3 d3 n4 s4 d4 n5 s5 d5), (B4 p0 q0 r0 p1 q1 r1), (B4 p2 q2 r2 p3 q3 r3), (B4 p4 q4 r4 p5 q5 r5)] w1 fun e w' => ∃ g gy c a2 l2 c2 a3 l3 c3, e = .returned (.tuple #[.agg #[.slice (some ⟨g, 0, none⟩) 6 c, .slice (some ⟨gy, 0, none⟩) 3 3, Iz false, .slice a2 l2 c2, Iz false, .slice a3 l3 c3], .int .i64 0]) ∧ SP w' g gy c a2 l2 c2 a3 l3 c3 ∧ Below w1.heap.size w1 w'))
  (HL : Hid (∀ k w1 B g gy c a2 l2 c2 a3 l3 c3, k < 3 → Below w.heap.size w w1 → SP w1 g gy c a2 l2 c2 a3 l3 c3 → Be w1 B [.int .i64 (Eh k 0), .int .i64 (Eh k 1), .int .i64 (Eh k 2), .int .i64 (Eh k 3), .int .i64 (Eh k 4), .int .i64 (Eh k 5)] 60 → Calls Tryz.prog 31 #[.agg #[.slice (some ⟨g, 0, none⟩) 6 c, .slice (some ⟨gy, 0, none⟩) 3 3, Iz false, .slice a2 l2 c2, Iz false, .slice a3 l3 c3], .slice (some ⟨B, 0, none⟩) 6 6] w1 (Re w1 ((Bo (X k) (Y k) (Z k)))))) :
  Calls Tryz.prog 12 #[(Cp n0 s0 d0 n1 s1 d1 n2 s2 d2 n3 s3 d3 n4 s4 d4 n5 s5 d5), (B4 p0 q0 r0 p1 q1 r1), (B4 p2 q2 r2 p3 q3 r3), (B4 p4 q4 r4 p5 q5 r5)] w (Re w (.tuple #[(Wj (X 0) (Y 0) (Z 0) (X 1) (Y 1) (Z 1) (X 2) (Y 2) (Z 2)), .int .i64 0])) := by
 have HT := Ba ht
 have ht0 := Ba (show 1 < w.heap.size by
  rcases Nat.lt_or_ge 1 w.heap.size with q | q
  ·exact q
  ·rw [Array.getElem?_eq_none q] at ht; cases ht)
 clear ht
 go_enter Tryz.func12, Tryz.ntmps12
 go_upto_region 1 with fail
 obtain ⟨w0, hq, kf, ka, kb, kc, kr, bb⟩ := mk5 w (Di n0 s0 d0 n1 s1 d1 n2 s2 d2 n3 s3 d3 n4 s4 d4 n5 s5 d5) (Cn p0 q0 r0 p1 q1 r1) (Cn p2 q2 r2 p3 q3 r3) (Cn p4 q4 r4 p5 q5 r5) (Oz false eB eB false eB eB false eB eB) 28 30 30 30 37
 rw [← hq]
 clear hq
 obtain ⟨x0, x1, x2, x3, x4, x5⟩ := Cw ka
 obtain ⟨y0, y1, y2, y3, y4, y5⟩ := Cw kb
 obtain ⟨z0, z1, z2, z3, z4, z5⟩ := Cw kc
 go_wp2_with (refine Je rfl 28 _ rfl _ rfl 28 _ (0, 0) _ kf Tryz.underlying28 rfl (by kernel_rfl) ?_)
 clear x0 x1 x2 x3 x4 x5 y0 y1 y2 y3 y4 y5 z0 z1 z2 z3 z4 z5
 clear kf ka kb kc
 go_fit (HS.out _ bb)
 rintro e w1 ⟨g, gy, c, a2, l2, c2, a3, l3, c3, rfl, sp, b1⟩
 replace sp := Ba sp
 replace kr := kr.b b1
 replace bb := Ia bb b1
 clear b1
 have t1 := Ba kr.lt
 go_upto_region 4 with fail
 obtain ⟨w2, hq, ks, b1⟩ := D7 w1 [.slice (some ⟨g, 0, none⟩) 6 c, .slice (some ⟨gy, 0, none⟩) 3 3, Iz false, .slice a2 l2 c2, Iz false, .slice a3 l3 c3] 68
 rw [← hq]
 clear hq
 replace sp := Ba (SPb _ _ _ _ _ _ _ _ _ _ _ sp.out b1)
 replace kr := kr.b b1
 replace bb := Ia bb b1
 clear b1
 have t2 := Ba ks.lt
 have t2r := Ba kr.lt
 go_upto_region 5 with fail
 obtain ⟨w3, hq, ko, b2⟩ := D7 w2 (Oz false eB eB false eB eB false eB eB) 37
 rw [← hq]
 clear hq
 have bb2 := bb
 clear bb
 have hn1 : w1.heap.size ≠ w2.heap.size := by have := t2.out; omega
 have hnr : w.heap.size + 1 + 1 + 1 + 1 ≠ w2.heap.size := by have := t2r.out; omega
 go_wp2_with (refine Je rfl 73 _ rfl 1 rfl tg _ fr _ (Uz HT.out (Ia bb2 b2) ht0.out) Tryz.underlying73 rfl (by kernel_rfl) ?_)
 have hI : Hid (∀ k w1, k < 3 → (Instr.index 73 (.agg #[.int .i64 2, .int .i64 (-1), .int .i64 (-1), .int .i64 8, .int .i64 4, .int .i64 8, .int .i64 (-1), .int .i64 2, .int .i64 (-1), .int .i64 8, .int .i64 8, .int .i64 4, .int .i64 (-1), .int .i64 (-1), .int .i64 2, .int .i64 4, .int .i64 8, .int .i64 8]) (.int .i64 (k : Nat))).run Tryz.prog w1 = .ok (.agg #[.int .i64 (Eh k 0), .int .i64 (Eh k 1), .int .i64 (Eh k 2), .int .i64 (Eh k 3), .int .i64 (Eh k 4), .int .i64 (Eh k 5)]) w1) := fun k w1 hk => Bgr k hk w1
 clear HT ht0
 generalize (#[.int .i64 2, .int .i64 (-1), .int .i64 (-1), .int .i64 8, .int .i64 4, .int .i64 8, .int .i64 (-1), .int .i64 2, .int .i64 (-1), .int .i64 8, .int .i64 8, .int .i64 4, .int .i64 (-1), .int .i64 (-1), .int .i64 2, .int .i64 4, .int .i64 8, .int .i64 8] : Array Value) = TQ at *
 refine wp_loop_rounds 4 ?_
 rw [rounds_succ]
 go_upto_region 8 with (refine Ek rfl 73 _ _ rfl TQ 0 rfl rfl _ (hI.out 0 _ (by omega)) ?_)
 obtain ⟨u0, hq, kw, b1⟩ := D7 w3 [.int .i64 (Eh 0 0), .int .i64 (Eh 0 1), .int .i64 (Eh 0 2), .int .i64 (Eh 0 3), .int .i64 (Eh 0 4), .int .i64 (Eh 0 5)] 60
 rw [← hq]
 clear hq
 replace ko := ko.b b1
 replace b2 := Ia b2 b1
 clear b1
 have bd := Cd u0
 replace ko := ko.b bd
 replace kw := kw.b bd
 replace b2 := Ia b2 bd
 clear bd
 refine Jc (S := fun w' => Gl w' w1.heap.size (.slice (some ⟨g, 0, none⟩) 6 c) (.slice (some ⟨gy, 0, none⟩) 3 3) (Iz false) (.slice a2 l2 c2) (Iz false) (.slice a3 l3 c3)) (by kernel_rfl) (Cw (ks.b b2)) (fun hS => ?_)
 generalize u0.drew = y0 at *
 refine WA.start (n := 6) (by kernel_rfl) ?_
 refine WA.tp 0 rfl ?_
 refine WA.tp 1 rfl ?_
 refine WA.tp 2 rfl ?_
 clear hS
 refine WA.cal 3 rfl (fun K hK => ?_)
 simp only [Jq]
 go_simp
 go_fit (HL.out 0 _ _ _ _ _ _ _ _ _ _ _ (by omega) (Ia bb2 b2) (SPb _ _ _ _ _ _ _ _ _ _ _ sp.out b2) kw)
 rintro e w4_0 ⟨rfl, b1⟩
 clear kw
 replace ko := ko.b b1
 replace b2 := Ia b2 b1
 clear b1
 try go_wp2_with fail
 refine hK.out _ _ (Cw (ks.b b2)) (fun hS => ?_)
 clear hK K
 refine WA.tp 4 rfl ?_
 clear hS
 have e0 := ko.cell 0
 have e1 := ko.cell 1
 have e2 := ko.cell 2
 simp only [Jn, Jm] at e0 e1 e2
 have f0 := Be.o ko 0
 have f1 := Be.o ko 1
 have f2 := Be.o ko 2
 refine WA.cal 5 rfl (fun K hK => ?_)
 simp only [Jq]
 go_simp
 try go_wp2_with fail
 clear e0 e1 e2 f0 f1 f2
 have ks' := ks.b b2
 refine hK.out _ _ (Cw (((ks'.w hn1 0 _).w hn1 1 _).w hn1 2 _)) (fun hS => ?_)
 clear hK K ks'
 refine WA.done (by kernel_rfl) ?_
 clear hS
 obtain ⟨x1, hw⟩ : ∃ x, x = ((w4_0.setCell ⟨w2.heap.size, 0, none⟩ (Iz (X 0))).setCell ⟨w2.heap.size, 1, none⟩ (I (Y 0))).setCell ⟨w2.heap.size, 2, none⟩ (I (Z 0)) := ⟨_, rfl⟩
 rw [← hw]
 replace ko : Be _ (w2.heap.size) (Oz (X 0) (Y 0) (Z 0) false eB eB false eB eB) 37 := ((ko.set 0 (Iz (X 0))).set 1 (I (Y 0))).set 2 (I (Z 0))
 replace b2 := Bi (Bi (Bi b2 (Jb w2.heap.size) 0 (Iz (X 0))) (Jb w2.heap.size) 1 (I (Y 0))) (Jb w2.heap.size) 2 (I (Z 0))
 rw [← hw] at ko b2
 clear hw
 go_wp2_with fail
 rw [rounds_succ]
 go_upto_region 8 with (refine Ek rfl 73 _ _ rfl TQ 1 rfl rfl _ (hI.out 1 _ (by omega)) ?_)
 obtain ⟨u1, hq, kw, b1⟩ := D7 x1 [.int .i64 (Eh 1 0), .int .i64 (Eh 1 1), .int .i64 (Eh 1 2), .int .i64 (Eh 1 3), .int .i64 (Eh 1 4), .int .i64 (Eh 1 5)] 60
 rw [← hq]
 clear hq
 replace ko := ko.b b1
 replace b2 := Ia b2 b1
 clear b1
 have bd := Cd u1
 replace ko := ko.b bd
 replace kw := kw.b bd
 replace b2 := Ia b2 bd
 clear bd
 refine Jc (S := fun w' => Gl w' w1.heap.size (.slice (some ⟨g, 0, none⟩) 6 c) (.slice (some ⟨gy, 0, none⟩) 3 3) (Iz false) (.slice a2 l2 c2) (Iz false) (.slice a3 l3 c3)) (by kernel_rfl) (Cw (ks.b b2)) (fun hS => ?_)
 generalize u1.drew = y1 at *
 refine WA.start (n := 6) (by kernel_rfl) ?_
 refine WA.tp 0 rfl ?_
 refine WA.tp 1 rfl ?_
 refine WA.tp 2 rfl ?_
 clear hS
 refine WA.cal 3 rfl (fun K hK => ?_)
 simp only [Jq]
 go_simp
 go_fit (HL.out 1 _ _ _ _ _ _ _ _ _ _ _ (by omega) (Ia bb2 b2) (SPb _ _ _ _ _ _ _ _ _ _ _ sp.out b2) kw)
 rintro e w4_1 ⟨rfl, b1⟩
 clear kw
 replace ko := ko.b b1
 replace b2 := Ia b2 b1
 clear b1
 try go_wp2_with fail
 refine hK.out _ _ (Cw (ks.b b2)) (fun hS => ?_)
 clear hK K
 refine WA.tp 4 rfl ?_
 clear hS
 have e0 := ko.cell 3
 have e1 := ko.cell 4
 have e2 := ko.cell 5
 simp only [Jn, Jm] at e0 e1 e2
 have f0 := Be.o ko 3
 have f1 := Be.o ko 4
 have f2 := Be.o ko 5
 refine WA.cal 5 rfl (fun K hK => ?_)
 simp only [Jq]
 go_simp
 try go_wp2_with fail
 clear e0 e1 e2 f0 f1 f2
 have ks' := ks.b b2
 refine hK.out _ _ (Cw (((ks'.w hn1 3 _).w hn1 4 _).w hn1 5 _)) (fun hS => ?_)
 clear hK K ks'
 refine WA.done (by kernel_rfl) ?_
 clear hS
 obtain ⟨x2, hw⟩ : ∃ x, x = ((w4_1.setCell ⟨w2.heap.size, 3, none⟩ (Iz (X 1))).setCell ⟨w2.heap.size, 4, none⟩ (I (Y 1))).setCell ⟨w2.heap.size, 5, none⟩ (I (Z 1)) := ⟨_, rfl⟩
 rw [← hw]
 replace ko : Be _ (w2.heap.size) (Oz (X 0) (Y 0) (Z 0) (X 1) (Y 1) (Z 1) false eB eB) 37 := ((ko.set 3 (Iz (X 1))).set 4 (I (Y 1))).set 5 (I (Z 1))
 replace b2 := Bi (Bi (Bi b2 (Jb w2.heap.size) 3 (Iz (X 1))) (Jb w2.heap.size) 4 (I (Y 1))) (Jb w2.heap.size) 5 (I (Z 1))
 rw [← hw] at ko b2
 clear hw
 go_wp2_with fail
 rw [rounds_succ]
 go_upto_region 8 with (refine Ek rfl 73 _ _ rfl TQ 2 rfl rfl _ (hI.out 2 _ (by omega)) ?_)
 obtain ⟨u2, hq, kw, b1⟩ := D7 x2 [.int .i64 (Eh 2 0), .int .i64 (Eh 2 1), .int .i64 (Eh 2 2), .int .i64 (Eh 2 3), .int .i64 (Eh 2 4), .int .i64 (Eh 2 5)] 60
 rw [← hq]
 clear hq
 replace ko := ko.b b1
 replace b2 := Ia b2 b1
 clear b1
 have bd := Cd u2
 replace ko := ko.b bd
 replace kw := kw.b bd
 replace b2 := Ia b2 bd
 clear bd
 refine Jc (S := fun w' => Gl w' w1.heap.size (.slice (some ⟨g, 0, none⟩) 6 c) (.slice (some ⟨gy, 0, none⟩) 3 3) (Iz false) (.slice a2 l2 c2) (Iz false) (.slice a3 l3 c3)) (by kernel_rfl) (Cw (ks.b b2)) (fun hS => ?_)
 generalize u2.drew = y2 at *
 refine WA.start (n := 6) (by kernel_rfl) ?_
 refine WA.tp 0 rfl ?_
 refine WA.tp 1 rfl ?_
 refine WA.tp 2 rfl ?_
 clear hS
 refine WA.cal 3 rfl (fun K hK => ?_)
 simp only [Jq]
 go_simp
 go_fit (HL.out 2 _ _ _ _ _ _ _ _ _ _ _ (by omega) (Ia bb2 b2) (SPb _ _ _ _ _ _ _ _ _ _ _ sp.out b2) kw)
 rintro e w4_2 ⟨rfl, b1⟩
 clear kw
 replace ko := ko.b b1
 replace b2 := Ia b2 b1
 clear b1
 try go_wp2_with fail
 refine hK.out _ _ (Cw (ks.b b2)) (fun hS => ?_)
 clear hK K
 refine WA.tp 4 rfl ?_
 clear hS
 have e0 := ko.cell 6
 have e1 := ko.cell 7
 have e2 := ko.cell 8
 simp only [Jn, Jm] at e0 e1 e2
 have f0 := Be.o ko 6
 have f1 := Be.o ko 7
 have f2 := Be.o ko 8
 refine WA.cal 5 rfl (fun K hK => ?_)
 simp only [Jq]
 go_simp
 try go_wp2_with fail
 clear e0 e1 e2 f0 f1 f2
 have ks' := ks.b b2
 refine hK.out _ _ (Cw (((ks'.w hn1 6 _).w hn1 7 _).w hn1 8 _)) (fun hS => ?_)
 clear hK K ks'
 refine WA.done (by kernel_rfl) ?_
 clear hS
 obtain ⟨x3, hw⟩ : ∃ x, x = ((w4_2.setCell ⟨w2.heap.size, 6, none⟩ (Iz (X 2))).setCell ⟨w2.heap.size, 7, none⟩ (I (Y 2))).setCell ⟨w2.heap.size, 8, none⟩ (I (Z 2)) := ⟨_, rfl⟩
 rw [← hw]
 replace ko : Be _ (w2.heap.size) (Oz (X 0) (Y 0) (Z 0) (X 1) (Y 1) (Z 1) (X 2) (Y 2) (Z 2)) 37 := ((ko.set 6 (Iz (X 2))).set 7 (I (Y 2))).set 8 (I (Z 2))
 replace b2 := Bi (Bi (Bi b2 (Jb w2.heap.size) 6 (Iz (X 2))) (Jb w2.heap.size) 7 (I (Y 2))) (Jb w2.heap.size) 8 (I (Z 2))
 rw [← hw] at ko b2
 clear hw
 go_wp2_with fail
 rw [rounds_succ]
 have bR := Ia bb2 b2
 have krr := kr.b b2
 clear kr b2 bb2 sp ks t2 t2r
 have e0 := krr.cell 0
 have f0 := Be.o krr 0
 have c0 := ko.cell 0
 have e1 := krr.cell 1
 have f1 := Be.o krr 1
 have c1 := ko.cell 1
 have e2 := krr.cell 2
 have f2 := Be.o krr 2
 have c2 := ko.cell 2
 have e3 := krr.cell 3
 have f3 := Be.o krr 3
 have c3 := ko.cell 3
 have e4 := krr.cell 4
 have f4 := Be.o krr 4
 have c4 := ko.cell 4
 have e5 := krr.cell 5
 have f5 := Be.o krr 5
 have c5 := ko.cell 5
 have e6 := krr.cell 6
 have f6 := Be.o krr 6
 have c6 := ko.cell 6
 have e7 := krr.cell 7
 have f7 := Be.o krr 7
 have c7 := ko.cell 7
 have e8 := krr.cell 8
 have f8 := Be.o krr 8
 have c8 := ko.cell 8
 simp only [Jn, Jm] at e0 c0 e1 c1 e2 c2 e3 c3 e4 c4 e5 c5 e6 c6 e7 c7 e8 c8
 go_wp2_with fail
 try go_wp2
 exact Wn (p := 8) (u := 9) (v := .int .i64 0) (by kernel_rfl) rfl rfl rfl ((((((((((krr.set 0 _).set 1 _).set 2 _).set 3 _).set 4 _).set 5 _).set 6 _).set 7 _).set 8 _)) rfl ⟨rfl, Bi (Bi (Bi (Bi (Bi (Bi (Bi (Bi (Bi (bR) (by omega) 0 _) (by omega) 1 _) (by omega) 2 _) (by omega) 3 _) (by omega) 4 _) (by omega) 5 _) (by omega) 6 _) (by omega) 7 _) (by omega) 8 _⟩
theorem Sl (n0 n1 n2 n3 n4 n5 p0 p1 p2 p3 p4 p5 : Bool) (s0 d0 s1 d1 s2 d2 s3 d3 s4 d4 s5 d5 q0 r0 q1 r1 q2 r2 q3 r3 q4 r4 q5 r5 : ByteArray) (E : Int) (w : World) (hE : ¬ E = 0)
  (HS : Hid (∀ w1, Below w.heap.size w w1 → Calls Tryz.prog 30 #[(Cp n0 s0 d0 n1 s1 d1 n2 s2 d2 n3 s3 d3 n4 s4 d4 n5 s5 d5), (B4 p0 q0 r0 p1 q1 r1), (B4 p2 q2 r2 p3 q3 r3), (B4 p4 q4 r4 p5 q5 r5)] w1 (Re w1 (.tuple #[.agg #[.slice none 0 0, .slice none 0 0, Iz false, .slice none 0 0, Iz false, .slice none 0 0], .int .i64 E])))) :
  Calls Tryz.prog 11 #[(Cp n0 s0 d0 n1 s1 d1 n2 s2 d2 n3 s3 d3 n4 s4 d4 n5 s5 d5), (B4 p0 q0 r0 p1 q1 r1), (B4 p2 q2 r2 p3 q3 r3), (B4 p4 q4 r4 p5 q5 r5)] w (Re w (.tuple #[(Bo false eB eB), .int .i64 E])) := by
 go_enter Tryz.func11, Tryz.ntmps11
 go_upto_region 1 with fail
 obtain ⟨w0, hq, kf, ka, kb, kc, kr, bb⟩ := mk5 w (Di n0 s0 d0 n1 s1 d1 n2 s2 d2 n3 s3 d3 n4 s4 d4 n5 s5 d5) (Cn p0 q0 r0 p1 q1 r1) (Cn p2 q2 r2 p3 q3 r3) (Cn p4 q4 r4 p5 q5 r5) (Bx false eB eB) 28 30 30 30 26
 rw [← hq]
 clear hq
 obtain ⟨x0, x1, x2, x3, x4, x5⟩ := Cw ka
 obtain ⟨y0, y1, y2, y3, y4, y5⟩ := Cw kb
 obtain ⟨z0, z1, z2, z3, z4, z5⟩ := Cw kc
 go_wp2_with (refine Je rfl 28 _ rfl _ rfl 28 _ (0, 0) _ kf Tryz.underlying28 rfl (by kernel_rfl) ?_)
 clear x0 x1 x2 x3 x4 x5 y0 y1 y2 y3 y4 y5 z0 z1 z2 z3 z4 z5
 clear kf ka kb kc
 go_fit (HS.out _ bb)
 rintro e w1 ⟨rfl, b1⟩
 replace kr := kr.b b1
 replace bb := Ia bb b1
 clear b1
 have b1 := Ct w1 (.cells #[.slice none 0 0, .slice none 0 0, Iz false, .slice none 0 0, Iz false, .slice none 0 0] 68)
 replace kr := kr.b b1
 replace bb := Ia bb b1
 clear b1
 obtain ⟨e0, e1, e2⟩ := Ch kr
 have f0 := Be.o kr 0
 have f1 := Be.o kr 1
 have f2 := Be.o kr 2
 go_wp2
 exact Lj (p := 8) (u := 9) (v := .int .i64 E) (by kernel_rfl) rfl rfl rfl (((kr.set 0 _).set 1 _).set 2 _) ⟨rfl, Bi (Bi (Bi bb (by omega) 0 _) (by omega) 1 _) (by omega) 2 _⟩
theorem Sg (n0 n1 n2 n3 n4 n5 p0 p1 p2 p3 p4 p5 : Bool) (s0 d0 s1 d1 s2 d2 s3 d3 s4 d4 s5 d5 q0 r0 q1 r1 q2 r2 q3 r3 q4 r4 q5 r5 : ByteArray) (E : Int) (w : World) (hE : ¬ E = 0)
  (HS : Hid (∀ w1, Below w.heap.size w w1 → Calls Tryz.prog 30 #[(Cp n0 s0 d0 n1 s1 d1 n2 s2 d2 n3 s3 d3 n4 s4 d4 n5 s5 d5), (B4 p0 q0 r0 p1 q1 r1), (B4 p2 q2 r2 p3 q3 r3), (B4 p4 q4 r4 p5 q5 r5)] w1 (Re w1 (.tuple #[.agg #[.slice none 0 0, .slice none 0 0, Iz false, .slice none 0 0, Iz false, .slice none 0 0], .int .i64 E])))) :
  Calls Tryz.prog 13 #[(Cp n0 s0 d0 n1 s1 d1 n2 s2 d2 n3 s3 d3 n4 s4 d4 n5 s5 d5), (B4 p0 q0 r0 p1 q1 r1), (B4 p2 q2 r2 p3 q3 r3), (B4 p4 q4 r4 p5 q5 r5)] w (Re w (.tuple #[(Bo false eB eB), .int .i64 E])) := by
 go_enter Tryz.func13, Tryz.ntmps13
 go_upto_region 1 with fail
 obtain ⟨w0, hq, kf, ka, kb, kc, kr, bb⟩ := mk5 w (Di n0 s0 d0 n1 s1 d1 n2 s2 d2 n3 s3 d3 n4 s4 d4 n5 s5 d5) (Cn p0 q0 r0 p1 q1 r1) (Cn p2 q2 r2 p3 q3 r3) (Cn p4 q4 r4 p5 q5 r5) (Bx false eB eB) 28 30 30 30 26
 rw [← hq]
 clear hq
 obtain ⟨x0, x1, x2, x3, x4, x5⟩ := Cw ka
 obtain ⟨y0, y1, y2, y3, y4, y5⟩ := Cw kb
 obtain ⟨z0, z1, z2, z3, z4, z5⟩ := Cw kc
 go_wp2_with (refine Je rfl 28 _ rfl _ rfl 28 _ (0, 0) _ kf Tryz.underlying28 rfl (by kernel_rfl) ?_)
 clear x0 x1 x2 x3 x4 x5 y0 y1 y2 y3 y4 y5 z0 z1 z2 z3 z4 z5
 clear kf ka kb kc
 go_fit (HS.out _ bb)
 rintro e w1 ⟨rfl, b1⟩
 replace kr := kr.b b1
 replace bb := Ia bb b1
 clear b1
 have b1 := Ct w1 (.cells #[.slice none 0 0, .slice none 0 0, Iz false, .slice none 0 0, Iz false, .slice none 0 0] 68)
 replace kr := kr.b b1
 replace bb := Ia bb b1
 clear b1
 obtain ⟨e0, e1, e2⟩ := Ch kr
 have f0 := Be.o kr 0
 have f1 := Be.o kr 1
 have f2 := Be.o kr 2
 go_wp2
 exact Lj (p := 8) (u := 9) (v := .int .i64 E) (by kernel_rfl) rfl rfl rfl (((kr.set 0 _).set 1 _).set 2 _) ⟨rfl, Bi (Bi (Bi bb (by omega) 0 _) (by omega) 1 _) (by omega) 2 _⟩
def inT : List Int := [0, 0, 0, 20, 20, 20]
def Yu (j : Nat) : Int := inT.getD j 0
theorem Bdw (n0 n1 n2 n3 n4 n5 p0 p1 p2 p3 p4 p5 : Bool) (s0 d0 s1 d1 s2 d2 s3 d3 s4 d4 s5 d5 q0 r0 q1 r1 q2 r2 q3 r3 q4 r4 q5 r5 : ByteArray) (rN : Bool) (rS rD : ByteArray) (w : World) (tg : TypeId) (fr : Nat × Nat) (ht : w.heap[0]? = some (.cells #[.int .i64 0, .int .i64 0, .int .i64 0, .int .i64 20, .int .i64 20, .int .i64 20] tg fr)) (SP : World → Nat → Nat → Nat → Option Addr → Nat → Nat → Option Addr → Nat → Nat → Prop) (SPb : ∀ w w' g gy c a2 l2 c2 a3 l3 c3, SP w g gy c a2 l2 c2 a3 l3 c3 → Below w.heap.size w w' → SP w' g gy c a2 l2 c2 a3 l3 c3)
  (HS : Hid (∀ w1, Below w.heap.size w w1 → Calls Tryz.prog 30 #[(Cp n0 s0 d0 n1 s1 d1 n2 s2 d2 n3 s3 d3 n4 s4 d4 n5 s5 d5), (B4 p0 q0 r0 p1 q1 r1), (B4 p2 q2 r2 p3 q3 r3), (B4 p4 q4 r4 p5 q5 r5)] w1 fun e w' => ∃ g gy c a2 l2 c2 a3 l3 c3, e = .returned (.tuple #[.agg #[.slice (some ⟨g, 0, none⟩) 6 c, .slice (some ⟨gy, 0, none⟩) 3 3, Iz false, .slice a2 l2 c2, Iz false, .slice a3 l3 c3], .int .i64 0]) ∧ SP w' g gy c a2 l2 c2 a3 l3 c3 ∧ Below w1.heap.size w1 w'))
  (HL : Hid (∀ w1 B g gy c a2 l2 c2 a3 l3 c3, Below w.heap.size w w1 → SP w1 g gy c a2 l2 c2 a3 l3 c3 → Be w1 B [.int .i64 (Yu 0), .int .i64 (Yu 1), .int .i64 (Yu 2), .int .i64 (Yu 3), .int .i64 (Yu 4), .int .i64 (Yu 5)] 60 → Calls Tryz.prog 31 #[.agg #[.slice (some ⟨g, 0, none⟩) 6 c, .slice (some ⟨gy, 0, none⟩) 3 3, Iz false, .slice a2 l2 c2, Iz false, .slice a3 l3 c3], .slice (some ⟨B, 0, none⟩) 6 6] w1 (Re w1 ((Bo rN rS rD))))) :
  Calls Tryz.prog 11 #[(Cp n0 s0 d0 n1 s1 d1 n2 s2 d2 n3 s3 d3 n4 s4 d4 n5 s5 d5), (B4 p0 q0 r0 p1 q1 r1), (B4 p2 q2 r2 p3 q3 r3), (B4 p4 q4 r4 p5 q5 r5)] w (Re w (.tuple #[(Bo rN rS rD), .int .i64 0])) := by
 have HT := Ba ht
 have ht0 : 0 < w.heap.size := by
  rcases Nat.lt_or_ge 0 w.heap.size with q | q
  ·exact q
  ·rw [Array.getElem?_eq_none q] at ht; cases ht
 clear ht
 replace ht0 := Ba ht0
 go_enter Tryz.func11, Tryz.ntmps11
 go_upto_region 1 with fail
 obtain ⟨w0, hq, kf, ka, kb, kc, kr, bb⟩ := mk5 w (Di n0 s0 d0 n1 s1 d1 n2 s2 d2 n3 s3 d3 n4 s4 d4 n5 s5 d5) (Cn p0 q0 r0 p1 q1 r1) (Cn p2 q2 r2 p3 q3 r3) (Cn p4 q4 r4 p5 q5 r5) (Bx false eB eB) 28 30 30 30 26
 rw [← hq]
 clear hq
 obtain ⟨x0, x1, x2, x3, x4, x5⟩ := Cw ka
 obtain ⟨y0, y1, y2, y3, y4, y5⟩ := Cw kb
 obtain ⟨z0, z1, z2, z3, z4, z5⟩ := Cw kc
 go_wp2_with (refine Je rfl 28 _ rfl _ rfl 28 _ (0, 0) _ kf Tryz.underlying28 rfl (by kernel_rfl) ?_)
 clear x0 x1 x2 x3 x4 x5 y0 y1 y2 y3 y4 y5 z0 z1 z2 z3 z4 z5
 clear kf ka kb kc
 go_fit (HS.out _ bb)
 rintro e w1 ⟨g, gy, c, a2, l2, c2, a3, l3, c3, rfl, sp, b1⟩
 replace sp := Ba sp
 replace kr := kr.b b1
 replace bb := Ia bb b1
 clear b1
 have t1 := Ba kr.lt
 go_upto_region 4 with fail
 obtain ⟨w2, hq, ks, b1⟩ := D7 w1 [.slice (some ⟨g, 0, none⟩) 6 c, .slice (some ⟨gy, 0, none⟩) 3 3, Iz false, .slice a2 l2 c2, Iz false, .slice a3 l3 c3] 68
 rw [← hq]
 clear hq
 replace sp := Ba (SPb _ _ _ _ _ _ _ _ _ _ _ sp.out b1)
 replace kr := kr.b b1
 replace bb := Ia bb b1
 clear b1
 go_upto_region 5 with (refine Je rfl 60 _ rfl 0 rfl tg _ fr _ (Uz HT.out bb ht0.out) Tryz.underlying60 rfl (by kernel_rfl) ?_)
 clear HT ht0
 obtain ⟨w3, hq, kw, b1⟩ := D7 w2 [.int .i64 0, .int .i64 0, .int .i64 0, .int .i64 20, .int .i64 20, .int .i64 20] 60
 rw [← hq]
 clear hq
 replace sp := Ba (SPb _ _ _ _ _ _ _ _ _ _ _ sp.out b1)
 replace kr := kr.b b1
 replace ks := ks.b b1
 replace bb := Ia bb b1
 clear b1
 have bd := Cd w3
 replace sp := Ba (SPb _ _ _ _ _ _ _ _ _ _ _ sp.out bd)
 replace kr := kr.b bd
 replace ks := ks.b bd
 replace kw := kw.b bd
 replace bb := Ia bb bd
 clear bd
 refine Jc (S := fun w' => Gl w' w1.heap.size (.slice (some ⟨g, 0, none⟩) 6 c) (.slice (some ⟨gy, 0, none⟩) 3 3) (Iz false) (.slice a2 l2 c2) (Iz false) (.slice a3 l3 c3)) (by kernel_rfl) (Cw ks) (fun hS => ?_)
 generalize w3.drew = wd at *
 refine WA.start (n := 5) (by kernel_rfl) ?_
 refine WA.tp 0 rfl ?_
 refine WA.tp 1 rfl ?_
 clear hS
 refine WA.cal 2 rfl (fun K hK => ?_)
 simp only [Jq]
 go_simp
 go_fit (HL.out _ _ _ _ _ _ _ _ _ _ _ bb sp.out kw)
 rintro e w4 ⟨rfl, b1⟩
 clear sp kw
 replace kr := kr.b b1
 replace ks := ks.b b1
 replace bb := Ia bb b1
 clear b1
 try go_wp2_with fail
 refine hK.out _ _ (Cw ks) (fun hS => ?_)
 clear hK K hS
 obtain ⟨e0, e1, e2⟩ := Ch kr
 have f0 := Be.o kr 0
 have f1 := Be.o kr 1
 have f2 := Be.o kr 2
 refine WA.cal 3 rfl (fun K hK => ?_)
 simp only [Jq]
 go_simp
 try go_wp2_with fail
 clear e0 e1 e2 f0 f1 f2
 have hne : w1.heap.size ≠ w.heap.size + 1 + 1 + 1 + 1 := by have := t1.out; omega
 refine hK.out _ _ (Cw (((ks.w hne 0 _).w hne 1 _).w hne 2 _)) (fun hS => ?_)
 clear hK K
 refine WA.tp 4 rfl ?_
 refine WA.done (by kernel_rfl) ?_
 clear hS ks
 go_wp2
 exact Lj (p := 8) (u := 9) (v := .int .i64 0) (by kernel_rfl) rfl rfl rfl (((kr.set 0 _).set 1 _).set 2 _) ⟨rfl, Bi (Bi (Bi bb (by omega) 0 _) (by omega) 1 _) (by omega) 2 _⟩
theorem Bdr (n0 n1 n2 n3 n4 n5 p0 p1 p2 p3 p4 p5 : Bool) (s0 d0 s1 d1 s2 d2 s3 d3 s4 d4 s5 d5 q0 r0 q1 r1 q2 r2 q3 r3 q4 r4 q5 r5 : ByteArray) (rN : Bool) (rS rD : ByteArray) (w : World) (SP : World → Nat → Nat → Nat → Option Addr → Nat → Nat → Option Addr → Nat → Nat → Prop) (SPb : ∀ w w' g gy c a2 l2 c2 a3 l3 c3, SP w g gy c a2 l2 c2 a3 l3 c3 → Below w.heap.size w w' → SP w' g gy c a2 l2 c2 a3 l3 c3)
  (HS : Hid (∀ w1, Below w.heap.size w w1 → Calls Tryz.prog 30 #[(Cp n0 s0 d0 n1 s1 d1 n2 s2 d2 n3 s3 d3 n4 s4 d4 n5 s5 d5), (B4 p0 q0 r0 p1 q1 r1), (B4 p2 q2 r2 p3 q3 r3), (B4 p4 q4 r4 p5 q5 r5)] w1 fun e w' => ∃ g gy c a2 l2 c2 a3 l3 c3, e = .returned (.tuple #[.agg #[.slice (some ⟨g, 0, none⟩) 6 c, .slice (some ⟨gy, 0, none⟩) 3 3, Iz false, .slice a2 l2 c2, Iz false, .slice a3 l3 c3], .int .i64 0]) ∧ SP w' g gy c a2 l2 c2 a3 l3 c3 ∧ Below w1.heap.size w1 w'))
  (HL : Hid (∀ w1 g gy c a2 l2 c2 a3 l3 c3, Below w.heap.size w w1 → SP w1 g gy c a2 l2 c2 a3 l3 c3 → Calls Tryz.prog 32 #[.agg #[.slice (some ⟨g, 0, none⟩) 6 c, .slice (some ⟨gy, 0, none⟩) 3 3, Iz false, .slice a2 l2 c2, Iz false, .slice a3 l3 c3]] w1 (Re w1 ((Bo rN rS rD))))) :
  Calls Tryz.prog 13 #[(Cp n0 s0 d0 n1 s1 d1 n2 s2 d2 n3 s3 d3 n4 s4 d4 n5 s5 d5), (B4 p0 q0 r0 p1 q1 r1), (B4 p2 q2 r2 p3 q3 r3), (B4 p4 q4 r4 p5 q5 r5)] w (Re w (.tuple #[(Bo rN rS rD), .int .i64 0])) := by
 go_enter Tryz.func13, Tryz.ntmps13
 go_upto_region 1 with fail
 obtain ⟨w0, hq, kf, ka, kb, kc, kr, bb⟩ := mk5 w (Di n0 s0 d0 n1 s1 d1 n2 s2 d2 n3 s3 d3 n4 s4 d4 n5 s5 d5) (Cn p0 q0 r0 p1 q1 r1) (Cn p2 q2 r2 p3 q3 r3) (Cn p4 q4 r4 p5 q5 r5) (Bx false eB eB) 28 30 30 30 26
 rw [← hq]
 clear hq
 obtain ⟨x0, x1, x2, x3, x4, x5⟩ := Cw ka
 obtain ⟨y0, y1, y2, y3, y4, y5⟩ := Cw kb
 obtain ⟨z0, z1, z2, z3, z4, z5⟩ := Cw kc
 go_wp2_with (refine Je rfl 28 _ rfl _ rfl 28 _ (0, 0) _ kf Tryz.underlying28 rfl (by kernel_rfl) ?_)
 clear x0 x1 x2 x3 x4 x5 y0 y1 y2 y3 y4 y5 z0 z1 z2 z3 z4 z5
 clear kf ka kb kc
 go_fit (HS.out _ bb)
 rintro e w1 ⟨g, gy, c, a2, l2, c2, a3, l3, c3, rfl, sp, b1⟩
 replace sp := Ba sp
 replace kr := kr.b b1
 replace bb := Ia bb b1
 clear b1
 go_upto_region 4 with fail
 obtain ⟨w2, hq, ks, b1⟩ := D7 w1 [.slice (some ⟨g, 0, none⟩) 6 c, .slice (some ⟨gy, 0, none⟩) 3 3, Iz false, .slice a2 l2 c2, Iz false, .slice a3 l3 c3] 68
 rw [← hq]
 clear hq
 replace sp := Ba (SPb _ _ _ _ _ _ _ _ _ _ _ sp.out b1)
 replace kr := kr.b b1
 replace bb := Ia bb b1
 clear b1
 obtain ⟨x0, x1, x2, x3, x4, x5⟩ := Cw ks
 go_wp2_with fail
 clear x0 x1 x2 x3 x4 x5
 go_fit (HL.out _ _ _ _ _ _ _ _ _ _ bb sp.out)
 rintro e w4 ⟨rfl, b1⟩
 clear sp ks
 replace kr := kr.b b1
 replace bb := Ia bb b1
 clear b1
 obtain ⟨e0, e1, e2⟩ := Ch kr
 have f0 := Be.o kr 0
 have f1 := Be.o kr 1
 have f2 := Be.o kr 2
 go_wp2
 exact Lj (p := 8) (u := 9) (v := .int .i64 0) (by kernel_rfl) rfl rfl rfl (((kr.set 0 _).set 1 _).set 2 _) ⟨rfl, Bi (Bi (Bi bb (by omega) 0 _) (by omega) 1 _) (by omega) 2 _⟩
theorem Yd (va ya a2 a3 an : Option Addr) (vl vc yl yc l2 c2 l3 c3 ln cn : Nat) (f2 f3 fn : Bool) (parts zn A2 AB : Int) (b off m c : Nat) (N : Nat → Bool) (v : Nat → Value) (Z : Nat → Int) (L Lr : Nat) (rN : Bool) (rS rD : ByteArray) (w : World) (hm : m ≤ 100) (hL : L ≤ 900) (hLr : L + L ≤ Lr)
  (nn : NV w fn (.slice an ln cn) zn L) (n2 : NV w f2 (.slice a2 l2 c2) A2 L) (n3 : NV w f3 (.slice a3 l3 c3) AB L) (hr : Hm w (some ⟨b, off, none⟩) m N v) (hv : Km w N v Z L m)
  (HS : Hid (∀ w1, Calls Tryz.prog 129 #[.int .i64 parts] w1 fun e w' => ∃ f a l c, e = .returned (.agg #[Iz f, .slice a l c]) ∧ NV w' f (.slice a l c) parts 1 ∧ Below w1.heap.size w1 w'))
  (HO : Hid (∀ w1 m0 v0 a' cap N' v', Below w.heap.size w w1 → NV w1 m0 v0 (zn * A2) Lr → Hm w1 a' (2 + m) N' v' → Km w1 N' v' (Ei 2 (Px parts AB) Z) Lr (2 + m) → Calls Tryz.prog 122 #[.agg #[Iz m0, v0], .slice a' (2 + m) cap] w1 (Re w1 ((Bo rN rS rD))))) (hL1 : 1 ≤ L) :
  Calls Tryz.prog 67 #[.agg #[.slice va vl vc, .slice ya yl yc, Iz f2, .slice a2 l2 c2, Iz f3, .slice a3 l3 c3], .agg #[Iz fn, .slice an ln cn], .int .i64 parts, .slice (some ⟨b, off, none⟩) m c] w (Re w ((Bo rN rS rD))) := by
 replace hr := Ba hr
 replace hv := Ba hv
 go_enter Tryz.func67, Tryz.ntmps67
 go_wp2_with fail
 obtain ⟨w0, hq, ks, kn, kr, bb⟩ := K9 w [.slice va vl vc, .slice ya yl yc, Iz f2, .slice a2 l2 c2, Iz f3, .slice a3 l3 c3] [Iz fn, .slice an ln cn] (Bx false eB eB) 68 66 26
 rw [← hq]
 clear hq
 have bd := Cd w0
 have bb0 := Ia bb bd
 replace ks := ks.b bd
 replace kn := kn.b bd
 replace kr := kr.b bd
 replace bb := Ia bb bd
 clear bd
 replace nn := nn.b bb
 replace n2 := n2.b bb
 replace n3 := n3.b bb
 have hr1 := Ba (hr.out.b bb)
 have hv1 := Ba (hv.out.b bb)
 clear bb0
 refine Jc (S := fun w' => w'.cell? ⟨w.heap.size, 4, none⟩ = some (Iz f3) ∧ w'.cell? ⟨w.heap.size, 5, none⟩ = some (.slice a3 l3 c3)) (by kernel_rfl) ⟨ks.cell 4, ks.cell 5⟩ (fun hS => ?_)
 generalize w0.drew = wd at *
 refine WA.start (n := 8) (by kernel_rfl) ?_
 refine WA.tp 0 rfl ?_
 refine WA.tp 2 rfl ?_
 refine WA.tp 3 rfl ?_
 refine WA.tp 5 rfl ?_
 clear hS
 refine WA.cal 1 rfl (fun K hK => ?_)
 simp only [Jq]
 go_simp
 go_fit (HS.out _)
 rintro e w1 ⟨f1, a1, l1, c1, rfl, n1, b1⟩
 replace hr1 := Ba (hr1.out.b b1)
 replace hv1 := Ba (hv1.out.b b1)
 replace ks := ks.b b1
 replace kn := kn.b b1
 replace kr := kr.b b1
 replace nn := nn.b b1
 replace n2 := n2.b b1
 replace n3 := n3.b b1
 replace bb := Ia bb b1
 clear b1
 try go_wp2_with fail
 refine hK.out _ _ ⟨ks.cell 4, ks.cell 5⟩ (fun hS => ?_)
 clear hK K hS
 refine WA.cal 4 rfl (fun K hK => ?_)
 simp only [Jq]
 go_simp
 try go_wp2_with fail
 obtain ⟨w2, hw, kp, b1⟩ := D7 w1 [Iz f1, .slice a1 l1 c1, Iz f3, .slice a3 l3 c3] 66
 rw [← hw]
 clear hw
 have sz := bb.size
 have Xo := b1.size
 have hs2 : w.heap.size ≤ w1.heap.size := by omega
 have t0 := ks.lt
 have t1 := kn.lt
 have t2 := kr.lt
 replace hr1 := Ba (hr1.out.b b1)
 replace hv1 := Ba (hv1.out.b b1)
 replace ks := ks.b b1
 replace kn := kn.b b1
 replace kr := kr.b b1
 replace nn := nn.b b1
 replace n2 := n2.b b1
 replace n3 := n3.b b1
 replace n1 := n1.b b1
 replace bb := Ia bb b1
 clear b1
 refine hK.out _ _ ⟨ks.cell 4, ks.cell 5⟩ (fun hS => ?_)
 clear hK K hS
 refine WA.cal 6 rfl (fun K hK => ?_)
 simp only [Jq]
 rw [if_pos (by rfl)]
 have hni : NI w2 w1.heap.size := Kw kp (by simp [O2])
 refine Rh _ _ rfl _ 2 _ rfl (w1.heap.size) (Bdy kp (Jb _) (by rfl) (by omega)) (Nat.le_of_lt kp.lt) b off m c N v rfl hr1.out (fun q hq => (hv1.out q hq).2) (by omega) (fun g hg => by injection hg with hg; subst hg; exact hni) ?_
 intro u w3 how hgr hn3
 obtain ⟨g, cap, rfl, hg⟩ := Pf how (by omega)
 have hrow : ∀ k, Value.ownBlock (.slice (some ⟨w1.heap.size, 0, none⟩) 2 2) = some k → w1.heap.size ≤ k := fun k e => by injection e with e; exact Nat.le_of_eq e
 have hnr : ∀ k, Value.ownBlock (.slice (some ⟨w1.heap.size, 0, none⟩) 2 2) = some k → NI w2 k := fun k e => by injection e with e; subst e; exact hni
 have b3 : Below w1.heap.size w2 w3 := Below.grown (Jg _ _) hgr (Nat.le_of_lt kp.lt) hrow
 have e4 : Mw 2 (Px f1 f3) (Px (.slice a1 l1 c1) (.slice a3 l3 c3)) = [Iz f1, .slice a1 l1 c1, Iz f3, .slice a3 l3 c3] := by rfl
 rw [← e4, Qt] at how
 have hrd := Qe how
 have hvs : Km w3 (Ei 2 (Px f1 f3) N) (Ei 2 (Px (.slice a1 l1 c1) (.slice a3 l3 c3)) v) (Ei 2 (Px parts AB) Z) Lr (2 + m) := fun q hq => by
  unfold Ei
  by_cases h2 : q < 2
  ·rw [if_pos h2, if_pos h2, if_pos h2]
   match q, h2 with
   | 0, _ => exact ⟨(n1.grown hgr hnr).mono (by omega), _, _, _, rfl⟩
   | 1, _ => exact ⟨(n3.grown hgr hnr).mono (by omega), _, _, _, rfl⟩
  ·rw [if_neg h2, if_neg h2, if_neg h2]
   exact ⟨((hv1.out (q - 2) (by omega)).1.grown hgr hnr).mono (by omega), (hv1.out (q - 2) (by omega)).2⟩
 replace nn := nn.grown hgr hnr
 replace n2 := n2.grown hgr hnr
 have ks3 : Be w3 w.heap.size [.slice va vl vc, .slice ya yl yc, Iz f2, .slice a2 l2 c2, Iz f3, .slice a3 l3 c3] 68 := (b3.block _ (by omega)).trans ks
 have kn3 : Be w3 (w.heap.size + 1) [Iz fn, .slice an ln cn] 66 := (b3.block _ (by omega)).trans kn
 have kr3 : Be w3 (w.heap.size + 1 + 1) (Bx false eB eB) 26 := (b3.block _ (by omega)).trans kr
 have bb3 : Below w.heap.size w w3 := bb.trans (b3.mono (by omega))
 replace hrd := Ba hrd
 replace hvs := Ba hvs
 clear how hgr hnr hrow hni kp ks kn kr bb b3 n1 n3 hr1 hv1 hn3 e4
 refine hK.out _ _ ⟨ks3.cell 4, ks3.cell 5⟩ (fun hS => ?_)
 clear hK K
 refine WA.tp 7 rfl ?_
 refine WA.done (by kernel_rfl) ?_
 clear hS
 obtain ⟨c0, c1'⟩ := B7 kn3
 have d2 := ks3.cell 2
 have d3 := ks3.cell 3
 go_wp2_with fail
 clear c0 c1' d2 d3
 go_fit (B5 _ _ _ _ zn A2 L L _ (by omega) (by omega) nn n2)
 rintro e w4 ⟨f4, v4, rfl, n4, -, b1⟩
 obtain ⟨a4, l4, c4, rfl⟩ := n4.slice
 clear nn n2
 replace hrd := Ba (hrd.out.b b1)
 replace hvs := Ba (hvs.out.b b1)
 replace kr3 := kr3.b b1
 replace bb3 := Ia bb3 b1
 clear b1 ks3 kn3
 go_wp2_with fail
 go_fit (HO.out _ _ _ _ cap _ _ bb3 (n4.mono (by omega)) hrd.out hvs.out)
 rintro e w5 ⟨rfl, b1⟩
 replace kr3 := kr3.b b1
 replace bb3 := Ia bb3 b1
 clear b1 n4 hrd hvs
 obtain ⟨e0, e1, e2⟩ := Ch kr3
 have q0 := Be.o kr3 0
 have q1 := Be.o kr3 1
 have q2 := Be.o kr3 2
 go_wp2
 exact Cu (p := 8) (by kernel_rfl) rfl rfl (((kr3.set 0 _).set 1 _).set 2 _) ⟨rfl, Bi (Bi (Bi bb3 (by omega) 0 _) (by omega) 1 _) (by omega) 2 _⟩
theorem Xi (p A : Int) (Z : Nat → Int) (m : Nat) : Gn (Ei 2 (Px p A) Z) (2 + m) = p.natAbs * (A.natAbs * Gn Z m) := by
 unfold Gn
 rw [List.range_add, List.map_append, List.map_map]
 have e : (List.range m).map ((fun k => (Ei 2 (Px p A) Z k).natAbs) ∘ fun x => 2 + x) = (List.range m).map fun k => (Z k).natAbs := by
  refine List.map_congr_left fun k _ => ?_
  show (Ei 2 (Px p A) Z (2 + k)).natAbs = _
  unfold Ei
  rw [if_neg (by omega), Nat.add_sub_cancel_left]
 rw [e]
 rfl
theorem Sm (va ya a2 a3 an : Option Addr) (vl vc yl yc l2 c2 l3 c3 ln cn : Nat) (f2 f3 fn : Bool) (parts zn A2 AB : Int) (b off m c : Nat) (N : Nat → Bool) (v : Nat → Value) (Z : Nat → Int) (L K : Nat) (w : World) (hT : Fi w) (hm : m ≤ 100) (hL : L ≤ 900) (hK : K ≤ 8000) (hL1 : 1 ≤ L) (hp : 0 < parts) (hp2 : parts ≤ 1000000)
  (nn : NV w fn (.slice an ln cn) zn L) (n2 : NV w f2 (.slice a2 l2 c2) A2 L) (n3 : NV w f3 (.slice a3 l3 c3) AB L) (hr : Hm w (some ⟨b, off, none⟩) m N v) (hv : Km w N v Z L m) (hA : 0 < AB) (hZ : ∀ k, k < m → 0 < Z k)
  (hz : Bd (zn * A2) K) (hB : Bd ((parts.natAbs * (AB.natAbs * Gn Z m) : Nat) : Int) K) {x : Rat} (hx : mkRat (zn * A2) (parts.natAbs * (AB.natAbs * Gn Z m)) = x) :
  Calls Tryz.prog 67 #[.agg #[.slice va vl vc, .slice ya yl yc, Iz f2, .slice a2 l2 c2, Iz f3, .slice a3 l3 c3], .agg #[Iz fn, .slice an ln cn], .int .i64 parts, .slice (some ⟨b, off, none⟩) m c] w (Re w ((Bo (Bs x.num) (Bp x.num) (Bf x.den)))) := by
 have pos : ∀ k, k < 2 + m → 0 < Ei 2 (Px parts AB) Z k := fun k hk => by
  unfold Ei
  by_cases h2 : k < 2
  ·rw [if_pos h2]
   match k, h2 with
   | 0, _ => exact hp
   | 1, _ => exact hA
  ·rw [if_neg h2]
   exact hZ _ (by omega)
 refine Yd va ya a2 a3 an vl vc yl yc l2 c2 l3 c3 ln cn f2 f3 fn parts zn A2 AB b off m c N v Z L (L + L) _ _ _ w hm hL (Jb _) nn n2 n3 hr hv (fun w1 => ?_) (fun w1 m0 v0 a' cap N' v' b1 h0 h1 h2 => ?_) hL1
 ·exact (F9 parts (by omega) hp2 w1).mono (fun e w' h => by obtain ⟨a, l, c, h⟩ := h; exact ⟨_, a, l, c, h⟩)
 ·rw [← Xi] at hB hx
  exact Yj m0 v0 a' (2 + m) cap N' v' (zn * A2) _ (L + L) K w1 (hT.b b1) (by omega) hK h0 h1 h2 pos hz hB hx
theorem Beb {w : World} {g : Nat} {x0 x1 x2 x3 x4 x5 : Value} (h : Be w g [x0, x1, x2, x3, x4, x5] 68) : (loadVar 68 ⟨g, 0, none⟩).run Tryz.prog w = .ok (.agg #[x0, x1, x2, x3, x4, x5]) w :=
 run_loadVar_row w g 68 68 #[x0, x1, x2, x3, x4, x5] (0, 0) _ h Tryz.underlying68 rfl (by kernel_rfl)
theorem Qh {fn : Func} {p u : Tmp} {R : Ending → World → Prop} {a : Act} {w : World} {g : Nat} {x0 x1 x2 x3 x4 x5 v : Value} (h : fn.results = #[.cell p 68, .tmp u]) (hp : a.tmps.getD p undef = .pointer (some ⟨g, 0, none⟩)) (hu : a.tmps.getD u undef = v) (hd : a.defers = [])
  (hc : Be w g [x0, x1, x2, x3, x4, x5] 68) (hR : R (.returned (.tuple #[.agg #[x0, x1, x2, x3, x4, x5], v])) w) : bodyPost Tryz.prog fn R .ret a w := by
 refine ⟨hd, .tuple #[.agg #[x0, x1, x2, x3, x4, x5], v], ?_, hR⟩
 have hp' : a.tmps[p]?.getD undef = .pointer (some ⟨g, 0, none⟩) := by simpa using hp
 have hu' : a.tmps[u]?.getD undef = v := by simpa using hu
 simp only [results, h]
 simp [hp', hu', asAddr, Beb hc]
theorem Tu (n0 n1 n2 n3 n4 n5 p0 p1 p2 p3 p4 p5 : Bool) (s0 d0 s1 d1 s2 d2 s3 d3 s4 d4 s5 d5 q0 r0 q1 r1 q2 r2 q3 r3 q4 r4 q5 r5 : ByteArray) (E : Int) (w : World) (hE : ¬ E = 0)
  (HC : Hid (∀ w1 B, Below w.heap.size w w1 → Be w1 B (Di p0 q0 r0 p1 q1 r1 p2 q2 r2 p3 q3 r3 p4 q4 r4 p5 q5 r5) 30 → Calls Tryz.prog 59 #[(Cp n0 s0 d0 n1 s1 d1 n2 s2 d2 n3 s3 d3 n4 s4 d4 n5 s5 d5), .slice (some ⟨B, 0, none⟩) 3 3] w1 (Re w1 (.int .i64 E)))) :
  Calls Tryz.prog 30 #[(Cp n0 s0 d0 n1 s1 d1 n2 s2 d2 n3 s3 d3 n4 s4 d4 n5 s5 d5), (B4 p0 q0 r0 p1 q1 r1), (B4 p2 q2 r2 p3 q3 r3), (B4 p4 q4 r4 p5 q5 r5)] w (Re w (.tuple #[.agg #[.slice none 0 0, .slice none 0 0, Iz false, .slice none 0 0, Iz false, .slice none 0 0], .int .i64 E])) := by
 go_enter Tryz.func30, Tryz.ntmps30
 go_upto_region 1 with fail
 obtain ⟨w0, hq, kf, ka, kb, kc, kr, bb⟩ := mk5 w (Di n0 s0 d0 n1 s1 d1 n2 s2 d2 n3 s3 d3 n4 s4 d4 n5 s5 d5) (Cn p0 q0 r0 p1 q1 r1) (Cn p2 q2 r2 p3 q3 r3) (Cn p4 q4 r4 p5 q5 r5) [.slice none 0 0, .slice none 0 0, Iz false, .slice none 0 0, Iz false, .slice none 0 0] 28 30 30 30 68
 rw [← hq]
 clear hq
 obtain ⟨x0, x1, x2, x3, x4, x5⟩ := Cw ka
 obtain ⟨y0, y1, y2, y3, y4, y5⟩ := Cw kb
 obtain ⟨z0, z1, z2, z3, z4, z5⟩ := Cw kc
 go_wp2_with (refine Je rfl 28 _ rfl _ rfl 28 _ (0, 0) _ kf Tryz.underlying28 rfl (by kernel_rfl) ?_)
 clear x0 x1 x2 x3 x4 x5 y0 y1 y2 y3 y4 y5 z0 z1 z2 z3 z4 z5
 obtain ⟨w1, hq, kl, b1⟩ := D7 w0 (Di p0 q0 r0 p1 q1 r1 p2 q2 r2 p3 q3 r3 p4 q4 r4 p5 q5 r5) 30
 rw [← hq]
 clear hq
 replace kf := kf.b b1
 replace ka := ka.b b1
 replace kb := kb.b b1
 replace kc := kc.b b1
 replace kr := kr.b b1
 replace bb := Ia bb b1
 clear b1
 go_fit (HC.out _ _ bb kl)
 rintro e w2 ⟨rfl, b1⟩
 clear kl
 replace kf := kf.b b1
 replace ka := ka.b b1
 replace kb := kb.b b1
 replace kc := kc.b b1
 replace kr := kr.b b1
 replace bb := Ia bb b1
 clear b1
 clear kf ka kb kc
 obtain ⟨e0, e1, e2, e3, e4, e5⟩ := Cw kr
 have f0 := Be.o kr 0
 have f1 := Be.o kr 1
 have f2 := Be.o kr 2
 have f3 := Be.o kr 3
 have f4 := Be.o kr 4
 have f5 := Be.o kr 5
 go_wp2
 exact Qh (p := 8) (u := 9) (v := .int .i64 E) (by kernel_rfl) rfl rfl rfl (kr.set6 _ _ _ _ _ _) ⟨rfl, Mu bb (by omega) _ _ _ _ _ _⟩
theorem Rx (n0 n1 n2 n3 n4 n5 p0 p1 p2 p3 p4 p5 : Bool) (s0 d0 s1 d1 s2 d2 s3 d3 s4 d4 s5 d5 q0 r0 q1 r1 q2 r2 q3 r3 q4 r4 q5 r5 : ByteArray) (zN : Bool) (zD : ByteArray) (w : World)
  (HC : Hid (∀ w1 B, Below w.heap.size w w1 → Be w1 B (Di p0 q0 r0 p1 q1 r1 p2 q2 r2 p3 q3 r3 p4 q4 r4 p5 q5 r5) 30 → Calls Tryz.prog 59 #[(Cp n0 s0 d0 n1 s1 d1 n2 s2 d2 n3 s3 d3 n4 s4 d4 n5 s5 d5), .slice (some ⟨B, 0, none⟩) 3 3] w1 (Re w1 (.int .i64 0))))
  (HA : Hid (∀ w1, Below w.heap.size w w1 → Calls Tryz.prog 60 #[(B4 p0 q0 r0 p1 q1 r1), (B4 p2 q2 r2 p3 q3 r3), (B4 p4 q4 r4 p5 q5 r5)] w1 (Re w1 (.tuple #[(Bo zN eB zD), .int .i64 0])))) :
  Calls Tryz.prog 30 #[(Cp n0 s0 d0 n1 s1 d1 n2 s2 d2 n3 s3 d3 n4 s4 d4 n5 s5 d5), (B4 p0 q0 r0 p1 q1 r1), (B4 p2 q2 r2 p3 q3 r3), (B4 p4 q4 r4 p5 q5 r5)] w (Re w (.tuple #[.agg #[.slice none 0 0, .slice none 0 0, Iz false, .slice none 0 0, Iz false, .slice none 0 0], .int .i64 6])) := by
 go_enter Tryz.func30, Tryz.ntmps30
 go_upto_region 1 with fail
 obtain ⟨w0, hq, kf, ka, kb, kc, kr, bb⟩ := mk5 w (Di n0 s0 d0 n1 s1 d1 n2 s2 d2 n3 s3 d3 n4 s4 d4 n5 s5 d5) (Cn p0 q0 r0 p1 q1 r1) (Cn p2 q2 r2 p3 q3 r3) (Cn p4 q4 r4 p5 q5 r5) [.slice none 0 0, .slice none 0 0, Iz false, .slice none 0 0, Iz false, .slice none 0 0] 28 30 30 30 68
 rw [← hq]
 clear hq
 obtain ⟨x0, x1, x2, x3, x4, x5⟩ := Cw ka
 obtain ⟨y0, y1, y2, y3, y4, y5⟩ := Cw kb
 obtain ⟨z0, z1, z2, z3, z4, z5⟩ := Cw kc
 go_wp2_with (refine Je rfl 28 _ rfl _ rfl 28 _ (0, 0) _ kf Tryz.underlying28 rfl (by kernel_rfl) ?_)
 clear x0 x1 x2 x3 x4 x5 y0 y1 y2 y3 y4 y5 z0 z1 z2 z3 z4 z5
 obtain ⟨w1, hq, kl, b1⟩ := D7 w0 (Di p0 q0 r0 p1 q1 r1 p2 q2 r2 p3 q3 r3 p4 q4 r4 p5 q5 r5) 30
 rw [← hq]
 clear hq
 replace kf := kf.b b1
 replace ka := ka.b b1
 replace kb := kb.b b1
 replace kc := kc.b b1
 replace kr := kr.b b1
 replace bb := Ia bb b1
 clear b1
 go_fit (HC.out _ _ bb kl)
 rintro e w2 ⟨rfl, b1⟩
 clear kl
 replace kf := kf.b b1
 replace ka := ka.b b1
 replace kb := kb.b b1
 replace kc := kc.b b1
 replace kr := kr.b b1
 replace bb := Ia bb b1
 clear b1
 clear kf
 obtain ⟨a0, a1, a2, a3, a4, a5⟩ := Cw ka
 obtain ⟨b0, b1, b2, b3, b4, b5⟩ := Cw kb
 obtain ⟨c0, c1, c2, c3, c4, c5⟩ := Cw kc
 go_wp2_with fail
 clear a0 a1 a2 a3 a4 a5 b0 b1 b2 b3 b4 b5 c0 c1 c2 c3 c4 c5
 go_fit (HA.out _ bb)
 rintro e w2 ⟨rfl, b1⟩
 clear ka kb kc
 replace kr := kr.b b1
 replace bb := Ia bb b1
 clear b1
 have b1 := Ct w2 (.cells (Cr zN eB zD) 26)
 replace kr := kr.b b1
 replace bb := Ia bb b1
 obtain ⟨e0, e1, e2, e3, e4, e5⟩ := Cw kr
 have f0 := Be.o kr 0
 have f1 := Be.o kr 1
 have f2 := Be.o kr 2
 have f3 := Be.o kr 3
 have f4 := Be.o kr 4
 have f5 := Be.o kr 5
 obtain ⟨g0, g1, g2⟩ := Ch (Be.new w2 (Bx zN eB zD) 26)
 clear b1
 go_wp2
 exact Qh (p := 8) (u := 9) (v := .int .i64 6) (by kernel_rfl) rfl rfl rfl (kr.set6 _ _ _ _ _ _) ⟨rfl, Mu bb (by omega) _ _ _ _ _ _⟩
end Go.Proofs.YtnplifkgeeicjaaGreatDoor
