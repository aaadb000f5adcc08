/-
  strconv.FormatUint of any number.
  Package whole: writeDigits without powers: nineteen digits.
  Package whole: writeDigits with any powers.
  Package limb: Mul, with the type of what it leaves; package whole: powersUpTo.
  The digits that writeDigits writes, without the noughts ahead, are the number's.
  Package whole: powersUpTo.
  Package whole: powersUpTo of any number of few limbs.
  Package whole: Print.
-/
import Derived.Lib.AppendIntMem
import Derived.Test.YtnplifkgeeicjaaGreatDoorU31
import Derived.Test.YtnplifkgeeicjaaGreatDoorU32
set_option maxRecDepth 100000
set_option maxHeartbeats 4000000
namespace Go.Proofs.YtnplifkgeeicjaaGreatDoor
open Go.RowKit Go.Shelf Go.Sort
theorem fmt_big (u : Nat) (hu : 100 ≤ u) (hu64 : u < 18446744073709551616) (w : World) (htab : Lib.TabIs Tryz.prog w "internal/strconv.uint64pow10" .u64 Lib.pow10Tab) :
  Calls Tryz.prog 272 #[.int .u64 (u : Nat), .int .i64 10] w (Re w (.string ⟨(Lib.decDigits u).toArray⟩)) := by
 have h1 : ¬ (u : Int) < 100 := by omega
 have hu1 : 1 ≤ u := by omega
 have hnd20 : Lib.nDigits u ≤ 20 := by have := Lib.numDigits_eq u hu1 hu64; split at this <;> omega
 have hal : Tryz.prog.arrayLen 288 = 24 := by simp [Program.arrayLen, Tryz.underlying288]
 have hsl1 : ∀ W, (Instr.sliceAt 288 (.pointer (some ⟨w.heap.size, 0, none⟩)) none (some (.int .i64 (Lib.nDigits u : Int))) none).run Tryz.prog W = .ok (.slice (some ⟨w.heap.size, 0, none⟩) (Lib.nDigits u) 24) W := fun W => by
  rw [run_sliceAt_array_h W 288 ⟨w.heap.size, 0, none⟩ (by simp [Program.arrayLen, Program.elem, Tryz.underlying288]) .i64 (Lib.nDigits u : Int) (by omega) (by rw [hal]; omega)]
  go_simp
 have hH0 := Lib.holds_zero0 w 288 (Lib.nDigits u) (by omega)
 have hfmt := internal_strconv_formatBase10 w.heap.size 0 24 u (Array.replicate (Lib.nDigits u) 0) (w.alloc (.cells Lib.zeros24 288)) hH0 (by rw [Array.size_replicate]; exact Lib.lt_pow_nDigits u) hu64 (by rw [Array.size_replicate]; omega)
 rw [Array.size_replicate] at hfmt
 have HH0 := Lib.hid hH0
 have HF := shut hfmt
 clear hH0 hal hfmt
 have HN := shut (internal_strconv_numDigits u hu1 hu64 _ (Lib.tabIs_alloc htab (.cells Lib.zeros24 288)))
 go_enter Tryz.func272, Tryz.ntmps272
 go_wp2_with fail
 refine (show Calls _ _ _ _ _ from HN.out).mono ?_
 rintro e w' ⟨rfl, rfl⟩
 go_wp2_with fail
 refine (show Calls _ _ _ _ _ from HF.out).mono ?_
 rintro e w' ⟨rfl, k, v', dk, rfl, hF⟩
 have hcv : (convert 55 9 (.slice (some ⟨w.heap.size, 0, none⟩) (Lib.nDigits u) 24)).run Tryz.prog ((putRow (fun (b : UInt8) => Value.int .u8 (b.toNat : Int)) (w.alloc (.cells Lib.zeros24 288)) w.heap.size 0 dk).drewN k) = .ok (.string ⟨(Lib.decDigits u).toArray⟩) ((putRow (fun (b : UInt8) => Value.int .u8 (b.toNat : Int)) (w.alloc (.cells Lib.zeros24 288)) w.heap.size 0 dk).drewN k) := by
  have h := run_convert_bytes_back (P := Tryz.prog) ((putRow (fun (b : UInt8) => Value.int .u8 (b.toNat : Int)) (w.alloc (.cells Lib.zeros24 288)) w.heap.size 0 dk).drewN k) 55 9 5 ⟨w.heap.size, 0, none⟩ 24 (Lib.decDigits u) Tryz.underlying55 Tryz.underlying5 Tryz.underlying9 (fun j hj => by
   rw [Lib.row_is_numeral hF j hj, Lib.add_plain, World.cell?_drewN]
   exact cell?_putRow (fun (b : UInt8) => Value.int .u8 (b.toNat : Int)) _ w.heap.size 0 _ dk HH0.out (by rw [hF.size, Array.size_replicate]) j (by rw [hF.size]; rw [Lib.decDigits_length] at hj; exact hj))
  rw [Lib.decDigits_length] at h
  exact h
 obtain ⟨os, eo⟩ := Lib.fin_at w (.cells Lib.zeros24 288) dk k 0
 have HB : Hid (Below w.heap.size w ((putRow (fun (b : UInt8) => Value.int .u8 (b.toNat : Int)) (w.alloc (.cells Lib.zeros24 288)) w.heap.size 0 dk).drewN k)) := by
  show Below _ _ _
  rw [eo]
  exact Lib.below_grow _ _ (Nat.le_refl _) _ _
 clear eo
 go_wp2
 go_ret
 exact ⟨rfl, HB.out⟩
theorem fmt_any (u : Nat) (hu64 : u < 18446744073709551616) (w : World) (htab : Lib.TabIs Tryz.prog w "internal/strconv.uint64pow10" .u64 Lib.pow10Tab) :
  Calls Tryz.prog 255 #[.int .u64 (u : Nat), .int .i64 10] w (Re w (.string ⟨(Lib.decDigits u).toArray⟩)) := by
 by_cases h : u < 100
 ·exact (fmt_small u h w).mono fun e w' ⟨he, hw⟩ => ⟨he, by rw [hw]; exact Below.refl _ _⟩
 ·have H := shut (fmt_big u (by omega) hu64 w htab)
  go_enter Tryz.func255, Tryz.ntmps255
  go_wp2_with fail
  refine (H.out).mono ?_
  rintro e w1 ⟨rfl, b1⟩
  go_wp2
  go_ret
  exact ⟨rfl, b1⟩
end Go.Proofs.YtnplifkgeeicjaaGreatDoor
namespace Go.Proofs.YtnplifkgeeicjaaGreatDoor
open Go.RowKit Go.Shelf
def z19 (u : Nat) : List UInt8 := List.replicate (19 - (Lib.decDigits u).length) 48 ++ Lib.decDigits u
theorem nDigits_le : ∀ (k u : Nat), u < 10 ^ (k + 1) → Lib.nDigits u ≤ k + 1
 | 0, u, h => by rw [Lib.nDigits_small (by simpa using h)]; exact Nat.le_refl _
 | k + 1, u, h => by
  by_cases hu : u < 10
  ·rw [Lib.nDigits_small hu]; omega
  ·rw [Lib.nDigits_big hu]
   have := nDigits_le k (u / 10) (by rw [Nat.pow_succ] at h; exact Nat.div_lt_of_lt_mul (by rw [Nat.mul_comm]; exact h))
   omega
theorem rep_c : ∀ c : Nat, Lib.repeatL (ByteArray.mk #[48]).data.toList c = List.replicate c 48
 | 0 => rfl
 | c + 1 => by rw [Lib.repeatL, rep_c c, List.replicate_succ]; rfl
theorem z19_cells (u : Nat) : Lib.byteCells (z19 u) = Lib.strCells ⟨(List.replicate (19 - (Lib.decDigits u).length) (48 : UInt8)).toArray⟩ ++ Lib.strCells ⟨(Lib.decDigits u).toArray⟩ := by
 rw [strCells_mk, strCells_mk]
 unfold z19 Lib.byteCells
 rw [List.map_append]
theorem z19_len {u : Nat} (h : u < 10 ^ 19) : (z19 u).length = 19 := by
 unfold z19
 have := nDigits_le 18 u h
 rw [List.length_append, List.length_replicate, Lib.decDigits_length]
 omega
def TabP (w : World) : Prop := Lib.TabIs Tryz.prog w "internal/strconv.uint64pow10" .u64 Lib.pow10Tab
theorem wd0_any (u : Nat) (hu : u < 10 ^ 19) (B b : Nat) (bs : List Value) (v : Value) (a : Option Addr) (cap : Nat) (w : World) (hT : TabP w) (hv : Rd w v (M.digs B64 u)) (h : Lib.IsBuilderF 158 5 B b bs w) (hlen : bs.length ≤ 1000000) (hBw : B ≤ w.heap.size) :
  Calls Tryz.prog 222 #[.pointer (some ⟨b, 0, none⟩), v, .slice a 0 cap] w fun e w' => e = .returned (.tuple #[]) ∧ (Lib.BuilderAtF 158 5 B b (.pointer (some ⟨b, 0, none⟩)) (bs ++ Lib.byteCells (z19 u)) w' ∧ Below B w w' ∧ Lib.OthersKept 5 (some b) w w') := by
 have hu64 : u < 18446744073709551616 := Nat.lt_of_lt_of_le hu (by decide)
 have HF := shut (fmt_any u hu64 w hT)
 have hn1 := Lib.nDigits_pos u
 have hn2 := nDigits_le 18 u hu
 rw [← Lib.decDigits_length] at hn1 hn2
 obtain ⟨c, hc⟩ : ∃ c, c = 19 - (Lib.decDigits u).length := ⟨_, rfl⟩
 have HRp := shut (fun w => strings_Repeat ⟨#[48]⟩ c w (by omega) (show 1 * c ≤ _ by omega))
 rw [rep_c] at HRp
 have HC := shut (z19_cells u)
 rw [← hc] at HC
 have HW := shut (fun (bs : List Value) (s : ByteArray) (w : World) h hl hB => writeString_k B b bs s w h hl hB)
 obtain ⟨S, hS⟩ : ∃ S : ByteArray, S = ⟨(Lib.decDigits u).toArray⟩ := ⟨_, rfl⟩
 have hSs : S.size = (Lib.decDigits u).length := by rw [hS]; simp [ByteArray.size]
 rw [← hS] at HF HC
 have hcs : (19 : Int) - (S.size : Int) = (c : Nat) := by omega
 have hSl : S.size ≤ 19 := by omega
 have hcl : c ≤ 19 := by omega
 clear hS hSs hn1 hn2 hc
 obtain ⟨xs, hxs, hr⟩ : ∃ xs, (xs = [] ∧ u = 0 ∨ xs = [u]) ∧ Rd w v xs := by
  by_cases h0 : u = 0
  ·subst h0; exact ⟨[], Or.inl ⟨rfl, rfl⟩, hv⟩
  ·rw [digs_one (by omega) (by unfold B64; omega)] at hv; exact ⟨[u], Or.inr rfl, hv⟩
 obtain ⟨av, cv, rfl, -, hcell⟩ := hr
 clear hv hu hT
 go_enter Tryz.func222, Tryz.ntmps222
 go_wp2
 go_loopw [6, 19] (fun val i wr => wr = w ∧ ∃ k z : Nat, k ≤ xs.length ∧ i = .int .i64 (k : Nat) ∧ val = .int .u64 (z : Nat) ∧ (k = xs.length → z = u)) (fun _ i _ => xs.length - (intOf i).toNat)
 case atStart => exact ⟨rfl, 0, 0, Nat.zero_le _, rfl, rfl, fun h => by rcases hxs with ⟨rfl, h1⟩ | rfl; · exact h1.symm
                                                                        ·simp at h⟩
 case round =>
  obtain ⟨rfl, k, z, hk, rfl, rfl, hz⟩ := hrel
  by_cases hlt : k < xs.length
  ·rcases hxs with ⟨rfl, -⟩ | rfl
   ·simp at hlt
   ·have hk0 : k = 0 := by simp at hlt; omega
    subst hk0
    obtain ⟨b', o', rfl, c0⟩ := hcell 0 (by simp)
    have c0' : wr.cell? ⟨b', o', none⟩ = some (.int .u64 (u : Nat)) := c0
    clear c0 hcell hz
    go_wp2
    exact ⟨⟨trivial, 1, u, by simp, by go_num, rfl, fun _ => rfl⟩, by simp [intOf]⟩
  ·have hkk : k = xs.length := by omega
   have hzz := hz hkk
   subst hzz
   clear hz hxs hcell hlt hk
   go_wp2_with fail
   refine (HF.out).mono ?_
   rintro e w1 ⟨rfl, hb1⟩
   go_wp2_with fail
   refine (HRp.out w1).mono ?_
   rintro e w2 ⟨rfl, hb2'⟩
   have hb2 := Below.after hb1 hb2'
   have h2 := IsBuilderF_below h hb2
   have hB2 : B ≤ w2.heap.size := Nat.le_trans hBw hb2.size
   clear hb1 hb2'
   have hRs : (ByteArray.mk (List.replicate c (48 : UInt8)).toArray).size = c := by simp [ByteArray.size]
   obtain ⟨R, hR⟩ : ∃ R : ByteArray, R = ⟨(List.replicate c (48 : UInt8)).toArray⟩ := ⟨_, rfl⟩
   rw [← hR] at HC hRs ⊢
   clear hR
   go_wp2_with fail
   refine (HW.out bs R w2 h2 (by omega) hB2).mono ?_
   rintro e w3 ⟨rfl, h3, hb3, k3⟩
   have hB3 : B ≤ w3.heap.size := Nat.le_trans hB2 hb3.size
   go_wp2_with fail
   refine (HW.out _ S w3 (Or.inr h3) (by rw [List.length_append, Lib.strCells, List.length_map]; simp; omega) hB3).mono ?_
   rintro e w4 ⟨rfl, h4, hb4, k4⟩
   have HE := shut h4
   have HK := shut (((others_of_below hb2 5 (some b)).trans k3).trans k4)
   clear k3 k4
   clear h4 h3 h2
   go_wp2
   refine bodyPost_ret (results_none rfl _ _ _) rfl ?_
   refine ⟨rfl, ?_, ((hb2.mono hBw).trans hb3).trans hb4, HK.out⟩
   rw [HC.out, ← List.append_assoc]
   exact HE.out
end Go.Proofs.YtnplifkgeeicjaaGreatDoor
namespace Go.Proofs.YtnplifkgeeicjaaGreatDoor
open Go.RowKit Go.Shelf
def pw (i : Nat) : Nat := 10 ^ (19 * 2 ^ i)
theorem pw_pos (i : Nat) : 0 < pw i := Nat.pow_pos (by omega)
theorem pw_succ (i : Nat) : pw (i + 1) = pw i * pw i := by unfold pw; rw [← Nat.pow_add, Nat.pow_succ]; congr 1; omega
def zP : Nat → Nat → List UInt8
 | 0, V => z19 V
 | p + 1, V => zP p (V / pw p) ++ zP p (V % pw p)
theorem zP_len : ∀ (p V : Nat), V < pw p → (zP p V).length = 19 * 2 ^ p
 | 0, V, h => by rw [zP, z19_len (by simpa [pw] using h)]
 | p + 1, V, h => by
  rw [pw_succ] at h
  rw [zP, List.length_append, zP_len p _ (Nat.div_lt_of_lt_mul h), zP_len p _ (Nat.mod_lt _ (pw_pos p)), Nat.pow_succ]
  omega
def Pws (w : World) (g p : Nat) : Prop := (∃ cs fr, w.heap[g]? = some (.cells cs 64 fr)) ∧ ∀ i, i < p → ∃ v, w.cell? ⟨g, i, none⟩ = some v ∧ Rd w v (M.digs B64 (pw i)) ∧ Ty w v
theorem Pws.less {w : World} {g p q : Nat} (h : Pws w g p) (hq : q ≤ p) : Pws w g q := ⟨h.1, fun i hi => h.2 i (by omega)⟩
theorem Ty.below' {w w' : World} {v : Value} (h : Ty w v) (hb : Below w.heap.size w w') : Ty w' v := fun b off n c e => by
 obtain ⟨cs, fr, hh⟩ := h b off n c e
 exact ⟨cs, fr, kept_of_below hb hh⟩
theorem Pws.below {w w' : World} {g p : Nat} (h : Pws w g p) (hb : Below w.heap.size w w') : Pws w' g p := by
 obtain ⟨⟨cs, fr, hg⟩, h⟩ := h
 refine ⟨⟨cs, fr, kept_of_below hb hg⟩, fun i hi => ?_⟩
 obtain ⟨v, c, r, t⟩ := h i hi
 exact ⟨v, by rw [hb.cell (World.block_lt_of_cell? w _ c)]; exact c, r.below hb, t.below' hb⟩
theorem Pws.others {w w' : World} {g p b : Nat} (h : Pws w g p) (hk : Lib.OthersKept 5 (some b) w w') (hb : ∀ cs fr, w.heap[b]? ≠ some (.cells cs 170 fr)) (hb' : ∀ cs fr, w.heap[b]? ≠ some (.cells cs 64 fr)) : Pws w' g p := by
 obtain ⟨⟨cs, fr, hg⟩, h⟩ := h
 have hgb : some g ≠ some b := fun e => by
  simp only [Option.some.injEq] at e
  subst e
  exact hb' _ _ hg
 have hg' := hk g _ hg hgb (fun c fz h => by simp at h)
 refine ⟨⟨cs, fr, hg'⟩, fun i hi => ?_⟩
 obtain ⟨v, c, r, t⟩ := h i hi
 refine ⟨v, ?_, r.others t hk hb, t.others hk hb⟩
 rw [World.cell?_of_block (w := w) (a := ⟨g, i, none⟩) (by rw [hg, hg'])]
 exact c
theorem TabP.below {B : Nat} {w w' : World} (h : TabP w) (hb : Below B w w') (h3 : 12 < B) : TabP w' := by
 unfold TabP Lib.TabIs World.var? at *
 rw [show Tryz.prog.globalNamed "internal/strconv.uint64pow10" = some 12 by kernel_rfl] at *
 simp only [Option.bind_some] at h ⊢
 rw [hb.block 12 h3]
 exact h
theorem builder_not' {T e : TypeId} {B b : Nat} {bs : List Value} {w : World} (hT : T ≠ 64) (h : Lib.IsBuilderF T e B b bs w) : ∀ cs fr, w.heap[b]? ≠ some (.cells cs 64 fr) := by
 intro cs fr hh
 rcases h with ⟨-, v, hb, -⟩ | ⟨-, v, hb, -⟩ <;>
 ·rw [hb] at hh
  simp at hh
  exact hT hh.2.1
def Wd (p : Nat) : Prop := ∀ (V : Nat) (_ : V < pw p) (B b g cap : Nat) (bs : List Value) (v : Value) (w : World) (_ : p ≤ cap) (_ : TabP w) (_ : 12 < B) (_ : Rd w v (M.digs B64 V)) (_ : Pws w g p) (_ : Lib.IsBuilderF 158 5 B b bs w) (_ : bs.length + 19 * 2 ^ p ≤ 1000000) (_ : B ≤ w.heap.size),
  Calls Tryz.prog 222 #[.pointer (some ⟨b, 0, none⟩), v, .slice (some ⟨g, 0, none⟩) p cap] w fun e w' => e = .returned (.tuple #[]) ∧ (Lib.BuilderAtF 158 5 B b (.pointer (some ⟨b, 0, none⟩)) (bs ++ Lib.byteCells (zP p V)) w' ∧ Below B w w' ∧ Lib.OthersKept 5 (some b) w w')
theorem wd_zero : Wd 0 := fun V hV B b g cap bs v w _ hT h3 hv hp h hl hB =>
 wd0_any V (by simpa [pw] using hV) B b bs v _ cap w hT hv h (by omega) hB
theorem dlen10 {n k : Nat} (h : n < 10 ^ k) : (M.digs B64 n).length ≤ k := M.digs_len_of_lt B64_two (Nat.lt_of_lt_of_le h (Nat.pow_le_pow_left (by decide) k))
theorem div_pw {V p : Nat} (hV : V < pw (p + 1)) (hp : p ≤ 5) (v0 v1 : Value) (w : World) (r0 : Rd w v0 (M.digs B64 V)) (r1 : Rd w v1 (M.digs B64 (pw p))) :
  Calls Tryz.prog 173 #[v0, v1] w fun e w' => ∃ q r, e = .returned (.tuple #[q, r, .int .i64 0]) ∧ Rd w' q (M.digs B64 (V / pw p)) ∧ Rd w' r (M.digs B64 (V % pw p)) ∧ Ty w' q ∧ Ty w' r ∧ Below w.heap.size w w' := by
 have hk : ∀ n, n < pw (p + 1) → (M.digs B64 n).length ≤ 4000 := fun n h => by
  have h2 : 2 ^ (p + 1) ≤ 2 ^ 6 := Nat.pow_le_pow_right (by omega) (by omega)
  exact Nat.le_trans (dlen10 h) (by omega)
 have hpp : pw p < pw (p + 1) := by unfold pw; exact Nat.pow_lt_pow_right (by omega) (by rw [Nat.pow_succ]; have := Nat.pow_pos (n := p) (show 0 < 2 by omega); omega)
 refine (divmod_ty v0 v1 _ _ w r0 r1 (M.Low.digs B64_two _) (M.Low.digs B64_two _) (hk _ hV) (hk _ hpp)).mono ?_
 rw [M.val_digs B64_two, M.val_digs B64_two]
 rintro e w' ⟨-, h, hb⟩
 obtain ⟨q, r, rfl, hq, hr, tq, tr⟩ := h (pw_pos p)
 exact ⟨q, r, rfl, hq, hr, tq, tr, hb⟩
theorem wd_succ (p : Nat) (hp5 : p ≤ 5) (ih : Wd p) : Wd (p + 1) := by
 intro V hV B b g cap bs v w hcap hT h3 hv hP h hl hB
 obtain ⟨pv, hc, hpv, -⟩ := hP.2 p (by omega)
 have HD := shut (div_pw hV hp5 v pv w hv hpv)
 have hq : V / pw p < pw p := Nat.div_lt_of_lt_mul (by rw [← pw_succ]; exact hV)
 have hr : V % pw p < pw p := Nat.mod_lt _ (pw_pos p)
 have hz := zP_len p _ hq
 have h2 : 2 ^ (p + 1) = 2 * 2 ^ p := by rw [Nat.pow_succ, Nat.mul_comm]
 have HL : Hid (bs.length + 19 * 2 ^ p ≤ 1000000 ∧ (bs ++ Lib.byteCells (zP p (V / pw p))).length + 19 * 2 ^ p ≤ 1000000) := by
  show _ ∧ _
  rw [List.length_append, Lib.byteCells, List.length_map, hz]
  omega
 have HZ : Hid (zP (p + 1) V = zP p (V / pw p) ++ zP p (V % pw p)) := rfl
 have H0 := shut (ih (V / pw p) hq B b g)
 have H1 := shut (ih (V % pw p) hr B b g)
 have HP := shut (hP.less (q := p) (by omega))
 have HT := shut hT
 clear hz h2 hl hq hr ih hP hT
 obtain ⟨av, cv, rfl, -, -⟩ := id hv
 obtain ⟨ap, cp, rfl, -, -⟩ := id hpv
 clear hv hpv
 generalize V / pw p = Q at *
 generalize V % pw p = R at *
 generalize hpp : pw p = PP at *
 generalize (M.digs B64 V).length = LV at *
 generalize (M.digs B64 PP).length = LP at *
 have c1 : ¬ ((p + 1 : Nat) : Int) = 0 := by omega
 go_enter Tryz.func222, Tryz.ntmps222
 go_wp2_with fail
 refine (HD.out).mono ?_
 rintro e w1 ⟨q, r, rfl, rq, rr, tq, tr, hb1⟩
 obtain ⟨aq, cq, rfl, -, -⟩ := id rq
 obtain ⟨ar, cr, rfl, -, -⟩ := id rr
 have i1 := IsBuilderF_below h hb1
 have hB1 : B ≤ w1.heap.size := Nat.le_trans hB hb1.size
 have P1 := shut (HP.out.below hb1)
 have T1 := shut (HT.out.below (hb1.mono hB) h3)
 clear HD h HP HT hc
 go_wp2_with fail
 refine (H0.out _ bs _ w1 (Nat.le_refl _) T1.out h3 rq P1.out i1 HL.out.1 hB1).mono ?_
 rintro e w2 ⟨rfl, i2, hb2, k2⟩
 have hB2 : B ≤ w2.heap.size := Nat.le_trans hB1 hb2.size
 have rr2 := rr.others tr k2 (builder_not (by decide) i1)
 have P2 := shut (P1.out.others k2 (builder_not (by decide) i1) (builder_not' (by decide) i1))
 have T2 := shut (T1.out.below hb2 h3)
 clear rr tr rq tq P1 T1 H0
 go_wp2_with fail
 refine (H1.out _ _ _ w2 (Nat.le_refl _) T2.out h3 rr2 P2.out (Or.inr i2) HL.out.2 hB2).mono ?_
 rintro e w3 ⟨rfl, i3, hb3, k3⟩
 have HI := shut i3
 have HB := shut (((hb1.mono hB).trans hb2).trans hb3)
 have HK := shut (((others_of_below hb1 5 (some b)).trans k2).trans k3)
 clear i2 i3 hb1 hb2 hb3 k2 k3 i1
 go_wp2
 refine bodyPost_end (results_none rfl _ _ _) rfl ?_
 refine ⟨rfl, ?_, HB.out, HK.out⟩
 rw [HZ.out, Lib.byteCells, List.map_append, ← List.append_assoc]
 exact HI.out
theorem wd_any : ∀ p, p ≤ 6 → Wd p
 | 0, _ => wd_zero
 | p + 1, h => wd_succ p (by omega) (wd_any p (by omega))
end Go.Proofs.YtnplifkgeeicjaaGreatDoor
namespace Go.Proofs.YtnplifkgeeicjaaGreatDoor
open Go.RowKit Go.Shelf
theorem mul_ty (va vb : Value) (xs ys : List Nat) (w : World) (ha : Rd w va xs) (hb : Rd w vb ys) (la : M.Low B64 xs) (lb : M.Low B64 ys) (hx : xs.length ≤ 4000) (hy : ys.length ≤ 4000) :
  Calls Tryz.prog 132 #[va, vb] w fun e w' => ∃ v, e = .returned (.tuple #[v, .int .i64 0]) ∧ Rd w' v (M.digs B64 (M.val B64 xs * M.val B64 ys)) ∧ Ty w' v ∧ Below w.heap.size w w' := by
 have ha0 := ha
 have hb0 := hb
 obtain ⟨a, ca, rfl, hca, -⟩ := ha
 obtain ⟨b, cb, rfl, hcb, -⟩ := hb
 have l1 := M.digs_length_le B64_two la
 have l2 := M.digs_length_le B64_two lb
 go_enter Tryz.func132, Tryz.ntmps132
 go_wp2_with fail
 refine (tooLong2 a b xs.length ys.length ca cb _ 0 2 _ (by simp [go_sem]) (by simp [go_sem]) hx hy).mono ?_
 rintro e w1 ⟨rfl, rfl⟩
 have hb1 : Below w.heap.size w (w.alloc (.cells #[.slice a xs.length ca, .slice b ys.length cb] 64)) := by go_grown
 have ra := ha0.below hb1
 have rb := hb0.below hb1
 go_wp2_with fail
 refine (trimmed_any _ _ xs ra la (by omega)).mono ?_
 rintro e w1 ⟨v1, rfl, r1, rfl⟩
 go_wp2_with fail
 refine (trimmed_any _ _ ys rb lb (by omega)).mono ?_
 rintro e w1 ⟨v2, rfl, r2, rfl⟩
 have h43 := prodSpec 8000 (by omega) v1 v2 _ _ _ r1 r2 (M.Low.digs B64_two _) (M.Low.digs B64_two _) (by omega)
 rw [M.val_digs B64_two, M.val_digs B64_two] at h43
 have H43 := shut h43
 generalize w.alloc (.cells #[.slice a xs.length ca, .slice b ys.length cb] 64) = W at *
 clear h43
 go_wp2_with fail
 refine H43.out.mono ?_
 rintro e w2 ⟨g, zs, rfl, k2, n2, lz, v2', s2, f2⟩
 have rz := k2.rd0 _ (Nat.le_refl _)
 have V2 := shut v2'
 have N2 := shut n2
 clear v2' n2
 go_wp2_with fail
 have tz : Ty w2 (.slice (some ⟨g, 0, none⟩) zs.length zs.length) := fun b off n c e => by
  simp only [Value.slice.injEq, Option.some.injEq, Addr.mk.injEq] at e
  obtain ⟨⟨rfl, -, -⟩, -, -⟩ := e
  exact ⟨_, _, k2⟩
 refine (trimmed_ty _ _ zs rz lz (by rw [N2.out]; omega)).mono ?_
 rintro e w3 ⟨v3, rfl, r3, t3, rfl⟩
 go_wp2
 go_ret2
 exact ⟨_, rfl, by rw [← V2.out]; exact r3, t3 tz, Below.after hb1 f2⟩
end Go.Proofs.YtnplifkgeeicjaaGreatDoor
namespace Go.Proofs.YtnplifkgeeicjaaGreatDoor
open Go.RowKit Go.Shelf
def dtB (V : Nat) : List UInt8 := (dt V).map UInt8.ofNat
def pad : Nat → Nat → List UInt8
 | 0, _ => []
 | k + 1, V => pad k (V / 10) ++ [UInt8.ofNat (48 + V % 10)]
theorem pad_zero : ∀ k, pad k 0 = List.replicate k 48
 | 0 => rfl
 | k + 1 => by rw [pad, Nat.zero_div, pad_zero k, List.replicate_succ']; rfl
theorem dtB_zero : dtB 0 = [] := rfl
theorem dtB_pos {V : Nat} (h : 0 < V) : dtB V = dtB (V / 10) ++ [UInt8.ofNat (48 + V % 10)] := by
 unfold dtB
 rw [dt_pos h, List.map_append]
 rfl
theorem pad_eq : ∀ (k V : Nat), V < 10 ^ k → ∃ m, pad k V = List.replicate m 48 ++ dtB V
 | 0, V, h => by
  have : V = 0 := by simpa using h
  subst this
  exact ⟨0, rfl⟩
 | k + 1, V, h => by
  by_cases h0 : V = 0
  ·subst h0
   exact ⟨k + 1, by rw [pad_zero, dtB_zero, List.append_nil]⟩
  ·obtain ⟨m, e⟩ := pad_eq k (V / 10) (by rw [Nat.pow_succ] at h; exact Nat.div_lt_of_lt_mul (by rw [Nat.mul_comm]; exact h))
   exact ⟨m, by rw [pad, e, dtB_pos (V := V) (by omega), List.append_assoc]⟩
theorem pad_len : ∀ k V, (pad k V).length = k
 | 0, _ => rfl
 | k + 1, V => by rw [pad, List.length_append, pad_len k]; rfl
theorem pad_add (j : Nat) : ∀ (k V : Nat), pad (j + k) V = pad j (V / 10 ^ k) ++ pad k (V % 10 ^ k)
 | 0, V => by rw [Nat.pow_zero, Nat.div_one, pad, List.append_nil]; rfl
 | k + 1, V => by
  rw [← Nat.add_assoc, pad, pad_add j k (V / 10), pad, List.append_assoc]
  have e1 : V / 10 / 10 ^ k = V / 10 ^ (k + 1) := by rw [Nat.div_div_eq_div_mul, Nat.pow_succ, Nat.mul_comm]
  have e2 : V % 10 ^ (k + 1) / 10 = V / 10 % 10 ^ k := by rw [Nat.pow_succ, Nat.mul_comm, Nat.mod_mul_right_div_self]
  have e3 : V % 10 ^ (k + 1) % 10 = V % 10 := by rw [Nat.pow_succ]; exact Nat.mod_mul_left_mod ..
  rw [e1, e2, e3]
theorem dec_eq : ∀ (n V : Nat), V < n → 0 < V → Lib.decDigits V = dtB V
 | 0, V, h, _ => absurd h (Nat.not_lt_zero _)
 | n + 1, V, h, h0 => by
  rw [Lib.decDigits]
  by_cases h1 : V < 10
  ·rw [dif_pos h1, dtB_pos h0, Nat.div_eq_of_lt h1, Nat.mod_eq_of_lt h1, dtB_zero]; rfl
  ·rw [dif_neg h1, dec_eq n (V / 10) (by omega) (by omega), dtB_pos h0]
theorem z19_pad {V : Nat} (h : V < 10 ^ 19) : z19 V = pad 19 V := by
 by_cases h0 : V = 0
 ·subst h0
  rw [pad_zero, z19, Lib.decDigits, dif_pos (by omega)]
  rfl
 ·obtain ⟨m, e⟩ := pad_eq 19 V h
  have l1 := pad_len 19 V
  have l2 := z19_len h
  rw [e] at l1
  rw [e]
  unfold z19 at l2 ⊢
  rw [dec_eq (V + 1) V (by omega) (by omega)] at l2 ⊢
  rw [List.length_append, List.length_replicate] at l1 l2
  rw [show 19 - (dtB V).length = m by omega]
theorem zP_pad : ∀ (p V : Nat), V < pw p → zP p V = pad (19 * 2 ^ p) V
 | 0, V, h => by rw [zP, z19_pad (by simpa [pw] using h)]
 | p + 1, V, h => by
  rw [pw_succ] at h
  rw [zP, zP_pad p _ (Nat.div_lt_of_lt_mul h), zP_pad p _ (Nat.mod_lt _ (pw_pos p)), show 19 * 2 ^ (p + 1) = 19 * 2 ^ p + 19 * 2 ^ p by rw [Nat.pow_succ]; omega, pad_add]
  rfl
theorem dtB_head : ∀ (n V : Nat), V < n → 0 < V → ∃ c l, dtB V = c :: l ∧ c ≠ 48
 | 0, V, h, _ => absurd h (Nat.not_lt_zero _)
 | n + 1, V, h, h0 => by
  by_cases h1 : V < 10
  ·refine ⟨UInt8.ofNat (48 + V), [], ?_, ?_⟩
   ·rw [dtB_pos h0, Nat.div_eq_of_lt h1, Nat.mod_eq_of_lt h1, dtB_zero]; rfl
   ·intro e
    have := congrArg UInt8.toNat e
    rw [UInt8.toNat_ofNat_of_lt' (by show 48 + V < 256; omega)] at this
    have : 48 + V = 48 := this
    omega
  ·obtain ⟨c, l, e, hc⟩ := dtB_head n (V / 10) (by omega) (by omega)
   exact ⟨c, l ++ [UInt8.ofNat (48 + V % 10)], by rw [dtB_pos h0, e]; rfl, hc⟩
theorem trim_pad {p V : Nat} (h : V < pw p) : Lib.trimLeftB (zP p V) 48 = dtB V := by
 obtain ⟨m, e⟩ := pad_eq (19 * 2 ^ p) V h
 rw [zP_pad p V h, e]
 clear e
 induction m with
 | zero =>
  rw [List.replicate_zero, List.nil_append]
  by_cases h0 : V = 0
  ·subst h0; rfl
  ·obtain ⟨c, l, e, hc⟩ := dtB_head (V + 1) V (by omega) (by omega)
   rw [e]
   simp [Lib.trimLeftB, hc]
 | succ m ih =>
  rw [List.replicate_succ, List.cons_append]
  simpa [Lib.trimLeftB] using ih
end Go.Proofs.YtnplifkgeeicjaaGreatDoor
namespace Go.Proofs.YtnplifkgeeicjaaGreatDoor
open Go.RowKit Go.Shelf
theorem wpList_appG {w : World} {ops : Array Oper} {rest : List Oper} {o : Oper} {a : Act} {Q : Exit → Act → World → Prop}
  (hg : o.guard = none) (s x : Operand) (hop : o.op = Op.call { callee := Callee.builtin Builtin.append, args := #[s, x], argTypes := #[281, 281] })
  (sv : Value) (n : Nat) (vs : List Value) (hs : a.eval s = sv) (B : Nat) (hown : w.ownsRow B 64 1 sv n vs) (hB : B ≤ w.heap.size) (b : Nat) (hx : a.eval x = .slice (some ⟨b, 0, none⟩) 1 1) (p : Value) (hp : p.oneCell' = true) (hc : w.cell? ⟨b, 0, none⟩ = some p) (hn : n ≤ 1000)
  (hK : ∀ v' w', w'.ownsRow B 64 1 v' (n + 1) (vs ++ [p]) → w.grownBy w' sv.ownBlock → wpList Tryz.prog ops Q rest (a.put o.dst v') w') :
  wpList Tryz.prog ops Q (o :: rest) a w := by
 obtain ⟨i0, hi, hz0, hz1, hz2⟩ := info_parts (show (Tryz.prog.info? 64).map (fun i => (i.zero, i.size, i.bytes)) = some (some (.slice none 0 0), 1, 24) by kernel_rfl)
 refine wpList_append_own _ hg s x 281 hop B 64 i0 (.slice none 0 0) 1 24 Tryz.underlying281 hi hz0 hz1 hz2 rfl (by decide) sv n vs hs hown ⟨b, 0, none⟩ 1 1 [p] hx (by simp) ?_ ?_ ?_ ?_ hB ?_
 ·intro j u hj
  match j, hj with
  | 0, hj => simp at hj; subst hj; simpa [Addr.add] using hc
 ·intro u hu; simp at hu; subst hu; exact hp
 ·unfold maxLen; omega
 ·omega
 ·intro v' w1 hown' hgrow hnil
  exact hK v' w1 hown' hgrow
theorem own_block {w : World} {B n : Nat} {sv : Value} {vs : List Value} (h : w.ownsRow B 64 1 sv n vs) : ∀ g, sv.ownBlock = some g → B ≤ g ∧ ∃ cs, w.heap[g]? = some (.cells cs 64 (0, 0)) := by
 intro g hg
 rcases h.2 with ⟨rfl, -⟩ | ⟨g', cap, cur, rfl, hB, hh, -⟩
 ·simp [Value.ownBlock] at hg
 ·simp [Value.ownBlock] at hg
  subst hg
  exact ⟨hB, _, hh⟩
theorem rd_grown {w w' : World} {v : Value} {xs : List Nat} {row : Option Nat} (h : Rd w v xs) (ht : Ty w v) (hg : w.grownBy w' row) (hr : ∀ g, row = some g → ∃ cs, w.heap[g]? = some (.cells cs 64 (0, 0))) : Rd w' v xs ∧ Ty w' v := by
 have key : ∀ (b : Nat) (cs : Array Value) (fr : Nat × Nat), w.heap[b]? = some (Obj.cells cs 170 fr) → w'.heap[b]? = w.heap[b]? := fun b cs fr hb => by
  have hlt : b < w.heap.size := by
   rcases Nat.lt_or_ge b w.heap.size with h' | h'
   ·exact h'
   ·rw [Array.getElem?_eq_none h'] at hb; cases hb
  refine hg.block b hlt (fun e => ?_)
  obtain ⟨cs', hh⟩ := hr b e.symm
  rw [hb] at hh
  simp at hh
 refine ⟨?_, fun b off n c e => ?_⟩
 ·obtain ⟨a, cap, rfl, hc, h⟩ := h
  refine ⟨a, cap, rfl, hc, fun j hj => ?_⟩
  obtain ⟨b, off, rfl, hcell⟩ := h j hj
  obtain ⟨cs, fr, hh⟩ := ht b off _ _ rfl
  exact ⟨b, off, rfl, by rw [World.cell?_of_block (w := w) (a := ⟨b, off + j, none⟩) (key b cs fr hh)]; exact hcell⟩
 ·obtain ⟨cs, fr, hh⟩ := ht b off n c e
  exact ⟨cs, fr, by rw [key b cs fr hh]; exact hh⟩
theorem owns_below {w w' : World} {B n : Nat} {sv : Value} {vs : List Value} (h : w.ownsRow B 64 1 sv n vs) (hb : Below w.heap.size w w') : w'.ownsRow B 64 1 sv n vs := by
 refine ⟨h.1, ?_⟩
 rcases h.2 with h | ⟨g, cap, cur, e, hB, hh, rest⟩
 ·exact Or.inl h
 ·exact Or.inr ⟨g, cap, cur, e, hB, kept_of_below hb hh, rest⟩
def Pv (w : World) (k : Nat) (vs : List Value) : Prop := ∀ i, i < k → ∃ v, vs[i]? = some v ∧ Rd w v (M.digs B64 (pw i)) ∧ Ty w v
theorem Pv.below {w w' : World} {k : Nat} {vs : List Value} (h : Pv w k vs) (hb : Below w.heap.size w w') : Pv w' k vs := fun i hi => by
 obtain ⟨v, e, r, t⟩ := h i hi
 exact ⟨v, e, r.below hb, t.below' hb⟩
theorem Pv.grown {w w' : World} {k : Nat} {vs : List Value} {row : Option Nat} (h : Pv w k vs) (hg : w.grownBy w' row) (hr : ∀ g, row = some g → ∃ cs, w.heap[g]? = some (.cells cs 64 (0, 0))) : Pv w' k vs := fun i hi => by
 obtain ⟨v, e, r, t⟩ := h i hi
 obtain ⟨r', t'⟩ := rd_grown r t hg hr
 exact ⟨v, e, r', t'⟩
theorem Pv.more {w : World} {k : Nat} {vs : List Value} {v : Value} (h : Pv w k vs) (hl : vs.length = k) (r : Rd w v (M.digs B64 (pw k))) (t : Ty w v) : Pv w (k + 1) (vs ++ [v]) := fun i hi => by
 by_cases e : i = k
 ·subst e
  exact ⟨v, by rw [List.getElem?_append_right (by omega), hl, Nat.sub_self]; rfl, r, t⟩
 ·obtain ⟨u, e1, r1, t1⟩ := h i (by omega)
  exact ⟨u, by rw [List.getElem?_append_left (by omega)]; exact e1, r1, t1⟩
theorem pws_of {w : World} {B k g cap : Nat} {vs : List Value} (h : w.ownsRow B 64 1 (.slice (some ⟨g, 0, none⟩) k cap) k vs) (hv : Pv w k vs) : k ≤ cap ∧ Pws w g k := by
 rcases h.2 with ⟨h0, -⟩ | ⟨g', cap', cur, e, hB, hh, hc, -⟩
 ·simp at h0
 ·simp only [Value.slice.injEq, Option.some.injEq, Addr.mk.injEq] at e
  obtain ⟨⟨rfl, -, -⟩, -, rfl⟩ := e
  refine ⟨hc, ⟨_, _, hh⟩, fun i hi => ?_⟩
  obtain ⟨v, e1, r, t⟩ := hv i hi
  refine ⟨v, ?_, r, t⟩
  have := World.ownsRow.cells h (g := g) rfl i v e1
  rwa [Lib.add_plain, Nat.zero_add] at this
theorem ten_pow (a b k : Nat) (h : a * b ≤ 19 * 2 ^ k) : (10 ^ a) ^ b ≤ pw k := by
 rw [← Nat.pow_mul]
 exact Nat.pow_le_pow_right (by omega) h
theorem pw_len {k : Nat} (hk : 6 ≤ k) : 50 < (M.digs B64 (pw k)).length := by
 rcases Nat.lt_or_ge 50 (M.digs B64 (pw k)).length with h | h
 ·exact h
 ·have h1 := M.val_lt (b := B64) (by decide) (M.Low.digs B64_two (pw k))
  rw [M.val_digs B64_two] at h1
  have h2 : B64 ^ (M.digs B64 (pw k)).length ≤ B64 ^ 50 := Nat.pow_le_pow_right (by decide) h
  have h3 : B64 ^ 50 ≤ (10 ^ 20) ^ 50 := Nat.pow_le_pow_left (by decide) 50
  have h5 : 2 ^ 6 ≤ 2 ^ k := Nat.pow_le_pow_right (by omega) hk
  have h4 := ten_pow 20 50 k (by omega)
  generalize pw k = P at *
  omega
end Go.Proofs.YtnplifkgeeicjaaGreatDoor
namespace Go.Proofs.YtnplifkgeeicjaaGreatDoor
open Go.RowKit Go.Shelf
theorem pw_dlen {k : Nat} (hk : k ≤ 7) : (M.digs B64 (pw k)).length ≤ 4000 := by
 have h2 : 2 ^ k ≤ 2 ^ 7 := Nat.pow_le_pow_right (by omega) hk
 have : pw k < 10 ^ (19 * 2 ^ k + 1) := by unfold pw; exact Nat.pow_lt_pow_right (by omega) (by omega)
 exact Nat.le_trans (dlen10 this) (by omega)
theorem ten19_pw : [ten19] = M.digs B64 (pw 0) := by decide
theorem pw_gt {V k : Nat} (h : (M.digs B64 V).length < (M.digs B64 (pw k)).length) : V < pw k := by
 rcases Nat.lt_or_ge V (pw k) with h1 | h1
 ·exact h1
 ·have := digs_mono (b := B64) B64_two h1
  omega
theorem powers_any (va : Value) (V : Nat) (w : World) (ha : Rd w va (M.digs B64 V)) (hV : (M.digs B64 V).length ≤ 50) :
  Calls Tryz.prog 223 #[va] w fun e w' => ∃ ps k vs, e = .returned ps ∧ w'.ownsRow w.heap.size 64 1 ps k vs ∧ Pv w' k vs ∧ k ≤ 6 ∧ V < pw k ∧ Below w.heap.size w w' := by
 obtain ⟨a, ca, rfl, -, -⟩ := ha
 go_enter Tryz.func223, Tryz.ntmps223
 go_wp2_with fail
 obtain ⟨w0, hw0⟩ : ∃ w0, w0 = w.alloc (.cells #[.int .u64 10000000000000000000] 170) := ⟨_, rfl⟩
 have hb0 : Below w.heap.size w w0 := by rw [hw0]; exact (Below.refl _ _).alloc (Nat.le_refl _) _
 have r0 : Rd w0 (.slice (some ⟨w.heap.size, 0, none⟩) 1 1) (M.digs B64 (pw 0)) := by rw [← ten19_pw, hw0]; exact rd1 w rfl ten19
 have t0 : Ty w0 (.slice (some ⟨w.heap.size, 0, none⟩) 1 1) := fun b off n c e => by
  simp only [Value.slice.injEq, Option.some.injEq, Addr.mk.injEq] at e
  obtain ⟨⟨rfl, -, -⟩, -, -⟩ := e
  exact ⟨_, _, by rw [hw0]; exact heap_alloc_new w _⟩
 rw [← hw0]
 clear hw0
 generalize hL : (M.digs B64 V).length = L at *
 go_loopw [3, 4] (fun ps pv wr => ∃ k vs, wr.ownsRow w.heap.size 64 1 ps k vs ∧ Pv wr k vs ∧ Rd wr pv (M.digs B64 (pw k)) ∧ Ty wr pv ∧ k ≤ 6 ∧ Below w.heap.size w wr) (fun ps _ _ => 7 - slen ps)
 case atStart => exact ⟨0, [], World.ownsRow_nil _ _ _ _, fun i hi => absurd hi (Nat.not_lt_zero _), r0, t0, by omega, hb0⟩
 case round =>
  clear r0 t0 hb0
  obtain ⟨k, vs, ho, hv, rp, tp, hk, bb⟩ := hrel
  obtain ⟨ap, cp, rfl, -, -⟩ := id rp
  have hl : vs.length = k := by have := ho.1; omega
  by_cases hlt : (M.digs B64 (pw k)).length ≤ L
  ·have hk3 : k ≤ 5 := by
    rcases Nat.lt_or_ge k 6 with h | h
    ·omega
    ·have := pw_len h; omega
   have HMu := shut (fun w v (r : Rd w v (M.digs B64 (pw k))) => mul_ty v v _ _ w r r (M.Low.digs B64_two _) (M.Low.digs B64_two _) (pw_dlen (by omega)) (pw_dlen (by omega)))
   rw [M.val_digs B64_two, ← pw_succ] at HMu
   have HSL : Hid (slen u3 = k) := by
    show slen u3 = k
    rcases ho.2 with ⟨h, h0⟩ | ⟨g, cap, cur, h, -⟩
    ·rw [h, h0]; rfl
    ·rw [h]; rfl
   generalize hN : (M.digs B64 (pw k)).length = N at *
   have hlt' : (N : Int) ≤ (L : Int) := by omega
   obtain ⟨w1, hw1⟩ : ∃ w1, w1 = wr.alloc (.cells #[.slice ap N cp] 64) := ⟨_, rfl⟩
   have hb1 : Below wr.heap.size wr w1 := by rw [hw1]; exact (Below.refl _ _).alloc (Nat.le_refl _) _
   have c1 : w1.cell? ⟨wr.heap.size, 0, none⟩ = some (.slice ap N cp) := by rw [hw1]; simp
   have o1 := owns_below ho hb1
   have v1 := hv.below hb1
   have r1 := rp.below hb1
   have t1 := tp.below' hb1
   have b1 := Below.after bb hb1
   have ob := own_block o1
   clear ho hv rp tp bb
   go_wp2_with (at_builtin; rw [← hw1]; refine wpList_appG rfl _ _ rfl u3 k vs rfl w.heap.size o1 b1.size wr.heap.size rfl (.slice ap N cp) rfl c1 (by omega) ?_; intro ps2 w2 o2 hg2)
   obtain ⟨r2, t2⟩ := rd_grown r1 t1 hg2 (fun g h => (ob g h).2)
   have v2 := (v1.grown hg2 (fun g h => (ob g h).2)).more hl r2 t2
   have b2 : Below w.heap.size w w2 := b1.grown hg2 b1.size (fun g h => (ob g h).1)
   clear hw1 c1 o1 v1 r1 t1 b1 ob hb1 hg2
   refine (HMu.out w2 _ r2).mono ?_
   rintro e w3 ⟨v3, rfl, r3, t3, hb3⟩
   obtain ⟨a3, c3, rfl, -, -⟩ := id r3
   have O3 := shut (owns_below o2 hb3)
   have V3 := shut (v2.below hb3)
   have B3 := shut (Below.after b2 hb3)
   have R3 := shut r3
   have T3 := shut t3
   have HS3 : Hid (7 - slen ps2 < 7 - slen u3) := by
    show _ < _
    rw [HSL.out]
    have : slen ps2 = k + 1 := by
     rcases o2.2 with ⟨h, h0⟩ | ⟨g, cap, cur, h, -⟩
     ·omega
     ·rw [h]; rfl
    omega
   clear r2 t2 v2 b2 o2 hb3 r3 t3 HMu
   generalize (M.digs B64 (pw (k + 1))).length = N3 at *
   go_wp2
   exact ⟨⟨k + 1, _, O3.out, V3.out, R3.out, T3.out, by omega, B3.out⟩, HS3.out⟩
  ·have hlt' : ¬ ((M.digs B64 (pw k)).length : Int) ≤ (L : Int) := by omega
   have HX : Hid (V < pw k) := pw_gt (by omega)
   have HV := shut hv
   have HO := shut ho
   clear rp tp hv ho
   generalize (M.digs B64 (pw k)).length = N at *
   go_wp2
   go_ret
   exact ⟨_, rfl, k, vs, HO.out, HV.out, hk, HX.out, bb⟩
end Go.Proofs.YtnplifkgeeicjaaGreatDoor
namespace Go.Proofs.YtnplifkgeeicjaaGreatDoor
open Go.RowKit Go.Shelf
theorem few_digs {s : ByteArray} {K : Nat} (h : s.size ≤ 8 * K) : (M.digs B64 (natOf s)).length ≤ K := by
 refine M.digs_len_of_lt B64_two (Nat.lt_of_lt_of_le (natOf_lt s) ?_)
 rw [show B64 = 256 ^ 8 from by decide, ← Nat.pow_mul]
 exact Nat.pow_le_pow_right (by omega) h
theorem digs_few {s : ByteArray} (h : s.size ≤ 400) : (M.digs B64 (natOf s)).length ≤ 50 := few_digs (by omega)
theorem wd_ps {k V B b B' : Nat} {bs vs : List Value} {v ps : Value} {w : World} (hk : k ≤ 6) (hV : V < pw k) (ho : w.ownsRow B' 64 1 ps k vs) (hv : Pv w k vs) (hT : TabP w) (h3 : 12 < B) (hr : Rd w v (M.digs B64 V)) (h : Lib.IsBuilderF 158 5 B b bs w) (hl : bs.length + 19 * 2 ^ k ≤ 1000000) (hB : B ≤ w.heap.size) :
  Calls Tryz.prog 222 #[.pointer (some ⟨b, 0, none⟩), v, ps] w fun e w' => e = .returned (.tuple #[]) ∧ (Lib.BuilderAtF 158 5 B b (.pointer (some ⟨b, 0, none⟩)) (bs ++ Lib.byteCells (zP k V)) w' ∧ Below B w w' ∧ Lib.OthersKept 5 (some b) w w') := by
 rcases id ho.2 with ⟨rfl, rfl⟩ | ⟨g, cap, cur, rfl, -⟩
 ·exact wd0_any V (by simpa [pw] using hV) B b bs v none 0 w hT hr h (by omega) hB
 ·obtain ⟨hc, hp⟩ := pws_of ho hv
  exact wd_any k hk V hV B b g cap bs v w hc hT h3 hr hp h hl hB
theorem TabP.lt {w : World} (h : TabP w) : 12 < w.heap.size := by
 unfold TabP Lib.TabIs World.var? at h
 rw [show Tryz.prog.globalNamed "internal/strconv.uint64pow10" = some 12 by kernel_rfl] at h
 simp only [Option.bind_some] at h
 rcases Nat.lt_or_ge 12 w.heap.size with h' | h'
 ·exact h'
 ·rw [Array.getElem?_eq_none h'] at h; simp at h
theorem few_len {k : Nat} (hk : k ≤ 6) : ([] : List Value).length + 19 * 2 ^ k ≤ 1000000 := by
 have : 2 ^ k ≤ 2 ^ 6 := Nat.pow_le_pow_right (by omega) hk
 simp
 omega
theorem print_any (n0 : Bool) (s0 : ByteArray) (w : World) (hT : TabP w) (o0 : OkZ n0 s0) (z0 : s0.size ≤ 400) (T : List Nat) (hTT : T = dt (natOf s0)) :
  Calls Tryz.prog 189 #[.agg #[.bool n0, .string s0]] w (Re w (.tuple #[.string (if T = [] then ⟨#[48]⟩ else if n0 then strB (45 :: T) else strB T), .int .i64 0])) := by
 have X0 := shut (digs_few z0)
 obtain ⟨TT, hT2⟩ : ∃ t, t = (if T = [] then (⟨#[48]⟩ : ByteArray) else if n0 then strB (45 :: T) else strB T) := ⟨_, rfl⟩
 rw [← hT2]
 have HTT := shut hT2
 have HT := shut hTT
 have HP := shut hT
 clear hT2 hTT hT
 go_enter Tryz.func189, Tryz.ntmps189
 go_wp2_with fail
 obtain ⟨w0, hw0, k0, k1, hb0⟩ := box2 w (.bool n0) (.string s0)
 rw [← hw0]
 clear hw0
 refine (read1_ok _ n0 s0 w0 k1 o0 (by omega)).mono ?_
 rintro e w1 ⟨g, v0, rfl, kg, r0, hg, hb⟩
 have m0 := k0.below hb
 have bb := Below.after hb0 hb
 clear k0 k1 o0
 go_wp2
 obtain ⟨w2, hw2⟩ : ∃ w2, w2 = w1.alloc (.cells #[.pointer none, .slice none 0 0] 158) := ⟨_, rfl⟩
 have hb2 : Below w1.heap.size w1 w2 := by rw [hw2]; exact (Below.refl _ _).alloc (Nat.le_refl _) _
 have bld : Lib.IsBuilderF 158 5 w1.heap.size w1.heap.size [] w2 := by rw [hw2]; exact fresh_builder w1
 have kg2 := kg.below hb2
 have r2 := r0.rd.below hb2
 obtain ⟨c0, c1⟩ := xk2 kg2
 have hgl := kg.lt
 have bb2 := Below.after bb hb2
 have m2 := m0.below hb2
 rw [← hw2]
 clear hw2 kg r0
 have H52 := shut (powers_any v0 _ w2.drew (show Rd w2 _ _ from r2) X0.out)
 obtain ⟨a0, p0, rfl, -, -⟩ := id r2
 clear kg2
 have h3 : 12 < w1.heap.size := Nat.lt_of_lt_of_le HP.out.lt bb.size
 have T2 := shut (HP.out.below bb2 HP.out.lt)
 generalize hLL : (M.digs B64 (natOf s0)).length = LL at *
 go_region_held3 (fun w' => w'.cell? ⟨g, 1, none⟩ = some (.slice a0 LL p0)) (first | exact c1 | exact c3 | exact c4) (first | (go_at_call 223; refine (H52.out).mono ?_; rintro e w3 ⟨ps, k, vs, rfl, ho, hv, hk4, hVk, hb3'⟩; have hb3 : Below w2.heap.size w2 w3 := ⟨hb3'.os, hb3'.tape, hb3'.output, hb3'.size, hb3'.block⟩; have c3 := cell_kept hb3 (Nat.lt_of_lt_of_le hgl hb2.size) c1) | (go_at_call 222; refine (wd_ps (by omega) hVk ho hv (T2.out.below hb3 (Nat.lt_of_lt_of_le h3 hb2.size)) h3 (r2.below hb3) (IsBuilderF_below bld hb3) (few_len hk4) (Nat.le_trans hb2.size hb3.size)).mono ?_; rintro e w4 ⟨rfl, bld4, hb4, -⟩; have c4 := cell_kept hb4 hgl c3))
 have bl : Lib.IsBuilderF 158 5 w1.heap.size w1.heap.size (Lib.byteCells (zP k (natOf s0))) w4 := Or.inr bld4
 have hB4 : w1.heap.size ≤ w4.heap.size := Nat.le_trans (Nat.le_trans hb2.size hb3.size) hb4.size
 have HS := shut (string_any_f _ _ _ w4 bl hB4)
 have hwl : w.heap.size < w1.heap.size := m0.lt
 have n0c := cell_kept (hb3.mono hb2.size |>.trans hb4) hwl (cel2_0' m2)
 have bb4 : Below w.heap.size w w4 := (bb2.trans (hb3.mono (Nat.le_trans bb.size hb2.size))).trans (hb4.mono bb.size)
 have trE : Lib.trimLeftB ((zP k (natOf s0)).toArray).toList 48 = dtB (natOf s0) := trim_pad hVk
 have TrE := shut trE
 have hTl : T.length ≤ 1200 := by rw [HT.out]; exact dt_size s0 400 z0
 have hsz : (strB T).size ≤ 1200 := by rw [strB_size]; exact hTl
 have HST : Hid (ByteArray.mk (dtB (natOf s0)).toArray = strB T) := by show _ = _; rw [HT.out]; rfl
 clear bl bld4 bld c1 c3 c4 r2 H52 hb3' hb4 hb3 m2 trE ho hv hTl
 go_wp2_with fail
 refine (HS.out).mono ?_
 rintro e w5 ⟨rfl, -, hb5⟩
 have n0c := cell_kept hb5 hwl n0c
 have bb5 := bb4.trans (hb5.mono bb.size)
 go_wp2_with fail
 refine (strings_TrimLeft_one _ 48 (by decide) w5).mono ?_
 rintro e w6 ⟨rfl, hw⟩
 subst hw
 rw [TrE.out, HST.out]
 clear HS TrE HST HT
 by_cases ht : T = []
 ·subst ht
  rw [show strB [] = ⟨#[]⟩ from rfl]
  go_wp2
  go_ret2
  exact ⟨by rw [HTT.out]; rfl, bb5⟩
 ·have hne := strB_ne ht
  have HN := shut ht
  clear ht
  cases n0 with
  | false =>
   go_wp2
   go_ret2
   exact ⟨by rw [HTT.out, if_neg HN.out]; rfl, bb5⟩
  | true =>
   go_wp2
   go_ret2
   exact ⟨by rw [HTT.out, if_neg HN.out, if_pos trivial, strB_cons 45 T]; rfl, bb5⟩
end Go.Proofs.YtnplifkgeeicjaaGreatDoor
