/-
  The decimal text of a number; gussetref02: Text.
-/
import Derived.Test.YtimmgjlojplccaaGreatDoorG31
namespace Go.Proofs.YtimmgjlojplccaaGreatDoor
open Go.RowKit Go.Shelf

/-- The decimal digits, highest first; none of 0. -/
def dt (n : Nat) : List Nat := ((M.digs 10 n).map (48 + ·)).reverse
theorem dt_zero : dt 0 = [] := rfl
theorem dt_pos {n : Nat} (h : 0 < n) : dt n = dt (n / 10) ++ [48 + n % 10] := by
  unfold dt
  rw [M.digs_pos (by omega) h, List.map_cons, List.reverse_cons]

theorem dt_low (n : Nat) : M.Low 256 (dt n) := by
  intro x hx
  unfold dt at hx
  rw [List.mem_reverse, List.mem_map] at hx
  obtain ⟨y, hy, rfl⟩ := hx
  have := M.digs_lt (b := 10) (by omega) n y hy
  omega
def strSz : Value → Nat
  | .string s => s.size
  | _ => 0
theorem bxt (w : World) (x0 x1 : Value) : ∃ w0, w0 = w.alloc (.cells #[x0, x1] 24) ∧ Cel w0 w.heap.size [x0, x1] 24 ∧ Below w.heap.size w w0 :=
  ⟨_, rfl, Cel.new w _ _, (Below.refl _ _).alloc (Nat.le_refl _) _⟩
theorem run_one (w : World) (d : Nat) : (convert 59 9 (.slice (some ⟨w.heap.size, 0, none⟩) 1 1)).run Tryz.prog (w.alloc (.cells #[.int .u8 (d : Int)] 5)) = .ok (.string (strB [d])) (w.alloc (.cells #[.int .u8 (d : Int)] 5)) := by
  rw [← strB_eq]
  refine run_convert_bytes_arg _ 59 5 Tryz.underlying59 Tryz.underlying5 w.heap.size 0 1 1 _ (by simp) ?_ 9 Tryz.underlying9
  intro i hi
  obtain rfl : i = 0 := by omega
  exact (Cel.new w [.int .u8 (d : Int)] 5).cell 0
theorem dt_len {n k : Nat} (h : n < 256 ^ k) : (dt n).length ≤ 3 * k := by
  unfold dt
  rw [List.length_reverse, List.length_map]
  refine M.digs_len_of_lt (by omega) (Nat.lt_of_lt_of_le h ?_)
  rw [Nat.pow_mul]
  exact Nat.pow_le_pow_left (by decide) k
theorem dt_size (s : ByteArray) (k : Nat) (h : s.size ≤ k) : (dt (natOf s)).length ≤ 3 * k := dt_len (Nat.lt_of_lt_of_le (natOf_lt s) (Nat.pow_le_pow_right (by omega) h))
theorem strB_size (l : List Nat) : (strB l).size = l.length := by simp [strB, ByteArray.size]
theorem strB_cons (x : Nat) (l : List Nat) : strB (x :: l) = strB [x] ++ strB l := by
  apply ByteArray.ext
  simp [strB, ByteArray.data_append]
theorem ten_lt : 10 < D32 ^ 200 := Nat.lt_of_lt_of_le (show 10 < D32 ^ 1 by decide) (Nat.pow_le_pow_right (by decide) (by omega))
theorem strB_ne {l : List Nat} (h : l ≠ []) : (strB l).toList.isEmpty = false := by
  cases l with
  | nil => exact absurd rfl h
  | cons x l => rw [ByteArray.toList_eq]; rfl
theorem ten_dig : M.digs D32 10 = [10] := by unfold D32; decide
theorem mod_dig (m : Nat) : M.digs D32 (m % 10) = if m % 10 = 0 then [] else [m % 10] := by
  by_cases h : m % 10 = 0
  · rw [if_pos h, h, M.digs_zero]
  · rw [if_neg h, M.digs_pos D32_two (by omega), Nat.mod_eq_of_lt (by unfold D32; omega), Nat.div_eq_of_lt (by unfold D32; omega), M.digs_zero]

set_option maxRecDepth 100000 in
set_option maxHeartbeats 4000000 in
theorem rtext_loop (n0 : Bool) (s : ByteArray) (w : World) (hs : s.size ≤ 400) (T : List Nat) (hT : T = dt (natOf s)) :
    Calls Tryz.prog 20 #[.agg #[.bool n0, .string s]] w fun e w' => e = .returned (.string (if T = [] then ⟨#[48]⟩ else if n0 then strB (45 :: T) else strB T)) ∧ Below w.heap.size w w' := by
  have HG := shut (fun w => digits_any s w (by omega))
  obtain ⟨TT, hTT⟩ : ∃ t, t = (if T = [] then (⟨#[48]⟩ : ByteArray) else if n0 then strB (45 :: T) else strB T) := ⟨_, rfl⟩
  rw [← hTT]
  have HTT := shut hTT
  have HT := shut hT
  clear hTT hT
  go_enter Tryz.func20, Tryz.ntmps20
  go_wp2_with fail
  obtain ⟨w0, hw0, k0, bb⟩ := bxt w (.bool n0) (.string s)
  rw [← hw0]
  clear hw0
  refine (HG.out w0).mono ?_
  rintro e w1 ⟨v1, rfl, r1, b1⟩
  obtain ⟨a1, c1, rfl, -, -⟩ := id r1
  replace k0 := k0.below b1
  replace bb := Below.after bb b1
  clear b1 HG
  go_wp2
  go_loopw [3, 4] (fun nv sv wr => ∃ (m : Nat) (t : List Nat), m ≤ natOf s ∧ sv = .string (strB t) ∧ Rd wr nv (M.digs D32 m) ∧ Hid (dt (natOf s) = dt m ++ t) ∧ Cel wr w.heap.size [.bool n0, .string s] 24 ∧ Below w.heap.size w wr) (fun _ sv _ => (dt (natOf s)).length - strSz sv)
  case atStart => exact ⟨natOf s, [], Nat.le_refl _, rfl, r1, shut (by simp), k0, bb⟩
  case round =>
    clear r1 k0 bb
    obtain ⟨m, t, hm, rfl, rn, HD, kc, bb⟩ := hrel
    obtain ⟨an, cn, rfl, -, -⟩ := id rn
    have hlt : t.length ≤ 1200 := by
      have h1 := dt_size s 400 hs
      rw [HD.out, List.length_append] at h1
      omega
    have hsz : (strB t).size ≤ 1200 := by rw [strB_size]; exact hlt
    by_cases hm0 : m = 0
    · subst hm0
      have e0 : (M.digs D32 0).length = 0 := rfl
      have c0 := cel2_0' kc
      have HE : Hid (T = t) := by show T = t; rw [HT.out, HD.out, dt_zero]; rfl
      clear rn HD HT
      rw [e0]
      by_cases ht : t = []
      · subst ht
        have E0 : (strB []) = ⟨#[]⟩ := rfl
        rw [E0]
        go_wp2
        go_ret
        exact ⟨by rw [HTT.out, HE.out]; rfl, bb⟩
      · have HN := shut ht
        have hne := strB_ne ht
        clear ht e0
        cases n0 with
        | false =>
          go_wp2
          go_ret
          exact ⟨by rw [HTT.out, HE.out, if_neg HN.out]; rfl, bb⟩
        | true =>
          go_wp2
          go_ret
          exact ⟨by rw [HTT.out, HE.out, if_neg HN.out, if_pos trivial, strB_cons]; rfl, bb⟩
    · have hp : 0 < (M.digs D32 m).length := digs_pos D32_two (by omega)
      have hp' : ((M.digs D32 m).length : Int) > 0 := by omega
      have HDv := shut (fun v0 v1 w r0 r1 => rdiv_dig (X := m) (Y := 10) (K := 200) (by omega) (Nat.lt_of_le_of_lt hm (natOf_lt4 200 (by omega))) ten_lt (by omega) v0 v1 w r0 r1)
      rw [ten_dig, mod_dig] at HDv
      have HDT : Hid (dt (natOf s) = dt (m / 10) ++ ((48 + m % 10) :: t)) := by
        show _ = _
        rw [HD.out, dt_pos (by omega), List.append_assoc]; rfl
      have HSZ : Hid ((dt (natOf s)).length - (strB ((48 + m % 10) :: t)).size < (dt (natOf s)).length - (strB t).size) := by
        show _ < _
        rw [HDT.out, strB_size, strB_size]
        simp
        omega
      have HM : Hid (m / 10 ≤ natOf s) := Nat.le_trans (Nat.div_le_self _ _) hm
      clear HD HT HTT hm
      generalize hq : m / 10 = q at *
      generalize hl : (M.digs D32 m).length = L at *
      generalize hx : m % 10 = x at *
      have hx10 : x < 10 := by omega
      by_cases h0 : x = 0
      · subst h0
        rw [if_pos rfl] at HDv
        clear hq hx hm0
        go_wp2_with fail
        obtain ⟨w2, hw2⟩ : ∃ w2, w2 = wr.alloc (.cells #[.int .u64 10] 56) := ⟨_, rfl⟩
        have b2 : Below wr.heap.size wr w2 := by rw [hw2]; exact (Below.refl _ _).alloc (Nat.le_refl _) _
        have rP : Rd w2 (.slice (some ⟨wr.heap.size, 0, none⟩) 1 1) [10] := by rw [hw2]; exact rd1 wr rfl 10
        rw [← hw2]
        clear hw2
        refine (HDv.out _ _ w2 (rn.below b2) rP).mono ?_
        rintro e w3 ⟨vq, vr, rfl, rq, rr, b3⟩
        obtain ⟨aq, cq, rfl, -, -⟩ := id rq
        obtain ⟨ar, cr, rfl, -, -⟩ := id rr
        have bx := Below.after b2 b3
        replace kc := kc.below bx
        replace bb := Below.after bb bx
        clear rn HDv bx b2 b3 rP rr hl hp hp'
        have hcv := run_one w3 48
        rw [show ((48 : Nat) : Int) = 48 from rfl] at hcv
        have hs1 : (strB [48]).size ≤ 1 := by rw [strB_size]; exact Nat.le_refl _
        have b4 : Below w3.heap.size w3 (w3.alloc (.cells #[.int .u8 ((48 : Nat) : Int)] 5)) := (Below.refl _ _).alloc (Nat.le_refl _) _
        have R4 := shut (rq.below b4)
        have K4 := shut (kc.below b4)
        have B4 := shut (Below.after bb b4)
        clear rq kc bb b4
        go_wp2
        refine ⟨⟨q, 48 :: t, HM.out, ?_, R4.out, HDT, K4.out, B4.out⟩, ?_⟩
        · rw [strB_cons 48 t]
        · have h := HSZ.out
          rw [show 48 + 0 = 48 from rfl, strB_cons 48 t] at h
          exact h
      · rw [if_neg h0] at HDv
        clear hq hx hm0
        go_wp2_with fail
        obtain ⟨w2, hw2⟩ : ∃ w2, w2 = wr.alloc (.cells #[.int .u64 10] 56) := ⟨_, rfl⟩
        have b2 : Below wr.heap.size wr w2 := by rw [hw2]; exact (Below.refl _ _).alloc (Nat.le_refl _) _
        have rP : Rd w2 (.slice (some ⟨wr.heap.size, 0, none⟩) 1 1) [10] := by rw [hw2]; exact rd1 wr rfl 10
        rw [← hw2]
        clear hw2
        refine (HDv.out _ _ w2 (rn.below b2) rP).mono ?_
        rintro e w3 ⟨vq, vr, rfl, rq, rr, b3⟩
        obtain ⟨aq, cq, rfl, -, -⟩ := id rq
        obtain ⟨ar, cr, rfl, -, hcl⟩ := id rr
        obtain ⟨g, off, rfl, hc0⟩ := hcl 0 (by simp)
        have bx := Below.after b2 b3
        replace kc := kc.below bx
        replace bb := Below.after bb bx
        clear rn HDv bx b2 b3 rP rr hl hp hp' hcl
        have hc1 : w3.cell? ⟨g, off, none⟩ = some (.int .u64 (x : Nat)) := hc0
        have y1 : IntKind.u64.wrap (48 + (x : Int)) = ((48 + x : Nat) : Int) := by simp only [IntKind.wrap_u64]; omega
        have y2 : IntKind.u8.wrap ((48 + x : Nat) : Int) = ((48 + x : Nat) : Int) := by simp only [IntKind.wrap_u8]; omega
        have hcv := run_one w3 (48 + x)
        have b4 : Below w3.heap.size w3 (w3.alloc (.cells #[.int .u8 ((48 + x : Nat) : Int)] 5)) := (Below.refl _ _).alloc (Nat.le_refl _) _
        have R4 := shut (rq.below b4)
        have K4 := shut (kc.below b4)
        have B4 := shut (Below.after bb b4)
        clear rq kc bb b4 hc0
        generalize hD : 48 + x = D at *
        have hs1 : (strB [D]).size ≤ 1 := by rw [strB_size]; exact Nat.le_refl _
        go_wp2
        refine ⟨⟨q, D :: t, HM.out, ?_, R4.out, HDT, K4.out, B4.out⟩, ?_⟩
        · rw [strB_cons D t]
        · have h := HSZ.out
          rw [strB_cons D t] at h
          exact h
end Go.Proofs.YtimmgjlojplccaaGreatDoor
