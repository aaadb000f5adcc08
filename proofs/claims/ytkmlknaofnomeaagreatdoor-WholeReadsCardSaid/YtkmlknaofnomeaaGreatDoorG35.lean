/-
  Package whole: rowOf.
  Package whole: Parse.
  gussetref02: Parse.
  gussetref02: Parse of a number below 0.
  gussetref02: Parse refuses what has no digit, more than 60, or a 0 ahead.
  Both Parses answer alike, whatever the text.
-/
import Derived.Test.YtkmlknaofnomeaaGreatDoorG33
import Derived.Test.YtkmlknaofnomeaaGreatDoorG34
import Derived.Test.YtkmlknaofnomeaaGreatDoorG25
import Derived.Test.YtkmlknaofnomeaaGreatDoorG31
namespace Go.Proofs.YtkmlknaofnomeaaGreatDoor
open Go.RowKit Go.Shelf

/-- The number of the first k digits. -/
def decTo (b : List Nat) : Nat → Nat
  | 0 => 0
  | k + 1 => 10 * decTo b k + (lm b k - 48)
theorem decTo_lt {b : List Nat} : ∀ (k : Nat), (∀ j, j < k → lm b j ≤ 57) → decTo b k < 10 ^ k
  | 0, _ => by simp [decTo]
  | k + 1, h => by
    have h1 := decTo_lt k (fun j hj => h j (by omega))
    have h2 := h k (by omega)
    rw [Nat.pow_succ]
    unfold decTo
    omega
theorem lm_drop' (b : List Nat) (p j : Nat) : lm (b.drop p) j = lm b (p + j) := by
  unfold lm
  rw [List.getD_eq_getElem?_getD, List.getD_eq_getElem?_getD, List.getElem?_drop]
theorem decTo_add (b : List Nat) (p : Nat) : ∀ m, decTo b (p + m) = decTo b p * 10 ^ m + decTo (b.drop p) m
  | 0 => by simp [decTo]
  | m + 1 => by
    rw [show p + (m + 1) = (p + m) + 1 from rfl]
    show 10 * decTo b (p + m) + (lm b (p + m) - 48) = decTo b p * 10 ^ (m + 1) + (10 * decTo (b.drop p) m + (lm (b.drop p) m - 48))
    rw [decTo_add b p m, lm_drop', Nat.pow_succ, Nat.mul_add]
    have : 10 * (decTo b p * 10 ^ m) = decTo b p * (10 ^ m * 10) := by
      rw [Nat.mul_left_comm, Nat.mul_comm 10]
    rw [this]
    omega
theorem decTo_take (b : List Nat) (m : Nat) : ∀ k, k ≤ m → decTo (b.take m) k = decTo b k
  | 0, _ => rfl
  | k + 1, h => by
    unfold decTo
    rw [decTo_take b m k (by omega), lm_take (by omega)]

def strLen : Value → Nat
  | .string t => t.size
  | _ => 0
theorem ten_pow_19 : (10 : Nat) ^ 19 = 10000000000000000000 := by decide

theorem mul_lt_pow' {X Y b j k : Nat} (hx : X < b ^ j) (hy : Y < b ^ k) : X * Y < b ^ (j + k) := by
  rw [Nat.pow_add]
  exact Nat.mul_lt_mul'' hx hy
theorem mul_one_limb {D P : Nat} (hD : D < B64 ^ 4) (hP : P < B64) (v0 v1 : Value) (w : World) (r0 : Rd w v0 (M.digs B64 D)) (r1 : Rd w v1 [P]) :
    Calls Tryz.prog 33 #[v0, v1] w fun e w' => ∃ v, e = .returned (.tuple #[v, .int .i64 0]) ∧ Rd w' v (M.digs B64 (D * P)) ∧ Below w.heap.size w w' := by
  have := mul_any v0 v1 _ _ w r0 r1 (M.Low.digs B64_two _) (low_of_all (by simpa using hP)) (Nat.le_trans (M.digs_len_of_lt B64_two hD) (by omega)) (by simp)
  rwa [M.val_digs B64_two, show M.val B64 [P] = P from by rw [M.val_cons, M.val_nil]; omega] at this
theorem add_one_limb {D V : Nat} (hD : D < B64 ^ (4 + 1)) (hV : V < B64) (v0 v1 : Value) (w : World) (r0 : Rd w v0 (M.digs B64 D)) (r1 : Rd w v1 [V]) :
    Calls Tryz.prog 43 #[v0, v1] w fun e w' => ∃ v, e = .returned (.tuple #[v, .int .i64 0]) ∧ Rd w' v (M.digs B64 (D + V)) ∧ Below w.heap.size w w' := by
  have := add_any v0 v1 _ _ w r0 r1 (M.Low.digs B64_two _) (low_of_all (by simpa using hV)) (Nat.le_trans (M.digs_len_of_lt B64_two hD) (by omega)) (by simp)
  rwa [M.val_digs B64_two, show M.val B64 [V] = V from by rw [M.val_cons, M.val_nil]; omega] at this

set_option maxRecDepth 100000 in
set_option maxHeartbeats 4000000 in
theorem rowOf_any (s : ByteArray) (w : World) (hs : s.size ≤ 60) (hd : ∀ j, j < s.size → 48 ≤ lm (byts s) j ∧ lm (byts s) j ≤ 57) :
    Calls Tryz.prog 48 #[.string s] w fun e w' => ∃ v, e = .returned v ∧ Rd w' v (M.digs B64 (decTo (byts s) s.size)) ∧ Below w.heap.size w w' := by
  have HD := shut hd
  clear hd
  go_enter Tryz.func48, Tryz.ntmps48
  go_wp2
  go_loopw [0, 3] (fun sv rv wr => ∃ (p : Nat) (t : ByteArray), p ≤ s.size ∧ sv = .string t ∧ t.size = s.size - p ∧ Hid (byts t = (byts s).drop p) ∧ Rd wr rv (M.digs B64 (decTo (byts s) p)) ∧ Below w.heap.size w wr) (fun sv _ _ => strLen sv)
  case atStart => exact ⟨0, s, Nat.zero_le _, rfl, by omega, by show _ = _; rw [List.drop_zero], rd_none w, Below.refl _ _⟩
  case round =>
    obtain ⟨p, t, hp, rfl, htl, HB, hr, bb⟩ := hrel
    obtain ⟨ar, cr, rfl, -, -⟩ := id hr
    by_cases h0 : t.size = 0
    · have hps : p = s.size := by omega
      subst hps
      go_wp2
      go_ret
      exact ⟨_, rfl, hr, bb⟩
    · obtain ⟨m, hm⟩ : ∃ m, m = min 19 t.size := ⟨_, rfl⟩
      have hm0 : 0 < m := by omega
      have hm1 : m ≤ 19 := by omega
      have hm2 : m ≤ t.size := by omega
      have hmi : (min 19 (t.size : Int)) = (m : Int) := by omega
      have hmn : min m t.size = m := by omega
      have hpos : (t.size : Int) > 0 := by omega
      have hps : p + m ≤ s.size := by omega
      have HTL : Hid (t.size - m = s.size - (p + m)) := by show _ = _; omega
      have hcv := Lib.run_convert_string_bytes (P := Tryz.prog) wr 9 75 5 (t.extract 0 m) Tryz.underlying9 Tryz.underlying75 Tryz.underlying5
      have hsz : (t.extract 0 m).size = m := by rw [ByteArray.size_extract]; omega
      have hbt : byts (t.extract 0 m) = (byts t).take m := by rw [byts_extract, List.drop_zero]
      have hcell : ∀ j, j < m → (Lib.bytesWorld wr 5 (t.extract 0 m)).cell? ⟨wr.heap.size, j, none⟩ = some (.int .u8 (lm ((byts s).drop p) j : Nat)) := fun j hj => by
        rw [Lib.bytesWorld_cell wr 5 (t.extract 0 m) j (by omega), byts_at' (t.extract 0 m) j (by omega), hbt, lm_take hj, HB.out]
      have hb1 := Below.bytes wr 5 (t.extract 0 m)
      have HC := shut hcell
      have HX : Hid (byts (t.extract m t.size) = (byts s).drop (p + m)) := by
        show _ = _
        rw [byts_extract, List.take_of_length_le (by rw [byts_length]; exact Nat.le_refl _), HB.out, List.drop_drop]
      have HSX : Hid ((t.extract m t.size).size = t.size - m) := by show _ = _; rw [ByteArray.size_extract]; omega
      have HDD : Hid (∀ j, j < m → 48 ≤ lm ((byts s).drop p) j ∧ lm ((byts s).drop p) j ≤ 57) := fun j hj => by rw [lm_drop']; exact HD.out _ (by omega)
      rw [hsz] at hcv
      have HM := shut hm
      clear hcell hbt hm htl hsz
      generalize Lib.bytesWorld wr 5 (t.extract 0 m) = w1 at *
      go_wp2
      generalize t.extract m t.size = t' at *
      go_loopw [5, 6, 24] (fun v pw i wq => ∃ k V P : Nat, k ≤ m ∧ i = .int .i64 (k : Nat) ∧ v = .int .u64 (V : Nat) ∧ pw = .int .u64 (P : Nat) ∧ Hid (V = decTo ((byts s).drop p) k ∧ P = 10 ^ k) ∧ wq = w1) (fun _ _ i _ => m - (intOf i).toNat)
      case atStart => exact ⟨0, 0, 1, by omega, rfl, rfl, rfl, ⟨rfl, rfl⟩, rfl⟩
      case round =>
        obtain ⟨k, V, P, hk, rfl, rfl, rfl, HVP, rfl⟩ := hrel
        by_cases hlt : k < m
        · have q1 := HC.out k hlt
          obtain ⟨hx1, hx2⟩ := HDD.out k hlt
          have hV : V < 1000000000000000000 := by
            have e := HVP.out.1
            have l := decTo_lt (b := (byts s).drop p) k (fun j hj => (HDD.out j (by omega)).2)
            have l2 : 10 ^ k ≤ 10 ^ 18 := Nat.pow_le_pow_right (by omega) (by omega)
            have l3 : (10 : Nat) ^ 18 = 1000000000000000000 := by decide
            omega
          have hP : P ≤ 1000000000000000000 := by
            have e := HVP.out.2
            have l2 : 10 ^ k ≤ 10 ^ 18 := Nat.pow_le_pow_right (by omega) (by omega)
            have l3 : (10 : Nat) ^ 18 = 1000000000000000000 := by decide
            omega
          have HN : Hid (10 * V + (lm ((byts s).drop p) k - 48) = decTo ((byts s).drop p) (k + 1) ∧ P * 10 = 10 ^ (k + 1)) := by
            refine ⟨?_, ?_⟩
            · rw [HVP.out.1]; rfl
            · rw [HVP.out.2, Nat.pow_succ]
          generalize lm ((byts s).drop p) k = x at q1 hx1 hx2 HN
          have hlt' : (k : Int) < (m : Int) := by omega
          have y1 : IntKind.u64.wrap (10 * (V : Int)) = ((10 * V : Nat) : Int) := by simp only [IntKind.wrap_u64]; omega
          have y2 : IntKind.u8.wrap ((x : Int) - 48) = ((x - 48 : Nat) : Int) := by simp only [IntKind.wrap_u8]; omega
          have y3 : IntKind.u64.wrap ((x - 48 : Nat) : Int) = ((x - 48 : Nat) : Int) := by simp only [IntKind.wrap_u64]; omega
          have y4 : IntKind.u64.wrap (((10 * V : Nat) : Int) + ((x - 48 : Nat) : Int)) = ((10 * V + (x - 48) : Nat) : Int) := by simp only [IntKind.wrap_u64]; omega
          have y5 : IntKind.u64.wrap ((P : Int) * 10) = ((P * 10 : Nat) : Int) := by simp only [IntKind.wrap_u64]; omega
          generalize hA : ((10 * V : Nat) : Int) = A at *
          generalize hBx : ((x - 48 : Nat) : Int) = Bx at *
          generalize hE : ((10 * V + (x - 48) : Nat) : Int) = E at *
          generalize hF : ((P * 10 : Nat) : Int) = F at *
          have HE := shut hE
          have HF := shut hF
          clear hA hBx hE hF HVP HC HDD HD HB HX HSX HTL HM
          go_wp2
          exact ⟨⟨k + 1, 10 * V + (x - 48), P * 10, by omega, by go_num, by rw [HE.out], by rw [HF.out], HN, trivial⟩, by simp [intOf]; omega⟩
        · have hkm : k = m := by omega
          subst hkm
          obtain ⟨eV, eP⟩ := HVP.out
          have hVl : V < B64 := by
            have l := decTo_lt (b := (byts s).drop p) k (fun j hj => (HDD.out j (by omega)).2)
            have l2 : 10 ^ k ≤ 10 ^ 19 := Nat.pow_le_pow_right (by omega) (by omega)
            rw [ten_pow_19] at l2
            unfold B64; omega
          have hPl : P < B64 := by
            have l2 : 10 ^ k ≤ 10 ^ 19 := Nat.pow_le_pow_right (by omega) (by omega)
            rw [ten_pow_19] at l2
            unfold B64; omega
          have hD : decTo (byts s) p < B64 ^ 4 := by
            have l := decTo_lt (b := byts s) p (fun j hj => (HD.out j (by omega)).2)
            have l2 : 10 ^ p ≤ 10 ^ 60 := Nat.pow_le_pow_right (by omega) (by omega)
            exact Nat.lt_of_lt_of_le l (Nat.le_trans l2 (by unfold B64; decide))
          have hdig : decTo (byts s) (p + k) = decTo (byts s) p * P + V := by rw [decTo_add, eV, eP]
          have HMul := shut (fun v0 v1 wx r0 r1 => mul_one_limb (D := decTo (byts s) p) (P := P) hD hPl v0 v1 wx r0 r1)
          have HAdd := shut (fun v0 v1 wx r0 r1 => add_one_limb (D := decTo (byts s) p * P) (V := V) (mul_lt_pow' hD (show P < B64 ^ 1 by rw [Nat.pow_one]; exact hPl)) hVl v0 v1 wx r0 r1)
          rw [← hdig] at HAdd
          have HX' := HX.out
          have HS' := HSX.out
          have HT' := HTL.out
          have HXH := shut HX'
          have HSZ : Hid (t'.size = s.size - (p + k)) := by show _ = _; omega
          have HLT : Hid (t'.size < t.size) := by show _ < _; omega
          have bb1 := Below.after bb hb1
          have hr1 := hr.below hb1
          generalize hDD : decTo (byts s) p = D at *
          generalize hDE : decTo (byts s) (p + k) = DE at *
          have HDE := shut hDE
          clear hDD hDE hdig HVP HC HDD HD HB HX HSX HTL HM HX' HS' HT' eV eP hD hVl hPl hmi hmn hcv hm0 hm1 hm2 hlt hk
          go_wp2_with fail
          obtain ⟨w2, hw2⟩ : ∃ w2, w2 = wr.alloc (.cells #[.int .u64 (P : Nat)] 66) := ⟨_, rfl⟩
          have b2 : Below wr.heap.size wr w2 := by rw [hw2]; exact (Below.refl _ _).alloc (Nat.le_refl _) _
          have rP : Rd w2 (.slice (some ⟨wr.heap.size, 0, none⟩) 1 1) [P] := by rw [hw2]; exact rd1 wr rfl P
          rw [← hw2]
          clear hw2
          refine (HMul.out _ _ w2 (hr1.below b2) rP).mono ?_
          rintro e w3 ⟨v3, rfl, r3, b3⟩
          obtain ⟨a3, c3, rfl, -, -⟩ := id r3
          have bb3 := Below.after (Below.after bb1 b2) b3
          clear hr hr1 HMul bb1 b2 b3 bb hb1 rP
          go_wp2_with fail
          obtain ⟨w4, hw4⟩ : ∃ w4, w4 = w3.alloc (.cells #[.int .u64 (V : Nat)] 66) := ⟨_, rfl⟩
          have b4 : Below w3.heap.size w3 w4 := by rw [hw4]; exact (Below.refl _ _).alloc (Nat.le_refl _) _
          have rV : Rd w4 (.slice (some ⟨w3.heap.size, 0, none⟩) 1 1) [V] := by rw [hw4]; exact rd1 w3 rfl V
          rw [← hw4]
          clear hw4
          refine (HAdd.out _ _ w4 (r3.below b4) rV).mono ?_
          rintro e w5 ⟨v5, rfl, r5, b5⟩
          obtain ⟨a5, c5, rfl, -, -⟩ := id r5
          have bb5 := Below.after (Below.after bb3 b4) b5
          clear r3 HAdd bb3 b4 b5 rV
          have R5 : Hid (Rd w5 (.slice a5 (M.digs B64 DE).length c5) (M.digs B64 (decTo (byts s) (p + k)))) := by
            show Rd _ _ _
            rw [HDE.out]; exact r5
          clear r5 HDE
          go_wp2
          exact ⟨⟨p + k, t', hps, rfl, HSZ.out, HXH, R5.out, bb5⟩, HLT.out⟩
end Go.Proofs.YtkmlknaofnomeaaGreatDoor
namespace Go.Proofs.YtkmlknaofnomeaaGreatDoor
open Go.RowKit Go.Shelf

theorem pfx (s : ByteArray) : Lib.hasPrefix s.data.toList (ByteArray.mk #[45]).data.toList = decide (0 < s.size ∧ lm (byts s) 0 = 45) := by
  obtain ⟨⟨l⟩⟩ := s
  cases l with
  | nil => rfl
  | cons x l =>
    have e : lm (byts ⟨⟨x :: l⟩⟩) 0 = x.toNat := rfl
    rw [e]
    have h0 : 0 < (ByteArray.mk ⟨x :: l⟩).size := by show 0 < (x :: l).length; simp
    by_cases hx : x = 45
    · subst hx
      have : (45 : UInt8).toNat = 45 := rfl
      simp only [h0, this, and_self, decide_true]
      rfl
    · have hx' : ¬ x.toNat = 45 := fun h => hx (UInt8.toNat.inj h)
      simp only [hx', and_false, decide_false]
      simp [Lib.hasPrefix, List.isPrefixOf]
      exact fun h => hx h.symm

theorem ne_m0 {s : ByteArray} (h : s ≠ ⟨#[45, 48]⟩) : (s.toList == [45, 48]) = false := by
  rw [beq_eq_false_iff_ne]
  intro e
  rw [ByteArray.toList_eq] at e
  apply h
  obtain ⟨⟨l⟩⟩ := s
  have e' : l = [45, 48] := e
  rw [e']

/-- What a text tells. -/
def Neg (b : List Nat) : Prop := 0 < b.length ∧ lm b 0 = 45
instance (b : List Nat) : Decidable (Neg b) := by unfold Neg; exact inferInstance
/-- Its digits. -/
def dgs (b : List Nat) : List Nat := if Neg b then b.drop 1 else b
def Okp (b : List Nat) : Prop := NatS (dgs b) ∧ ¬ (Neg b ∧ lm (dgs b) 0 = 48)
def pval (b : List Nat) : Int := sgn (decide (Neg b)) (decTo (dgs b) (dgs b).length)

theorem tell_row (neg : Bool) (v : Value) (w : World) {V : Nat} (hV : V < B64 ^ 4) (h : Rd w v (M.digs B64 V)) :
    Calls Tryz.prog 34 #[.agg #[.bool neg, v]] w fun e w' => e = .returned (zI (sgn neg V)) ∧ Below w.heap.size w w' := tell_dig neg (K := 4) (by omega) hV v w h
theorem dec_lt4 {b : List Nat} (h : NatS b) : decTo b b.length < B64 ^ 4 := by
  have l := decTo_lt (b := b) b.length (fun j hj => (h.2.2.2 j hj).2)
  have l2 : 10 ^ b.length ≤ 10 ^ 60 := Nat.pow_le_pow_right (by omega) h.2.1
  exact Nat.lt_of_lt_of_le l (Nat.le_trans l2 (by unfold B64; decide))

set_option maxRecDepth 100000 in
set_option maxHeartbeats 2000000 in
theorem parse_pos (s : ByteArray) (w : World) (hn : ¬ (0 < s.size ∧ lm (byts s) 0 = 45)) (h : NatS (byts s)) :
    Calls Tryz.prog 22 #[.string s] w fun e w' => e = .returned (.tuple #[zI (sgn false (decTo (byts s) s.size)), .int .i64 0]) ∧ Below w.heap.size w w' := by
  have hp := pfx s
  rw [decide_eq_false hn] at hp
  have HI := shut (fun w => isnat_any s w true (by simp [h]))
  have HRo := shut (fun w => rowOf_any s w (by have := h.2.1; rwa [byts_length] at this) (fun j hj => h.2.2.2 j (by rwa [byts_length])))
  have h4 := dec_lt4 h
  rw [byts_length] at h4
  have HT := shut (fun v w hr => tell_row false v w h4 hr)
  generalize hR : zI (sgn false (decTo (byts s) s.size)) = R at *
  obtain ⟨za, zb, rfl⟩ : ∃ a b, R = .agg #[.bool a, .string b] := ⟨_, _, hR.symm⟩
  have HPx := shut hp
  clear hR h4 h hn hp
  go_enter Tryz.func22, Tryz.ntmps22
  go_wp2_with fail
  obtain ⟨w0, hw0⟩ : ∃ w0, w0 = (w.alloc (.cells #[.bool false, .string { data := #[] }] 24)).alloc (.cells #[.bool false, .slice none 0 0] 54) := ⟨_, rfl⟩
  have k0 : Cel w0 w.heap.size [.bool false, .string { data := #[] }] 24 := by rw [hw0]; exact (Cel.new w _ _).alloc _
  have k1 : Cel w0 (w.heap.size + 1) [.bool false, .slice none 0 0] 54 := by
    rw [hw0]
    have := Cel.new (w.alloc (.cells #[.bool false, .string { data := #[] }] 24)) [.bool false, .slice none 0 0] 54
    simpa using this
  have hb0 : Below w.heap.size w w0 := by rw [hw0]; go_grown
  rw [← hw0]
  clear hw0
  refine (strings_HasPrefix _ _ w0).mono ?_
  rintro e w1 ⟨rfl, hw⟩
  subst hw
  rw [HPx.out]
  go_wp2_with fail
  refine (HI.out w1).mono ?_
  rintro e w2 ⟨rfl, b2⟩
  replace k0 := k0.below b2
  replace k1 := k1.below b2
  replace hb0 := Below.after hb0 b2
  clear b2
  go_wp2_with fail
  refine (HRo.out w2).mono ?_
  rintro e w3 ⟨v, rfl, rv, b3⟩
  obtain ⟨av, cv, rfl, -, -⟩ := id rv
  replace k0 := k0.below b3
  replace k1 := k1.below b3
  replace hb0 := Below.after hb0 b3
  clear b3
  have c0 := cel2_0' k1
  have c1 := cel2_1' k1
  have f1 := k1.frozen 1
  have e0 := cel2_0' (k1.set 1 (.slice av (M.digs B64 (decTo (byts s) s.size)).length cv))
  have e1 := cel2_1' (k1.set 1 (.slice av (M.digs B64 (decTo (byts s) s.size)).length cv))
  go_wp2_with fail
  have rx := (rdx_of_cel rv k1 (no_ints1 _ _ _ _)).setX 1 (.slice av (M.digs B64 (decTo (byts s) s.size)).length cv)
  obtain ⟨w4, hw4⟩ : ∃ w4, w4 = w3.setCell ⟨w.heap.size + 1, 1, none⟩ (.slice av (M.digs B64 (decTo (byts s) s.size)).length cv) := ⟨_, rfl⟩
  have k4 : Cel w4 w.heap.size [.bool false, .string { data := #[] }] 24 := by rw [hw4]; exact k0.other (by omega) _ _
  have b4 : Below w.heap.size w w4 := by rw [hw4]; exact hb0.setCell (by simp) _
  rw [← hw4] at rx ⊢
  clear hw4 c0 c1 f1 e0 e1 k0 k1 hb0 rv
  refine (HT.out _ w4 rx.rd).mono ?_
  rintro e w5 ⟨rfl, b5⟩
  replace k4 := k4.below b5
  replace b4 := Below.after b4 b5
  have g0 := cel2_0' k4
  have g1 := cel2_1' k4
  have q0 := k4.frozen 0
  have q1 := k4.frozen 1
  go_wp2
  exact post_z1 (p := 2) (u := 3) (by kernel_rfl) rfl rfl rfl ((k4.set 0 _).set 1 _) ⟨rfl, (b4.setCell (by simp) _).setCell (by simp) _⟩

set_option maxRecDepth 100000 in
set_option maxHeartbeats 2000000 in
theorem parse_posbad (s : ByteArray) (w : World) (hn : ¬ (0 < s.size ∧ lm (byts s) 0 = 45)) (h : ¬ NatS (byts s)) :
    Calls Tryz.prog 22 #[.string s] w fun e w' => e = .returned (.tuple #[zI 0, .int .i64 4]) ∧ Below w.heap.size w w' := by
  have hp := pfx s
  rw [decide_eq_false hn] at hp
  have HI := shut (fun w => isnat_any s w false (by simp [h]))
  rw [zI_zero]
  have HPx := shut hp
  clear h hn hp
  go_enter Tryz.func22, Tryz.ntmps22
  go_wp2_with fail
  obtain ⟨w0, hw0⟩ : ∃ w0, w0 = (w.alloc (.cells #[.bool false, .string { data := #[] }] 24)).alloc (.cells #[.bool false, .slice none 0 0] 54) := ⟨_, rfl⟩
  have k0 : Cel w0 w.heap.size [.bool false, .string { data := #[] }] 24 := by rw [hw0]; exact (Cel.new w _ _).alloc _
  have k1 : Cel w0 (w.heap.size + 1) [.bool false, .slice none 0 0] 54 := by
    rw [hw0]
    have := Cel.new (w.alloc (.cells #[.bool false, .string { data := #[] }] 24)) [.bool false, .slice none 0 0] 54
    simpa using this
  have hb0 : Below w.heap.size w w0 := by rw [hw0]; go_grown
  rw [← hw0]
  clear hw0
  refine (strings_HasPrefix _ _ w0).mono ?_
  rintro e w1 ⟨rfl, hw⟩
  subst hw
  rw [HPx.out]
  go_wp2_with fail
  refine (HI.out w1).mono ?_
  rintro e w2 ⟨rfl, b2⟩
  replace k0 := k0.below b2
  replace hb0 := Below.after hb0 b2
  clear b2
  have g0 := cel2_0' k0
  have g1 := cel2_1' k0
  have q0 := k0.frozen 0
  have q1 := k0.frozen 1
  go_wp2
  exact post_z1 (p := 2) (u := 3) (by kernel_rfl) rfl rfl rfl ((k0.set 0 _).set 1 _) ⟨rfl, (hb0.setCell (by simp) _).setCell (by simp) _⟩

set_option maxRecDepth 100000 in
set_option maxHeartbeats 2000000 in
theorem parse_neg (s : ByteArray) (w : World) (hn : 0 < s.size ∧ lm (byts s) 0 = 45) (h0 : s ≠ ⟨#[45, 48]⟩) (h : NatS (byts (s.extract 1 s.size))) :
    Calls Tryz.prog 22 #[.string s] w fun e w' => e = .returned (.tuple #[zI (sgn true (decTo (byts (s.extract 1 s.size)) (s.extract 1 s.size).size)), .int .i64 0]) ∧ Below w.heap.size w w' := by
  have hp := pfx s
  rw [decide_eq_true hn] at hp
  have hs1 : ¬ (s.size : Int) < 1 := by omega
  have hs2 : 1 ≤ s.size := by omega
  have hne := ne_m0 h0
  have hne' : ¬ s.toList = [45, 48] := by simpa using hne
  obtain ⟨t, ht⟩ : ∃ t, t = s.extract 1 s.size := ⟨_, rfl⟩
  rw [← ht] at h ⊢
  have HI := shut (fun w => isnat_any t w true (by simp [h]))
  have HRo := shut (fun w => rowOf_any t w (by have := h.2.1; rwa [byts_length] at this) (fun j hj => h.2.2.2 j (by rwa [byts_length])))
  have h4 := dec_lt4 h
  rw [byts_length] at h4
  have HT := shut (fun v w hr => tell_row true v w h4 hr)
  generalize hR : zI (sgn true (decTo (byts t) t.size)) = R at *
  obtain ⟨za, zb, rfl⟩ : ∃ a b, R = .agg #[.bool a, .string b] := ⟨_, _, hR.symm⟩
  have HPx := shut hp
  have HTT := shut ht
  clear hR h4 h hp ht
  go_enter Tryz.func22, Tryz.ntmps22
  go_wp2_with fail
  obtain ⟨w0, hw0⟩ : ∃ w0, w0 = (w.alloc (.cells #[.bool false, .string { data := #[] }] 24)).alloc (.cells #[.bool false, .slice none 0 0] 54) := ⟨_, rfl⟩
  have k0 : Cel w0 w.heap.size [.bool false, .string { data := #[] }] 24 := by rw [hw0]; exact (Cel.new w _ _).alloc _
  have k1 : Cel w0 (w.heap.size + 1) [.bool false, .slice none 0 0] 54 := by
    rw [hw0]
    have := Cel.new (w.alloc (.cells #[.bool false, .string { data := #[] }] 24)) [.bool false, .slice none 0 0] 54
    simpa using this
  have hb0 : Below w.heap.size w w0 := by rw [hw0]; go_grown
  rw [← hw0]
  clear hw0
  refine (strings_HasPrefix _ _ w0).mono ?_
  rintro e w1 ⟨rfl, hw⟩
  subst hw
  rw [HPx.out]
  have c0 := cel2_0' k1
  have f0 := k1.frozen 0
  go_wp2_with fail
  rw [← HTT.out]
  obtain ⟨wa, hwa⟩ : ∃ wa, wa = w1.setCell ⟨w.heap.size + 1, 0, none⟩ (.bool true) := ⟨_, rfl⟩
  have k0' : Cel wa w.heap.size [.bool false, .string { data := #[] }] 24 := by rw [hwa]; exact k0.other (by omega) _ _
  have k1' : Cel wa (w.heap.size + 1) [.bool true, .slice none 0 0] 54 := by rw [hwa]; exact k1.set 0 _
  have hb0' : Below w.heap.size w wa := by rw [hwa]; exact hb0.setCell (by simp) _
  rw [← hwa]
  clear hwa c0 f0 k0 k1 hb0
  have k0 := k0'
  have k1 := k1'
  have hb0 := hb0'
  clear k0' k1' hb0'
  refine (HI.out wa).mono ?_
  rintro e w2 ⟨rfl, b2⟩
  replace k0 := k0.below b2
  replace k1 := k1.below b2
  replace hb0 := Below.after hb0 b2
  clear b2
  go_wp2_with fail
  refine (HRo.out w2).mono ?_
  rintro e w3 ⟨v, rfl, rv, b3⟩
  obtain ⟨av, cv, rfl, -, -⟩ := id rv
  replace k0 := k0.below b3
  replace k1 := k1.below b3
  replace hb0 := Below.after hb0 b3
  clear b3
  have c0 := cel2_0' k1
  have c1 := cel2_1' k1
  have f1 := k1.frozen 1
  have e0 := cel2_0' (k1.set 1 (.slice av (M.digs B64 (decTo (byts t) t.size)).length cv))
  have e1 := cel2_1' (k1.set 1 (.slice av (M.digs B64 (decTo (byts t) t.size)).length cv))
  go_wp2_with fail
  have rx := (rdx_of_cel rv k1 (no_ints1 _ _ _ _)).setX 1 (.slice av (M.digs B64 (decTo (byts t) t.size)).length cv)
  obtain ⟨w4, hw4⟩ : ∃ w4, w4 = w3.setCell ⟨w.heap.size + 1, 1, none⟩ (.slice av (M.digs B64 (decTo (byts t) t.size)).length cv) := ⟨_, rfl⟩
  have k4 : Cel w4 w.heap.size [.bool false, .string { data := #[] }] 24 := by rw [hw4]; exact k0.other (by omega) _ _
  have b4 : Below w.heap.size w w4 := by rw [hw4]; exact hb0.setCell (by simp) _
  rw [← hw4] at rx ⊢
  clear hw4 c0 c1 f1 e0 e1 k0 k1 hb0 rv
  refine (HT.out _ w4 rx.rd).mono ?_
  rintro e w5 ⟨rfl, b5⟩
  replace k4 := k4.below b5
  replace b4 := Below.after b4 b5
  have g0 := cel2_0' k4
  have g1 := cel2_1' k4
  have q0 := k4.frozen 0
  have q1 := k4.frozen 1
  go_wp2
  exact post_z1 (p := 2) (u := 3) (by kernel_rfl) rfl rfl rfl ((k4.set 0 _).set 1 _) ⟨rfl, (b4.setCell (by simp) _).setCell (by simp) _⟩

set_option maxRecDepth 100000 in
set_option maxHeartbeats 2000000 in
theorem parse_negbad (s : ByteArray) (w : World) (hn : 0 < s.size ∧ lm (byts s) 0 = 45) (h0 : s ≠ ⟨#[45, 48]⟩) (h : ¬ NatS (byts (s.extract 1 s.size))) :
    Calls Tryz.prog 22 #[.string s] w fun e w' => e = .returned (.tuple #[zI 0, .int .i64 4]) ∧ Below w.heap.size w w' := by
  have hp := pfx s
  rw [decide_eq_true hn] at hp
  have hs1 : ¬ (s.size : Int) < 1 := by omega
  have hs2 : 1 ≤ s.size := by omega
  have hne := ne_m0 h0
  have hne' : ¬ s.toList = [45, 48] := by simpa using hne
  obtain ⟨t, ht⟩ : ∃ t, t = s.extract 1 s.size := ⟨_, rfl⟩
  rw [← ht] at h
  have HI := shut (fun w => isnat_any t w false (by simp [h]))
  rw [zI_zero]
  have HPx := shut hp
  have HTT := shut ht
  clear h hp ht
  go_enter Tryz.func22, Tryz.ntmps22
  go_wp2_with fail
  obtain ⟨w0, hw0⟩ : ∃ w0, w0 = (w.alloc (.cells #[.bool false, .string { data := #[] }] 24)).alloc (.cells #[.bool false, .slice none 0 0] 54) := ⟨_, rfl⟩
  have k0 : Cel w0 w.heap.size [.bool false, .string { data := #[] }] 24 := by rw [hw0]; exact (Cel.new w _ _).alloc _
  have k1 : Cel w0 (w.heap.size + 1) [.bool false, .slice none 0 0] 54 := by
    rw [hw0]
    have := Cel.new (w.alloc (.cells #[.bool false, .string { data := #[] }] 24)) [.bool false, .slice none 0 0] 54
    simpa using this
  have hb0 : Below w.heap.size w w0 := by rw [hw0]; go_grown
  rw [← hw0]
  clear hw0
  refine (strings_HasPrefix _ _ w0).mono ?_
  rintro e w1 ⟨rfl, hw⟩
  subst hw
  rw [HPx.out]
  have c0 := cel2_0' k1
  have f0 := k1.frozen 0
  go_wp2_with fail
  rw [← HTT.out]
  obtain ⟨wa, hwa⟩ : ∃ wa, wa = w1.setCell ⟨w.heap.size + 1, 0, none⟩ (.bool true) := ⟨_, rfl⟩
  have k0' : Cel wa w.heap.size [.bool false, .string { data := #[] }] 24 := by rw [hwa]; exact k0.other (by omega) _ _
  have k1' : Cel wa (w.heap.size + 1) [.bool true, .slice none 0 0] 54 := by rw [hwa]; exact k1.set 0 _
  have hb0' : Below w.heap.size w wa := by rw [hwa]; exact hb0.setCell (by simp) _
  rw [← hwa]
  clear hwa c0 f0 k0 k1 hb0
  have k0 := k0'
  have k1 := k1'
  have hb0 := hb0'
  clear k0' k1' hb0'
  refine (HI.out wa).mono ?_
  rintro e w2 ⟨rfl, b2⟩
  replace k0 := k0.below b2
  replace hb0 := Below.after hb0 b2
  clear b2
  have g0 := cel2_0' k0
  have g1 := cel2_1' k0
  have q0 := k0.frozen 0
  have q1 := k0.frozen 1
  go_wp2
  exact post_z1 (p := 2) (u := 3) (by kernel_rfl) rfl rfl rfl ((k0.set 0 _).set 1 _) ⟨rfl, (hb0.setCell (by simp) _).setCell (by simp) _⟩
end Go.Proofs.YtkmlknaofnomeaaGreatDoor
namespace Go.Proofs.YtkmlknaofnomeaaGreatDoor
open Go.RowKit Go.Shelf

theorem rmul_ten {D : Nat} (hD : D < D32 ^ 8) (v0 v1 : Value) (w : World) (r0 : Rd w v0 (M.digs D32 D)) (r1 : Rd w v1 [10]) :
    Calls Tryz.prog 41 #[v0, v1] w fun e w' => ∃ v, e = .returned v ∧ Rd w' v (M.digs D32 (10 * D)) ∧ Below w.heap.size w w' := by
  have := rmul_any v0 v1 _ _ w r0 r1 (M.Low.digs D32_two _) (low_of_all (by decide)) (Nat.le_trans (dlen hD) (by omega)) (by simp)
  rwa [M.val_digs D32_two, show M.val D32 [10] = 10 from by rw [M.val_cons, M.val_nil]; omega, Nat.mul_comm] at this
theorem radd_small {D x : Nat} (hD : D < D32 ^ 9) (hx : x < 10) (v0 v1 : Value) (w : World) (r0 : Rd w v0 (M.digs D32 D)) (r1 : Rd w v1 [x]) :
    Calls Tryz.prog 38 #[v0, v1] w fun e w' => ∃ v, e = .returned v ∧ Rd w' v (M.digs D32 (D + x)) ∧ Below w.heap.size w w' := by
  have := radd_any v0 v1 _ _ w r0 r1 (M.Low.digs D32_two _) (low_of_all (by simp; unfold D32; omega)) (Nat.le_trans (dlen hD) (by omega)) (by simp)
  rwa [M.val_digs D32_two, show M.val D32 [x] = x from by rw [M.val_cons, M.val_nil]; omega] at this
theorem dec_lt8 {b : List Nat} {k : Nat} (hk : k ≤ 60) (h : ∀ j, j < k → lm b j ≤ 57) : decTo b k < D32 ^ 8 := by
  have l := decTo_lt (b := b) k h
  have l2 : 10 ^ k ≤ 10 ^ 60 := Nat.pow_le_pow_right (by omega) hk
  exact Nat.lt_of_lt_of_le l (Nat.le_trans l2 (by unfold D32; decide))
theorem lt9 {D : Nat} (h : D < D32 ^ 8) : 10 * D < D32 ^ 9 := by
  have e : D32 ^ 9 = D32 ^ 8 * D32 := Nat.pow_succ ..
  rw [e]
  generalize D32 ^ 8 = p at *
  unfold D32
  omega

set_option maxRecDepth 100000 in
set_option maxHeartbeats 4000000 in
theorem rparse_pos (s : ByteArray) (w : World) (hn : ¬ (0 < s.size ∧ lm (byts s) 0 = 45)) (h1 : 1 ≤ s.size) (h2 : s.size ≤ 60) (h3 : lm (byts s) 0 = 48 → s.size ≤ 1) (r : Bool) (hr : r = true ↔ ∀ j, j < s.size → 48 ≤ lm (byts s) j ∧ lm (byts s) j ≤ 57) :
    Calls Tryz.prog 23 #[.string s] w fun e w' => e = .returned (.tuple #[zI (if r then sgn false (decTo (byts s) s.size) else 0), .int .i64 (if r then 0 else 4)]) ∧ Below w.heap.size w w' := by
  obtain ⟨ZR, hZR⟩ : ∃ Z, Z = zI (if r then sgn false (decTo (byts s) s.size) else 0) := ⟨_, rfl⟩
  obtain ⟨ER, hER⟩ : ∃ E : Int, E = if r then 0 else 4 := ⟨_, rfl⟩
  rw [← hZR, ← hER]
  have HZR := shut hZR
  have HER := shut hER
  clear hZR hER
  have HR := shut hr
  have h4 : r = true → decTo (byts s) s.size < D32 ^ 8 := fun h => dec_lt8 h2 (fun j hj => (hr.1 h j hj).2)
  have HM := shut (fun (h : r = true) v w hv => make0_val false (K := 8) (by omega) (h4 h) v w hv)
  clear hr h4
  have g0 : ¬ (s.size : Int) < 1 := by omega
  have g1 : ¬ (s.size : Int) > 60 := by omega
  have hs : 0 < s.size := by omega
  have p1 : ¬ (s[0]).toNat = 45 := fun h => hn ⟨hs, by rw [← byts_at s 0 hs]; exact h⟩
  have p2 : ¬ ((s[0]).toNat : Int) = 45 := by omega
  have p3 : ¬ s[0] = 45 := fun h => p1 (by rw [h]; rfl)
  clear hn
  have hz : (((s[0]).toNat : Int) = 48 ∧ s[0] = 48 ∧ ¬ (s.size : Int) > 1) ∨ (¬ ((s[0]).toNat : Int) = 48 ∧ ¬ s[0] = 48) := by
    by_cases g2 : lm (byts s) 0 = 48
    · have g3 := h3 g2
      have k3 : (s[0]).toNat = 48 := by rw [byts_at s 0 hs, g2]
      exact Or.inl ⟨by omega, UInt8.toNat.inj k3, by omega⟩
    · have k1 : ¬ ((s[0]).toNat : Int) = 48 := by rw [byts_at s 0 hs]; omega
      exact Or.inr ⟨k1, fun h => k1 (by rw [h]; rfl)⟩
  clear h3
  rcases hz with ⟨z1, z2, z3⟩ | ⟨z1, z2⟩ <;>
  · go_enter Tryz.func23, Tryz.ntmps23
    go_wp2
    obtain ⟨w0, hw0⟩ : ∃ w0, w0 = w.alloc (.cells #[.bool false, .string { data := #[] }] 24) := ⟨_, rfl⟩
    have k0 : Cel w0 w.heap.size [.bool false, .string { data := #[] }] 24 := by rw [hw0]; exact Cel.new w _ _
    have hb0 : Below w.heap.size w w0 := by rw [hw0]; exact (Below.refl _ _).alloc (Nat.le_refl _) _
    rw [← hw0]
    clear hw0
    go_loopw [6, 7] (fun nv i wr => ∃ k : Nat, k ≤ s.size ∧ i = .int .i64 (k : Nat) ∧ Rd wr nv (M.digs D32 (decTo (byts s) k)) ∧ Hid (∀ j, j < k → 48 ≤ lm (byts s) j ∧ lm (byts s) j ≤ 57) ∧ Cel wr w.heap.size [.bool false, .string { data := #[] }] 24 ∧ Below w.heap.size w wr) (fun _ i _ => s.size - (intOf i).toNat)
    case atStart => exact ⟨0, Nat.zero_le _, rfl, rd_none _, fun j hj => absurd hj (Nat.not_lt_zero _), k0, hb0⟩
    case round =>
      clear k0 hb0
      obtain ⟨k, hk, rfl, rn, HA, kc, bb⟩ := hrel
      obtain ⟨an, cn, rfl, -, -⟩ := id rn
      by_cases hlt : k < s.size
      · have hlt' : (k : Int) < (s.size : Int) := by omega
        have a1 := byts_at s k hlt
        by_cases hok : 48 ≤ lm (byts s) k ∧ lm (byts s) k ≤ 57
        · have HN : Hid (∀ j, j < k + 1 → 48 ≤ lm (byts s) j ∧ lm (byts s) j ≤ 57) := fun j hj => by
            by_cases e : j = k
            · rw [e]; exact hok
            · exact HA.out j (by omega)
          have hD8 := dec_lt8 (b := byts s) (k := k) (by omega) (fun j hj => (HA.out j hj).2)
          have HMul := shut (fun v0 v1 w r0 r1 => rmul_ten hD8 v0 v1 w r0 r1)
          obtain ⟨x, hx⟩ : ∃ x, x = lm (byts s) k := ⟨_, rfl⟩
          rw [← hx] at hok a1
          obtain ⟨hx1, hx2⟩ := hok
          have hde : decTo (byts s) (k + 1) = 10 * decTo (byts s) k + (x - 48) := by rw [hx]; rfl
          have HAdd := shut (fun v0 v1 w r0 r1 => radd_small (D := 10 * decTo (byts s) k) (x := x - 48) (lt9 hD8) (by omega) v0 v1 w r0 r1)
          rw [← hde] at HAdd
          have HDE := shut hde
          clear hde hx hD8
          have y1 : ¬ (x : Int) < 48 := by omega
          have y2 : ¬ (x : Int) > 57 := by omega
          generalize hdk : decTo (byts s) k = D at *
          generalize hdk1 : decTo (byts s) (k + 1) = D1 at *
          have HD1 := shut hdk1
          clear hdk hdk1 HA HR HM
          by_cases hx0 : x = 48
          · have y3 : ¬ (x : Int) > 48 := by omega
            have e1 : 10 * D = D1 := by have := HDE.out; omega
            rw [e1] at HMul
            clear HAdd HDE
            go_wp2_with fail
            obtain ⟨w2, hw2⟩ : ∃ w2, w2 = wr.alloc (.cells #[.int .u64 10] 66) := ⟨_, rfl⟩
            have b2 : Below wr.heap.size wr w2 := by rw [hw2]; exact (Below.refl _ _).alloc (Nat.le_refl _) _
            have rP : Rd w2 (.slice (some ⟨wr.heap.size, 0, none⟩) 1 1) [10] := by rw [hw2]; exact rd1 wr rfl 10
            rw [← hw2]
            clear hw2
            refine (HMul.out _ _ w2 (rn.below b2) rP).mono ?_
            rintro e w3 ⟨v3, rfl, r3, b3⟩
            obtain ⟨a3, c3, rfl, -, -⟩ := id r3
            have bx := Below.after b2 b3
            replace kc := kc.below bx
            replace bb := Below.after bb bx
            clear rn HMul bx b2 b3 rP
            have R3 : Hid (Rd w3 (.slice a3 (M.digs D32 D1).length c3) (M.digs D32 (decTo (byts s) (k + 1)))) := by
              show Rd _ _ _
              rw [HD1.out]; exact r3
            clear r3 HD1
            go_wp2
            exact ⟨⟨k + 1, by omega, by go_num, R3.out, HN, kc, bb⟩, by simp [intOf]; omega⟩
          · have y3 : (x : Int) > 48 := by omega
            have y4 : IntKind.u8.wrap ((x : Int) - 48) = ((x - 48 : Nat) : Int) := by simp only [IntKind.wrap_u8]; omega
            have y5 : IntKind.u64.wrap ((x - 48 : Nat) : Int) = ((x - 48 : Nat) : Int) := by simp only [IntKind.wrap_u64]; omega
            obtain ⟨X, hX⟩ : ∃ X, X = x - 48 := ⟨_, rfl⟩
            rw [← hX] at y4 y5 HAdd
            clear hX HDE
            go_wp2_with fail
            obtain ⟨w2, hw2⟩ : ∃ w2, w2 = wr.alloc (.cells #[.int .u64 10] 66) := ⟨_, rfl⟩
            have b2 : Below wr.heap.size wr w2 := by rw [hw2]; exact (Below.refl _ _).alloc (Nat.le_refl _) _
            have rP : Rd w2 (.slice (some ⟨wr.heap.size, 0, none⟩) 1 1) [10] := by rw [hw2]; exact rd1 wr rfl 10
            rw [← hw2]
            clear hw2
            refine (HMul.out _ _ w2 (rn.below b2) rP).mono ?_
            rintro e w3 ⟨v3, rfl, r3, b3⟩
            obtain ⟨a3, c3, rfl, -, -⟩ := id r3
            have bx := Below.after b2 b3
            replace kc := kc.below bx
            replace bb := Below.after bb bx
            clear rn HMul bx b2 b3 rP
            go_wp2_with fail
            obtain ⟨w4, hw4⟩ : ∃ w4, w4 = w3.alloc (.cells #[.int .u64 (X : Nat)] 66) := ⟨_, rfl⟩
            have b4 : Below w3.heap.size w3 w4 := by rw [hw4]; exact (Below.refl _ _).alloc (Nat.le_refl _) _
            have rV : Rd w4 (.slice (some ⟨w3.heap.size, 0, none⟩) 1 1) [X] := by rw [hw4]; exact rd1 w3 rfl X
            rw [← hw4]
            clear hw4
            refine (HAdd.out _ _ w4 (r3.below b4) rV).mono ?_
            rintro e w5 ⟨v5, rfl, r5, b5⟩
            obtain ⟨a5, c5, rfl, -, -⟩ := id r5
            have by1 := Below.after b4 b5
            replace kc := kc.below by1
            replace bb := Below.after bb by1
            clear r3 HAdd by1 b4 b5 rV
            have R5 : Hid (Rd w5 (.slice a5 (M.digs D32 D1).length c5) (M.digs D32 (decTo (byts s) (k + 1)))) := by
              show Rd _ _ _
              rw [HD1.out]; exact r5
            clear r5 HD1
            go_wp2
            exact ⟨⟨k + 1, by omega, by go_num, R5.out, HN, kc, bb⟩, by simp [intOf]; omega⟩
        · have hrf : r = false := by
            cases hr : r with
            | false => rfl
            | true => exact absurd (HR.out.1 hr k hlt) hok
          have HRF := shut hrf
          obtain ⟨x, hx⟩ : ∃ x, x = lm (byts s) k := ⟨_, rfl⟩
          rw [← hx] at hok a1
          clear HA HR HM hx rn hrf
          have c0 := cel2_0' kc
          have c1 := cel2_1' kc
          have f0 := kc.frozen 0
          have f1 := kc.frozen 1
          by_cases y1 : x < 48
          · have y1' : (x : Int) < 48 := by omega
            go_wp2
            exact post_z1 (p := 2) (u := 3) (by kernel_rfl) rfl rfl rfl ((kc.set 0 _).set 1 _) ⟨by rw [HZR.out, HER.out, HRF.out]; rfl, (bb.setCell (by simp) _).setCell (by simp) _⟩
          · have y1' : ¬ (x : Int) < 48 := by omega
            have y2' : (x : Int) > 57 := by omega
            go_wp2
            exact post_z1 (p := 2) (u := 3) (by kernel_rfl) rfl rfl rfl ((kc.set 0 _).set 1 _) ⟨by rw [HZR.out, HER.out, HRF.out]; rfl, (bb.setCell (by simp) _).setCell (by simp) _⟩
      · have hke : k = s.size := by omega
        have hrt : r = true := HR.out.2 (fun j hj => HA.out j (by omega))
        rw [hke] at rn
        have HK := shut (HM.out hrt _ wr rn)
        have HRT := shut hrt
        subst hke
        clear HA HR HM hrt rn
        generalize hRR : zI (sgn false (decTo (byts s) s.size)) = RR at *
        obtain ⟨za, zb, rfl⟩ : ∃ a b, RR = .agg #[.bool a, .string b] := ⟨_, _, hRR.symm⟩
        have HRR := shut hRR
        clear hRR
        go_wp2_with fail
        refine HK.out.mono ?_
        rintro e w6 ⟨rfl, b6⟩
        replace kc := kc.below b6
        replace bb := Below.after bb b6
        have c0 := cel2_0' kc
        have c1 := cel2_1' kc
        have f0 := kc.frozen 0
        have f1 := kc.frozen 1
        go_wp2
        exact post_z1 (p := 2) (u := 3) (by kernel_rfl) rfl rfl rfl ((kc.set 0 _).set 1 _) ⟨by rw [HZR.out, HER.out, if_pos HRT.out, if_pos HRT.out, HRR.out]; rfl, (bb.setCell (by simp) _).setCell (by simp) _⟩
end Go.Proofs.YtkmlknaofnomeaaGreatDoor
namespace Go.Proofs.YtkmlknaofnomeaaGreatDoor
open Go.RowKit Go.Shelf

set_option maxRecDepth 100000 in
set_option maxHeartbeats 4000000 in
theorem rparse_neg (s : ByteArray) (w : World) (hn : 0 < s.size ∧ lm (byts s) 0 = 45) (t : ByteArray) (ht : s.extract 1 s.size = t) (h1 : 1 ≤ t.size) (h2 : t.size ≤ 60) (h3 : lm (byts t) 0 = 48 → False) (r : Bool) (hr : r = true ↔ ∀ j, j < t.size → 48 ≤ lm (byts t) j ∧ lm (byts t) j ≤ 57) :
    Calls Tryz.prog 23 #[.string s] w fun e w' => e = .returned (.tuple #[zI (if r then sgn true (decTo (byts t) t.size) else 0), .int .i64 (if r then 0 else 4)]) ∧ Below w.heap.size w w' := by
  obtain ⟨ZR, hZR⟩ : ∃ Z, Z = zI (if r then sgn true (decTo (byts t) t.size) else 0) := ⟨_, rfl⟩
  obtain ⟨ER, hER⟩ : ∃ E : Int, E = if r then 0 else 4 := ⟨_, rfl⟩
  rw [← hZR, ← hER]
  have HZR := shut hZR
  have HER := shut hER
  clear hZR hER
  have HR := shut hr
  have h4 : r = true → decTo (byts t) t.size < D32 ^ 8 := fun h => dec_lt8 h2 (fun j hj => (hr.1 h j hj).2)
  have HM := shut (fun (h : r = true) v w hv => make0_val true (K := 8) (by omega) (h4 h) v w hv)
  clear hr h4
  have g0 : ¬ (t.size : Int) < 1 := by omega
  have g1 : ¬ (t.size : Int) > 60 := by omega
  have hs : 0 < t.size := by omega
  obtain ⟨p0, hn2⟩ := hn
  have p1 : (s[0]).toNat = 45 := by rw [byts_at s 0 p0]; exact hn2
  have p2 : ((s[0]).toNat : Int) = 45 := by omega
  have p3 : s[0] = 45 := UInt8.toNat.inj p1
  have p5 : 1 ≤ s.size := p0
  have p6 : s.size - 1 = t.size := by rw [← ht, ByteArray.size_extract]; omega
  have k0 : ¬ lm (byts t) 0 = 48 := h3
  have k1 : ¬ ((t[0]).toNat : Int) = 48 := by rw [byts_at t 0 hs]; omega
  have k2 : ¬ t[0] = 48 := fun h => k1 (by rw [h]; rfl)
  clear h3 k0 hn2
  go_enter Tryz.func23, Tryz.ntmps23
  go_wp2
  obtain ⟨w0, hw0⟩ : ∃ w0, w0 = w.alloc (.cells #[.bool false, .string { data := #[] }] 24) := ⟨_, rfl⟩
  have k0 : Cel w0 w.heap.size [.bool false, .string { data := #[] }] 24 := by rw [hw0]; exact Cel.new w _ _
  have hb0 : Below w.heap.size w w0 := by rw [hw0]; exact (Below.refl _ _).alloc (Nat.le_refl _) _
  rw [← hw0]
  clear hw0
  go_loopw [6, 7] (fun nv i wr => ∃ k : Nat, k ≤ t.size ∧ i = .int .i64 (k : Nat) ∧ Rd wr nv (M.digs D32 (decTo (byts t) k)) ∧ Hid (∀ j, j < k → 48 ≤ lm (byts t) j ∧ lm (byts t) j ≤ 57) ∧ Cel wr w.heap.size [.bool false, .string { data := #[] }] 24 ∧ Below w.heap.size w wr) (fun _ i _ => t.size - (intOf i).toNat)
  case atStart => exact ⟨0, Nat.zero_le _, rfl, rd_none _, fun j hj => absurd hj (Nat.not_lt_zero _), k0, hb0⟩
  case round =>
    clear k0 hb0
    obtain ⟨k, hk, rfl, rn, HA, kc, bb⟩ := hrel
    obtain ⟨an, cn, rfl, -, -⟩ := id rn
    by_cases hlt : k < t.size
    · have hlt' : (k : Int) < (t.size : Int) := by omega
      have a1 := byts_at t k hlt
      by_cases hok : 48 ≤ lm (byts t) k ∧ lm (byts t) k ≤ 57
      · have HN : Hid (∀ j, j < k + 1 → 48 ≤ lm (byts t) j ∧ lm (byts t) j ≤ 57) := fun j hj => by
          by_cases e : j = k
          · rw [e]; exact hok
          · exact HA.out j (by omega)
        have hD8 := dec_lt8 (b := byts t) (k := k) (by omega) (fun j hj => (HA.out j hj).2)
        have HMul := shut (fun v0 v1 w r0 r1 => rmul_ten hD8 v0 v1 w r0 r1)
        obtain ⟨x, hx⟩ : ∃ x, x = lm (byts t) k := ⟨_, rfl⟩
        rw [← hx] at hok a1
        obtain ⟨hx1, hx2⟩ := hok
        have hde : decTo (byts t) (k + 1) = 10 * decTo (byts t) k + (x - 48) := by rw [hx]; rfl
        have HAdd := shut (fun v0 v1 w r0 r1 => radd_small (D := 10 * decTo (byts t) k) (x := x - 48) (lt9 hD8) (by omega) v0 v1 w r0 r1)
        rw [← hde] at HAdd
        have HDE := shut hde
        clear hde hx hD8
        have y1 : ¬ (x : Int) < 48 := by omega
        have y2 : ¬ (x : Int) > 57 := by omega
        generalize hdk : decTo (byts t) k = D at *
        generalize hdk1 : decTo (byts t) (k + 1) = D1 at *
        have HD1 := shut hdk1
        clear hdk hdk1 HA HR HM
        by_cases hx0 : x = 48
        · have y3 : ¬ (x : Int) > 48 := by omega
          have e1 : 10 * D = D1 := by have := HDE.out; omega
          rw [e1] at HMul
          clear HAdd HDE
          go_wp2_with fail
          obtain ⟨w2, hw2⟩ : ∃ w2, w2 = wr.alloc (.cells #[.int .u64 10] 66) := ⟨_, rfl⟩
          have b2 : Below wr.heap.size wr w2 := by rw [hw2]; exact (Below.refl _ _).alloc (Nat.le_refl _) _
          have rP : Rd w2 (.slice (some ⟨wr.heap.size, 0, none⟩) 1 1) [10] := by rw [hw2]; exact rd1 wr rfl 10
          rw [← hw2]
          clear hw2
          refine (HMul.out _ _ w2 (rn.below b2) rP).mono ?_
          rintro e w3 ⟨v3, rfl, r3, b3⟩
          obtain ⟨a3, c3, rfl, -, -⟩ := id r3
          have bx := Below.after b2 b3
          replace kc := kc.below bx
          replace bb := Below.after bb bx
          clear rn HMul bx b2 b3 rP
          have R3 : Hid (Rd w3 (.slice a3 (M.digs D32 D1).length c3) (M.digs D32 (decTo (byts t) (k + 1)))) := by
            show Rd _ _ _
            rw [HD1.out]; exact r3
          clear r3 HD1
          go_wp2
          exact ⟨⟨k + 1, by omega, by go_num, R3.out, HN, kc, bb⟩, by simp [intOf]; omega⟩
        · have y3 : (x : Int) > 48 := by omega
          have y4 : IntKind.u8.wrap ((x : Int) - 48) = ((x - 48 : Nat) : Int) := by simp only [IntKind.wrap_u8]; omega
          have y5 : IntKind.u64.wrap ((x - 48 : Nat) : Int) = ((x - 48 : Nat) : Int) := by simp only [IntKind.wrap_u64]; omega
          obtain ⟨X, hX⟩ : ∃ X, X = x - 48 := ⟨_, rfl⟩
          rw [← hX] at y4 y5 HAdd
          clear hX HDE
          go_wp2_with fail
          obtain ⟨w2, hw2⟩ : ∃ w2, w2 = wr.alloc (.cells #[.int .u64 10] 66) := ⟨_, rfl⟩
          have b2 : Below wr.heap.size wr w2 := by rw [hw2]; exact (Below.refl _ _).alloc (Nat.le_refl _) _
          have rP : Rd w2 (.slice (some ⟨wr.heap.size, 0, none⟩) 1 1) [10] := by rw [hw2]; exact rd1 wr rfl 10
          rw [← hw2]
          clear hw2
          refine (HMul.out _ _ w2 (rn.below b2) rP).mono ?_
          rintro e w3 ⟨v3, rfl, r3, b3⟩
          obtain ⟨a3, c3, rfl, -, -⟩ := id r3
          have bx := Below.after b2 b3
          replace kc := kc.below bx
          replace bb := Below.after bb bx
          clear rn HMul bx b2 b3 rP
          go_wp2_with fail
          obtain ⟨w4, hw4⟩ : ∃ w4, w4 = w3.alloc (.cells #[.int .u64 (X : Nat)] 66) := ⟨_, rfl⟩
          have b4 : Below w3.heap.size w3 w4 := by rw [hw4]; exact (Below.refl _ _).alloc (Nat.le_refl _) _
          have rV : Rd w4 (.slice (some ⟨w3.heap.size, 0, none⟩) 1 1) [X] := by rw [hw4]; exact rd1 w3 rfl X
          rw [← hw4]
          clear hw4
          refine (HAdd.out _ _ w4 (r3.below b4) rV).mono ?_
          rintro e w5 ⟨v5, rfl, r5, b5⟩
          obtain ⟨a5, c5, rfl, -, -⟩ := id r5
          have by1 := Below.after b4 b5
          replace kc := kc.below by1
          replace bb := Below.after bb by1
          clear r3 HAdd by1 b4 b5 rV
          have R5 : Hid (Rd w5 (.slice a5 (M.digs D32 D1).length c5) (M.digs D32 (decTo (byts t) (k + 1)))) := by
            show Rd _ _ _
            rw [HD1.out]; exact r5
          clear r5 HD1
          go_wp2
          exact ⟨⟨k + 1, by omega, by go_num, R5.out, HN, kc, bb⟩, by simp [intOf]; omega⟩
      · have hrf : r = false := by
          cases hr : r with
          | false => rfl
          | true => exact absurd (HR.out.1 hr k hlt) hok
        have HRF := shut hrf
        obtain ⟨x, hx⟩ : ∃ x, x = lm (byts t) k := ⟨_, rfl⟩
        rw [← hx] at hok a1
        clear HA HR HM hx rn hrf
        have c0 := cel2_0' kc
        have c1 := cel2_1' kc
        have f0 := kc.frozen 0
        have f1 := kc.frozen 1
        by_cases y1 : x < 48
        · have y1' : (x : Int) < 48 := by omega
          go_wp2
          exact post_z1 (p := 2) (u := 3) (by kernel_rfl) rfl rfl rfl ((kc.set 0 _).set 1 _) ⟨by rw [HZR.out, HER.out, HRF.out]; rfl, (bb.setCell (by simp) _).setCell (by simp) _⟩
        · have y1' : ¬ (x : Int) < 48 := by omega
          have y2' : (x : Int) > 57 := by omega
          go_wp2
          exact post_z1 (p := 2) (u := 3) (by kernel_rfl) rfl rfl rfl ((kc.set 0 _).set 1 _) ⟨by rw [HZR.out, HER.out, HRF.out]; rfl, (bb.setCell (by simp) _).setCell (by simp) _⟩
    · have hke : k = t.size := by omega
      have hrt : r = true := HR.out.2 (fun j hj => HA.out j (by omega))
      rw [hke] at rn
      have HK := shut (HM.out hrt _ wr rn)
      have HRT := shut hrt
      subst hke
      clear HA HR HM hrt rn
      generalize hRR : zI (sgn true (decTo (byts t) t.size)) = RR at *
      obtain ⟨za, zb, rfl⟩ : ∃ a b, RR = .agg #[.bool a, .string b] := ⟨_, _, hRR.symm⟩
      have HRR := shut hRR
      clear hRR
      go_wp2_with fail
      refine HK.out.mono ?_
      rintro e w6 ⟨rfl, b6⟩
      replace kc := kc.below b6
      replace bb := Below.after bb b6
      have c0 := cel2_0' kc
      have c1 := cel2_1' kc
      have f0 := kc.frozen 0
      have f1 := kc.frozen 1
      go_wp2
      exact post_z1 (p := 2) (u := 3) (by kernel_rfl) rfl rfl rfl ((kc.set 0 _).set 1 _) ⟨by rw [HZR.out, HER.out, if_pos HRT.out, if_pos HRT.out, HRR.out]; rfl, (bb.setCell (by simp) _).setCell (by simp) _⟩
end Go.Proofs.YtkmlknaofnomeaaGreatDoor
namespace Go.Proofs.YtkmlknaofnomeaaGreatDoor
open Go.RowKit Go.Shelf

set_option maxRecDepth 100000 in
set_option maxHeartbeats 4000000 in
theorem rpbad_pos (s : ByteArray) (w : World) (hn : ¬ (0 < s.size ∧ lm (byts s) 0 = 45)) (hb : s.size < 1 ∨ 60 < s.size ∨ (lm (byts s) 0 = 48 ∧ 1 < s.size)) :
    Calls Tryz.prog 23 #[.string s] w fun e w' => e = .returned (.tuple #[zI 0, .int .i64 4]) ∧ Below w.heap.size w w' := by
  by_cases h0 : s.size < 1
  · obtain rfl : s = ⟨#[]⟩ := by
      obtain ⟨⟨l⟩⟩ := s
      cases l with
      | nil => rfl
      | cons x l => exact absurd h0 (by simp [ByteArray.size])
    clear hn hb h0
    go_enter Tryz.func23, Tryz.ntmps23
    go_wp2
    exact post_z1 (p := 2) (u := 3) (by kernel_rfl) rfl rfl rfl (Cel.new w _ _) ⟨rfl, (Below.refl _ _).alloc (Nat.le_refl _) _⟩
  have hs : 0 < s.size := by omega
  have p1 : ¬ (s[0]).toNat = 45 := fun h => hn ⟨hs, by rw [← byts_at s 0 hs]; exact h⟩
  have p2 : ¬ ((s[0]).toNat : Int) = 45 := by omega
  have p3 : ¬ s[0] = 45 := fun h => p1 (by rw [h]; rfl)
  have g0 : ¬ (s.size : Int) < 1 := by omega
  clear hn
  by_cases h1 : 60 < s.size
  · have g1 : (s.size : Int) > 60 := by omega
    clear hb h0 h1
    go_enter Tryz.func23, Tryz.ntmps23
    go_wp2
    exact post_z1 (p := 2) (u := 3) (by kernel_rfl) rfl rfl rfl (Cel.new w _ _) ⟨rfl, (Below.refl _ _).alloc (Nat.le_refl _) _⟩
  · have g1 : ¬ (s.size : Int) > 60 := by omega
    have h2 : lm (byts s) 0 = 48 ∧ 1 < s.size := by omega
    have k3 : (s[0]).toNat = 48 := by rw [byts_at s 0 hs, h2.1]
    have z1 : ((s[0]).toNat : Int) = 48 := by omega
    have z2 : s[0] = 48 := UInt8.toNat.inj k3
    have z3 : (s.size : Int) > 1 := by omega
    clear hb h0 h1 h2 k3
    go_enter Tryz.func23, Tryz.ntmps23
    go_wp2
    exact post_z1 (p := 2) (u := 3) (by kernel_rfl) rfl rfl rfl (Cel.new w _ _) ⟨rfl, (Below.refl _ _).alloc (Nat.le_refl _) _⟩

set_option maxRecDepth 100000 in
set_option maxHeartbeats 4000000 in
theorem rpbad_neg (s : ByteArray) (w : World) (hn : 0 < s.size ∧ lm (byts s) 0 = 45) (t : ByteArray) (ht : s.extract 1 s.size = t) (hb : t.size < 1 ∨ 60 < t.size ∨ lm (byts t) 0 = 48) :
    Calls Tryz.prog 23 #[.string s] w fun e w' => e = .returned (.tuple #[zI 0, .int .i64 4]) ∧ Below w.heap.size w w' := by
  obtain ⟨p0, hn2⟩ := hn
  have p1 : (s[0]).toNat = 45 := by rw [byts_at s 0 p0]; exact hn2
  have p2 : ((s[0]).toNat : Int) = 45 := by omega
  have p3 : s[0] = 45 := UInt8.toNat.inj p1
  have p5 : 1 ≤ s.size := p0
  have p6 : s.size - 1 = t.size := by rw [← ht, ByteArray.size_extract]; omega
  clear hn2
  by_cases h0 : t.size < 1
  · have p7 : s.size = 1 := by omega
    obtain rfl : s = ⟨#[45]⟩ := by
      obtain ⟨⟨l⟩⟩ := s
      cases l with
      | nil => exact absurd p7 (by simp [ByteArray.size])
      | cons x l => cases l with
        | nil => exact congrArg (fun x => ByteArray.mk #[x]) (show x = 45 from p3)
        | cons y l => exact absurd p7 (by simp [ByteArray.size])
    clear hb h0 ht p0 p1 p2 p3 p5 p6 p7
    go_enter Tryz.func23, Tryz.ntmps23
    go_wp2
    exact post_z1 (p := 2) (u := 3) (by kernel_rfl) rfl rfl rfl (Cel.new w _ _) ⟨rfl, (Below.refl _ _).alloc (Nat.le_refl _) _⟩
  have hs : 0 < t.size := by omega
  have g0 : ¬ (t.size : Int) < 1 := by omega
  by_cases h1 : 60 < t.size
  · have g1 : (t.size : Int) > 60 := by omega
    clear hb h0 h1
    go_enter Tryz.func23, Tryz.ntmps23
    go_wp2
    exact post_z1 (p := 2) (u := 3) (by kernel_rfl) rfl rfl rfl (Cel.new w _ _) ⟨rfl, (Below.refl _ _).alloc (Nat.le_refl _) _⟩
  · have g1 : ¬ (t.size : Int) > 60 := by omega
    have h2 : lm (byts t) 0 = 48 := by omega
    have k3 : (t[0]).toNat = 48 := by rw [byts_at t 0 hs, h2]
    have z1 : ((t[0]).toNat : Int) = 48 := by omega
    have z2 : t[0] = 48 := UInt8.toNat.inj k3
    clear hb h0 h1 h2 k3
    go_enter Tryz.func23, Tryz.ntmps23
    go_wp2
    all_goals exact post_z1 (p := 2) (u := 3) (by kernel_rfl) rfl rfl rfl (Cel.new w _ _) ⟨rfl, (Below.refl _ _).alloc (Nat.le_refl _) _⟩
end Go.Proofs.YtkmlknaofnomeaaGreatDoor
namespace Go.Proofs.YtkmlknaofnomeaaGreatDoor
open Go.RowKit Go.Shelf

set_option maxRecDepth 100000 in
set_option maxHeartbeats 2000000 in
theorem parse_m0 (w : World) :
    Calls Tryz.prog 22 #[.string ⟨#[45, 48]⟩] w fun e w' => e = .returned (.tuple #[zI 0, .int .i64 4]) ∧ Below w.heap.size w w' := by
  have h : ¬ NatS (byts ⟨#[45, 48]⟩) := fun h => absurd (h.2.2.2 0 (by decide)).1 (by decide)
  have HI := shut (fun w => isnat_any ⟨#[45, 48]⟩ w false (by simp [h]))
  rw [zI_zero]
  clear h
  go_enter Tryz.func22, Tryz.ntmps22
  go_wp2_with fail
  obtain ⟨w0, hw0⟩ : ∃ w0, w0 = (w.alloc (.cells #[.bool false, .string { data := #[] }] 24)).alloc (.cells #[.bool false, .slice none 0 0] 54) := ⟨_, rfl⟩
  have k0 : Cel w0 w.heap.size [.bool false, .string { data := #[] }] 24 := by rw [hw0]; exact (Cel.new w _ _).alloc _
  have hb0 : Below w.heap.size w w0 := by rw [hw0]; go_grown
  rw [← hw0]
  clear hw0
  refine (strings_HasPrefix _ _ w0).mono ?_
  rintro e w1 ⟨rfl, hw⟩
  subst hw
  rw [show Lib.hasPrefix (ByteArray.mk #[45, 48]).data.toList (ByteArray.mk #[45]).data.toList = true from by decide]
  go_wp2_with fail
  refine (HI.out w1).mono ?_
  rintro e w2 ⟨rfl, b2⟩
  replace k0 := k0.below b2
  replace hb0 := Below.after hb0 b2
  clear b2
  have g0 := cel2_0' k0
  have g1 := cel2_1' k0
  have q0 := k0.frozen 0
  have q1 := k0.frozen 1
  go_wp2
  exact post_z1 (p := 2) (u := 3) (by kernel_rfl) rfl rfl rfl ((k0.set 0 _).set 1 _) ⟨rfl, (hb0.setCell (by simp) _).setCell (by simp) _⟩

theorem two_list (l : List UInt8) (h2 : l.length = 2) (h0 : lm (byts ⟨⟨l⟩⟩) 0 = 45) (h1 : lm (byts ((ByteArray.mk ⟨l⟩).extract 1 2)) 0 = 48) : ByteArray.mk ⟨l⟩ = ⟨#[45, 48]⟩ := by
  match l, h2, h0, h1 with
  | [x, y], _, h0, h1 =>
    have ex : x = 45 := UInt8.toNat.inj h0
    have ey : y = 48 := UInt8.toNat.inj h1
    rw [ex, ey]
theorem two_bytes (s : ByteArray) (h2 : s.size = 2) (h0 : lm (byts s) 0 = 45) (h1 : lm (byts (s.extract 1 2)) 0 = 48) : s = ⟨#[45, 48]⟩ := by
  obtain ⟨⟨l⟩⟩ := s
  exact two_list l h2 h0 h1

theorem parse_both (s : ByteArray) : ∃ n E : Int,
    (∀ w, Calls Tryz.prog 22 #[.string s] w fun e w' => e = .returned (.tuple #[zI n, .int .i64 E]) ∧ Below w.heap.size w w') ∧
    (∀ w, Calls Tryz.prog 23 #[.string s] w fun e w' => e = .returned (.tuple #[zI n, .int .i64 E]) ∧ Below w.heap.size w w') := by
  by_cases hn : 0 < s.size ∧ lm (byts s) 0 = 45
  · by_cases h0 : s = ⟨#[45, 48]⟩
    · subst h0
      exact ⟨0, 4, fun w => parse_m0 w, fun w => rpbad_neg _ w hn _ rfl (Or.inr (Or.inr (by decide)))⟩
    · by_cases h : NatS (byts (s.extract 1 s.size))
      · have h' := h
        obtain ⟨a1, a2, a3, a4⟩ := h'
        rw [byts_length] at a1 a2 a3 a4
        have h3 : lm (byts (s.extract 1 s.size)) 0 = 48 → False := fun e => by
          have l1 := a3 e
          have l2 : (s.extract 1 s.size).size = s.size - 1 := by rw [ByteArray.size_extract]; omega
          have l3 : s.size = 2 := by omega
          rw [l3] at e
          exact h0 (two_bytes _ l3 hn.2 e)
        exact ⟨_, 0, fun w => parse_neg s w hn h0 h, fun w => rparse_neg s w hn _ rfl a1 a2 h3 true ⟨fun _ => a4, fun _ => rfl⟩⟩
      · refine ⟨0, 4, fun w => parse_negbad s w hn h0 h, fun w => ?_⟩
        by_cases hb : (s.extract 1 s.size).size < 1 ∨ 60 < (s.extract 1 s.size).size ∨ lm (byts (s.extract 1 s.size)) 0 = 48
        · exact rpbad_neg s w hn _ rfl hb
        · refine rparse_neg s w hn _ rfl (by omega) (by omega) (by omega) false ⟨(fun h => by cases h), fun a => absurd ?_ h⟩
          unfold NatS
          rw [byts_length]
          exact ⟨by omega, by omega, by omega, a⟩
  · by_cases h : NatS (byts s)
    · have h' := h
      obtain ⟨a1, a2, a3, a4⟩ := h'
      rw [byts_length] at a1 a2 a3 a4
      exact ⟨_, 0, fun w => parse_pos s w hn h, fun w => rparse_pos s w hn a1 a2 a3 true ⟨fun _ => a4, fun _ => rfl⟩⟩
    · refine ⟨0, 4, fun w => parse_posbad s w hn h, fun w => ?_⟩
      by_cases hb : s.size < 1 ∨ 60 < s.size ∨ (lm (byts s) 0 = 48 ∧ 1 < s.size)
      · exact rpbad_pos s w hn hb
      · refine rparse_pos s w hn (by omega) (by omega) (by omega) false ⟨(fun h => by cases h), fun a => absurd ?_ h⟩
        unfold NatS
        rw [byts_length]
        exact ⟨by omega, by omega, by omega, a⟩
end Go.Proofs.YtkmlknaofnomeaaGreatDoor
