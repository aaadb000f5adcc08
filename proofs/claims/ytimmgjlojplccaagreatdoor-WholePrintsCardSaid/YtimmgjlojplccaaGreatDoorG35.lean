/-
  Package whole: rowOf.
  Package whole: Parse.
  gussetref02: Parse.
  gussetref02: Parse of a number below 0.
  gussetref02: Parse refuses what has no digit, more than 60, or a 0 ahead.
  Both Parses answer alike, whatever the text.
-/
import Derived.Test.YtimmgjlojplccaaGreatDoorG33
import Derived.Test.YtimmgjlojplccaaGreatDoorG34
import Derived.Test.YtimmgjlojplccaaGreatDoorG25
import Derived.Test.YtimmgjlojplccaaGreatDoorG31
namespace Go.Proofs.YtimmgjlojplccaaGreatDoor
open Go.RowKit Go.Shelf

/-- The number of the first k digits. -/
def decTo (b : List Nat) : Nat → Nat
  | 0 => 0
  | k + 1 => 10 * decTo b k + (lm b k - 48)
theorem decTo_lt {b : List Nat} : ∀ (k : Nat), (∀ j, j < k → lm b j ≤ 57) → decTo b k < 10 ^ k
  | 0, _ => by simp [decTo]
  | k + 1, h => by
    have h1 := decTo_lt k (fun j hj => h j (by omega))
    have h2 := h k (by omega)
    rw [Nat.pow_succ]
    unfold decTo
    omega
theorem lm_drop' (b : List Nat) (p j : Nat) : lm (b.drop p) j = lm b (p + j) := by
  unfold lm
  rw [List.getD_eq_getElem?_getD, List.getD_eq_getElem?_getD, List.getElem?_drop]
theorem decTo_add (b : List Nat) (p : Nat) : ∀ m, decTo b (p + m) = decTo b p * 10 ^ m + decTo (b.drop p) m
  | 0 => by simp [decTo]
  | m + 1 => by
    rw [show p + (m + 1) = (p + m) + 1 from rfl]
    show 10 * decTo b (p + m) + (lm b (p + m) - 48) = decTo b p * 10 ^ (m + 1) + (10 * decTo (b.drop p) m + (lm (b.drop p) m - 48))
    rw [decTo_add b p m, lm_drop', Nat.pow_succ, Nat.mul_add]
    have : 10 * (decTo b p * 10 ^ m) = decTo b p * (10 ^ m * 10) := by
      rw [Nat.mul_left_comm, Nat.mul_comm 10]
    rw [this]
    omega
theorem decTo_take (b : List Nat) (m : Nat) : ∀ k, k ≤ m → decTo (b.take m) k = decTo b k
  | 0, _ => rfl
  | k + 1, h => by
    unfold decTo
    rw [decTo_take b m k (by omega), lm_take (by omega)]

def strLen : Value → Nat
  | .string t => t.size
  | _ => 0
theorem ten_pow_19 : (10 : Nat) ^ 19 = 10000000000000000000 := by decide

theorem mul_lt_pow' {X Y b j k : Nat} (hx : X < b ^ j) (hy : Y < b ^ k) : X * Y < b ^ (j + k) := by
  rw [Nat.pow_add]
  exact Nat.mul_lt_mul'' hx hy
theorem mul_one_limb {D P : Nat} (hD : D < B64 ^ 4) (hP : P < B64) (v0 v1 : Value) (w : World) (r0 : Rd w v0 (M.digs B64 D)) (r1 : Rd w v1 [P]) :
    Calls Tryz.prog 26 #[v0, v1] w fun e w' => ∃ v, e = .returned (.tuple #[v, .int .i64 0]) ∧ Rd w' v (M.digs B64 (D * P)) ∧ Below w.heap.size w w' := by
  have := mul_any v0 v1 _ _ w r0 r1 (M.Low.digs B64_two _) (low_of_all (by simpa using hP)) (Nat.le_trans (M.digs_len_of_lt B64_two hD) (by omega)) (by simp)
  rwa [M.val_digs B64_two, show M.val B64 [P] = P from by rw [M.val_cons, M.val_nil]; omega] at this
theorem add_one_limb {D V : Nat} (hD : D < B64 ^ (4 + 1)) (hV : V < B64) (v0 v1 : Value) (w : World) (r0 : Rd w v0 (M.digs B64 D)) (r1 : Rd w v1 [V]) :
    Calls Tryz.prog 29 #[v0, v1] w fun e w' => ∃ v, e = .returned (.tuple #[v, .int .i64 0]) ∧ Rd w' v (M.digs B64 (D + V)) ∧ Below w.heap.size w w' := by
  have := add_any v0 v1 _ _ w r0 r1 (M.Low.digs B64_two _) (low_of_all (by simpa using hV)) (Nat.le_trans (M.digs_len_of_lt B64_two hD) (by omega)) (by simp)
  rwa [M.val_digs B64_two, show M.val B64 [V] = V from by rw [M.val_cons, M.val_nil]; omega] at this

set_option maxRecDepth 100000 in
set_option maxHeartbeats 4000000 in
theorem rowOf_any (s : ByteArray) (w : World) (hs : s.size ≤ 60) (hd : ∀ j, j < s.size → 48 ≤ lm (byts s) j ∧ lm (byts s) j ≤ 57) :
    Calls Tryz.prog 44 #[.string s] w fun e w' => ∃ v, e = .returned v ∧ Rd w' v (M.digs B64 (decTo (byts s) s.size)) ∧ Below w.heap.size w w' := by
  have HD := shut hd
  clear hd
  go_enter Tryz.func44, Tryz.ntmps44
  go_wp2
  go_loopw [0, 3] (fun sv rv wr => ∃ (p : Nat) (t : ByteArray), p ≤ s.size ∧ sv = .string t ∧ t.size = s.size - p ∧ Hid (byts t = (byts s).drop p) ∧ Rd wr rv (M.digs B64 (decTo (byts s) p)) ∧ Below w.heap.size w wr) (fun sv _ _ => strLen sv)
  case atStart => exact ⟨0, s, Nat.zero_le _, rfl, by omega, by show _ = _; rw [List.drop_zero], rd_none w, Below.refl _ _⟩
  case round =>
    obtain ⟨p, t, hp, rfl, htl, HB, hr, bb⟩ := hrel
    obtain ⟨ar, cr, rfl, -, -⟩ := id hr
    by_cases h0 : t.size = 0
    · have hps : p = s.size := by omega
      subst hps
      go_wp2
      go_ret
      exact ⟨_, rfl, hr, bb⟩
    · obtain ⟨m, hm⟩ : ∃ m, m = min 19 t.size := ⟨_, rfl⟩
      have hm0 : 0 < m := by omega
      have hm1 : m ≤ 19 := by omega
      have hm2 : m ≤ t.size := by omega
      have hmi : (min 19 (t.size : Int)) = (m : Int) := by omega
      have hmn : min m t.size = m := by omega
      have hpos : (t.size : Int) > 0 := by omega
      have hps : p + m ≤ s.size := by omega
      have HTL : Hid (t.size - m = s.size - (p + m)) := by show _ = _; omega
      have hcv := Lib.run_convert_string_bytes (P := Tryz.prog) wr 9 59 5 (t.extract 0 m) Tryz.underlying9 Tryz.underlying59 Tryz.underlying5
      have hsz : (t.extract 0 m).size = m := by rw [ByteArray.size_extract]; omega
      have hbt : byts (t.extract 0 m) = (byts t).take m := by rw [byts_extract, List.drop_zero]
      have hcell : ∀ j, j < m → (Lib.bytesWorld wr 5 (t.extract 0 m)).cell? ⟨wr.heap.size, j, none⟩ = some (.int .u8 (lm ((byts s).drop p) j : Nat)) := fun j hj => by
        rw [Lib.bytesWorld_cell wr 5 (t.extract 0 m) j (by omega), byts_at' (t.extract 0 m) j (by omega), hbt, lm_take hj, HB.out]
      have hb1 := Below.bytes wr 5 (t.extract 0 m)
      have HC := shut hcell
      have HX : Hid (byts (t.extract m t.size) = (byts s).drop (p + m)) := by
        show _ = _
        rw [byts_extract, List.take_of_length_le (by rw [byts_length]; exact Nat.le_refl _), HB.out, List.drop_drop]
      have HSX : Hid ((t.extract m t.size).size = t.size - m) := by show _ = _; rw [ByteArray.size_extract]; omega
      have HDD : Hid (∀ j, j < m → 48 ≤ lm ((byts s).drop p) j ∧ lm ((byts s).drop p) j ≤ 57) := fun j hj => by rw [lm_drop']; exact HD.out _ (by omega)
      rw [hsz] at hcv
      have HM := shut hm
      clear hcell hbt hm htl hsz
      generalize Lib.bytesWorld wr 5 (t.extract 0 m) = w1 at *
      go_wp2
      generalize t.extract m t.size = t' at *
      go_loopw [5, 6, 24] (fun v pw i wq => ∃ k V P : Nat, k ≤ m ∧ i = .int .i64 (k : Nat) ∧ v = .int .u64 (V : Nat) ∧ pw = .int .u64 (P : Nat) ∧ Hid (V = decTo ((byts s).drop p) k ∧ P = 10 ^ k) ∧ wq = w1) (fun _ _ i _ => m - (intOf i).toNat)
      case atStart => exact ⟨0, 0, 1, by omega, rfl, rfl, rfl, ⟨rfl, rfl⟩, rfl⟩
      case round =>
        obtain ⟨k, V, P, hk, rfl, rfl, rfl, HVP, rfl⟩ := hrel
        by_cases hlt : k < m
        · have q1 := HC.out k hlt
          obtain ⟨hx1, hx2⟩ := HDD.out k hlt
          have hV : V < 1000000000000000000 := by
            have e := HVP.out.1
            have l := decTo_lt (b := (byts s).drop p) k (fun j hj => (HDD.out j (by omega)).2)
            have l2 : 10 ^ k ≤ 10 ^ 18 := Nat.pow_le_pow_right (by omega) (by omega)
            have l3 : (10 : Nat) ^ 18 = 1000000000000000000 := by decide
            omega
          have hP : P ≤ 1000000000000000000 := by
            have e := HVP.out.2
            have l2 : 10 ^ k ≤ 10 ^ 18 := Nat.pow_le_pow_right (by omega) (by omega)
            have l3 : (10 : Nat) ^ 18 = 1000000000000000000 := by decide
            omega
          have HN : Hid (10 * V + (lm ((byts s).drop p) k - 48) = decTo ((byts s).drop p) (k + 1) ∧ P * 10 = 10 ^ (k + 1)) := by
            refine ⟨?_, ?_⟩
            · rw [HVP.out.1]; rfl
            · rw [HVP.out.2, Nat.pow_succ]
          generalize lm ((byts s).drop p) k = x at q1 hx1 hx2 HN
          have hlt' : (k : Int) < (m : Int) := by omega
          have y1 : IntKind.u64.wrap (10 * (V : Int)) = ((10 * V : Nat) : Int) := by simp only [IntKind.wrap_u64]; omega
          have y2 : IntKind.u8.wrap ((x : Int) - 48) = ((x - 48 : Nat) : Int) := by simp only [IntKind.wrap_u8]; omega
          have y3 : IntKind.u64.wrap ((x - 48 : Nat) : Int) = ((x - 48 : Nat) : Int) := by simp only [IntKind.wrap_u64]; omega
          have y4 : IntKind.u64.wrap (((10 * V : Nat) : Int) + ((x - 48 : Nat) : Int)) = ((10 * V + (x - 48) : Nat) : Int) := by simp only [IntKind.wrap_u64]; omega
          have y5 : IntKind.u64.wrap ((P : Int) * 10) = ((P * 10 : Nat) : Int) := by simp only [IntKind.wrap_u64]; omega
          generalize hA : ((10 * V : Nat) : Int) = A at *
          generalize hBx : ((x - 48 : Nat) : Int) = Bx at *
          generalize hE : ((10 * V + (x - 48) : Nat) : Int) = E at *
          generalize hF : ((P * 10 : Nat) : Int) = F at *
          have HE := shut hE
          have HF := shut hF
          clear hA hBx hE hF HVP HC HDD HD HB HX HSX HTL HM
          go_wp2
          exact ⟨⟨k + 1, 10 * V + (x - 48), P * 10, by omega, by go_num, by rw [HE.out], by rw [HF.out], HN, trivial⟩, by simp [intOf]; omega⟩
        · have hkm : k = m := by omega
          subst hkm
          obtain ⟨eV, eP⟩ := HVP.out
          have hVl : V < B64 := by
            have l := decTo_lt (b := (byts s).drop p) k (fun j hj => (HDD.out j (by omega)).2)
            have l2 : 10 ^ k ≤ 10 ^ 19 := Nat.pow_le_pow_right (by omega) (by omega)
            rw [ten_pow_19] at l2
            unfold B64; omega
          have hPl : P < B64 := by
            have l2 : 10 ^ k ≤ 10 ^ 19 := Nat.pow_le_pow_right (by omega) (by omega)
            rw [ten_pow_19] at l2
            unfold B64; omega
          have hD : decTo (byts s) p < B64 ^ 4 := by
            have l := decTo_lt (b := byts s) p (fun j hj => (HD.out j (by omega)).2)
            have l2 : 10 ^ p ≤ 10 ^ 60 := Nat.pow_le_pow_right (by omega) (by omega)
            exact Nat.lt_of_lt_of_le l (Nat.le_trans l2 (by unfold B64; decide))
          have hdig : decTo (byts s) (p + k) = decTo (byts s) p * P + V := by rw [decTo_add, eV, eP]
          have HMul := shut (fun v0 v1 wx r0 r1 => mul_one_limb (D := decTo (byts s) p) (P := P) hD hPl v0 v1 wx r0 r1)
          have HAdd := shut (fun v0 v1 wx r0 r1 => add_one_limb (D := decTo (byts s) p * P) (V := V) (mul_lt_pow' hD (show P < B64 ^ 1 by rw [Nat.pow_one]; exact hPl)) hVl v0 v1 wx r0 r1)
          rw [← hdig] at HAdd
          have HX' := HX.out
          have HS' := HSX.out
          have HT' := HTL.out
          have HXH := shut HX'
          have HSZ : Hid (t'.size = s.size - (p + k)) := by show _ = _; omega
          have HLT : Hid (t'.size < t.size) := by show _ < _; omega
          have bb1 := Below.after bb hb1
          have hr1 := hr.below hb1
          generalize hDD : decTo (byts s) p = D at *
          generalize hDE : decTo (byts s) (p + k) = DE at *
          have HDE := shut hDE
          clear hDD hDE hdig HVP HC HDD HD HB HX HSX HTL HM HX' HS' HT' eV eP hD hVl hPl hmi hmn hcv hm0 hm1 hm2 hlt hk
          go_wp2_with fail
          obtain ⟨w2, hw2⟩ : ∃ w2, w2 = wr.alloc (.cells #[.int .u64 (P : Nat)] 56) := ⟨_, rfl⟩
          have b2 : Below wr.heap.size wr w2 := by rw [hw2]; exact (Below.refl _ _).alloc (Nat.le_refl _) _
          have rP : Rd w2 (.slice (some ⟨wr.heap.size, 0, none⟩) 1 1) [P] := by rw [hw2]; exact rd1 wr rfl P
          rw [← hw2]
          clear hw2
          refine (HMul.out _ _ w2 (hr1.below b2) rP).mono ?_
          rintro e w3 ⟨v3, rfl, r3, b3⟩
          obtain ⟨a3, c3, rfl, -, -⟩ := id r3
          have bb3 := Below.after (Below.after bb1 b2) b3
          clear hr hr1 HMul bb1 b2 b3 bb hb1 rP
          go_wp2_with fail
          obtain ⟨w4, hw4⟩ : ∃ w4, w4 = w3.alloc (.cells #[.int .u64 (V : Nat)] 56) := ⟨_, rfl⟩
          have b4 : Below w3.heap.size w3 w4 := by rw [hw4]; exact (Below.refl _ _).alloc (Nat.le_refl _) _
          have rV : Rd w4 (.slice (some ⟨w3.heap.size, 0, none⟩) 1 1) [V] := by rw [hw4]; exact rd1 w3 rfl V
          rw [← hw4]
          clear hw4
          refine (HAdd.out _ _ w4 (r3.below b4) rV).mono ?_
          rintro e w5 ⟨v5, rfl, r5, b5⟩
          obtain ⟨a5, c5, rfl, -, -⟩ := id r5
          have bb5 := Below.after (Below.after bb3 b4) b5
          clear r3 HAdd bb3 b4 b5 rV
          have R5 : Hid (Rd w5 (.slice a5 (M.digs B64 DE).length c5) (M.digs B64 (decTo (byts s) (p + k)))) := by
            show Rd _ _ _
            rw [HDE.out]; exact r5
          clear r5 HDE
          go_wp2
          exact ⟨⟨p + k, t', hps, rfl, HSZ.out, HXH, R5.out, bb5⟩, HLT.out⟩
end Go.Proofs.YtimmgjlojplccaaGreatDoor
namespace Go.Proofs.YtimmgjlojplccaaGreatDoor
open Go.RowKit Go.Shelf

theorem pfx (s : ByteArray) : Lib.hasPrefix s.data.toList (ByteArray.mk #[45]).data.toList = decide (0 < s.size ∧ lm (byts s) 0 = 45) := by
  obtain ⟨⟨l⟩⟩ := s
  cases l with
  | nil => rfl
  | cons x l =>
    have e : lm (byts ⟨⟨x :: l⟩⟩) 0 = x.toNat := rfl
    rw [e]
    have h0 : 0 < (ByteArray.mk ⟨x :: l⟩).size := by show 0 < (x :: l).length; simp
    by_cases hx : x = 45
    · subst hx
      have : (45 : UInt8).toNat = 45 := rfl
      simp only [h0, this, and_self, decide_true]
      rfl
    · have hx' : ¬ x.toNat = 45 := fun h => hx (UInt8.toNat.inj h)
      simp only [hx', and_false, decide_false]
      simp [Lib.hasPrefix, List.isPrefixOf]
      exact fun h => hx h.symm

theorem ne_m0 {s : ByteArray} (h : s ≠ ⟨#[45, 48]⟩) : (s.toList == [45, 48]) = false := by
  rw [beq_eq_false_iff_ne]
  intro e
  rw [ByteArray.toList_eq] at e
  apply h
  obtain ⟨⟨l⟩⟩ := s
  have e' : l = [45, 48] := e
  rw [e']

/-- What a text tells. -/
def Neg (b : List Nat) : Prop := 0 < b.length ∧ lm b 0 = 45
instance (b : List Nat) : Decidable (Neg b) := by unfold Neg; exact inferInstance
/-- Its digits. -/
def dgs (b : List Nat) : List Nat := if Neg b then b.drop 1 else b
def Okp (b : List Nat) : Prop := NatS (dgs b) ∧ ¬ (Neg b ∧ lm (dgs b) 0 = 48)
def pval (b : List Nat) : Int := sgn (decide (Neg b)) (decTo (dgs b) (dgs b).length)

theorem tell_row (neg : Bool) (v : Value) (w : World) {V : Nat} (hV : V < B64 ^ 4) (h : Rd w v (M.digs B64 V)) :
    Calls Tryz.prog 27 #[.agg #[.bool neg, v]] w fun e w' => e = .returned (zI (sgn neg V)) ∧ Below w.heap.size w w' := tell_dig neg (K := 4) (by omega) hV v w h
theorem dec_lt4 {b : List Nat} (h : NatS b) : decTo b b.length < B64 ^ 4 := by
  have l := decTo_lt (b := b) b.length (fun j hj => (h.2.2.2 j hj).2)
  have l2 : 10 ^ b.length ≤ 10 ^ 60 := Nat.pow_le_pow_right (by omega) h.2.1
  exact Nat.lt_of_lt_of_le l (Nat.le_trans l2 (by unfold B64; decide))

set_option maxRecDepth 100000 in
set_option maxHeartbeats 2000000 in
theorem parse_pos (s : ByteArray) (w : World) (hn : ¬ (0 < s.size ∧ lm (byts s) 0 = 45)) (h : NatS (byts s)) :
    Calls Tryz.prog 21 #[.string s] w fun e w' => e = .returned (.tuple #[zI (sgn false (decTo (byts s) s.size)), .int .i64 0]) ∧ Below w.heap.size w w' := by
  have hp := pfx s
  rw [decide_eq_false hn] at hp
  have HI := shut (fun w => isnat_any s w true (by simp [h]))
  have HRo := shut (fun w => rowOf_any s w (by have := h.2.1; rwa [byts_length] at this) (fun j hj => h.2.2.2 j (by rwa [byts_length])))
  have h4 := dec_lt4 h
  rw [byts_length] at h4
  have HT := shut (fun v w hr => tell_row false v w h4 hr)
  generalize hR : zI (sgn false (decTo (byts s) s.size)) = R at *
  obtain ⟨za, zb, rfl⟩ : ∃ a b, R = .agg #[.bool a, .string b] := ⟨_, _, hR.symm⟩
  have HPx := shut hp
  clear hR h4 h hn hp
  go_enter Tryz.func21, Tryz.ntmps21
  go_wp2_with fail
  obtain ⟨w0, hw0⟩ : ∃ w0, w0 = (w.alloc (.cells #[.bool false, .string { data := #[] }] 24)).alloc (.cells #[.bool false, .slice none 0 0] 49) := ⟨_, rfl⟩
  have k0 : Cel w0 w.heap.size [.bool false, .string { data := #[] }] 24 := by rw [hw0]; exact (Cel.new w _ _).alloc _
  have k1 : Cel w0 (w.heap.size + 1) [.bool false, .slice none 0 0] 49 := by
    rw [hw0]
    have := Cel.new (w.alloc (.cells #[.bool false, .string { data := #[] }] 24)) [.bool false, .slice none 0 0] 49
    simpa using this
  have hb0 : Below w.heap.size w w0 := by rw [hw0]; go_grown
  rw [← hw0]
  clear hw0
  refine (strings_HasPrefix _ _ w0).mono ?_
  rintro e w1 ⟨rfl, hw⟩
  subst hw
  rw [HPx.out]
  go_wp2_with fail
  refine (HI.out w1).mono ?_
  rintro e w2 ⟨rfl, b2⟩
  replace k0 := k0.below b2
  replace k1 := k1.below b2
  replace hb0 := Below.after hb0 b2
  clear b2
  go_wp2_with fail
  refine (HRo.out w2).mono ?_
  rintro e w3 ⟨v, rfl, rv, b3⟩
  obtain ⟨av, cv, rfl, -, -⟩ := id rv
  replace k0 := k0.below b3
  replace k1 := k1.below b3
  replace hb0 := Below.after hb0 b3
  clear b3
  have c0 := cel2_0' k1
  have c1 := cel2_1' k1
  have f1 := k1.frozen 1
  have e0 := cel2_0' (k1.set 1 (.slice av (M.digs B64 (decTo (byts s) s.size)).length cv))
  have e1 := cel2_1' (k1.set 1 (.slice av (M.digs B64 (decTo (byts s) s.size)).length cv))
  go_wp2_with fail
  have rx := (rdx_of_cel rv k1 (no_ints1 _ _ _ _)).setX 1 (.slice av (M.digs B64 (decTo (byts s) s.size)).length cv)
  obtain ⟨w4, hw4⟩ : ∃ w4, w4 = w3.setCell ⟨w.heap.size + 1, 1, none⟩ (.slice av (M.digs B64 (decTo (byts s) s.size)).length cv) := ⟨_, rfl⟩
  have k4 : Cel w4 w.heap.size [.bool false, .string { data := #[] }] 24 := by rw [hw4]; exact k0.other (by omega) _ _
  have b4 : Below w.heap.size w w4 := by rw [hw4]; exact hb0.setCell (by simp) _
  rw [← hw4] at rx ⊢
  clear hw4 c0 c1 f1 e0 e1 k0 k1 hb0 rv
  refine (HT.out _ w4 rx.rd).mono ?_
  rintro e w5 ⟨rfl, b5⟩
  replace k4 := k4.below b5
  replace b4 := Below.after b4 b5
  have g0 := cel2_0' k4
  have g1 := cel2_1' k4
  have q0 := k4.frozen 0
  have q1 := k4.frozen 1
  go_wp2
  exact post_z1 (p := 2) (u := 3) (by kernel_rfl) rfl rfl rfl ((k4.set 0 _).set 1 _) ⟨rfl, (b4.setCell (by simp) _).setCell (by simp) _⟩

set_option maxRecDepth 100000 in
set_option maxHeartbeats 2000000 in
theorem parse_posbad (s : ByteArray) (w : World) (hn : ¬ (0 < s.size ∧ lm (byts s) 0 = 45)) (h : ¬ NatS (byts s)) :
    Calls Tryz.prog 21 #[.string s] w fun e w' => e = .returned (.tuple #[zI 0, .int .i64 4]) ∧ Below w.heap.size w w' := by
  have hp := pfx s
  rw [decide_eq_false hn] at hp
  have HI := shut (fun w => isnat_any s w false (by simp [h]))
  rw [zI_zero]
  have HPx := shut hp
  clear h hn hp
  go_enter Tryz.func21, Tryz.ntmps21
  go_wp2_with fail
  obtain ⟨w0, hw0⟩ : ∃ w0, w0 = (w.alloc (.cells #[.bool false, .string { data := #[] }] 24)).alloc (.cells #[.bool false, .slice none 0 0] 49) := ⟨_, rfl⟩
  have k0 : Cel w0 w.heap.size [.bool false, .string { data := #[] }] 24 := by rw [hw0]; exact (Cel.new w _ _).alloc _
  have k1 : Cel w0 (w.heap.size + 1) [.bool false, .slice none 0 0] 49 := by
    rw [hw0]
    have := Cel.new (w.alloc (.cells #[.bool false, .string { data := #[] }] 24)) [.bool false, .slice none 0 0] 49
    simpa using this
  have hb0 : Below w.heap.size w w0 := by rw [hw0]; go_grown
  rw [← hw0]
  clear hw0
  refine (strings_HasPrefix _ _ w0).mono ?_
  rintro e w1 ⟨rfl, hw⟩
  subst hw
  rw [HPx.out]
  go_wp2_with fail
  refine (HI.out w1).mono ?_
  rintro e w2 ⟨rfl, b2⟩
  replace k0 := k0.below b2
  replace hb0 := Below.after hb0 b2
  clear b2
  have g0 := cel2_0' k0
  have g1 := cel2_1' k0
  have q0 := k0.frozen 0
  have q1 := k0.frozen 1
  go_wp2
  exact post_z1 (p := 2) (u := 3) (by kernel_rfl) rfl rfl rfl ((k0.set 0 _).set 1 _) ⟨rfl, (hb0.setCell (by simp) _).setCell (by simp) _⟩

set_option maxRecDepth 100000 in
set_option maxHeartbeats 2000000 in
theorem parse_neg (s : ByteArray) (w : World) (hn : 0 < s.size ∧ lm (byts s) 0 = 45) (h0 : s ≠ ⟨#[45, 48]⟩) (h : NatS (byts (s.extract 1 s.size))) :
    Calls Tryz.prog 21 #[.string s] w fun e w' => e = .returned (.tuple #[zI (sgn true (decTo (byts (s.extract 1 s.size)) (s.extract 1 s.size).size)), .int .i64 0]) ∧ Below w.heap.size w w' := by
  have hp := pfx s
  rw [decide_eq_true hn] at hp
  have hs1 : ¬ (s.size : Int) < 1 := by omega
  have hs2 : 1 ≤ s.size := by omega
  have hne := ne_m0 h0
  have hne' : ¬ s.toList = [45, 48] := by simpa using hne
  obtain ⟨t, ht⟩ : ∃ t, t = s.extract 1 s.size := ⟨_, rfl⟩
  rw [← ht] at h ⊢
  have HI := shut (fun w => isnat_any t w true (by simp [h]))
  have HRo := shut (fun w => rowOf_any t w (by have := h.2.1; rwa [byts_length] at this) (fun j hj => h.2.2.2 j (by rwa [byts_length])))
  have h4 := dec_lt4 h
  rw [byts_length] at h4
  have HT := shut (fun v w hr => tell_row true v w h4 hr)
  generalize hR : zI (sgn true (decTo (byts t) t.size)) = R at *
  obtain ⟨za, zb, rfl⟩ : ∃ a b, R = .agg #[.bool a, .string b] := ⟨_, _, hR.symm⟩
  have HPx := shut hp
  have HTT := shut ht
  clear hR h4 h hp ht
  go_enter Tryz.func21, Tryz.ntmps21
  go_wp2_with fail
  obtain ⟨w0, hw0⟩ : ∃ w0, w0 = (w.alloc (.cells #[.bool false, .string { data := #[] }] 24)).alloc (.cells #[.bool false, .slice none 0 0] 49) := ⟨_, rfl⟩
  have k0 : Cel w0 w.heap.size [.bool false, .string { data := #[] }] 24 := by rw [hw0]; exact (Cel.new w _ _).alloc _
  have k1 : Cel w0 (w.heap.size + 1) [.bool false, .slice none 0 0] 49 := by
    rw [hw0]
    have := Cel.new (w.alloc (.cells #[.bool false, .string { data := #[] }] 24)) [.bool false, .slice none 0 0] 49
    simpa using this
  have hb0 : Below w.heap.size w w0 := by rw [hw0]; go_grown
  rw [← hw0]
  clear hw0
  refine (strings_HasPrefix _ _ w0).mono ?_
  rintro e w1 ⟨rfl, hw⟩
  subst hw
  rw [HPx.out]
  have c0 := cel2_0' k1
  have f0 := k1.frozen 0
  go_wp2_with fail
  rw [← HTT.out]
  obtain ⟨wa, hwa⟩ : ∃ wa, wa = w1.setCell ⟨w.heap.size + 1, 0, none⟩ (.bool true) := ⟨_, rfl⟩
  have k0' : Cel wa w.heap.size [.bool false, .string { data := #[] }] 24 := by rw [hwa]; exact k0.other (by omega) _ _
  have k1' : Cel wa (w.heap.size + 1) [.bool true, .slice none 0 0] 49 := by rw [hwa]; exact k1.set 0 _
  have hb0' : Below w.heap.size w wa := by rw [hwa]; exact hb0.setCell (by simp) _
  rw [← hwa]
  clear hwa c0 f0 k0 k1 hb0
  have k0 := k0'
  have k1 := k1'
  have hb0 := hb0'
  clear k0' k1' hb0'
  refine (HI.out wa).mono ?_
  rintro e w2 ⟨rfl, b2⟩
  replace k0 := k0.below b2
  replace k1 := k1.below b2
  replace hb0 := Below.after hb0 b2
  clear b2
  go_wp2_with fail
  refine (HRo.out w2).mono ?_
  rintro e w3 ⟨v, rfl, rv, b3⟩
  obtain ⟨av, cv, rfl, -, -⟩ := id rv
  replace k0 := k0.below b3
  replace k1 := k1.below b3
  replace hb0 := Below.after hb0 b3
  clear b3
  have c0 := cel2_0' k1
  have c1 := cel2_1' k1
  have f1 := k1.frozen 1
  have e0 := cel2_0' (k1.set 1 (.slice av (M.digs B64 (decTo (byts t) t.size)).length cv))
  have e1 := cel2_1' (k1.set 1 (.slice av (M.digs B64 (decTo (byts t) t.size)).length cv))
  go_wp2_with fail
  have rx := (rdx_of_cel rv k1 (no_ints1 _ _ _ _)).setX 1 (.slice av (M.digs B64 (decTo (byts t) t.size)).length cv)
  obtain ⟨w4, hw4⟩ : ∃ w4, w4 = w3.setCell ⟨w.heap.size + 1, 1, none⟩ (.slice av (M.digs B64 (decTo (byts t) t.size)).length cv) := ⟨_, rfl⟩
  have k4 : Cel w4 w.heap.size [.bool false, .string { data := #[] }] 24 := by rw [hw4]; exact k0.other (by omega) _ _
  have b4 : Below w.heap.size w w4 := by rw [hw4]; exact hb0.setCell (by simp) _
  rw [← hw4] at rx ⊢
  clear hw4 c0 c1 f1 e0 e1 k0 k1 hb0 rv
  refine (HT.out _ w4 rx.rd).mono ?_
  rintro e w5 ⟨rfl, b5⟩
  replace k4 := k4.below b5
  replace b4 := Below.after b4 b5
  have g0 := cel2_0' k4
  have g1 := cel2_1' k4
  have q0 := k4.frozen 0
  have q1 := k4.frozen 1
  go_wp2
  exact post_z1 (p := 2) (u := 3) (by kernel_rfl) rfl rfl rfl ((k4.set 0 _).set 1 _) ⟨rfl, (b4.setCell (by simp) _).setCell (by simp) _⟩

set_option maxRecDepth 100000 in
set_option maxHeartbeats 2000000 in
theorem parse_negbad (s : ByteArray) (w : World) (hn : 0 < s.size ∧ lm (byts s) 0 = 45) (h0 : s ≠ ⟨#[45, 48]⟩) (h : ¬ NatS (byts (s.extract 1 s.size))) :
    Calls Tryz.prog 21 #[.string s] w fun e w' => e = .returned (.tuple #[zI 0, .int .i64 4]) ∧ Below w.heap.size w w' := by
  have hp := pfx s
  rw [decide_eq_true hn] at hp
  have hs1 : ¬ (s.size : Int) < 1 := by omega
  have hs2 : 1 ≤ s.size := by omega
  have hne := ne_m0 h0
  have hne' : ¬ s.toList = [45, 48] := by simpa using hne
  obtain ⟨t, ht⟩ : ∃ t, t = s.extract 1 s.size := ⟨_, rfl⟩
  rw [← ht] at h
  have HI := shut (fun w => isnat_any t w false (by simp [h]))
  rw [zI_zero]
  have HPx := shut hp
  have HTT := shut ht
  clear h hp ht
  go_enter Tryz.func21, Tryz.ntmps21
  go_wp2_with fail
  obtain ⟨w0, hw0⟩ : ∃ w0, w0 = (w.alloc (.cells #[.bool false, .string { data := #[] }] 24)).alloc (.cells #[.bool false, .slice none 0 0] 49) := ⟨_, rfl⟩
  have k0 : Cel w0 w.heap.size [.bool false, .string { data := #[] }] 24 := by rw [hw0]; exact (Cel.new w _ _).alloc _
  have k1 : Cel w0 (w.heap.size + 1) [.bool false, .slice none 0 0] 49 := by
    rw [hw0]
    have := Cel.new (w.alloc (.cells #[.bool false, .string { data := #[] }] 24)) [.bool false, .slice none 0 0] 49
    simpa using this
  have hb0 : Below w.heap.size w w0 := by rw [hw0]; go_grown
  rw [← hw0]
  clear hw0
  refine (strings_HasPrefix _ _ w0).mono ?_
  rintro e w1 ⟨rfl, hw⟩
  subst hw
  rw [HPx.out]
  have c0 := cel2_0' k1
  have f0 := k1.frozen 0
  go_wp2_with fail
  rw [← HTT.out]
  obtain ⟨wa, hwa⟩ : ∃ wa, wa = w1.setCell ⟨w.heap.size + 1, 0, none⟩ (.bool true) := ⟨_, rfl⟩
  have k0' : Cel wa w.heap.size [.bool false, .string { data := #[] }] 24 := by rw [hwa]; exact k0.other (by omega) _ _
  have k1' : Cel wa (w.heap.size + 1) [.bool true, .slice none 0 0] 49 := by rw [hwa]; exact k1.set 0 _
  have hb0' : Below w.heap.size w wa := by rw [hwa]; exact hb0.setCell (by simp) _
  rw [← hwa]
  clear hwa c0 f0 k0 k1 hb0
  have k0 := k0'
  have k1 := k1'
  have hb0 := hb0'
  clear k0' k1' hb0'
  refine (HI.out wa).mono ?_
  rintro e w2 ⟨rfl, b2⟩
  replace k0 := k0.below b2
  replace hb0 := Below.after hb0 b2
  clear b2
  have g0 := cel2_0' k0
  have g1 := cel2_1' k0
  have q0 := k0.frozen 0
  have q1 := k0.frozen 1
  go_wp2
  exact post_z1 (p := 2) (u := 3) (by kernel_rfl) rfl rfl rfl ((k0.set 0 _).set 1 _) ⟨rfl, (hb0.setCell (by simp) _).setCell (by simp) _⟩
end Go.Proofs.YtimmgjlojplccaaGreatDoor
namespace Go.Proofs.YtimmgjlojplccaaGreatDoor
open Go.RowKit Go.Shelf

theorem dec_lt8 {b : List Nat} {k : Nat} (hk : k ≤ 60) (h : ∀ j, j < k → lm b j ≤ 57) : decTo b k < D32 ^ 8 := by
  have l := decTo_lt (b := b) k h
  have l2 : 10 ^ k ≤ 10 ^ 60 := Nat.pow_le_pow_right (by omega) hk
  exact Nat.lt_of_lt_of_le l (Nat.le_trans l2 (by unfold D32; decide))
theorem lt9 {D : Nat} (h : D < D32 ^ 8) : 10 * D < D32 ^ 9 := by
  have e : D32 ^ 9 = D32 ^ 8 * D32 := Nat.pow_succ ..
  rw [e]
  generalize D32 ^ 8 = p at *
  unfold D32
  omega

end Go.Proofs.YtimmgjlojplccaaGreatDoor
namespace Go.Proofs.YtimmgjlojplccaaGreatDoor
open Go.RowKit Go.Shelf

end Go.Proofs.YtimmgjlojplccaaGreatDoor
namespace Go.Proofs.YtimmgjlojplccaaGreatDoor
open Go.RowKit Go.Shelf

end Go.Proofs.YtimmgjlojplccaaGreatDoor
namespace Go.Proofs.YtimmgjlojplccaaGreatDoor
open Go.RowKit Go.Shelf

set_option maxRecDepth 100000 in
set_option maxHeartbeats 2000000 in
theorem parse_m0 (w : World) :
    Calls Tryz.prog 21 #[.string ⟨#[45, 48]⟩] w fun e w' => e = .returned (.tuple #[zI 0, .int .i64 4]) ∧ Below w.heap.size w w' := by
  have h : ¬ NatS (byts ⟨#[45, 48]⟩) := fun h => absurd (h.2.2.2 0 (by decide)).1 (by decide)
  have HI := shut (fun w => isnat_any ⟨#[45, 48]⟩ w false (by simp [h]))
  rw [zI_zero]
  clear h
  go_enter Tryz.func21, Tryz.ntmps21
  go_wp2_with fail
  obtain ⟨w0, hw0⟩ : ∃ w0, w0 = (w.alloc (.cells #[.bool false, .string { data := #[] }] 24)).alloc (.cells #[.bool false, .slice none 0 0] 49) := ⟨_, rfl⟩
  have k0 : Cel w0 w.heap.size [.bool false, .string { data := #[] }] 24 := by rw [hw0]; exact (Cel.new w _ _).alloc _
  have hb0 : Below w.heap.size w w0 := by rw [hw0]; go_grown
  rw [← hw0]
  clear hw0
  refine (strings_HasPrefix _ _ w0).mono ?_
  rintro e w1 ⟨rfl, hw⟩
  subst hw
  rw [show Lib.hasPrefix (ByteArray.mk #[45, 48]).data.toList (ByteArray.mk #[45]).data.toList = true from by decide]
  go_wp2_with fail
  refine (HI.out w1).mono ?_
  rintro e w2 ⟨rfl, b2⟩
  replace k0 := k0.below b2
  replace hb0 := Below.after hb0 b2
  clear b2
  have g0 := cel2_0' k0
  have g1 := cel2_1' k0
  have q0 := k0.frozen 0
  have q1 := k0.frozen 1
  go_wp2
  exact post_z1 (p := 2) (u := 3) (by kernel_rfl) rfl rfl rfl ((k0.set 0 _).set 1 _) ⟨rfl, (hb0.setCell (by simp) _).setCell (by simp) _⟩

theorem two_list (l : List UInt8) (h2 : l.length = 2) (h0 : lm (byts ⟨⟨l⟩⟩) 0 = 45) (h1 : lm (byts ((ByteArray.mk ⟨l⟩).extract 1 2)) 0 = 48) : ByteArray.mk ⟨l⟩ = ⟨#[45, 48]⟩ := by
  match l, h2, h0, h1 with
  | [x, y], _, h0, h1 =>
    have ex : x = 45 := UInt8.toNat.inj h0
    have ey : y = 48 := UInt8.toNat.inj h1
    rw [ex, ey]
theorem two_bytes (s : ByteArray) (h2 : s.size = 2) (h0 : lm (byts s) 0 = 45) (h1 : lm (byts (s.extract 1 2)) 0 = 48) : s = ⟨#[45, 48]⟩ := by
  obtain ⟨⟨l⟩⟩ := s
  exact two_list l h2 h0 h1

end Go.Proofs.YtimmgjlojplccaaGreatDoor
