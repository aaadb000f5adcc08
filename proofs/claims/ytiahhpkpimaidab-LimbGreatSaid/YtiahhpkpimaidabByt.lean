/-
  A Nat's bytes; limb.limbOf.
-/
import Derived.Test.YtiahhpkpimaidabLive0
import Derived.Test.YtiahhpkpimaidabDiv64
import Derived.Test.YtiahhpkpimaidabProd0
namespace Go.Proofs.Ytiahhpkpimaidab
open Go.RowKit

/-- The bytes of a string, as they stand. -/
def byts (s : ByteArray) : List Nat := s.data.toList.map UInt8.toNat
/-- The number that they are, the highest first. -/
def natOf (s : ByteArray) : Nat := M.val 256 (byts s).reverse
theorem byts_length (s : ByteArray) : (byts s).length = s.size := by simp [byts]
theorem byts_low (s : ByteArray) : M.Low 256 (byts s) := by
  intro x hx
  simp only [byts, List.mem_map] at hx
  obtain ⟨u, _, rfl⟩ := hx
  exact u.toNat_lt
theorem Low_reverse {b : Nat} {xs : List Nat} (h : M.Low b xs) : M.Low b xs.reverse := fun x hx => h x (by simpa using hx)
theorem natOf_lt (s : ByteArray) : natOf s < 256 ^ s.size := by
  have := M.val_lt (by omega) (Low_reverse (byts_low s))
  rwa [List.length_reverse, byts_length] at this
theorem byts_at (s : ByteArray) (j : Nat) (h : j < s.size) : (s[j]).toNat = lm (byts s) j := by
  have h' : j < s.data.size := h
  simp only [lm, byts, List.getD_eq_getElem?_getD, List.getElem?_map, Array.getElem?_toList]
  rw [Array.getElem?_eq_getElem h']
  rfl
theorem byts_at' (s : ByteArray) (j : Nat) (h : j < s.size) : (s.data.toList.getD j 0).toNat = lm (byts s) j := by
  have h' : j < s.data.size := h
  simp only [lm, byts, List.getD_eq_getElem?_getD, List.getElem?_map, Array.getElem?_toList]
  rw [Array.getElem?_eq_getElem h']
  rfl

theorem orstep (x y k P : Nat) (hP : P = 2 ^ k) (hk : k ≤ 56) (hx : x < P) (hy : y < 256) :
    bits .or .u64 (x : Int) (IntKind.u64.wrap (IntKind.u64.wrap (y : Int) * (P : Int))) = ((x + y * P : Nat) : Int) := by
  have hP1 : 2 ^ k ≤ 2 ^ 56 := Nat.pow_le_pow_right (by omega) hk
  have hyP : y * P ≤ 255 * P := Nat.mul_le_mul_right _ (by omega)
  have h56 : (2 : Nat) ^ 56 = 72057594037927936 := by rfl
  rw [wrapIn y (by omega), ← Int.natCast_mul, wrapIn (y * P) (by rw [h56] at hP1; omega)]
  rw [bits_or_u64_nat _ _ (by rw [h56] at hP1; omega) (by rw [h56] at hP1; omega)]
  congr 1
  rw [hP] at hx ⊢
  rw [← Nat.shiftLeft_eq, Nat.or_comm, ← Nat.shiftLeft_add_eq_or_of_lt hx, Nat.add_comm]

theorem eight (s : ByteArray) (h : s.size = 8) : natOf s = lm (byts s) 7 + lm (byts s) 6 * 256 + lm (byts s) 5 * 65536 + lm (byts s) 4 * 16777216 + lm (byts s) 3 * 4294967296 + lm (byts s) 2 * 1099511627776 + lm (byts s) 1 * 281474976710656 + lm (byts s) 0 * 72057594037927936 := by
  have hl := byts_length s
  rw [h] at hl
  unfold natOf
  match hb : byts s, hl with
  | [a0, a1, a2, a3, a4, a5, a6, a7], _ =>
    simp only [List.reverse_cons, List.reverse_nil, List.nil_append, List.cons_append, M.val_cons, M.val_nil, lm, List.getD_cons_zero, List.getD_cons_succ]
    omega

set_option maxRecDepth 100000 in
set_option maxHeartbeats 2000000 in
theorem limbOf_8 (s : ByteArray) (h : s.size = 8) (w : World) : Calls Try.prog 27 #[.string s] w fun e w' => e = .returned (.int .u64 (natOf s : Nat)) ∧ Below w.heap.size w w' := by
  have hlo := fun j => lm_lt (by omega) (byts_low s) j
  have b0 := hlo 0; have b1 := hlo 1; have b2 := hlo 2; have b3 := hlo 3; have b4 := hlo 4; have b5 := hlo 5; have b6 := hlo 6; have b7 := hlo 7
  have E := shut (eight s h)
  have a0 := byts_at s 0 (by omega); have a1 := byts_at s 1 (by omega); have a2 := byts_at s 2 (by omega); have a3 := byts_at s 3 (by omega)
  have a4 := byts_at s 4 (by omega); have a5 := byts_at s 5 (by omega); have a6 := byts_at s 6 (by omega); have a7 := byts_at s 7 (by omega)
  generalize lm (byts s) 0 = x0 at *
  generalize lm (byts s) 1 = x1 at *
  generalize lm (byts s) 2 = x2 at *
  generalize lm (byts s) 3 = x3 at *
  generalize lm (byts s) 4 = x4 at *
  generalize lm (byts s) 5 = x5 at *
  generalize lm (byts s) 6 = x6 at *
  generalize lm (byts s) 7 = x7 at *
  have w7 : IntKind.u64.wrap (x7 : Int) = (x7 : Int) := wrapIn x7 (by omega)
  have o1 := orstep x7 x6 8 256 rfl (by omega) (by omega) b6
  have o2 := orstep (x7 + x6 * 256) x5 16 65536 rfl (by omega) (by omega) b5
  have o3 := orstep (x7 + x6 * 256 + x5 * 65536) x4 24 16777216 rfl (by omega) (by omega) b4
  have o4 := orstep (x7 + x6 * 256 + x5 * 65536 + x4 * 16777216) x3 32 4294967296 rfl (by omega) (by omega) b3
  have o5 := orstep (x7 + x6 * 256 + x5 * 65536 + x4 * 16777216 + x3 * 4294967296) x2 40 1099511627776 rfl (by omega) (by omega) b2
  have o6 := orstep (x7 + x6 * 256 + x5 * 65536 + x4 * 16777216 + x3 * 4294967296 + x2 * 1099511627776) x1 48 281474976710656 rfl (by omega) (by omega) b1
  have o7 := orstep (x7 + x6 * 256 + x5 * 65536 + x4 * 16777216 + x3 * 4294967296 + x2 * 1099511627776 + x1 * 281474976710656) x0 56 72057594037927936 rfl (by omega) (by omega) b0
  have O := shut (show bits .or .u64 (bits .or .u64 (bits .or .u64 (bits .or .u64 (bits .or .u64 (bits .or .u64 (bits .or .u64 (IntKind.u64.wrap (x7 : Int)) (IntKind.u64.wrap (IntKind.u64.wrap (x6 : Int) * 256))) (IntKind.u64.wrap (IntKind.u64.wrap (x5 : Int) * 65536))) (IntKind.u64.wrap (IntKind.u64.wrap (x4 : Int) * 16777216))) (IntKind.u64.wrap (IntKind.u64.wrap (x3 : Int) * 4294967296))) (IntKind.u64.wrap (IntKind.u64.wrap (x2 : Int) * 1099511627776))) (IntKind.u64.wrap (IntKind.u64.wrap (x1 : Int) * 281474976710656))) (IntKind.u64.wrap (IntKind.u64.wrap (x0 : Int) * 72057594037927936)) = ((natOf s : Nat) : Int) from by
    rw [w7]
    refine Eq.trans ?_ (o7.trans (by rw [E.out]))
    refine congrArg (fun t => bits .or .u64 t _) ?_
    refine Eq.trans ?_ o6
    refine congrArg (fun t => bits .or .u64 t _) ?_
    refine Eq.trans ?_ o5
    refine congrArg (fun t => bits .or .u64 t _) ?_
    refine Eq.trans ?_ o4
    refine congrArg (fun t => bits .or .u64 t _) ?_
    refine Eq.trans ?_ o3
    refine congrArg (fun t => bits .or .u64 t _) ?_
    refine Eq.trans ?_ o2
    exact congrArg (fun t => bits .or .u64 t _) o1)
  clear o1 o2 o3 o4 o5 o6 o7 w7 b0 b1 b2 b3 b4 b5 b6 b7 hlo E
  have A : Hid (∀ (h0 : 0 < s.size) (h1 : 1 < s.size) (h2 : 2 < s.size) (h3 : 3 < s.size) (h4 : 4 < s.size) (h5 : 5 < s.size) (h6 : 6 < s.size) (h7 : 7 < s.size), (s[0]).toNat = x0 ∧ (s[1]).toNat = x1 ∧ (s[2]).toNat = x2 ∧ (s[3]).toNat = x3 ∧ (s[4]).toNat = x4 ∧ (s[5]).toNat = x5 ∧ (s[6]).toNat = x6 ∧ (s[7]).toNat = x7) := fun _ _ _ _ _ _ _ _ => ⟨a0, a1, a2, a3, a4, a5, a6, a7⟩
  clear a0 a1 a2 a3 a4 a5 a6 a7
  go_enter Try.func27, Try.ntmps27
  go_wp2
  go_quiet (fail)
  go_wp2
  go_ret
  obtain ⟨a0, a1, a2, a3, a4, a5, a6, a7⟩ := A.out (by omega) (by omega) (by omega) (by omega) (by omega) (by omega) (by omega) (by omega)
  refine ⟨?_, below_drewN (Below.refl _ _) _⟩
  refine congrArg (fun t => Ending.returned (Value.int .u64 t)) ?_
  rw [← O.out, ← a0, ← a1, ← a2, ← a3, ← a4, ← a5, ← a6, ← a7]

def LoAt (s : ByteArray) (k c : Nat) : Prop := c = M.val 256 ((byts s).take k).reverse
theorem LoAt.step {s : ByteArray} {k c : Nat} (hk : k < s.size) (h : LoAt s k c) : LoAt s (k + 1) (256 * c + lm (byts s) k) := by
  unfold LoAt at *
  rw [List.take_succ_eq_append_getElem (by rw [byts_length]; exact hk), List.reverse_append, List.reverse_singleton, List.singleton_append, M.val_cons, ← h]
  have : lm (byts s) k = (byts s)[k]'(by rw [byts_length]; exact hk) := by
    unfold lm
    rw [List.getD_eq_getElem?_getD, List.getElem?_eq_getElem (by rw [byts_length]; exact hk)]; rfl
  omega
theorem LoAt.lt {s : ByteArray} {k c : Nat} (h : LoAt s k c) : c < 256 ^ k := by
  rw [h]
  exact M.val_lt_pow (by omega) (Low_reverse ((byts_low s).take k)) (by simp; omega)

set_option maxRecDepth 100000 in
set_option maxHeartbeats 2000000 in
theorem limbOf_any (s : ByteArray) (h : s.size ≤ 8) (w : World) : Calls Try.prog 27 #[.string s] w fun e w' => e = .returned (.int .u64 (natOf s : Nat)) ∧ Below w.heap.size w w' := by
  by_cases h8 : s.size = 8
  · exact limbOf_8 s h8 w
  have h9 : s.size < 8 := by omega
  have hcv := Lib.run_convert_string_bytes (P := Try.prog) w 32 51 5 s Try.underlying32 Try.underlying51 Try.underlying5
  have hcell : ∀ j, j < s.size → (Lib.bytesWorld w 5 s).cell? ⟨w.heap.size, j, none⟩ = some (.int .u8 (lm (byts s) j : Nat)) := fun j hj => by rw [Lib.bytesWorld_cell w 5 s j hj, byts_at' s j hj]
  have hb := Below.bytes w 5 s
  have HC := shut hcell
  clear hcell
  generalize Lib.bytesWorld w 5 s = w1 at *
  have hd8 : ((s.size : Int) == 8) = false := by simp; omega
  go_enter Try.func27, Try.ntmps27
  go_wp2
  go_loop [3, 50] (fun c i => ∃ (k cc : Nat), k ≤ s.size ∧ i = .int .i64 k ∧ c = .int .u64 cc ∧ LoAt s k cc) (fun _ i => s.size - (intOf i).toNat)
  case atStart => exact ⟨0, 0, by omega, rfl, rfl, rfl⟩
  case round =>
    obtain ⟨k, cc, hk, rfl, rfl, hat⟩ := hrel
    by_cases hlt : k < s.size
    · have HST := shut (hat.step hlt)
      have hcl := hat.lt
      have hx := lm_lt (by omega) (byts_low s) k
      have q1 := HC.out k hlt
      have hc48 : cc < 256 ^ 7 := Nat.lt_of_lt_of_le hcl (Nat.pow_le_pow_right (by omega) (by omega))
      have h7 : (256 : Nat) ^ 7 = 72057594037927936 := by rfl
      rw [h7] at hc48
      generalize lm (byts s) k = x at *
      have w1 : IntKind.u64.wrap ((cc : Int) * 256) = ((cc * 2 ^ 8 : Nat) : Int) := by
        rw [show (cc : Int) * 256 = ((cc * 256 : Nat) : Int) by rw [Int.natCast_mul]; rfl, wrapIn _ (by omega)]
      have w2 : IntKind.u64.wrap (x : Int) = (x : Int) := wrapIn x (by omega)
      have o1 := or_add cc x 8 hx (by omega) (by omega)
      generalize hM : ((cc * 2 ^ 8 : Nat) : Int) = M8 at *
      clear hat hcl
      go_wp2
      exact ⟨⟨k + 1, 256 * cc + x, by omega, by go_num, by rw [show ((256 * cc + x : Nat) : Int) = ((cc * 2 ^ 8 + x : Nat) : Int) by omega, Int.natCast_add, hM], HST.out⟩, by simp [intOf]; omega⟩
    · have hke : k = s.size := by omega
      have HF : Hid (cc = natOf s) := by
        show cc = _
        rw [hat, hke, natOf, List.take_of_length_le (by rw [byts_length]; exact Nat.le_refl _)]
      clear hke hat
      go_wp2
      go_ret
      exact ⟨by rw [← HF.out]; rfl, hb⟩
end Go.Proofs.Ytiahhpkpimaidab
