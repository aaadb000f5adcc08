/-
  What these laws reach and the others do not.
  The digits of what Decimal tells, without point, sign and leading noughts; what the reference reads out of them; how near it is.
  What the reference reads out of the digits; how near the rounded number is.
  gussetlaw03.RatNear.
-/
import Derived.Test.YtdbnkcimcpnpdaaGreatDoorG55
import Derived.Test.YtdbnkcimcpnpdaaGreatDoorG59
import Derived.Test.YtdbnkcimcpnpdaaGreatDoorG61
namespace Go.Proofs.YtdbnkcimcpnpdaaGreatDoor
open Go.RowKit Go.Shelf

theorem bq_mk {z : Int} {m k : Nat} (hm : 0 < m) (hz : Bd z k) (hd : Bd (m : Int) k) : Bq (mkRat z m) k := by
 refine ⟨?_, ?_⟩
 ·rw [Q.num_mk hm]
  refine hz.div _ ?_
  rw [← Int.dvd_natAbs, Int.ofNat_dvd]
  exact Nat.gcd_dvd_left _ _
 ·rw [Q.den_mk hm]
  exact hd.nat (Nat.div_le_self _ _)
theorem bd_cast (a b : Nat) {k j : Nat} (ha : Bd (a : Int) k) (hb : Bd (b : Int) j) : Bd ((a * b : Nat) : Int) (k + j) := by
 rw [Int.natCast_mul]
 exact ha.mul hb
theorem bq_add {a b : Rat} {k : Nat} (ha : Bq a k) (hb : Bq b k) : Bq (a + b) (k + k + 1) := by
 rw [Rat.add_def']
 exact bq_mk (Nat.mul_pos a.den_pos b.den_pos) ((ha.1.mul hb.2).add (hb.1.mul ha.2)) ((bd_cast _ _ ha.2 hb.2).mono (by omega))
theorem bq_neg {a : Rat} {k : Nat} (ha : Bq a k) : Bq (-a) k := ⟨by rw [Rat.neg_num]; exact ha.1.neg, ha.2⟩
theorem bq_sub {a b : Rat} {k : Nat} (ha : Bq a k) (hb : Bq b k) : Bq (a - b) (k + k + 1) := by
 rw [Rat.sub_eq_add_neg]
 exact bq_add ha (bq_neg hb)

end Go.Proofs.YtdbnkcimcpnpdaaGreatDoor
namespace Go.Proofs.YtdbnkcimcpnpdaaGreatDoor
open Go.RowKit Go.Shelf

/-- One sign more. -/
def fstep (acc : List UInt8) (c : UInt8) : List UInt8 := if c = 46 ∨ (c = 48 ∧ acc = []) ∨ (c = 45 ∧ acc = []) then acc else acc ++ [c]
def flt (acc : List UInt8) (l : List UInt8) : List UInt8 := l.foldl fstep acc
theorem flt_app (acc l m : List UInt8) : flt acc (l ++ m) = flt (flt acc l) m := List.foldl_append ..
theorem flt_len (acc l : List UInt8) : (flt acc l).length ≤ acc.length + l.length := by
 induction l generalizing acc with
 | nil => simp [flt]
 | cons c l ih =>
  have h1 : (fstep acc c).length ≤ acc.length + 1 := by unfold fstep; split <;> simp
  have h2 := ih (fstep acc c)
  show (flt (fstep acc c) l).length ≤ _
  simp only [List.length_cons]
  omega
theorem flt_point (acc l m : List UInt8) : flt acc (l ++ 46 :: m) = flt acc (l ++ m) := by
 rw [flt_app, flt_app]
 show flt (fstep _ 46) m = _
 rw [show fstep (flt acc l) 46 = flt acc l from if_pos (Or.inl rfl)]
theorem flt_zeros (k : Nat) (m : List UInt8) : flt [] (List.replicate k 48 ++ m) = flt [] m := by
 induction k with
 | zero => rfl
 | succ k ih =>
  rw [List.replicate_succ]
  show flt (fstep [] 48) _ = _
  rw [show fstep [] 48 = [] from rfl]
  exact ih
theorem flt_digits (acc l : List UInt8) (ha : acc ≠ []) (h : ∀ x ∈ l, x ≠ 46 ∧ x ≠ 45) : flt acc l = acc ++ l := by
 induction l generalizing acc with
 | nil => simp [flt]
 | cons c l ih =>
  have hc := h c List.mem_cons_self
  show flt (fstep acc c) l = _
  have e : fstep acc c = acc ++ [c] := if_neg (by simp [ha, hc.1])
  rw [e, ih (acc ++ [c]) (by simp) (fun x hx => h x (List.mem_cons_of_mem _ hx))]
  simp
theorem flt_first (c : UInt8) (l : List UInt8) (hc : c ≠ 48 ∧ c ≠ 46 ∧ c ≠ 45) (h : ∀ x ∈ l, x ≠ 46 ∧ x ≠ 45) : flt [] (c :: l) = c :: l := by
 show flt (fstep [] c) l = _
 have e : fstep [] c = [c] := if_neg (by simp [hc.1, hc.2.1, hc.2.2])
 rw [e, flt_digits [c] l (by simp) h]
 rfl
/-- The point is passed over. -/
theorem flt_dpoint (T : ByteArray) (p : Nat) : flt [] (dpoint T p).data.toList = flt [] T.data.toList := by
 unfold dpoint
 split
 ·rfl
 ·have e1 : ((T.extract 0 (T.size - p) ++ ⟨#[46]⟩) ++ T.extract (T.size - p) T.size).data.toList = (T.extract 0 (T.size - p)).data.toList ++ 46 :: (T.extract (T.size - p) T.size).data.toList := by simp
  rw [e1, flt_point]
  congr 1
  have e2 : T.extract 0 (T.size - p) ++ T.extract (T.size - p) T.size = T := by
   rw [ByteArray.extract_append_extract]
   simp
  have e3 : (T.extract 0 (T.size - p) ++ T.extract (T.size - p) T.size).data.toList = T.data.toList := by rw [e2]
  rw [ByteArray.data_append, Array.toList_append] at e3
  exact e3
theorem strB_mem {l : List Nat} (h : ∀ t ∈ l, 48 ≤ t ∧ t < 58) : ∀ x ∈ (strB l).data.toList, x ≠ 46 ∧ x ≠ 45 := by
 intro x hx
 unfold strB at hx
 rw [List.mem_map] at hx
 obtain ⟨t, ht, rfl⟩ := hx
 have h1 := h t ht
 refine ⟨fun e => ?_, fun e => ?_⟩ <;>
 ·have h2 := congrArg UInt8.toNat e
  rw [UInt8.toNat_ofNat'] at h2
  first | (have h3 : (46 : UInt8).toNat = 46 := rfl; rw [h3] at h2; omega) | (have h3 : (45 : UInt8).toNat = 45 := rfl; rw [h3] at h2; omega)
theorem dt_in {V t : Nat} (h : t ∈ dt V) : 48 ≤ t ∧ t < 58 := by
 unfold dt at h
 rw [List.mem_reverse, List.mem_map] at h
 obtain ⟨x, hx, rfl⟩ := h
 have := M.digs_lt (b := 10) (by omega) V x hx
 omega
/-- Of a number above 0 they are its digits, of 0 there are none. -/
theorem flt_ptxt (M : Nat) : flt [] (ptxt false (strOf M)).data.toList = (strB (dt M)).data.toList := by
 unfold ptxt
 rw [natOf_strOf]
 by_cases h0 : M = 0
 ·subst h0
  rw [if_pos (show dt 0 = [] from rfl)]
  rfl
 ·have hd := dt_head (M + 1) M (by omega) (by omega)
  have hne : dt M ≠ [] := by intro e; rw [e] at hd; exact absurd hd.1 (by simp)
  rw [if_neg hne, if_neg (by simp)]
  obtain ⟨x, l, e⟩ : ∃ x l, dt M = x :: l := by
   cases h : dt M with
   | nil => exact absurd h hne
   | cons x l => exact ⟨x, l, rfl⟩
  have hx : x ≠ 48 := by
   have := hd.2
   rw [e] at this
   exact this
  have hin := dt_in (V := M) (t := x) (by rw [e]; exact List.mem_cons_self)
  have hall := strB_mem (l := l) (fun t ht => dt_in (V := M) (by rw [e]; exact List.mem_cons_of_mem _ ht))
  rw [e]
  show flt [] (UInt8.ofNat x :: (strB l).data.toList) = UInt8.ofNat x :: (strB l).data.toList
  refine flt_first _ _ ⟨fun h => ?_, fun h => ?_, fun h => ?_⟩ hall <;>
  ·have h2 := congrArg UInt8.toNat h
   rw [UInt8.toNat_ofNat'] at h2
   first | (have h3 : (48 : UInt8).toNat = 48 := rfl; rw [h3] at h2; omega) | (have h3 : (46 : UInt8).toNat = 46 := rfl; rw [h3] at h2; omega) | (have h3 : (45 : UInt8).toNat = 45 := rfl; rw [h3] at h2; omega)
theorem dfull_size (M p : Nat) : p + 1 ≤ (dfull M p).size := by
 unfold dfull
 rw [app_size, rep_size]
 omega
theorem flt_dfull (M p : Nat) : flt [] (dfull M p).data.toList = (strB (dt M)).data.toList := by
 have e : (dfull M p).data.toList = List.replicate (p + 1 - (ptxt false (strOf M)).size) 48 ++ (ptxt false (strOf M)).data.toList := by
  unfold dfull
  rw [rep48]
  simp
 rw [e, flt_zeros, flt_ptxt]
theorem flt_dtxt (n : Bool) (M p : Nat) : flt [] (dtxt (sgn n M) p).data.toList = (strB (dt M)).data.toList := by
 rw [dtxt_sgn]
 have h := dfull_size M p
 split
 ·have e : ((⟨#[45]⟩ : ByteArray) ++ dpoint (dfull M p) p).data.toList = 45 :: (dpoint (dfull M p) p).data.toList := by simp
  rw [e, show flt [] (45 :: (dpoint (dfull M p) p).data.toList) = flt [] (dpoint (dfull M p) p).data.toList from rfl, flt_dpoint, flt_dfull]
 ·rw [flt_dpoint, flt_dfull]
end Go.Proofs.YtdbnkcimcpnpdaaGreatDoor
namespace Go.Proofs.YtdbnkcimcpnpdaaGreatDoor
open Go.RowKit Go.Shelf

theorem rparse_ptxt (n0 : Bool) (s : ByteArray) (w : World) (o : OkZ n0 s) (z : s.size ≤ 24) :
  Calls Tryz.prog 30 #[.string (ptxt n0 s)] w fun e w' => e = .returned (.tuple #[.agg #[.bool n0, .string s], .int .i64 0]) ∧ Below w.heap.size w w' := by
 have hz : Value.agg #[.bool n0, .string s] = zI (sgn n0 (natOf s)) := zV_ok o
 rw [hz]
 have hlt : natOf s < 256 ^ 24 := Nat.lt_of_lt_of_le (natOf_lt s) (Nat.pow_le_pow_right (by omega) z)
 unfold ptxt
 by_cases h0 : natOf s = 0
 ·have hs : ¬ 0 < s.size := fun h => by have := natOf_pos o.1 h; omega
  have hn : n0 = false := by
   cases n0 with
   | false => rfl
   | true => exact absurd (o.2 rfl) hs
  rw [h0, hn, if_pos (show dt 0 = [] from rfl)]
  exact rparse_pos ⟨#[48]⟩ w (by decide) (by decide) (by decide) (fun _ => by decide) true ⟨fun _ j hj => by
   have : j = 0 := by have : j < 1 := hj; omega
   subst this
   decide, fun _ => rfl⟩
 ·have hp : 0 < natOf s := by omega
  have ns := dt_nats hp hlt
  have hne : dt (natOf s) ≠ [] := by
   intro e
   have := ns.1
   rw [e] at this
   simp at this
  rw [if_neg hne]
  obtain ⟨a1, a2, a3, a4⟩ := ns
  have hh := (dt_head (natOf s + 1) (natOf s) (by omega) hp).2
  cases n0 with
  | false =>
   rw [if_neg (by simp)]
   have := rparse_pos (strB (dt (natOf s))) w (by
    rw [byts_dt]
    intro h
    have := (dt_dig (natOf s) 0 a1).1
    omega) (by rw [strB_size]; exact a1) (by rw [strB_size]; exact a2) (by rw [byts_dt]; exact fun h => absurd h hh) true ⟨fun _ j hj => by rw [byts_dt]; exact a4 j (by rwa [strB_size] at hj), fun _ => rfl⟩
   rw [if_pos rfl, if_pos rfl, byts_dt, strB_size, dt_dec _ _ (Nat.lt_succ_self _)] at this
   exact this
  | true =>
   rw [if_pos rfl]
   have := rparse_neg (strB (45 :: dt (natOf s))) w (by rw [byts_mdt, strB_size]; exact ⟨by simp, rfl⟩) _ (tail_dt (natOf s)) (by rw [strB_size]; exact a1) (by rw [strB_size]; exact a2) (by rw [byts_dt]; exact hh) true ⟨fun _ j hj => by rw [byts_dt]; exact a4 j (by rwa [strB_size] at hj), fun _ => rfl⟩
   rw [if_pos rfl, if_pos rfl, byts_dt, strB_size, dt_dec _ _ (Nat.lt_succ_self _)] at this
   exact this
theorem rnd_near (N : Int) (D : Nat) (hD : 0 < D) : 2 * (rnd N D * (D : Int) - N) ≤ (D : Int) ∧ 2 * (N - rnd N D * (D : Int)) ≤ (D : Int) := by
 have e := Int.mul_ediv_add_emod N (D : Int)
 have h1 := Int.emod_nonneg N (show (D : Int) ≠ 0 by omega)
 have h2 := Int.emod_lt_of_pos N (show (0 : Int) < (D : Int) by omega)
 unfold rnd
 rw [Int.mul_comm] at e
 generalize N / (D : Int) = q at *
 generalize N % (D : Int) = r at *
 split
 ·rw [Int.add_mul]
  generalize q * (D : Int) = P at *
  omega
 ·generalize q * (D : Int) = P at *
  omega
theorem near_le (M z W D : Int) (hW : 0 < W) (hD : 0 < D) (h : 2 * (M * D - z * W) ≤ D) : Rat.divInt M W - Rat.divInt z D ≤ Rat.divInt 1 (W * 2) := by
 have hWD : 0 < W * D := Int.mul_pos hW hD
 rw [Rat.le_iff_sub_nonneg, Rat.divInt_sub_divInt _ _ (by omega) (by omega), Rat.divInt_sub_divInt _ _ (by omega) (by omega), Rat.divInt_nonneg_iff_of_pos_right (Int.mul_pos (by omega) hWD)]
 have e : 1 * (W * D) - (M * D - z * W) * (W * 2) = W * (D - 2 * (M * D - z * W)) := by grind
 rw [e]
 exact Int.mul_nonneg (by omega) (by omega)
/-- The number that it is far from another, told without its sign. -/
theorem cmp_near (n : Bool) (s d : ByteArray) (p : Nat) (o : OkQ n s d) (t : Rat) (fN : Bool) (fS fD : ByteArray) (of : OkQ fN fS fD) (ht : qOf fN fS fD = t) (he : t = Rat.divInt (rnd (zOf n s * ((10 ^ p : Nat) : Int)) (natOf d)) ((10 ^ p : Nat) : Int) - qOf n s d) :
  Q.cmp (qOf false fS fD) (Rat.divInt 1 (((10 ^ p : Nat) : Int) * 2)) ≤ 0 := by
 have hD : (0 : Int) < ((natOf d : Nat) : Int) := by have := o.2.2.1; omega
 have hW : (0 : Int) < ((10 ^ p : Nat) : Int) := by have : 0 < 10 ^ p := Nat.pow_pos (by omega); omega
 have hr := rnd_near (zOf n s * ((10 ^ p : Nat) : Int)) (natOf d) o.2.2.1
 generalize rnd (zOf n s * ((10 ^ p : Nat) : Int)) (natOf d) = M at *
 generalize ((10 ^ p : Nat) : Int) = W at *
 have hq : qOf n s d = Rat.divInt (zOf n s) ((natOf d : Nat) : Int) := by unfold qOf; rw [Rat.divInt_ofNat]
 rw [hq] at he
 have l1 : t ≤ Rat.divInt 1 (W * 2) := by rw [he]; exact near_le M (zOf n s) W _ hW hD hr.1
 have l2 : -t ≤ Rat.divInt 1 (W * 2) := by
  have := near_le (-M) (-zOf n s) W _ hW hD (by
   have := hr.2
   rw [Int.neg_mul, Int.neg_mul]
   omega)
  rw [he, Rat.neg_sub]
  rw [← Rat.neg_divInt, ← Rat.neg_divInt] at this
  have e : -(Rat.divInt M W) - -(Rat.divInt (zOf n s) ((natOf d : Nat) : Int)) = Rat.divInt (zOf n s) ((natOf d : Nat) : Int) - Rat.divInt M W := by
   rw [Rat.sub_eq_add_neg, Rat.neg_neg, Rat.add_comm, ← Rat.sub_eq_add_neg]
  rwa [e] at this
 have hx : qOf false fS fD = t ∨ qOf false fS fD = -t := by
  cases fN with
  | false => exact Or.inl ht
  | true =>
   refine Or.inr ?_
   rw [← ht]
   unfold qOf
   rw [Rat.neg_mkRat]
   have e : zOf true fS = -zOf false fS := rfl
   rw [e, Int.neg_neg]
 have hle : qOf false fS fD ≤ Rat.divInt 1 (W * 2) := by
  rcases hx with h | h <;> rw [h] <;> assumption
 unfold Q.cmp
 split
 ·omega
 ·rw [if_neg (Rat.not_lt.2 hle)]
  omega
end Go.Proofs.YtdbnkcimcpnpdaaGreatDoor
namespace Go.Proofs.YtdbnkcimcpnpdaaGreatDoor
open Go.RowKit Go.Shelf

theorem mem_ext {T : ByteArray} {i j : Nat} {x : UInt8} (h : x ∈ (T.extract i j).data.toList) : x ∈ T.data.toList := by
 rw [ByteArray.data_extract, Array.toList_extract] at h
 exact List.mem_of_mem_drop (List.mem_of_mem_take h)
theorem full_no (M p : Nat) : ∀ x ∈ (dfull M p).data.toList, x ≠ 45 := by
 intro x hx
 have e : (dfull M p).data.toList = List.replicate (p + 1 - (ptxt false (strOf M)).size) 48 ++ (ptxt false (strOf M)).data.toList := by
  unfold dfull
  rw [rep48]
  simp
 rw [e, List.mem_append] at hx
 rcases hx with h | h
 ·rw [List.mem_replicate] at h
  rw [h.2]
  decide
 ·unfold ptxt at h
  split at h
  ·have : x = 48 := by simpa using h
   rw [this]
   decide
  ·rw [if_neg (by simp)] at h
   exact (strB_mem (fun t ht => dt_in ht) x h).2
theorem point_no (M p : Nat) : ∀ x ∈ (dpoint (dfull M p) p).data.toList, x ≠ 45 := by
 intro x hx
 unfold dpoint at hx
 split at hx
 ·exact full_no M p x hx
 ·rw [ByteArray.data_append, Array.toList_append, ByteArray.data_append, Array.toList_append, List.mem_append, List.mem_append] at hx
  rcases hx with (h | h) | h
  ·exact full_no M p x (mem_ext h)
  ·have : x = 46 := by simpa using h
   rw [this]
   decide
  ·exact full_no M p x (mem_ext h)
theorem point_size (M p : Nat) : 0 < (dpoint (dfull M p) p).size := by
 have h := dfull_size M p
 unfold dpoint
 split
 ·omega
 ·rw [app_size, app_size]
  have : (ByteArray.mk #[46]).size = 1 := rfl
  omega
theorem point_le (M p : Nat) (hp : p ≤ 100) (hM : (strOf M).size ≤ 24) : (dpoint (dfull M p) p).size ≤ 500 := by
 have h1 : (ptxt false (strOf M)).size ≤ 73 := by
  unfold ptxt
  have := dt_size (strOf M) 24 hM
  split
  ·decide
  ·rw [if_neg (by simp), strB_size]
   omega
 have h2 : (dfull M p).size ≤ 174 := by
  unfold dfull
  rw [app_size, rep_size]
  omega
 unfold dpoint
 split
 ·omega
 ·rw [app_size, app_size]
  have e1 := ext_size (dfull M p) 0 ((dfull M p).size - p)
  have e2 := ext_size (dfull M p) ((dfull M p).size - p) (dfull M p).size
  have : (ByteArray.mk #[46]).size = 1 := rfl
  omega
/-- The sign stands ahead of all, if at all. -/
theorem txt_sign (n : Bool) (M p : Nat) : ∃ (b : Bool) (T : ByteArray), b = (n && decide (0 < (strOf M).size)) ∧ dtxt (sgn n M) p = (if b then ⟨#[45]⟩ ++ T else T) ∧ (∀ x ∈ T.data.toList, x ≠ 45) ∧ 0 < T.size := by
 refine ⟨_, dpoint (dfull M p) p, rfl, dtxt_sgn n M p, point_no M p, point_size M p⟩
theorem head_only (b : Bool) (T R : ByteArray) (hR : R = (if b then ⟨#[45]⟩ ++ T else T)) (hT : ∀ x ∈ T.data.toList, x ≠ 45) (i : Nat) (h : R.data.toList[i]? = some (45 : UInt8)) : i = 0 ∧ b = true := by
 cases b with
 | false =>
  rw [if_neg (by simp)] at hR
  rw [hR] at h
  exact absurd rfl (hT 45 (List.mem_of_getElem? h))
 | true =>
  rw [if_pos rfl] at hR
  have e : R.data.toList = 45 :: T.data.toList := by rw [hR]; simp
  rw [e] at h
  cases i with
  | zero => exact ⟨rfl, rfl⟩
  | succ i =>
   rw [List.getElem?_cons_succ] at h
   exact absurd rfl (hT 45 (List.mem_of_getElem? h))
def dgs (R : ByteArray) (i : Nat) : ByteArray := ⟨(flt [] (R.data.toList.take i)).toArray⟩
theorem dgs_empty {R : ByteArray} {i : Nat} (h : flt [] (R.data.toList.take i) = []) : dgs R i = ByteArray.empty := by unfold dgs; rw [h]; rfl
theorem dgs_ne {R : ByteArray} {i : Nat} (h : flt [] (R.data.toList.take i) ≠ []) : (dgs R i).toList.isEmpty = false := by
 rw [ByteArray.toList_eq]
 show (flt [] (R.data.toList.take i)).isEmpty = false
 simpa using h
theorem get_at (R : ByteArray) (i : Nat) (h : i < R.size) : R.data.toList[i]? = some (R[i]'h) := by
 have h' : i < R.data.size := h
 rw [Array.getElem?_toList, Array.getElem?_eq_getElem h']
 rfl
theorem dgs_step (R : ByteArray) (i : Nat) (h : i < R.size) : flt [] (R.data.toList.take (i + 1)) = fstep (flt [] (R.data.toList.take i)) (R[i]'h) := by
 rw [List.take_add_one, get_at R i h, flt_app]
 rfl
theorem ext_one (R : ByteArray) (i : Nat) (h : i < R.size) : (R.extract i (i + 1)).data.toList = [R[i]'h] := by
 rw [ByteArray.data_extract, Array.toList_extract]
 have h2 := get_at R i h
 have h3 : (R.data.toList.drop i).take 1 = [R[i]'h] := by
  have h4 : (R.data.toList.drop i)[0]? = some (R[i]'h) := by rw [List.getElem?_drop, Nat.add_zero]; exact h2
  cases e : R.data.toList.drop i with
  | nil => rw [e] at h4; simp at h4
  | cons a t =>
   rw [e] at h4
   simp at h4
   rw [h4]
   rfl
 simpa [List.extract_eq_take_drop] using h3
theorem dgs_cases (R : ByteArray) (hs : ∀ i : Nat, R.data.toList[i]? = some (45 : UInt8) → i = 0) (i : Nat) (h : i < R.size) : (R[i]'h = 46 ∧ dgs R (i + 1) = dgs R i) ∨ (R[i]'h = 48 ∧ dgs R i = ByteArray.empty ∧ dgs R (i + 1) = dgs R i) ∨ (R[i]'h = 45 ∧ dgs R i = ByteArray.empty ∧ dgs R (i + 1) = dgs R i) ∨ (¬ R[i]'h = 46 ∧ ¬ R[i]'h = 45 ∧ ((dgs R i).toList.isEmpty = false ∨ (dgs R i = ByteArray.empty ∧ ¬ R[i]'h = 48)) ∧ dgs R (i + 1) = dgs R i ++ R.extract i (i + 1)) := by
 have st := dgs_step R i h
 by_cases h46 : R[i]'h = 46
 ·refine Or.inl ⟨h46, ?_⟩
  unfold dgs
  rw [st, fstep, if_pos (Or.inl h46)]
 by_cases h45 : R[i]'h = 45
 ·have hi := hs i (by rw [get_at R i h, h45])
  subst hi
  refine Or.inr (Or.inr (Or.inl ⟨h45, rfl, ?_⟩))
  unfold dgs
  rw [st, fstep, if_pos (Or.inr (Or.inr ⟨h45, rfl⟩))]
 by_cases he : flt [] (R.data.toList.take i) = []
 ·by_cases h48 : R[i]'h = 48
  ·refine Or.inr (Or.inl ⟨h48, dgs_empty he, ?_⟩)
   unfold dgs
   rw [st, fstep, if_pos (Or.inr (Or.inl ⟨h48, he⟩))]
  ·refine Or.inr (Or.inr (Or.inr ⟨h46, h45, Or.inr ⟨dgs_empty he, h48⟩, ?_⟩))
   apply ByteArray.ext
   apply Array.ext'
   rw [ByteArray.data_append, Array.toList_append, ext_one R i h]
   show flt [] (R.data.toList.take (i + 1)) = flt [] (R.data.toList.take i) ++ _
   rw [st, fstep, if_neg (by simp [h46, h45, h48])]
 ·refine Or.inr (Or.inr (Or.inr ⟨h46, h45, Or.inl (dgs_ne he), ?_⟩))
  apply ByteArray.ext
  apply Array.ext'
  rw [ByteArray.data_append, Array.toList_append, ext_one R i h]
  show flt [] (R.data.toList.take (i + 1)) = flt [] (R.data.toList.take i) ++ _
  rw [st, fstep, if_neg (by simp [h46, he])]
theorem dgs_all (n : Bool) (M p : Nat) : dgs (dtxt (sgn n M) p) (dtxt (sgn n M) p).size = strB (dt M) := by
 apply ByteArray.ext
 apply Array.ext'
 show flt [] ((dtxt (sgn n M) p).data.toList.take (dtxt (sgn n M) p).size) = _
 rw [List.take_of_length_le (by show _ ≤ (dtxt (sgn n M) p).data.size; rw [Array.length_toList]; exact Nat.le_refl _)]
 exact flt_dtxt n M p
end Go.Proofs.YtdbnkcimcpnpdaaGreatDoor
