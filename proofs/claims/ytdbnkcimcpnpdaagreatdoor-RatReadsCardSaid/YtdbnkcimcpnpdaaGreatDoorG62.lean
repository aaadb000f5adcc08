/-
  Both read the same number out of any text, or refuse it alike.
  gussetlaw03: RatReads, walked.
-/
import Derived.Test.YtdbnkcimcpnpdaaGreatDoorG42
import Derived.Test.YtdbnkcimcpnpdaaGreatDoorG46
import Derived.Test.YtdbnkcimcpnpdaaGreatDoorG58
import Derived.Test.YtdbnkcimcpnpdaaGreatDoorG61
namespace Go.Proofs.YtdbnkcimcpnpdaaGreatDoor
open Go.RowKit Go.Shelf

theorem bd_sgn {n : Bool} {V : Nat} (h : V < B64 ^ 4) : Bd (sgn n V) 32 := by
 unfold Bd
 have e : B64 ^ 4 = 256 ^ 32 := by unfold B64; decide
 have a : (sgn n V).natAbs = V := by cases n <;> simp [sgn]
 rw [a, ← e]
 exact h
theorem parse_two (s : ByteArray) : ∃ n E : Int, (E = 0 ∨ E = 4) ∧ Bd n 32 ∧
  (∀ w, Calls Tryz.prog 54 #[.string s] w fun e w' => e = .returned (.tuple #[zI n, .int .i64 E]) ∧ Below w.heap.size w w') ∧
  (∀ w, Calls Tryz.prog 30 #[.string s] w fun e w' => e = .returned (.tuple #[zI n, .int .i64 E]) ∧ Below w.heap.size w w') := by
 by_cases hn : 0 < s.size ∧ lm (byts s) 0 = 45
 ·by_cases h0 : s = ⟨#[45, 48]⟩
  ·subst h0
   exact ⟨0, 4, Or.inr rfl, Bd.zero _, fun w => parse_m0 w, fun w => rpbad_neg _ w hn _ rfl (Or.inr (Or.inr (by decide)))⟩
  ·by_cases h : NatS (byts (s.extract 1 s.size))
   ·have h' := h
    obtain ⟨a1, a2, a3, a4⟩ := h'
    have hb := dec_lt4 h
    rw [byts_length] at a1 a2 a3 a4 hb
    have h3 : lm (byts (s.extract 1 s.size)) 0 = 48 → False := fun e => by
     have l1 := a3 e
     have l2 : (s.extract 1 s.size).size = s.size - 1 := by rw [ByteArray.size_extract]; omega
     have l3 : s.size = 2 := by omega
     rw [l3] at e
     exact h0 (two_bytes _ l3 hn.2 e)
    exact ⟨_, 0, Or.inl rfl, bd_sgn hb, fun w => parse_neg s w hn h0 h, fun w => rparse_neg s w hn _ rfl a1 a2 h3 true ⟨fun _ => a4, fun _ => rfl⟩⟩
   ·refine ⟨0, 4, Or.inr rfl, Bd.zero _, fun w => parse_negbad s w hn h0 h, fun w => ?_⟩
    by_cases hb : (s.extract 1 s.size).size < 1 ∨ 60 < (s.extract 1 s.size).size ∨ lm (byts (s.extract 1 s.size)) 0 = 48
    ·exact rpbad_neg s w hn _ rfl hb
    ·refine rparse_neg s w hn _ rfl (by omega) (by omega) (by omega) false ⟨(fun h => by cases h), fun a => absurd ?_ h⟩
     unfold NatS
     rw [byts_length]
     exact ⟨by omega, by omega, by omega, a⟩
 ·by_cases h : NatS (byts s)
  ·have h' := h
   obtain ⟨a1, a2, a3, a4⟩ := h'
   have hb := dec_lt4 h
   rw [byts_length] at a1 a2 a3 a4 hb
   exact ⟨_, 0, Or.inl rfl, bd_sgn hb, fun w => parse_pos s w hn h, fun w => rparse_pos s w hn a1 a2 a3 true ⟨fun _ => a4, fun _ => rfl⟩⟩
  ·refine ⟨0, 4, Or.inr rfl, Bd.zero _, fun w => parse_posbad s w hn h, fun w => ?_⟩
   by_cases hb : s.size < 1 ∨ 60 < s.size ∨ (lm (byts s) 0 = 48 ∧ 1 < s.size)
   ·exact rpbad_pos s w hn hb
   ·refine rparse_pos s w hn (by omega) (by omega) (by omega) false ⟨(fun h => by cases h), fun a => absurd ?_ h⟩
    unfold NatS
    rw [byts_length]
    exact ⟨by omega, by omega, by omega, a⟩
theorem occ1 (l : List UInt8) (c : UInt8) (i : Nat) : Lib.occAt l [c] i = true ↔ l[i]? = some c := by
 unfold Lib.occAt
 have h : (l.drop i)[0]? = l[i]? := by rw [List.getElem?_drop, Nat.add_zero]
 rw [← h]
 cases l.drop i with
 | nil => simp
 | cons a t =>
  have e : List.isPrefixOf [c] (a :: t) = (c == a) := by simp [List.isPrefixOf]
  rw [e, beq_iff_eq, List.getElem?_cons_zero, Option.some.injEq]
  exact eq_comm
theorem at47 (s : ByteArray) (i : Nat) (h : i < s.size) : s.data.toList[i]? = some 47 ↔ s[i]'h = 47 := by
 have h' : i < s.data.size := h
 rw [Array.getElem?_toList, Array.getElem?_eq_getElem h', Option.some.injEq]
 rfl
/-- Where the first such sign is, or that there is none. -/
theorem where47 (s : ByteArray) : (Lib.index s.data.toList [47] = -1 ∧ ∀ (i : Nat) (h : i < s.size), ¬ s[i]'h = 47) ∨ ∃ (K : Nat) (hK : K < s.size), Lib.index s.data.toList [47] = (K : Int) ∧ s[K]'hK = 47 ∧ ∀ (i : Nat) (h : i < K), ¬ s[i]'(Nat.lt_trans h hK) = 47 := by
 have hl : s.data.toList.length = s.size := by
  show s.data.toList.length = s.data.size
  exact Array.length_toList
 rcases Lib.index_spec s.data.toList [47] with ⟨h1, h2⟩ | ⟨K, h1, h2, h3, h4⟩
 ·refine Or.inl ⟨h1, fun i h e => ?_⟩
  have := h2 i (by omega)
  rw [(occ1 _ _ _).2 ((at47 s i h).2 e)] at this
  cases this
 ·have h5 := (occ1 _ _ _).1 h3
  have hK : K < s.size := by
   have := (List.getElem?_eq_some_iff.1 h5).1
   omega
  refine Or.inr ⟨K, hK, h1, (at47 s K hK).1 h5, fun i h e => ?_⟩
  have := h4 i h
  rw [(occ1 _ _ _).2 ((at47 s i (Nat.lt_trans h hK)).2 e)] at this
  cases this
theorem qreads (s : ByteArray) (hz : s.size ≤ 9223372036854775807) : ∃ (rN : Bool) (rS rD : ByteArray) (E : Int),
  (∀ w, Tab w → Calls Tryz.prog 23 #[.string s] w fun e w' => e = .returned (.tuple #[.agg #[.bool rN, .string rS, .string rD], .int .i64 E]) ∧ Below w.heap.size w w') ∧
  (∀ w, Calls Tryz.prog 24 #[.string s] w fun e w' => e = .returned (.tuple #[.agg #[.bool rN, .string rS, .string rD], .int .i64 E]) ∧ Below w.heap.size w w') := by
 obtain ⟨nf, sf, hf, hok, hsz, hzz, hnat, hneg, hstr, hnn, hfn⟩ := named0
 obtain ⟨nq, sq, dq, hq, -⟩ := named3
 rcases where47 s with ⟨h1, hA⟩ | ⟨K, hK, h1, hk, hB⟩
 ·obtain ⟨n, E, hE, bn, P1, P2⟩ := parse_two s
  simp only [hf] at P1 P2
  have zn : (sf n).size ≤ 32 := hsz _ _ bn
  rcases hE with rfl | rfl
  ·refine ⟨nf n, sf n, ⟨#[1]⟩, 0, fun w hT => ?_, fun w => rparseq_a1 s hz hA (nf n) (sf n) w P2⟩
   refine qparse_one (nf n) (nf n) s s ⟨#[]⟩ (sf n) ⟨#[1]⟩ (sf n) ⟨#[1]⟩ (isE (by rw [natOf_one]; omega)) w (fun w1 b => scut1_none s w1 h1) P1 (fun w1 => ?_) (fun w1 b => ?_)
   ·have := parse_ptxt false ⟨#[1]⟩ w1 ok_one (by decide)
    rwa [ptxt_one] at this
   ·have := make_ok (nf n) false (sf n) ⟨#[1]⟩ w1 (hT.below b) (hok n) ok_one (K := 32) (by omega) zn (by decide) (by rw [natOf_one]; omega)
    have e1 : zOf false ⟨#[1]⟩ = 1 := by rw [zOf_false, natOf_one]; rfl
    have e2 : Rat.divInt n 1 = (n : Rat) := by
     rw [show (1 : Int) = ((1 : Nat) : Int) from rfl, Rat.divInt_ofNat]
     exact Rat.ext (Q.mk_low (by omega) (by simp)).1 (Q.mk_low (by omega) (by simp)).2
    rw [hzz, e1, e2, qI_int n (hf n)] at this
    exact this
  ·exact ⟨false, { data := #[] }, { data := #[] }, 4, fun w hT => qparse_nbad0 (nf n) s s ⟨#[]⟩ (sf n) 4 (by omega) w (fun w1 b => scut1_none s w1 h1) P1, fun w => rparseq_a0 s hz hA (nf n) (sf n) 4 (by omega) w P2⟩
 ·obtain ⟨n, E1, hE1, bn, P1, P2⟩ := parse_two (s.extract 0 K)
  obtain ⟨d, E2, hE2, bd, R1, R2⟩ := parse_two (s.extract (K + 1) s.size)
  simp only [hf] at P1 P2 R1 R2
  have zn : (sf n).size ≤ 32 := hsz _ _ bn
  have zd : (sf d).size ≤ 32 := hsz _ _ bd
  have HC := fun (w1 : World) => scut1_hit s K w1 h1 (by omega) hz
  rcases hE1 with rfl | rfl
  ·rcases hE2 with rfl | rfl
   ·cases hd : nf d with
    | true =>
     rw [hd] at R1 R2
     exact ⟨false, { data := #[] }, { data := #[] }, 4, fun w hT => qparse_dbad2 (nf n) s _ _ (sf n) (sf d) w (fun w1 b => HC w1) P1 R1, fun w => rparseq_b2 s _ _ hz K hK hB hk (shut rfl) (shut rfl) (nf n) (sf n) (sf d) w P2 R2⟩
    | false =>
     rw [hd] at R1 R2
     have okd := hok d
     rw [hd] at okd
     by_cases h0 : 0 < natOf (sf d)
     ·have hl := fun w1 => low_any (nf n) false (sf n) (sf d) w1 (hok n) okd (by omega) (by omega) h0
      have hm := fun (w1 : World) (hT : Tab w1) => make_ok (nf n) false (sf n) (sf d) w1 hT (hok n) okd (K := 32) (by omega) zn zd h0
      simp only [hq] at hl hm
      exact ⟨_, _, _, 0, fun w hT => qparse_cut (nf n) _ s _ _ (sf n) (sf d) _ _ (isE h0) w (fun w1 b => HC w1) P1 R1 (fun w1 b => hm w1 (hT.below b)), fun w => rparseq_b4 s _ _ hz K hK hB hk (shut rfl) (shut rfl) (nf n) (sf n) _ (sf d) _ _ (isE h0) w P2 R2 hl⟩
     ·have e0 : sf d = { data := #[] } := by
       by_cases hs : 0 < (sf d).size
       ·have := natOf_pos okd.1 hs
        omega
       ·exact ByteArray.size_eq_zero_iff.1 (by omega)
      rw [e0] at R1 R2
      exact ⟨false, { data := #[] }, { data := #[] }, 4, fun w hT => qparse_dbad3 (nf n) s _ _ (sf n) w (fun w1 b => HC w1) P1 R1, fun w => rparseq_b3 s _ _ hz K hK hB hk (shut rfl) (shut rfl) (nf n) (sf n) w P2 R2⟩
   ·exact ⟨false, { data := #[] }, { data := #[] }, 4, fun w hT => qparse_dbad1 (nf n) s _ _ (sf n) (nf d) (sf d) 4 (by omega) w (fun w1 b => HC w1) P1 R1, fun w => rparseq_b1 s _ _ hz K hK hB hk (shut rfl) (shut rfl) (nf n) (sf n) (nf d) (sf d) 4 (by omega) w P2 R2⟩
  ·exact ⟨false, { data := #[] }, { data := #[] }, 4, fun w hT => qparse_nbad1 (nf n) s _ _ (sf n) 4 (by omega) w (fun w1 b => HC w1) P1, fun w => rparseq_b0 s _ _ hz K hK hB hk (shut rfl) (shut rfl) (nf n) (sf n) (nf d) (sf d) 4 E2 (by omega) w P2 R2⟩
end Go.Proofs.YtdbnkcimcpnpdaaGreatDoor
namespace Go.Proofs.YtdbnkcimcpnpdaaGreatDoor
open Go.RowKit Go.Shelf

set_option maxRecDepth 100000 in
set_option maxHeartbeats 8000000 in
theorem reads_ok (s xS xD : ByteArray) (xN : Bool) (E : Int) (w : World)
  (HL : Hid (∀ w1, Below w.heap.size w w1 → Calls Tryz.prog 10 #[] w1 fun e w' => e = .returned (.bool true) ∧ Below w1.heap.size w1 w'))
  (D0 : Hid (∀ w1, Below w.heap.size w w1 → Calls Tryz.prog 23 #[.string s] w1 fun e w' => e = .returned (.tuple #[.agg #[.bool xN, .string xS, .string xD], .int .i64 E]) ∧ Below w1.heap.size w1 w'))
  (D1 : Hid (∀ w1, Calls Tryz.prog 24 #[.string s] w1 fun e w' => e = .returned (.tuple #[.agg #[.bool xN, .string xS, .string xD], .int .i64 E]) ∧ Below w1.heap.size w1 w')) :
  Calls Tryz.prog 5 #[.string s] w fun e w' => e = .returned (.bool true) ∧ Below w.heap.size w w' := by
 go_enter Tryz.func5, Tryz.ntmps5
 go_wp2_with fail
 go_fit (D0.out _ (Below.refl _ _))
 rintro e w1 ⟨rfl, b1⟩
 have sz := b1.size
 have bb := b1
 clear b1
 go_wp2_with fail
 go_fit (D1.out _)
 rintro e w2 ⟨rfl, b1⟩
 obtain ⟨ka, b1⟩ := al1 b1
 have sz := b1.size
 replace bb := Below.after bb b1
 clear b1
 have ta := ka.lt
 clear ta
 have ca_0 := cel3_0 ka
 have ca_1 := cel3_1 ka
 have ca_2 := cel3_2 ka
 have ca_3 := cel3_0 (ka.alloc (.cells #[.bool xN, .string xS, .string xD] 26))
 have ca_4 := cel3_1 (ka.alloc (.cells #[.bool xN, .string xS, .string xD] 26))
 have ca_5 := cel3_2 (ka.alloc (.cells #[.bool xN, .string xS, .string xD] 26))
 go_wp2_with fail
 clear ca_0 ca_1 ca_2 ca_3 ca_4 ca_5
 go_fit (HL.out _ (ba bb _))
 rintro e w3 ⟨rfl, b1⟩
 obtain ⟨kb, b1⟩ := al1 b1
 have sz := b1.size
 replace ka := ka.below b1
 replace bb := Below.after bb b1
 clear b1
 have tb := kb.lt
 clear tb
 go_wp2
 go_ret
 exact ⟨rfl, bb⟩
theorem rreads_law (s : ByteArray) (hz : s.size ≤ 9223372036854775807) (w : World) (hT : Tab w) (hP : TabP w) :
  Calls Tryz.prog 5 #[.string s] w fun e w' => e = .returned (.bool true) ∧ Below w.heap.size w w' := by
 have HL : Hid (∀ w1, Below w.heap.size w w1 → Calls Tryz.prog 10 #[] w1 fun e w' => e = .returned (.bool true) ∧ Below w1.heap.size w1 w') := fun w1 b => live3_any w1 (hT.below b) (hP.bel b)
 obtain ⟨rN, rS, rD, E, h1, h2⟩ := qreads s hz
 exact reads_ok s rS rD rN E w HL (fun w1 b => h1 w1 (hT.below b)) h2
end Go.Proofs.YtdbnkcimcpnpdaaGreatDoor
