/-
  The text of a number, read again.
-/
import Derived.Test.YtimmgjlojplccaaGreatDoorG35
import Derived.Test.YtimmgjlojplccaaGreatDoorG36
namespace Go.Proofs.YtimmgjlojplccaaGreatDoor
open Go.RowKit Go.Shelf

theorem decTo_app (b c : List Nat) (k : Nat) (hk : k ≤ b.length) : decTo (b ++ c) k = decTo b k := by
  rw [← decTo_take (b ++ c) b.length k hk, List.take_left' rfl]
theorem lm_appl (b c : List Nat) (k : Nat) (hk : k < b.length) : lm (b ++ c) k = lm b k := by
  unfold lm
  rw [List.getD_eq_getElem?_getD, List.getD_eq_getElem?_getD, List.getElem?_append_left hk]
theorem dt_dec : ∀ (n V : Nat), V < n → decTo (dt V) (dt V).length = V
  | 0, V, h => absurd h (Nat.not_lt_zero _)
  | n + 1, V, h => by
    by_cases h0 : V = 0
    · subst h0; rfl
    · rw [dt_pos (by omega), List.length_append, List.length_singleton]
      unfold decTo
      rw [decTo_app _ _ _ (Nat.le_refl _), dt_dec n (V / 10) (by omega), lm_in _ _ _ _ rfl]
      omega
theorem dt_dig (V j : Nat) (h : j < (dt V).length) : 48 ≤ lm (dt V) j ∧ lm (dt V) j ≤ 57 := by
  have hm : lm (dt V) j ∈ dt V := by
    unfold lm
    rw [List.getD_eq_getElem?_getD, List.getElem?_eq_getElem h]
    exact List.getElem_mem h
  generalize lm (dt V) j = x at hm ⊢
  unfold dt at hm
  rw [List.mem_reverse, List.mem_map] at hm
  obtain ⟨y, hy, rfl⟩ := hm
  have := M.digs_lt (b := 10) (by omega) V y hy
  omega
theorem dt_head : ∀ (n V : Nat), V < n → 0 < V → 0 < (dt V).length ∧ lm (dt V) 0 ≠ 48
  | 0, V, h, _ => absurd h (Nat.not_lt_zero _)
  | n + 1, V, h, h0 => by
    by_cases h1 : V < 10
    · rw [dt_pos h0, Nat.div_eq_of_lt h1, Nat.mod_eq_of_lt h1, dt_zero]
      refine ⟨by simp, ?_⟩
      show 48 + V ≠ 48
      omega
    · obtain ⟨a, b⟩ := dt_head n (V / 10) (by omega) (by omega)
      rw [dt_pos h0, List.length_append]
      refine ⟨by omega, ?_⟩
      rw [lm_appl _ _ _ a]
      exact b
theorem dt_nats {V : Nat} (h0 : 0 < V) (h : V < 256 ^ 24) : NatS (dt V) := by
  obtain ⟨a, b⟩ := dt_head (V + 1) V (by omega) h0
  refine ⟨a, ?_, fun e => absurd e b, fun j hj => dt_dig V j hj⟩
  unfold dt
  rw [List.length_reverse, List.length_map]
  refine Nat.le_trans (M.digs_len_of_lt (k := 58) (by omega) (Nat.lt_of_lt_of_le h (by decide))) (by omega)
theorem byts_dt (V : Nat) : byts (strB (dt V)) = dt V := byts_strB (dt_low V)
theorem byts_mdt (V : Nat) : byts (strB (45 :: dt V)) = 45 :: dt V := byts_strB (fun x hx => by
  rcases List.mem_cons.1 hx with rfl | hx
  · omega
  · exact dt_low V x hx)
theorem tail_dt (V : Nat) : (strB (45 :: dt V)).extract 1 (strB (45 :: dt V)).size = strB (dt V) := by
  rw [← strB_byts ((strB (45 :: dt V)).extract 1 (strB (45 :: dt V)).size), byts_extract, byts_mdt, strB_size]
  congr 1
  rw [List.take_of_length_le (Nat.le_refl _)]
  rfl
/-- What is printed is read as it was. -/
theorem parse_text (n0 : Bool) (s : ByteArray) (w : World) (o : OkZ n0 s) (z : s.size ≤ 24) (T : List Nat) (hT : T = dt (natOf s)) :
    Calls Tryz.prog 21 #[.string (if T = [] then ⟨#[48]⟩ else if n0 then strB (45 :: T) else strB T)] w fun e w' => e = .returned (.tuple #[.agg #[.bool n0, .string s], .int .i64 0]) ∧ Below w.heap.size w w' := by
  have hz : Value.agg #[.bool n0, .string s] = zI (sgn n0 (natOf s)) := zV_ok o
  rw [hz]
  have hlt : natOf s < 256 ^ 24 := Nat.lt_of_lt_of_le (natOf_lt s) (Nat.pow_le_pow_right (by omega) z)
  by_cases h0 : natOf s = 0
  · have ht : T = [] := by rw [hT, h0, dt_zero]
    have hs : ¬ 0 < s.size := fun h => by have := natOf_pos o.1 h; omega
    have hn : n0 = false := by
      cases n0 with
      | false => rfl
      | true => exact absurd (o.2 rfl) hs
    rw [if_pos ht, h0, hn]
    exact parse_pos ⟨#[48]⟩ w (by decide) (by
      refine ⟨by decide, by decide, fun _ => by decide, fun j hj => ?_⟩
      have : j = 0 := by have : j < 1 := hj; omega
      subst this
      decide)
  · have hp : 0 < natOf s := by omega
    have ns := dt_nats hp hlt
    have hne : T ≠ [] := by
      intro e
      have := ns.1
      rw [← hT, e] at this
      simp at this
    rw [if_neg hne]
    subst hT
    cases n0 with
    | false =>
      rw [if_neg (by simp)]
      have := parse_pos (strB (dt (natOf s))) w (by
        rw [byts_dt]
        intro h
        have := (dt_dig (natOf s) 0 ns.1).1
        omega) (by rw [byts_dt]; exact ns)
      rw [byts_dt, strB_size, dt_dec _ _ (Nat.lt_succ_self _)] at this
      exact this
    | true =>
      rw [if_pos rfl]
      have := parse_neg (strB (45 :: dt (natOf s))) w (by
        rw [byts_mdt, strB_size]
        exact ⟨by simp, rfl⟩) (by
        intro e
        have e2 := congrArg byts e
        rw [byts_mdt] at e2
        have e3 : dt (natOf s) = [48] := (List.cons.inj e2).2
        have := (dt_head _ _ (Nat.lt_succ_self _) hp).2
        rw [e3] at this
        exact this rfl) (by rw [tail_dt, byts_dt]; exact ns)
      rw [tail_dt, byts_dt, strB_size, dt_dec _ _ (Nat.lt_succ_self _)] at this
      exact this
end Go.Proofs.YtimmgjlojplccaaGreatDoor
