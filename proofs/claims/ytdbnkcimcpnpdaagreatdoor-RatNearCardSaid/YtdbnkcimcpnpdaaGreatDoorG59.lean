/-
  What these laws reach and the others do not.
-/
import Derived.ArgAppend
import Derived.Deep.CutRange
import Derived.Deep.DeepFit
import Derived.Deep.Upon
import Derived.Lib.AppendIntMem
import Derived.Lib.SliceRun
import Derived.Shelf.LaysM
import Derived.Shelf.Strconv.Itoa2
import Derived.Test.YtdbnkcimcpnpdaaGreatDoorG25
import Derived.Test.YtdbnkcimcpnpdaaGreatDoorG32
namespace Go.Proofs.YtdbnkcimcpnpdaaGreatDoor
theorem dt_nil : dt 0 = [] := rfl
section
open Go.RowKit Go.Shelf
theorem decTo_take (b : List Nat) (m : Nat) : ∀ k, k ≤ m → decTo (b.take m) k = decTo b k
 | 0, _ => rfl
 | k + 1, h => by
  unfold decTo
  rw [decTo_take b m k (by omega), lm_take (by omega)]

end

section
open Go.RowKit Go.Shelf
end

section
open Go.RowKit Go.Shelf
theorem dt_low (n : Nat) : M.Low 256 (dt n) := by
 intro x hx
 unfold dt at hx
 rw [List.mem_reverse, List.mem_map] at hx
 obtain ⟨y, hy, rfl⟩ := hx
 have := M.digs_lt (b := 10) (by omega) n y hy
 omega
end

section
open Go.RowKit Go.Shelf
theorem decTo_app (b c : List Nat) (k : Nat) (hk : k ≤ b.length) : decTo (b ++ c) k = decTo b k := by
 rw [← decTo_take (b ++ c) b.length k hk, List.take_left' rfl]
theorem lm_appl (b c : List Nat) (k : Nat) (hk : k < b.length) : lm (b ++ c) k = lm b k := by
 unfold lm
 rw [List.getD_eq_getElem?_getD, List.getD_eq_getElem?_getD, List.getElem?_append_left hk]
theorem dt_dec : ∀ (n V : Nat), V < n → decTo (dt V) (dt V).length = V
 | 0, V, h => absurd h (Nat.not_lt_zero _)
 | n + 1, V, h => by
  by_cases h0 : V = 0
  ·subst h0; rfl
  ·rw [dt_pos (by omega), List.length_append, List.length_singleton]
   unfold decTo
   rw [decTo_app _ _ _ (Nat.le_refl _), dt_dec n (V / 10) (by omega), lm_in _ _ _ _ rfl]
   omega
theorem dt_dig (V j : Nat) (h : j < (dt V).length) : 48 ≤ lm (dt V) j ∧ lm (dt V) j ≤ 57 := by
 have hm : lm (dt V) j ∈ dt V := by
  unfold lm
  rw [List.getD_eq_getElem?_getD, List.getElem?_eq_getElem h]
  exact List.getElem_mem h
 generalize lm (dt V) j = x at hm ⊢
 unfold dt at hm
 rw [List.mem_reverse, List.mem_map] at hm
 obtain ⟨y, hy, rfl⟩ := hm
 have := M.digs_lt (b := 10) (by omega) V y hy
 omega
theorem dt_head : ∀ (n V : Nat), V < n → 0 < V → 0 < (dt V).length ∧ lm (dt V) 0 ≠ 48
 | 0, V, h, _ => absurd h (Nat.not_lt_zero _)
 | n + 1, V, h, h0 => by
  by_cases h1 : V < 10
  ·rw [dt_pos h0, Nat.div_eq_of_lt h1, Nat.mod_eq_of_lt h1, dt_nil]
   refine ⟨by simp, ?_⟩
   show 48 + V ≠ 48
   omega
  ·obtain ⟨a, b⟩ := dt_head n (V / 10) (by omega) (by omega)
   rw [dt_pos h0, List.length_append]
   refine ⟨by omega, ?_⟩
   rw [lm_appl _ _ _ a]
   exact b
theorem dt_nats {V : Nat} (h0 : 0 < V) (h : V < 256 ^ 24) : NatS (dt V) := by
 obtain ⟨a, b⟩ := dt_head (V + 1) V (by omega) h0
 refine ⟨a, ?_, fun e => absurd e b, fun j hj => dt_dig V j hj⟩
 unfold dt
 rw [List.length_reverse, List.length_map]
 refine Nat.le_trans (M.digs_len_of_lt (k := 58) (by omega) (Nat.lt_of_lt_of_le h (by decide))) (by omega)
theorem byts_dt (V : Nat) : byts (strB (dt V)) = dt V := byts_strB (dt_low V)
theorem byts_mdt (V : Nat) : byts (strB (45 :: dt V)) = 45 :: dt V := byts_strB (fun x hx => by
 rcases List.mem_cons.1 hx with rfl | hx
 ·omega
 ·exact dt_low V x hx)
theorem tail_dt (V : Nat) : (strB (45 :: dt V)).extract 1 (strB (45 :: dt V)).size = strB (dt V) := by
 rw [← strB_byts ((strB (45 :: dt V)).extract 1 (strB (45 :: dt V)).size), byts_extract, byts_mdt, strB_size]
 congr 1
 rw [List.take_of_length_le (Nat.le_refl _)]
 rfl
end
end Go.Proofs.YtdbnkcimcpnpdaaGreatDoor
