/-
  Plain arithmetic of rows of digits: no Go here.
-/
namespace Go.Proofs.YtiiigiggcbbgjaaGreatDoor
namespace M
def val (b : Nat) : List Nat → Nat
 | [] => 0
 | x :: r => x + b * val b r
def digsF (b : Nat) : Nat → Nat → List Nat
 | 0, _ => []
 | f + 1, n => if b < 2 ∨ n = 0 then [] else n % b :: digsF b f (n / b)
def digs (b n : Nat) : List Nat := digsF b n n
theorem digsF_fuel {b : Nat} (hb : 2 ≤ b) : ∀ (f g n : Nat), n ≤ f → n ≤ g → digsF b f n = digsF b g n
 | 0, 0, _, _, _ => rfl
 | 0, g + 1, n, h, _ => by
  have : n = 0 := by omega
  subst this; simp [digsF]
 | f + 1, 0, n, _, h => by
  have : n = 0 := by omega
  subst this; simp [digsF]
 | f + 1, g + 1, n, h1, h2 => by
  by_cases hn : n = 0
  ·subst hn; simp [digsF]
  ·have : n / b < n := Nat.div_lt_self (by omega) (by omega)
   simp only [digsF]
   rw [if_neg (by omega), if_neg (by omega), digsF_fuel hb f g (n / b) (by omega) (by omega)]
theorem digs_zero (b : Nat) : digs b 0 = [] := rfl
theorem digs_pos {b n : Nat} (hb : 2 ≤ b) (hn : 0 < n) : digs b n = n % b :: digs b (n / b) := by
 obtain ⟨m, rfl⟩ : ∃ m, n = m + 1 := ⟨n - 1, by omega⟩
 have : (m + 1) / b < m + 1 := Nat.div_lt_self (by omega) (by omega)
 unfold digs
 rw [digsF, if_neg (by omega), digsF_fuel hb m ((m + 1) / b) _ (by omega) (Nat.le_refl _)]
theorem val_digs {b : Nat} (hb : 2 ≤ b) (n : Nat) : val b (digs b n) = n := by
 induction n using Nat.strongRecOn with
 | _ n ih =>
  by_cases hn : n = 0
  ·subst hn; rw [digs_zero]; rfl
  ·rw [digs_pos hb (by omega)]
   simp only [val]
   rw [ih (n / b) (Nat.div_lt_self (by omega) (by omega))]
   exact Nat.mod_add_div n b
theorem digs_lt {b : Nat} (hb : 2 ≤ b) (n : Nat) : ∀ x ∈ digs b n, x < b := by
 induction n using Nat.strongRecOn with
 | _ n ih =>
  by_cases hn : n = 0
  ·subst hn; rw [digs_zero]; simp
  ·rw [digs_pos hb (by omega)]
   intro x hx
   rcases List.mem_cons.1 hx with h | h
   ·subst h; exact Nat.mod_lt _ (by omega)
   ·exact ih (n / b) (Nat.div_lt_self (by omega) (by omega)) x h
def Low (b : Nat) (xs : List Nat) : Prop := ∀ x ∈ xs, x < b
theorem Low.nil (b : Nat) : Low b [] := by intro x hx; simp at hx
theorem Low.cons {b x : Nat} {xs : List Nat} (h : x < b) (hs : Low b xs) : Low b (x :: xs) := by
 intro y hy; rcases List.mem_cons.1 hy with e | e
 ·subst e; exact h
 ·exact hs y e
theorem Low.head {b x : Nat} {xs : List Nat} (h : Low b (x :: xs)) : x < b := h x (by simp)
theorem Low.tail {b x : Nat} {xs : List Nat} (h : Low b (x :: xs)) : Low b xs := fun y hy => h y (by simp [hy])
theorem Low.take {b : Nat} {xs : List Nat} (h : Low b xs) (n : Nat) : Low b (xs.take n) := fun x hx => h x (List.mem_of_mem_take hx)
theorem Low.drop {b : Nat} {xs : List Nat} (h : Low b xs) (n : Nat) : Low b (xs.drop n) := fun x hx => h x (List.mem_of_mem_drop hx)
theorem Low.append {b : Nat} {xs ys : List Nat} (h : Low b xs) (k : Low b ys) : Low b (xs ++ ys) := by
 intro x hx; rcases List.mem_append.1 hx with e | e
 ·exact h x e
 ·exact k x e
theorem Low.snoc {b x : Nat} {xs : List Nat} (h : Low b xs) (k : x < b) : Low b (xs ++ [x]) := h.append (Low.cons k (Low.nil b))
theorem Low.getD {b : Nat} (hb : 0 < b) {xs : List Nat} (h : Low b xs) (j : Nat) : xs.getD j 0 < b := by
 rw [List.getD_eq_getElem?_getD]
 by_cases hj : j < xs.length
 ·rw [List.getElem?_eq_getElem hj]; exact h _ (List.getElem_mem hj)
 ·rw [List.getElem?_eq_none (by omega)]; exact hb
theorem Low.digs {b : Nat} (hb : 2 ≤ b) (n : Nat) : Low b (digs b n) := digs_lt hb n
theorem Low.replicate (b n : Nat) (hb : 0 < b) : Low b (List.replicate n 0) := by
 intro x hx; rw [List.mem_replicate] at hx; omega
theorem val_nil (b : Nat) : val b [] = 0 := rfl
theorem val_cons (b x : Nat) (xs : List Nat) : val b (x :: xs) = x + b * val b xs := rfl
theorem val_append (b : Nat) (xs ys : List Nat) : val b (xs ++ ys) = val b xs + b ^ xs.length * val b ys := by
 induction xs with
 | nil => simp [val]
 | cons x xs ih =>
  simp only [List.cons_append, val, List.length_cons, ih, Nat.pow_succ]
  rw [Nat.mul_add, Nat.add_assoc, Nat.mul_comm (b ^ xs.length) b, Nat.mul_assoc]
theorem val_snoc (b : Nat) (xs : List Nat) (x : Nat) : val b (xs ++ [x]) = val b xs + b ^ xs.length * x := by
 rw [val_append]; simp [val]
theorem val_replicate (b n : Nat) : val b (List.replicate n 0) = 0 := by
 induction n with
 | zero => rfl
 | succ n ih => simp [List.replicate_succ, val, ih]
theorem val_zeros (b : Nat) : ∀ (xs : List Nat), (∀ x ∈ xs, x = 0) → val b xs = 0
 | [], _ => rfl
 | x :: xs, h => by
  rw [val_cons, val_zeros b xs (fun y hy => h y (by simp [hy])), h x (by simp)]; simp
theorem val_lt {b : Nat} (hb : 0 < b) : ∀ {xs : List Nat}, Low b xs → val b xs < b ^ xs.length
 | [], _ => by simp [val]
 | x :: xs, h => by
  have h1 := val_lt hb h.tail
  have h2 := h.head
  rw [val_cons, List.length_cons, Nat.pow_succ, Nat.mul_comm _ b]
  have h3 : b * (val b xs + 1) ≤ b * b ^ xs.length := Nat.mul_le_mul_left b h1
  rw [Nat.mul_add] at h3
  omega
def Trim (xs : List Nat) : Prop := ∀ n, xs.length = n + 1 → xs.getD n 0 ≠ 0
theorem val_pos_of_trim {b : Nat} (hb : 0 < b) : ∀ {xs : List Nat}, Trim xs → xs ≠ [] → 0 < val b xs
 | [], _, h => absurd rfl h
 | [x], h, _ => by
  have := h 0 rfl
  simp at this
  simp [val]; omega
 | x :: y :: xs, h, _ => by
  have h' : Trim (y :: xs) := by
   intro n hn
   have := h (n + 1) (by simp at hn ⊢; omega)
   simpa using this
  have h2 := val_pos_of_trim hb h' (by simp)
  rw [val_cons]
  have : 0 < b * val b (y :: xs) := Nat.mul_pos hb h2
  omega
theorem eq_digs {b : Nat} (hb : 2 ≤ b) : ∀ {xs : List Nat}, Low b xs → Trim xs → xs = digs b (val b xs)
 | [], _, _ => by rw [val_nil, digs_zero]
 | x :: xs, hl, ht => by
  have hp : 0 < val b (x :: xs) := val_pos_of_trim (by omega) ht (by simp)
  have hx := hl.head
  have e1 : val b (x :: xs) % b = x := by rw [val_cons, Nat.add_mul_mod_self_left, Nat.mod_eq_of_lt hx]
  have e2 : val b (x :: xs) / b = val b xs := by
   rw [val_cons, Nat.add_mul_div_left _ _ (by omega), Nat.div_eq_of_lt hx, Nat.zero_add]
  have ht' : Trim xs := by
   intro n hn
   have := ht (n + 1) (by simp [hn])
   simpa using this
  rw [digs_pos hb hp, e1, e2, ← eq_digs hb hl.tail ht']
theorem trim_digs {b : Nat} (hb : 2 ≤ b) (n : Nat) : Trim (digs b n) := by
 induction n using Nat.strongRecOn with
 | _ n ih =>
  by_cases hn : n = 0
  ·subst hn; rw [digs_zero]; intro k hk; simp at hk
  ·rw [digs_pos hb (by omega)]
   intro k hk
   simp at hk
   match k with
   | 0 =>
    simp
    intro e
    have hz : digs b (n / b) = [] := List.length_eq_zero_iff.1 hk
    have := val_digs hb (n / b)
    rw [hz] at this
    simp [val] at this
    have h2 := Nat.mod_add_div n b
    rw [e, ← this] at h2
    simp at h2; omega
   | k + 1 =>
    simpa using ih (n / b) (Nat.div_lt_self (by omega) (by omega)) k hk
theorem take_eq_digs {b : Nat} (hb : 2 ≤ b) {xs : List Nat} {n : Nat} (hl : Low b xs) (hn : n ≤ xs.length) (hz : ∀ j, n ≤ j → xs.getD j 0 = 0) (ht : ∀ k, n = k + 1 → xs.getD k 0 ≠ 0) :
  xs.take n = digs b (val b xs) := by
 have e : val b xs = val b (xs.take n) := by
  conv => lhs; rw [← List.take_append_drop n xs]
  rw [val_append, val_zeros b (xs.drop n), Nat.mul_zero, Nat.add_zero]
  intro x hx
  obtain ⟨j, hj, rfl⟩ := List.mem_iff_getElem.1 hx
  have := hz (n + j) (by omega)
  rw [List.getD_eq_getElem?_getD] at this
  simp at hj
  rw [List.getElem?_eq_getElem (by omega)] at this
  simpa using this
 rw [e]
 refine eq_digs hb (hl.take n) ?_
 intro k hk
 simp at hk
 have hk' : n = k + 1 := by omega
 have := ht k hk'
 rw [List.getD_eq_getElem?_getD] at this ⊢
 rw [List.getElem?_take_of_lt (by omega)]
 exact this
theorem digs_length_le {b : Nat} (hb : 2 ≤ b) {xs : List Nat} (hl : Low b xs) : (digs b (val b xs)).length ≤ xs.length := by
 have h1 := val_lt (by omega) hl
 by_cases h : (digs b (val b xs)).length ≤ xs.length
 ·exact h
 ·exfalso
  -- a trimmed row of more digits has a greater value
  have hne : digs b (val b xs) ≠ [] := by intro e; rw [e] at h; simp at h
  have key : ∀ (ys : List Nat), Trim ys → ys ≠ [] → b ^ (ys.length - 1) ≤ val b ys := by
   intro ys
   induction ys with
   | nil => intro _ h; exact absurd rfl h
   | cons y ys ih =>
    intro ht _
    by_cases hy : ys = []
    ·subst hy; have := ht 0 rfl; simp at this; simp [val]; omega
    ·have ht' : Trim ys := by
      intro n hn
      have := ht (n + 1) (by simp [hn])
      simpa using this
     have := ih ht' hy
     rw [val_cons]
     have hlen : (y :: ys).length - 1 = (ys.length - 1) + 1 := by
      have : 0 < ys.length := List.length_pos_iff.2 hy
      simp; omega
     rw [hlen, Nat.pow_succ, Nat.mul_comm _ b]
     have := Nat.mul_le_mul_left b this
     omega
  have k1 := key _ (trim_digs hb (val b xs)) hne
  rw [val_digs hb] at k1
  have k2 : b ^ xs.length ≤ b ^ ((digs b (val b xs)).length - 1) := Nat.pow_le_pow_right (by omega) (by omega)
  omega
theorem val_take_succ (b : Nat) (xs : List Nat) (k : Nat) : val b (xs.take (k + 1)) = val b (xs.take k) + b ^ k * xs.getD k 0 := by
 by_cases h : k < xs.length
 ·rw [List.take_succ_eq_append_getElem h, val_snoc]
  have e : (xs.take k).length = k := by simp; omega
  rw [e, List.getD_eq_getElem?_getD, List.getElem?_eq_getElem h]; rfl
 ·rw [List.take_of_length_le (by omega), List.take_of_length_le (by omega), List.getD_eq_getElem?_getD, List.getElem?_eq_none (by omega)]
  simp
theorem val_take_all (b : Nat) (xs : List Nat) (k : Nat) (h : xs.length ≤ k) : val b (xs.take k) = val b xs := by rw [List.take_of_length_le h]
theorem set_append_replicate (zs : List Nat) (m x : Nat) : (zs ++ List.replicate (m + 1) 0).set zs.length x = (zs ++ [x]) ++ List.replicate m 0 := by
 rw [List.set_append_right _ _ (Nat.le_refl _)]
 simp [List.replicate_succ]
theorem carry_zero {b : Nat} (hb : 2 ≤ b) {xs ys : List Nat} {V n c : Nat} (la : Low b xs) (lb : Low b ys) (hx : xs.length < n) (hy : ys.length < n) (hc : c ≤ 1) (h4 : V + b ^ n * c = val b xs + val b ys) : V = val b xs + val b ys := by
 have e1 := val_lt (by omega) la
 have e2 := val_lt (by omega) lb
 obtain ⟨m, rfl⟩ : ∃ m, n = m + 1 := ⟨n - 1, by omega⟩
 have p1 : b ^ xs.length ≤ b ^ m := Nat.pow_le_pow_right (by omega) (by omega)
 have p2 : b ^ ys.length ≤ b ^ m := Nat.pow_le_pow_right (by omega) (by omega)
 have : c = 0 := by
  by_cases hc0 : c = 0
  ·exact hc0
  ·have : c = 1 := by omega
   subst this
   rw [Nat.pow_succ] at h4
   have : b ^ m * 2 ≤ b ^ m * b := Nat.mul_le_mul_left _ hb
   omega
 subst this
 omega
theorem val_hd (b : Nat) (xs : List Nat) : val b xs = xs.getD 0 0 + b * val b xs.tail := by
 cases xs <;> simp [val]
theorem tail_getD (xs : List Nat) (j : Nat) : xs.tail.getD j 0 = xs.getD (j + 1) 0 := by
 cases xs <;> simp
theorem val_ext_aux (b : Nat) : ∀ (n : Nat) (xs ys : List Nat), xs.length ≤ n → ys.length ≤ n → (∀ j, xs.getD j 0 = ys.getD j 0) → val b xs = val b ys
 | 0, xs, ys, hx, hy, _ => by
  rw [List.length_eq_zero_iff.1 (by omega : xs.length = 0), List.length_eq_zero_iff.1 (by omega : ys.length = 0)]
 | n + 1, xs, ys, hx, hy, h => by
  rw [val_hd b xs, val_hd b ys, h 0, val_ext_aux b n xs.tail ys.tail (by simp; omega) (by simp; omega) (fun j => by rw [tail_getD, tail_getD]; exact h (j + 1))]
theorem val_ext (b : Nat) {xs ys : List Nat} (h : ∀ j, xs.getD j 0 = ys.getD j 0) : val b xs = val b ys :=
 val_ext_aux b (max xs.length ys.length) xs ys (by omega) (by omega) h
theorem Low.tl {b : Nat} {xs : List Nat} (h : Low b xs) : Low b xs.tail := fun x hx => h x (List.mem_of_mem_tail hx)
theorem lt_of_top {b : Nat} (hb : 0 < b) : ∀ (k : Nat) {xs ys : List Nat}, Low b xs → (∀ j, k < j → xs.getD j 0 = ys.getD j 0) → xs.getD k 0 < ys.getD k 0 → val b xs < val b ys
 | 0, xs, ys, _, h, hlt => by
  rw [val_hd b xs, val_hd b ys, val_ext b (xs := xs.tail) (ys := ys.tail) (fun j => by rw [tail_getD, tail_getD]; exact h (j + 1) (by omega))]
  omega
 | k + 1, xs, ys, la, h, hlt => by
  have ih := lt_of_top hb k (xs := xs.tail) (ys := ys.tail) la.tl (fun j hj => by rw [tail_getD, tail_getD]; exact h (j + 1) (by omega)) (by rw [tail_getD, tail_getD]; exact hlt)
  have h0 := la.getD hb 0
  rw [val_hd b xs, val_hd b ys]
  have : b * (val b xs.tail + 1) ≤ b * val b ys.tail := Nat.mul_le_mul_left b ih
  rw [Nat.mul_add] at this
  omega
end M
end Go.Proofs.YtiiigiggcbbgjaaGreatDoor
