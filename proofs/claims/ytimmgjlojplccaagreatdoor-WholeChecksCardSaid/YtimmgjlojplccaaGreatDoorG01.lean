/-
  Plain arithmetic of rows of digits: no Go here.
  More plain arithmetic of rows of digits.
  The arithmetic of a division limb by limb, in halves. No Go here.
  The arithmetic of a division bit by bit. No Go here.
  The arithmetic of a long division. No Go here.
-/

namespace Go.Proofs.YtimmgjlojplccaaGreatDoor
namespace M

def val (b : Nat) : List Nat → Nat
  | [] => 0
  | x :: r => x + b * val b r

def digsF (b : Nat) : Nat → Nat → List Nat
  | 0, _ => []
  | f + 1, n => if b < 2 ∨ n = 0 then [] else n % b :: digsF b f (n / b)
def digs (b n : Nat) : List Nat := digsF b n n

theorem digsF_fuel {b : Nat} (hb : 2 ≤ b) : ∀ (f g n : Nat), n ≤ f → n ≤ g → digsF b f n = digsF b g n
  | 0, 0, _, _, _ => rfl
  | 0, g + 1, n, h, _ => by
    have : n = 0 := by omega
    subst this; simp [digsF]
  | f + 1, 0, n, _, h => by
    have : n = 0 := by omega
    subst this; simp [digsF]
  | f + 1, g + 1, n, h1, h2 => by
    by_cases hn : n = 0
    · subst hn; simp [digsF]
    · have : n / b < n := Nat.div_lt_self (by omega) (by omega)
      simp only [digsF]
      rw [if_neg (by omega), if_neg (by omega), digsF_fuel hb f g (n / b) (by omega) (by omega)]

theorem digs_zero (b : Nat) : digs b 0 = [] := rfl
theorem digs_pos {b n : Nat} (hb : 2 ≤ b) (hn : 0 < n) : digs b n = n % b :: digs b (n / b) := by
  obtain ⟨m, rfl⟩ : ∃ m, n = m + 1 := ⟨n - 1, by omega⟩
  have : (m + 1) / b < m + 1 := Nat.div_lt_self (by omega) (by omega)
  unfold digs
  rw [digsF, if_neg (by omega), digsF_fuel hb m ((m + 1) / b) _ (by omega) (Nat.le_refl _)]

theorem val_digs {b : Nat} (hb : 2 ≤ b) (n : Nat) : val b (digs b n) = n := by
  induction n using Nat.strongRecOn with
  | _ n ih =>
    by_cases hn : n = 0
    · subst hn; rw [digs_zero]; rfl
    · rw [digs_pos hb (by omega)]
      simp only [val]
      rw [ih (n / b) (Nat.div_lt_self (by omega) (by omega))]
      exact Nat.mod_add_div n b

theorem digs_lt {b : Nat} (hb : 2 ≤ b) (n : Nat) : ∀ x ∈ digs b n, x < b := by
  induction n using Nat.strongRecOn with
  | _ n ih =>
    by_cases hn : n = 0
    · subst hn; rw [digs_zero]; simp
    · rw [digs_pos hb (by omega)]
      intro x hx
      rcases List.mem_cons.1 hx with h | h
      · subst h; exact Nat.mod_lt _ (by omega)
      · exact ih (n / b) (Nat.div_lt_self (by omega) (by omega)) x h

/-- All digits are below the base. -/
def Low (b : Nat) (xs : List Nat) : Prop := ∀ x ∈ xs, x < b

theorem Low.nil (b : Nat) : Low b [] := by intro x hx; simp at hx
theorem Low.cons {b x : Nat} {xs : List Nat} (h : x < b) (hs : Low b xs) : Low b (x :: xs) := by
  intro y hy; rcases List.mem_cons.1 hy with e | e
  · subst e; exact h
  · exact hs y e
theorem Low.head {b x : Nat} {xs : List Nat} (h : Low b (x :: xs)) : x < b := h x (by simp)
theorem Low.tail {b x : Nat} {xs : List Nat} (h : Low b (x :: xs)) : Low b xs := fun y hy => h y (by simp [hy])
theorem Low.take {b : Nat} {xs : List Nat} (h : Low b xs) (n : Nat) : Low b (xs.take n) := fun x hx => h x (List.mem_of_mem_take hx)
theorem Low.drop {b : Nat} {xs : List Nat} (h : Low b xs) (n : Nat) : Low b (xs.drop n) := fun x hx => h x (List.mem_of_mem_drop hx)
theorem Low.append {b : Nat} {xs ys : List Nat} (h : Low b xs) (k : Low b ys) : Low b (xs ++ ys) := by
  intro x hx; rcases List.mem_append.1 hx with e | e
  · exact h x e
  · exact k x e
theorem Low.snoc {b x : Nat} {xs : List Nat} (h : Low b xs) (k : x < b) : Low b (xs ++ [x]) := h.append (Low.cons k (Low.nil b))
theorem Low.getD {b : Nat} (hb : 0 < b) {xs : List Nat} (h : Low b xs) (j : Nat) : xs.getD j 0 < b := by
  rw [List.getD_eq_getElem?_getD]
  by_cases hj : j < xs.length
  · rw [List.getElem?_eq_getElem hj]; exact h _ (List.getElem_mem hj)
  · rw [List.getElem?_eq_none (by omega)]; exact hb
theorem Low.digs {b : Nat} (hb : 2 ≤ b) (n : Nat) : Low b (digs b n) := digs_lt hb n
theorem Low.replicate (b n : Nat) (hb : 0 < b) : Low b (List.replicate n 0) := by
  intro x hx; rw [List.mem_replicate] at hx; omega

theorem val_nil (b : Nat) : val b [] = 0 := rfl
theorem val_cons (b x : Nat) (xs : List Nat) : val b (x :: xs) = x + b * val b xs := rfl
theorem val_append (b : Nat) (xs ys : List Nat) : val b (xs ++ ys) = val b xs + b ^ xs.length * val b ys := by
  induction xs with
  | nil => simp [val]
  | cons x xs ih =>
    simp only [List.cons_append, val, List.length_cons, ih, Nat.pow_succ]
    rw [Nat.mul_add, Nat.add_assoc, Nat.mul_comm (b ^ xs.length) b, Nat.mul_assoc]
theorem val_snoc (b : Nat) (xs : List Nat) (x : Nat) : val b (xs ++ [x]) = val b xs + b ^ xs.length * x := by
  rw [val_append]; simp [val]
theorem val_replicate (b n : Nat) : val b (List.replicate n 0) = 0 := by
  induction n with
  | zero => rfl
  | succ n ih => simp [List.replicate_succ, val, ih]
theorem val_zeros (b : Nat) : ∀ (xs : List Nat), (∀ x ∈ xs, x = 0) → val b xs = 0
  | [], _ => rfl
  | x :: xs, h => by
    rw [val_cons, val_zeros b xs (fun y hy => h y (by simp [hy])), h x (by simp)]; simp
theorem val_lt {b : Nat} (hb : 0 < b) : ∀ {xs : List Nat}, Low b xs → val b xs < b ^ xs.length
  | [], _ => by simp [val]
  | x :: xs, h => by
    have h1 := val_lt hb h.tail
    have h2 := h.head
    rw [val_cons, List.length_cons, Nat.pow_succ, Nat.mul_comm _ b]
    have h3 : b * (val b xs + 1) ≤ b * b ^ xs.length := Nat.mul_le_mul_left b h1
    rw [Nat.mul_add] at h3
    omega

/-- No digit 0 at the end. -/
def Trim (xs : List Nat) : Prop := ∀ n, xs.length = n + 1 → xs.getD n 0 ≠ 0

theorem val_pos_of_trim {b : Nat} (hb : 0 < b) : ∀ {xs : List Nat}, Trim xs → xs ≠ [] → 0 < val b xs
  | [], _, h => absurd rfl h
  | [x], h, _ => by
    have := h 0 rfl
    simp at this
    simp [val]; omega
  | x :: y :: xs, h, _ => by
    have h' : Trim (y :: xs) := by
      intro n hn
      have := h (n + 1) (by simp at hn ⊢; omega)
      simpa using this
    have h2 := val_pos_of_trim hb h' (by simp)
    rw [val_cons]
    have : 0 < b * val b (y :: xs) := Nat.mul_pos hb h2
    omega

theorem eq_digs {b : Nat} (hb : 2 ≤ b) : ∀ {xs : List Nat}, Low b xs → Trim xs → xs = digs b (val b xs)
  | [], _, _ => by rw [val_nil, digs_zero]
  | x :: xs, hl, ht => by
    have hp : 0 < val b (x :: xs) := val_pos_of_trim (by omega) ht (by simp)
    have hx := hl.head
    have e1 : val b (x :: xs) % b = x := by rw [val_cons, Nat.add_mul_mod_self_left, Nat.mod_eq_of_lt hx]
    have e2 : val b (x :: xs) / b = val b xs := by
      rw [val_cons, Nat.add_mul_div_left _ _ (by omega), Nat.div_eq_of_lt hx, Nat.zero_add]
    have ht' : Trim xs := by
      intro n hn
      have := ht (n + 1) (by simp [hn])
      simpa using this
    rw [digs_pos hb hp, e1, e2, ← eq_digs hb hl.tail ht']

theorem trim_digs {b : Nat} (hb : 2 ≤ b) (n : Nat) : Trim (digs b n) := by
  induction n using Nat.strongRecOn with
  | _ n ih =>
    by_cases hn : n = 0
    · subst hn; rw [digs_zero]; intro k hk; simp at hk
    · rw [digs_pos hb (by omega)]
      intro k hk
      simp at hk
      match k with
      | 0 =>
        simp
        intro e
        have hz : digs b (n / b) = [] := List.length_eq_zero_iff.1 hk
        have := val_digs hb (n / b)
        rw [hz] at this
        simp [val] at this
        have h2 := Nat.mod_add_div n b
        rw [e, ← this] at h2
        simp at h2; omega
      | k + 1 =>
        simpa using ih (n / b) (Nat.div_lt_self (by omega) (by omega)) k hk

/-- What a loop that cuts zeros off the end comes to. -/
theorem take_eq_digs {b : Nat} (hb : 2 ≤ b) {xs : List Nat} {n : Nat} (hl : Low b xs) (hn : n ≤ xs.length) (hz : ∀ j, n ≤ j → xs.getD j 0 = 0) (ht : ∀ k, n = k + 1 → xs.getD k 0 ≠ 0) :
    xs.take n = digs b (val b xs) := by
  have e : val b xs = val b (xs.take n) := by
    conv => lhs; rw [← List.take_append_drop n xs]
    rw [val_append, val_zeros b (xs.drop n), Nat.mul_zero, Nat.add_zero]
    intro x hx
    obtain ⟨j, hj, rfl⟩ := List.mem_iff_getElem.1 hx
    have := hz (n + j) (by omega)
    rw [List.getD_eq_getElem?_getD] at this
    simp at hj
    rw [List.getElem?_eq_getElem (by omega)] at this
    simpa using this
  rw [e]
  refine eq_digs hb (hl.take n) ?_
  intro k hk
  simp at hk
  have hk' : n = k + 1 := by omega
  have := ht k hk'
  rw [List.getD_eq_getElem?_getD] at this ⊢
  rw [List.getElem?_take_of_lt (by omega)]
  exact this

theorem digs_length_le {b : Nat} (hb : 2 ≤ b) {xs : List Nat} (hl : Low b xs) : (digs b (val b xs)).length ≤ xs.length := by
  have h1 := val_lt (by omega) hl
  by_cases h : (digs b (val b xs)).length ≤ xs.length
  · exact h
  · exfalso
    -- a trimmed row of more digits has a greater value
    have hne : digs b (val b xs) ≠ [] := by intro e; rw [e] at h; simp at h
    have key : ∀ (ys : List Nat), Trim ys → ys ≠ [] → b ^ (ys.length - 1) ≤ val b ys := by
      intro ys
      induction ys with
      | nil => intro _ h; exact absurd rfl h
      | cons y ys ih =>
        intro ht _
        by_cases hy : ys = []
        · subst hy; have := ht 0 rfl; simp at this; simp [val]; omega
        · have ht' : Trim ys := by
            intro n hn
            have := ht (n + 1) (by simp [hn])
            simpa using this
          have := ih ht' hy
          rw [val_cons]
          have hlen : (y :: ys).length - 1 = (ys.length - 1) + 1 := by
            have : 0 < ys.length := List.length_pos_iff.2 hy
            simp; omega
          rw [hlen, Nat.pow_succ, Nat.mul_comm _ b]
          have := Nat.mul_le_mul_left b this
          omega
    have k1 := key _ (trim_digs hb (val b xs)) hne
    rw [val_digs hb] at k1
    have k2 : b ^ xs.length ≤ b ^ ((digs b (val b xs)).length - 1) := Nat.pow_le_pow_right (by omega) (by omega)
    omega

theorem val_take_succ (b : Nat) (xs : List Nat) (k : Nat) : val b (xs.take (k + 1)) = val b (xs.take k) + b ^ k * xs.getD k 0 := by
  by_cases h : k < xs.length
  · rw [List.take_succ_eq_append_getElem h, val_snoc]
    have e : (xs.take k).length = k := by simp; omega
    rw [e, List.getD_eq_getElem?_getD, List.getElem?_eq_getElem h]; rfl
  · rw [List.take_of_length_le (by omega), List.take_of_length_le (by omega), List.getD_eq_getElem?_getD, List.getElem?_eq_none (by omega)]
    simp
theorem val_take_all (b : Nat) (xs : List Nat) (k : Nat) (h : xs.length ≤ k) : val b (xs.take k) = val b xs := by rw [List.take_of_length_le h]
theorem set_append_replicate (zs : List Nat) (m x : Nat) : (zs ++ List.replicate (m + 1) 0).set zs.length x = (zs ++ [x]) ++ List.replicate m 0 := by
  rw [List.set_append_right _ _ (Nat.le_refl _)]
  simp [List.replicate_succ]

theorem carry_zero {b : Nat} (hb : 2 ≤ b) {xs ys : List Nat} {V n c : Nat} (la : Low b xs) (lb : Low b ys) (hx : xs.length < n) (hy : ys.length < n) (hc : c ≤ 1) (h4 : V + b ^ n * c = val b xs + val b ys) : V = val b xs + val b ys := by
  have e1 := val_lt (by omega) la
  have e2 := val_lt (by omega) lb
  obtain ⟨m, rfl⟩ : ∃ m, n = m + 1 := ⟨n - 1, by omega⟩
  have p1 : b ^ xs.length ≤ b ^ m := Nat.pow_le_pow_right (by omega) (by omega)
  have p2 : b ^ ys.length ≤ b ^ m := Nat.pow_le_pow_right (by omega) (by omega)
  have : c = 0 := by
    by_cases hc0 : c = 0
    · exact hc0
    · have : c = 1 := by omega
      subst this
      rw [Nat.pow_succ] at h4
      have : b ^ m * 2 ≤ b ^ m * b := Nat.mul_le_mul_left _ hb
      omega
  subst this
  omega

theorem val_hd (b : Nat) (xs : List Nat) : val b xs = xs.getD 0 0 + b * val b xs.tail := by
  cases xs <;> simp [val]
theorem tail_getD (xs : List Nat) (j : Nat) : xs.tail.getD j 0 = xs.getD (j + 1) 0 := by
  cases xs <;> simp
theorem val_ext_aux (b : Nat) : ∀ (n : Nat) (xs ys : List Nat), xs.length ≤ n → ys.length ≤ n → (∀ j, xs.getD j 0 = ys.getD j 0) → val b xs = val b ys
  | 0, xs, ys, hx, hy, _ => by
    rw [List.length_eq_zero_iff.1 (by omega : xs.length = 0), List.length_eq_zero_iff.1 (by omega : ys.length = 0)]
  | n + 1, xs, ys, hx, hy, h => by
    rw [val_hd b xs, val_hd b ys, h 0, val_ext_aux b n xs.tail ys.tail (by simp; omega) (by simp; omega) (fun j => by rw [tail_getD, tail_getD]; exact h (j + 1))]
theorem val_ext (b : Nat) {xs ys : List Nat} (h : ∀ j, xs.getD j 0 = ys.getD j 0) : val b xs = val b ys :=
  val_ext_aux b (max xs.length ys.length) xs ys (by omega) (by omega) h
theorem Low.tl {b : Nat} {xs : List Nat} (h : Low b xs) : Low b xs.tail := fun x hx => h x (List.mem_of_mem_tail hx)
theorem lt_of_top {b : Nat} (hb : 0 < b) : ∀ (k : Nat) {xs ys : List Nat}, Low b xs → (∀ j, k < j → xs.getD j 0 = ys.getD j 0) → xs.getD k 0 < ys.getD k 0 → val b xs < val b ys
  | 0, xs, ys, _, h, hlt => by
    rw [val_hd b xs, val_hd b ys, val_ext b (xs := xs.tail) (ys := ys.tail) (fun j => by rw [tail_getD, tail_getD]; exact h (j + 1) (by omega))]
    omega
  | k + 1, xs, ys, la, h, hlt => by
    have ih := lt_of_top hb k (xs := xs.tail) (ys := ys.tail) la.tl (fun j hj => by rw [tail_getD, tail_getD]; exact h (j + 1) (by omega)) (by rw [tail_getD, tail_getD]; exact hlt)
    have h0 := la.getD hb 0
    rw [val_hd b xs, val_hd b ys]
    have : b * (val b xs.tail + 1) ≤ b * val b ys.tail := Nat.mul_le_mul_left b ih
    rw [Nat.mul_add] at this
    omega
end M
end Go.Proofs.YtimmgjlojplccaaGreatDoor
namespace Go.Proofs.YtimmgjlojplccaaGreatDoor
namespace M
theorem Trim.tail {y : Nat} {ys : List Nat} (ht : Trim (y :: ys)) : Trim ys := by
  intro n hn
  have := ht (n + 1) (by simp [hn])
  simpa using this
theorem pow_le_val {b : Nat} : ∀ (ys : List Nat), Trim ys → ys ≠ [] → b ^ (ys.length - 1) ≤ val b ys
  | [], _, h => absurd rfl h
  | y :: ys, ht, _ => by
    by_cases hy : ys = []
    · subst hy; have := ht 0 rfl; simp at this; simp [val]; omega
    · have := pow_le_val (b := b) ys ht.tail hy
      rw [val_cons]
      have hlen : (y :: ys).length - 1 = (ys.length - 1) + 1 := by
        have : 0 < ys.length := List.length_pos_iff.2 hy
        simp; omega
      rw [hlen, Nat.pow_succ, Nat.mul_comm _ b]
      have := Nat.mul_le_mul_left b this
      omega
theorem lt_of_length {b : Nat} (hb : 0 < b) {xs ys : List Nat} (la : Low b xs) (ht : Trim ys) (h : xs.length < ys.length) : val b xs < val b ys := by
  have h1 := val_lt hb la
  have h2 := pow_le_val (b := b) ys ht (by intro e; rw [e] at h; simp at h)
  have h3 : b ^ xs.length ≤ b ^ (ys.length - 1) := Nat.pow_le_pow_right hb (by omega)
  omega
theorem digs_len_of_lt {b k n : Nat} (hb : 2 ≤ b) (h : n < b ^ k) : (digs b n).length ≤ k := by
  by_cases hk : (digs b n).length ≤ k
  · exact hk
  · exfalso
    have h1 := pow_le_val (b := b) (digs b n) (trim_digs hb n) (by intro e; rw [e] at hk; simp at hk)
    rw [val_digs hb] at h1
    have h2 : b ^ k ≤ b ^ ((digs b n).length - 1) := Nat.pow_le_pow_right (by omega) (by omega)
    omega
theorem val_lt_pow {b k : Nat} (hb : 0 < b) {xs : List Nat} (h : Low b xs) (hk : xs.length ≤ k) : val b xs < b ^ k :=
  Nat.lt_of_lt_of_le (val_lt hb h) (Nat.pow_le_pow_right hb hk)
theorem add_lt_pow {b k m n : Nat} (hb : 2 ≤ b) (h1 : m < b ^ k) (h2 : n < b ^ k) : m + n < b ^ (k + 1) := by
  rw [Nat.pow_succ]
  have : b ^ k * 2 ≤ b ^ k * b := Nat.mul_le_mul_left _ hb
  omega
theorem mul_lt_pow {b j k m n : Nat} (h1 : m < b ^ j) (h2 : n < b ^ k) : m * n < b ^ (j + k) := by
  rw [Nat.pow_add]; exact Nat.mul_lt_mul'' h1 h2
theorem half_carry {b V c s1 s2 k : Nat} (hb : 2 ≤ b) (h1 : s1 < b ^ k) (h2 : s2 < b ^ k) (hc : c ≤ 1) (h : V + b ^ (k + 1) * c = s1 + b ^ k * 0 + s2) : V = s1 + s2 := by
  rw [Nat.pow_succ] at h
  have e3 : b ^ k * 2 ≤ b ^ k * b := Nat.mul_le_mul_left _ hb
  have e4 : c = 0 ∨ c = 1 := by omega
  rcases e4 with rfl | rfl <;> omega
end M
end Go.Proofs.YtimmgjlojplccaaGreatDoor
namespace Go.Proofs.YtimmgjlojplccaaGreatDoor
namespace K

/-- What holds of a guessed half q, with its rest r. -/
def Inv (u d1 d0 Y l q r : Int) : Prop := q * d1 + r = u ∧ u * 4294967296 + l < q * d1 * 4294967296 + q * d0 + Y ∧ 0 ≤ q ∧ q ≤ 17179869184 ∧ 0 ≤ r ∧ r < 4294967296
/-- The half is right. -/
def Right (u Y l q : Int) : Prop := 0 ≤ q ∧ q < 4294967296 ∧ q * Y ≤ u * 4294967296 + l ∧ u * 4294967296 + l < q * Y + Y
/-- The setting. -/
structure Set0 (u d1 d0 Y l : Int) : Prop where
  hY : Y = d1 * 4294967296 + d0
  a1 : 2147483648 ≤ d1
  a2 : d1 < 4294967296
  b1 : 0 ≤ d0
  b2 : d0 < 4294967296
  u1 : 0 ≤ u
  u2 : u < Y
  l1 : 0 ≤ l
  l2 : l < 4294967296

variable {u d1 d0 Y l q r : Int}

theorem qY (hY : Y = d1 * 4294967296 + d0) : q * Y = q * d1 * 4294967296 + q * d0 := by
  rw [hY, Int.mul_add, Int.mul_assoc]

theorem start (h : Set0 u d1 d0 Y l) : Inv u d1 d0 Y l (u / d1) (u - u / d1 * d1) := by
  obtain ⟨hY, a1, a2, b1, b2, u1, u2, l1, l2⟩ := h
  have e := Int.mul_ediv_add_emod u d1
  have m0 := Int.emod_nonneg u (show d1 ≠ 0 by omega)
  have m1 := Int.emod_lt_of_pos u (show 0 < d1 by omega)
  have q0 : 0 ≤ u / d1 := Int.ediv_nonneg u1 (by omega)
  rw [Int.mul_comm d1] at e
  generalize u / d1 = q at *
  generalize u % d1 = m at *
  have p1 : 0 ≤ q * d0 := Int.mul_nonneg q0 b1
  have p2 : q * 2147483648 ≤ q * d1 := Int.mul_le_mul_of_nonneg_left a1 q0
  refine ⟨by omega, by omega, q0, by omega, by omega, by omega⟩

theorem right_of (h : Set0 u d1 d0 Y l) (i1 : q * d1 + r = u) (i2 : u * 4294967296 + l < q * d1 * 4294967296 + q * d0 + Y) (i3 : 0 ≤ q) (hle : q * d0 ≤ 4294967296 * r + l) : Right u Y l q := by
  obtain ⟨hY, a1, a2, b1, b2, u1, u2, l1, l2⟩ := h
  have e := qY (q := q) hY
  refine ⟨i3, ?_, by omega, by omega⟩
  by_cases hq : q < 4294967296
  · exact hq
  · exfalso
    have p1 : 4294967296 * d1 ≤ q * d1 := Int.mul_le_mul_of_nonneg_right (by omega) (by omega)
    have p2 : 4294967296 * d0 ≤ q * d0 := Int.mul_le_mul_of_nonneg_right (by omega) b1
    omega

/-- The test says no. -/
theorem no (h : Set0 u d1 d0 Y l) (i : Inv u d1 d0 Y l q r) (hle : q * d0 ≤ 4294967296 * r + l) : Right u Y l q := right_of h i.1 i.2.1 i.2.2.1 hle

theorem down (h : Set0 u d1 d0 Y l) (i : Inv u d1 d0 Y l q r) (ht : 4294967296 ≤ q ∨ 4294967296 * r + l < q * d0) :
    (q - 1) * d1 + (r + d1) = u ∧ u * 4294967296 + l < (q - 1) * d1 * 4294967296 + (q - 1) * d0 + Y ∧ 0 ≤ q - 1 := by
  obtain ⟨hY, a1, a2, b1, b2, u1, u2, l1, l2⟩ := h
  obtain ⟨i1, i2, i3, i4, i5, i6⟩ := i
  have s1 : (q - 1) * d1 = q * d1 - d1 := by rw [Int.sub_mul, Int.one_mul]
  have s2 : (q - 1) * d0 = q * d0 - d0 := by rw [Int.sub_mul, Int.one_mul]
  rw [s1, s2]
  have key : u * 4294967296 + l < q * d1 * 4294967296 + q * d0 := by
    rcases ht with ht | ht
    · have p1 : 4294967296 * d1 ≤ q * d1 := Int.mul_le_mul_of_nonneg_right ht (by omega)
      have p2 : 4294967296 * d0 ≤ q * d0 := Int.mul_le_mul_of_nonneg_right ht b1
      omega
    · omega
  refine ⟨by omega, by omega, ?_⟩
  rcases Int.lt_or_le 0 q with hq | hq
  · omega
  · have : q = 0 := by omega
    subst this
    simp at key
    omega
/-- The test says yes, and the rest stays a half. -/
theorem yes (h : Set0 u d1 d0 Y l) (i : Inv u d1 d0 Y l q r) (ht : 4294967296 ≤ q ∨ 4294967296 * r + l < q * d0) (hr : r + d1 < 4294967296) : Inv u d1 d0 Y l (q - 1) (r + d1) := by
  obtain ⟨g1, g2, g3⟩ := down h i ht
  have := h.a1
  exact ⟨g1, g2, g3, by have := i.2.2.2.1; omega, by have := i.2.2.2.2.1; omega, hr⟩
/-- The test says yes, and the rest is greater: it is right. -/
theorem brk (h : Set0 u d1 d0 Y l) (i : Inv u d1 d0 Y l q r) (ht : 4294967296 ≤ q ∨ 4294967296 * r + l < q * d0) (hr : 4294967296 ≤ r + d1) : Right u Y l (q - 1) := by
  obtain ⟨g1, g2, g3⟩ := down h i ht
  refine right_of h g1 g2 g3 ?_
  obtain ⟨hY, a1, a2, b1, b2, u1, u2, l1, l2⟩ := h
  have hq : q - 1 < 4294967296 := by
    by_cases hq : q - 1 < 4294967296
    · exact hq
    · exfalso
      have p1 : 4294967296 * d1 ≤ (q - 1) * d1 := Int.mul_le_mul_of_nonneg_right (by omega) (by omega)
      omega
  have p2 : (q - 1) * d0 ≤ 4294967296 * d0 := Int.mul_le_mul_of_nonneg_right (by omega) b1
  omega

/-- The rest behind a right half. -/
theorem rest (h : Right u Y l q) : 0 ≤ u * 4294967296 + l - q * Y ∧ u * 4294967296 + l - q * Y < Y := by
  obtain ⟨_, _, a, b⟩ := h; omega

/-- Both halves together. -/
theorem fin {hi lo y S L l1 l0 q1 q0 R R2 : Int} (hS : 0 < S) (hy : 0 < y) (eL : (hi * 18446744073709551616 + lo) * S = u * 18446744073709551616 + L) (eY : Y = y * S) (el : L = l1 * 4294967296 + l0)
    (e1 : R = u * 4294967296 + l1 - q1 * Y) (e2 : R2 = R * 4294967296 + l0 - q0 * Y) (r0 : 0 ≤ R2) (r1 : R2 < Y) :
    (hi * 18446744073709551616 + lo) / y = q1 * 4294967296 + q0 ∧ (hi * 18446744073709551616 + lo) % y = R2 / S := by
  generalize hi * 18446744073709551616 + lo = N at *
  have e3 : R2 = (N - (q1 * 4294967296 + q0) * y) * S := by
    rw [Int.sub_mul, eL, Int.mul_assoc, ← eY, Int.add_mul, Int.mul_right_comm]
    omega
  have e4 : R2 / S = N - (q1 * 4294967296 + q0) * y := by rw [e3, Int.mul_ediv_cancel _ (by omega)]
  have n0 : 0 ≤ N - (q1 * 4294967296 + q0) * y := by
    rw [← e4]; exact Int.ediv_nonneg r0 (by omega)
  have n1 : N - (q1 * 4294967296 + q0) * y < y := by
    rw [← e4]
    apply Int.ediv_lt_of_lt_mul hS
    rw [← eY]; exact r1
  have e5 : N / y = q1 * 4294967296 + q0 := by
    have : N = (N - (q1 * 4294967296 + q0) * y) + (q1 * 4294967296 + q0) * y := by omega
    rw [this, Int.add_mul_ediv_right _ _ (by omega), Int.ediv_eq_zero_of_lt n0 n1]
    omega
  refine ⟨e5, ?_⟩
  rw [e4, Int.emod_def, e5, Int.mul_comm y]
end K
end Go.Proofs.YtimmgjlojplccaaGreatDoor
namespace Go.Proofs.YtimmgjlojplccaaGreatDoor
namespace R

/-- A digit of a row is a digit of its number. -/
theorem digit {b : Nat} (hb : 0 < b) {xs : List Nat} (hl : M.Low b xs) (m : Nat) : M.val b xs / b ^ m % b = xs.getD m 0 := by
  have hp : 0 < b ^ m := Nat.pow_pos hb
  have e : M.val b xs = M.val b (xs.take m) + b ^ m * M.val b (xs.drop m) := by
    by_cases h : m ≤ xs.length
    · have := M.val_append b (xs.take m) (xs.drop m)
      rwa [List.take_append_drop, List.length_take, Nat.min_eq_left h] at this
    · rw [M.val_take_all _ _ _ (by omega), List.drop_of_length_le (by omega)]; simp [M.val]
  have hlt : M.val b (xs.take m) < b ^ m := M.val_lt_pow hb (hl.take m) (by simp; omega)
  rw [e, Nat.add_mul_div_left _ _ hp, Nat.div_eq_of_lt hlt, Nat.zero_add]
  have e2 := M.val_hd b (xs.drop m)
  have hg : (xs.drop m).getD 0 0 = xs.getD m 0 := by
    rw [List.getD_eq_getElem?_getD, List.getD_eq_getElem?_getD, List.getElem?_drop, Nat.add_zero]
  rw [e2, hg, Nat.add_mul_mod_self_left, Nat.mod_eq_of_lt (hl.getD hb m)]

theorem val_set {b : Nat} : ∀ (xs : List Nat) (m e : Nat), m < xs.length → M.val b (xs.set m (xs.getD m 0 + e)) = M.val b xs + b ^ m * e
  | [], m, e, h => by simp at h
  | x :: xs, 0, e, _ => by
    rw [List.set_cons_zero, M.val_cons, M.val_cons, List.getD_cons_zero, Nat.pow_zero, Nat.one_mul]; omega
  | x :: xs, m + 1, e, h => by
    rw [List.set_cons_succ, M.val_cons, M.val_cons, List.getD_cons_succ, val_set xs m e (by simpa using h), Nat.mul_add, Nat.pow_succ, ← Nat.mul_assoc, Nat.mul_comm b (b ^ m)]
    omega

theorem low_set {b : Nat} {xs : List Nat} (hl : M.Low b xs) (m y : Nat) (hy : y < b) : M.Low b (xs.set m y) := by
  intro x hx
  rcases List.mem_or_eq_of_mem_set hx with h | h
  · exact hl x h
  · rw [h]; exact hy

/-- Bit j of the number: it stands in digit m = j / 32 at place t = j % 32. -/
theorem bit {V D m t : Nat} (hD : D = 4294967296) (ht : t < 32) : V / 2 ^ (32 * m + t) % 2 = V / D ^ m % D / 2 ^ t % 2 := by
  have e1 : 2 ^ (32 * m + t) = D ^ m * 2 ^ t := by
    rw [Nat.pow_add, Nat.pow_mul, hD]
  rw [e1, ← Nat.div_div_eq_div_mul]
  generalize V / D ^ m = W
  have e2 : D = 2 ^ t * 2 ^ (32 - t) := by rw [← Nat.pow_add, show t + (32 - t) = 32 by omega, hD]
  have e3 : 2 ^ (32 - t) = 2 * 2 ^ (31 - t) := by rw [show 32 - t = (31 - t) + 1 by omega, Nat.pow_succ, Nat.mul_comm]
  have hT : 0 < 2 ^ t := Nat.pow_pos (by omega)
  have e4 : W % D / 2 ^ t = W / 2 ^ t % 2 ^ (32 - t) := by
    rw [e2, Nat.mod_mul_right_div_self]
  rw [e4, e3, Nat.mod_mul_right_mod]

/-- Room for the bit. -/
theorem room {Q D m t : Nat} (hD : D = 4294967296) (ht : t < 32) : Q * 2 ^ (32 * m + t + 1) / D ^ m % D + 2 ^ t < D := by
  have e1 : 2 ^ (32 * m + t + 1) = 2 ^ (t + 1) * D ^ m := by
    rw [show 32 * m + t + 1 = (t + 1) + 32 * m by omega, Nat.pow_add, Nat.pow_mul, hD]
  have hp : 0 < D ^ m := Nat.pow_pos (by omega)
  rw [e1, ← Nat.mul_assoc, Nat.mul_div_cancel _ hp]
  have e2 : D = 2 ^ (31 - t) * 2 ^ (t + 1) := by rw [← Nat.pow_add, show 31 - t + (t + 1) = 32 by omega, hD]
  have h1 : Q * 2 ^ (t + 1) % D = Q % 2 ^ (31 - t) * 2 ^ (t + 1) := by
    rw [e2, Nat.mul_mod_mul_right]
  rw [h1]
  have h2 : Q % 2 ^ (31 - t) + 1 ≤ 2 ^ (31 - t) := Nat.mod_lt _ (Nat.pow_pos (by omega))
  have h3 : (Q % 2 ^ (31 - t) + 1) * 2 ^ (t + 1) ≤ 2 ^ (31 - t) * 2 ^ (t + 1) := Nat.mul_le_mul_right _ h2
  rw [← e2, Nat.add_mul, Nat.one_mul] at h3
  have h4 : 2 ^ t < 2 ^ (t + 1) := Nat.pow_lt_pow_right (by omega) (by omega)
  omega

/-- One bit more. -/
theorem stepN {X Y j : Nat} (hY : 0 < Y) : 
    (2 * (X / 2 ^ (j + 1) % Y) + X / 2 ^ j % 2 < Y → X / 2 ^ j % Y = 2 * (X / 2 ^ (j + 1) % Y) + X / 2 ^ j % 2 ∧ X / 2 ^ j / Y = 2 * (X / 2 ^ (j + 1) / Y)) ∧
    (Y ≤ 2 * (X / 2 ^ (j + 1) % Y) + X / 2 ^ j % 2 → X / 2 ^ j % Y = 2 * (X / 2 ^ (j + 1) % Y) + X / 2 ^ j % 2 - Y ∧ X / 2 ^ j / Y = 2 * (X / 2 ^ (j + 1) / Y) + 1) := by
  have e1 : X / 2 ^ (j + 1) = X / 2 ^ j / 2 := by rw [Nat.pow_succ, Nat.div_div_eq_div_mul]
  rw [e1]
  generalize X / 2 ^ j = Z
  have h1 := Nat.div_add_mod Z 2
  have h2 := Nat.div_add_mod (Z / 2) Y
  have h3 := Nat.mod_lt (Z / 2) hY
  have h4 : Z % 2 < 2 := Nat.mod_lt _ (by omega)
  generalize Z / 2 % Y = r at *
  generalize Z / 2 / Y = q at *
  generalize Z % 2 = c at *
  have e : Z = Y * (2 * q) + (2 * r + c) := by rw [Nat.mul_left_comm]; omega
  refine ⟨fun h => ?_, fun h => ?_⟩
  · rw [e, Nat.mul_add_mod, Nat.mod_eq_of_lt h, Nat.mul_add_div hY, Nat.div_eq_of_lt h]
    exact ⟨rfl, rfl⟩
  · have e' : Z = Y * (2 * q + 1) + (2 * r + c - Y) := by rw [Nat.mul_add, Nat.mul_one]; omega
    have hlt : 2 * r + c - Y < Y := by omega
    rw [e', Nat.mul_add_mod, Nat.mod_eq_of_lt hlt, Nat.mul_add_div hY, Nat.div_eq_of_lt hlt]
    exact ⟨by omega, rfl⟩
end R
end Go.Proofs.YtimmgjlojplccaaGreatDoor
namespace Go.Proofs.YtimmgjlojplccaaGreatDoor
namespace L

/-- g is the quotient of V by D, or one more. -/
def Near (V D g : Nat) : Prop := V < g * D + D ∧ g * D < V + D

theorem near_three {b P d1 be Dl U low Vl g : Nat} (hd1 : 1 ≤ d1) (hDl : Dl < P) (hVl : Vl < P) (hg : g < b) (h1 : g * (d1 * b + be) ≤ U * b + low) (h2 : U * b + low < g * (d1 * b + be) + (d1 * b + be)) :
    Near ((U * b + low) * P + Vl) ((d1 * b + be) * P + Dl) g := by
  have q : b * P ≤ (d1 * b + be) * P := Nat.mul_le_mul_right _ (by
    have : 1 * b ≤ d1 * b := Nat.mul_le_mul_right _ hd1
    omega)
  generalize d1 * b + be = D2 at *
  generalize U * b + low = U3 at *
  have e1 : g * (D2 * P + Dl) = g * D2 * P + g * Dl := by rw [Nat.mul_add, Nat.mul_assoc]
  have e2 : (g * D2 + D2) * P = g * D2 * P + D2 * P := Nat.add_mul _ _ _
  have p1 : (U3 + 1) * P ≤ (g * D2 + D2) * P := Nat.mul_le_mul_right _ h2
  rw [Nat.add_mul, Nat.one_mul] at p1
  have p2 : g * D2 * P ≤ U3 * P := Nat.mul_le_mul_right _ h1
  have p3 : g * Dl ≤ g * P := Nat.mul_le_mul_left _ (by omega)
  have p4 : (g + 1) * P ≤ b * P := Nat.mul_le_mul_right _ hg
  rw [Nat.add_mul, Nat.one_mul] at p4
  unfold Near
  omega

theorem near_top {b P d1 be Dl top V : Nat} (hb : be < b) (hDl : Dl < P) (hd : b ≤ 2 * d1) (ht : d1 ≤ top) (hVt : top * (b * (b * P)) ≤ V) (hV : V < b * ((d1 * b + be) * P + Dl)) :
    Near V ((d1 * b + be) * P + Dl) (b - 1) := by
  have p1 : d1 * (b * (b * P)) ≤ top * (b * (b * P)) := Nat.mul_le_mul_right _ ht
  have p2 : b * ((d1 * b + be) * P + Dl + 1) ≤ b * ((d1 * b + b) * P) := Nat.mul_le_mul_left _ (by
    have : (d1 * b + be + 1) * P ≤ (d1 * b + b) * P := Nat.mul_le_mul_right _ (by omega)
    rw [Nat.add_mul _ 1, Nat.one_mul] at this
    omega)
  have e2 : b * ((d1 * b + b) * P) = d1 * (b * (b * P)) + b * (b * P) := by
    rw [Nat.add_mul, Nat.mul_add, Nat.mul_assoc d1, Nat.mul_left_comm b d1]
  have p3 : b * (b * P) ≤ 2 * ((d1 * b + be) * P + Dl) := by
    have : b * (b * P) ≤ (2 * d1) * (b * P) := Nat.mul_le_mul_right _ hd
    have e : (d1 * b + be) * P = d1 * (b * P) + be * P := by rw [Nat.add_mul, Nat.mul_assoc]
    rw [Nat.mul_assoc 2] at this
    omega
  generalize (d1 * b + be) * P + Dl = D at *
  rw [Nat.mul_add] at p2
  have e3 : (b - 1) * D + D = b * D := by
    have : b - 1 + 1 = b := by omega
    rw [← Nat.succ_mul, Nat.succ_eq_add_one, this]
  have hD : 0 < D := by
    rcases Nat.eq_zero_or_pos D with h | h
    · subst h; omega
    · exact h
  unfold Near
  refine ⟨by omega, ?_⟩
  omega

/-- Behind the subtraction, where nothing is missing. -/
theorem noBorrow {Bn D V g vs vs' ab c : Nat} (hV : V = vs + Bn * ab) (hn : Near V D g) (hD : D ≤ Bn) (e : vs' + D * g = vs + Bn * c) (h : c ≤ ab) : ab = c ∧ vs' < D ∧ V = g * D + vs' := by
  obtain ⟨n1, n2⟩ := hn
  obtain ⟨d, rfl⟩ : ∃ d, ab = c + d := ⟨ab - c, by omega⟩
  rw [Nat.mul_add] at hV
  rw [Nat.mul_comm D] at e
  have hd : d = 0 := by
    rcases Nat.eq_zero_or_pos d with h | h
    · exact h
    · have : Bn * 1 ≤ Bn * d := Nat.mul_le_mul_left _ h
      omega
  subst hd
  omega
/-- Where something is missing, the guess was one too great. -/
theorem borrow {Bn D V g vs vs' ab c : Nat} (hV : V = vs + Bn * ab) (hn : Near V D g) (hD : D ≤ Bn) (hv : vs' < Bn) (e : vs' + D * g = vs + Bn * c) (h : ab < c) :
    c = ab + 1 ∧ 0 < g ∧ ∀ vt c2, vt < Bn → c2 ≤ 1 → vt + Bn * c2 = vs' + D → c2 = 1 ∧ V = (g - 1) * D + vt ∧ vt < D := by
  obtain ⟨n1, n2⟩ := hn
  obtain ⟨d, rfl⟩ : ∃ d, c = ab + 1 + d := ⟨c - ab - 1, by omega⟩
  rw [Nat.mul_add, Nat.mul_add] at e
  rw [Nat.mul_comm D] at e
  have hd : d = 0 := by
    rcases Nat.eq_zero_or_pos d with h | h
    · exact h
    · have : Bn * 1 ≤ Bn * d := Nat.mul_le_mul_left _ h
      omega
  subst hd
  have hg : 0 < g := by
    rcases Nat.eq_zero_or_pos g with h | h
    · subst h; omega
    · exact h
  refine ⟨rfl, hg, ?_⟩
  intro vt c2 h1 h2 h3
  obtain ⟨p, rfl⟩ : ∃ p, g = p + 1 := ⟨g - 1, by omega⟩
  rw [Nat.add_sub_cancel]
  rw [Nat.add_mul] at *
  have h4 : c2 = 0 ∨ c2 = 1 := by omega
  rcases h4 with rfl | rfl <;> omega

/-- hi: the rest of the limbs from k on; qs: their quotient. -/
def LAt (b : Nat) (rs hi qs : List Nat) (n D t k : Nat) : Prop := hi.length = n ∧ M.Low b hi ∧ M.Low b qs ∧ qs.length + k = t ∧ M.val b hi < D ∧ M.val b (rs.drop k) = M.val b qs * D + M.val b hi
theorem LAt.step {b : Nat} {rs hi qs hi' : List Nat} {n D t j q : Nat} (h : LAt b rs hi qs n D t (j + 1)) (hj : j < rs.length) (h1 : hi'.length = n) (h2 : M.Low b hi') (h3 : q < b) (h4 : M.val b hi' < D) (h5 : rs.getD j 0 + b * M.val b hi = q * D + M.val b hi') :
    LAt b rs hi' (q :: qs) n D t j := by
  obtain ⟨a1, a2, a3, a4, a5, a6⟩ := h
  refine ⟨h1, h2, M.Low.cons h3 a3, by simp; omega, h4, ?_⟩
  have e : rs.drop j = rs.getD j 0 :: rs.drop (j + 1) := by
    rw [List.drop_eq_getElem_cons hj]; simp [List.getD, hj]
  rw [e, M.val_cons, a6, M.val_cons, Nat.add_mul, Nat.mul_add, Nat.mul_assoc]
  omega

/-- At the end. -/
theorem fin {X Y S D Q R : Nat} (hS : 0 < S) (hD : D = Y * S) (h : X * S = Q * D + R) (hR : R < D) : Q = X / Y ∧ R / S = X % Y := by
  subst hD
  have hY : 0 < Y := by
    rcases Nat.eq_zero_or_pos Y with h | h
    · subst h; rw [Nat.zero_mul] at hR; omega
    · exact h
  rw [← Nat.mul_assoc] at h
  have h1 : Q * Y ≤ X := by
    have : Q * Y * S ≤ X * S := by omega
    exact Nat.le_of_mul_le_mul_right this hS
  obtain ⟨Z, rfl⟩ : ∃ Z, X = Q * Y + Z := ⟨X - Q * Y, by omega⟩
  rw [Nat.add_mul] at h
  have hRZ : R = Z * S := by omega
  subst hRZ
  have hZ : Z < Y := Nat.lt_of_mul_lt_mul_right hR
  rw [Nat.mul_div_cancel _ hS, Nat.mul_comm Q, Nat.mul_add_div hY, Nat.div_eq_of_lt hZ, Nat.mul_add_mod, Nat.mod_eq_of_lt hZ]
  exact ⟨rfl, rfl⟩

/-- The highest limbs of a shifted row are below the divisor. -/
theorem top_lt {b S n t Y X R V : Nat} (hY : b ^ n ≤ Y) (hX : X < b ^ (n + t)) (h : X * S = R + b ^ t * V) (hS : 0 < S) : V < Y * S := by
  have h1 : b ^ t * V < b ^ t * (Y * S) := by
    have e1 : X * S < b ^ (n + t) * S := Nat.mul_lt_mul_of_pos_right hX hS
    have e2 : b ^ n * S ≤ Y * S := Nat.mul_le_mul_right _ hY
    have e3 : b ^ t * (b ^ n * S) ≤ b ^ t * (Y * S) := Nat.mul_le_mul_left _ e2
    have e4 : b ^ (n + t) * S = b ^ t * (b ^ n * S) := by rw [Nat.pow_add, Nat.mul_comm (b ^ n), Nat.mul_assoc]
    omega
  exact Nat.lt_of_mul_lt_mul_left h1

/-- What a row is, shifted until its highest bit is set. -/
theorem shift_lt {b P S Z T R : Nat} (hb : b = S * Z) (hR : R < P) (hT : T * S < b) (hS : 0 < S) : (R + P * T) * S < P * b := by
  have h1 : T < Z := by rw [hb, Nat.mul_comm] at hT; exact Nat.lt_of_mul_lt_mul_left hT
  have h2 : R + P * T < P * Z := by
    have : P * (T + 1) ≤ P * Z := Nat.mul_le_mul_left _ h1
    rw [Nat.mul_add] at this
    omega
  have h3 : (R + P * T) * S < P * Z * S := Nat.mul_lt_mul_of_pos_right h2 hS
  rw [hb, Nat.mul_comm S, ← Nat.mul_assoc]
  exact h3
theorem shift_hi {P S T R H Rl d : Nat} (hP : Rl < P) (hH : H ≤ T * S) (e : Rl + P * d = (R + P * T) * S) : H ≤ d := by
  have h1 : P * H ≤ P * (T * S) := Nat.mul_le_mul_left _ hH
  rw [Nat.add_mul, Nat.mul_assoc] at e
  by_cases h : H ≤ d
  · exact h
  · have : P * (d + 1) ≤ P * H := Nat.mul_le_mul_left _ (by omega)
    rw [Nat.mul_add] at this
    omega
theorem top_zero {P V e : Nat} (h : V + P * e < P) : e = 0 := by
  rcases Nat.eq_zero_or_pos e with h0 | h0
  · exact h0
  · have : P * 1 ≤ P * e := Nat.mul_le_mul_left _ h0
    omega
theorem part_lt {b x h D : Nat} (hx : x < b) (hh : h < D) : x + b * h < b * D := by
  have : b * (h + 1) ≤ b * D := Nat.mul_le_mul_left _ hh
  rw [Nat.mul_add] at this
  omega

theorem last1 (xs : List Nat) (h : xs ≠ []) : ∃ ys a, xs = ys ++ [a] := ⟨xs.dropLast, xs.getLast h, (List.dropLast_concat_getLast h).symm⟩
theorem last2 (xs : List Nat) (h : 2 ≤ xs.length) : ∃ ys a b, xs = ys ++ [a, b] := by
  obtain ⟨y1, b, rfl⟩ := last1 xs (by intro h0; subst h0; simp at h)
  obtain ⟨y2, a, rfl⟩ := last1 y1 (by intro h0; subst h0; simp at h)
  exact ⟨y2, a, b, by simp⟩
end L
end Go.Proofs.YtimmgjlojplccaaGreatDoor
