/-
  Tokens: the pieces of a text between blanks, as both the library's way over runes and a way over bytes tell them.
  The tokens of a text, by its bytes: a blank parts them; blanks turn nothing.
-/
import Derived.Lib.FieldsP
namespace Go.Proofs.YtnplifkgeeicjaaGreatDoor
open Go.Lib
def bl (n : Nat) : Bool := n == 32 || (n == 9 || n == 10)
def bt (s : ByteArray) (i : Nat) : Nat := (s.get! i).toNat
def tkk (s : ByteArray) : Nat → Nat → Nat → List ByteArray
 | 0, a, i => if a < i then [s.extract a i] else []
 | n + 1, a, i => if bl (bt s i) then (if a < i then s.extract a i :: tkk s n (i + 1) (i + 1) else tkk s n (i + 1) (i + 1)) else tkk s n a (i + 1)
def toks (s : ByteArray) : List ByteArray := tkk s s.size 0 0
theorem tk_more (s : ByteArray) (a : Nat) : ∀ (k n i : Nat), (∀ j, j < k → bl (bt s (i + j)) = false) → tkk s (k + n) a i = tkk s n a (i + k)
 | 0, n, i, _ => by rw [Nat.zero_add]; rfl
 | k + 1, n, i, h => by
  have e : k + 1 + n = (k + n) + 1 := by omega
  rw [e, tkk, if_neg (by have := h 0 (by omega); rw [Nat.add_zero] at this; rw [this]; decide)]
  rw [tk_more s a k n (i + 1) (fun j hj => by have := h (j + 1) (by omega); rwa [show i + 1 + j = i + (j + 1) by omega]), show i + 1 + k = i + (k + 1) by omega]
theorem dec_blank (s : ByteArray) (i : Nat) (h : bl (bt s i) = true) : Utf8.decode s i = (bt s i, 1) := by
 rw [decode_at]
 unfold decodeN
 have : bt s i < 128 := by unfold bl at h; simp at h; omega
 rw [if_pos (show (s.get! i).toNat < 128 from this)]
 rfl
theorem dec_other (s : ByteArray) (i : Nat) (hi : i < s.size) (h : bl (bt s i) = false) :
  bl (Utf8.decode s i).1 = false ∧ 1 ≤ (Utf8.decode s i).2 ∧ i + (Utf8.decode s i).2 ≤ s.size ∧ ∀ j, j < (Utf8.decode s i).2 → bl (bt s (i + j)) = false := by
 have nb : ∀ n, 128 ≤ n → bl n = false := fun n hn => by unfold bl; simp; omega
 have nl : ∀ n, n / 64 = 2 → bl n = false := fun n hn => by unfold bl; simp; omega
 have hw := width_pos s i
 have hn := decodeN_le_n' (s.size - i) (s.get! i).toNat (s.get! (i + 1)).toNat (s.get! (i + 2)).toNat (s.get! (i + 3)).toNat (by omega)
 rw [← decode_at] at hn
 refine ⟨?_, hw, by omega, ?_⟩
 ·rw [decode_at]
  unfold decodeN
  split
  ·exact h
  ·(repeat' split) <;> first | exact nb _ (by decide) | (apply nb; simp only; omega)
 ·have q : (2 ≤ (Utf8.decode s i).2 → bt s (i + 1) / 64 = 2) ∧ (3 ≤ (Utf8.decode s i).2 → bt s (i + 2) / 64 = 2) ∧ (4 ≤ (Utf8.decode s i).2 → bt s (i + 3) / 64 = 2) ∧ (Utf8.decode s i).2 ≤ 4 := by
   unfold bt
   rw [decode_at]
   unfold decodeN
   (repeat' split) <;> simp only <;> omega
  obtain ⟨q1, q2, q3, q4⟩ := q
  intro j hj
  obtain rfl | rfl | rfl | rfl : j = 0 ∨ j = 1 ∨ j = 2 ∨ j = 3 := by omega
  ·exact h
  ·exact nl _ (q1 (by omega))
  ·exact nl _ (q2 (by omega))
  ·exact nl _ (q3 (by omega))
theorem spans_tk (s : ByteArray) : ∀ (f pos : Nat) (st : Option Nat) (acc : List (Nat × Nat)), s.size ≤ pos + f → pos ≤ s.size → (∀ a, st = some a → a < pos) →
  (closeSpans s (spansFromP bl s f pos st acc)).map (fun x => s.extract x.1 x.2) = acc.map (fun x => s.extract x.1 x.2) ++ tkk s (s.size - pos) (st.getD pos) pos
 | 0, pos, st, acc, h, hp, hst => by
  obtain rfl : pos = s.size := by omega
  rw [Nat.sub_self]
  cases st with
  | none => simp [spansFromP, closeSpans, tkk]
  | some a => have := hst a rfl; simp [spansFromP, closeSpans, tkk, this]
 | f + 1, pos, st, acc, h, hp, hst => by
  by_cases hlt : pos < s.size
  ·simp only [spansFromP, if_pos hlt]
   cases hb : bl (bt s pos) with
   | true =>
    rw [dec_blank s pos hb]
    simp only [hb, if_true]
    obtain ⟨n, hn⟩ : ∃ n, s.size - pos = n + 1 := ⟨s.size - pos - 1, by omega⟩
    have e : s.size - (pos + 1) = n := by omega
    rw [hn, tkk, if_pos hb]
    cases st with
    | none =>
     have := spans_tk s f (pos + 1) none acc (by omega) (by omega) (fun a h => by cases h)
     rw [e] at this
     simpa using this
    | some a =>
     have := spans_tk s f (pos + 1) none (acc ++ [(a, pos)]) (by omega) (by omega) (fun a h => by cases h)
     rw [e] at this
     have ha := hst a rfl
     simpa [ha] using this
   | false =>
    obtain ⟨h1, h2, h3, h4⟩ := dec_other s pos hlt hb
    generalize Utf8.decode s pos = x at *
    simp only [h1]
    have e : s.size - pos = x.2 + (s.size - (pos + x.2)) := by omega
    rw [e]
    cases st with
    | none =>
     have := spans_tk s f (pos + x.2) (some pos) acc (by omega) (by omega) (fun a h => by cases h; omega)
     rw [tk_more s _ _ _ _ h4]
     simpa using this
    | some a =>
     have := spans_tk s f (pos + x.2) (some a) acc (by omega) (by omega) (fun b h => by cases h; have := hst a rfl; omega)
     rw [tk_more s _ _ _ _ h4]
     simpa using this
  ·obtain rfl : pos = s.size := by omega
   rw [spansFromP_end _ _ _ _ _ _ hlt, Nat.sub_self]
   cases st with
   | none => simp [closeSpans, tkk]
   | some a => have := hst a rfl; simp [closeSpans, tkk, this]
theorem fields_toks (s : ByteArray) : goFieldsP bl s = toks s := by
 unfold goFieldsP spansOfP toks
 rw [spans_tk s s.size 0 none [] (by omega) (by omega) (fun a h => by cases h)]
 simp
end Go.Proofs.YtnplifkgeeicjaaGreatDoor
namespace Go.Proofs.YtnplifkgeeicjaaGreatDoor
def cl8 (c : List UInt8) : List ByteArray := if c = [] then [] else [⟨c.toArray⟩]
def tl8 : List UInt8 → List UInt8 → List ByteArray
 | [], c => cl8 c
 | x :: l, c => if bl x.toNat then cl8 c ++ tl8 l [] else tl8 l (c ++ [x])
theorem tk_tl (s : ByteArray) : ∀ (n a i : Nat), i + n = s.size → a ≤ i → tkk s n a i = tl8 (s.data.toList.drop i) ((s.data.toList.take i).drop a)
 | 0, a, i, h, ha => by
  have hl : s.data.toList.length = s.size := Array.length_toList
  have e : s.data.toList.drop i = [] := List.drop_eq_nil_of_le (by omega)
  rw [e, tkk, tl8, cl8]
  by_cases h1 : a < i
  ·have hne : (s.data.toList.take i).drop a ≠ [] := by
    intro e
    have := congrArg List.length e
    rw [List.length_drop, List.length_take, List.length_nil] at this
    omega
   rw [if_pos h1, if_neg hne]
   congr 1
   apply ByteArray.ext
   rw [ByteArray.data_extract]
   apply Array.toList_inj.1
   rw [Array.toList_extract, List.extract_eq_take_drop, List.drop_take]
  ·have : (s.data.toList.take i).drop a = [] := List.drop_eq_nil_of_le (by rw [List.length_take]; omega)
   rw [if_neg h1, if_pos this]
 | n + 1, a, i, h, ha => by
  have hl : s.data.toList.length = s.size := Array.length_toList
  have hi : i < s.data.toList.length := by omega
  have e : s.data.toList.drop i = s.data.toList[i] :: s.data.toList.drop (i + 1) := List.drop_eq_getElem_cons hi
  have hb : bt s i = (s.data.toList[i]).toNat := by
   unfold bt
   have hi' : i < s.data.size := by rw [← Array.length_toList]; exact hi
   rw [show s.get! i = s.data[i]! from rfl, getElem!_pos s.data i hi']
   rfl
  rw [e, tkk, tl8, ← hb]
  have e0 : (s.data.toList.take (i + 1)).drop (i + 1) = [] := List.drop_eq_nil_of_le (by rw [List.length_take]; omega)
  have e1 := tk_tl s n (i + 1) (i + 1) (by omega) (Nat.le_refl _)
  rw [e0] at e1
  have e2 := tk_tl s n a (i + 1) (by omega) (by omega)
  by_cases h1 : bl (bt s i) = true
  ·rw [if_pos h1, if_pos h1, e1]
   by_cases h2 : a < i
   ·have hne : (s.data.toList.take i).drop a ≠ [] := by
     intro e
     have := congrArg List.length e
     rw [List.length_drop, List.length_take, List.length_nil] at this
     omega
    rw [if_pos h2, cl8, if_neg hne]
    show _ :: _ = _ :: _
    congr 1
    apply ByteArray.ext
    rw [ByteArray.data_extract]
    apply Array.toList_inj.1
    rw [Array.toList_extract, List.extract_eq_take_drop, List.drop_take]
   ·have : (s.data.toList.take i).drop a = [] := List.drop_eq_nil_of_le (by rw [List.length_take]; omega)
    rw [if_neg h2, this, cl8, if_pos rfl]
    rfl
  ·rw [if_neg h1, if_neg h1, e2]
   congr 1
   rw [List.take_succ_eq_append_getElem hi, List.drop_append_of_le_length (by rw [List.length_take]; omega)]
theorem toks_tl (s : ByteArray) : toks s = tl8 s.data.toList [] := by
 have := tk_tl s s.size 0 0 (by omega) (Nat.le_refl _)
 rw [toks, this]
 rfl
theorem tl8_app (b : UInt8) (hb : bl b.toNat = true) (r : List UInt8) : ∀ (l c : List UInt8), tl8 (l ++ b :: r) c = tl8 l c ++ tl8 r []
 | [], c => by
  show (if bl b.toNat then cl8 c ++ tl8 r [] else tl8 r (c ++ [b])) = cl8 c ++ tl8 r []
  rw [if_pos hb]
 | x :: l, c => by
  rw [List.cons_append, tl8, tl8]
  by_cases h : bl x.toNat = true
  ·rw [if_pos h, if_pos h, tl8_app b hb r l [], List.append_assoc]
  ·rw [if_neg h, if_neg h, tl8_app b hb r l (c ++ [x])]
theorem tl8_tok : ∀ (l c : List UInt8), (∀ x ∈ l, bl x.toNat = false) → tl8 l c = cl8 (c ++ l)
 | [], c, _ => by rw [tl8, List.append_nil]
 | x :: l, c, h => by
  rw [tl8, if_neg (by rw [h x List.mem_cons_self]; simp), tl8_tok l (c ++ [x]) (fun y hy => h y (List.mem_cons_of_mem _ hy)), List.append_assoc]
  rfl
def Tok (t : ByteArray) : Prop := t.size ≠ 0 ∧ ∀ x ∈ t.data.toList, bl x.toNat = false
theorem toks_one {t : ByteArray} (h : Tok t) : tl8 t.data.toList [] = [t] := by
 rw [tl8_tok _ _ h.2, List.nil_append, cl8, if_neg]
 intro e
 have hl : t.data.toList.length = t.size := Array.length_toList
 rw [e] at hl
 exact h.1 hl.symm
end Go.Proofs.YtnplifkgeeicjaaGreatDoor
