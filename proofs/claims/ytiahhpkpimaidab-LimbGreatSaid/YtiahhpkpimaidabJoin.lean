/-
  Package gussetref01: Join.
-/
import Derived.Test.YtiahhpkpimaidabRefs
namespace Go.Proofs.Ytiahhpkpimaidab
open Go.RowKit

def jn : List Nat → List Nat
  | [] => []
  | [x] => [x]
  | x :: y :: r => (x + D32 * y) :: jn r
theorem jn_val : ∀ ds : List Nat, M.val B64 (jn ds) = M.val D32 ds
  | [] => rfl
  | [x] => by simp [jn, M.val]
  | x :: y :: r => by
    simp only [jn, M.val_cons, jn_val r]
    rw [Nat.mul_add, ← Nat.mul_assoc, D32_sq]; omega
theorem jn_low : ∀ {ds : List Nat}, M.Low D32 ds → M.Low B64 (jn ds)
  | [], _ => M.Low.nil _
  | [x], h => M.Low.cons (by have := h.head; unfold D32 at this; unfold B64; omega) (M.Low.nil _)
  | x :: y :: r, h => M.Low.cons (by have h1 := h.head; have h2 := h.tail.head; unfold D32 at *; unfold B64; omega) (jn_low h.tail.tail)
theorem jn_length : ∀ ds : List Nat, (jn ds).length = (ds.length + 1) / 2
  | [] => rfl
  | [x] => by simp [jn]
  | x :: y :: r => by simp [jn, jn_length r]; omega
theorem jn_trim : ∀ {ds : List Nat}, M.Trim ds → M.Trim (jn ds)
  | [], _ => fun n hn => by simp [jn] at hn
  | [x], h => fun n hn => by simp [jn] at hn; subst hn; simpa [jn] using h 0 rfl
  | [x, y], h => fun n hn => by
    simp [jn] at hn; subst hn
    have := h 1 rfl
    simp at this
    simp [jn]
    intro _; unfold D32; omega
  | x :: y :: z :: r, h => by
    have h' : M.Trim (z :: r) := fun n hn => by simpa using h (n + 2) (by simp at hn ⊢; omega)
    have ih := jn_trim h'
    intro n hn
    simp only [jn, List.length_cons] at hn
    have hne : (jn (z :: r)).length ≠ 0 := by rw [jn_length]; simp
    match n with
    | 0 => omega
    | n + 1 => simpa [jn] using ih n (by omega)
theorem jn_append : ∀ (a b : List Nat) (k : Nat), a.length = 2 * k → jn (a ++ b) = jn a ++ jn b
  | [], b, _, _ => by simp [jn]
  | [x], b, k, h => by simp at h; omega
  | x :: y :: r, b, k, h => by
    simp only [List.cons_append, jn]
    rw [jn_append r b (k - 1) (by simp at h; omega)]
theorem jn_two (ds : List Nat) (k : Nat) (h : 2 * k + 1 < ds.length) : jn (ds.take (2 * (k + 1))) = jn (ds.take (2 * k)) ++ [lm ds (2 * k) + D32 * lm ds (2 * k + 1)] := by
  rw [show 2 * (k + 1) = 2 * k + 1 + 1 by omega, take_succ_lm ds _ h, take_succ_lm ds _ (by omega), List.append_assoc, jn_append _ _ k (by simp; omega)]
  rfl
theorem jn_one (ds : List Nat) (k : Nat) (h : 2 * k + 1 = ds.length) : jn (ds.take (2 * (k + 1))) = jn (ds.take (2 * k)) ++ [lm ds (2 * k)] := by
  rw [List.take_of_length_le (by omega)]
  have : ds = ds.take (2 * k) ++ [lm ds (2 * k)] := by rw [← take_succ_lm ds _ (by omega), List.take_of_length_le (by omega)]
  conv => lhs; rw [this]
  rw [jn_append _ _ k (by simp; omega)]
  rfl
theorem jn_digs {ds : List Nat} (h : M.Low D32 ds) (ht : M.Trim ds) : jn ds = M.digs B64 (M.val D32 ds) := by
  rw [← jn_val]; exact M.eq_digs B64_two (jn_low h) (jn_trim ht)

theorem rd_of_owns {w : World} {base : Nat} {v : Value} {zs : List Nat} (h : w.ownsRow base 22 1 v zs.length (zs.map fun x => Value.int .u64 (x : Nat))) : Rd w v zs := by
  have hcells : ∀ g, v.ownBlock = some g → _ := fun g => h.cells (g := g)
  obtain ⟨_, h | ⟨g, cap, cur, rfl, hg, hh, hn, hm, hs, ht⟩⟩ := h
  · obtain ⟨rfl, h0⟩ := h
    have : zs = [] := List.length_eq_zero_iff.1 h0
    subst this
    exact ⟨none, 0, rfl, by simp, fun j hj => by simp at hj⟩
  · refine ⟨_, cap, rfl, hn, fun j hj => ⟨g, 0, rfl, ?_⟩⟩
    have := hcells g rfl j (.int .u64 (lm zs j : Nat)) (by simp [lm, hj])
    by_cases h0 : j = 0
    · subst h0; simpa [Addr.add] using this
    · simpa [Addr.add, h0] using this

/-- A slice of the call's own, made by append alone. -/
def Own (w : World) (base : Nat) (v : Value) (zs : List Nat) : Prop := w.ownsRow base 22 1 v zs.length (zs.map fun x => Value.int .u64 (x : Nat))
theorem Own.nil (w : World) (base : Nat) : Own w base (.slice none 0 0) [] := World.ownsRow_nil _ _ _ _
theorem Own.rd {w : World} {base : Nat} {v : Value} {zs : List Nat} (h : Own w base v zs) : Rd w v zs := rd_of_owns h

/-- 'out = append(out, x)' on such a slice. -/
theorem wpList_app1 {wr : World} {ops : Array Oper} {rest : List Oper} {o : Oper} {a : Act} {Q : Exit → Act → World → Prop}
    (hg : o.guard = none) (s x : Operand) (hop : o.op = Op.call { callee := Callee.builtin Builtin.append, args := #[s, x], argTypes := #[24, 24] })
    (base : Nat) (v : Value) (zs : List Nat) (hs : a.eval s = v) (hown : Own wr base v zs) (X : Int) (n : Nat) (hX : X = (n : Int)) (hx : a.eval x = .slice (some ⟨wr.heap.size, 0, none⟩) 1 1)
    (hl : zs.length ≤ 10000000) (hbase : base ≤ wr.heap.size)
    (hK : ∀ v' w', Own w' base v' (zs ++ [n]) → (∀ w0, Below base w0 wr → Below base w0 w') → wpList Try.prog ops Q rest (a.put o.dst v') w') :
    wpList Try.prog ops Q (o :: rest) a (wr.alloc (.cells #[.int .u64 X] 22)) := by
  obtain ⟨i0, hi, hz0, hz1, hz2⟩ := info_parts (show (Try.prog.info? 22).map (fun i => (i.zero, i.size, i.bytes)) = some (some (.int .u64 0), 1, 8) by kernel_rfl)
  subst hX
  refine wpList_append_own _ hg s x 24 hop base 22 i0 (.int .u64 0) 1 8 Try.underlying24 hi hz0 hz1 hz2 rfl (by decide) v zs.length (zs.map fun x => Value.int .u64 (x : Nat)) hs (World.ownsRow.alloc hown _) ⟨wr.heap.size, 0, none⟩ 1 1 [.int .u64 (n : Int)] hx rfl ?_ ?_ ?_ ?_ ?_ ?_
  · intro j u hj
    match j, hj with
    | 0, hj => simp at hj; subst hj; simp [Addr.add]
  · intro u hu; simp at hu; subst hu; rfl
  · unfold maxLen; omega
  · omega
  · simp; omega
  · intro v' w1 hown' hgrow _
    refine hK v' w1 ?_ ?_
    · unfold Own; simpa using hown'
    · intro w0 hb
      exact (hb.alloc hbase _).grown hgrow (by simp; omega) (fun k hk => (World.ownsRow.lt hown k hk).1)

theorem join_cast (x y : Nat) : ((x : Int) + 4294967296 * (y : Int)) = ((x + D32 * y : Nat) : Int) := by unfold D32; omega

end Go.Proofs.Ytiahhpkpimaidab
