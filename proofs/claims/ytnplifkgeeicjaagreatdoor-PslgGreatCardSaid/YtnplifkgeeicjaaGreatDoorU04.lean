/-
  Package gussetref01: Join.
  gussetlaw01: copied, small.
  Rows of limbs that lie in blocks of limbs.
  Package gussetref01: trim, Split.
-/
import Derived.BigRegion
import Derived.Deep.RegionLaw
import Derived.RegionTactic
import Derived.Test.YtnplifkgeeicjaaGreatDoorU03
namespace Go.Proofs.YtnplifkgeeicjaaGreatDoor
open Go.RowKit
theorem rd_of_owns {w : World} {base : Nat} {v : Value} {zs : List Nat} (h : w.ownsRow base 170 1 v zs.length (zs.map fun x => Value.int .u64 (x : Nat))) : Rd w v zs := by
 have hcells : ∀ g, v.ownBlock = some g → _ := fun g => h.cells (g := g)
 obtain ⟨_, h | ⟨g, cap, cur, rfl, hg, hh, hn, hm, hs, ht⟩⟩ := h
 ·obtain ⟨rfl, h0⟩ := h
  have : zs = [] := List.length_eq_zero_iff.1 h0
  subst this
  exact ⟨none, 0, rfl, by simp, fun j hj => by simp at hj⟩
 ·refine ⟨_, cap, rfl, hn, fun j hj => ⟨g, 0, rfl, ?_⟩⟩
  have := hcells g rfl j (.int .u64 (lm zs j : Nat)) (by simp [lm, hj])
  by_cases h0 : j = 0
  ·subst h0; simpa [Addr.add] using this
  ·simpa [Addr.add, h0] using this
def Own (w : World) (base : Nat) (v : Value) (zs : List Nat) : Prop := w.ownsRow base 170 1 v zs.length (zs.map fun x => Value.int .u64 (x : Nat))
theorem Own.rd {w : World} {base : Nat} {v : Value} {zs : List Nat} (h : Own w base v zs) : Rd w v zs := rd_of_owns h
theorem wpList_appN {w : World} {ops : Array Oper} {rest : List Oper} {o : Oper} {a : Act} {Q : Exit → Act → World → Prop}
  (hg : o.guard = none) (s x : Operand) (hop : o.op = Op.call { callee := Callee.builtin Builtin.append, args := #[s, x], argTypes := #[64, 64] })
  (hs : a.eval s = .slice none 0 0) (b off n cap : Nat) (hx : a.eval x = .slice (some ⟨b, off, none⟩) n cap) (xs : List Nat) (hn : n = xs.length)
  (hc : ∀ j, j < xs.length → w.cell? ⟨b, off + j, none⟩ = some (.int .u64 (lm xs j : Nat))) (hl : xs.length ≤ 10000000)
  (hK : ∀ v' w', Own w' w.heap.size v' xs → Below w.heap.size w w' → wpList Tryz.prog ops Q rest (a.put o.dst v') w') :
  wpList Tryz.prog ops Q (o :: rest) a w := by
 obtain ⟨i0, hi, hz0, hz1, hz2⟩ := info_parts (show (Tryz.prog.info? 170).map (fun i => (i.zero, i.size, i.bytes)) = some (some (.int .u64 0), 1, 8) by kernel_rfl)
 subst hn
 refine wpList_append_own _ hg s x 64 hop w.heap.size 170 i0 (.int .u64 0) 1 8 Tryz.underlying64 hi hz0 hz1 hz2 rfl (by decide) (.slice none 0 0) 0 [] hs (World.ownsRow_nil _ _ _ _) ⟨b, off, none⟩ xs.length cap (xs.map fun x => Value.int .u64 (x : Nat)) hx (by simp) ?_ ?_ ?_ ?_ (Nat.le_refl _) ?_
 ·intro j u hj
  have hj' : j < xs.length := by
   have := List.getElem?_eq_some_iff.1 hj
   simpa using this.1
  have h := hc j hj'
  simp [hj'] at hj
  subst hj
  by_cases h0 : j = 0
  ·subst h0; simpa [Addr.add, lm, hj'] using h
  ·simpa [Addr.add, h0, lm, hj'] using h
 ·intro u hu; simp at hu; obtain ⟨y, _, rfl⟩ := hu; rfl
 ·unfold maxLen; omega
 ·omega
 ·intro v' w1 hown' hgrow _
  refine hK v' w1 ?_ ?_
  ·unfold Own; simpa using hown'
  ·exact (Below.refl _ _).grown hgrow (Nat.le_refl _) (fun k hk => by simp [Value.ownBlock] at hk)
def Ty (w : World) (v : Value) : Prop := ∀ b off n c, v = .slice (some ⟨b, off, none⟩) n c → ∃ cs fr, w.heap[b]? = some (.cells cs 170 fr)
theorem Ty.nil (w : World) (n c : Nat) : Ty w (.slice none n c) := fun b off n' c' h => by simp at h
theorem Ty.re {w : World} {a : Option Addr} {n c n' c' : Nat} (h : Ty w (.slice a n c)) : Ty w (.slice a n' c') := fun b off m d e => by
 simp only [Value.slice.injEq] at e
 obtain ⟨rfl, -, -⟩ := e
 exact h b off _ _ rfl
theorem Blk.ty {w : World} {g : Nat} {ys : List Nat} (h : Blk w g ys) (off n c : Nat) : Ty w (.slice (some ⟨g, off, none⟩) n c) := fun b off' n' c' e => by
 simp only [Value.slice.injEq, Option.some.injEq, Addr.mk.injEq] at e
 obtain ⟨⟨rfl, -, -⟩, -, -⟩ := e
 exact ⟨_, _, h⟩
theorem Own.ty {w : World} {base : Nat} {v : Value} {zs : List Nat} (h : Own w base v zs) : Ty w v := by
 rcases h.2 with ⟨rfl, -⟩ | ⟨g, cap, cur, rfl, -, hb, -⟩
 ·exact Ty.nil _ _ _
 ·intro b off n c e
  simp only [Value.slice.injEq, Option.some.injEq, Addr.mk.injEq] at e
  obtain ⟨⟨rfl, -, -⟩, -, -⟩ := e
  exact ⟨_, _, hb⟩
theorem trimmed_ty (w : World) (v : Value) (xs : List Nat) (hv : Rd w v xs) (hl : M.Low B64 xs) (hm : xs.length ≤ 1000000) :
  Calls Tryz.prog 177 #[v] w fun e w' => ∃ v', e = .returned v' ∧ Rd w v' (M.digs B64 (M.val B64 xs)) ∧ (Ty w v → Ty w v') ∧ w' = w := by
 have hv0 := hv
 obtain ⟨a, cap, rfl, hcap, hc⟩ := hv
 go_enter Tryz.func177, Tryz.ntmps177
 go_wp2
 go_loop [3] (fun n => ∃ k : Nat, k ≤ xs.length ∧ n = .int .i64 k ∧ ∀ j, k ≤ j → lm xs j = 0) (fun n => (intOf n).toNat)
 case atStart => exact ⟨xs.length, Nat.le_refl _, rfl, fun j hj => lm_ge hj⟩
 case round =>
  obtain ⟨k, hk, rfl, hz⟩ := hrel
  have HZ : Hid (∀ j, k ≤ j → lm xs j = 0) := hz
  clear hz
  have fin : (∀ j, k = j + 1 → lm xs j ≠ 0) → xs.take k = M.digs B64 (M.val B64 xs) := fun ht => M.take_eq_digs B64_two hl hk HZ.out ht
  have FIN : Hid ((∀ j, k = j + 1 → lm xs j ≠ 0) → xs.take k = M.digs B64 (M.val B64 xs)) := fin
  clear fin
  match k with
  | 0 =>
   go_wp2
   go_ret
   exact ⟨_, rfl, by rw [← FIN.out (fun j hj => by omega)]; exact hv0.take 0 0 (by omega) (by omega), fun h => h.re, rfl⟩
  | k + 1 =>
   obtain ⟨b, off, rfl, hcell⟩ := hc k (by omega)
   clear hc
   by_cases h0 : lm xs k = 0
   ·go_wp2
    go_round
    case rel => exact ⟨k, by omega, by go_num, fun j hj => by
     by_cases e : j = k
     ·subst e; exact h0
     ·exact HZ.out j (by omega)⟩
    case measure => simp [intOf]
   ·have hcap' : ((k : Int) + 1) ≤ cap := by omega
    go_wp2
    go_ret
    exact ⟨_, rfl, by rw [← FIN.out (fun j hj => by have : j = k := by omega
                                                    subst this; exact h0)]; exact hv0.take (k + 1) (k + 1) (by omega) (by omega), fun h => h.re, rfl⟩
theorem trim_any (bs : Nat) (hbs : 2 ≤ bs) (w : World) (v : Value) (xs : List Nat) (hv : Rd w v xs) (hl : M.Low bs xs) (hm : xs.length ≤ 1000000) :
  Calls Tryz.prog 161 #[v] w fun e w' => ∃ v', e = .returned v' ∧ Rd w v' (M.digs bs (M.val bs xs)) ∧ w' = w := by
 have hv0 := hv
 obtain ⟨a, cap, rfl, hcap, hc⟩ := hv
 go_enter Tryz.func161, Tryz.ntmps161
 go_wp2
 go_loop [3] (fun n => ∃ k : Nat, k ≤ xs.length ∧ n = .int .i64 k ∧ ∀ j, k ≤ j → lm xs j = 0) (fun n => (intOf n).toNat)
 case atStart => exact ⟨xs.length, Nat.le_refl _, rfl, fun j hj => lm_ge hj⟩
 case round =>
  obtain ⟨k, hk, rfl, hz⟩ := hrel
  have HZ : Hid (∀ j, k ≤ j → lm xs j = 0) := hz
  clear hz
  have fin : (∀ j, k = j + 1 → lm xs j ≠ 0) → xs.take k = M.digs bs (M.val bs xs) := fun ht => M.take_eq_digs hbs hl hk HZ.out ht
  have FIN : Hid ((∀ j, k = j + 1 → lm xs j ≠ 0) → xs.take k = M.digs bs (M.val bs xs)) := fin
  clear fin
  match k with
  | 0 =>
   go_wp2
   go_ret
   exact ⟨_, rfl, by rw [← FIN.out (fun j hj => by omega)]; exact hv0.take 0 _ (by omega) (by omega), rfl⟩
  | k + 1 =>
   obtain ⟨b, off, rfl, hcell⟩ := hc k (by omega)
   clear hc
   by_cases h0 : lm xs k = 0
   ·go_wp2
    go_round
    case rel => exact ⟨k, by omega, by go_num, fun j hj => by
     by_cases e : j = k
     ·subst e; exact h0
     ·exact HZ.out j (by omega)⟩
    case measure => simp [intOf]
   ·have hcap' : ((k : Int) + 1) ≤ cap := by omega
    go_wp2
    go_ret
    exact ⟨_, rfl, by rw [← FIN.out (fun j hj => by have : j = k := by omega
                                                    subst this; exact h0)]; exact hv0.take (k + 1) _ (by omega) (by omega), rfl⟩
def D32 : Nat := 4294967296
theorem D32_two : 2 ≤ D32 := by unfold D32; omega
theorem D32_pos : 0 < D32 := by unfold D32; omega
theorem D32_sq : D32 * D32 = B64 := by unfold D32 B64; omega
def lo32 (x : Nat) : Nat := x % D32
def hi32 (x : Nat) : Nat := x / D32
def spl : List Nat → List Nat
 | [] => []
 | x :: r => lo32 x :: hi32 x :: spl r
theorem spl_length : ∀ xs : List Nat, (spl xs).length = 2 * xs.length
 | [] => rfl
 | x :: r => by simp [spl, spl_length r]; omega
theorem spl_append : ∀ (xs ys : List Nat), spl (xs ++ ys) = spl xs ++ spl ys
 | [], _ => rfl
 | x :: r, ys => by simp [spl, spl_append r ys]
theorem spl_low : ∀ {xs : List Nat}, M.Low B64 xs → M.Low D32 (spl xs)
 | [], _ => M.Low.nil _
 | x :: r, h => by
  have h1 := h.head
  refine M.Low.cons (Nat.mod_lt _ D32_pos) (M.Low.cons ?_ (spl_low h.tail))
  rw [← D32_sq] at h1
  exact Nat.div_lt_of_lt_mul h1
theorem spl_val : ∀ (xs : List Nat), M.val D32 (spl xs) = M.val B64 xs
 | [] => rfl
 | x :: r => by
  simp only [spl, M.val_cons, spl_val r]
  have : lo32 x + D32 * hi32 x = x := Nat.mod_add_div _ _
  rw [Nat.mul_add, ← Nat.mul_assoc, D32_sq]
  omega
theorem rem32 (x : Nat) : ((x : Int) % 4294967296) = ((lo32 x : Nat) : Int) := by unfold lo32 D32; omega
theorem quo32 (x : Nat) (h : x < B64) : IntKind.u64.wrap ((x : Int) / 4294967296) = ((hi32 x : Nat) : Int) := by
 rw [IntKind.wrap_u64]; unfold hi32 D32; unfold B64 at h; omega
theorem take_succ_lm (xs : List Nat) (k : Nat) (h : k < xs.length) : xs.take (k + 1) = xs.take k ++ [lm xs k] := by
 rw [List.take_succ_eq_append_getElem h]; simp [lm, h]
theorem spl_step (xs : List Nat) (k : Nat) (h : k < xs.length) : ((spl (xs.take k) ++ List.replicate (2 * (xs.length - k)) 0).set (2 * k) (lo32 (lm xs k))).set (2 * k + 1) (hi32 (lm xs k)) = spl (xs.take (k + 1)) ++ List.replicate (2 * (xs.length - (k + 1))) 0 := by
 have e1 : (spl (xs.take k)).length = 2 * k := by simp [spl_length]; omega
 have e2 : 2 * (xs.length - k) = (2 * (xs.length - (k + 1)) + 1) + 1 := by omega
 rw [e2]
 have h1 := M.set_append_replicate (spl (xs.take k)) (2 * (xs.length - (k + 1)) + 1) (lo32 (lm xs k))
 rw [e1] at h1
 rw [h1]
 have h2 := M.set_append_replicate (spl (xs.take k) ++ [lo32 (lm xs k)]) (2 * (xs.length - (k + 1))) (hi32 (lm xs k))
 rw [List.length_append, e1] at h2
 rw [show 2 * k + 1 = 2 * k + [lo32 (lm xs k)].length from rfl, h2, take_succ_lm xs k h, spl_append]
 simp [spl]
theorem Blk.alloc {w : World} {g : Nat} {ys : List Nat} (h : Blk w g ys) (o : Obj) : Blk (w.alloc o) g ys := h.below ((Below.refl _ _).alloc (Nat.le_refl _) o)
theorem Blk.drew {w : World} {g : Nat} {ys : List Nat} (h : Blk w g ys) : Blk w.drew g ys := h
set_option maxHeartbeats 1000000 in
theorem split_any (v : Value) (xs : List Nat) (w : World) (hv : Rd w v xs) (la : M.Low B64 xs) (hx : xs.length ≤ 100000) :
  Calls Tryz.prog 116 #[v] w fun e w' => ∃ v, e = .returned v ∧ Rd w' v (M.digs D32 (M.val B64 xs)) ∧ Below w.heap.size w w' := by
 have hv0 := hv
 obtain ⟨a, ca, rfl, hca, hcs⟩ := hv
 go_enter Tryz.func116, Tryz.ntmps116
 go_wp2_with (at_make; refine wpList_mk2 rfl _ _ rfl _ _ 0 (2 * xs.length) rfl rfl rfl (by omega) (by omega) (by omega) ?_; intro w2 hblk hbel)
 go_loopw [3, 4] (fun s i wr => ∃ (k : Nat), k ≤ xs.length ∧ i = .int .i64 k ∧ s = .slice (some ⟨w.heap.size, 0, none⟩) (2 * k) (2 * xs.length) ∧ Blk wr w.heap.size (spl (xs.take k) ++ List.replicate (2 * (xs.length - k)) 0) ∧ Below w.heap.size w wr) (fun _ i _ => xs.length - (intOf i).toNat)
 case atStart => exact ⟨0, by omega, rfl, rfl, by simpa [spl] using hblk, hbel⟩
 case round =>
  obtain ⟨k, hk, rfl, rfl, hblk', hbel'⟩ := hrel
  by_cases hlt : k < xs.length
  ·obtain ⟨b, off, rfl, hcell⟩ := hcs k hlt
   have qc := cell_below hcell hbel'
   have hgs := hblk'.lt
   have hll : (spl (xs.take k) ++ List.replicate (2 * (xs.length - k)) 0).length = 2 * xs.length := by simp [spl_length]; omega
   have hc1 := hblk'.cell (j := 2 * k) (by rw [hll]; omega)
   have hc2 := hblk'.cell (j := 2 * k + 1) (by rw [hll]; omega)
   have hf1 := hblk'.frozen (2 * k)
   have hf2 := hblk'.frozen (2 * k + 1)
   have hle : 2 * k + 2 ≤ 2 * xs.length := by omega
   clear hll
   go_wp2_with fail
   go_region
   go_wp2
   refine ⟨⟨k + 1, by omega, by go_num, by rw [show 2 * (k + 1) = 2 * k + 2 by omega], ?_, ?_⟩, by simp [intOf]; omega⟩
   ·rw [rem32, quo32 _ (lm_lt B64_pos la k)]
    have h := ((hblk'.set (2 * k) (lo32 (lm xs k))).set (2 * k + 1) (hi32 (lm xs k)))
    rw [spl_step xs k hlt] at h
    exact (h.alloc _).drew
   ·exact (((hbel'.setCell (Nat.le_refl _) _).setCell (Nat.le_refl _) _).alloc (by simp; omega) _).drew
  ·have hke : k = xs.length := by omega
   subst hke
   have hrd : Rd wr (.slice (some ⟨w.heap.size, 0, none⟩) (2 * xs.length) (2 * xs.length)) (spl xs) := by
    have := hblk'.rd0 (2 * xs.length) (by simp [spl_length])
    simpa [spl_length] using this
   clear hblk' hcs
   go_wp2_with fail
   refine (trim_any D32 D32_two _ _ _ hrd (spl_low la) (by rw [spl_length]; omega)).mono ?_
   rintro e w' ⟨v', rfl, hv', rfl⟩
   go_wp2
   go_ret
   exact ⟨_, rfl, by rw [spl_val] at hv'; exact hv', hbel'⟩
end Go.Proofs.YtnplifkgeeicjaaGreatDoor
