/-
  limb.bytesOf; (*strings.Builder).Write of bytes that lie anywhere.
-/
import Derived.Test.YtiahhpkpimaidabBld
import Derived.Test.YtiahhpkpimaidabRnat
import Derived.Laws.AppendOwn
import Derived.Test.YtiahhpkpimaidabLen
import Derived.Laws.Rows
namespace Go.Proofs.Ytiahhpkpimaidab
open Go.RowKit Go.Shelf

theorem lays240 : Go.Proofs.Lays.n240 Try.prog lays165_ren := {
  mixed := lays165.mixed
  f240 := lays165.f240
  f276 := lays165.f276
  t0 := lays165.t0
  a0 := lays165.a0
  z0 := lays165.z0
  v0 := lays165.v0
  t4 := lays165.t4
  a4 := lays165.a4
  z4 := lays165.z4
  v4 := lays165.v4
  t9 := lays165.t9
  a9 := lays165.a9
  z9 := lays165.z9
  v9 := lays165.v9
  t20 := lays165.t20
  a20 := lays165.a20
  z20 := lays165.z20
  v20 := lays165.v20
  t70 := lays165.t70
  a70 := lays165.a70
  z70 := lays165.z70
  v70 := lays165.v70
  t72 := lays165.t72
  a72 := lays165.a72
  z72 := lays165.z72
  v72 := lays165.v72
  t164 := lays165.t164
  a164 := lays165.a164
  z164 := lays165.z164
  v164 := lays165.v164 }
theorem copyCheck_set (b : Nat) (w : World) (h0 : w.cell? ⟨b, 0, none⟩ = some (.pointer (some ⟨b, 0, none⟩))) :
    Calls Try.prog 35 #[.pointer (some ⟨b, 0, none⟩)] w fun e w' => e = .returned (.tuple #[]) ∧ w' = w := Any.Builder_copyCheck_used lays240 Extra_165.toX72 b w h0

theorem BuilderAt_below {T e : TypeId} {B b : Nat} {p : Value} {bs : List Value} {w w' : World} (h : Lib.BuilderAt T e B b p bs w) (hb : Below w.heap.size w w') : Lib.BuilderAt T e B b p bs w' := by
  obtain ⟨hB, v, hbk, ⟨hx, hown⟩, hne⟩ := h
  have keep : ∀ {g : Nat} {o : Obj}, w.heap[g]? = some o → w'.heap[g]? = some o := fun {g o} hg => by
    have : g < w.heap.size := by
      rcases Nat.lt_or_ge g w.heap.size with h' | h'
      · exact h'
      · rw [Array.getElem?_eq_none h'] at hg; cases hg
    rw [hb.block g this]; exact hg
  refine ⟨hB, v, keep hbk, ⟨hx, ?_⟩, hne⟩
  rcases hown with h | ⟨g, cap, cur, hv, hg0, hg, rest⟩
  · exact Or.inl h
  · exact Or.inr ⟨g, cap, cur, hv, hg0, keep hg, rest⟩

set_option maxRecDepth 100000 in
set_option maxHeartbeats 2000000 in
theorem write_any (B b : Nat) (bs : List Value) (ad : Addr) (m c : Nat) (news : List Value) (w : World) (h : Lib.BuilderAt 53 5 B b (.pointer (some ⟨b, 0, none⟩)) bs w)
    (hl : news.length = m) (hnews : ∀ j u, news[j]? = some u → w.cell? (ad.add j) = some u) (h1 : ∀ u ∈ news, u.oneCell' = true)
    (hlen : bs.length + m ≤ 140737488355328) (hBw : B ≤ w.heap.size) :
    Calls Try.prog 25 #[.pointer (some ⟨b, 0, none⟩), .slice (some ad) m c] w fun e w' => e = .returned (.tuple #[.int .i64 m, .nilIface]) ∧ (Lib.BuilderAt 53 5 B b (.pointer (some ⟨b, 0, none⟩)) (bs ++ news) w' ∧ Below B w w') := by
  obtain ⟨i0, hi, hz0, hz1, hz2⟩ := info_parts (show (Try.prog.info? 5).map (fun i => (i.zero, i.size, i.bytes)) = some (some (.int .u8 0), 1, 1) by kernel_rfl)
  have c0 := h.cell0
  have H47 := shut (copyCheck_set b w c0)
  obtain ⟨hB, v, hbk, hown, hne⟩ := h
  have c1 : w.cell? ⟨b, 1, none⟩ = some v := by rw [Lib.cell_of_heap hbk]; rfl
  have hlt : b < w.heap.size := by
    rcases Nat.lt_or_ge b w.heap.size with h' | h'
    · exact h'
    · simp [Array.getElem?_eq_none h'] at hbk
  go_enter Try.func25, Try.ntmps25
  go_wp2_with fail
  refine (H47.out).mono ?_
  rintro e w1 ⟨rfl, hw⟩
  subst hw
  go_wp2_with (at_builtin; refine wpList_append_own _ rfl _ _ 51 rfl B 5 i0 (.int .u8 0) 1 1 Try.underlying51 hi hz0 hz1 hz2 rfl (by decide) _ _ _ rfl hown ad m c news rfl (by omega) hnews h1 (by unfold maxLen; omega) (by omega) hBw ?_)
  intro v' w2 hown' hgrow _
  have hb2 : w2.heap[b]? = some (.cells #[.pointer (some ⟨b, 0, none⟩), v] 53 (0, 0)) := by
    rw [hgrow.block b hlt (fun e => hne e.symm)]
    exact hbk
  have d0 : w2.cell? ⟨b, 0, none⟩ = some (.pointer (some ⟨b, 0, none⟩)) := by rw [Lib.cell_of_heap hb2]; rfl
  have d1 : w2.cell? ⟨b, 1, none⟩ = some v := by rw [Lib.cell_of_heap hb2]; rfl
  have f1 : w2.frozen? ⟨b, 1, none⟩ = false := Lib.frozen_of_heap hb2 1
  obtain ⟨ao, n', cap, rfl⟩ : ∃ ao n' cap, v' = .slice ao n' cap := by
    rcases hown'.2 with ⟨hv, _⟩ | ⟨g, cap, cur, hv, _⟩
    · exact ⟨_, _, _, hv⟩
    · exact ⟨_, _, _, hv⟩
  have HP := shut (Lib.BuilderAt.put (T := 53) (e := 5) (v' := .slice ao n' cap) hB hb2 (bs' := bs ++ news) (by simpa [hl] using hown') (by decide))
  have HQ := shut (((Below.refl B w1).grown hgrow hBw (fun k hk => (hown.lt k hk).1)).setCell (p := ⟨b, 1, none⟩) hB (.slice ao n' cap))
  clear hown hown' hgrow hnews h1 hbk hb2 H47
  go_wp2
  go_ret2
  exact ⟨rfl, HP.out, HQ.out⟩

/-! ### The bytes of a limb -/
def be8 (x : Nat) : List Nat := [x / 72057594037927936 % 256, x / 281474976710656 % 256, x / 1099511627776 % 256, x / 4294967296 % 256, x / 16777216 % 256, x / 65536 % 256, x / 256 % 256, x % 256]
theorem be8_length (x : Nat) : (be8 x).length = 8 := rfl
theorem be8_at (x : Nat) : ∀ j, j < 8 → lm (be8 x) j = x / 256 ^ (7 - j) % 256
  | 0, _ => rfl
  | 1, _ => rfl
  | 2, _ => rfl
  | 3, _ => rfl
  | 4, _ => rfl
  | 5, _ => rfl
  | 6, _ => rfl
  | 7, _ => by show x % 256 = x / 1 % 256; rw [Nat.div_one]
  | j + 8, h => by omega
theorem be8_drop (x : Nat) : ∀ t, t ≤ 8 → BtAt x ((be8 x).drop (8 - t)) t
  | 0, _ => ⟨rfl, M.Low.nil _, by simp [Nat.mod_one]; rfl⟩
  | t + 1, h => by
    have ih := be8_drop x t (by omega)
    have hd : (be8 x).drop (8 - (t + 1)) = lm (be8 x) (7 - t) :: (be8 x).drop (8 - t) := by
      rw [show 8 - (t + 1) = 7 - t by omega, List.drop_eq_getElem_cons (by rw [be8_length]; omega), show 7 - t + 1 = 8 - t by omega]
      congr 1
      unfold lm
      rw [List.getD_eq_getElem?_getD, List.getElem?_eq_getElem (by rw [be8_length]; omega)]; rfl
    rw [hd]
    refine ih.step ?_
    rw [be8_at x (7 - t) (by omega), show 7 - (7 - t) = t by omega]
theorem be8_low (x : Nat) : M.Low 256 (be8 x) := (be8_drop x 8 (by omega)).2.1
theorem be8_val (x : Nat) (h : x < B64) : M.val 256 (be8 x).reverse = x := by
  have := (be8_drop x 8 (by omega)).2.2
  rw [show (be8 x).drop (8 - 8) = be8 x from rfl] at this
  rw [this]
  exact Nat.mod_eq_of_lt h
end Go.Proofs.Ytiahhpkpimaidab
