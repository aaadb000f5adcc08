/-
  strings.Cut, off the shelf; internal/bytealg.MaxLen holds some int; texts around a sign.
-/
import Derived.Shelf.Strings.Cut
import Derived.Shelf.Vars
import Derived.Test.YtdbnkcimcpnpdaaGreatDoorG04
namespace Go.Proofs.YtdbnkcimcpnpdaaGreatDoor
open Go.RowKit Go.Shelf

def lays145_ren : Go.Shelf.Ren := ⟨fun | 145 => 53 | 217 => 128 | 219 => 105 | 220 => 82 | 224 => 130 | 225 => 129 | 266 => 153 | 267 => 131 | 314 => 154 | n => n, fun | 3 => 3 | 4 => 4 | 5 => 5 | 9 => 9 | 46 => 108 | 51 => 137 | 59 => 62 | 146 => 138 | n => n, fun | 1 => 0 | n => n⟩
theorem lays145 : Go.Proofs.Lays.n145 Tryz.prog lays145_ren := {
 mixed := by kernel_rfl
 f145 := Tryz.func53.trans (congrArg some (by kernel_rfl))
 f217 := Tryz.func128.trans (congrArg some (by kernel_rfl))
 f219 := Tryz.func105.trans (congrArg some (by kernel_rfl))
 f220 := Tryz.func82.trans (congrArg some (by kernel_rfl))
 f224 := Tryz.func130.trans (congrArg some (by kernel_rfl))
 f225 := Tryz.func129.trans (congrArg some (by kernel_rfl))
 f266 := Tryz.func153.trans (congrArg some (by kernel_rfl))
 f267 := Tryz.func131.trans (congrArg some (by kernel_rfl))
 f314 := Tryz.func154.trans (congrArg some (by kernel_rfl))
 t3 := Tryz.underlying3
 a3 := Tryz.isAgg3
 z3 := Tryz.sizeOf3
 v3 := Tryz.zeroValue3
 t4 := Tryz.underlying4
 a4 := Tryz.isAgg4
 z4 := Tryz.sizeOf4
 v4 := Tryz.zeroValue4
 t5 := Tryz.underlying5
 a5 := Tryz.isAgg5
 z5 := Tryz.sizeOf5
 v5 := Tryz.zeroValue5
 t9 := Tryz.underlying9
 a9 := Tryz.isAgg9
 z9 := Tryz.sizeOf9
 v9 := Tryz.zeroValue9
 t46 := Tryz.underlying108
 a46 := Tryz.isAgg108
 z46 := Tryz.sizeOf108
 v46 := Tryz.zeroValue108
 t51 := Tryz.underlying137
 a51 := Tryz.isAgg137
 z51 := Tryz.sizeOf137
 v51 := Tryz.zeroValue137
 t59 := Tryz.underlying62
 a59 := Tryz.isAgg62
 z59 := Tryz.sizeOf62
 v59 := Tryz.zeroValue62
 t146 := Tryz.underlying138
 a146 := Tryz.isAgg138
 z146 := Tryz.sizeOf138
 v146 := Tryz.zeroValue138
 g1 := by kernel_rfl }
theorem maxlen (w : World) (h : w.ShapedOpen Tryz.prog) : ∃ m, w.cell? ⟨0, 0, none⟩ = some (.int .i64 m) :=
 cell_of_shapedOpen_int (zero := #[.int .i64 0]) (t := 3) h (of_decide_eq_true (by kernel_rfl)) (by kernel_rfl) (by kernel_rfl) (by kernel_rfl) (by kernel_rfl) Tryz.underlying3
/-- That the library's variable holds some int. -/
def MaxL (w : World) : Prop := ∃ m, w.cell? ⟨0, 0, none⟩ = some (.int .i64 m)
theorem strings_Cut (s sep : ByteArray) (w : World) (hs : s.size < 4294967281) (hm : MaxL w) :
  Calls Tryz.prog 53 #[.string s, .string sep] w fun e w' => e = .returned (.tuple #[.string ⟨(Lib.cut s.data.toList sep.data.toList).1.toArray⟩, .string ⟨(Lib.cut s.data.toList sep.data.toList).2.1.toArray⟩, .bool (Lib.cut s.data.toList sep.data.toList).2.2]) ∧ ∃ n, w' = w.drewN n := by
 obtain ⟨m, hm⟩ := hm
 exact Any.strings_Cut lays145 s sep m w hs hm
theorem idx_hit (c : UInt8) : ∀ (l1 l2 : List UInt8), (∀ x ∈ l1, x ≠ c) → Lib.index (l1 ++ c :: l2) [c] = l1.length
 | [], l2, _ => by
  show Lib.index (c :: l2) [c] = _
  unfold Lib.index
  simp
 | a :: l, l2, h => by
  have ih := idx_hit c l l2 (fun x hx => h x (List.mem_cons_of_mem _ hx))
  have ha : a ≠ c := h a List.mem_cons_self
  show Lib.index (a :: (l ++ c :: l2)) [c] = _
  unfold Lib.index
  rw [ih]
  have e1 : List.isPrefixOf [c] (a :: (l ++ c :: l2)) = false := by simp [List.isPrefixOf, Ne.symm ha]
  rw [e1]
  have e2 : (((l.length : Nat) : Int) == -1) = false := by rw [beq_eq_false_iff_ne]; omega
  simp [e2]
theorem idx_none (c : UInt8) : ∀ (l : List UInt8), (∀ x ∈ l, x ≠ c) → Lib.index l [c] = -1
 | [], _ => rfl
 | a :: l, h => by
  have ih := idx_none c l (fun x hx => h x (List.mem_cons_of_mem _ hx))
  have ha : a ≠ c := h a List.mem_cons_self
  unfold Lib.index
  rw [ih]
  have e1 : List.isPrefixOf [c] (a :: l) = false := by simp [List.isPrefixOf, Ne.symm ha]
  rw [e1]
  rfl
theorem cut_none (c : UInt8) (l : List UInt8) (h : ∀ x ∈ l, x ≠ c) : Lib.cut l [c] = (l, [], false) := by
 unfold Lib.cut
 rw [idx_none c l h, if_neg (by omega)]
theorem cut_hit (c : UInt8) (l1 l2 : List UInt8) (h : ∀ x ∈ l1, x ≠ c) : Lib.cut (l1 ++ c :: l2) [c] = (l1, l2, true) := by
 unfold Lib.cut
 rw [idx_hit c l1 l2 h, if_pos (by omega)]
 simp
end Go.Proofs.YtdbnkcimcpnpdaaGreatDoor
