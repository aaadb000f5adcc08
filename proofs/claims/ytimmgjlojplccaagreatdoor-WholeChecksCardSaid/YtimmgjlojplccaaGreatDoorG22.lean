/-
  Package whole: writeDigits of one digit; read of one number.
  Package whole: Parse of -007.
-/
import Derived.Test.YtimmgjlojplccaaGreatDoorG02
import Derived.Test.YtimmgjlojplccaaGreatDoorG03
import Derived.Test.YtimmgjlojplccaaGreatDoorG18
import Derived.Test.YtimmgjlojplccaaGreatDoorG21
namespace Go.Proofs.YtimmgjlojplccaaGreatDoor
open Go.RowKit Go.Shelf

set_option maxHeartbeats 1000000 in
theorem fmt_small (u : Nat) (hu : u < 100) (w : World) :
    Calls Tryz.prog 61 #[.int .u64 (u : Nat), .int .i64 10] w fun e w' => e = .returned (.string ⟨(Lib.decDigits u).toArray⟩) ∧ w' = w := by
  have H := shut (internal_strconv_small u hu w)
  have g1 : IntKind.i64.wrap (u : Int) = (u : Int) := by simp only [IntKind.wrap_i64]; omega
  have H92 : Hid (Calls Tryz.prog 90 #[.int .u64 (u : Nat), .int .i64 10] w fun e w' => e = .returned (.string ⟨(Lib.decDigits u).toArray⟩) ∧ w' = w) := by
    show Calls _ _ _ _ _
    go_enter Tryz.func90, Tryz.ntmps90
    go_wp2_with fail
    refine (H.out).mono ?_
    rintro e w1 ⟨rfl, hw⟩
    subst hw
    go_wp2
    go_ret
    exact ⟨rfl, rfl⟩
  go_enter Tryz.func61, Tryz.ntmps61
  go_wp2_with fail
  refine (H92.out).mono ?_
  rintro e w1 ⟨rfl, hw⟩
  subst hw
  go_wp2
  go_ret
  exact ⟨rfl, rfl⟩

theorem one_digit {u : Nat} (hu : u < 10) : Lib.decDigits u = [UInt8.ofNat (48 + u)] := by
  unfold Lib.decDigits
  rw [dif_pos hu]

/-- What is written of a digit. -/
def nineteen (u : Nat) : List UInt8 := List.replicate 18 48 ++ [UInt8.ofNat (48 + u)]
theorem rep18 : Lib.repeatL (ByteArray.mk #[48]).data.toList 18 = List.replicate 18 48 := by decide
theorem strCells_mk (l : List UInt8) : Lib.strCells ⟨l.toArray⟩ = Lib.byteCells l := rfl
theorem nineteen_cells (u : Nat) : Lib.byteCells (nineteen u) = Lib.strCells ⟨(List.replicate 18 48).toArray⟩ ++ Lib.strCells ⟨[UInt8.ofNat (48 + u)].toArray⟩ := by
  rw [strCells_mk, strCells_mk]
  unfold nineteen Lib.byteCells
  rw [List.map_append]

theorem kept_of_below {w w' : World} (hb : Below w.heap.size w w') {g : Nat} {o : Obj} (hg : w.heap[g]? = some o) : w'.heap[g]? = some o := by
  have : g < w.heap.size := by
    rcases Nat.lt_or_ge g w.heap.size with h' | h'
    · exact h'
    · rw [Array.getElem?_eq_none h'] at hg; cases hg
  rw [hb.block g this]; exact hg
theorem BuilderAtF_below {T e : TypeId} {B b : Nat} {p : Value} {bs : List Value} {w w' : World} (h : Lib.BuilderAtF T e B b p bs w) (hb : Below w.heap.size w w') : Lib.BuilderAtF T e B b p bs w' := by
  obtain ⟨hB, v, hbk, ⟨hx, hown⟩, hne⟩ := h
  refine ⟨hB, v, kept_of_below hb hbk, ⟨hx, ?_⟩, hne⟩
  rcases hown with h | ⟨g, cap, cur, fz, hv, hg0, hg, rest⟩
  · exact Or.inl h
  · exact Or.inr ⟨g, cap, cur, fz, hv, hg0, kept_of_below hb hg, rest⟩
theorem IsBuilderF_below {T e : TypeId} {B b : Nat} {bs : List Value} {w w' : World} (h : Lib.IsBuilderF T e B b bs w) (hb : Below w.heap.size w w') : Lib.IsBuilderF T e B b bs w' :=
  h.imp (fun h => BuilderAtF_below h hb) (fun h => BuilderAtF_below h hb)
theorem others_of_below {w w' : World} (hb : Below w.heap.size w w') (e : TypeId) (b : Option Nat) : Lib.OthersKept e b w w' := fun _ _ h _ _ => kept_of_below hb h
theorem size_mk18 : (ByteArray.mk (List.replicate 18 (48 : UInt8)).toArray).size = 18 := by decide

set_option maxRecDepth 100000 in
set_option maxHeartbeats 2000000 in
theorem wd0_body (u : Nat) (hu : u < 10) (B b : Nat) (bs : List Value) (v : Value) (a : Option Addr) (cap : Nat) (w : World) (hv : (u = 0 ∧ Rd w v []) ∨ Rd w v [u]) (h : Lib.IsBuilderF 61 5 B b bs w) (hlen : bs.length ≤ 1000000) (hBw : B ≤ w.heap.size) :
    Calls Tryz.prog 32 #[.pointer (some ⟨b, 0, none⟩), v, .slice a 0 cap] w fun e w' => e = .returned (.tuple #[]) ∧ (Lib.BuilderAtF 61 5 B b (.pointer (some ⟨b, 0, none⟩)) (bs ++ Lib.byteCells (nineteen u)) w' ∧ Below B w w' ∧ Lib.OthersKept 5 (some b) w w') := by
  have HF := shut (fun w => fmt_small u (by omega) w)
  rw [one_digit hu] at HF
  have HRp := shut (fun w => strings_Repeat ⟨#[48]⟩ 18 w (by omega) (by decide))
  rw [rep18] at HRp
  have HC := shut (nineteen_cells u)
  have HW := shut (fun (bs : List Value) (s : ByteArray) (w : World) h hl hB => writeString_k B b bs s w h hl hB)
  obtain ⟨c, hc⟩ : ∃ c, c = UInt8.ofNat (48 + u) := ⟨_, rfl⟩
  rw [← hc] at HF HC
  clear hc
  obtain ⟨xs, hxs, hr⟩ : ∃ xs, (xs = [] ∧ u = 0 ∨ xs = [u]) ∧ Rd w v xs := by
    rcases hv with ⟨h0, h1⟩ | h1
    · exact ⟨[], Or.inl ⟨rfl, h0⟩, h1⟩
    · exact ⟨[u], Or.inr rfl, h1⟩
  obtain ⟨av, cv, rfl, -, hcell⟩ := hr
  go_enter Tryz.func32, Tryz.ntmps32
  go_wp2
  go_loopw [6, 19] (fun val i wr => wr = w ∧ ∃ k z : Nat, k ≤ xs.length ∧ i = .int .i64 (k : Nat) ∧ val = .int .u64 (z : Nat) ∧ (k = xs.length → z = u)) (fun _ i _ => xs.length - (intOf i).toNat)
  case atStart => exact ⟨rfl, 0, 0, Nat.zero_le _, rfl, rfl, fun h => by rcases hxs with ⟨rfl, h1⟩ | rfl; · exact h1.symm
                                                                         · simp at h⟩
  case round =>
    obtain ⟨rfl, k, z, hk, rfl, rfl, hz⟩ := hrel
    by_cases hlt : k < xs.length
    · rcases hxs with ⟨rfl, -⟩ | rfl
      · simp at hlt
      · have hk0 : k = 0 := by simp at hlt; omega
        subst hk0
        obtain ⟨b', o', rfl, c0⟩ := hcell 0 (by simp)
        have c0' : wr.cell? ⟨b', o', none⟩ = some (.int .u64 (u : Nat)) := c0
        clear c0 hcell hz
        go_wp2
        exact ⟨⟨trivial, 1, u, by simp, by go_num, rfl, fun _ => rfl⟩, by simp [intOf]⟩
    · have hkk : k = xs.length := by omega
      have hzz := hz hkk
      subst hzz
      clear hz hxs hcell hlt hk
      go_wp2_with fail
      refine (HF.out _).mono ?_
      rintro e w1 ⟨rfl, hw⟩
      subst hw
      go_wp2_with fail
      refine (HRp.out w1).mono ?_
      rintro e w2 ⟨rfl, hb2⟩
      have h2 := IsBuilderF_below h hb2
      have hB2 : B ≤ w2.heap.size := Nat.le_trans hBw hb2.size
      go_wp2_with fail
      refine (HW.out bs ⟨(List.replicate 18 48).toArray⟩ w2 h2 (show bs.length + 18 ≤ 140737488355328 by omega) hB2).mono ?_
      rintro e w3 ⟨rfl, h3, hb3, k3⟩
      have hB3 : B ≤ w3.heap.size := Nat.le_trans hB2 hb3.size
      go_wp2_with fail
      refine (HW.out _ ⟨#[c]⟩ w3 (Or.inr h3) (show (bs ++ Lib.strCells _).length + 1 ≤ 140737488355328 by rw [List.length_append, Lib.strCells, List.length_map]; simp; omega) hB3).mono ?_
      rintro e w4 ⟨rfl, h4, hb4, k4⟩
      have HE := shut h4
      have HK := shut (((others_of_below hb2 5 (some b)).trans k3).trans k4)
      clear k3 k4
      clear h4 h3 h2
      go_wp2
      refine bodyPost_ret (results_none rfl _ _ _) rfl ?_
      refine ⟨rfl, ?_, ((hb2.mono hBw).trans hb3).trans hb4, HK.out⟩
      rw [HC.out, ← List.append_assoc]
      exact HE.out
end Go.Proofs.YtimmgjlojplccaaGreatDoor
namespace Go.Proofs.YtimmgjlojplccaaGreatDoor
open Go.RowKit Go.Shelf

set_option maxHeartbeats 1000000 in
theorem isNat_live (w : World) : Calls Tryz.prog 43 #[.string ⟨#[48, 48, 55]⟩] w fun e w' => e = .returned (.bool false) ∧ w' = w := by
  go_enter Tryz.func43, Tryz.ntmps43
  go_wp2
  go_ret
  exact ⟨rfl, rfl⟩

set_option maxHeartbeats 1000000 in
theorem parse_live (w : World) : Calls Tryz.prog 21 #[.string ⟨#[45, 48, 48, 55]⟩] w fun e w' => e = .returned (.tuple #[zI 0, .int .i64 4]) ∧ Below w.heap.size w w' := by
  rw [zI_zero]
  go_enter Tryz.func21, Tryz.ntmps21
  go_wp2_with fail
  obtain ⟨w0, hw0⟩ : ∃ w0, w0 = (w.alloc (.cells #[.bool false, .string { data := #[] }] 24)).alloc (.cells #[.bool false, .slice none 0 0] 49) := ⟨_, rfl⟩
  have k0 : Cel w0 w.heap.size [.bool false, .string { data := #[] }] 24 := by rw [hw0]; exact (Cel.new w _ _).alloc _
  have k1 : Cel w0 (w.heap.size + 1) [.bool false, .slice none 0 0] 49 := by
    rw [hw0]
    have := Cel.new (w.alloc (.cells #[.bool false, .string { data := #[] }] 24)) [.bool false, .slice none 0 0] 49
    simpa using this
  have hb0 : Below w.heap.size w w0 := by rw [hw0]; go_grown
  rw [← hw0]
  clear hw0
  refine (strings_HasPrefix _ _ w0).mono ?_
  rintro e w1 ⟨rfl, hw⟩
  subst hw
  rw [show Lib.hasPrefix (ByteArray.mk #[45, 48, 48, 55]).data.toList (ByteArray.mk #[45]).data.toList = true from by decide]
  have c0 := cel2_0' k1
  have f0 := k1.frozen 0
  go_wp2_with fail
  rw [show (ByteArray.mk #[45, 48, 48, 55]).extract 1 4 = ⟨#[48, 48, 55]⟩ from by decide]
  obtain ⟨w2, hw2⟩ : ∃ w2, w2 = w1.setCell ⟨w.heap.size + 1, 0, none⟩ (.bool true) := ⟨_, rfl⟩
  have k2 : Cel w2 w.heap.size [.bool false, .string { data := #[] }] 24 := by rw [hw2]; exact k0.other (by omega) _ _
  have bb : Below w.heap.size w w2 := by rw [hw2]; exact hb0.setCell (by simp) _
  rw [← hw2]
  clear hw2
  refine (isNat_live w2).mono ?_
  rintro e w3 ⟨rfl, hw⟩
  subst hw
  have e0 := cel2_0' k2
  have e1 := cel2_1' k2
  have f0 := k2.frozen 0
  have f1 := k2.frozen 1
  go_wp2
  exact post_z1 (p := 2) (u := 3) (by kernel_rfl) rfl rfl rfl ((k2.set 0 _).set 1 _) ⟨rfl, (bb.setCell (by simp) _).setCell (by simp) _⟩
end Go.Proofs.YtimmgjlojplccaaGreatDoor
