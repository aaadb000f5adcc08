/-
  How a slice that came in reads.
-/
import Derived.Test.YtiahhpkpimaidabBlk
import Derived.ProofKit
import Derived.OpenShut
namespace Go.Proofs.Ytiahhpkpimaidab
open Go.ChangeShapes Go.WideShapes Go.ChangeAt Go.RowKit

/-- A slice of integers that came in: nil, or a row of 'cap' cells. -/
def IsRow (k : IntKind) (w : World) (a : Option Addr) (len cap : Nat) (zs : List Int) : Prop :=
  (a = none ∧ len = 0 ∧ cap = 0 ∧ zs = []) ∨
  ∃ x, a = some x ∧ len ≤ cap ∧ cap ≤ maxLen ∧ zs.length = cap ∧ (∀ i, i < zs.length → w.cell? (x.add i) = some (.int k (zs.getD i 0))) ∧ ∀ n ∈ zs, (Lit.int k n).wf = true

theorem wf_u64 {x : Int} (h : (Lit.int .u64 x).wf = true) : 0 ≤ x ∧ x < 18446744073709551616 := by
  simp [Lit.wf, IntKind.min, IntKind.max, IntKind.signed, IntKind.bits] at h
  exact ⟨by omega, by omega⟩

theorem rd_of_row {w : World} {a : Option Addr} {len cap : Nat} {zs : List Int} (h : IsRow .u64 w a len cap zs) :
    ∃ xs : List Nat, xs.length = len ∧ Rd w (.slice a len cap) xs ∧ M.Low B64 xs := by
  rcases h with ⟨rfl, rfl, rfl, rfl⟩ | ⟨x, rfl, hl, hm, hz, hc, hw⟩
  · exact ⟨[], rfl, ⟨none, 0, rfl, by simp, fun j hj => by simp at hj⟩, M.Low.nil _⟩
  · have hlen : ((zs.take len).map Int.toNat).length = len := by simp; omega
    refine ⟨(zs.take len).map Int.toNat, hlen, ⟨some x, cap, by rw [hlen], by omega, fun j hj => ?_⟩, ?_⟩
    · rw [hlen] at hj
      have hj' : j < zs.length := by omega
      have h := hc j hj'
      have h00 := hc 0 (by omega)
      obtain ⟨b, off, spot⟩ := x
      have hspot : spot = none := by simpa [Addr.add] using World.cell?_spot h00
      subst hspot
      refine ⟨b, off, rfl, ?_⟩
      rw [add_plain] at h
      rw [h]
      have hmem : zs[j] ∈ zs := List.getElem_mem hj'
      have := wf_u64 (hw _ hmem)
      simp [lm, hj', hj]
      omega
    · intro y hy
      obtain ⟨z, hz', rfl⟩ := List.mem_map.1 hy
      have := wf_u64 (hw z (List.mem_of_mem_take hz'))
      unfold B64; omega
end Go.Proofs.Ytiahhpkpimaidab
