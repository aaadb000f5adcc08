/-
  Words: what a call answers.
  Cells of rational numbers.
-/
import Derived.Below
import Derived.Test.YtnplifkgeeicjaaGreatDoorProg
namespace Go.Proofs.YtnplifkgeeicjaaGreatDoor
open Go.RowKit
abbrev Re (w : World) (v : Value) : Ending → World → Prop := fun e w' => e = .returned v ∧ Below w.heap.size w w'
theorem un {N M : Nat} {v w v' w' : World} (b : Below N v v') (h : Below N v v' → Below M w w' := by exact fun b => ⟨b.os, b.tape, b.output, b.size, b.block⟩) : Below M w w' := h b
end Go.Proofs.YtnplifkgeeicjaaGreatDoor
namespace Go.Proofs.YtnplifkgeeicjaaGreatDoor
abbrev eB : ByteArray := { data := #[] }
abbrev qa1 (n0 : Bool) (s0 d0 : ByteArray) : Value := .agg #[.bool n0, .string s0, .string d0]
abbrev ql1 (n0 : Bool) (s0 d0 : ByteArray) : List Value := [.bool n0, .string s0, .string d0]
abbrev qv1 (n0 : Bool) (s0 d0 : ByteArray) : Array Value := #[.bool n0, .string s0, .string d0]
abbrev qa2 (n0 : Bool) (s0 d0 : ByteArray) (n1 : Bool) (s1 d1 : ByteArray) : Value := .agg #[.bool n0, .string s0, .string d0, .bool n1, .string s1, .string d1]
abbrev ql2 (n0 : Bool) (s0 d0 : ByteArray) (n1 : Bool) (s1 d1 : ByteArray) : List Value := [.bool n0, .string s0, .string d0, .bool n1, .string s1, .string d1]
abbrev qv2 (n0 : Bool) (s0 d0 : ByteArray) (n1 : Bool) (s1 d1 : ByteArray) : Array Value := #[.bool n0, .string s0, .string d0, .bool n1, .string s1, .string d1]
abbrev qa3 (n0 : Bool) (s0 d0 : ByteArray) (n1 : Bool) (s1 d1 : ByteArray) (n2 : Bool) (s2 d2 : ByteArray) : Value := .agg #[.bool n0, .string s0, .string d0, .bool n1, .string s1, .string d1, .bool n2, .string s2, .string d2]
abbrev ql3 (n0 : Bool) (s0 d0 : ByteArray) (n1 : Bool) (s1 d1 : ByteArray) (n2 : Bool) (s2 d2 : ByteArray) : List Value := [.bool n0, .string s0, .string d0, .bool n1, .string s1, .string d1, .bool n2, .string s2, .string d2]
abbrev qv3 (n0 : Bool) (s0 d0 : ByteArray) (n1 : Bool) (s1 d1 : ByteArray) (n2 : Bool) (s2 d2 : ByteArray) : Array Value := #[.bool n0, .string s0, .string d0, .bool n1, .string s1, .string d1, .bool n2, .string s2, .string d2]
abbrev qa6 (n0 : Bool) (s0 d0 : ByteArray) (n1 : Bool) (s1 d1 : ByteArray) (n2 : Bool) (s2 d2 : ByteArray) (n3 : Bool) (s3 d3 : ByteArray) (n4 : Bool) (s4 d4 : ByteArray) (n5 : Bool) (s5 d5 : ByteArray) : Value := .agg #[.bool n0, .string s0, .string d0, .bool n1, .string s1, .string d1, .bool n2, .string s2, .string d2, .bool n3, .string s3, .string d3, .bool n4, .string s4, .string d4, .bool n5, .string s5, .string d5]
abbrev ql6 (n0 : Bool) (s0 d0 : ByteArray) (n1 : Bool) (s1 d1 : ByteArray) (n2 : Bool) (s2 d2 : ByteArray) (n3 : Bool) (s3 d3 : ByteArray) (n4 : Bool) (s4 d4 : ByteArray) (n5 : Bool) (s5 d5 : ByteArray) : List Value := [.bool n0, .string s0, .string d0, .bool n1, .string s1, .string d1, .bool n2, .string s2, .string d2, .bool n3, .string s3, .string d3, .bool n4, .string s4, .string d4, .bool n5, .string s5, .string d5]
abbrev qv6 (n0 : Bool) (s0 d0 : ByteArray) (n1 : Bool) (s1 d1 : ByteArray) (n2 : Bool) (s2 d2 : ByteArray) (n3 : Bool) (s3 d3 : ByteArray) (n4 : Bool) (s4 d4 : ByteArray) (n5 : Bool) (s5 d5 : ByteArray) : Array Value := #[.bool n0, .string s0, .string d0, .bool n1, .string s1, .string d1, .bool n2, .string s2, .string d2, .bool n3, .string s3, .string d3, .bool n4, .string s4, .string d4, .bool n5, .string s5, .string d5]
abbrev qa9 (n0 : Bool) (s0 d0 : ByteArray) (n1 : Bool) (s1 d1 : ByteArray) (n2 : Bool) (s2 d2 : ByteArray) (n3 : Bool) (s3 d3 : ByteArray) (n4 : Bool) (s4 d4 : ByteArray) (n5 : Bool) (s5 d5 : ByteArray) (n6 : Bool) (s6 d6 : ByteArray) (n7 : Bool) (s7 d7 : ByteArray) (n8 : Bool) (s8 d8 : ByteArray) : Value := .agg #[.bool n0, .string s0, .string d0, .bool n1, .string s1, .string d1, .bool n2, .string s2, .string d2, .bool n3, .string s3, .string d3, .bool n4, .string s4, .string d4, .bool n5, .string s5, .string d5, .bool n6, .string s6, .string d6, .bool n7, .string s7, .string d7, .bool n8, .string s8, .string d8]
abbrev ql9 (n0 : Bool) (s0 d0 : ByteArray) (n1 : Bool) (s1 d1 : ByteArray) (n2 : Bool) (s2 d2 : ByteArray) (n3 : Bool) (s3 d3 : ByteArray) (n4 : Bool) (s4 d4 : ByteArray) (n5 : Bool) (s5 d5 : ByteArray) (n6 : Bool) (s6 d6 : ByteArray) (n7 : Bool) (s7 d7 : ByteArray) (n8 : Bool) (s8 d8 : ByteArray) : List Value := [.bool n0, .string s0, .string d0, .bool n1, .string s1, .string d1, .bool n2, .string s2, .string d2, .bool n3, .string s3, .string d3, .bool n4, .string s4, .string d4, .bool n5, .string s5, .string d5, .bool n6, .string s6, .string d6, .bool n7, .string s7, .string d7, .bool n8, .string s8, .string d8]
abbrev qv9 (n0 : Bool) (s0 d0 : ByteArray) (n1 : Bool) (s1 d1 : ByteArray) (n2 : Bool) (s2 d2 : ByteArray) (n3 : Bool) (s3 d3 : ByteArray) (n4 : Bool) (s4 d4 : ByteArray) (n5 : Bool) (s5 d5 : ByteArray) (n6 : Bool) (s6 d6 : ByteArray) (n7 : Bool) (s7 d7 : ByteArray) (n8 : Bool) (s8 d8 : ByteArray) : Array Value := #[.bool n0, .string s0, .string d0, .bool n1, .string s1, .string d1, .bool n2, .string s2, .string d2, .bool n3, .string s3, .string d3, .bool n4, .string s4, .string d4, .bool n5, .string s5, .string d5, .bool n6, .string s6, .string d6, .bool n7, .string s7, .string d7, .bool n8, .string s8, .string d8]
end Go.Proofs.YtnplifkgeeicjaaGreatDoor
