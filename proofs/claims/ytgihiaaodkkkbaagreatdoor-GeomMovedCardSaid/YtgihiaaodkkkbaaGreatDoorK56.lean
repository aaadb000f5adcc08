/-
  gussetref04: Points.
  gussetlaw04: VecScales, walked.
  gussetlaw04: VecScales, of any point and number.
  Rational numbers in their one form: how long sums and products get; the reference's calls over them.
  gussetref04: Plus, Minus, Dot, Cross, Norm2, walked.
  gussetref05: Asked; signs and products of rational numbers in their one form.
-/
import Derived.Test.YtgihiaaodkkkbaaGreatDoorK38
import Derived.Test.YtgihiaaodkkkbaaGreatDoorK39
import Derived.Test.YtgihiaaodkkkbaaGreatDoorK40
import Derived.Test.YtgihiaaodkkkbaaGreatDoorK54
import Derived.Test.YtgihiaaodkkkbaaGreatDoorK72
namespace Go.Proofs.YtgihiaaodkkkbaaGreatDoor
open Go.RowKit

/-- Points in a row. -/
def RdP (w : World) (a : Option Addr) (n : Nat) (N : Nat → Bool) (S D : Nat → ByteArray) (N' : Nat → Bool) (S' D' : Nat → ByteArray) : Prop :=
 ∀ j, j < n → ∃ b off, a = some ⟨b, off, none⟩ ∧ w.cell? ⟨b, off + j * 6, none⟩ = some (.bool (N j)) ∧ w.cell? ⟨b, off + j * 6 + 1, none⟩ = some (.string (S j)) ∧ w.cell? ⟨b, off + j * 6 + 2, none⟩ = some (.string (D j)) ∧ w.cell? ⟨b, off + j * 6 + 3, none⟩ = some (.bool (N' j)) ∧ w.cell? ⟨b, off + j * 6 + 4, none⟩ = some (.string (S' j)) ∧ w.cell? ⟨b, off + j * 6 + 5, none⟩ = some (.string (D' j))
theorem RdP.below {w w' : World} {a : Option Addr} {n : Nat} {N N' : Nat → Bool} {S D S' D' : Nat → ByteArray} (h : RdP w a n N S D N' S' D') (hb : Below w.heap.size w w') : RdP w' a n N S D N' S' D' := by
 intro j hj
 obtain ⟨b, off, rfl, h0, h1, h2, h3, h4, h5⟩ := h j hj
 exact ⟨b, off, rfl, cell_below h0 hb, cell_below h1 hb, cell_below h2 hb, cell_below h3 hb, cell_below h4 hb, cell_below h5 hb⟩
end Go.Proofs.YtgihiaaodkkkbaaGreatDoor
namespace Go.Proofs.YtgihiaaodkkkbaaGreatDoor
open Go.RowKit Go.Shelf

end Go.Proofs.YtgihiaaodkkkbaaGreatDoor
namespace Go.Proofs.YtgihiaaodkkkbaaGreatDoor
open Go.RowKit Go.Shelf

theorem rchk4_any (n0 n1 : Bool) (s0 d0 s1 d1 : ByteArray) (w : World) (z0 : s0.size ≤ 8000) (y0 : d0.size ≤ 8000) (z1 : s1.size ≤ 8000) (y1 : d1.size ≤ 8000) :
  Calls Tryz.prog 52 #[.agg #[.bool n0, .string s0, .string d0, .bool n1, .string s1, .string d1]] w fun e w' => e = .returned (.int .i64 (twoq n0 s0 d0 n1 s1 d1 : Nat)) ∧ Below w.heap.size w w' :=
 rchk4_walk n0 n1 s0 d0 s1 d1 _ w (fun w1 => bothq_any n0 n1 s0 d0 s1 d1 w1 z0 y0 z1 y1)
end Go.Proofs.YtgihiaaodkkkbaaGreatDoor
namespace Go.Proofs.YtgihiaaodkkkbaaGreatDoor
open Go.RowKit Go.Shelf

theorem rtimesI (x y : Rat) {K : Nat} (hK : K ≤ 4000) (bx : Bq x K) (bY : Bq y K) (w : World) :
  Calls Tryz.prog 56 #[.agg #[.bool (nfZ (x).num), .string (sfZ (x).num), .string (strOf (x).den)], .agg #[.bool (nfZ (y).num), .string (sfZ (y).num), .string (strOf (y).den)]] w fun e w' => e = .returned (.agg #[.bool (nfZ (x * y).num), .string (sfZ (x * y).num), .string (strOf (x * y).den)]) ∧ Below w.heap.size w w' := by
 have zx := bx.2.size
 have zy := bY.2.size
 have := rtimesq_any (nfZ x.num) (nfZ y.num) (sfZ x.num) (strOf x.den) (sfZ y.num) (strOf y.den) w (okQ_qI x) (okQ_qI y) hK bx.1.size (by simpa using zx) bY.1.size (by simpa using zy)
 rw [show qOf (nfZ x.num) (sfZ x.num) (strOf x.den) = x from qOf_qI x, show qOf (nfZ y.num) (sfZ y.num) (strOf y.den) = y from qOf_qI y] at this
 exact this
theorem rsumI (x y : Rat) {K : Nat} (hK : K ≤ 4000) (bx : Bq x K) (bY : Bq y K) (w : World) :
  Calls Tryz.prog 58 #[.agg #[.bool (nfZ (x).num), .string (sfZ (x).num), .string (strOf (x).den)], .agg #[.bool (nfZ (y).num), .string (sfZ (y).num), .string (strOf (y).den)]] w fun e w' => e = .returned (.agg #[.bool (nfZ (x + y).num), .string (sfZ (x + y).num), .string (strOf (x + y).den)]) ∧ Below w.heap.size w w' := by
 have zx := bx.2.size
 have zy := bY.2.size
 have := rsumq_any (nfZ x.num) (nfZ y.num) (sfZ x.num) (strOf x.den) (sfZ y.num) (strOf y.den) w (okQ_qI x) (okQ_qI y) hK bx.1.size (by simpa using zx) bY.1.size (by simpa using zy)
 rw [show qOf (nfZ x.num) (sfZ x.num) (strOf x.den) = x from qOf_qI x, show qOf (nfZ y.num) (sfZ y.num) (strOf y.den) = y from qOf_qI y] at this
 exact this
theorem rlessI (x y : Rat) {K : Nat} (hK : K ≤ 4000) (bx : Bq x K) (bY : Bq y K) (w : World) :
  Calls Tryz.prog 87 #[.agg #[.bool (nfZ (x).num), .string (sfZ (x).num), .string (strOf (x).den)], .agg #[.bool (nfZ (y).num), .string (sfZ (y).num), .string (strOf (y).den)]] w fun e w' => e = .returned (.agg #[.bool (nfZ (x - y).num), .string (sfZ (x - y).num), .string (strOf (x - y).den)]) ∧ Below w.heap.size w w' := by
 have zx := bx.2.size
 have zy := bY.2.size
 have := rlessq_any (nfZ x.num) (nfZ y.num) (sfZ x.num) (strOf x.den) (sfZ y.num) (strOf y.den) w (okQ_qI x) (okQ_qI y) hK bx.1.size (by simpa using zx) bY.1.size (by simpa using zy)
 rw [show qOf (nfZ x.num) (sfZ x.num) (strOf x.den) = x from qOf_qI x, show qOf (nfZ y.num) (sfZ y.num) (strOf y.den) = y from qOf_qI y] at this
 exact this
end Go.Proofs.YtgihiaaodkkkbaaGreatDoor
namespace Go.Proofs.YtgihiaaodkkkbaaGreatDoor
open Go.RowKit Go.Shelf

set_option maxRecDepth 100000 in
set_option maxHeartbeats 8000000 in
theorem rminus4_walk (n0 n1 n2 n3 xN yN : Bool) (s0 d0 s1 d1 s2 d2 s3 d3 xS xD yS yD : ByteArray) (w : World)
  (H1 : Hid (∀ w1, Calls Tryz.prog 87 #[.agg #[.bool n0, .string s0, .string d0], .agg #[.bool n2, .string s2, .string d2]] w1 fun e w' => e = .returned (.agg #[.bool xN, .string xS, .string xD]) ∧ Below w1.heap.size w1 w'))
  (H2 : Hid (∀ w1, Calls Tryz.prog 87 #[.agg #[.bool n1, .string s1, .string d1], .agg #[.bool n3, .string s3, .string d3]] w1 fun e w' => e = .returned (.agg #[.bool yN, .string yS, .string yD]) ∧ Below w1.heap.size w1 w')) :
  Calls Tryz.prog 54 #[.agg #[.bool n0, .string s0, .string d0, .bool n1, .string s1, .string d1], .agg #[.bool n2, .string s2, .string d2, .bool n3, .string s3, .string d3]] w fun e w' => e = .returned (.agg #[.bool xN, .string xS, .string xD, .bool yN, .string yS, .string yD]) ∧ Below w.heap.size w w' := by
 go_enter Tryz.func54, Tryz.ntmps54
 go_wp2_with fail
 obtain ⟨w1, hw, ka, kb, kr, b1⟩ := mk3 w [.bool n0, .string s0, .string d0, .bool n1, .string s1, .string d1] [.bool n2, .string s2, .string d2, .bool n3, .string s3, .string d3] [.bool false, .string { data := #[] }, .string { data := #[] }, .bool false, .string { data := #[] }, .string { data := #[] }] 39 39 39
 rw [← hw]
 clear hw
 have sz := b1.size
 have ta := ka.lt
 have tb := kb.lt
 have tr := kr.lt
 have bb := b1
 clear b1
 have qa : w.heap.size ≠ w.heap.size + 1 + 1 := by omega
 have qb : w.heap.size + 1 ≠ w.heap.size + 1 + 1 := by omega
 have mkS : Hid (∀ w', Cel w' (w.heap.size) [.bool n0, .string s0, .string d0, .bool n1, .string s1, .string d1] 39 → Cel w' (w.heap.size + 1) [.bool n2, .string s2, .string d2, .bool n3, .string s3, .string d3] 39 → (w'.cell? ⟨w.heap.size, 0, none⟩ = some (.bool n0) ∧ w'.cell? ⟨w.heap.size, 1, none⟩ = some (.string s0) ∧ w'.cell? ⟨w.heap.size, 2, none⟩ = some (.string d0) ∧ w'.cell? ⟨w.heap.size, 3, none⟩ = some (.bool n1) ∧ w'.cell? ⟨w.heap.size, 4, none⟩ = some (.string s1) ∧ w'.cell? ⟨w.heap.size, 5, none⟩ = some (.string d1) ∧ w'.cell? ⟨w.heap.size + 1, 0, none⟩ = some (.bool n2) ∧ w'.cell? ⟨w.heap.size + 1, 1, none⟩ = some (.string s2) ∧ w'.cell? ⟨w.heap.size + 1, 2, none⟩ = some (.string d2) ∧ w'.cell? ⟨w.heap.size + 1, 3, none⟩ = some (.bool n3) ∧ w'.cell? ⟨w.heap.size + 1, 4, none⟩ = some (.string s3) ∧ w'.cell? ⟨w.heap.size + 1, 5, none⟩ = some (.string d3))) := fun w' ha hb => ⟨cel6_0 ha, cel6_1 ha, cel6_2 ha, cel6_3 ha, cel6_4 ha, cel6_5 ha, cel6_0 hb, cel6_1 hb, cel6_2 hb, cel6_3 hb, cel6_4 hb, cel6_5 hb⟩
 go_region_held3 (fun w' => w'.cell? ⟨w.heap.size, 0, none⟩ = some (.bool n0) ∧ w'.cell? ⟨w.heap.size, 1, none⟩ = some (.string s0) ∧ w'.cell? ⟨w.heap.size, 2, none⟩ = some (.string d0) ∧ w'.cell? ⟨w.heap.size, 3, none⟩ = some (.bool n1) ∧ w'.cell? ⟨w.heap.size, 4, none⟩ = some (.string s1) ∧ w'.cell? ⟨w.heap.size, 5, none⟩ = some (.string d1) ∧ w'.cell? ⟨w.heap.size + 1, 0, none⟩ = some (.bool n2) ∧ w'.cell? ⟨w.heap.size + 1, 1, none⟩ = some (.string s2) ∧ w'.cell? ⟨w.heap.size + 1, 2, none⟩ = some (.string d2) ∧ w'.cell? ⟨w.heap.size + 1, 3, none⟩ = some (.bool n3) ∧ w'.cell? ⟨w.heap.size + 1, 4, none⟩ = some (.string s3) ∧ w'.cell? ⟨w.heap.size + 1, 5, none⟩ = some (.string d3)) (first | with_reducible exact mkS.out _ ka kb | with_reducible exact mkS.out _ (ka.alloc _) (kb.alloc _) | with_reducible exact mkS.out _ (Cel.other (Cel.other (Cel.other (Cel.other (Cel.other (Cel.other ka qa 0 _) qa 1 _) qa 2 _) qa 3 _) qa 4 _) qa 5 _) (Cel.other (Cel.other (Cel.other (Cel.other (Cel.other (Cel.other kb qb 0 _) qb 1 _) qb 2 _) qb 3 _) qb 4 _) qb 5 _) | exact mkS.out _ ka kb) (first | (go_at_call 87; go_fit (H1.out _); rintro e wn ⟨rfl, bn⟩; replace ka := ka.below ⟨bn.os, bn.tape, bn.output, bn.size, bn.block⟩; replace kb := kb.below ⟨bn.os, bn.tape, bn.output, bn.size, bn.block⟩; replace kr := kr.below ⟨bn.os, bn.tape, bn.output, bn.size, bn.block⟩; replace bb := Below.after bb ⟨bn.os, bn.tape, bn.output, bn.size, bn.block⟩) | (go_at_call 87; go_fit (H2.out _); rintro e wn ⟨rfl, bn⟩; replace ka := ka.below ⟨bn.os, bn.tape, bn.output, bn.size, bn.block⟩; replace kb := kb.below ⟨bn.os, bn.tape, bn.output, bn.size, bn.block⟩; replace kr := kr.below ⟨bn.os, bn.tape, bn.output, bn.size, bn.block⟩; replace bb := Below.after bb ⟨bn.os, bn.tape, bn.output, bn.size, bn.block⟩; have e0 := cel6_0 kr; have f0 := Cel.frozen kr 0; have e1 := cel6_1 kr; have f1 := Cel.frozen kr 1; have e2 := cel6_2 kr; have f2 := Cel.frozen kr 2; have e3 := cel6_3 kr; have f3 := Cel.frozen kr 3; have e4 := cel6_4 kr; have f4 := Cel.frozen kr 4; have e5 := cel6_5 kr; have f5 := Cel.frozen kr 5))
 go_wp2
 exact post_p (p := 4) (by kernel_rfl) rfl rfl (kr.set6 _ _ _ _ _ _) ⟨rfl, bset6 bb (by omega) _ _ _ _ _ _⟩
set_option maxRecDepth 100000 in
set_option maxHeartbeats 8000000 in
theorem rdot4_walk (n0 n1 n2 n3 xN yN rN : Bool) (s0 d0 s1 d1 s2 d2 s3 d3 xS xD yS yD rS rD : ByteArray) (w : World)
  (H1 : Hid (∀ w1, Calls Tryz.prog 56 #[.agg #[.bool n0, .string s0, .string d0], .agg #[.bool n2, .string s2, .string d2]] w1 fun e w' => e = .returned (.agg #[.bool xN, .string xS, .string xD]) ∧ Below w1.heap.size w1 w'))
  (H2 : Hid (∀ w1, Calls Tryz.prog 56 #[.agg #[.bool n1, .string s1, .string d1], .agg #[.bool n3, .string s3, .string d3]] w1 fun e w' => e = .returned (.agg #[.bool yN, .string yS, .string yD]) ∧ Below w1.heap.size w1 w'))
  (H3 : Hid (∀ w1, Calls Tryz.prog 58 #[.agg #[.bool xN, .string xS, .string xD], .agg #[.bool yN, .string yS, .string yD]] w1 fun e w' => e = .returned (.agg #[.bool rN, .string rS, .string rD]) ∧ Below w1.heap.size w1 w')) :
  Calls Tryz.prog 55 #[.agg #[.bool n0, .string s0, .string d0, .bool n1, .string s1, .string d1], .agg #[.bool n2, .string s2, .string d2, .bool n3, .string s3, .string d3]] w fun e w' => e = .returned (.agg #[.bool rN, .string rS, .string rD]) ∧ Below w.heap.size w w' := by
 go_enter Tryz.func55, Tryz.ntmps55
 go_wp2_with fail
 obtain ⟨w1, hw, ka, kb, kr, b1⟩ := mk3 w [.bool n0, .string s0, .string d0, .bool n1, .string s1, .string d1] [.bool n2, .string s2, .string d2, .bool n3, .string s3, .string d3] [.bool false, .string { data := #[] }, .string { data := #[] }] 39 39 32
 rw [← hw]
 clear hw
 have sz := b1.size
 have ta := ka.lt
 have tb := kb.lt
 have tr := kr.lt
 have bb := b1
 clear b1
 have qa : w.heap.size ≠ w.heap.size + 1 + 1 := by omega
 have qb : w.heap.size + 1 ≠ w.heap.size + 1 + 1 := by omega
 have mkS : Hid (∀ w', Cel w' (w.heap.size) [.bool n0, .string s0, .string d0, .bool n1, .string s1, .string d1] 39 → Cel w' (w.heap.size + 1) [.bool n2, .string s2, .string d2, .bool n3, .string s3, .string d3] 39 → (w'.cell? ⟨w.heap.size, 0, none⟩ = some (.bool n0) ∧ w'.cell? ⟨w.heap.size, 1, none⟩ = some (.string s0) ∧ w'.cell? ⟨w.heap.size, 2, none⟩ = some (.string d0) ∧ w'.cell? ⟨w.heap.size, 3, none⟩ = some (.bool n1) ∧ w'.cell? ⟨w.heap.size, 4, none⟩ = some (.string s1) ∧ w'.cell? ⟨w.heap.size, 5, none⟩ = some (.string d1) ∧ w'.cell? ⟨w.heap.size + 1, 0, none⟩ = some (.bool n2) ∧ w'.cell? ⟨w.heap.size + 1, 1, none⟩ = some (.string s2) ∧ w'.cell? ⟨w.heap.size + 1, 2, none⟩ = some (.string d2) ∧ w'.cell? ⟨w.heap.size + 1, 3, none⟩ = some (.bool n3) ∧ w'.cell? ⟨w.heap.size + 1, 4, none⟩ = some (.string s3) ∧ w'.cell? ⟨w.heap.size + 1, 5, none⟩ = some (.string d3))) := fun w' ha hb => ⟨cel6_0 ha, cel6_1 ha, cel6_2 ha, cel6_3 ha, cel6_4 ha, cel6_5 ha, cel6_0 hb, cel6_1 hb, cel6_2 hb, cel6_3 hb, cel6_4 hb, cel6_5 hb⟩
 go_region_held3 (fun w' => w'.cell? ⟨w.heap.size, 0, none⟩ = some (.bool n0) ∧ w'.cell? ⟨w.heap.size, 1, none⟩ = some (.string s0) ∧ w'.cell? ⟨w.heap.size, 2, none⟩ = some (.string d0) ∧ w'.cell? ⟨w.heap.size, 3, none⟩ = some (.bool n1) ∧ w'.cell? ⟨w.heap.size, 4, none⟩ = some (.string s1) ∧ w'.cell? ⟨w.heap.size, 5, none⟩ = some (.string d1) ∧ w'.cell? ⟨w.heap.size + 1, 0, none⟩ = some (.bool n2) ∧ w'.cell? ⟨w.heap.size + 1, 1, none⟩ = some (.string s2) ∧ w'.cell? ⟨w.heap.size + 1, 2, none⟩ = some (.string d2) ∧ w'.cell? ⟨w.heap.size + 1, 3, none⟩ = some (.bool n3) ∧ w'.cell? ⟨w.heap.size + 1, 4, none⟩ = some (.string s3) ∧ w'.cell? ⟨w.heap.size + 1, 5, none⟩ = some (.string d3)) (first | with_reducible exact mkS.out _ ka kb | with_reducible exact mkS.out _ (ka.alloc _) (kb.alloc _) | with_reducible exact mkS.out _ (Cel.other (Cel.other (Cel.other ka qa 0 _) qa 1 _) qa 2 _) (Cel.other (Cel.other (Cel.other kb qb 0 _) qb 1 _) qb 2 _) | exact mkS.out _ ka kb) (first | (go_at_call 56; go_fit (H1.out _); rintro e wn ⟨rfl, bn⟩; replace ka := ka.below ⟨bn.os, bn.tape, bn.output, bn.size, bn.block⟩; replace kb := kb.below ⟨bn.os, bn.tape, bn.output, bn.size, bn.block⟩; replace kr := kr.below ⟨bn.os, bn.tape, bn.output, bn.size, bn.block⟩; replace bb := Below.after bb ⟨bn.os, bn.tape, bn.output, bn.size, bn.block⟩) | (go_at_call 56; go_fit (H2.out _); rintro e wn ⟨rfl, bn⟩; replace ka := ka.below ⟨bn.os, bn.tape, bn.output, bn.size, bn.block⟩; replace kb := kb.below ⟨bn.os, bn.tape, bn.output, bn.size, bn.block⟩; replace kr := kr.below ⟨bn.os, bn.tape, bn.output, bn.size, bn.block⟩; replace bb := Below.after bb ⟨bn.os, bn.tape, bn.output, bn.size, bn.block⟩) | (go_at_call 58; go_fit (H3.out _); rintro e wn ⟨rfl, bn⟩; replace ka := ka.below ⟨bn.os, bn.tape, bn.output, bn.size, bn.block⟩; replace kb := kb.below ⟨bn.os, bn.tape, bn.output, bn.size, bn.block⟩; replace kr := kr.below ⟨bn.os, bn.tape, bn.output, bn.size, bn.block⟩; replace bb := Below.after bb ⟨bn.os, bn.tape, bn.output, bn.size, bn.block⟩; have e0 := cel3_0 kr; have f0 := Cel.frozen kr 0; have e1 := cel3_1 kr; have f1 := Cel.frozen kr 1; have e2 := cel3_2 kr; have f2 := Cel.frozen kr 2))
 go_wp2
 exact post_q (p := 4) (by kernel_rfl) rfl rfl (((kr.set 0 _).set 1 _).set 2 _) ⟨rfl, bset (bset (bset bb (by omega) 0 _) (by omega) 1 _) (by omega) 2 _⟩
set_option maxRecDepth 100000 in
set_option maxHeartbeats 8000000 in
theorem rcross4_walk (n0 n1 n2 n3 xN yN rN : Bool) (s0 d0 s1 d1 s2 d2 s3 d3 xS xD yS yD rS rD : ByteArray) (w : World)
  (H1 : Hid (∀ w1, Calls Tryz.prog 56 #[.agg #[.bool n0, .string s0, .string d0], .agg #[.bool n3, .string s3, .string d3]] w1 fun e w' => e = .returned (.agg #[.bool xN, .string xS, .string xD]) ∧ Below w1.heap.size w1 w'))
  (H2 : Hid (∀ w1, Calls Tryz.prog 56 #[.agg #[.bool n1, .string s1, .string d1], .agg #[.bool n2, .string s2, .string d2]] w1 fun e w' => e = .returned (.agg #[.bool yN, .string yS, .string yD]) ∧ Below w1.heap.size w1 w'))
  (H3 : Hid (∀ w1, Calls Tryz.prog 87 #[.agg #[.bool xN, .string xS, .string xD], .agg #[.bool yN, .string yS, .string yD]] w1 fun e w' => e = .returned (.agg #[.bool rN, .string rS, .string rD]) ∧ Below w1.heap.size w1 w')) :
  Calls Tryz.prog 53 #[.agg #[.bool n0, .string s0, .string d0, .bool n1, .string s1, .string d1], .agg #[.bool n2, .string s2, .string d2, .bool n3, .string s3, .string d3]] w fun e w' => e = .returned (.agg #[.bool rN, .string rS, .string rD]) ∧ Below w.heap.size w w' := by
 go_enter Tryz.func53, Tryz.ntmps53
 go_wp2_with fail
 obtain ⟨w1, hw, ka, kb, kr, b1⟩ := mk3 w [.bool n0, .string s0, .string d0, .bool n1, .string s1, .string d1] [.bool n2, .string s2, .string d2, .bool n3, .string s3, .string d3] [.bool false, .string { data := #[] }, .string { data := #[] }] 39 39 32
 rw [← hw]
 clear hw
 have sz := b1.size
 have ta := ka.lt
 have tb := kb.lt
 have tr := kr.lt
 have bb := b1
 clear b1
 have qa : w.heap.size ≠ w.heap.size + 1 + 1 := by omega
 have qb : w.heap.size + 1 ≠ w.heap.size + 1 + 1 := by omega
 have mkS : Hid (∀ w', Cel w' (w.heap.size) [.bool n0, .string s0, .string d0, .bool n1, .string s1, .string d1] 39 → Cel w' (w.heap.size + 1) [.bool n2, .string s2, .string d2, .bool n3, .string s3, .string d3] 39 → (w'.cell? ⟨w.heap.size, 0, none⟩ = some (.bool n0) ∧ w'.cell? ⟨w.heap.size, 1, none⟩ = some (.string s0) ∧ w'.cell? ⟨w.heap.size, 2, none⟩ = some (.string d0) ∧ w'.cell? ⟨w.heap.size, 3, none⟩ = some (.bool n1) ∧ w'.cell? ⟨w.heap.size, 4, none⟩ = some (.string s1) ∧ w'.cell? ⟨w.heap.size, 5, none⟩ = some (.string d1) ∧ w'.cell? ⟨w.heap.size + 1, 0, none⟩ = some (.bool n2) ∧ w'.cell? ⟨w.heap.size + 1, 1, none⟩ = some (.string s2) ∧ w'.cell? ⟨w.heap.size + 1, 2, none⟩ = some (.string d2) ∧ w'.cell? ⟨w.heap.size + 1, 3, none⟩ = some (.bool n3) ∧ w'.cell? ⟨w.heap.size + 1, 4, none⟩ = some (.string s3) ∧ w'.cell? ⟨w.heap.size + 1, 5, none⟩ = some (.string d3))) := fun w' ha hb => ⟨cel6_0 ha, cel6_1 ha, cel6_2 ha, cel6_3 ha, cel6_4 ha, cel6_5 ha, cel6_0 hb, cel6_1 hb, cel6_2 hb, cel6_3 hb, cel6_4 hb, cel6_5 hb⟩
 go_region_held3 (fun w' => w'.cell? ⟨w.heap.size, 0, none⟩ = some (.bool n0) ∧ w'.cell? ⟨w.heap.size, 1, none⟩ = some (.string s0) ∧ w'.cell? ⟨w.heap.size, 2, none⟩ = some (.string d0) ∧ w'.cell? ⟨w.heap.size, 3, none⟩ = some (.bool n1) ∧ w'.cell? ⟨w.heap.size, 4, none⟩ = some (.string s1) ∧ w'.cell? ⟨w.heap.size, 5, none⟩ = some (.string d1) ∧ w'.cell? ⟨w.heap.size + 1, 0, none⟩ = some (.bool n2) ∧ w'.cell? ⟨w.heap.size + 1, 1, none⟩ = some (.string s2) ∧ w'.cell? ⟨w.heap.size + 1, 2, none⟩ = some (.string d2) ∧ w'.cell? ⟨w.heap.size + 1, 3, none⟩ = some (.bool n3) ∧ w'.cell? ⟨w.heap.size + 1, 4, none⟩ = some (.string s3) ∧ w'.cell? ⟨w.heap.size + 1, 5, none⟩ = some (.string d3)) (first | with_reducible exact mkS.out _ ka kb | with_reducible exact mkS.out _ (ka.alloc _) (kb.alloc _) | with_reducible exact mkS.out _ (Cel.other (Cel.other (Cel.other ka qa 0 _) qa 1 _) qa 2 _) (Cel.other (Cel.other (Cel.other kb qb 0 _) qb 1 _) qb 2 _) | exact mkS.out _ ka kb) (first | (go_at_call 56; go_fit (H1.out _); rintro e wn ⟨rfl, bn⟩; replace ka := ka.below ⟨bn.os, bn.tape, bn.output, bn.size, bn.block⟩; replace kb := kb.below ⟨bn.os, bn.tape, bn.output, bn.size, bn.block⟩; replace kr := kr.below ⟨bn.os, bn.tape, bn.output, bn.size, bn.block⟩; replace bb := Below.after bb ⟨bn.os, bn.tape, bn.output, bn.size, bn.block⟩) | (go_at_call 56; go_fit (H2.out _); rintro e wn ⟨rfl, bn⟩; replace ka := ka.below ⟨bn.os, bn.tape, bn.output, bn.size, bn.block⟩; replace kb := kb.below ⟨bn.os, bn.tape, bn.output, bn.size, bn.block⟩; replace kr := kr.below ⟨bn.os, bn.tape, bn.output, bn.size, bn.block⟩; replace bb := Below.after bb ⟨bn.os, bn.tape, bn.output, bn.size, bn.block⟩) | (go_at_call 87; go_fit (H3.out _); rintro e wn ⟨rfl, bn⟩; replace ka := ka.below ⟨bn.os, bn.tape, bn.output, bn.size, bn.block⟩; replace kb := kb.below ⟨bn.os, bn.tape, bn.output, bn.size, bn.block⟩; replace kr := kr.below ⟨bn.os, bn.tape, bn.output, bn.size, bn.block⟩; replace bb := Below.after bb ⟨bn.os, bn.tape, bn.output, bn.size, bn.block⟩; have e0 := cel3_0 kr; have f0 := Cel.frozen kr 0; have e1 := cel3_1 kr; have f1 := Cel.frozen kr 1; have e2 := cel3_2 kr; have f2 := Cel.frozen kr 2))
 go_wp2
 exact post_q (p := 4) (by kernel_rfl) rfl rfl (((kr.set 0 _).set 1 _).set 2 _) ⟨rfl, bset (bset (bset bb (by omega) 0 _) (by omega) 1 _) (by omega) 2 _⟩
set_option maxRecDepth 100000 in
set_option maxHeartbeats 4000000 in
theorem rnorm4_walk (n0 n1 rN : Bool) (s0 d0 s1 d1 rS rD : ByteArray) (w : World)
  (H1 : Hid (∀ w1, Calls Tryz.prog 55 #[.agg #[.bool n0, .string s0, .string d0, .bool n1, .string s1, .string d1], .agg #[.bool n0, .string s0, .string d0, .bool n1, .string s1, .string d1]] w1 fun e w' => e = .returned (.agg #[.bool rN, .string rS, .string rD]) ∧ Below w1.heap.size w1 w')) :
  Calls Tryz.prog 57 #[.agg #[.bool n0, .string s0, .string d0, .bool n1, .string s1, .string d1]] w fun e w' => e = .returned (.agg #[.bool rN, .string rS, .string rD]) ∧ Below w.heap.size w w' := by
 go_enter Tryz.func57, Tryz.ntmps57
 go_wp2_with fail
 go_fit (H1.out _)
 rintro e w1 ⟨rfl, b1⟩
 obtain ⟨ka, kr, b1⟩ := al2 b1
 have sz := b1.size
 have bb := b1
 clear b1
 have ta := ka.lt
 have tr := kr.lt
 have cr_0 := cel3_0 kr
 have fr_1 := Cel.frozen kr 0
 have cr_2 := cel3_1 kr
 have fr_3 := Cel.frozen kr 1
 have cr_4 := cel3_2 kr
 have fr_5 := Cel.frozen kr 2
 go_wp2
 exact post_q (p := 2) (by kernel_rfl) rfl rfl (((kr.set 0 _).set 1 _).set 2 _) ⟨rfl, bset (bset (bset bb (by omega) 0 _) (by omega) 1 _) (by omega) 2 _⟩
end Go.Proofs.YtgihiaaodkkkbaaGreatDoor
namespace Go.Proofs.YtgihiaaodkkkbaaGreatDoor
open Go.RowKit

set_option maxRecDepth 100000 in
set_option maxHeartbeats 8000000 in
theorem rlong_no (n : Bool) (s d : ByteArray) (w : World) (z : s.size ≤ 100 ∧ d.size ≤ 100) :
  Calls Tryz.prog 51 #[.agg #[.bool n, .string s, .string d]] w fun e w' => e = .returned (.bool false) ∧ Below w.heap.size w w' := by
 have i0 : ¬ (100 : Int) < s.size := by omega
 have i1 : ¬ (100 : Int) < d.size := by omega
 go_enter Tryz.func51, Tryz.ntmps51
 go_wp2
 go_ret
 exact ⟨rfl, bel_al _ _⟩
set_option maxRecDepth 100000 in
set_option maxHeartbeats 8000000 in
theorem asked_walk (a : Option Addr) (n cap : Nat) (N N' : Nat → Bool) (S D S' D' : Nat → ByteArray) (c : Nat → Nat) (w : World) (hn : n ≤ 1000000) (h : RdPt w a n N S D N' S' D')
  (HZ : Hid (∀ k, k < n → (S k).size ≤ 100 ∧ (D k).size ≤ 100 ∧ (S' k).size ≤ 100 ∧ (D' k).size ≤ 100))
  (HC : Hid (∀ (k : Nat) (w1 : World), k < n → Calls Tryz.prog 52 #[.agg #[.bool (N k), .string (S k), .string (D k), .bool (N' k), .string (S' k), .string (D' k)]] w1 fun e w' => e = .returned (.int .i64 (c k : Nat)) ∧ Below w1.heap.size w1 w')) :
  Calls Tryz.prog 21 #[.slice a n cap] w fun e w' => e = .returned (.int .i64 (firstE c n : Nat)) ∧ Below w.heap.size w w' := by
 replace h := shut h
 go_enter Tryz.func21, Tryz.ntmps21
 go_wp2
 go_loopw [3] (fun i wr => Below w.heap.size w wr ∧ ∃ k : Nat, k ≤ n ∧ i = .int .i64 k ∧ firstE c k = 0) (fun i _ => n - (intOf i).toNat)
 case atStart => exact ⟨Below.refl _ _, 0, by omega, rfl, rfl⟩
 case round =>
  obtain ⟨bb, k, hk, rfl, hz⟩ := hrel
  by_cases hkn : k < n
  ·obtain ⟨b, off, rfl, h0, h1, h2, h3, h4, h5⟩ := h.out.below bb k hkn
   go_wp2_with fail
   go_fit (rlong_no _ _ _ _ ⟨(HZ.out k hkn).1, (HZ.out k hkn).2.1⟩)
   rintro e w1 ⟨rfl, b1⟩
   replace bb := Below.after bb b1
   replace h0 := cell_below h0 b1
   replace h1 := cell_below h1 b1
   replace h2 := cell_below h2 b1
   replace h3 := cell_below h3 b1
   replace h4 := cell_below h4 b1
   replace h5 := cell_below h5 b1
   clear b1
   go_wp2_with fail
   go_fit (rlong_no _ _ _ _ ⟨(HZ.out k hkn).2.2.1, (HZ.out k hkn).2.2.2⟩)
   rintro e w2 ⟨rfl, b1⟩
   replace bb := Below.after bb b1
   replace h0 := cell_below h0 b1
   replace h1 := cell_below h1 b1
   replace h2 := cell_below h2 b1
   replace h3 := cell_below h3 b1
   replace h4 := cell_below h4 b1
   replace h5 := cell_below h5 b1
   clear b1
   go_wp2_with fail
   go_fit (HC.out k _ hkn)
   rintro e w3 ⟨rfl, b1⟩
   replace bb := Below.after bb b1
   clear b1 h0 h1 h2 h3 h4 h5
   by_cases hc : c k = 0
   ·have hs : firstE c (k + 1) = 0 := by unfold firstE; rw [if_pos hz, hc]
    replace hs := shut hs
    replace hz := shut hz
    rw [hc]
    go_wp2
    exact ⟨⟨bb, k + 1, by omega, by go_num, hs.out⟩, by simp [intOf]; omega⟩
   ·have hs := firstE_stop hz hc n hkn
    replace hs := shut hs
    replace hz := shut hz
    go_wp2
    go_ret
    exact ⟨by rw [hs.out]; rfl, bb⟩
  ·obtain rfl : k = n := by omega
   replace hz := shut hz
   go_wp2
   go_ret
   exact ⟨by rw [hz.out]; rfl, bb⟩
theorem asked3 (B : Nat) (n0 n1 n2 n3 n4 n5 : Bool) (s0 d0 s1 d1 s2 d2 s3 d3 s4 d4 s5 d5 : ByteArray) (w : World) (h : Cel w B [.bool n0, .string s0, .string d0, .bool n1, .string s1, .string d1, .bool n2, .string s2, .string d2, .bool n3, .string s3, .string d3, .bool n4, .string s4, .string d4, .bool n5, .string s5, .string d5] 39) (z0 : s0.size ≤ 100 ∧ d0.size ≤ 100) (z1 : s1.size ≤ 100 ∧ d1.size ≤ 100) (z2 : s2.size ≤ 100 ∧ d2.size ≤ 100) (z3 : s3.size ≤ 100 ∧ d3.size ≤ 100) (z4 : s4.size ≤ 100 ∧ d4.size ≤ 100) (z5 : s5.size ≤ 100 ∧ d5.size ≤ 100) :
  Calls Tryz.prog 21 #[.slice (some ⟨B, 0, none⟩) 3 3] w fun e w' => e = .returned (.int .i64 (two (two (twoq n0 s0 d0 n1 s1 d1) (twoq n2 s2 d2 n3 s3 d3)) (twoq n4 s4 d4 n5 s5 d5) : Nat)) ∧ Below w.heap.size w w' := by
 refine asked_walk (some ⟨B, 0, none⟩) 3 3 _ _ _ _ _ _ (f4 (twoq n0 s0 d0 n1 s1 d1) (twoq n2 s2 d2 n3 s3 d3) (twoq n4 s4 d4 n5 s5 d5) 0) w (by omega) (rdpt_3 h) (fun j hj => ?_) (fun j w1 hj => ?_)
 ·match j, hj with
  | 0, _ => exact ⟨z0.1, z0.2, z1.1, z1.2⟩
  | 1, _ => exact ⟨z2.1, z2.2, z3.1, z3.2⟩
  | 2, _ => exact ⟨z4.1, z4.2, z5.1, z5.2⟩
 ·match j, hj with
  | 0, _ => exact rchk4_any n0 n1 s0 d0 s1 d1 w1 (by omega) (by omega) (by omega) (by omega)
  | 1, _ => exact rchk4_any n2 n3 s2 d2 s3 d3 w1 (by omega) (by omega) (by omega) (by omega)
  | 2, _ => exact rchk4_any n4 n5 s4 d4 s5 d5 w1 (by omega) (by omega) (by omega) (by omega)
theorem asked4 (B : Nat) (n0 n1 n2 n3 n4 n5 n6 n7 : Bool) (s0 d0 s1 d1 s2 d2 s3 d3 s4 d4 s5 d5 s6 d6 s7 d7 : ByteArray) (w : World) (h : Cel w B [.bool n0, .string s0, .string d0, .bool n1, .string s1, .string d1, .bool n2, .string s2, .string d2, .bool n3, .string s3, .string d3, .bool n4, .string s4, .string d4, .bool n5, .string s5, .string d5, .bool n6, .string s6, .string d6, .bool n7, .string s7, .string d7] 39) (z0 : s0.size ≤ 100 ∧ d0.size ≤ 100) (z1 : s1.size ≤ 100 ∧ d1.size ≤ 100) (z2 : s2.size ≤ 100 ∧ d2.size ≤ 100) (z3 : s3.size ≤ 100 ∧ d3.size ≤ 100) (z4 : s4.size ≤ 100 ∧ d4.size ≤ 100) (z5 : s5.size ≤ 100 ∧ d5.size ≤ 100) (z6 : s6.size ≤ 100 ∧ d6.size ≤ 100) (z7 : s7.size ≤ 100 ∧ d7.size ≤ 100) :
  Calls Tryz.prog 21 #[.slice (some ⟨B, 0, none⟩) 4 4] w fun e w' => e = .returned (.int .i64 (two (two (two (twoq n0 s0 d0 n1 s1 d1) (twoq n2 s2 d2 n3 s3 d3)) (twoq n4 s4 d4 n5 s5 d5)) (twoq n6 s6 d6 n7 s7 d7) : Nat)) ∧ Below w.heap.size w w' := by
 refine asked_walk (some ⟨B, 0, none⟩) 4 4 _ _ _ _ _ _ (f4 (twoq n0 s0 d0 n1 s1 d1) (twoq n2 s2 d2 n3 s3 d3) (twoq n4 s4 d4 n5 s5 d5) (twoq n6 s6 d6 n7 s7 d7)) w (by omega) (rdpt_4 h) (fun j hj => ?_) (fun j w1 hj => ?_)
 ·match j, hj with
  | 0, _ => exact ⟨z0.1, z0.2, z1.1, z1.2⟩
  | 1, _ => exact ⟨z2.1, z2.2, z3.1, z3.2⟩
  | 2, _ => exact ⟨z4.1, z4.2, z5.1, z5.2⟩
  | 3, _ => exact ⟨z6.1, z6.2, z7.1, z7.2⟩
 ·match j, hj with
  | 0, _ => exact rchk4_any n0 n1 s0 d0 s1 d1 w1 (by omega) (by omega) (by omega) (by omega)
  | 1, _ => exact rchk4_any n2 n3 s2 d2 s3 d3 w1 (by omega) (by omega) (by omega) (by omega)
  | 2, _ => exact rchk4_any n4 n5 s4 d4 s5 d5 w1 (by omega) (by omega) (by omega) (by omega)
  | 3, _ => exact rchk4_any n6 n7 s6 d6 s7 d7 w1 (by omega) (by omega) (by omega) (by omega)
theorem rsignI (x : Rat) (w : World) : Calls Tryz.prog 15 #[.agg #[.bool (nfZ (x).num), .string (sfZ (x).num), .string (strOf (x).den)]] w fun e w' => e = .returned (.int .i64 (Gm.sg x)) ∧ Below w.heap.size w w' := by
 rcases Gm.sg_cases x with ⟨h, e⟩ | ⟨h, e⟩ | ⟨h, e⟩
 ·rw [e, h]
  exact rsign_zero _ w
 ·rw [e]
  have hp := Gm.num_pos h
  have h1 : nfZ x.num = false := by unfold nfZ; exact decide_eq_false (by omega)
  have h2 : (sfZ x.num).toList.isEmpty = false := by
   unfold sfZ
   rw [strOf_empty]
   exact decide_eq_false (by omega)
  rw [h1]
  exact rsign_pos _ _ h2 w
 ·rw [e]
  have hp := Gm.num_pos (q := -x) (by grind)
  rw [Rat.neg_num] at hp
  have h1 : nfZ x.num = true := by unfold nfZ; exact decide_eq_true (by omega)
  rw [h1]
  exact rsign_neg _ _ w
theorem rminusP (x y x' y' : Rat) {K : Nat} (hK : K ≤ 4000) (b0 : Bq x K) (b1 : Bq y K) (b2 : Bq x' K) (b3 : Bq y' K) (w : World) : Calls Tryz.prog 54 #[.agg #[.bool (nfZ (x).num), .string (sfZ (x).num), .string (strOf (x).den), .bool (nfZ (y).num), .string (sfZ (y).num), .string (strOf (y).den)], .agg #[.bool (nfZ (x').num), .string (sfZ (x').num), .string (strOf (x').den), .bool (nfZ (y').num), .string (sfZ (y').num), .string (strOf (y').den)]] w fun e w' => e = .returned (.agg #[.bool (nfZ (x - x').num), .string (sfZ (x - x').num), .string (strOf (x - x').den), .bool (nfZ (y - y').num), .string (sfZ (y - y').num), .string (strOf (y - y').den)]) ∧ Below w.heap.size w w' :=
 rminus4_walk _ _ _ _ _ _ _ _ _ _ _ _ _ _ _ _ _ _ w (fun w1 => rlessI x x' hK b0 b2 w1) (fun w1 => rlessI y y' hK b1 b3 w1)
theorem rcrossP (x y x' y' : Rat) {K : Nat} (hK : K + K + 1 ≤ 4000) (b0 : Bq x K) (b1 : Bq y K) (b2 : Bq x' K) (b3 : Bq y' K) (w : World) : Calls Tryz.prog 53 #[.agg #[.bool (nfZ (x).num), .string (sfZ (x).num), .string (strOf (x).den), .bool (nfZ (y).num), .string (sfZ (y).num), .string (strOf (y).den)], .agg #[.bool (nfZ (x').num), .string (sfZ (x').num), .string (strOf (x').den), .bool (nfZ (y').num), .string (sfZ (y').num), .string (strOf (y').den)]] w fun e w' => e = .returned (.agg #[.bool (nfZ (x * y' - y * x').num), .string (sfZ (x * y' - y * x').num), .string (strOf (x * y' - y * x').den)]) ∧ Below w.heap.size w w' :=
 rcross4_walk _ _ _ _ _ _ _ _ _ _ _ _ _ _ _ _ _ _ _ _ _ w (fun w1 => rtimesI x y' (K := K) (by omega) b0 b3 w1) (fun w1 => rtimesI y x' (K := K) (by omega) b1 b2 w1) (fun w1 => rlessI (x * y') (y * x') hK (vq_mul b0 b3) (vq_mul b1 b2) w1)
theorem rdotP (x y x' y' : Rat) {K : Nat} (hK : K + K + 1 ≤ 4000) (b0 : Bq x K) (b1 : Bq y K) (b2 : Bq x' K) (b3 : Bq y' K) (w : World) : Calls Tryz.prog 55 #[.agg #[.bool (nfZ (x).num), .string (sfZ (x).num), .string (strOf (x).den), .bool (nfZ (y).num), .string (sfZ (y).num), .string (strOf (y).den)], .agg #[.bool (nfZ (x').num), .string (sfZ (x').num), .string (strOf (x').den), .bool (nfZ (y').num), .string (sfZ (y').num), .string (strOf (y').den)]] w fun e w' => e = .returned (.agg #[.bool (nfZ (x * x' + y * y').num), .string (sfZ (x * x' + y * y').num), .string (strOf (x * x' + y * y').den)]) ∧ Below w.heap.size w w' :=
 rdot4_walk _ _ _ _ _ _ _ _ _ _ _ _ _ _ _ _ _ _ _ _ _ w (fun w1 => rtimesI x x' (K := K) (by omega) b0 b2 w1) (fun w1 => rtimesI y y' (K := K) (by omega) b1 b3 w1) (fun w1 => rsumI (x * x') (y * y') hK (vq_mul b0 b2) (vq_mul b1 b3) w1)
theorem rnormP (x y : Rat) {K : Nat} (hK : K + K + 1 ≤ 4000) (b0 : Bq x K) (b1 : Bq y K) (w : World) : Calls Tryz.prog 57 #[.agg #[.bool (nfZ (x).num), .string (sfZ (x).num), .string (strOf (x).den), .bool (nfZ (y).num), .string (sfZ (y).num), .string (strOf (y).den)]] w fun e w' => e = .returned (.agg #[.bool (nfZ (x * x + y * y).num), .string (sfZ (x * x + y * y).num), .string (strOf (x * x + y * y).den)]) ∧ Below w.heap.size w w' :=
 rnorm4_walk _ _ _ _ _ _ _ _ _ w (fun w1 => rdotP x y x y hK b0 b1 b0 b1 w1)
end Go.Proofs.YtgihiaaodkkkbaaGreatDoor
