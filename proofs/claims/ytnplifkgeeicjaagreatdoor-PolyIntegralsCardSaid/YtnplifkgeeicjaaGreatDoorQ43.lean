import Derived.Deep.CutBlock
import Derived.Test.YtnplifkgeeicjaaGreatDoorQ42
namespace Go.Proofs.YtnplifkgeeicjaaGreatDoor
open Go.RowKit
def t3 {α : Type} (k : Nat) (x y z : α) : α := match k with
 | 0 => x
 | 1 => y
 | _ => z
theorem Bf5 (z : Int) : rq ((z : Int) : Rat) = (Bo (Bs z) (Bp z) ⟨#[1]⟩) := by
 have e : Bf 1 = ⟨#[1]⟩ := by decide +kernel
 simp only [rq, Rat.num_intCast, Rat.den_intCast, e]
theorem Bge (x0 y0 x1 y1 x2 y2 : Rat) {K : Nat} (hK : K ≤ 60) (b0 : Bq x0 K) (b1 : Bq y0 K) (b2 : Bq x1 K) (b3 : Bq y1 K) (b4 : Bq x2 K) (b5 : Bq y2 K) (w : World) : Calls Tryz.prog 76 #[pq x0 y0, pq x1 y1, pq x2 y2] w (Ra w (rq ((x1 - x0) * (y2 - y0) - (y1 - y0) * (x2 - x0)))) :=
 Ui _ _ _ _ _ _ _ _ _ _ _ _ _ _ _ _ _ _ _ _ _ _ _ _ _ _ _ _ _ _ _ _ _ w (fun w1 _ => M5 x1 y1 x0 y0 (K := K) (by omega) b2 b3 b0 b1 w1) (fun w1 _ => M5 x2 y2 x0 y0 (K := K) (by omega) b4 b5 b0 b1 w1) (fun w1 _ => We _ _ _ _ (K := (K + K + 1)) (by omega) (Dw b2 b0) (Dw b3 b1) (Dw b4 b0) (Dw b5 b1) w1)
end Go.Proofs.YtnplifkgeeicjaaGreatDoor
