import Derived.BigQuiet
import Derived.Deep.QuietTactic
import Derived.Handy
import Derived.Shelf.Spec.BitsCarry
import Derived.Shelf.Strings.Cut
import Derived.Shelf.Strings.FieldsFuncAny
import Derived.Shelf.Vars
import Derived.WalkKit
import Derived.WalkSmall
import Derived.Test.YtnplifkgeeicjaaGreatDoorV02
import Derived.Test.YtnplifkgeeicjaaGreatDoorV43
namespace Go.Proofs.YtnplifkgeeicjaaGreatDoor
open Go.RowKit Go.Shelf Go.Lib
def X7:Go.Shelf.Ren:=⟨fun | 229=>82 | n=>n,fun | 0=>0 | 3=>3 | 4=>4 | 9=>9 | 21=>21 | 31=>91 | 40=>137 | 152=>194 | 154=>196 | n=>n,fun  | n=>n⟩
theorem Bki:Go.Proofs.Lays.n229 Tryz.prog X7:={
 mixed:=by kernel_rfl
 f229:=Tryz.func82.trans (congrArg some (by kernel_rfl))
 t0:=Tryz.underlying0
 a0:=Tryz.isAgg0
 z0:=Tryz.sizeOf0
 v0:=Tryz.zeroValue0
 t3:=Tryz.underlying3
 a3:=Tryz.isAgg3
 z3:=Tryz.sizeOf3
 v3:=Tryz.zeroValue3
 t4:=Tryz.underlying4
 a4:=Tryz.isAgg4
 z4:=Tryz.sizeOf4
 v4:=Tryz.zeroValue4
 t9:=Tryz.underlying9
 a9:=Tryz.isAgg9
 z9:=Tryz.sizeOf9
 v9:=Tryz.zeroValue9
 t21:=Tryz.underlying21
 a21:=Tryz.isAgg21
 z21:=Tryz.sizeOf21
 v21:=Tryz.zeroValue21
 t31:=Tryz.underlying91
 a31:=Tryz.isAgg91
 z31:=Tryz.sizeOf91
 v31:=Tryz.zeroValue91
 t40:=Tryz.underlying137
 a40:=Tryz.isAgg137
 z40:=Tryz.sizeOf137
 v40:=Tryz.zeroValue137
 t152:=Tryz.underlying194
 a152:=Tryz.isAgg194
 z152:=Tryz.sizeOf194
 v152:=Tryz.zeroValue194
 t154:=Tryz.underlying196
 a154:=Tryz.isAgg196
 z154:=Tryz.sizeOf196
 v154:=Tryz.zeroValue196 }
theorem Baq (W:World) (r:Nat):FnGives Tryz.prog 83 #[] #[.int .i32 (r:Nat)] (Iz (bl r)) W:=by
 unfold FnGives bl
 by_cases h1:r=32
 ·subst h1
  go_enter Tryz.func83,Tryz.ntmps83
  go_wp2
  go_ret
  exact ⟨rfl,0,rfl⟩
 ·have h1':¬ (r:Int)=32:=by omega
  have e1:(r == 32)=false:=by simpa using h1
  rw [e1]
  by_cases h2:r=9
  ·subst h2
   go_enter Tryz.func83,Tryz.ntmps83
   go_wp2
   go_ret
   exact ⟨rfl,0,rfl⟩
  ·have h2':¬ (r:Int)=9:=by omega
   have e2:(r == 9)=false:=by simpa using h2
   rw [e2]
   by_cases h3:r=10
   ·subst h3
    go_enter Tryz.func83,Tryz.ntmps83
    go_wp2
    go_ret
    exact ⟨rfl,0,rfl⟩
   ·have h3':¬ (r:Int)=10:=by omega
    have e3:(r == 10)=false:=by simpa using h3
    rw [e3]
    go_enter Tryz.func83,Tryz.ntmps83
    go_wp2
    go_ret
    exact ⟨congrArg (fun b=>Ending.returned (Value.bool b)) (show (((r:Int) == 32 || (r:Int) == 9) || (r:Int) == 10)=false by simp [h1',h2',h3']),0,rfl⟩
theorem Baw (s:ByteArray) (w:World) (hs:s.size≤4294967296):Calls Tryz.prog 82 #[I s,.func (.func 83) #[] #[]] w fun e w'=>∃ A,e=.returned (.slice (some ⟨A,0,none⟩) (Cy s).length (Cy s).length)∧w.heap.size≤A ∧
  w'.ownsRow w.heap.size 9 1 (.slice (some ⟨A,0,none⟩) (Cy s).length (Cy s).length) (Cy s).length ((Cy s).map Value.string)∧Below w.heap.size w w':=by
 have:=Any.strings_FieldsFunc Bki 83 #[] (enters_of Tryz.func83 (by kernel_rfl) rfl) bl s w hs (fun W r _=>Baq W r) (by kernel_rfl) (by kernel_rfl)
 rwa [Ye] at this
open Go.RowKit Go.Shelf
def Px:Go.Shelf.Ren:=⟨fun | 145=>215 | 217=>278 | 219=>269 | 220=>245 | 224=>280 | 225=>279 | 266=>284 | 267=>281 | 314=>285 | n=>n,fun | 3=>3 | 4=>4 | 5=>5 | 9=>9 | 46=>217 | 51=>314 | 59=>285 | 146=>338 | n=>n,fun | 1=>13 | n=>n⟩
theorem Bkl:Go.Proofs.Lays.n145 Tryz.prog Px:={
 mixed:=by kernel_rfl
 f145:=Tryz.func215.trans (congrArg some (by kernel_rfl))
 f217:=Tryz.func278.trans (congrArg some (by kernel_rfl))
 f219:=Tryz.func269.trans (congrArg some (by kernel_rfl))
 f220:=Tryz.func245.trans (congrArg some (by kernel_rfl))
 f224:=Tryz.func280.trans (congrArg some (by kernel_rfl))
 f225:=Tryz.func279.trans (congrArg some (by kernel_rfl))
 f266:=Tryz.func284.trans (congrArg some (by kernel_rfl))
 f267:=Tryz.func281.trans (congrArg some (by kernel_rfl))
 f314:=Tryz.func285.trans (congrArg some (by kernel_rfl))
 t3:=Tryz.underlying3
 a3:=Tryz.isAgg3
 z3:=Tryz.sizeOf3
 v3:=Tryz.zeroValue3
 t4:=Tryz.underlying4
 a4:=Tryz.isAgg4
 z4:=Tryz.sizeOf4
 v4:=Tryz.zeroValue4
 t5:=Tryz.underlying5
 a5:=Tryz.isAgg5
 z5:=Tryz.sizeOf5
 v5:=Tryz.zeroValue5
 t9:=Tryz.underlying9
 a9:=Tryz.isAgg9
 z9:=Tryz.sizeOf9
 v9:=Tryz.zeroValue9
 t46:=Tryz.underlying217
 a46:=Tryz.isAgg217
 z46:=Tryz.sizeOf217
 v46:=Tryz.zeroValue217
 t51:=Tryz.underlying314
 a51:=Tryz.isAgg314
 z51:=Tryz.sizeOf314
 v51:=Tryz.zeroValue314
 t59:=Tryz.underlying285
 a59:=Tryz.isAgg285
 z59:=Tryz.sizeOf285
 v59:=Tryz.zeroValue285
 t146:=Tryz.underlying338
 a146:=Tryz.isAgg338
 z146:=Tryz.sizeOf338
 v146:=Tryz.zeroValue338
 g1:=by kernel_rfl }
theorem Bcg (c:UInt8):∀ (l1 l2:List UInt8),(∀ x∈l1,x≠c)→Lib.index (l1 ++ c :: l2) [c]=l1.length
 | [],l2,_=>by
  show Lib.index (c :: l2) [c]=_
  unfold Lib.index
  simp
 | a :: l,l2,h=>by
  have ih:=Bcg c l l2 (fun x hx=>h x (List.mem_cons_of_mem _ hx))
  have ha:a≠c:=h a List.mem_cons_self
  show Lib.index (a :: (l ++ c :: l2)) [c]=_
  unfold Lib.index
  rw [ih]
  have e1:List.isPrefixOf [c] (a :: (l ++ c :: l2))=false:=by simp [List.isPrefixOf,Ne.symm ha]
  rw [e1]
  have e2:(((l.length:Nat):Int) == -1)=false:=by rw [beq_eq_false_iff_ne];omega
  simp [e2]
theorem Yb (c:UInt8):∀ (l:List UInt8),(∀ x∈l,x≠c)→Lib.index l [c]=-1
 | [],_=>rfl
 | a :: l,h=>by
  have ih:=Yb c l (fun x hx=>h x (List.mem_cons_of_mem _ hx))
  have ha:a≠c:=h a List.mem_cons_self
  unfold Lib.index
  rw [ih]
  have e1:List.isPrefixOf [c] (a :: l)=false:=by simp [List.isPrefixOf,Ne.symm ha]
  rw [e1]
  rfl
end Go.Proofs.YtnplifkgeeicjaaGreatDoor
