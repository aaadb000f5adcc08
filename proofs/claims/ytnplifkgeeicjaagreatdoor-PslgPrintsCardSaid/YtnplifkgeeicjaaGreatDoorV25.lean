import Derived.Laws.ResultCell
import Derived.Test.YtnplifkgeeicjaaGreatDoorV09
namespace Go.Proofs.YtnplifkgeeicjaaGreatDoor
open Go.RowKit
theorem Ez {b:Nat} {xs:List Nat} (h:xs.all (fun x=>decide (x<b))=true):M.Low b xs:=by
 intro x hx;simpa using List.all_eq_true.1 h x hx
theorem Bk1 {b:Nat} (hb:2≤b) {xs ys:List Nat} (hl:M.Low b ys) (ht:M.Trim ys) (e:M.val b xs=M.val b ys):M.digs b (M.val b xs)=ys:=by
 rw [e];exact (M.eq_digs hb hl ht).symm
theorem Bc9 {xs:List Nat} (h:(match xs.getLast? with | some x=>decide (x≠0) | none=>true)=true):M.Trim xs:=by
 intro n hn
 have e:xs.getLast?=some (xs.getD n 0):=by
  rw [List.getLast?_eq_getElem?,Jh,hn]
  simp
  rw [List.getElem?_eq_getElem (by omega)];rfl
 rw [e] at h
 simpa using h
theorem Bmz {w:World} {g:Nat} (hg:g=w.heap.size) (xs:List Nat):Rd (w.alloc (.cells (Dj xs) 170)) (.slice (some ⟨g,0,none⟩) xs.length xs.length) xs:=by
 subst hg;exact (Qr w xs).rd0 _ (Jb _)
theorem Yt (w:World) {g:Nat} (hg:g=w.heap.size) (x:Nat):Rd (w.alloc (.cells #[.int .u64 (x:Nat)] 170)) (.slice (some ⟨g,0,none⟩) 1 1) [x]:=Bmz hg [x]
theorem Bal {w:World} {g:Nat} {x y:Value} (h:Bi w g [x,y] 24):(loadVar 24 ⟨g,0,none⟩).run Tryz.prog w=.ok (.agg #[x,y]) w :=
 run_loadVar_row w g 24 24 #[x,y] (0,0) _ h Tryz.underlying24 rfl (by kernel_rfl)
theorem Ei {fn:Func} {p:Tmp} {R:Ending→World→Prop} {a:Act} {w:World} {g:Nat} {x y:Value} (h:fn.results=#[.cell p 24]) (hp:a.tmps.getD p undef=.pointer (some ⟨g,0,none⟩)) (hd:a.defers=[])
  (hc:Bi w g [x,y] 24) (hR:R (.returned (.agg #[x,y])) w):bodyPost Tryz.prog fn R .ret a w:=by
 refine ⟨hd,.agg #[x,y],?_,hR⟩
 exact results_cell_row (P:=Tryz.prog) h _ w g 24 #[x,y] (0,0) _ hp hc Tryz.underlying24 rfl (by kernel_rfl)
theorem Di {fn:Func} {p u:Tmp} {R:Ending→World→Prop} {a:Act} {w:World} {g:Nat} {x y z:Value} (h:fn.results=#[.cell p 24,.tmp u]) (hp:a.tmps.getD p undef=.pointer (some ⟨g,0,none⟩)) (hu:a.tmps.getD u undef=z) (hd:a.defers=[])
  (hc:Bi w g [x,y] 24) (hR:R (.returned (.tuple #[.agg #[x,y],z])) w):bodyPost Tryz.prog fn R .ret a w:=by
 refine ⟨hd,.tuple #[.agg #[x,y],z],?_,hR⟩
 rw [results_cell_tmp h,hp,hu]
 simp [asAddr,Bal hc,Result.andThen]
theorem Ru {fn:Func} {p q u:Tmp} {R:Ending→World→Prop} {a:Act} {w:World} {g g':Nat} {x y x' y' z:Value} (h:fn.results=#[.cell p 24,.cell q 24,.tmp u]) (hp:a.tmps.getD p undef=.pointer (some ⟨g,0,none⟩)) (hq:a.tmps.getD q undef=.pointer (some ⟨g',0,none⟩)) (hu:a.tmps.getD u undef=z) (hd:a.defers=[])
  (hc:Bi w g [x,y] 24) (hc':Bi w g' [x',y'] 24) (hR:R (.returned (.tuple #[.agg #[x,y],.agg #[x',y'],z])) w):bodyPost Tryz.prog fn R .ret a w:=by
 refine ⟨hd,.tuple #[.agg #[x,y],.agg #[x',y'],z],?_,hR⟩
 have hp':a.tmps[p]?.getD undef=.pointer (some ⟨g,0,none⟩):=by simpa using hp
 have hq':a.tmps[q]?.getD undef=.pointer (some ⟨g',0,none⟩):=by simpa using hq
 have hu':a.tmps[u]?.getD undef=z:=by simpa using hu
 simp only [results,h]
 simp [Sem.run_bind,Result.andThen,hp',hq',hu',asAddr,Bal hc,Bal hc']
end Go.Proofs.YtnplifkgeeicjaaGreatDoor
