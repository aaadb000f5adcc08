import Derived.LaidEql
import Derived.RowKitTokens
import Derived.Stop.Asserts
import Derived.WalkKit
import Derived.Test.YtnplifkgeeicjaaGreatDoorV02
namespace Go.Proofs.YtnplifkgeeicjaaGreatDoor
open Go.RowKit Go.Extern.Stop Go.Stop Go.Extern
/-! ### CLOSED FACTS: what 'reflectlite.TypeOf(target).Comparable()' gives at such a target -/
theorem Pm (v:Value) (w:World):(Extern.ReflectliteType.typeOf #[.iface 348 v]).run Tryz.prog w=.ok (.iface 245 (.agg #[.pointer (some ⟨20,348,none⟩)])) w:=by kernel_rfl
def Bnk:TypeId→Sem Value:=fun t=>do Extern.Rtype.noPackHeld "Comparable" t;pure (.bool (← typeInfo t).comparable)
theorem Kz (w:World):(Extern.ReflectliteType.method Bnk #[.agg #[.pointer (some ⟨20,348,none⟩)]]).run Tryz.prog w=.ok (.bool true) w:=by kernel_rfl
theorem Fs (v:Value) (w:World):(Go.method 479 245 v "Comparable").run Tryz.prog w=.ok (314,v) w:=by kernel_rfl
theorem Tk:(Tryz.prog.info? 348).map (·.comparable)=some true:=by kernel_rfl
theorem Tj:(Tryz.prog.info? 367).map (·.size)=some 1:=by kernel_rfl
/-! ### CLOSED FACTS ON THE METHOD SETS: what errors.is's assertions find -/
theorem Wv (v:Value) (xT:TypeId) (w:World):(Instr.typeAssert (.iface 348 v) xT 257 true).run Tryz.prog w=.ok (.tuple #[.nilIface,.bool false]) w:=run_typeAssert_lacksB Tryz.underlying257 (by kernel_rfl) (by kernel_rfl) v xT w
theorem Nj (v:Value) (xT:TypeId) (w:World):(Instr.typeAssert (.iface 348 v) xT 252 true).run Tryz.prog w=.ok (.tuple #[.nilIface,.bool false]) w:=run_typeAssert_lacksB Tryz.underlying252 (by kernel_rfl) (by kernel_rfl) v xT w
theorem Mp (v:Value) (xT:TypeId) (w:World):(Instr.typeAssert (.iface 348 v) xT 254 true).run Tryz.prog w=.ok (.tuple #[.nilIface,.bool false]) w:=run_typeAssert_lacksB Tryz.underlying254 (by kernel_rfl) (by kernel_rfl) v xT w
theorem Wu (v:Value) (xT:TypeId) (w:World):(Instr.typeAssert (.iface 132 v) xT 257 true).run Tryz.prog w=.ok (.tuple #[.nilIface,.bool false]) w:=run_typeAssert_lacksB Tryz.underlying257 (by kernel_rfl) (by kernel_rfl) v xT w
theorem Mq (v:Value) (xT:TypeId) (w:World):(Instr.typeAssert (.iface 132 v) xT 252 true).run Tryz.prog w=.ok (.tuple #[.iface 132 v,.bool true]) w:=run_typeAssert_hasB Tryz.underlying252 (by kernel_rfl) v xT w
theorem Ky (v:Value) (w:World):(Go.method 479 132 v "Unwrap").run Tryz.prog w=.ok (306,v) w:=by kernel_rfl
theorem Vp (pb po:Nat) (b:Addr) (w:World) (h1:w.cell? ⟨pb,po+1,none⟩=some (.iface 348 (.pointer (some b)))) :
  Calls Tryz.prog 93 #[.iface 132 (.pointer (some ⟨pb,po,none⟩)),.iface 348 (.pointer (some b))] w fun e w'=>e=.returned (.bool true)∧w'=w:=by
 obtain ⟨i,hi,hcmp⟩:=Option.map_eq_some_iff.1 Tk
 obtain ⟨j,hj,hjs⟩:=Option.map_eq_some_iff.1 Tj
 have h8:=@run_callFunc_extern Tryz.prog 151 _ Extern.ReflectliteType.typeOf Tryz.func151 (by kernel_rfl) (by kernel_rfl) (by kernel_rfl) (by kernel_rfl)
 have h32:=@run_callFunc_extern Tryz.prog 314 _ (Extern.ReflectliteType.method Bnk) Tryz.func314 (by kernel_rfl) (by kernel_rfl) (by kernel_rfl) (by kernel_rfl)
 have tT:=Pm
 have cT:=Kz
 have mR:=Fs
 have nE:=Wv
 have uE:=Nj
 have vE:=Mp
 have nW:=Wu
 have uW:=Mq
 have mU:=Ky
 have heq:=run_eql_iface_ptr_same (P:=Tryz.prog) w b Tryz.underlying86 Tryz.underlying348 hi hcmp hj
 have hty:=run_eql_iface_types (P:=Tryz.prog) 132 348 (.pointer (some ⟨pb,po,none⟩)) (.pointer (some b)) Tryz.underlying86 (by decide) w
 go_enter Tryz.func93,Tryz.ntmps93
 go_wp2
 refine wp_loop_rounds 2 ?_
 rw [rounds_succ]
 go_wp2
 rw [rounds_succ]
 go_wp2
 go_ret
 exact ⟨rfl,rfl⟩
theorem Tc (pb po:Nat) (b a:Addr) (ca cb:Array Value) (ta tb:TypeId) (w:World) (h1:w.cell? ⟨pb,po+1,none⟩=some (.iface 348 (.pointer (some a)))) (hne:a≠b) (ha:w.heap[a.block]?=some (.cells ca ta (0,0))) (hb:w.heap[b.block]?=some (.cells cb tb (0,0))) :
  Calls Tryz.prog 93 #[.iface 132 (.pointer (some ⟨pb,po,none⟩)),.iface 348 (.pointer (some b))] w fun e w'=>e=.returned (.bool false)∧w'=w:=by
 obtain ⟨i,hi,hcmp⟩:=Option.map_eq_some_iff.1 Tk
 obtain ⟨j,hj,hjs⟩:=Option.map_eq_some_iff.1 Tj
 have h8:=@run_callFunc_extern Tryz.prog 151 _ Extern.ReflectliteType.typeOf Tryz.func151 (by kernel_rfl) (by kernel_rfl) (by kernel_rfl) (by kernel_rfl)
 have h32:=@run_callFunc_extern Tryz.prog 314 _ (Extern.ReflectliteType.method Bnk) Tryz.func314 (by kernel_rfl) (by kernel_rfl) (by kernel_rfl) (by kernel_rfl)
 have tT:=Pm
 have cT:=Kz
 have mR:=Fs
 have nE:=Wv
 have uE:=Nj
 have vE:=Mp
 have nW:=Wu
 have uW:=Mq
 have mU:=Ky
 have heq:=run_eql_iface_ptr_other (P:=Tryz.prog) w Tryz.underlying86 Tryz.underlying348 hi hcmp hj (by rw [hjs];decide) hne ha hb
 have hty:=run_eql_iface_types (P:=Tryz.prog) 132 348 (.pointer (some ⟨pb,po,none⟩)) (.pointer (some b)) Tryz.underlying86 (by decide) w
 go_enter Tryz.func93,Tryz.ntmps93
 go_wp2
 refine wp_loop_rounds 2 ?_
 rw [rounds_succ]
 go_wp2
 rw [rounds_succ]
 go_wp2
 go_ret
 exact ⟨rfl,rfl⟩
open Go.RowKit Go.Extern.Stop Go.Stop Go.Extern
theorem Bnu (t:Value) (w:World) :
  Calls Tryz.prog 92 #[.nilIface,t] w fun e w'=>e=.returned (.bool false)∧w'=w:=by
 go_enter Tryz.func92,Tryz.ntmps92
 go_wp2
 go_ret
 exact ⟨rfl,rfl⟩
/-! ### CLOSED FACTS ON THE MODEL's ENTRIES FOR internal/reflectlite, at this program's types: 25: *p.E · 27: **p.E · 23: error · 45: reflectlite's rtype · 1: how many package-level variables the dump has -/
theorem S0 (t:Addr) (w:World):(ReflectliteValue.unpack (.iface 148 (.pointer (some t)))).run Tryz.prog w
  = .ok (.agg #[.pointer (some ⟨20,148,none⟩),.pointer (some ⟨w.heap.size,0,none⟩),.int .u64 150]) (w.alloc (.cells #[.pointer (some t)] 148)):=by kernel_rfl
theorem Za (a:Addr) (w:World):(ReflectliteValue.methodAny (ReflectliteValue.valueError "reflectlite.Value.Type" 0) (fun t _ _ _=>ReflectliteType.toType t) #[.agg #[.pointer (some ⟨20,148,none⟩),.pointer (some a),.int .u64 150]]).run Tryz.prog w
  = .ok (.iface 245 (.agg #[.pointer (some ⟨20,148,none⟩)])) w:=by kernel_rfl
theorem Q7 (h:Value) (w:World):(Go.method 479 245 (.agg #[h]) "Kind").run Tryz.prog w=.ok (302,h) w:=by kernel_rfl
theorem Zb (w:World):((ReflectliteType.abiMethod fun t=>(fun a:Nat=>Value.int IntKind.u8 (a:Int)) <$> Rtype.kind t) #[.pointer (some ⟨20,148,none⟩)]).run Tryz.prog w=.ok (.int .u8 22) w:=by kernel_rfl
theorem Zc (w:World):((ReflectliteType.abiMethod fun t=>(fun a:Nat=>Value.int IntKind.u8 (a:Int)) <$> Rtype.kind t) #[.pointer (some ⟨20,132,none⟩)]).run Tryz.prog w=.ok (.int .u8 22) w:=by kernel_rfl
/-! ### THE ENTRIES THAT READ OR WRITE MEMORY: laws with a premise on the cell (after Derived/Lib/ReflectliteSlice.lean's manner: each unfolding a lemma of its own, by rfl) -/
theorem rlm (z:Sem Value) (f:TypeId→Addr→Nat→Nat→Sem Value) (v:Value) :
  ReflectliteValue.method z f #[v]=(do match ← ReflectliteValue.parts v with | none=>z | some (t,a,fl)=>f t a fl (fl % 32)):=rfl
theorem Pk (a:Addr) (w:World):(ReflectliteValue.parts (.agg #[.pointer (some ⟨20,148,none⟩),.pointer (some a),.int .u64 150])).run Tryz.prog w=.ok (some (148,a,150)) w:=by kernel_rfl
theorem Ws (a p:Addr) (W:World) (ha:W.cell? a=some (.pointer (some p))) :
  (ReflectliteValue.method (ReflectliteValue.valueError "reflectlite.Value.IsNil" 0) ReflectliteValue.isNil #[.agg #[.pointer (some ⟨20,148,none⟩),.pointer (some a),.int .u64 150]]).run Tryz.prog W=.ok (.bool false) W:=by
 rw [rlm]
 simp only [Sem.run_bind,Pk,Result.andThen]
 simp [ReflectliteValue.isNil,loadVar,isAgg,underlying,Tryz.underlying148,ha,Result.andThen]
theorem Q8 (h:Value) (w:World):(Go.method 479 245 (.agg #[h]) "Elem").run Tryz.prog w=.ok (315,.agg #[h]) w:=by kernel_rfl
theorem Le (h:Value) (w:World):(Go.method 479 245 (.agg #[h]) "Implements").run Tryz.prog w=.ok (316,.agg #[h]) w:=by kernel_rfl
theorem Kj (h:Value) (w:World):(Go.method 479 245 (.agg #[h]) "AssignableTo").run Tryz.prog w=.ok (313,.agg #[h]) w:=by kernel_rfl
theorem Zd (w:World):(ReflectliteType.method ReflectliteType.elem #[.agg #[.pointer (some ⟨20,148,none⟩)]]).run Tryz.prog w=.ok (.iface 245 (.agg #[.pointer (some ⟨20,132,none⟩)])) w:=by kernel_rfl
theorem Ox (w:World):(ReflectliteType.relation "Implements" ReflectliteType.implements_ #[.agg #[.pointer (some ⟨20,132,none⟩)],.iface 245 (.agg #[.pointer (some ⟨20,86,none⟩)])]).run Tryz.prog w=.ok (.bool true) w:=by kernel_rfl
theorem Uv (v:Value) (w:World):(ReflectliteType.typeOf #[.iface 132 v]).run Tryz.prog w=.ok (.iface 245 (.agg #[.pointer (some ⟨20,132,none⟩)])) w:=by kernel_rfl
theorem Oy (w:World):(ReflectliteType.relation "AssignableTo" ReflectliteType.assignableTo #[.agg #[.pointer (some ⟨20,132,none⟩)],.iface 245 (.agg #[.pointer (some ⟨20,132,none⟩)])]).run Tryz.prog w=.ok (.bool true) w:=by kernel_rfl
theorem S3 (e:Addr) (w:World):(ReflectliteValue.unpack (.iface 132 (.pointer (some e)))).run Tryz.prog w
  = .ok (.agg #[.pointer (some ⟨20,132,none⟩),.pointer (some ⟨w.heap.size,0,none⟩),.int .u64 150]) (w.alloc (.cells #[.pointer (some e)] 132)):=by kernel_rfl
theorem Ux (w:World):(Rtype.elem? 148).run Tryz.prog w=.ok (some 132) w:=by kernel_rfl
theorem Bfp (p:Addr) (w:World):(ReflectliteValue.mk 132 p ReflectliteValue.flagAddr).run Tryz.prog w=.ok (.agg #[.pointer (some ⟨20,132,none⟩),.pointer (some p),.int .u64 406]) w:=by kernel_rfl
theorem Wt (a p:Addr) (W:World) (ha:W.cell? a=some (.pointer (some p))) :
  (ReflectliteValue.method (ReflectliteValue.valueError "reflectlite.Value.Elem" 0) ReflectliteValue.elem #[.agg #[.pointer (some ⟨20,148,none⟩),.pointer (some a),.int .u64 150]]).run Tryz.prog W
   = .ok (.agg #[.pointer (some ⟨20,132,none⟩),.pointer (some p),.int .u64 406]) W:=by
 rw [rlm]
 simp only [Sem.run_bind,Pk,Result.andThen]
 simp [ReflectliteValue.elem,loadVar,isAgg,underlying,Tryz.underlying148,ha,Result.andThen,Ux,Bfp]
theorem rls (v x:Value):ReflectliteValue.set #[v,x]=(do
  let (some (dst,a,fl),some (src,b,_)):=(← ReflectliteValue.parts v,← ReflectliteValue.parts x)
   | unsupported (.noEntry "extern/(internal/reflectlite.Value).Set.zeroValue")
  if fl / ReflectliteValue.flagAddr % 2 == 0 then unsupported (.noEntry "extern/(internal/reflectlite.Value).Set.unaddressable")
  let val ← loadVar src b
  if ← Rtype.directlyAssignable dst src then storeVar dst a val
  else if ← Rtype.implements dst src then
   if (← Rtype.kind src) == 20 then
    match val with
    | .nilIface=>unsupported (.noEntry "extern/reflectlite: a nil value of one interface type handed on as a value of another")
    | _=>storeVar dst a val
   else storeVar dst a (.iface src val)
  else panicString ("reflectlite.Set: value of type " ++ (← Rtype.spelt src) ++ " is not assignable to type " ++ (← Rtype.spelt dst))
  pure (.tuple #[])):=rfl
theorem Uw (a:Addr) (w:World):(ReflectliteValue.parts (.agg #[.pointer (some ⟨20,132,none⟩),.pointer (some a),.int .u64 406])).run Tryz.prog w=.ok (some (132,a,406)) w:=by kernel_rfl
theorem Wr (a:Addr) (w:World):(ReflectliteValue.parts (.agg #[.pointer (some ⟨20,132,none⟩),.pointer (some a),.int .u64 150])).run Tryz.prog w=.ok (some (132,a,150)) w:=by kernel_rfl
theorem Uy (w:World):(Rtype.directlyAssignable 132 132).run Tryz.prog w=.ok true w:=by kernel_rfl
theorem Bde (ta b e:Addr) (old:Value) (W:World) (hb:W.cell? b=some (.pointer (some e))) (ht:W.cell? ta=some old) (hf:W.frozen? ta=false) :
  (ReflectliteValue.set #[.agg #[.pointer (some ⟨20,132,none⟩),.pointer (some ta),.int .u64 406],.agg #[.pointer (some ⟨20,132,none⟩),.pointer (some b),.int .u64 150]]).run Tryz.prog W
   = .ok (.tuple #[]) (W.setCell ta (.pointer (some e))):=by
 rw [rls]
 simp only [Sem.run_bind,Uw,Wr,Result.andThen]
 simp [ReflectliteValue.flagAddr,loadVar,isAgg,underlying,Tryz.underlying132,hb,Result.andThen,Uy,storeVar,Value.cells,storeCells,Addr.add]
 rw [run_store Tryz.prog W ta _ _ (by rfl)]
 simp [ht,hf]
set_option maxRecDepth 100000 in
set_option maxHeartbeats 4000000 in
theorem Bnv (e t:Addr) (old:Value) (w:World) (hg:w.cell? ⟨8,0,none⟩=some (.iface 245 (.agg #[.pointer (some ⟨20,86,none⟩)]))) (ht0:w.cell? t=some old) (hf0:w.frozen? t=false) :
  Calls Tryz.prog 92 #[.iface 132 (.pointer (some e)),.iface 148 (.pointer (some t))] w fun ev w'=>ev=.returned (.bool true)∧w'=((((w.alloc (.cells #[.pointer (some t)] 148)).alloc (.cells #[.pointer (some ⟨20,148,none⟩),.pointer (some ⟨w.heap.size,0,none⟩),.int .u64 150] 200)).alloc (.cells #[.pointer (some ⟨20,148,none⟩),.pointer (some ⟨w.heap.size,0,none⟩),.int .u64 150] 200)).alloc (.cells #[.pointer (some e)] 132)).setCell t (.pointer (some e)):=by
 have h6:=@run_callFunc_extern Tryz.prog 147 _ (fun args=>ReflectliteValue.unpack (args.getD 0 (.tuple #[]))) Tryz.func147 (by kernel_rfl) (by kernel_rfl) (by kernel_rfl) (by kernel_rfl)
 have h7:=@run_callFunc_extern Tryz.prog 148 _ (ReflectliteValue.methodAny (ReflectliteValue.valueError "reflectlite.Value.Type" 0) (fun t _ _ _=>ReflectliteType.toType t)) Tryz.func148 (by kernel_rfl) (by kernel_rfl) (by kernel_rfl) (by kernel_rfl)
 have h8:=@run_callFunc_extern Tryz.prog 149 _ (ReflectliteValue.method (ReflectliteValue.valueError "reflectlite.Value.IsNil" 0) ReflectliteValue.isNil) Tryz.func149 (by kernel_rfl) (by kernel_rfl) (by kernel_rfl) (by kernel_rfl)
 have h27:=@run_callFunc_extern Tryz.prog 302 _ (ReflectliteType.abiMethod fun t=>do pure (.int .u8 (← Rtype.kind t))) Tryz.func302 (by kernel_rfl) (by kernel_rfl) (by kernel_rfl) (by kernel_rfl)
 have h37:=@run_callFunc_extern Tryz.prog 315 _ (ReflectliteType.method ReflectliteType.elem) Tryz.func315 (by kernel_rfl) (by kernel_rfl) (by kernel_rfl) (by kernel_rfl)
 have h38:=@run_callFunc_extern Tryz.prog 316 _ (ReflectliteType.relation "Implements" ReflectliteType.implements_) Tryz.func316 (by kernel_rfl) (by kernel_rfl) (by kernel_rfl) (by kernel_rfl)
 have h10:=@run_callFunc_extern Tryz.prog 151 _ ReflectliteType.typeOf Tryz.func151 (by kernel_rfl) (by kernel_rfl) (by kernel_rfl) (by kernel_rfl)
 have h35:=@run_callFunc_extern Tryz.prog 313 _ (ReflectliteType.relation "AssignableTo" ReflectliteType.assignableTo) Tryz.func313 (by kernel_rfl) (by kernel_rfl) (by kernel_rfl) (by kernel_rfl)
 have h11:=@run_callFunc_extern Tryz.prog 185 _ (ReflectliteValue.method (ReflectliteValue.valueError "reflectlite.Value.Elem" 0) ReflectliteValue.elem) Tryz.func185 (by kernel_rfl) (by kernel_rfl) (by kernel_rfl) (by kernel_rfl)
 have h12:=@run_callFunc_extern Tryz.prog 186 _ ReflectliteValue.set Tryz.func186 (by kernel_rfl) (by kernel_rfl) (by kernel_rfl) (by kernel_rfl)
 have tO:=Uv
 have mA:=Kj
 have a25:=Oy
 have v25:=S3
 have f6:=S0
 have f7:=Za
 have mK:=Q7
 have mE:=Q8
 have mI:=Le
 have k27:=Zb
 have k25:=Zc
 have e27:=Zd
 have i25:=Ox
 have n8:=Ws ⟨w.heap.size,0,none⟩ t ((w.alloc (.cells #[.pointer (some t)] 148)).alloc (.cells #[.pointer (some ⟨20,148,none⟩),.pointer (some ⟨w.heap.size,0,none⟩),.int .u64 150] 200)) (by simp)
 have hlt:8<w.heap.size:=World.block_lt_of_cell? w _ hg
 have hg2:((w.alloc (.cells #[.pointer (some t)] 148)).alloc (.cells #[.pointer (some ⟨20,148,none⟩),.pointer (some ⟨w.heap.size,0,none⟩),.int .u64 150] 200)).cell? ⟨8,0,none⟩=some (.iface 245 (.agg #[.pointer (some ⟨20,86,none⟩)])):=by
  rw [World.cell?_alloc_lt _ _ ⟨8,0,none⟩ (by simp;omega),World.cell?_alloc_lt _ _ ⟨8,0,none⟩ hlt];exact hg
 have htl:t.block<w.heap.size:=by
  rcases Nat.lt_or_ge t.block w.heap.size with h | h
  ·exact h
  ·simp [World.cell?,Array.getElem?_eq_none h] at ht0
 have el:=Wt ⟨w.heap.size,0,none⟩ t (((w.alloc (.cells #[.pointer (some t)] 148)).alloc (.cells #[.pointer (some ⟨20,148,none⟩),.pointer (some ⟨w.heap.size,0,none⟩),.int .u64 150] 200)).alloc (.cells #[.pointer (some ⟨20,148,none⟩),.pointer (some ⟨w.heap.size,0,none⟩),.int .u64 150] 200)) (by rw [World.cell?_alloc_lt _ _ ⟨w.heap.size,0,none⟩ (by simp;omega)];simp)
 have st:=Bde t ⟨w.heap.size+1+1+1,0,none⟩ e old ((((w.alloc (.cells #[.pointer (some t)] 148)).alloc (.cells #[.pointer (some ⟨20,148,none⟩),.pointer (some ⟨w.heap.size,0,none⟩),.int .u64 150] 200)).alloc (.cells #[.pointer (some ⟨20,148,none⟩),.pointer (some ⟨w.heap.size,0,none⟩),.int .u64 150] 200)).alloc (.cells #[.pointer (some e)] 132))
  (by rw [World.cell?_alloc_at _ _ _ _ (by simp)];rfl)
  (by rw [World.cell?_alloc_lt _ _ t (by simp;omega),World.cell?_alloc_lt _ _ t (by simp;omega),World.cell?_alloc_lt _ _ t (by simp;omega),World.cell?_alloc_lt _ _ t htl];exact ht0)
  (by rw [World.frozen?_alloc_old _ _ t (by simp;omega),World.frozen?_alloc_old _ _ t (by simp;omega),World.frozen?_alloc_old _ _ t (by simp;omega),World.frozen?_alloc_old _ _ t (Nat.ne_of_lt htl)];exact hf0)
 go_enter Tryz.func92,Tryz.ntmps92
 go_wp2
 refine wp_loop_rounds 1 ?_
 rw [rounds_succ]
 go_wp2
 go_ret
 exact ⟨rfl,rfl⟩
end Go.Proofs.YtnplifkgeeicjaaGreatDoor
