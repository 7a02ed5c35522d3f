/- errors.As at a target of *api.Spot, and errors.Is at a Code: of a Spot, and of a Code itself. -/
import Derived.Test.YtfoggldjjnabcaaDoorInsBJ
import Derived.Test.YtfoggldjjnabcaaDoorEqEJ
import Derived.LaidEql
import Derived.Stop.Asserts
import Derived.RowKitTokens
import Derived.Test.YtfoggldjjnabcaaDoorLimJ
import Derived.Test.YtfoggldjjnabcaaDoorLastJ
import Derived.Deep.Cut
import Derived.Deep.RegionHeld
import Derived.Test.YtfoggldjjnabcaaDoorModAJ
import Derived.Deep.QuietTactic
import Derived.BigQuiet
import Derived.StillTailTactics
namespace Go.Proofs.YtfoggldjjnabcaaDoor
open Go.ChangeShapes Go.WideShapes Go.RowKit Go.Deep Go.Extern.Stop Go.Stop Go.Extern
set_option linter.unusedVariables false
theorem as_nil (t:Value) (w:World) :
    Calls Tryd.prog 18 #[.nilIface,t] w fun e w'=>e=.returned (.bool false)∧w'=w:=by
  (go_enter Tryd.func18,Tryd.ntmps18);(go_wp2);(go_ret);exact ⟨rfl,rfl⟩
theorem rlf_valueOfTPP (t:Addr) (w:World):(ReflectliteValue.unpack (.iface 64 (.pointer (some t)))).run Tryd.prog w
    = .ok (.agg #[.pointer (some ⟨2,64,none⟩),.pointer (some ⟨w.heap.size,0,none⟩),.int .u64 150]) (w.alloc (.cells #[.pointer (some t)] 64)):=by kernel_rfl
theorem rlf_typeTPP (a:Addr) (w:World):(ReflectliteValue.methodAny (ReflectliteValue.valueError "reflectlite.Value.Type" 0) (fun t _ _ _=>ReflectliteType.toType t) #[.agg #[.pointer (some ⟨2,64,none⟩),.pointer (some a),.int .u64 150]]).run Tryd.prog w
    = .ok (.iface 100 (.agg #[.pointer (some ⟨2,64,none⟩)])) w:=by kernel_rfl
theorem rlf_methodKind (h:Value) (w:World):(Go.method 282 100 (.agg #[h]) "Kind").run Tryd.prog w=.ok (93,h) w:=by kernel_rfl
theorem rlf_kindTPP (w:World):((ReflectliteType.abiMethod fun t=>(fun a:Nat=>Value.int IntKind.u8 (a:Int)) <$> Rtype.kind t) #[.pointer (some ⟨2,64,none⟩)]).run Tryd.prog w=.ok (.int .u8 22) w:=by kernel_rfl
theorem rlf_kindTP (w:World):((ReflectliteType.abiMethod fun t=>(fun a:Nat=>Value.int IntKind.u8 (a:Int)) <$> Rtype.kind t) #[.pointer (some ⟨2,60,none⟩)]).run Tryd.prog w=.ok (.int .u8 22) w:=by kernel_rfl
theorem rlf_rlm (z:Sem Value) (f:TypeId→Addr→Nat→Nat→Sem Value) (v:Value) :
    ReflectliteValue.method z f #[v]=(do match ← ReflectliteValue.parts v with | none=>z | some (t,a,fl)=>f t a fl (fl % 32)):=rfl
theorem rlf_partsTPP (a:Addr) (w:World):(ReflectliteValue.parts (.agg #[.pointer (some ⟨2,64,none⟩),.pointer (some a),.int .u64 150])).run Tryd.prog w=.ok (some (64,a,150)) w:=by kernel_rfl
theorem rlf_isNil (a p:Addr) (W:World) (ha:W.cell? a=some (.pointer (some p))) :
    (ReflectliteValue.method (ReflectliteValue.valueError "reflectlite.Value.IsNil" 0) ReflectliteValue.isNil #[.agg #[.pointer (some ⟨2,64,none⟩),.pointer (some a),.int .u64 150]]).run Tryd.prog W=.ok (.bool false) W:=by
  rw [rlf_rlm];simp only [Sem.run_bind,rlf_partsTPP,Result.andThen];simp [ReflectliteValue.isNil,loadVar,isAgg,underlying,Tryd.underlying64,ha,Result.andThen]
theorem rlf_methodElem (h:Value) (w:World):(Go.method 282 100 (.agg #[h]) "Elem").run Tryd.prog w=.ok (105,.agg #[h]) w:=by kernel_rfl
theorem rlf_methodImplements (h:Value) (w:World):(Go.method 282 100 (.agg #[h]) "Implements").run Tryd.prog w=.ok (106,.agg #[h]) w:=by kernel_rfl
theorem z7 (h:Value) (w:World):(Go.method 282 100 (.agg #[h]) "AssignableTo").run Tryd.prog w=.ok (103,.agg #[h]) w:=by kernel_rfl
theorem rlf_elemTPP (w:World):(ReflectliteType.method ReflectliteType.elem #[.agg #[.pointer (some ⟨2,64,none⟩)]]).run Tryd.prog w=.ok (.iface 100 (.agg #[.pointer (some ⟨2,60,none⟩)])) w:=by kernel_rfl
theorem rlf_implementsTP (w:World):(ReflectliteType.relation "Implements" ReflectliteType.implements_ #[.agg #[.pointer (some ⟨2,60,none⟩)],.iface 100 (.agg #[.pointer (some ⟨2,29,none⟩)])]).run Tryd.prog w=.ok (.bool true) w:=by kernel_rfl
theorem rlf_typeOfTP (v:Value) (w:World):(ReflectliteType.typeOf #[.iface 60 v]).run Tryd.prog w=.ok (.iface 100 (.agg #[.pointer (some ⟨2,60,none⟩)])) w:=by kernel_rfl
theorem rlf_typeOfCode (v:Value) (w:World):(ReflectliteType.typeOf #[.iface 49 v]).run Tryd.prog w=.ok (.iface 100 (.agg #[.pointer (some ⟨2,49,none⟩)])) w:=by kernel_rfl
theorem rlf_assignableTP (w:World):(ReflectliteType.relation "AssignableTo" ReflectliteType.assignableTo #[.agg #[.pointer (some ⟨2,60,none⟩)],.iface 100 (.agg #[.pointer (some ⟨2,60,none⟩)])]).run Tryd.prog w=.ok (.bool true) w:=by kernel_rfl
theorem rlf_assignableCode (w:World):(ReflectliteType.relation "AssignableTo" ReflectliteType.assignableTo #[.agg #[.pointer (some ⟨2,49,none⟩)],.iface 100 (.agg #[.pointer (some ⟨2,60,none⟩)])]).run Tryd.prog w=.ok (.bool false) w:=by kernel_rfl
theorem asrt_codeAs (v:Value) (xT:TypeId) (w:World):(Instr.typeAssert (.iface 49 v) xT 105 true).run Tryd.prog w=.ok (.tuple #[.nilIface,.bool false]) w:=run_typeAssert_lacksB Tryd.underlying105 (by kernel_rfl) (by kernel_rfl) v xT w
theorem asrt_codeUnwrap (v:Value) (xT:TypeId) (w:World):(Instr.typeAssert (.iface 49 v) xT 108 true).run Tryd.prog w=.ok (.tuple #[.nilIface,.bool false]) w:=run_typeAssert_lacksB Tryd.underlying108 (by kernel_rfl) (by kernel_rfl) v xT w
theorem asrt_codeUnwraps (v:Value) (xT:TypeId) (w:World):(Instr.typeAssert (.iface 49 v) xT 110 true).run Tryd.prog w=.ok (.tuple #[.nilIface,.bool false]) w:=run_typeAssert_lacksB Tryd.underlying110 (by kernel_rfl) (by kernel_rfl) v xT w
theorem rlf_valueOfTP (e:Addr) (w:World):(ReflectliteValue.unpack (.iface 60 (.pointer (some e)))).run Tryd.prog w
    = .ok (.agg #[.pointer (some ⟨2,60,none⟩),.pointer (some ⟨w.heap.size,0,none⟩),.int .u64 150]) (w.alloc (.cells #[.pointer (some e)] 60)):=by kernel_rfl
theorem rlf_elemOf (w:World):(Rtype.elem? 64).run Tryd.prog w=.ok (some 60) w:=by kernel_rfl
theorem rlf_mk (p:Addr) (w:World):(ReflectliteValue.mk 60 p ReflectliteValue.flagAddr).run Tryd.prog w=.ok (.agg #[.pointer (some ⟨2,60,none⟩),.pointer (some p),.int .u64 406]) w:=by kernel_rfl
theorem rlf_elemV (a p:Addr) (W:World) (ha:W.cell? a=some (.pointer (some p))) :
    (ReflectliteValue.method (ReflectliteValue.valueError "reflectlite.Value.Elem" 0) ReflectliteValue.elem #[.agg #[.pointer (some ⟨2,64,none⟩),.pointer (some a),.int .u64 150]]).run Tryd.prog W
      = .ok (.agg #[.pointer (some ⟨2,60,none⟩),.pointer (some p),.int .u64 406]) W:=by
  rw [rlf_rlm];simp only [Sem.run_bind,rlf_partsTPP,Result.andThen];simp [ReflectliteValue.elem,loadVar,isAgg,underlying,Tryd.underlying64,ha,Result.andThen,rlf_elemOf,rlf_mk]
theorem rlf_rls (v x:Value):ReflectliteValue.set #[v,x]=(do
    let (some (dst,a,fl),some (src,b,_)):=(← ReflectliteValue.parts v,← ReflectliteValue.parts x)
      | unsupported (.noEntry "extern/(internal/reflectlite.Value).Set.zeroValue")
    if fl / ReflectliteValue.flagAddr % 2 == 0 then unsupported (.noEntry "extern/(internal/reflectlite.Value).Set.unaddressable")
    let val ← loadVar src b
    if ← Rtype.directlyAssignable dst src then storeVar dst a val
    else if ← Rtype.implements dst src then
      if (← Rtype.kind src) == 20 then
        match val with
        | .nilIface=>unsupported (.noEntry "extern/reflectlite: a nil value of one interface type handed on as a value of another")
        | _=>storeVar dst a val
      else storeVar dst a (.iface src val)
    else panicString ("reflectlite.Set: value of type "++(← Rtype.spelt src)++" is not assignable to type "++(← Rtype.spelt dst))
    pure (.tuple #[])):=rfl
theorem rlf_partsTPa (a:Addr) (w:World):(ReflectliteValue.parts (.agg #[.pointer (some ⟨2,60,none⟩),.pointer (some a),.int .u64 406])).run Tryd.prog w=.ok (some (60,a,406)) w:=by kernel_rfl
theorem rlf_partsTP (a:Addr) (w:World):(ReflectliteValue.parts (.agg #[.pointer (some ⟨2,60,none⟩),.pointer (some a),.int .u64 150])).run Tryd.prog w=.ok (some (60,a,150)) w:=by kernel_rfl
theorem rlf_direct (w:World):(Rtype.directlyAssignable 60 60).run Tryd.prog w=.ok true w:=by kernel_rfl
theorem rlf_set (ta b e:Addr) (old:Value) (W:World) (hb:W.cell? b=some (.pointer (some e))) (ht:W.cell? ta=some old) (hf:W.frozen? ta=false) :
    (ReflectliteValue.set #[.agg #[.pointer (some ⟨2,60,none⟩),.pointer (some ta),.int .u64 406],.agg #[.pointer (some ⟨2,60,none⟩),.pointer (some b),.int .u64 150]]).run Tryd.prog W
      = .ok (.tuple #[]) (W.setCell ta (.pointer (some e))):=by
  rw [rlf_rls];simp only [Sem.run_bind,rlf_partsTPa,rlf_partsTP,Result.andThen];simp [ReflectliteValue.flagAddr,loadVar,isAgg,underlying,Tryd.underlying60,hb,Result.andThen,rlf_direct,storeVar,Value.cells,storeCells,Addr.add];rw [run_store Tryd.prog W ta _ _ (by rfl)];simp [ht,hf]
set_option maxRecDepth 100000 in
set_option maxHeartbeats 4000000 in
theorem as_spot (e t:Addr) (old:Value) (w:World) (hg:w.cell? ⟨1,0,none⟩=some (.iface 100 (.agg #[.pointer (some ⟨2,29,none⟩)]))) (ht0:w.cell? t=some old) (hf0:w.frozen? t=false) :
    Calls Tryd.prog 18 #[.iface 60 (.pointer (some e)),.iface 64 (.pointer (some t))] w fun ev w'=>ev=.returned (.bool true)∧w'=((((w.alloc (.cells #[.pointer (some t)] 64)).alloc (.cells #[.pointer (some ⟨2,64,none⟩),.pointer (some ⟨w.heap.size,0,none⟩),.int .u64 150] 78)).alloc (.cells #[.pointer (some ⟨2,64,none⟩),.pointer (some ⟨w.heap.size,0,none⟩),.int .u64 150] 78)).alloc (.cells #[.pointer (some e)] 60)).setCell t (.pointer (some e)):=by
  have h6:=@run_callFunc_extern Tryd.prog 31 _ (fun args=>ReflectliteValue.unpack (args.getD 0 (.tuple #[]))) Tryd.func31 (by kernel_rfl) (by kernel_rfl) (by kernel_rfl) (by kernel_rfl);have h7:=@run_callFunc_extern Tryd.prog 32 _ (ReflectliteValue.methodAny (ReflectliteValue.valueError "reflectlite.Value.Type" 0) (fun t _ _ _=>ReflectliteType.toType t)) Tryd.func32 (by kernel_rfl) (by kernel_rfl) (by kernel_rfl) (by kernel_rfl);have h8:=@run_callFunc_extern Tryd.prog 33 _ (ReflectliteValue.method (ReflectliteValue.valueError "reflectlite.Value.IsNil" 0) ReflectliteValue.isNil) Tryd.func33 (by kernel_rfl) (by kernel_rfl) (by kernel_rfl) (by kernel_rfl);have h27:=@run_callFunc_extern Tryd.prog 93 _ (ReflectliteType.abiMethod fun t=>do pure (.int .u8 (← Rtype.kind t))) Tryd.func93 (by kernel_rfl) (by kernel_rfl) (by kernel_rfl) (by kernel_rfl);have h37:=@run_callFunc_extern Tryd.prog 105 _ (ReflectliteType.method ReflectliteType.elem) Tryd.func105 (by kernel_rfl) (by kernel_rfl) (by kernel_rfl) (by kernel_rfl);have h38:=@run_callFunc_extern Tryd.prog 106 _ (ReflectliteType.relation "Implements" ReflectliteType.implements_) Tryd.func106 (by kernel_rfl) (by kernel_rfl) (by kernel_rfl) (by kernel_rfl);have h10:=@run_callFunc_extern Tryd.prog 50 _ ReflectliteType.typeOf Tryd.func50 (by kernel_rfl) (by kernel_rfl) (by kernel_rfl) (by kernel_rfl);have h35:=@run_callFunc_extern Tryd.prog 103 _ (ReflectliteType.relation "AssignableTo" ReflectliteType.assignableTo) Tryd.func103 (by kernel_rfl) (by kernel_rfl) (by kernel_rfl) (by kernel_rfl);have h11:=@run_callFunc_extern Tryd.prog 51 _ (ReflectliteValue.method (ReflectliteValue.valueError "reflectlite.Value.Elem" 0) ReflectliteValue.elem) Tryd.func51 (by kernel_rfl) (by kernel_rfl) (by kernel_rfl) (by kernel_rfl)
  have h12:=@run_callFunc_extern Tryd.prog 52 _ ReflectliteValue.set Tryd.func52 (by kernel_rfl) (by kernel_rfl) (by kernel_rfl) (by kernel_rfl);have tO:=rlf_typeOfTP;have mA:=z7;have a25:=rlf_assignableTP;have v25:=rlf_valueOfTP;have f6:=rlf_valueOfTPP;have f7:=rlf_typeTPP;have mK:=rlf_methodKind;have mE:=rlf_methodElem
  have mI:=rlf_methodImplements;have k27:=rlf_kindTPP;have k25:=rlf_kindTP;have e27:=rlf_elemTPP;have i25:=rlf_implementsTP;have n8:=rlf_isNil ⟨w.heap.size,0,none⟩ t ((w.alloc (.cells #[.pointer (some t)] 64)).alloc (.cells #[.pointer (some ⟨2,64,none⟩),.pointer (some ⟨w.heap.size,0,none⟩),.int .u64 150] 78)) (by simp);have hlt:1<w.heap.size:=by
    rcases Nat.lt_or_ge 1 w.heap.size with h | h
    · exact h
    · simp [World.cell?,Array.getElem?_eq_none h] at hg
  have hg2:((w.alloc (.cells #[.pointer (some t)] 64)).alloc (.cells #[.pointer (some ⟨2,64,none⟩),.pointer (some ⟨w.heap.size,0,none⟩),.int .u64 150] 78)).cell? ⟨1,0,none⟩=some (.iface 100 (.agg #[.pointer (some ⟨2,29,none⟩)])):=by
    rw [World.cell?_alloc_lt _ _ ⟨1,0,none⟩ (by simp;try omega),World.cell?_alloc_lt _ _ ⟨1,0,none⟩ hlt];exact hg
  have htl:t.block<w.heap.size:=by
    rcases Nat.lt_or_ge t.block w.heap.size with h | h
    · exact h
    · simp [World.cell?,Array.getElem?_eq_none h] at ht0
  (have el:=rlf_elemV ⟨w.heap.size,0,none⟩ t (((w.alloc (.cells #[.pointer (some t)] 64)).alloc (.cells #[.pointer (some ⟨2,64,none⟩),.pointer (some ⟨w.heap.size,0,none⟩),.int .u64 150] 78)).alloc (.cells #[.pointer (some ⟨2,64,none⟩),.pointer (some ⟨w.heap.size,0,none⟩),.int .u64 150] 78)) (by rw [World.cell?_alloc_lt _ _ ⟨w.heap.size,0,none⟩ (by simp;omega)];simp));have st:=rlf_set t ⟨w.heap.size+1+1+1,0,none⟩ e old ((((w.alloc (.cells #[.pointer (some t)] 64)).alloc (.cells #[.pointer (some ⟨2,64,none⟩),.pointer (some ⟨w.heap.size,0,none⟩),.int .u64 150] 78)).alloc (.cells #[.pointer (some ⟨2,64,none⟩),.pointer (some ⟨w.heap.size,0,none⟩),.int .u64 150] 78)).alloc (.cells #[.pointer (some e)] 60))
    (by rw [World.cell?_alloc_at _ _ _ _ (by simp)];rfl)
    (by rw [World.cell?_alloc_lt _ _ t (by simp;omega),World.cell?_alloc_lt _ _ t (by simp;omega),World.cell?_alloc_lt _ _ t (by simp;omega),World.cell?_alloc_lt _ _ t htl];exact ht0)
    (by rw [World.frozen?_alloc_old _ _ t (by simp;omega),World.frozen?_alloc_old _ _ t (by simp;omega),World.frozen?_alloc_old _ _ t (by simp;omega),World.frozen?_alloc_old _ _ t (Nat.ne_of_lt htl)];exact hf0)
  (go_enter Tryd.func18,Tryd.ntmps18);(go_wp2);refine wp_loop_rounds 1 ?_;rw [rounds_succ];(go_wp2);(go_ret);exact ⟨rfl,rfl⟩
set_option maxRecDepth 100000 in
set_option maxHeartbeats 4000000 in
theorem as_code (c:Int) (t:Addr) (old:Value) (w:World) (hg:w.cell? ⟨1,0,none⟩=some (.iface 100 (.agg #[.pointer (some ⟨2,29,none⟩)]))) (ht0:w.cell? t=some old) :
    Calls Tryd.prog 18 #[.iface 49 (.int .i64 c),.iface 64 (.pointer (some t))] w fun ev w'=>ev=.returned (.bool false)∧w'=(((w.alloc (.cells #[.pointer (some t)] 64)).alloc (.cells #[.pointer (some ⟨2,64,none⟩),.pointer (some ⟨w.heap.size,0,none⟩),.int .u64 150] 78)).alloc (.cells #[.pointer (some ⟨2,64,none⟩),.pointer (some ⟨w.heap.size,0,none⟩),.int .u64 150] 78)):=by
  have h6:=@run_callFunc_extern Tryd.prog 31 _ (fun args=>ReflectliteValue.unpack (args.getD 0 (.tuple #[]))) Tryd.func31 (by kernel_rfl) (by kernel_rfl) (by kernel_rfl) (by kernel_rfl);have h7:=@run_callFunc_extern Tryd.prog 32 _ (ReflectliteValue.methodAny (ReflectliteValue.valueError "reflectlite.Value.Type" 0) (fun t _ _ _=>ReflectliteType.toType t)) Tryd.func32 (by kernel_rfl) (by kernel_rfl) (by kernel_rfl) (by kernel_rfl);have h8:=@run_callFunc_extern Tryd.prog 33 _ (ReflectliteValue.method (ReflectliteValue.valueError "reflectlite.Value.IsNil" 0) ReflectliteValue.isNil) Tryd.func33 (by kernel_rfl) (by kernel_rfl) (by kernel_rfl) (by kernel_rfl);have h27:=@run_callFunc_extern Tryd.prog 93 _ (ReflectliteType.abiMethod fun t=>do pure (.int .u8 (← Rtype.kind t))) Tryd.func93 (by kernel_rfl) (by kernel_rfl) (by kernel_rfl) (by kernel_rfl);have h37:=@run_callFunc_extern Tryd.prog 105 _ (ReflectliteType.method ReflectliteType.elem) Tryd.func105 (by kernel_rfl) (by kernel_rfl) (by kernel_rfl) (by kernel_rfl);have h38:=@run_callFunc_extern Tryd.prog 106 _ (ReflectliteType.relation "Implements" ReflectliteType.implements_) Tryd.func106 (by kernel_rfl) (by kernel_rfl) (by kernel_rfl) (by kernel_rfl);have h10:=@run_callFunc_extern Tryd.prog 50 _ ReflectliteType.typeOf Tryd.func50 (by kernel_rfl) (by kernel_rfl) (by kernel_rfl) (by kernel_rfl);have h35:=@run_callFunc_extern Tryd.prog 103 _ (ReflectliteType.relation "AssignableTo" ReflectliteType.assignableTo) Tryd.func103 (by kernel_rfl) (by kernel_rfl) (by kernel_rfl) (by kernel_rfl);have h11:=@run_callFunc_extern Tryd.prog 51 _ (ReflectliteValue.method (ReflectliteValue.valueError "reflectlite.Value.Elem" 0) ReflectliteValue.elem) Tryd.func51 (by kernel_rfl) (by kernel_rfl) (by kernel_rfl) (by kernel_rfl)
  have h12:=@run_callFunc_extern Tryd.prog 52 _ ReflectliteValue.set Tryd.func52 (by kernel_rfl) (by kernel_rfl) (by kernel_rfl) (by kernel_rfl);have tO:=rlf_typeOfCode;have mA:=z7;have a25:=rlf_assignableCode;have f6:=rlf_valueOfTPP;have f7:=rlf_typeTPP;have mK:=rlf_methodKind;have mE:=rlf_methodElem;have mI:=rlf_methodImplements
  have k27:=rlf_kindTPP;have k25:=rlf_kindTP;have e27:=rlf_elemTPP;have i25:=rlf_implementsTP;have n8:=rlf_isNil ⟨w.heap.size,0,none⟩ t ((w.alloc (.cells #[.pointer (some t)] 64)).alloc (.cells #[.pointer (some ⟨2,64,none⟩),.pointer (some ⟨w.heap.size,0,none⟩),.int .u64 150] 78)) (by simp);have hlt:1<w.heap.size:=by
    rcases Nat.lt_or_ge 1 w.heap.size with h | h
    · exact h
    · simp [World.cell?,Array.getElem?_eq_none h] at hg
  have hg2:((w.alloc (.cells #[.pointer (some t)] 64)).alloc (.cells #[.pointer (some ⟨2,64,none⟩),.pointer (some ⟨w.heap.size,0,none⟩),.int .u64 150] 78)).cell? ⟨1,0,none⟩=some (.iface 100 (.agg #[.pointer (some ⟨2,29,none⟩)])):=by
    rw [World.cell?_alloc_lt _ _ ⟨1,0,none⟩ (by simp;try omega),World.cell?_alloc_lt _ _ ⟨1,0,none⟩ hlt];exact hg
  have c1:=asrt_codeAs;have c2:=asrt_codeUnwrap;have c3:=asrt_codeUnwraps;(go_enter Tryd.func18,Tryd.ntmps18);(go_wp2);refine wp_loop_rounds 1 ?_;rw [rounds_succ];(go_wp2);go_ret
  exact ⟨rfl,rfl⟩
end Go.Proofs.YtfoggldjjnabcaaDoor

namespace Go.Proofs.YtfoggldjjnabcaaDoor
open Go.ChangeShapes Go.WideShapes Go.RowKit Go.Deep
set_option linter.unusedVariables false
def okE (x:Int):Prop:=x=0∨(3≤x∧x≤6)
theorem firstE_in {l:List Int} (h:∀ x∈l,okE x):okE (qO l):=by
  induction l with
  | nil=>exact .inl rfl
  | cons x r ih =>
    simp only [qO]
    split
    · exact ih (fun y hy=>h y (List.mem_cons_of_mem _ hy))
    · exact h x (List.mem_cons_self ..)
theorem qb {c:Prop} [Decidable c] {a b:Int} (ha:okE a) (hb:okE b):okE (if c then a else b):=by split;exact ha;exact hb
theorem okE_0:okE 0:=.inl rfl
theorem okE_3:okE 3:=.inr ⟨by decide,by decide⟩
theorem okE_4:okE 4:=.inr ⟨by decide,by decide⟩
theorem okE_5:okE 5:=.inr ⟨by decide,by decide⟩
theorem okE_6:okE 6:=.inr ⟨by decide,by decide⟩
theorem restE_in (f:FunD) (x:InsD) (ts:List Int) (d:Int) (b:Bool):okE (restE f x ts d b):=by
  unfold restE;exact qb (qb okE_0 okE_3) okE_4
theorem insE_in (m:List FunD) (f:FunD) (x:InsD):okE (insE m f x):=by
  unfold insE;refine qb (qb (qb (restE_in _ _ _ _ _) okE_6) okE_4) ?_
  split
  · exact okE_6
  · exact qb (restE_in _ _ _ _ _) okE_6
theorem phiE_in' (f:FunD) (p:PhiD):okE (phiE f p):=by unfold phiE;exact qb (qb okE_0 okE_3) okE_4
theorem termE_in (f:FunD) (t:TermD):okE (termE f t):=by unfold termE;exact qb (qb okE_0 okE_3) (qb (qb okE_0 okE_3) okE_4)
theorem blockE_in (m:List FunD) (f:FunD) (b:BlkD):okE (qZ m f b):=by
  (have h1:okE (qO (b.phis.map (phiE f))):=firstE_in fun x hx=>by obtain ⟨p,_,rfl⟩:=List.mem_map.1 hx;exact phiE_in' f p);(have h2:okE (qO (b.ins.map (insE m f))):=firstE_in fun x hx=>by obtain ⟨p,_,rfl⟩:=List.mem_map.1 hx;exact insE_in m f p);unfold qZ;exact qb (qb (termE_in _ _) h2) h1
theorem funE_in (m:List FunD) (f:FunD):okE (funE m f):=by
  unfold funE
  split
  · exact firstE_in fun x hx=>by obtain ⟨p,_,rfl⟩:=List.mem_map.1 hx;exact blockE_in m f p
  · unfold outerE;exact qb (qb (qb okE_0 okE_6) okE_3) okE_5
theorem modK_in (m:List FunD):∀ (l:List FunD) (i:Nat),okE (modK m l i).1
  | [],_=>.inl rfl
  | f::l,i=>by
    simp only [modK]
    split
    · exact modK_in m l (i+1)
    · exact funE_in m f
theorem modE_in (m:List FunD):okE (modE m).1:=by
  unfold modE
  split
  · exact okE_5
  · exact modK_in m m 0
set_option maxRecDepth 100000 in
set_option maxHeartbeats 2000000 in
theorem code_any (c:Int) (w:World) (hc:1≤c∧c≤8):Calls Tryd.prog 19 #[.iface 49 (.int .i64 c)] w fun e w'=>e=.returned (.int .i64 c)∧∃ n,w'=w.drewN n:=by
  obtain ⟨h1,h8⟩:=hc;(go_enter Tryd.func19,Tryd.ntmps19);go_wp2_with fail
  go_loopw [3] (fun i wr=>∃ k n:Nat,1≤k∧(k:Int)≤c∧i=.int .i64 k∧wr=w.drewN n) (fun i _=>9 - (intOf i).toNat)
  case atStart=>exact ⟨1,0,by omega,by omega,rfl,rfl⟩
  case round =>
    obtain ⟨k,n,hk1,hkc,rfl,rfl⟩:=hrel;(have hk8:(k:Int)≤8:=by omega);have he:=eqlErr c k (w.drewN n)
    by_cases h:c=k
    · subst h;rw [show (((k:Nat):Int) == (k:Int))=true by simp] at he;(go_wp2_with fail);(go_ret);exact ⟨rfl,_,rfl⟩
    · rw [show (c == (k:Int))=false by simpa using h] at he;go_wp2_with fail
      go_roundw
      case rel=>exact ⟨k+1,n,by omega,by omega,by go_num,rfl⟩
      case measure=>simp [intOf];omega
def HoldsE (w:World):Prop:=w.cell? ⟨1,0,none⟩=some (.iface 100 (.agg #[.pointer (some ⟨2,29,none⟩)]))
set_option maxRecDepth 100000 in
set_option maxHeartbeats 4000000 in
theorem of_any (v:Value) (p:Int × Int) (w:World) (he:ErrAt w v p) (hp:1≤p.1∧p.1≤8) (hg:HoldsE w):Calls Tryd.prog 8 #[v] w fun e w'=>e=.returned (.tuple #[.int .i64 p.1,.int .i64 p.2])∧Below w.heap.size w w':=by
  have h0:1<w.heap.size:=block_lt_of_cell hg;obtain ⟨p1,p2⟩:=p;obtain ⟨w1,hw1,hs1,hk1,hb1,hc1,-⟩:=named w #[.pointer none] 60;have t0:w1.cell? ⟨w.heap.size,0,none⟩=some (.pointer none):=hc1 0 _ rfl;(have tb:w1.heap[w.heap.size]?=some (.cells #[.pointer none] 60 (0,0)):=by rw [hw1];exact heap_alloc_new _ _);have tf:=qE tb 0;have g1:w1.cell? ⟨1,0,none⟩=_:=hk1 _ _ hg;rcases he with h | ⟨hne,hat,rfl⟩ | ⟨hne,hat,g,rfl,hg0,hg1⟩
  · have:p1=0:=h.1;have:(1:Int)≤p1:=hp.1;omega
  · have hat:p2=-1:=hat;subst hat;have HAS:=Lib.hid (as_code p1 ⟨w.heap.size,0,none⟩ _ w1 g1 t0);have HC:=Lib.hid (fun w=>code_any p1 w hp);have HB1:=Lib.hid hb1;clear hk1 hb1 hc1 tb tf g1 t0 hne;(go_enter Tryd.func8,Tryd.ntmps8);(go_wp2_with fail);rw [← hw1]
    refine HAS.out.mono ?_;rintro e w2 ⟨rfl,hw2⟩
    have HB2:Hid (Below w.heap.size w w2):=Lib.hid (by
      have hs:=HB1.out.size;rw [hw2]
      exact ((HB1.out.alloc hs _).alloc (by simp;omega) _).alloc (by simp;omega) _)
    clear hw1 hw2 hs1;(go_wp2_with fail);refine (HC.out _).mono ?_;rintro e w3 ⟨rfl,n3,rfl⟩;(go_wp2_with fail);(go_ret2);exact ⟨rfl,below_drewN HB2.out n3⟩
  · have hg0':=hk1 _ _ hg0;have hg1':=hk1 _ _ hg1;have hgl:g<w.heap.size:=block_lt_of_cell hg0;have HAS:=Lib.hid (as_spot ⟨g,0,none⟩ ⟨w.heap.size,0,none⟩ _ w1 g1 t0 tf);have HCODE:=Lib.hid (fun w=>code_any p1 w hp);have HB1:=Lib.hid hb1;have HTB:=Lib.hid tb;clear hk1 hb1 hc1 tb tf g1 t0 hne;go_enter Tryd.func8,Tryd.ntmps8
    (go_wp2_with fail);rw [← hw1];refine HAS.out.mono ?_;rintro e w2 ⟨rfl,hw2⟩;obtain ⟨T,hT⟩:∃ T,T=w.heap.size:=⟨_,rfl⟩;rw [← hT] at hw2 ⊢;have hBA:Below w1.heap.size w1 ((((w1.alloc (.cells #[.pointer (some ⟨T,0,none⟩)] 64)).alloc (.cells #[.pointer (some ⟨2,64,none⟩),.pointer (some ⟨w1.heap.size,0,none⟩),.int .u64 150] 78)).alloc (.cells #[.pointer (some ⟨2,64,none⟩),.pointer (some ⟨w1.heap.size,0,none⟩),.int .u64 150] 78)).alloc (.cells #[.pointer (some ⟨g,0,none⟩)] 60)) :=
      ((((Below.refl _ _).alloc (Nat.le_refl _) _).alloc (by simp) _).alloc (by simp;omega) _).alloc (by simp;omega) _
    have x0:w2.cell? ⟨T,0,none⟩=some (.pointer (some ⟨g,0,none⟩)):=by
      rw [hw2];exact q6 (qD (i:=0) (.pointer (some ⟨g,0,none⟩)) ((hBA.block T (by omega)).trans (by rw [hT];exact HTB.out))) 0
    have x1:w2.cell? ⟨g,0,none⟩=some (.int .i64 p2):=by
      rw [hw2];exact (World.cell?_of_block (a:=⟨g,0,none⟩) ((Below.heap_setCell _ _ _ _ (by show g≠T;omega)).trans (hBA.block g (by omega)))).trans hg0'
    have x2:w2.cell? ⟨g,1,none⟩=some (.iface 49 (.int .i64 p1)):=by
      rw [hw2];exact (World.cell?_of_block (a:=⟨g,1,none⟩) ((Below.heap_setCell _ _ _ _ (by show g≠T;omega)).trans (hBA.block g (by omega)))).trans hg1'
    have HB2:Hid (Below w.heap.size w w2):=Lib.hid (by
      rw [hw2]
      exact (HB1.out.trans (hBA.mono HB1.out.size)).setCell (by show _≤T;omega) _)
    have HBF:Hid (∀ w',Below w2.heap.size w2 w'→Below w.heap.size w w'):=Lib.hid (fun w' h=>HB2.out.trans (h.mono HB2.out.size));clear hw1 hw2 hs1 hBA hg0' hg1' hg0 hg1 hT hgl;(go_upto_region 5 with fail);have hS:∀ w':World,Below w2.heap.size w2 w'→w'.cell? ⟨T,0,none⟩=some (.pointer (some ⟨g,0,none⟩))∧w'.cell? ⟨g,0,none⟩=some (.int .i64 p2)∧w'.cell? ⟨g,1,none⟩=some (.iface 49 (.int .i64 p1)):=fun w' h=>⟨q7 h _ _ x0,q7 h _ _ x1,q7 h _ _ x2⟩;have hB0:Below w2.heap.size w2 w2.drew:=(Below.refl w2.heap.size w2).drew;have hS0:=hS _ hB0;clear x0 x1 x2;refine wp_region_held_drew (S:=fun w'=>w'.cell? ⟨T,0,none⟩=some (.pointer (some ⟨g,0,none⟩))∧w'.cell? ⟨g,0,none⟩=some (.int .i64 p2)∧w'.cell? ⟨g,1,none⟩=some (.iface 49 (.int .i64 p1))) (by kernel_rfl) hS0 (fun hHeld=>?_);clear hHeld
    refine tk 0 17 hS0 ?_;simp only [Act.put,aS,List.set_cons_zero,List.set_cons_succ];refine tk 1 18 hS0 ?_;simp only [Act.put,aS,List.set_cons_zero,List.set_cons_succ];refine tk 2 19 hS0 ?_;simp only [Act.put,aS,List.set_cons_zero,List.set_cons_succ];refine tk 3 20 hS0 ?_;simp only [Act.put,aS,List.set_cons_zero,List.set_cons_succ];refine tk 5 22 hS0 ?_
    simp only [Act.put,aS,List.set_cons_zero,List.set_cons_succ];refine tk 6 23 hS0 ?_;simp only [Act.put,aS,List.set_cons_zero,List.set_cons_succ];refine tk 7 24 hS0 ?_;simp only [Act.put,aS,List.set_cons_zero,List.set_cons_succ];refine tk 8 25 hS0 ?_;simp only [Act.put,aS,List.set_cons_zero,List.set_cons_succ];refine oneH (i:=4) (by kernel_rfl) (fun o ho K hK=>?_);simp only [List.getElem?_toArray,List.getElem?_cons_zero,List.getElem?_cons_succ,Option.some.injEq] at ho;subst ho
    (go_simp);refine (HCODE.out _).mono ?_;rintro e w6 ⟨rfl,n6,rfl⟩;have hS1:=hS _ (below_drewN hB0 n6);(go_wp2_with fail);refine hK.out _ _ hS1 ?_;clear hK K;(try simp only [Act.put,aS,List.set_cons_zero,List.set_cons_succ]);refine tk 9 2 hS1 ?_
    simp only [Act.put,aS,List.set_cons_zero,List.set_cons_succ];refine tk 10 3 hS1 ?_;simp only [Act.put,aS,List.set_cons_zero,List.set_cons_succ];refine wpAnyH_done (by kernel_rfl) ?_ _;(go_wp2_with fail);(go_ret2);exact ⟨rfl,HBF.out _ (below_drewN (Below.refl _ _) _)⟩
set_option maxRecDepth 100000 in
set_option maxHeartbeats 1000000 in
theorem code_nil (w:World):Calls Tryd.prog 19 #[.nilIface] w fun e w'=>e=.returned (.int .i64 0)∧w'=w:=by
  (go_enter Tryd.func19,Tryd.ntmps19);(go_wp2_with fail);(go_ret);exact ⟨rfl,rfl⟩
set_option maxRecDepth 100000 in
set_option maxHeartbeats 1000000 in
theorem of_nil (w:World):Calls Tryd.prog 8 #[.nilIface] w fun e w'=>e=.returned (.tuple #[.int .i64 0,.int .i64 (-1)])∧Below w.heap.size w w':=by
  obtain ⟨w1,hw1,hs1,hk1,hb1,hc1,-⟩:=named w #[.pointer none] 60;have HAS:=Lib.hid (as_nil (.iface 64 (.pointer (some ⟨w.heap.size,0,none⟩))) w1);have HC:=Lib.hid (code_nil w1);have HB1:=Lib.hid hb1;clear hk1 hb1 hc1;(go_enter Tryd.func8,Tryd.ntmps8);(go_wp2_with fail);rw [← hw1];refine HAS.out.mono ?_
  rintro e w2 ⟨rfl,hw2⟩;obtain rfl:w1=w2:=hw2.symm;clear hw1 hs1;(go_wp2_with fail);refine HC.out.mono ?_;rintro e w3 ⟨rfl,hw3⟩;obtain rfl:w1=w3:=hw3.symm;(go_wp2_with fail);go_ret2
  exact ⟨rfl,HB1.out⟩
theorem take_len_eq {α:Type} {a b:List α} {k:Nat} (h:a.take k=b.take k) (ha:a.length≤k) (hb:b.length≤k):a=b:=by
  rwa [List.take_of_length_le ha,List.take_of_length_le hb] at h
theorem qz {α:Type} {a b:List α} {k:Nat} {x y:α} (h:a.take k=b.take k) (hx:a[k]?=some x) (hy:b[k]?=some y) (e:x=y):a.take (k+1)=b.take (k+1):=by
  rw [qF hx,qF hy,h,e]
theorem ne_at {α:Type} {a b:List α} {k:Nat} {x y:α} (hx:a[k]?=some x) (hy:b[k]?=some y) (e:x≠y):a≠b:=fun h=>by
  subst h;exact e (Option.some.inj (hx.symm.trans hy))
open Classical in
noncomputable def same {α:Type} (a b:α):Bool:=decide (a=b)
open Classical in
theorem qj {α:Type} {a b:α} (h:a=b):same a b=true:=decide_eq_true h
open Classical in
theorem qU {α:Type} {a b:α} (h:a≠b):same a b=false:=decide_eq_false h
open Classical in
theorem same_iff {α:Type} {a b:α}:same a b=true↔a=b:=decide_eq_true_iff
set_option maxRecDepth 100000 in
set_option maxHeartbeats 4000000 in
theorem ints_any (a b:List Int) (v u:Value) (w:World) (hv:VS w 1 RInt v a) (hu:VS w 1 RInt u b) :
    Calls Tryd.prog 35 #[v,u] w fun e w'=>e=.returned (.bool (same a b))∧∃ n,w'=w.drewN n:=by
  obtain ⟨A,c,rfl,ha⟩:=hv;obtain ⟨B,d,rfl,hb⟩:=hu;have hal:=ha.len;have hbl:=hb.len
  by_cases hl:a.length=b.length
  · (have hl':((a.length:Int) != b.length)=false:=by simp [hl]);have HL:=Lib.hid hl;clear hl;(go_enter Tryd.func35,Tryd.ntmps35);go_wp2_with fail
    go_loopw [5] (fun i wr=>∃ k n:Nat,k≤a.length∧i=.int .i64 k∧wr=w.drewN n∧Hid (a.take k=b.take k)) (fun i _=>a.length - (intOf i).toNat)
    case atStart=>exact ⟨0,0,Nat.zero_le _,rfl,rfl,Lib.hid rfl⟩
    case round =>
      obtain ⟨k,n,hk,rfl,rfl,hi⟩:=hrel
      by_cases hlt:k<a.length
      · (have hlt2:k<b.length:=by have:=HL.out;omega);obtain ⟨b1,o1,x,rfl,hx,hxc,-⟩:=ha.int hlt;obtain ⟨b2,o2,y,rfl,hy,hyc,-⟩:=hb.int hlt2;(have hk0:(0:Int)≤k:=by omega);(have hk1:(k:Int)<a.length:=by omega);have hk2:(k:Int)<b.length:=by omega
        by_cases hxy:x=y
        · (have hxy':(x != y)=false:=by simp [hxy]);have HXY:=Lib.hid hxy;clear hxy;(go_wp2_with fail);(go_quiet (fail));go_wp2_with fail
          go_roundw
          case rel=>exact ⟨k+1,_,by omega,by go_num,rfl,Lib.hid (qz hi.out hx.out hy.out HXY.out)⟩
          case measure=>simp [intOf];omega
        · (have hxy':(x != y)=true:=by rw [bne_iff_ne];exact hxy);have HXY:=Lib.hid hxy;clear hxy;(go_wp2_with fail);(go_quiet (fail));(go_wp2_with fail);(go_ret);exact ⟨by rw [qU (ne_at hx.out hy.out HXY.out)];rfl,_,World.drewN_drewN _ _ _⟩
      · (have HE:=Lib.hid (take_len_eq hi.out (Nat.le_of_not_lt hlt) (by have:=HL.out;omega)));(go_wp2_with fail);(go_ret);exact ⟨by rw [qj HE.out];rfl,_,rfl⟩
  · (have hl':((a.length:Int) != b.length)=true:=by rw [bne_iff_ne];omega);have HL:Hid (same a b=false):=Lib.hid (qU (fun e=>hl (by rw [e])));clear hl;(go_enter Tryd.func35,Tryd.ntmps35);(go_wp2_with fail);(go_ret);exact ⟨by rw [HL.out];rfl,0,rfl⟩
theorem kept_drewN (w:World) (n:Nat):Kept w (w.drewN n):=fun _ _ h=>h
theorem phi_ext {p q:PhiD} (h1:p.dst=q.dst) (h2:p.args=q.args):p=q:=by cases p;cases q;simp_all
theorem ins_ext {p q:InsD} (h1:p.op=q.op) (h2:p.dst=q.dst) (h3:p.args=q.args) (h4:p.imm=q.imm) (h5:p.fn=q.fn):p=q:=by cases p;cases q;simp_all
theorem blk_ext {p q:BlkD} (h1:p.phis=q.phis) (h2:p.ins=q.ins) (h3:p.term.kind=q.term.kind) (h4:p.term.arg=q.term.arg) (h5:p.term.to=q.term.to):p=q:=by
  obtain ⟨a,b,c,d,e⟩:=p;obtain ⟨a',b',c',d',e'⟩:=q;simp_all
theorem fun_ext {p q:FunD} (h1:p.params=q.params) (h2:p.result=q.result) (h3:p.regs=q.regs) (h4:p.blocks=q.blocks):p=q:=by cases p;cases q;simp_all
set_option maxRecDepth 100000 in
set_option maxHeartbeats 8000000 in
theorem sameBlock_any (x y:BlkD) (v u:Value) (w:World) (hv:VBlk w v x) (hu:VBlk w u y) :
    Calls Tryd.prog 36 #[v,u] w fun e w'=>e=.returned (.bool (same x y))∧Below w.heap.size w w':=by
  obtain ⟨Ap,cp,Ai,ci,At,ct,rfl,hp,hi,ht,hk64,ha64⟩:=hv;obtain ⟨Bp,dp,Bi,di,Bt,dt,rfl,kp,ki,kt,kk64,ka64⟩:=hu;have hpl:=hp.len;have hil:=hi.len;have htl:=ht.len;have kpl:=kp.len;have kil:=ki.len;have ktl:=kt.len
  have hB:Below w.heap.size w ((w.alloc (.cells #[.slice Ap x.phis.length cp,.slice Ai x.ins.length ci,.int .i64 x.term.kind,.int .i64 x.term.arg,.slice At x.term.to.length ct] 48)).alloc
      (.cells #[.slice Bp y.phis.length dp,.slice Bi y.ins.length di,.int .i64 y.term.kind,.int .i64 y.term.arg,.slice Bt y.term.to.length dt] 48)):=((Below.refl _ _).alloc (Nat.le_refl _) _).alloc (by simp) _
  have hK:=q7 hB
  by_cases e1:x.phis.length=y.phis.length
  · have e1':((x.phis.length:Int) != y.phis.length)=false:=by simp [e1]
    by_cases e2:x.ins.length=y.ins.length
    · have e2':((x.ins.length:Int) != y.ins.length)=false:=by simp [e2]
      by_cases e3:x.term.kind=y.term.kind
      · have e3':(x.term.kind != y.term.kind)=false:=by simp [e3]
        by_cases e4:x.term.arg=y.term.arg
        · (have e4':(x.term.arg != y.term.arg)=false:=by simp [e4]);have E:=Lib.hid (And.intro e1 (And.intro e2 (And.intro e3 e4)));clear e1 e2 e3 e4;(go_enter Tryd.func36,Tryd.ntmps36);(go_wp2_with fail);obtain ⟨w1,hw1⟩:∃ w1,w1=(w.alloc (.cells #[.slice Ap x.phis.length cp,.slice Ai x.ins.length ci,.int .i64 x.term.kind,.int .i64 x.term.arg,.slice At x.term.to.length ct] 48)).alloc
            (.cells #[.slice Bp y.phis.length dp,.slice Bi y.ins.length di,.int .i64 y.term.kind,.int .i64 y.term.arg,.slice Bt y.term.to.length dt] 48):=⟨_,rfl⟩
          (have gx0:w1.cell? ⟨w.heap.size,0,none⟩=some (.slice Ap x.phis.length cp):=by rw [hw1];simp);(have gx1:w1.cell? ⟨w.heap.size,1,none⟩=some (.slice Ai x.ins.length ci):=by rw [hw1];simp);(have gy0:w1.cell? ⟨w.heap.size+1,0,none⟩=some (.slice Bp y.phis.length dp):=by rw [hw1];simp);(have gy1:w1.cell? ⟨w.heap.size+1,1,none⟩=some (.slice Bi y.ins.length di):=by rw [hw1];simp);(have hs1:w.heap.size+1<w1.heap.size:=by rw [hw1];simp);rw [← hw1] at hB hK ⊢;clear hw1;refine (ints_any x.term.to y.term.to _ _ _ ⟨At,ct,rfl,SInts.keep hK ht⟩ ⟨Bt,dt,rfl,SInts.keep hK kt⟩).mono ?_;rintro e w' ⟨rfl,n0,rfl⟩
          cases hto:same x.term.to y.term.to
          · (have E2:Hid (same x y=false):=Lib.hid (qU (fun e=>by have:=qj (show x.term.to=y.term.to by rw [e]);rw [hto] at this;cases this)));clear hto;(go_wp2_with fail);(go_ret);exact ⟨by rw [E2.out];rfl,below_drewN hB _⟩
          · have HTO:=Lib.hid (same_iff.1 hto);clear hto;(go_wp2_with fail);have hb0:Below w1.heap.size w1 (w1.drewN n0):=below_drewN (Below.refl _ _) _
            go_loopw [5] (fun i wr=>∃ k:Nat,k≤x.phis.length∧i=.int .i64 k∧Below w1.heap.size w1 wr∧Hid (x.phis.take k=y.phis.take k)) (fun i _=>x.phis.length - (intOf i).toNat)
            case atStart=>exact ⟨0,Nat.zero_le _,rfl,hb0,Lib.hid rfl⟩
            case round =>
              obtain ⟨k,hk,rfl,hbel,hi2⟩:=hrel;have hkr:Kept w1 wr:=q7 hbel;have hx0:=hkr _ _ gx0;have hx1:=hkr _ _ gx1;have hy0:=hkr _ _ gy0;have hy1:=hkr _ _ gy1;have hBr:Below w.heap.size w wr:=hB.trans (hbel.mono hB.size)
              by_cases hlt:k<x.phis.length
              · (have hlt2:k<y.phis.length:=by have:=E.out.1;omega);obtain ⟨b1,o1,p,rfl,hp1,⟨hpd,-⟩,Aa,ca,hpa,hpas⟩:=(SPhis.keep (hK.trans hkr) hp).at_ hlt;obtain ⟨b2,o2,q,rfl,hq1,⟨hqd,-⟩,Ba,da,hqa,hqas⟩:=(SPhis.keep (hK.trans hkr) kp).at_ hlt2;(have hk0:(0:Int)≤k:=by omega);(have hk1:(k:Int)<x.phis.length:=by omega);have hk2:(k:Int)<y.phis.length:=by omega
                by_cases hd:p.dst=q.dst
                · (have hd':(p.dst != q.dst)=false:=by simp [hd]);have HD:=Lib.hid hd;clear hd;have hcall:∀ j,Calls Tryd.prog 35 #[.slice Aa p.args.length ca,.slice Ba q.args.length da] (wr.drewN j) fun e w'=>e=.returned (.bool (same p.args q.args))∧∃ m,w'=(wr.drewN j).drewN m:=fun j =>
                    ints_any _ _ _ _ _ ⟨Aa,ca,rfl,SInts.keep (kept_drewN _ _) hpas⟩ ⟨Ba,da,rfl,SInts.keep (kept_drewN _ _) hqas⟩
                  cases hs:same p.args q.args
                  · rw [hs] at hcall;(have E2:Hid (same x y=false):=Lib.hid (qU (fun e=>ne_at hp1.out hq1.out (fun e2=>by have:=qj (show p.args=q.args by rw [e2]);rw [hs] at this;cases this) (by rw [e]))));have HC:=Lib.hid hcall;clear hs hcall;(go_wp2_with fail);(go_quiet ((go_at_call 35;exact Calls.quiet_of (HC.out _))));(go_wp2_with fail);(go_ret);exact ⟨by rw [E2.out];rfl,below_drewN hBr _⟩
                  · rw [hs] at hcall;have HS:=Lib.hid (same_iff.1 hs);have HC:=Lib.hid hcall;clear hs hcall;(go_wp2_with fail);(go_quiet ((go_at_call 35;exact Calls.quiet_of (HC.out _))));go_wp2_with fail
                    go_roundw
                    case rel=>exact ⟨k+1,by omega,by go_num,below_drewN hbel _,Lib.hid (qz hi2.out hp1.out hq1.out (phi_ext HD.out HS.out))⟩
                    case measure=>simp [intOf];omega
                · (have hd':(p.dst != q.dst)=true:=by rw [bne_iff_ne];exact hd);have E2:Hid (same x y=false):=Lib.hid (qU (fun e=>ne_at hp1.out hq1.out (fun e2=>hd (by rw [e2])) (by rw [e])));clear hd;(go_wp2_with fail);(go_quiet (fail));(go_wp2_with fail);(go_ret);exact ⟨by rw [E2.out];rfl,below_drewN hBr _⟩
              · (have HP:=Lib.hid (take_len_eq hi2.out (Nat.le_of_not_lt hlt) (by have:=E.out.1;omega)));clear hi2;have hb1:=hbel;go_wp2_with fail
                go_loopw [6] (fun i wr=>∃ k:Nat,k≤x.ins.length∧i=.int .i64 k∧Below w1.heap.size w1 wr∧Hid (x.ins.take k=y.ins.take k)) (fun i _=>x.ins.length - (intOf i).toNat)
                case atStart=>exact ⟨0,Nat.zero_le _,rfl,hb1,Lib.hid rfl⟩
                case round =>
                  obtain ⟨k,hk,rfl,hbel,hi3⟩:=hrel;have hkr:Kept w1 wr:=q7 hbel;have hx0:=hkr _ _ gx0;have hx1:=hkr _ _ gx1;have hy0:=hkr _ _ gy0;have hy1:=hkr _ _ gy1;have hBr:Below w.heap.size w wr:=hB.trans (hbel.mono hB.size)
                  by_cases hlt:k<x.ins.length
                  · (have hlt2:k<y.ins.length:=by have:=E.out.2.1;omega);obtain ⟨b1,o1,p,rfl,hp1,⟨hp0,-⟩,⟨hpd,-⟩,⟨Aa,ca,hpa,hpas⟩,⟨hpi,-⟩,⟨hpf,-⟩⟩:=(SInss.keep (hK.trans hkr) hi).at_ hlt;obtain ⟨b2,o2,q,rfl,hq1,⟨hq0,-⟩,⟨hqd,-⟩,⟨Ba,da,hqa,hqas⟩,⟨hqi,-⟩,⟨hqf,-⟩⟩:=(SInss.keep (hK.trans hkr) ki).at_ hlt2;have hbk1:=block_lt_of_cell hx1;have hbk2:=block_lt_of_cell hy1;have hbk3:=block_lt_of_cell hqd;dsimp only at hbk1 hbk2 hbk3;(have hn1:w.heap.size+1≠wr.heap.size:=by omega);have hn2:b2≠wr.heap.size:=by omega
                    by_cases f1:p.op=q.op
                    · have f1':(p.op != q.op)=false:=by simp [f1]
                      by_cases f2:p.dst=q.dst
                      · (have f2':(p.dst != q.dst)=false:=by simp [f2]);have F:=Lib.hid (And.intro f1 f2);clear f1 f2;(go_wp2_with fail);obtain ⟨w3,hw3⟩:∃ w3,w3=(wr.alloc (.cells #[.int .i64 p.op,.int .i64 p.dst,.slice Aa p.args.length ca,.int .i64 p.imm,.int .i64 p.fn] 51)).alloc (.cells #[.int .i64 q.op,.int .i64 q.dst,.slice Ba q.args.length da,.int .i64 q.imm,.int .i64 q.fn] 51):=⟨_,rfl⟩;(have hb3:Below wr.heap.size wr w3:=by rw [hw3];exact ((Below.refl _ _).alloc (Nat.le_refl _) _).alloc (by simp) _);(have ji:w3.cell? ⟨wr.heap.size,3,none⟩=some (.int .i64 p.imm):=by rw [hw3];simp);(have jf:w3.cell? ⟨wr.heap.size,4,none⟩=some (.int .i64 p.fn):=by rw [hw3];simp);have li:w3.cell? ⟨wr.heap.size+1,3,none⟩=some (.int .i64 q.imm):=by rw [hw3];simp
                        (have lf:w3.cell? ⟨wr.heap.size+1,4,none⟩=some (.int .i64 q.fn):=by rw [hw3];simp);have hk3:=q7 hb3;have hB3:Below w.heap.size w w3:=hBr.trans (hb3.mono hBr.size);have hb3':Below w1.heap.size w1 w3:=hbel.trans (hb3.mono hbel.size);rw [← hw3];clear hw3;refine (ints_any p.args q.args _ _ _ ⟨Aa,ca,rfl,SInts.keep hk3 hpas⟩ ⟨Ba,da,rfl,SInts.keep hk3 hqas⟩).mono ?_;rintro e w' ⟨rfl,n1,rfl⟩;cases hs:same p.args q.args
                        · (have E2:Hid (same x y=false):=Lib.hid (qU (fun e=>ne_at hp1.out hq1.out (fun e2=>by have:=qj (show p.args=q.args by rw [e2]);rw [hs] at this;cases this) (by rw [e]))));clear hs;(go_wp2_with fail);(go_ret);exact ⟨by rw [E2.out];rfl,below_drewN hB3 _⟩
                        · have HS:=Lib.hid (same_iff.1 hs);clear hs
                          by_cases f3:p.imm=q.imm
                          · have f3':(p.imm != q.imm)=false:=by simp [f3]
                            by_cases f4:p.fn=q.fn
                            · (have f4':(p.fn != q.fn)=false:=by simp [f4]);have F2:=Lib.hid (And.intro f3 f4);clear f3 f4;go_wp2_with fail
                              go_roundw
                              case rel=>exact ⟨k+1,by omega,by go_num,below_drewN hb3' _,Lib.hid (qz hi3.out hp1.out hq1.out (ins_ext F.out.1 F.out.2 HS.out F2.out.1 F2.out.2))⟩
                              case measure=>simp [intOf];omega
                            · (have f4':(p.fn != q.fn)=true:=by rw [bne_iff_ne];exact f4);have E2:Hid (same x y=false):=Lib.hid (qU (fun e=>ne_at hp1.out hq1.out (fun e2=>f4 (by rw [e2])) (by rw [e])));clear f3 f4;(go_wp2_with fail);(go_ret);exact ⟨by rw [E2.out];rfl,below_drewN hB3 _⟩
                          · (have f3':(p.imm != q.imm)=true:=by rw [bne_iff_ne];exact f3);have E2:Hid (same x y=false):=Lib.hid (qU (fun e=>ne_at hp1.out hq1.out (fun e2=>f3 (by rw [e2])) (by rw [e])));clear f3;(go_wp2_with fail);(go_ret);exact ⟨by rw [E2.out];rfl,below_drewN hB3 _⟩
                      · (have f2':(p.dst != q.dst)=true:=by rw [bne_iff_ne];exact f2);have E2:Hid (same x y=false):=Lib.hid (qU (fun e=>ne_at hp1.out hq1.out (fun e2=>f2 (by rw [e2])) (by rw [e])));clear f1 f2;(go_wp2_with fail);(go_ret);exact ⟨by rw [E2.out];rfl,(hBr.alloc (by have:=hBr.size;omega) _).alloc (by have:=hBr.size;simp;omega) _⟩
                    · (have f1':(p.op != q.op)=true:=by rw [bne_iff_ne];exact f1);have E2:Hid (same x y=false):=Lib.hid (qU (fun e=>ne_at hp1.out hq1.out (fun e2=>f1 (by rw [e2])) (by rw [e])));clear f1;(go_wp2_with fail);(go_ret);exact ⟨by rw [E2.out];rfl,(hBr.alloc (by have:=hBr.size;omega) _).alloc (by have:=hBr.size;simp;omega) _⟩
                  · (have HI:=Lib.hid (take_len_eq hi3.out (Nat.le_of_not_lt hlt) (by have:=E.out.2.1;omega)));(go_wp2_with fail);(go_ret);exact ⟨by rw [qj (blk_ext HP.out HI.out E.out.2.2.1 E.out.2.2.2 HTO.out)];rfl,hBr⟩
        · (have e4':(x.term.arg != y.term.arg)=true:=by rw [bne_iff_ne];exact e4);have E:Hid (same x y=false):=Lib.hid (qU (fun e=>e4 (by rw [e])));clear e1 e2 e3 e4;(go_enter Tryd.func36,Tryd.ntmps36);(go_wp2_with fail);(go_ret);exact ⟨by rw [E.out];rfl,hB⟩
      · (have e3':(x.term.kind != y.term.kind)=true:=by rw [bne_iff_ne];exact e3);have E:Hid (same x y=false):=Lib.hid (qU (fun e=>e3 (by rw [e])));clear e1 e2 e3;(go_enter Tryd.func36,Tryd.ntmps36);(go_wp2_with fail);(go_ret);exact ⟨by rw [E.out];rfl,hB⟩
    · (have e2':((x.ins.length:Int) != y.ins.length)=true:=by rw [bne_iff_ne];omega);have E:Hid (same x y=false):=Lib.hid (qU (fun e=>e2 (by rw [e])));clear e1 e2;(go_enter Tryd.func36,Tryd.ntmps36);(go_wp2_with fail);(go_ret);exact ⟨by rw [E.out];rfl,hB⟩
  · (have e1':((x.phis.length:Int) != y.phis.length)=true:=by rw [bne_iff_ne];omega);have E:Hid (same x y=false):=Lib.hid (qU (fun e=>e1 (by rw [e])));clear e1;(go_enter Tryd.func36,Tryd.ntmps36);(go_wp2_with fail);(go_ret);exact ⟨by rw [E.out];rfl,hB⟩
end Go.Proofs.YtfoggldjjnabcaaDoor
