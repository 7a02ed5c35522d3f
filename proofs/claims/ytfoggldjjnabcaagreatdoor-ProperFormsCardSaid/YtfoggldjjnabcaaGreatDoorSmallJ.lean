/- errors.As at a target of *api.Spot, and errors.Is at a Code: of a Spot, and of a Code itself. -/
import Derived.Test.YtfoggldjjnabcaaGreatDoorChkDJ
import Derived.Test.YtfoggldjjnabcaaGreatDoorEqEJ
import Derived.LaidEql
import Derived.Stop.Asserts
import Derived.RowKitTokens
import Derived.Test.YtfoggldjjnabcaaGreatDoorLimJ
import Derived.Test.YtfoggldjjnabcaaGreatDoorInsBJ
import Derived.Test.YtfoggldjjnabcaaGreatDoorLastJ
import Derived.Deep.Cut
import Derived.Deep.RegionHeld
import Derived.Test.YtfoggldjjnabcaaGreatDoorInfBJ
namespace Go.Proofs.YtfoggldjjnabcaaGreatDoor
open Go.ChangeShapes Go.WideShapes Go.RowKit Go.Deep Go.Extern.Stop Go.Stop Go.Extern
set_option linter.unusedVariables false
theorem as_nil (t:Value) (w:World) :
    Calls Tryz.prog 29 #[.nilIface,t] w fun e w'=>e=.returned (.bool false)∧w'=w:=by
  (go_enter Tryz.func29,Tryz.ntmps29);(go_wp2);(go_ret);exact ⟨rfl,rfl⟩
theorem rlf_valueOfTPP (t:Addr) (w:World):(ReflectliteValue.unpack (.iface 74 (.pointer (some t)))).run Tryz.prog w
    = .ok (.agg #[.pointer (some ⟨2,74,none⟩),.pointer (some ⟨w.heap.size,0,none⟩),.int .u64 150]) (w.alloc (.cells #[.pointer (some t)] 74)):=by kernel_rfl
theorem rlf_typeTPP (a:Addr) (w:World):(ReflectliteValue.methodAny (ReflectliteValue.valueError "reflectlite.Value.Type" 0) (fun t _ _ _=>ReflectliteType.toType t) #[.agg #[.pointer (some ⟨2,74,none⟩),.pointer (some a),.int .u64 150]]).run Tryz.prog w
    = .ok (.iface 157 (.agg #[.pointer (some ⟨2,74,none⟩)])) w:=by kernel_rfl
theorem rlf_methodKind (h:Value) (w:World):(Go.method 349 157 (.agg #[h]) "Kind").run Tryz.prog w=.ok (168,h) w:=by kernel_rfl
theorem rlf_kindTPP (w:World):((ReflectliteType.abiMethod fun t=>(fun a:Nat=>Value.int IntKind.u8 (a:Int)) <$> Rtype.kind t) #[.pointer (some ⟨2,74,none⟩)]).run Tryz.prog w=.ok (.int .u8 22) w:=by kernel_rfl
theorem rlf_kindTP (w:World):((ReflectliteType.abiMethod fun t=>(fun a:Nat=>Value.int IntKind.u8 (a:Int)) <$> Rtype.kind t) #[.pointer (some ⟨2,72,none⟩)]).run Tryz.prog w=.ok (.int .u8 22) w:=by kernel_rfl
theorem rlf_rlm (z:Sem Value) (f:TypeId→Addr→Nat→Nat→Sem Value) (v:Value) :
    ReflectliteValue.method z f #[v]=(do match ← ReflectliteValue.parts v with | none=>z | some (t,a,fl)=>f t a fl (fl % 32)):=rfl
theorem rlf_partsTPP (a:Addr) (w:World):(ReflectliteValue.parts (.agg #[.pointer (some ⟨2,74,none⟩),.pointer (some a),.int .u64 150])).run Tryz.prog w=.ok (some (74,a,150)) w:=by kernel_rfl
theorem rlf_isNil (a p:Addr) (W:World) (ha:W.cell? a=some (.pointer (some p))) :
    (ReflectliteValue.method (ReflectliteValue.valueError "reflectlite.Value.IsNil" 0) ReflectliteValue.isNil #[.agg #[.pointer (some ⟨2,74,none⟩),.pointer (some a),.int .u64 150]]).run Tryz.prog W=.ok (.bool false) W:=by
  rw [rlf_rlm];simp only [Sem.run_bind,rlf_partsTPP,Result.andThen];simp [ReflectliteValue.isNil,loadVar,isAgg,underlying,Tryz.underlying74,ha,Result.andThen]
theorem rlf_methodElem (h:Value) (w:World):(Go.method 349 157 (.agg #[h]) "Elem").run Tryz.prog w=.ok (180,.agg #[h]) w:=by kernel_rfl
theorem rlf_methodImplements (h:Value) (w:World):(Go.method 349 157 (.agg #[h]) "Implements").run Tryz.prog w=.ok (181,.agg #[h]) w:=by kernel_rfl
theorem rlf_methodAssignableTo (h:Value) (w:World):(Go.method 349 157 (.agg #[h]) "AssignableTo").run Tryz.prog w=.ok (178,.agg #[h]) w:=by kernel_rfl
theorem rlf_elemTPP (w:World):(ReflectliteType.method ReflectliteType.elem #[.agg #[.pointer (some ⟨2,74,none⟩)]]).run Tryz.prog w=.ok (.iface 157 (.agg #[.pointer (some ⟨2,72,none⟩)])) w:=by kernel_rfl
theorem rlf_implementsTP (w:World):(ReflectliteType.relation "Implements" ReflectliteType.implements_ #[.agg #[.pointer (some ⟨2,72,none⟩)],.iface 157 (.agg #[.pointer (some ⟨2,32,none⟩)])]).run Tryz.prog w=.ok (.bool true) w:=by kernel_rfl
theorem rlf_typeOfTP (v:Value) (w:World):(ReflectliteType.typeOf #[.iface 72 v]).run Tryz.prog w=.ok (.iface 157 (.agg #[.pointer (some ⟨2,72,none⟩)])) w:=by kernel_rfl
theorem rlf_typeOfCode (v:Value) (w:World):(ReflectliteType.typeOf #[.iface 39 v]).run Tryz.prog w=.ok (.iface 157 (.agg #[.pointer (some ⟨2,39,none⟩)])) w:=by kernel_rfl
theorem rlf_assignableTP (w:World):(ReflectliteType.relation "AssignableTo" ReflectliteType.assignableTo #[.agg #[.pointer (some ⟨2,72,none⟩)],.iface 157 (.agg #[.pointer (some ⟨2,72,none⟩)])]).run Tryz.prog w=.ok (.bool true) w:=by kernel_rfl
theorem rlf_assignableCode (w:World):(ReflectliteType.relation "AssignableTo" ReflectliteType.assignableTo #[.agg #[.pointer (some ⟨2,39,none⟩)],.iface 157 (.agg #[.pointer (some ⟨2,72,none⟩)])]).run Tryz.prog w=.ok (.bool false) w:=by kernel_rfl
theorem asrt_codeAs (v:Value) (xT:TypeId) (w:World):(Instr.typeAssert (.iface 39 v) xT 162 true).run Tryz.prog w=.ok (.tuple #[.nilIface,.bool false]) w:=run_typeAssert_lacksB Tryz.underlying162 (by kernel_rfl) (by kernel_rfl) v xT w
theorem asrt_codeUnwrap (v:Value) (xT:TypeId) (w:World):(Instr.typeAssert (.iface 39 v) xT 165 true).run Tryz.prog w=.ok (.tuple #[.nilIface,.bool false]) w:=run_typeAssert_lacksB Tryz.underlying165 (by kernel_rfl) (by kernel_rfl) v xT w
theorem asrt_codeUnwraps (v:Value) (xT:TypeId) (w:World):(Instr.typeAssert (.iface 39 v) xT 167 true).run Tryz.prog w=.ok (.tuple #[.nilIface,.bool false]) w:=run_typeAssert_lacksB Tryz.underlying167 (by kernel_rfl) (by kernel_rfl) v xT w
theorem rlf_valueOfTP (e:Addr) (w:World):(ReflectliteValue.unpack (.iface 72 (.pointer (some e)))).run Tryz.prog w
    = .ok (.agg #[.pointer (some ⟨2,72,none⟩),.pointer (some ⟨w.heap.size,0,none⟩),.int .u64 150]) (w.alloc (.cells #[.pointer (some e)] 72)):=by kernel_rfl
theorem rlf_elemOf (w:World):(Rtype.elem? 74).run Tryz.prog w=.ok (some 72) w:=by kernel_rfl
theorem rlf_mk (p:Addr) (w:World):(ReflectliteValue.mk 72 p ReflectliteValue.flagAddr).run Tryz.prog w=.ok (.agg #[.pointer (some ⟨2,72,none⟩),.pointer (some p),.int .u64 406]) w:=by kernel_rfl
theorem rlf_elemV (a p:Addr) (W:World) (ha:W.cell? a=some (.pointer (some p))) :
    (ReflectliteValue.method (ReflectliteValue.valueError "reflectlite.Value.Elem" 0) ReflectliteValue.elem #[.agg #[.pointer (some ⟨2,74,none⟩),.pointer (some a),.int .u64 150]]).run Tryz.prog W
      = .ok (.agg #[.pointer (some ⟨2,72,none⟩),.pointer (some p),.int .u64 406]) W:=by
  rw [rlf_rlm];simp only [Sem.run_bind,rlf_partsTPP,Result.andThen];simp [ReflectliteValue.elem,loadVar,isAgg,underlying,Tryz.underlying74,ha,Result.andThen,rlf_elemOf,rlf_mk]
theorem rlf_rls (v x:Value):ReflectliteValue.set #[v,x]=(do
    let (some (dst,a,fl),some (src,b,_)):=(← ReflectliteValue.parts v,← ReflectliteValue.parts x)
      | unsupported (.noEntry "extern/(internal/reflectlite.Value).Set.zeroValue")
    if fl / ReflectliteValue.flagAddr % 2 == 0 then unsupported (.noEntry "extern/(internal/reflectlite.Value).Set.unaddressable")
    let val ← loadVar src b
    if ← Rtype.directlyAssignable dst src then storeVar dst a val
    else if ← Rtype.implements dst src then
      if (← Rtype.kind src) == 20 then
        match val with
        | .nilIface=>unsupported (.noEntry "extern/reflectlite: a nil value of one interface type handed on as a value of another")
        | _=>storeVar dst a val
      else storeVar dst a (.iface src val)
    else panicString ("reflectlite.Set: value of type "++(← Rtype.spelt src)++" is not assignable to type "++(← Rtype.spelt dst))
    pure (.tuple #[])):=rfl
theorem rlf_partsTPa (a:Addr) (w:World):(ReflectliteValue.parts (.agg #[.pointer (some ⟨2,72,none⟩),.pointer (some a),.int .u64 406])).run Tryz.prog w=.ok (some (72,a,406)) w:=by kernel_rfl
theorem rlf_partsTP (a:Addr) (w:World):(ReflectliteValue.parts (.agg #[.pointer (some ⟨2,72,none⟩),.pointer (some a),.int .u64 150])).run Tryz.prog w=.ok (some (72,a,150)) w:=by kernel_rfl
theorem rlf_direct (w:World):(Rtype.directlyAssignable 72 72).run Tryz.prog w=.ok true w:=by kernel_rfl
theorem rlf_set (ta b e:Addr) (old:Value) (W:World) (hb:W.cell? b=some (.pointer (some e))) (ht:W.cell? ta=some old) (hf:W.frozen? ta=false) :
    (ReflectliteValue.set #[.agg #[.pointer (some ⟨2,72,none⟩),.pointer (some ta),.int .u64 406],.agg #[.pointer (some ⟨2,72,none⟩),.pointer (some b),.int .u64 150]]).run Tryz.prog W
      = .ok (.tuple #[]) (W.setCell ta (.pointer (some e))):=by
  rw [rlf_rls];simp only [Sem.run_bind,rlf_partsTPa,rlf_partsTP,Result.andThen];simp [ReflectliteValue.flagAddr,loadVar,isAgg,underlying,Tryz.underlying72,hb,Result.andThen,rlf_direct,storeVar,Value.cells,storeCells,Addr.add];rw [run_store Tryz.prog W ta _ _ (by rfl)];simp [ht,hf]
set_option maxRecDepth 100000 in
set_option maxHeartbeats 4000000 in
theorem as_spot (e t:Addr) (old:Value) (w:World) (hg:w.cell? ⟨0,0,none⟩=some (.iface 157 (.agg #[.pointer (some ⟨2,32,none⟩)]))) (ht0:w.cell? t=some old) (hf0:w.frozen? t=false) :
    Calls Tryz.prog 29 #[.iface 72 (.pointer (some e)),.iface 74 (.pointer (some t))] w fun ev w'=>ev=.returned (.bool true)∧w'=((((w.alloc (.cells #[.pointer (some t)] 74)).alloc (.cells #[.pointer (some ⟨2,74,none⟩),.pointer (some ⟨w.heap.size,0,none⟩),.int .u64 150] 116)).alloc (.cells #[.pointer (some ⟨2,74,none⟩),.pointer (some ⟨w.heap.size,0,none⟩),.int .u64 150] 116)).alloc (.cells #[.pointer (some e)] 72)).setCell t (.pointer (some e)):=by
  have h6:=@run_callFunc_extern Tryz.prog 65 _ (fun args=>ReflectliteValue.unpack (args.getD 0 (.tuple #[]))) Tryz.func65 (by kernel_rfl) (by kernel_rfl) (by kernel_rfl) (by kernel_rfl);have h7:=@run_callFunc_extern Tryz.prog 66 _ (ReflectliteValue.methodAny (ReflectliteValue.valueError "reflectlite.Value.Type" 0) (fun t _ _ _=>ReflectliteType.toType t)) Tryz.func66 (by kernel_rfl) (by kernel_rfl) (by kernel_rfl) (by kernel_rfl);have h8:=@run_callFunc_extern Tryz.prog 67 _ (ReflectliteValue.method (ReflectliteValue.valueError "reflectlite.Value.IsNil" 0) ReflectliteValue.isNil) Tryz.func67 (by kernel_rfl) (by kernel_rfl) (by kernel_rfl) (by kernel_rfl);have h27:=@run_callFunc_extern Tryz.prog 168 _ (ReflectliteType.abiMethod fun t=>do pure (.int .u8 (← Rtype.kind t))) Tryz.func168 (by kernel_rfl) (by kernel_rfl) (by kernel_rfl) (by kernel_rfl);have h37:=@run_callFunc_extern Tryz.prog 180 _ (ReflectliteType.method ReflectliteType.elem) Tryz.func180 (by kernel_rfl) (by kernel_rfl) (by kernel_rfl) (by kernel_rfl);have h38:=@run_callFunc_extern Tryz.prog 181 _ (ReflectliteType.relation "Implements" ReflectliteType.implements_) Tryz.func181 (by kernel_rfl) (by kernel_rfl) (by kernel_rfl) (by kernel_rfl);have h10:=@run_callFunc_extern Tryz.prog 103 _ ReflectliteType.typeOf Tryz.func103 (by kernel_rfl) (by kernel_rfl) (by kernel_rfl) (by kernel_rfl);have h35:=@run_callFunc_extern Tryz.prog 178 _ (ReflectliteType.relation "AssignableTo" ReflectliteType.assignableTo) Tryz.func178 (by kernel_rfl) (by kernel_rfl) (by kernel_rfl) (by kernel_rfl);have h11:=@run_callFunc_extern Tryz.prog 104 _ (ReflectliteValue.method (ReflectliteValue.valueError "reflectlite.Value.Elem" 0) ReflectliteValue.elem) Tryz.func104 (by kernel_rfl) (by kernel_rfl) (by kernel_rfl) (by kernel_rfl)
  have h12:=@run_callFunc_extern Tryz.prog 105 _ ReflectliteValue.set Tryz.func105 (by kernel_rfl) (by kernel_rfl) (by kernel_rfl) (by kernel_rfl);have tO:=rlf_typeOfTP;have mA:=rlf_methodAssignableTo;have a25:=rlf_assignableTP;have v25:=rlf_valueOfTP;have f6:=rlf_valueOfTPP;have f7:=rlf_typeTPP;have mK:=rlf_methodKind;have mE:=rlf_methodElem
  have mI:=rlf_methodImplements;have k27:=rlf_kindTPP;have k25:=rlf_kindTP;have e27:=rlf_elemTPP;have i25:=rlf_implementsTP;have n8:=rlf_isNil ⟨w.heap.size,0,none⟩ t ((w.alloc (.cells #[.pointer (some t)] 74)).alloc (.cells #[.pointer (some ⟨2,74,none⟩),.pointer (some ⟨w.heap.size,0,none⟩),.int .u64 150] 116)) (by simp);have hlt:0<w.heap.size:=by
    rcases Nat.lt_or_ge 0 w.heap.size with h | h
    · exact h
    · simp [World.cell?,Array.getElem?_eq_none h] at hg
  have hg2:((w.alloc (.cells #[.pointer (some t)] 74)).alloc (.cells #[.pointer (some ⟨2,74,none⟩),.pointer (some ⟨w.heap.size,0,none⟩),.int .u64 150] 116)).cell? ⟨0,0,none⟩=some (.iface 157 (.agg #[.pointer (some ⟨2,32,none⟩)])):=by
    rw [World.cell?_alloc_lt _ _ ⟨0,0,none⟩ (by simp;try omega),World.cell?_alloc_lt _ _ ⟨0,0,none⟩ hlt];exact hg
  have htl:t.block<w.heap.size:=by
    rcases Nat.lt_or_ge t.block w.heap.size with h | h
    · exact h
    · simp [World.cell?,Array.getElem?_eq_none h] at ht0
  (have el:=rlf_elemV ⟨w.heap.size,0,none⟩ t (((w.alloc (.cells #[.pointer (some t)] 74)).alloc (.cells #[.pointer (some ⟨2,74,none⟩),.pointer (some ⟨w.heap.size,0,none⟩),.int .u64 150] 116)).alloc (.cells #[.pointer (some ⟨2,74,none⟩),.pointer (some ⟨w.heap.size,0,none⟩),.int .u64 150] 116)) (by rw [World.cell?_alloc_lt _ _ ⟨w.heap.size,0,none⟩ (by simp;omega)];simp));have st:=rlf_set t ⟨w.heap.size+1+1+1,0,none⟩ e old ((((w.alloc (.cells #[.pointer (some t)] 74)).alloc (.cells #[.pointer (some ⟨2,74,none⟩),.pointer (some ⟨w.heap.size,0,none⟩),.int .u64 150] 116)).alloc (.cells #[.pointer (some ⟨2,74,none⟩),.pointer (some ⟨w.heap.size,0,none⟩),.int .u64 150] 116)).alloc (.cells #[.pointer (some e)] 72))
    (by rw [World.cell?_alloc_at _ _ _ _ (by simp)];rfl)
    (by rw [World.cell?_alloc_lt _ _ t (by simp;omega),World.cell?_alloc_lt _ _ t (by simp;omega),World.cell?_alloc_lt _ _ t (by simp;omega),World.cell?_alloc_lt _ _ t htl];exact ht0)
    (by rw [World.frozen?_alloc_old _ _ t (by simp;omega),World.frozen?_alloc_old _ _ t (by simp;omega),World.frozen?_alloc_old _ _ t (by simp;omega),World.frozen?_alloc_old _ _ t (Nat.ne_of_lt htl)];exact hf0)
  (go_enter Tryz.func29,Tryz.ntmps29);(go_wp2);refine wp_loop_rounds 1 ?_;rw [rounds_succ];(go_wp2);(go_ret);exact ⟨rfl,rfl⟩
set_option maxRecDepth 100000 in
set_option maxHeartbeats 4000000 in
theorem as_code (c:Int) (t:Addr) (old:Value) (w:World) (hg:w.cell? ⟨0,0,none⟩=some (.iface 157 (.agg #[.pointer (some ⟨2,32,none⟩)]))) (ht0:w.cell? t=some old) :
    Calls Tryz.prog 29 #[.iface 39 (.int .i64 c),.iface 74 (.pointer (some t))] w fun ev w'=>ev=.returned (.bool false)∧w'=(((w.alloc (.cells #[.pointer (some t)] 74)).alloc (.cells #[.pointer (some ⟨2,74,none⟩),.pointer (some ⟨w.heap.size,0,none⟩),.int .u64 150] 116)).alloc (.cells #[.pointer (some ⟨2,74,none⟩),.pointer (some ⟨w.heap.size,0,none⟩),.int .u64 150] 116)):=by
  have h6:=@run_callFunc_extern Tryz.prog 65 _ (fun args=>ReflectliteValue.unpack (args.getD 0 (.tuple #[]))) Tryz.func65 (by kernel_rfl) (by kernel_rfl) (by kernel_rfl) (by kernel_rfl);have h7:=@run_callFunc_extern Tryz.prog 66 _ (ReflectliteValue.methodAny (ReflectliteValue.valueError "reflectlite.Value.Type" 0) (fun t _ _ _=>ReflectliteType.toType t)) Tryz.func66 (by kernel_rfl) (by kernel_rfl) (by kernel_rfl) (by kernel_rfl);have h8:=@run_callFunc_extern Tryz.prog 67 _ (ReflectliteValue.method (ReflectliteValue.valueError "reflectlite.Value.IsNil" 0) ReflectliteValue.isNil) Tryz.func67 (by kernel_rfl) (by kernel_rfl) (by kernel_rfl) (by kernel_rfl);have h27:=@run_callFunc_extern Tryz.prog 168 _ (ReflectliteType.abiMethod fun t=>do pure (.int .u8 (← Rtype.kind t))) Tryz.func168 (by kernel_rfl) (by kernel_rfl) (by kernel_rfl) (by kernel_rfl);have h37:=@run_callFunc_extern Tryz.prog 180 _ (ReflectliteType.method ReflectliteType.elem) Tryz.func180 (by kernel_rfl) (by kernel_rfl) (by kernel_rfl) (by kernel_rfl);have h38:=@run_callFunc_extern Tryz.prog 181 _ (ReflectliteType.relation "Implements" ReflectliteType.implements_) Tryz.func181 (by kernel_rfl) (by kernel_rfl) (by kernel_rfl) (by kernel_rfl);have h10:=@run_callFunc_extern Tryz.prog 103 _ ReflectliteType.typeOf Tryz.func103 (by kernel_rfl) (by kernel_rfl) (by kernel_rfl) (by kernel_rfl);have h35:=@run_callFunc_extern Tryz.prog 178 _ (ReflectliteType.relation "AssignableTo" ReflectliteType.assignableTo) Tryz.func178 (by kernel_rfl) (by kernel_rfl) (by kernel_rfl) (by kernel_rfl);have h11:=@run_callFunc_extern Tryz.prog 104 _ (ReflectliteValue.method (ReflectliteValue.valueError "reflectlite.Value.Elem" 0) ReflectliteValue.elem) Tryz.func104 (by kernel_rfl) (by kernel_rfl) (by kernel_rfl) (by kernel_rfl)
  have h12:=@run_callFunc_extern Tryz.prog 105 _ ReflectliteValue.set Tryz.func105 (by kernel_rfl) (by kernel_rfl) (by kernel_rfl) (by kernel_rfl);have tO:=rlf_typeOfCode;have mA:=rlf_methodAssignableTo;have a25:=rlf_assignableCode;have f6:=rlf_valueOfTPP;have f7:=rlf_typeTPP;have mK:=rlf_methodKind;have mE:=rlf_methodElem;have mI:=rlf_methodImplements
  have k27:=rlf_kindTPP;have k25:=rlf_kindTP;have e27:=rlf_elemTPP;have i25:=rlf_implementsTP;have n8:=rlf_isNil ⟨w.heap.size,0,none⟩ t ((w.alloc (.cells #[.pointer (some t)] 74)).alloc (.cells #[.pointer (some ⟨2,74,none⟩),.pointer (some ⟨w.heap.size,0,none⟩),.int .u64 150] 116)) (by simp);have hlt:0<w.heap.size:=by
    rcases Nat.lt_or_ge 0 w.heap.size with h | h
    · exact h
    · simp [World.cell?,Array.getElem?_eq_none h] at hg
  have hg2:((w.alloc (.cells #[.pointer (some t)] 74)).alloc (.cells #[.pointer (some ⟨2,74,none⟩),.pointer (some ⟨w.heap.size,0,none⟩),.int .u64 150] 116)).cell? ⟨0,0,none⟩=some (.iface 157 (.agg #[.pointer (some ⟨2,32,none⟩)])):=by
    rw [World.cell?_alloc_lt _ _ ⟨0,0,none⟩ (by simp;try omega),World.cell?_alloc_lt _ _ ⟨0,0,none⟩ hlt];exact hg
  have c1:=asrt_codeAs;have c2:=asrt_codeUnwrap;have c3:=asrt_codeUnwraps;(go_enter Tryz.func29,Tryz.ntmps29);(go_wp2);refine wp_loop_rounds 1 ?_;rw [rounds_succ];(go_wp2);go_ret
  exact ⟨rfl,rfl⟩
end Go.Proofs.YtfoggldjjnabcaaGreatDoor

namespace Go.Proofs.YtfoggldjjnabcaaGreatDoor
open Go.ChangeShapes Go.WideShapes Go.RowKit Go.Deep
set_option linter.unusedVariables false
def okE (x:Int):Prop:=x=0∨(3≤x∧x≤6)
theorem firstE_in {l:List Int} (h:∀ x∈l,okE x):okE (qL l):=by
  induction l with
  | nil=>exact .inl rfl
  | cons x r ih =>
    simp only [qL]
    split
    · exact ih (fun y hy=>h y (List.mem_cons_of_mem _ hy))
    · exact h x (List.mem_cons_self ..)
theorem qh {c:Prop} [Decidable c] {a b:Int} (ha:okE a) (hb:okE b):okE (if c then a else b):=by split;exact ha;exact hb
theorem okE_0:okE 0:=.inl rfl
theorem okE_3:okE 3:=.inr ⟨by decide,by decide⟩
theorem okE_4:okE 4:=.inr ⟨by decide,by decide⟩
theorem okE_5:okE 5:=.inr ⟨by decide,by decide⟩
theorem okE_6:okE 6:=.inr ⟨by decide,by decide⟩
theorem restE_in (f:FunD) (x:InsD) (ts:List Int) (d:Int) (b:Bool):okE (restE f x ts d b):=by
  unfold restE;exact qh (qh okE_0 okE_3) okE_4
theorem insE_in (m:List FunD) (f:FunD) (x:InsD):okE (insE m f x):=by
  unfold insE;refine qh (qh (qh (restE_in _ _ _ _ _) okE_6) okE_4) ?_
  split
  · exact okE_6
  · exact qh (restE_in _ _ _ _ _) okE_6
theorem phiE_in' (f:FunD) (p:PhiD):okE (phiE f p):=by unfold phiE;exact qh (qh okE_0 okE_3) okE_4
theorem termE_in (f:FunD) (t:TermD):okE (termE f t):=by unfold termE;exact qh (qh okE_0 okE_3) (qh (qh okE_0 okE_3) okE_4)
theorem blockE_in (m:List FunD) (f:FunD) (b:BlkD):okE (qS m f b):=by
  (have h1:okE (qL (b.phis.map (phiE f))):=firstE_in fun x hx=>by obtain ⟨p,_,rfl⟩:=List.mem_map.1 hx;exact phiE_in' f p);(have h2:okE (qL (b.ins.map (insE m f))):=firstE_in fun x hx=>by obtain ⟨p,_,rfl⟩:=List.mem_map.1 hx;exact insE_in m f p);unfold qS;exact qh (qh (termE_in _ _) h2) h1
theorem funE_in (m:List FunD) (f:FunD):okE (funE m f):=by
  unfold funE
  split
  · exact firstE_in fun x hx=>by obtain ⟨p,_,rfl⟩:=List.mem_map.1 hx;exact blockE_in m f p
  · unfold qU;exact qh (qh (qh okE_0 okE_6) okE_3) okE_5
theorem modK_in (m:List FunD):∀ (l:List FunD) (i:Nat),okE (modK m l i).1
  | [],_=>.inl rfl
  | f::l,i=>by
    simp only [modK]
    split
    · exact modK_in m l (i+1)
    · exact funE_in m f
theorem modE_in (m:List FunD):okE (modE m).1:=by
  unfold modE
  split
  · exact okE_5
  · exact modK_in m m 0
set_option maxRecDepth 100000 in
set_option maxHeartbeats 2000000 in
theorem code_any (c:Int) (w:World) (hc:1≤c∧c≤8):Calls Tryz.prog 30 #[.iface 39 (.int .i64 c)] w fun e w'=>e=.returned (.int .i64 c)∧∃ n,w'=w.drewN n:=by
  obtain ⟨h1,h8⟩:=hc;(go_enter Tryz.func30,Tryz.ntmps30);go_wp2_with fail
  go_loopw [3] (fun i wr=>∃ k n:Nat,1≤k∧(k:Int)≤c∧i=.int .i64 k∧wr=w.drewN n) (fun i _=>9 - (intOf i).toNat)
  case atStart=>exact ⟨1,0,by omega,by omega,rfl,rfl⟩
  case round =>
    obtain ⟨k,n,hk1,hkc,rfl,rfl⟩:=hrel;(have hk8:(k:Int)≤8:=by omega);have he:=eqlErr c k (w.drewN n)
    by_cases h:c=k
    · subst h;rw [show (((k:Nat):Int) == (k:Int))=true by simp] at he;(go_wp2_with fail);(go_ret);exact ⟨rfl,_,rfl⟩
    · rw [show (c == (k:Int))=false by simpa using h] at he;go_wp2_with fail
      go_roundw
      case rel=>exact ⟨k+1,n,by omega,by omega,by go_num,rfl⟩
      case measure=>simp [intOf];omega
def HoldsE (w:World):Prop:=w.cell? ⟨0,0,none⟩=some (.iface 157 (.agg #[.pointer (some ⟨2,32,none⟩)]))
set_option maxRecDepth 100000 in
set_option maxHeartbeats 4000000 in
theorem of_any (v:Value) (p:Int × Int) (w:World) (he:ErrAt w v p) (hp:1≤p.1∧p.1≤8) (hg:HoldsE w):Calls Tryz.prog 11 #[v] w fun e w'=>e=.returned (.tuple #[.int .i64 p.1,.int .i64 p.2])∧Below w.heap.size w w':=by
  have h0:0<w.heap.size:=block_lt_of_cell hg;obtain ⟨p1,p2⟩:=p;obtain ⟨w1,hw1,hs1,hk1,hb1,hc1,-⟩:=named w #[.pointer none] 72;have t0:w1.cell? ⟨w.heap.size,0,none⟩=some (.pointer none):=hc1 0 _ rfl;(have tb:w1.heap[w.heap.size]?=some (.cells #[.pointer none] 72 (0,0)):=by rw [hw1];exact heap_alloc_new _ _);have tf:=qV tb 0;have g1:w1.cell? ⟨0,0,none⟩=_:=hk1 _ _ hg;rcases he with h | ⟨hne,hat,rfl⟩ | ⟨hne,hat,g,rfl,hg0,hg1⟩
  · have:p1=0:=h.1;have:(1:Int)≤p1:=hp.1;omega
  · have hat:p2=-1:=hat;subst hat;have HAS:=Lib.hid (as_code p1 ⟨w.heap.size,0,none⟩ _ w1 g1 t0);have HC:=Lib.hid (fun w=>code_any p1 w hp);have HB1:=Lib.hid hb1;clear hk1 hb1 hc1 tb tf g1 t0 hne;(go_enter Tryz.func11,Tryz.ntmps11);(go_wp2_with fail);rw [← hw1]
    refine HAS.out.mono ?_;rintro e w2 ⟨rfl,hw2⟩
    have HB2:Hid (Below w.heap.size w w2):=Lib.hid (by
      have hs:=HB1.out.size;rw [hw2]
      exact ((HB1.out.alloc hs _).alloc (by simp;omega) _).alloc (by simp;omega) _)
    clear hw1 hw2 hs1;(go_wp2_with fail);refine (HC.out _).mono ?_;rintro e w3 ⟨rfl,n3,rfl⟩;(go_wp2_with fail);(go_ret2);exact ⟨rfl,below_drewN HB2.out n3⟩
  · have hg0':=hk1 _ _ hg0;have hg1':=hk1 _ _ hg1;have hgl:g<w.heap.size:=block_lt_of_cell hg0;have HAS:=Lib.hid (as_spot ⟨g,0,none⟩ ⟨w.heap.size,0,none⟩ _ w1 g1 t0 tf);have HCODE:=Lib.hid (fun w=>code_any p1 w hp);have HB1:=Lib.hid hb1;have HTB:=Lib.hid tb;clear hk1 hb1 hc1 tb tf g1 t0 hne;go_enter Tryz.func11,Tryz.ntmps11
    (go_wp2_with fail);rw [← hw1];refine HAS.out.mono ?_;rintro e w2 ⟨rfl,hw2⟩;obtain ⟨T,hT⟩:∃ T,T=w.heap.size:=⟨_,rfl⟩;rw [← hT] at hw2 ⊢;have hBA:Below w1.heap.size w1 ((((w1.alloc (.cells #[.pointer (some ⟨T,0,none⟩)] 74)).alloc (.cells #[.pointer (some ⟨2,74,none⟩),.pointer (some ⟨w1.heap.size,0,none⟩),.int .u64 150] 116)).alloc (.cells #[.pointer (some ⟨2,74,none⟩),.pointer (some ⟨w1.heap.size,0,none⟩),.int .u64 150] 116)).alloc (.cells #[.pointer (some ⟨g,0,none⟩)] 72)) :=
      ((((Below.refl _ _).alloc (Nat.le_refl _) _).alloc (by simp) _).alloc (by simp;omega) _).alloc (by simp;omega) _
    have x0:w2.cell? ⟨T,0,none⟩=some (.pointer (some ⟨g,0,none⟩)):=by
      rw [hw2];exact q7 (qF (i:=0) (.pointer (some ⟨g,0,none⟩)) ((hBA.block T (by omega)).trans (by rw [hT];exact HTB.out))) 0
    have x1:w2.cell? ⟨g,0,none⟩=some (.int .i64 p2):=by
      rw [hw2];exact (World.cell?_of_block (a:=⟨g,0,none⟩) ((Below.heap_setCell _ _ _ _ (by show g≠T;omega)).trans (hBA.block g (by omega)))).trans hg0'
    have x2:w2.cell? ⟨g,1,none⟩=some (.iface 39 (.int .i64 p1)):=by
      rw [hw2];exact (World.cell?_of_block (a:=⟨g,1,none⟩) ((Below.heap_setCell _ _ _ _ (by show g≠T;omega)).trans (hBA.block g (by omega)))).trans hg1'
    have HB2:Hid (Below w.heap.size w w2):=Lib.hid (by
      rw [hw2]
      exact (HB1.out.trans (hBA.mono HB1.out.size)).setCell (by show _≤T;omega) _)
    have HBF:Hid (∀ w',Below w2.heap.size w2 w'→Below w.heap.size w w'):=Lib.hid (fun w' h=>HB2.out.trans (h.mono HB2.out.size));clear hw1 hw2 hs1 hBA hg0' hg1' hg0 hg1 hT hgl;(go_upto_region 5 with fail);have hS:∀ w':World,Below w2.heap.size w2 w'→w'.cell? ⟨T,0,none⟩=some (.pointer (some ⟨g,0,none⟩))∧w'.cell? ⟨g,0,none⟩=some (.int .i64 p2)∧w'.cell? ⟨g,1,none⟩=some (.iface 39 (.int .i64 p1)):=fun w' h=>⟨q6 h _ _ x0,q6 h _ _ x1,q6 h _ _ x2⟩;have hB0:Below w2.heap.size w2 w2.drew:=(Below.refl w2.heap.size w2).drew;have hS0:=hS _ hB0;clear x0 x1 x2;refine wp_region_held_drew (S:=fun w'=>w'.cell? ⟨T,0,none⟩=some (.pointer (some ⟨g,0,none⟩))∧w'.cell? ⟨g,0,none⟩=some (.int .i64 p2)∧w'.cell? ⟨g,1,none⟩=some (.iface 39 (.int .i64 p1))) (by kernel_rfl) hS0 (fun hHeld=>?_);clear hHeld
    refine tk 0 17 hS0 ?_;simp only [Act.put,aS,List.set_cons_zero,List.set_cons_succ];refine tk 1 18 hS0 ?_;simp only [Act.put,aS,List.set_cons_zero,List.set_cons_succ];refine tk 2 19 hS0 ?_;simp only [Act.put,aS,List.set_cons_zero,List.set_cons_succ];refine tk 3 20 hS0 ?_;simp only [Act.put,aS,List.set_cons_zero,List.set_cons_succ];refine tk 5 22 hS0 ?_
    simp only [Act.put,aS,List.set_cons_zero,List.set_cons_succ];refine tk 6 23 hS0 ?_;simp only [Act.put,aS,List.set_cons_zero,List.set_cons_succ];refine tk 7 24 hS0 ?_;simp only [Act.put,aS,List.set_cons_zero,List.set_cons_succ];refine tk 8 25 hS0 ?_;simp only [Act.put,aS,List.set_cons_zero,List.set_cons_succ];refine oneH (i:=4) (by kernel_rfl) (fun o ho K hK=>?_);simp only [List.getElem?_toArray,List.getElem?_cons_zero,List.getElem?_cons_succ,Option.some.injEq] at ho;subst ho
    (go_simp);refine (HCODE.out _).mono ?_;rintro e w6 ⟨rfl,n6,rfl⟩;have hS1:=hS _ (below_drewN hB0 n6);(go_wp2_with fail);refine hK.out _ _ hS1 ?_;clear hK K;(try simp only [Act.put,aS,List.set_cons_zero,List.set_cons_succ]);refine tk 9 2 hS1 ?_
    simp only [Act.put,aS,List.set_cons_zero,List.set_cons_succ];refine tk 10 3 hS1 ?_;simp only [Act.put,aS,List.set_cons_zero,List.set_cons_succ];refine wpAnyH_done (by kernel_rfl) ?_ _;(go_wp2_with fail);(go_ret2);exact ⟨rfl,HBF.out _ (below_drewN (Below.refl _ _) _)⟩
set_option maxRecDepth 100000 in
set_option maxHeartbeats 1000000 in
theorem code_nil (w:World):Calls Tryz.prog 30 #[.nilIface] w fun e w'=>e=.returned (.int .i64 0)∧w'=w:=by
  (go_enter Tryz.func30,Tryz.ntmps30);(go_wp2_with fail);(go_ret);exact ⟨rfl,rfl⟩
set_option maxRecDepth 100000 in
set_option maxHeartbeats 1000000 in
theorem of_nil (w:World):Calls Tryz.prog 11 #[.nilIface] w fun e w'=>e=.returned (.tuple #[.int .i64 0,.int .i64 (-1)])∧Below w.heap.size w w':=by
  obtain ⟨w1,hw1,hs1,hk1,hb1,hc1,-⟩:=named w #[.pointer none] 72;have HAS:=Lib.hid (as_nil (.iface 74 (.pointer (some ⟨w.heap.size,0,none⟩))) w1);have HC:=Lib.hid (code_nil w1);have HB1:=Lib.hid hb1;clear hk1 hb1 hc1;(go_enter Tryz.func11,Tryz.ntmps11);(go_wp2_with fail);rw [← hw1];refine HAS.out.mono ?_
  rintro e w2 ⟨rfl,hw2⟩;obtain rfl:w1=w2:=hw2.symm;clear hw1 hs1;(go_wp2_with fail);refine HC.out.mono ?_;rintro e w3 ⟨rfl,hw3⟩;obtain rfl:w1=w3:=hw3.symm;(go_wp2_with fail);go_ret2
  exact ⟨rfl,HB1.out⟩
set_option linter.unusedSimpArgs false
theorem HoldsE.keep {w w':World} (h:HoldsE w) (hk:Kept w w'):HoldsE w':=hk _ _ h
theorem of_all (v:Value) (p:Int × Int) (w:World) (he:ErrAt w v p) (hp:p=(0,-1)∨1≤p.1∧p.1≤8) (hg:HoldsE w):Calls Tryz.prog 11 #[v] w fun e w'=>e=.returned (.tuple #[.int .i64 p.1,.int .i64 p.2])∧Below w.heap.size w w':=by
  rcases hp with rfl | hp
  · obtain rfl:=he.nil rfl;exact of_nil w
  · exact of_any v p w he hp hg
theorem formE_in (f:FunD):formE f=(0,-1)∨1≤(formE f).1∧(formE f).1≤8:=by
  unfold formE
  split
  · exact .inr ⟨by show (1:Int)≤6;omega,by show (6:Int)≤8;omega⟩
  · split
    · exact .inr ⟨by show (1:Int)≤7;omega,by show (7:Int)≤8;omega⟩
    · split
      · exact .inr ⟨by show (1:Int)≤4;omega,by show (4:Int)≤8;omega⟩
      · exact .inl rfl
theorem formAt_in (m:List FunD) (a:Int):qe m a=(0,-1)∨1≤(qe m a).1∧(qe m a).1≤8:=by
  unfold qe
  split
  · rename_i h;rcases modE_in m with h1 | h1
    · exact absurd h1 h
    · exact .inr ⟨by omega,by omega⟩
  · split
    · exact formE_in _
    · exact .inr ⟨by show (1:Int)≤1;omega,by show (1:Int)≤8;omega⟩
def Says (p:Prop) (B:Nat) (w:World) (e:Ending) (w':World):Prop:=(∃ b:Bool,e=.returned (.bool b)∧(b=true→p))∧Below B w w'
theorem Says.no {p:Prop} {B:Nat} {w w':World} (h:Below B w w'):Says p B w (.returned (.bool false)) w':=⟨⟨false,rfl,fun h=>by cases h⟩,h⟩
set_option maxRecDepth 100000 in
set_option maxHeartbeats 4000000 in
theorem small_any (m:List FunD) (v:Value) (w:World) (hv:VMod w v m) :
    Calls Tryz.prog 7 #[v] w (Says (SmallM m) w.heap.size w):=by
  obtain ⟨A,c,rfl,hm⟩:=hv;have hml:=hm.len
  by_cases h40:40<m.length
  · (go_enter Tryz.func7,Tryz.ntmps7);(go_wp2_with fail);(go_ret);exact Says.no ((Below.refl _ _).alloc (Nat.le_refl _) _)
  · (go_enter Tryz.func7,Tryz.ntmps7);(go_wp2_with fail);obtain ⟨w1,hw1,hs1,hk1,hbel1,hc1,-⟩:=named w #[.slice A m.length c] 24;have hc1:=hc1 0 _ rfl;(have hs1:w.heap.size<w1.heap.size:=by omega);rw [← hw1];clear hw1
    go_loopw [3] (fun i wr=>∃ k:Nat,k≤m.length∧i=.int .i64 k∧Below w1.heap.size w1 wr∧Upto SmallF m k) (fun i _=>m.length - (intOf i).toNat)
    case atStart=>exact ⟨0,Nat.zero_le _,rfl,Below.refl _ _,Upto.zero⟩
    case round =>
      obtain ⟨k,hk,rfl,hbel,hup⟩:=hrel;obtain ⟨wo,rfl⟩:∃ wo,wo=wr:=⟨wr,rfl⟩;have hs:=hbel.size;have hkw:Kept w1 wo:=q6 hbel;have hbox:=hkw _ _ hc1;have hB:Below w.heap.size w wo:=hbel1.trans (hbel.mono (by omega))
      by_cases hlt:k<m.length
      · obtain ⟨b,o,f,rfl,hf,⟨hp,-⟩,⟨hr,-⟩,⟨Ar,cr,hreg,hregs⟩,⟨Ab,cb,hblk,hblks⟩⟩:=(SFuns.keep (hk1.trans hkw) hm).at_ hlt;have hrl:=hregs.len;have hbl:=hblks.len
        by_cases hok:f.blocks.length≤70∧f.regs.length≤300∧f.params≤1000
        · obtain ⟨ho1,ho2,ho3⟩:=hok;(go_wp2_with fail);clear hp hr hreg;obtain ⟨w2,hw2,hs2,hk2,hbel2,hc2,-⟩:=named wo #[.int .i64 f.params,.int .i64 f.result,.slice Ar f.regs.length cr,.slice Ab f.blocks.length cb] 30;have hc2:=hc2 3 _ rfl;(have hs2:wo.heap.size<w2.heap.size:=by omega);rw [← hw2];clear hw2 hblk
          go_loopw [5] (fun i wr=>∃ j:Nat,j≤f.blocks.length∧i=.int .i64 j∧Below w2.heap.size w2 wr∧Upto SmallB f.blocks j) (fun i _=>f.blocks.length - (intOf i).toNat)
          case atStart=>exact ⟨0,Nat.zero_le _,rfl,Below.refl _ _,Upto.zero⟩
          case round =>
            obtain ⟨j,hj,rfl,hbel',hup'⟩:=hrel;have hs':=hbel'.size;have hkw':Kept w2 wr:=q6 hbel';have hbox':=hkw' _ _ hc2;have hB':Below w.heap.size w wr:=hB.trans ((hbel2.mono (by omega)).trans (hbel'.mono (by omega)))
            by_cases hlt':j<f.blocks.length
            · obtain ⟨b',o',kb,rfl,hkb,⟨Ap,cp,hphi,hphis⟩,⟨Ai,ci,hins,hinss⟩,⟨hkd,-⟩,⟨har,-⟩,⟨At,ct,hto,htos⟩⟩:=(SBlks.keep (hk2.trans hkw') hblks).at_ hlt';have hpl:=hphis.len;have hil:=hinss.len;have htl:=htos.len
              by_cases hok':kb.ins.length≤300∧kb.phis.length≤300∧kb.term.to.length≤70
              · obtain ⟨hp1,hp2,hp3⟩:=hok';(go_wp2_with fail);clear hphi hkd har hto;obtain ⟨w3,hw3,hs3,hk3,hbel3,hc3,-⟩:=named wr #[.slice Ap kb.phis.length cp,.slice Ai kb.ins.length ci,.int .i64 kb.term.kind,.int .i64 kb.term.arg,.slice At kb.term.to.length ct] 51;have hc30:=hc3 0 _ rfl;have hc31:=hc3 1 _ rfl;(have hs3:wr.heap.size<w3.heap.size:=by omega);have hB3:Below w.heap.size w w3:=hB'.trans (hbel3.mono (by omega));rw [← hw3]
                clear hw3 hins hc3;have hinss3:=SInss.keep hk3 hinss;have hphis3:=SPhis.keep hk3 hphis;clear hinss hphis
                go_loopw [7] (fun i wi=>∃ n q:Nat,n≤kb.ins.length∧i=.int .i64 n∧wi=w3.drewN q∧Upto (fun x:InsD=>x.args.length≤300) kb.ins n) (fun i _=>kb.ins.length - (intOf i).toNat)
                case atStart=>exact ⟨0,0,Nat.zero_le _,rfl,rfl,Upto.zero⟩
                case round =>
                  obtain ⟨n,q,hn,rfl,rfl,hup3⟩:=hrel
                  by_cases hlt3:n<kb.ins.length
                  · obtain ⟨b3,o3,x,rfl,hx,-,-,⟨Aa,ca,hag,hags⟩,-,-⟩:=hinss3.at_ hlt3;have hal:=hags.len
                    by_cases hok3:x.args.length≤300
                    · go_wp2_with fail
                      go_roundw
                      case rel=>exact ⟨n+1,_,by omega,by go_num,rfl,hup3.succ hx.out hok3⟩
                      case measure=>simp [intOf];omega
                    · (go_wp2_with fail);(go_ret);exact Says.no (below_drewN hB3 _)
                  · (go_wp2_with fail);have hi3:=hup3.all (by omega);have HI3:=Lib.hid hi3;clear hi3 hup3
                    go_loopw [8] (fun i wi=>∃ n q:Nat,n≤kb.phis.length∧i=.int .i64 n∧wi=w3.drewN q∧Upto (fun x:PhiD=>x.args.length≤300) kb.phis n) (fun i _=>kb.phis.length - (intOf i).toNat)
                    case atStart=>exact ⟨0,q,Nat.zero_le _,rfl,rfl,Upto.zero⟩
                    case round =>
                      obtain ⟨n',q',hn',rfl,rfl,hup4⟩:=hrel
                      by_cases hlt4:n'<kb.phis.length
                      · obtain ⟨b4,o4,x,rfl,hx,-,⟨Aa,ca,hag,hags⟩⟩:=hphis3.at_ hlt4;have hal:=hags.len
                        by_cases hok3:x.args.length≤300
                        · go_wp2_with fail
                          go_roundw
                          case rel=>exact ⟨n'+1,_,by omega,by go_num,rfl,hup4.succ hx.out hok3⟩
                          case measure=>simp [intOf];omega
                        · (go_wp2_with fail);(go_ret);exact Says.no (below_drewN hB3 _)
                      · go_wp2_with fail
                        go_roundw
                        case rel=>exact ⟨j+1,by omega,by go_num,below_drewN ((hbel'.trans (hbel3.mono (by omega)))) _,hup'.succ hkb.out ⟨hp1,hp2,hp3,HI3.out,hup4.all (by omega)⟩⟩
                        case measure=>simp [intOf];omega
              · (have hno:300<kb.ins.length∨300<kb.phis.length∨70<kb.term.to.length:=by omega);clear hok'
                by_cases hq1:300<kb.ins.length
                · clear hno;(go_wp2_with fail);all_goals (go_ret;exact Says.no (hB'.alloc (by omega) _))
                · by_cases hq2:300<kb.phis.length
                  · clear hno;(go_wp2_with fail);all_goals (go_ret;exact Says.no (hB'.alloc (by omega) _))
                  · (have hq3:70<kb.term.to.length:=by omega);clear hno;(go_wp2_with fail);all_goals (go_ret;exact Says.no (hB'.alloc (by omega) _))
            · go_wp2_with fail
              go_roundw
              case rel=>exact ⟨k+1,by omega,by go_num,hbel.trans ((hbel2.mono (by omega)).trans (hbel'.mono (by omega))),hup.succ hf.out ⟨ho1,ho2,ho3,hup'.all (by omega)⟩⟩
              case measure=>simp [intOf];omega
        · (have hno:70<f.blocks.length∨300<f.regs.length∨1000<f.params:=by omega);clear hok
          by_cases hq1:70<f.blocks.length
          · clear hno;(go_wp2_with fail);all_goals (go_ret;exact Says.no (hB.alloc (by omega) _))
          · by_cases hq2:300<f.regs.length
            · clear hno;(go_wp2_with fail);all_goals (go_ret;exact Says.no (hB.alloc (by omega) _))
            · (have hq3:1000<f.params:=by omega);clear hno;(go_wp2_with fail);all_goals (go_ret;exact Says.no (hB.alloc (by omega) _))
      · (go_wp2_with fail);(go_ret);exact ⟨⟨true,rfl,fun _=>⟨by omega,hup.all (by omega)⟩⟩,hB⟩
end Go.Proofs.YtfoggldjjnabcaaGreatDoor
