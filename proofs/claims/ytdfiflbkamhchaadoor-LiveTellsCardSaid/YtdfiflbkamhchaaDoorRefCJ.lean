/- errors.As at a target of *api.Spot, and errors.Is at a Code: of a Spot, and of a Code itself. -/
import Derived.Test.YtdfiflbkamhchaaDoorChkDJ
import Derived.Test.YtdfiflbkamhchaaDoorEqEJ
import Derived.LaidEql
import Derived.Stop.Asserts
import Derived.RowKitTokens
import Derived.Test.YtdfiflbkamhchaaDoorGrNxJ
import Derived.Test.YtdfiflbkamhchaaDoorDmFrJ
import Derived.Test.YtdfiflbkamhchaaDoorLvTJ
import Derived.Deep.Cut
import Derived.Deep.RegionHeld
import Derived.Test.YtdfiflbkamhchaaDoorArMJ
namespace Go.Proofs.YtdfiflbkamhchaaDoor
open Go.ChangeShapes Go.WideShapes Go.RowKit Go.Deep Go.Extern.Stop Go.Stop Go.Extern
set_option linter.unusedVariables false

/-- errors.As(nil, target). -/
theorem as_nil (t : Value) (w : World) :
    Calls Tryd.prog 15 #[.nilIface, t] w fun e w' => e = .returned (.bool false) ∧ w' = w := by
  go_enter Tryd.func15, Tryd.ntmps15
  go_wp2
  go_ret
  exact ⟨rfl, rfl⟩

/-! ### Closed facts on the model's entries for internal/reflectlite -/
theorem rlf_valueOfTPP (t : Addr) (w : World) : (ReflectliteValue.unpack (.iface 67 (.pointer (some t)))).run Tryd.prog w
    = .ok (.agg #[.pointer (some ⟨1, 67, none⟩), .pointer (some ⟨w.heap.size, 0, none⟩), .int .u64 150]) (w.alloc (.cells #[.pointer (some t)] 67)) := by kernel_rfl
theorem rlf_typeTPP (a : Addr) (w : World) : (ReflectliteValue.methodAny (ReflectliteValue.valueError "reflectlite.Value.Type" 0) (fun t _ _ _ => ReflectliteType.toType t) #[.agg #[.pointer (some ⟨1, 67, none⟩), .pointer (some a), .int .u64 150]]).run Tryd.prog w
    = .ok (.iface 105 (.agg #[.pointer (some ⟨1, 67, none⟩)])) w := by kernel_rfl
theorem rlf_methodKind (h : Value) (w : World) : (Go.method 268 105 (.agg #[h]) "Kind").run Tryd.prog w = .ok (84, h) w := by kernel_rfl
theorem rlf_kindTPP (w : World) : ((ReflectliteType.abiMethod fun t => (fun a : Nat => Value.int IntKind.u8 (a : Int)) <$> Rtype.kind t) #[.pointer (some ⟨1, 67, none⟩)]).run Tryd.prog w = .ok (.int .u8 22) w := by kernel_rfl
theorem rlf_kindTP (w : World) : ((ReflectliteType.abiMethod fun t => (fun a : Nat => Value.int IntKind.u8 (a : Int)) <$> Rtype.kind t) #[.pointer (some ⟨1, 65, none⟩)]).run Tryd.prog w = .ok (.int .u8 22) w := by kernel_rfl
theorem rlf_rlm (z : Sem Value) (f : TypeId → Addr → Nat → Nat → Sem Value) (v : Value) :
    ReflectliteValue.method z f #[v] = (do match ← ReflectliteValue.parts v with | none => z | some (t, a, fl) => f t a fl (fl % 32)) := rfl
theorem rlf_partsTPP (a : Addr) (w : World) : (ReflectliteValue.parts (.agg #[.pointer (some ⟨1, 67, none⟩), .pointer (some a), .int .u64 150])).run Tryd.prog w = .ok (some (67, a, 150)) w := by kernel_rfl
theorem rlf_isNil (a p : Addr) (W : World) (ha : W.cell? a = some (.pointer (some p))) :
    (ReflectliteValue.method (ReflectliteValue.valueError "reflectlite.Value.IsNil" 0) ReflectliteValue.isNil #[.agg #[.pointer (some ⟨1, 67, none⟩), .pointer (some a), .int .u64 150]]).run Tryd.prog W = .ok (.bool false) W := by
  rw [rlf_rlm]
  simp only [Sem.run_bind, rlf_partsTPP, Result.andThen]
  simp [ReflectliteValue.isNil, loadVar, isAgg, underlying, Tryd.underlying67, ha, Result.andThen]
theorem rlf_methodElem (h : Value) (w : World) : (Go.method 268 105 (.agg #[h]) "Elem").run Tryd.prog w = .ok (96, .agg #[h]) w := by kernel_rfl
theorem rlf_methodImplements (h : Value) (w : World) : (Go.method 268 105 (.agg #[h]) "Implements").run Tryd.prog w = .ok (97, .agg #[h]) w := by kernel_rfl
theorem rlf_methodAssignableTo (h : Value) (w : World) : (Go.method 268 105 (.agg #[h]) "AssignableTo").run Tryd.prog w = .ok (94, .agg #[h]) w := by kernel_rfl
theorem rlf_methodComparable (h : Value) (w : World) : (Go.method 268 105 (.agg #[h]) "Comparable").run Tryd.prog w = .ok (95, .agg #[h]) w := by kernel_rfl
theorem rlf_elemTPP (w : World) : (ReflectliteType.method ReflectliteType.elem #[.agg #[.pointer (some ⟨1, 67, none⟩)]]).run Tryd.prog w = .ok (.iface 105 (.agg #[.pointer (some ⟨1, 65, none⟩)])) w := by kernel_rfl
theorem rlf_implementsTP (w : World) : (ReflectliteType.relation "Implements" ReflectliteType.implements_ #[.agg #[.pointer (some ⟨1, 65, none⟩)], .iface 105 (.agg #[.pointer (some ⟨1, 29, none⟩)])]).run Tryd.prog w = .ok (.bool true) w := by kernel_rfl
theorem rlf_typeOfTP (v : Value) (w : World) : (ReflectliteType.typeOf #[.iface 65 v]).run Tryd.prog w = .ok (.iface 105 (.agg #[.pointer (some ⟨1, 65, none⟩)])) w := by kernel_rfl
theorem rlf_typeOfCode (v : Value) (w : World) : (ReflectliteType.typeOf #[.iface 38 v]).run Tryd.prog w = .ok (.iface 105 (.agg #[.pointer (some ⟨1, 38, none⟩)])) w := by kernel_rfl
theorem rlf_assignableTP (w : World) : (ReflectliteType.relation "AssignableTo" ReflectliteType.assignableTo #[.agg #[.pointer (some ⟨1, 65, none⟩)], .iface 105 (.agg #[.pointer (some ⟨1, 65, none⟩)])]).run Tryd.prog w = .ok (.bool true) w := by kernel_rfl
theorem rlf_assignableCode (w : World) : (ReflectliteType.relation "AssignableTo" ReflectliteType.assignableTo #[.agg #[.pointer (some ⟨1, 38, none⟩)], .iface 105 (.agg #[.pointer (some ⟨1, 65, none⟩)])]).run Tryd.prog w = .ok (.bool false) w := by kernel_rfl
theorem rlf_comparableCode (w : World) : (ReflectliteType.method (fun t => do Rtype.noPackHeld "Comparable" t; (fun a : TypeInfo => Value.bool a.comparable) <$> typeInfo t) #[.agg #[.pointer (some ⟨1, 38, none⟩)]]).run Tryd.prog w = .ok (.bool true) w := by kernel_rfl
theorem asrt_codeAs (v : Value) (xT : TypeId) (w : World) : (Instr.typeAssert (.iface 38 v) xT 110 true).run Tryd.prog w = .ok (.tuple #[.nilIface, .bool false]) w := run_typeAssert_lacksB Tryd.underlying110 (by kernel_rfl) (by kernel_rfl) v xT w
theorem asrt_codeUnwrap (v : Value) (xT : TypeId) (w : World) : (Instr.typeAssert (.iface 38 v) xT 113 true).run Tryd.prog w = .ok (.tuple #[.nilIface, .bool false]) w := run_typeAssert_lacksB Tryd.underlying113 (by kernel_rfl) (by kernel_rfl) v xT w
theorem asrt_codeUnwraps (v : Value) (xT : TypeId) (w : World) : (Instr.typeAssert (.iface 38 v) xT 115 true).run Tryd.prog w = .ok (.tuple #[.nilIface, .bool false]) w := run_typeAssert_lacksB Tryd.underlying115 (by kernel_rfl) (by kernel_rfl) v xT w
theorem asrt_spotUnwrap (v : Value) (xT : TypeId) (w : World) : (Instr.typeAssert (.iface 65 v) xT 113 true).run Tryd.prog w = .ok (.tuple #[.iface 65 v, .bool true]) w := run_typeAssert_hasB Tryd.underlying113 (by kernel_rfl) v xT w
theorem rlf_methodUnwrap (a : Addr) (w : World) : (Go.method 268 65 (.pointer (some a)) "Unwrap").run Tryd.prog w = .ok (89, .pointer (some a)) w := by kernel_rfl
theorem unwrap_any (g : Nat) (c : Int) (w : World) (hs : w.cell? ⟨g, 1, none⟩ = some (.iface 38 (.int .i64 c))) :
    Calls Tryd.prog 89 #[.pointer (some ⟨g, 0, none⟩)] w fun e w' => e = .returned (.iface 38 (.int .i64 c)) ∧ w' = w := by
  go_enter Tryd.func89, Tryd.ntmps89
  go_wp2
  go_ret
  exact ⟨rfl, rfl⟩
theorem rlf_valueOfTP (e : Addr) (w : World) : (ReflectliteValue.unpack (.iface 65 (.pointer (some e)))).run Tryd.prog w
    = .ok (.agg #[.pointer (some ⟨1, 65, none⟩), .pointer (some ⟨w.heap.size, 0, none⟩), .int .u64 150]) (w.alloc (.cells #[.pointer (some e)] 65)) := by kernel_rfl
theorem rlf_elemOf (w : World) : (Rtype.elem? 67).run Tryd.prog w = .ok (some 65) w := by kernel_rfl
theorem rlf_mk (p : Addr) (w : World) : (ReflectliteValue.mk 65 p ReflectliteValue.flagAddr).run Tryd.prog w = .ok (.agg #[.pointer (some ⟨1, 65, none⟩), .pointer (some p), .int .u64 406]) w := by kernel_rfl
theorem rlf_elemV (a p : Addr) (W : World) (ha : W.cell? a = some (.pointer (some p))) :
    (ReflectliteValue.method (ReflectliteValue.valueError "reflectlite.Value.Elem" 0) ReflectliteValue.elem #[.agg #[.pointer (some ⟨1, 67, none⟩), .pointer (some a), .int .u64 150]]).run Tryd.prog W
      = .ok (.agg #[.pointer (some ⟨1, 65, none⟩), .pointer (some p), .int .u64 406]) W := by
  rw [rlf_rlm]
  simp only [Sem.run_bind, rlf_partsTPP, Result.andThen]
  simp [ReflectliteValue.elem, loadVar, isAgg, underlying, Tryd.underlying67, ha, Result.andThen, rlf_elemOf, rlf_mk]
theorem rlf_rls (v x : Value) : ReflectliteValue.set #[v, x] = (do
    let (some (dst, a, fl), some (src, b, _)) := (← ReflectliteValue.parts v, ← ReflectliteValue.parts x)
      | unsupported (.noEntry "extern/(internal/reflectlite.Value).Set.zeroValue")
    if fl / ReflectliteValue.flagAddr % 2 == 0 then unsupported (.noEntry "extern/(internal/reflectlite.Value).Set.unaddressable")
    let val ← loadVar src b
    if ← Rtype.directlyAssignable dst src then storeVar dst a val
    else if ← Rtype.implements dst src then
      if (← Rtype.kind src) == 20 then
        match val with
        | .nilIface => unsupported (.noEntry "extern/reflectlite: a nil value of one interface type handed on as a value of another")
        | _ => storeVar dst a val
      else storeVar dst a (.iface src val)
    else panicString ("reflectlite.Set: value of type " ++ (← Rtype.spelt src) ++ " is not assignable to type " ++ (← Rtype.spelt dst))
    pure (.tuple #[])) := rfl
theorem rlf_partsTPa (a : Addr) (w : World) : (ReflectliteValue.parts (.agg #[.pointer (some ⟨1, 65, none⟩), .pointer (some a), .int .u64 406])).run Tryd.prog w = .ok (some (65, a, 406)) w := by kernel_rfl
theorem rlf_partsTP (a : Addr) (w : World) : (ReflectliteValue.parts (.agg #[.pointer (some ⟨1, 65, none⟩), .pointer (some a), .int .u64 150])).run Tryd.prog w = .ok (some (65, a, 150)) w := by kernel_rfl
theorem rlf_direct (w : World) : (Rtype.directlyAssignable 65 65).run Tryd.prog w = .ok true w := by kernel_rfl
theorem rlf_set (ta b e : Addr) (old : Value) (W : World) (hb : W.cell? b = some (.pointer (some e))) (ht : W.cell? ta = some old) (hf : W.frozen? ta = false) :
    (ReflectliteValue.set #[.agg #[.pointer (some ⟨1, 65, none⟩), .pointer (some ta), .int .u64 406], .agg #[.pointer (some ⟨1, 65, none⟩), .pointer (some b), .int .u64 150]]).run Tryd.prog W
      = .ok (.tuple #[]) (W.setCell ta (.pointer (some e))) := by
  rw [rlf_rls]
  simp only [Sem.run_bind, rlf_partsTPa, rlf_partsTP, Result.andThen]
  simp [ReflectliteValue.flagAddr, loadVar, isAgg, underlying, Tryd.underlying65, hb, Result.andThen, rlf_direct, storeVar, Value.cells, storeCells, Addr.add]
  rw [run_store Tryd.prog W ta _ _ (by rfl)]
  simp [ht, hf]


set_option maxRecDepth 100000 in
set_option maxHeartbeats 4000000 in
/-- errors.As at a Spot: the target holds it. -/
theorem as_spot (e t : Addr) (old : Value) (w : World) (hg : w.cell? ⟨0, 0, none⟩ = some (.iface 105 (.agg #[.pointer (some ⟨1, 29, none⟩)]))) (ht0 : w.cell? t = some old) (hf0 : w.frozen? t = false) :
    Calls Tryd.prog 15 #[.iface 65 (.pointer (some e)), .iface 67 (.pointer (some t))] w fun ev w' => ev = .returned (.bool true) ∧ w' = ((((w.alloc (.cells #[.pointer (some t)] 67)).alloc (.cells #[.pointer (some ⟨1, 67, none⟩), .pointer (some ⟨w.heap.size, 0, none⟩), .int .u64 150] 84)).alloc (.cells #[.pointer (some ⟨1, 67, none⟩), .pointer (some ⟨w.heap.size, 0, none⟩), .int .u64 150] 84)).alloc (.cells #[.pointer (some e)] 65)).setCell t (.pointer (some e)) := by
  have h6 := @run_callFunc_extern Tryd.prog 30 _ (fun args => ReflectliteValue.unpack (args.getD 0 (.tuple #[]))) Tryd.func30 (by kernel_rfl) (by kernel_rfl) (by kernel_rfl) (by kernel_rfl)
  have h7 := @run_callFunc_extern Tryd.prog 31 _ (ReflectliteValue.methodAny (ReflectliteValue.valueError "reflectlite.Value.Type" 0) (fun t _ _ _ => ReflectliteType.toType t)) Tryd.func31 (by kernel_rfl) (by kernel_rfl) (by kernel_rfl) (by kernel_rfl)
  have h8 := @run_callFunc_extern Tryd.prog 32 _ (ReflectliteValue.method (ReflectliteValue.valueError "reflectlite.Value.IsNil" 0) ReflectliteValue.isNil) Tryd.func32 (by kernel_rfl) (by kernel_rfl) (by kernel_rfl) (by kernel_rfl)
  have h27 := @run_callFunc_extern Tryd.prog 84 _ (ReflectliteType.abiMethod fun t => do pure (.int .u8 (← Rtype.kind t))) Tryd.func84 (by kernel_rfl) (by kernel_rfl) (by kernel_rfl) (by kernel_rfl)
  have h37 := @run_callFunc_extern Tryd.prog 96 _ (ReflectliteType.method ReflectliteType.elem) Tryd.func96 (by kernel_rfl) (by kernel_rfl) (by kernel_rfl) (by kernel_rfl)
  have h38 := @run_callFunc_extern Tryd.prog 97 _ (ReflectliteType.relation "Implements" ReflectliteType.implements_) Tryd.func97 (by kernel_rfl) (by kernel_rfl) (by kernel_rfl) (by kernel_rfl)
  have h10 := @run_callFunc_extern Tryd.prog 46 _ ReflectliteType.typeOf Tryd.func46 (by kernel_rfl) (by kernel_rfl) (by kernel_rfl) (by kernel_rfl)
  have h35 := @run_callFunc_extern Tryd.prog 94 _ (ReflectliteType.relation "AssignableTo" ReflectliteType.assignableTo) Tryd.func94 (by kernel_rfl) (by kernel_rfl) (by kernel_rfl) (by kernel_rfl)
  have h11 := @run_callFunc_extern Tryd.prog 47 _ (ReflectliteValue.method (ReflectliteValue.valueError "reflectlite.Value.Elem" 0) ReflectliteValue.elem) Tryd.func47 (by kernel_rfl) (by kernel_rfl) (by kernel_rfl) (by kernel_rfl)
  have h12 := @run_callFunc_extern Tryd.prog 48 _ ReflectliteValue.set Tryd.func48 (by kernel_rfl) (by kernel_rfl) (by kernel_rfl) (by kernel_rfl)
  have tO := rlf_typeOfTP
  have mA := rlf_methodAssignableTo
  have a25 := rlf_assignableTP
  have v25 := rlf_valueOfTP
  have f6 := rlf_valueOfTPP
  have f7 := rlf_typeTPP
  have mK := rlf_methodKind
  have mE := rlf_methodElem
  have mI := rlf_methodImplements
  have k27 := rlf_kindTPP
  have k25 := rlf_kindTP
  have e27 := rlf_elemTPP
  have i25 := rlf_implementsTP
  have n8 := rlf_isNil ⟨w.heap.size, 0, none⟩ t ((w.alloc (.cells #[.pointer (some t)] 67)).alloc (.cells #[.pointer (some ⟨1, 67, none⟩), .pointer (some ⟨w.heap.size, 0, none⟩), .int .u64 150] 84)) (by simp)
  have hlt : 0 < w.heap.size := by
    rcases Nat.eq_zero_or_pos w.heap.size with h0 | h
    · simp [World.cell?, h0] at hg
    · exact h
  have hg2 : ((w.alloc (.cells #[.pointer (some t)] 67)).alloc (.cells #[.pointer (some ⟨1, 67, none⟩), .pointer (some ⟨w.heap.size, 0, none⟩), .int .u64 150] 84)).cell? ⟨0, 0, none⟩ = some (.iface 105 (.agg #[.pointer (some ⟨1, 29, none⟩)])) := by
    rw [World.cell?_alloc_lt _ _ ⟨0, 0, none⟩ (by simp), World.cell?_alloc_lt _ _ ⟨0, 0, none⟩ hlt]; exact hg
  have htl : t.block < w.heap.size := by
    rcases Nat.lt_or_ge t.block w.heap.size with h | h
    · exact h
    · simp [World.cell?, Array.getElem?_eq_none h] at ht0
  have el := rlf_elemV ⟨w.heap.size, 0, none⟩ t (((w.alloc (.cells #[.pointer (some t)] 67)).alloc (.cells #[.pointer (some ⟨1, 67, none⟩), .pointer (some ⟨w.heap.size, 0, none⟩), .int .u64 150] 84)).alloc (.cells #[.pointer (some ⟨1, 67, none⟩), .pointer (some ⟨w.heap.size, 0, none⟩), .int .u64 150] 84)) (by rw [World.cell?_alloc_lt _ _ ⟨w.heap.size, 0, none⟩ (by simp; omega)]; simp)
  have st := rlf_set t ⟨w.heap.size + 1 + 1 + 1, 0, none⟩ e old ((((w.alloc (.cells #[.pointer (some t)] 67)).alloc (.cells #[.pointer (some ⟨1, 67, none⟩), .pointer (some ⟨w.heap.size, 0, none⟩), .int .u64 150] 84)).alloc (.cells #[.pointer (some ⟨1, 67, none⟩), .pointer (some ⟨w.heap.size, 0, none⟩), .int .u64 150] 84)).alloc (.cells #[.pointer (some e)] 65))
    (by rw [World.cell?_alloc_at _ _ _ _ (by simp)]; rfl)
    (by rw [World.cell?_alloc_lt _ _ t (by simp; omega), World.cell?_alloc_lt _ _ t (by simp; omega), World.cell?_alloc_lt _ _ t (by simp; omega), World.cell?_alloc_lt _ _ t htl]; exact ht0)
    (by rw [World.frozen?_alloc_old _ _ t (by simp; omega), World.frozen?_alloc_old _ _ t (by simp; omega), World.frozen?_alloc_old _ _ t (by simp; omega), World.frozen?_alloc_old _ _ t (Nat.ne_of_lt htl)]; exact hf0)
  go_enter Tryd.func15, Tryd.ntmps15
  go_wp2
  refine wp_loop_rounds 1 ?_
  rw [rounds_succ]
  go_wp2
  go_ret
  exact ⟨rfl, rfl⟩

set_option maxRecDepth 100000 in
set_option maxHeartbeats 4000000 in
/-- errors.As at a Code itself: nothing. -/
theorem as_code (c : Int) (t : Addr) (old : Value) (w : World) (hg : w.cell? ⟨0, 0, none⟩ = some (.iface 105 (.agg #[.pointer (some ⟨1, 29, none⟩)]))) (ht0 : w.cell? t = some old) :
    Calls Tryd.prog 15 #[.iface 38 (.int .i64 c), .iface 67 (.pointer (some t))] w fun ev w' => ev = .returned (.bool false) ∧ w' = (((w.alloc (.cells #[.pointer (some t)] 67)).alloc (.cells #[.pointer (some ⟨1, 67, none⟩), .pointer (some ⟨w.heap.size, 0, none⟩), .int .u64 150] 84)).alloc (.cells #[.pointer (some ⟨1, 67, none⟩), .pointer (some ⟨w.heap.size, 0, none⟩), .int .u64 150] 84)) := by
  have h6 := @run_callFunc_extern Tryd.prog 30 _ (fun args => ReflectliteValue.unpack (args.getD 0 (.tuple #[]))) Tryd.func30 (by kernel_rfl) (by kernel_rfl) (by kernel_rfl) (by kernel_rfl)
  have h7 := @run_callFunc_extern Tryd.prog 31 _ (ReflectliteValue.methodAny (ReflectliteValue.valueError "reflectlite.Value.Type" 0) (fun t _ _ _ => ReflectliteType.toType t)) Tryd.func31 (by kernel_rfl) (by kernel_rfl) (by kernel_rfl) (by kernel_rfl)
  have h8 := @run_callFunc_extern Tryd.prog 32 _ (ReflectliteValue.method (ReflectliteValue.valueError "reflectlite.Value.IsNil" 0) ReflectliteValue.isNil) Tryd.func32 (by kernel_rfl) (by kernel_rfl) (by kernel_rfl) (by kernel_rfl)
  have h27 := @run_callFunc_extern Tryd.prog 84 _ (ReflectliteType.abiMethod fun t => do pure (.int .u8 (← Rtype.kind t))) Tryd.func84 (by kernel_rfl) (by kernel_rfl) (by kernel_rfl) (by kernel_rfl)
  have h37 := @run_callFunc_extern Tryd.prog 96 _ (ReflectliteType.method ReflectliteType.elem) Tryd.func96 (by kernel_rfl) (by kernel_rfl) (by kernel_rfl) (by kernel_rfl)
  have h38 := @run_callFunc_extern Tryd.prog 97 _ (ReflectliteType.relation "Implements" ReflectliteType.implements_) Tryd.func97 (by kernel_rfl) (by kernel_rfl) (by kernel_rfl) (by kernel_rfl)
  have h10 := @run_callFunc_extern Tryd.prog 46 _ ReflectliteType.typeOf Tryd.func46 (by kernel_rfl) (by kernel_rfl) (by kernel_rfl) (by kernel_rfl)
  have h35 := @run_callFunc_extern Tryd.prog 94 _ (ReflectliteType.relation "AssignableTo" ReflectliteType.assignableTo) Tryd.func94 (by kernel_rfl) (by kernel_rfl) (by kernel_rfl) (by kernel_rfl)
  have h11 := @run_callFunc_extern Tryd.prog 47 _ (ReflectliteValue.method (ReflectliteValue.valueError "reflectlite.Value.Elem" 0) ReflectliteValue.elem) Tryd.func47 (by kernel_rfl) (by kernel_rfl) (by kernel_rfl) (by kernel_rfl)
  have h12 := @run_callFunc_extern Tryd.prog 48 _ ReflectliteValue.set Tryd.func48 (by kernel_rfl) (by kernel_rfl) (by kernel_rfl) (by kernel_rfl)
  have tO := rlf_typeOfCode
  have mA := rlf_methodAssignableTo
  have a25 := rlf_assignableCode
  have f6 := rlf_valueOfTPP
  have f7 := rlf_typeTPP
  have mK := rlf_methodKind
  have mE := rlf_methodElem
  have mI := rlf_methodImplements
  have k27 := rlf_kindTPP
  have k25 := rlf_kindTP
  have e27 := rlf_elemTPP
  have i25 := rlf_implementsTP
  have n8 := rlf_isNil ⟨w.heap.size, 0, none⟩ t ((w.alloc (.cells #[.pointer (some t)] 67)).alloc (.cells #[.pointer (some ⟨1, 67, none⟩), .pointer (some ⟨w.heap.size, 0, none⟩), .int .u64 150] 84)) (by simp)
  have hlt : 0 < w.heap.size := by
    rcases Nat.eq_zero_or_pos w.heap.size with h0 | h
    · simp [World.cell?, h0] at hg
    · exact h
  have hg2 : ((w.alloc (.cells #[.pointer (some t)] 67)).alloc (.cells #[.pointer (some ⟨1, 67, none⟩), .pointer (some ⟨w.heap.size, 0, none⟩), .int .u64 150] 84)).cell? ⟨0, 0, none⟩ = some (.iface 105 (.agg #[.pointer (some ⟨1, 29, none⟩)])) := by
    rw [World.cell?_alloc_lt _ _ ⟨0, 0, none⟩ (by simp), World.cell?_alloc_lt _ _ ⟨0, 0, none⟩ hlt]; exact hg
  have c1 := asrt_codeAs
  have c2 := asrt_codeUnwrap
  have c3 := asrt_codeUnwraps
  go_enter Tryd.func15, Tryd.ntmps15
  go_wp2
  refine wp_loop_rounds 1 ?_
  rw [rounds_succ]
  go_wp2
  go_ret
  exact ⟨rfl, rfl⟩

end Go.Proofs.YtdfiflbkamhchaaDoor

/- Of and Code of the statements: what an error is, and its place. -/
namespace Go.Proofs.YtdfiflbkamhchaaDoor
open Go.ChangeShapes Go.WideShapes Go.RowKit Go.Deep
set_option linter.unusedVariables false

/-! ### What is amiss with modules has one of four numbers -/
def okE (x : Int) : Prop := x = 0 ∨ (3 ≤ x ∧ x ≤ 6)
theorem firstE_in {l : List Int} (h : ∀ x ∈ l, okE x) : okE (firstE l) := by
  induction l with
  | nil => exact .inl rfl
  | cons x r ih =>
    simp only [firstE]
    split
    · exact ih (fun y hy => h y (List.mem_cons_of_mem _ hy))
    · exact h x (List.mem_cons_self ..)
theorem okE_ite {c : Prop} [Decidable c] {a b : Int} (ha : okE a) (hb : okE b) : okE (if c then a else b) := by split; exact ha; exact hb
theorem okE_0 : okE 0 := .inl rfl
theorem okE_3 : okE 3 := .inr ⟨by decide, by decide⟩
theorem okE_4 : okE 4 := .inr ⟨by decide, by decide⟩
theorem okE_5 : okE 5 := .inr ⟨by decide, by decide⟩
theorem okE_6 : okE 6 := .inr ⟨by decide, by decide⟩
theorem restE_in (f : FunD) (x : InsD) (ts : List Int) (d : Int) (b : Bool) : okE (restE f x ts d b) := by
  unfold restE; exact okE_ite (okE_ite okE_0 okE_3) okE_4
theorem insE_in (m : List FunD) (f : FunD) (x : InsD) : okE (insE m f x) := by
  unfold insE
  refine okE_ite (okE_ite (okE_ite (restE_in _ _ _ _ _) okE_6) okE_4) ?_
  split
  · exact okE_6
  · exact okE_ite (restE_in _ _ _ _ _) okE_6
theorem phiE_in' (f : FunD) (p : PhiD) : okE (phiE f p) := by unfold phiE; exact okE_ite (okE_ite okE_0 okE_3) okE_4
theorem termE_in (f : FunD) (t : TermD) : okE (termE f t) := by unfold termE; exact okE_ite (okE_ite okE_0 okE_3) (okE_ite (okE_ite okE_0 okE_3) okE_4)
theorem blockE_in (m : List FunD) (f : FunD) (b : BlkD) : okE (blockE m f b) := by
  have h1 : okE (firstE (b.phis.map (phiE f))) := firstE_in fun x hx => by obtain ⟨p, _, rfl⟩ := List.mem_map.1 hx; exact phiE_in' f p
  have h2 : okE (firstE (b.ins.map (insE m f))) := firstE_in fun x hx => by obtain ⟨p, _, rfl⟩ := List.mem_map.1 hx; exact insE_in m f p
  unfold blockE
  exact okE_ite (okE_ite (termE_in _ _) h2) h1
theorem funE_in (m : List FunD) (f : FunD) : okE (funE m f) := by
  unfold funE
  split
  · exact firstE_in fun x hx => by obtain ⟨p, _, rfl⟩ := List.mem_map.1 hx; exact blockE_in m f p
  · unfold outerE; exact okE_ite (okE_ite (okE_ite okE_0 okE_6) okE_3) okE_5
theorem modK_in (m : List FunD) : ∀ (l : List FunD) (i : Nat), okE (modK m l i).1
  | [], _ => .inl rfl
  | f :: l, i => by
    simp only [modK]
    split
    · exact modK_in m l (i + 1)
    · exact funE_in m f
theorem modE_in (m : List FunD) : okE (modE m).1 := by
  unfold modE
  split
  · exact okE_5
  · exact modK_in m m 0

set_option maxRecDepth 100000 in
set_option maxHeartbeats 2000000 in
/-- The number of an error that is a Code. -/
theorem code_any (c : Int) (w : World) (hc : 1 ≤ c ∧ c ≤ 8) : Calls Tryd.prog 16 #[.iface 38 (.int .i64 c)] w fun e w' => e = .returned (.int .i64 c) ∧ ∃ n, w' = w.drewN n := by
  obtain ⟨h1, h8⟩ := hc
  go_enter Tryd.func16, Tryd.ntmps16
  go_wp2_with fail
  go_loopw [3] (fun i wr => ∃ k n : Nat, 1 ≤ k ∧ (k : Int) ≤ c ∧ i = .int .i64 k ∧ wr = w.drewN n) (fun i _ => 9 - (intOf i).toNat)
  case atStart => exact ⟨1, 0, by omega, by omega, rfl, rfl⟩
  case round =>
    obtain ⟨k, n, hk1, hkc, rfl, rfl⟩ := hrel
    have hk8 : (k : Int) ≤ 8 := by omega
    have he := eqlErr c k (w.drewN n)
    by_cases h : c = k
    · subst h
      rw [show (((k : Nat) : Int) == (k : Int)) = true by simp] at he
      go_wp2_with fail
      go_ret
      exact ⟨rfl, _, rfl⟩
    · rw [show (c == (k : Int)) = false by simpa using h] at he
      go_wp2_with fail
      go_roundw
      case rel => exact ⟨k + 1, n, by omega, by omega, by go_num, rfl⟩
      case measure => simp [intOf]; omega
def HoldsE (w : World) : Prop := w.cell? ⟨0, 0, none⟩ = some (.iface 105 (.agg #[.pointer (some ⟨1, 29, none⟩)]))

set_option maxRecDepth 100000 in
set_option maxHeartbeats 4000000 in
/-- Which error it is, and its place. -/
theorem of_any (v : Value) (p : Int × Int) (w : World) (he : ErrAt w v p) (hp : 1 ≤ p.1 ∧ p.1 ≤ 8) (hg : HoldsE w) : Calls Tryd.prog 8 #[v] w fun e w' => e = .returned (.tuple #[.int .i64 p.1, .int .i64 p.2]) ∧ Below w.heap.size w w' := by
  have h0 : 0 < w.heap.size := block_lt_of_cell hg
  obtain ⟨p1, p2⟩ := p
  obtain ⟨w1, hw1, hs1, hk1, hb1, hc1, -⟩ := named w #[.pointer none] 65
  have t0 : w1.cell? ⟨w.heap.size, 0, none⟩ = some (.pointer none) := hc1 0 _ rfl
  have tb : w1.heap[w.heap.size]? = some (.cells #[.pointer none] 65 (0, 0)) := by rw [hw1]; exact heap_alloc_new _ _
  have tf := free_of_block tb 0
  have g1 : w1.cell? ⟨0, 0, none⟩ = _ := hk1 _ _ hg
  rcases he with h | ⟨hne, hat, rfl⟩ | ⟨hne, hat, g, rfl, hg0, hg1⟩
  · have : p1 = 0 := h.1
    have : (1 : Int) ≤ p1 := hp.1
    omega
  · have hat : p2 = -1 := hat
    subst hat
    have HAS := Lib.hid (as_code p1 ⟨w.heap.size, 0, none⟩ _ w1 g1 t0)
    have HC := Lib.hid (fun w => code_any p1 w hp)
    have HB1 := Lib.hid hb1
    clear hk1 hb1 hc1 tb tf g1 t0 hne
    go_enter Tryd.func8, Tryd.ntmps8
    go_wp2_with fail
    rw [← hw1]
    refine HAS.out.mono ?_
    rintro e w2 ⟨rfl, hw2⟩
    have HB2 : Hid (Below w.heap.size w w2) := Lib.hid (by
      have hs := HB1.out.size
      rw [hw2]
      exact ((HB1.out.alloc hs _).alloc (by simp; omega) _).alloc (by simp; omega) _)
    clear hw1 hw2 hs1
    go_wp2_with fail
    refine (HC.out _).mono ?_
    rintro e w3 ⟨rfl, n3, rfl⟩
    go_wp2_with fail
    go_ret2
    exact ⟨rfl, below_drewN HB2.out n3⟩
  · have hg0' := hk1 _ _ hg0
    have hg1' := hk1 _ _ hg1
    have hgl : g < w.heap.size := block_lt_of_cell hg0
    have HAS := Lib.hid (as_spot ⟨g, 0, none⟩ ⟨w.heap.size, 0, none⟩ _ w1 g1 t0 tf)
    have HCODE := Lib.hid (fun w => code_any p1 w hp)
    have HB1 := Lib.hid hb1
    have HTB := Lib.hid tb
    clear hk1 hb1 hc1 tb tf g1 t0 hne
    go_enter Tryd.func8, Tryd.ntmps8
    go_wp2_with fail
    rw [← hw1]
    refine HAS.out.mono ?_
    rintro e w2 ⟨rfl, hw2⟩
    obtain ⟨T, hT⟩ : ∃ T, T = w.heap.size := ⟨_, rfl⟩
    rw [← hT] at hw2 ⊢
    have hBA : Below w1.heap.size w1 ((((w1.alloc (.cells #[.pointer (some ⟨T, 0, none⟩)] 67)).alloc (.cells #[.pointer (some ⟨1, 67, none⟩), .pointer (some ⟨w1.heap.size, 0, none⟩), .int .u64 150] 84)).alloc (.cells #[.pointer (some ⟨1, 67, none⟩), .pointer (some ⟨w1.heap.size, 0, none⟩), .int .u64 150] 84)).alloc (.cells #[.pointer (some ⟨g, 0, none⟩)] 65)) :=
      ((((Below.refl _ _).alloc (Nat.le_refl _) _).alloc (by simp) _).alloc (by simp; omega) _).alloc (by simp; omega) _
    have x0 : w2.cell? ⟨T, 0, none⟩ = some (.pointer (some ⟨g, 0, none⟩)) := by
      rw [hw2]
      exact cell_of_block (set_of_block (i := 0) (.pointer (some ⟨g, 0, none⟩)) ((hBA.block T (by omega)).trans (by rw [hT]; exact HTB.out))) 0
    have x1 : w2.cell? ⟨g, 0, none⟩ = some (.int .i64 p2) := by
      rw [hw2]
      exact (World.cell?_of_block (a := ⟨g, 0, none⟩) ((Below.heap_setCell _ _ _ _ (by show g ≠ T; omega)).trans (hBA.block g (by omega)))).trans hg0'
    have x2 : w2.cell? ⟨g, 1, none⟩ = some (.iface 38 (.int .i64 p1)) := by
      rw [hw2]
      exact (World.cell?_of_block (a := ⟨g, 1, none⟩) ((Below.heap_setCell _ _ _ _ (by show g ≠ T; omega)).trans (hBA.block g (by omega)))).trans hg1'
    have HB2 : Hid (Below w.heap.size w w2) := Lib.hid (by
      rw [hw2]
      exact (HB1.out.trans (hBA.mono HB1.out.size)).setCell (by show _ ≤ T; omega) _)
    have HBF : Hid (∀ w', Below w2.heap.size w2 w' → Below w.heap.size w w') := Lib.hid (fun w' h => HB2.out.trans (h.mono HB2.out.size))
    clear hw1 hw2 hs1 hBA hg0' hg1' hg0 hg1 hT hgl
    go_upto_region 5 with fail
    have hS : ∀ w' : World, Below w2.heap.size w2 w' → w'.cell? ⟨T, 0, none⟩ = some (.pointer (some ⟨g, 0, none⟩)) ∧ w'.cell? ⟨g, 0, none⟩ = some (.int .i64 p2) ∧ w'.cell? ⟨g, 1, none⟩ = some (.iface 38 (.int .i64 p1)) := fun w' h => ⟨kept_of_below h _ _ x0, kept_of_below h _ _ x1, kept_of_below h _ _ x2⟩
    have hB0 : Below w2.heap.size w2 w2.drew := (Below.refl w2.heap.size w2).drew
    have hS0 := hS _ hB0
    clear x0 x1 x2
    refine wp_region_held_drew (S := fun w' => w'.cell? ⟨T, 0, none⟩ = some (.pointer (some ⟨g, 0, none⟩)) ∧ w'.cell? ⟨g, 0, none⟩ = some (.int .i64 p2) ∧ w'.cell? ⟨g, 1, none⟩ = some (.iface 38 (.int .i64 p1))) (by kernel_rfl) hS0 (fun hHeld => ?_)
    clear hHeld
    refine takeH (i := 0) (some 17) (v := ?_) rfl (by kernel_rfl) (by kernel_rfl) (by kernel_rfl) (fun _ _ _ h => h) hS0 (fun o ho => ?_) ?_
    rotate_left
    · simp only [List.getElem?_toArray, List.getElem?_cons_zero, Option.some.injEq] at ho; subst ho; refine Or.inl ⟨by rfl, fun w' hSw => ?_⟩; (try dsimp only at hSw); go_simp; try with_reducible rfl
    simp only [Act.put, List.setIfInBounds_toArray, List.set_cons_zero, List.set_cons_succ]
    refine takeH (i := 1) (some 18) (v := ?_) rfl (by kernel_rfl) (by kernel_rfl) (by kernel_rfl) (fun _ _ _ h => h) hS0 (fun o ho => ?_) ?_
    rotate_left
    · simp only [List.getElem?_toArray, List.getElem?_cons_zero, List.getElem?_cons_succ, Option.some.injEq] at ho; subst ho; refine Or.inl ⟨by rfl, fun w' hSw => ?_⟩; (try dsimp only at hSw); go_simp; try with_reducible rfl
    simp only [Act.put, List.setIfInBounds_toArray, List.set_cons_zero, List.set_cons_succ]
    refine takeH (i := 2) (some 19) (v := ?_) rfl (by kernel_rfl) (by kernel_rfl) (by kernel_rfl) (fun _ _ _ h => h) hS0 (fun o ho => ?_) ?_
    rotate_left
    · simp only [List.getElem?_toArray, List.getElem?_cons_zero, List.getElem?_cons_succ, Option.some.injEq] at ho; subst ho; refine Or.inl ⟨by rfl, fun w' hSw => ?_⟩; (try dsimp only at hSw); go_simp; try with_reducible rfl
    simp only [Act.put, List.setIfInBounds_toArray, List.set_cons_zero, List.set_cons_succ]
    refine takeH (i := 3) (some 20) (v := ?_) rfl (by kernel_rfl) (by kernel_rfl) (by kernel_rfl) (fun _ _ _ h => h) hS0 (fun o ho => ?_) ?_
    rotate_left
    · simp only [List.getElem?_toArray, List.getElem?_cons_zero, List.getElem?_cons_succ, Option.some.injEq] at ho; subst ho; refine Or.inl ⟨by rfl, fun w' hSw => ?_⟩; (try dsimp only at hSw); go_simp; try with_reducible rfl
    simp only [Act.put, List.setIfInBounds_toArray, List.set_cons_zero, List.set_cons_succ]
    refine takeH (i := 5) (some 22) (v := ?_) rfl (by kernel_rfl) (by kernel_rfl) (by kernel_rfl) (fun _ _ _ h => h) hS0 (fun o ho => ?_) ?_
    rotate_left
    · simp only [List.getElem?_toArray, List.getElem?_cons_zero, List.getElem?_cons_succ, Option.some.injEq] at ho; subst ho; refine Or.inl ⟨by rfl, fun w' hSw => ?_⟩; (try dsimp only at hSw); go_simp; try with_reducible rfl
    simp only [Act.put, List.setIfInBounds_toArray, List.set_cons_zero, List.set_cons_succ]
    refine takeH (i := 6) (some 23) (v := ?_) rfl (by kernel_rfl) (by kernel_rfl) (by kernel_rfl) (fun _ _ _ h => h) hS0 (fun o ho => ?_) ?_
    rotate_left
    · simp only [List.getElem?_toArray, List.getElem?_cons_zero, List.getElem?_cons_succ, Option.some.injEq] at ho; subst ho; refine Or.inl ⟨by rfl, fun w' hSw => ?_⟩; (try dsimp only at hSw); go_simp; try with_reducible rfl
    simp only [Act.put, List.setIfInBounds_toArray, List.set_cons_zero, List.set_cons_succ]
    refine takeH (i := 7) (some 24) (v := ?_) rfl (by kernel_rfl) (by kernel_rfl) (by kernel_rfl) (fun _ _ _ h => h) hS0 (fun o ho => ?_) ?_
    rotate_left
    · simp only [List.getElem?_toArray, List.getElem?_cons_zero, List.getElem?_cons_succ, Option.some.injEq] at ho; subst ho; refine Or.inl ⟨by rfl, fun w' hSw => ?_⟩; (try dsimp only at hSw); go_simp; try with_reducible rfl
    simp only [Act.put, List.setIfInBounds_toArray, List.set_cons_zero, List.set_cons_succ]
    refine takeH (i := 8) (some 25) (v := ?_) rfl (by kernel_rfl) (by kernel_rfl) (by kernel_rfl) (fun _ _ _ h => h) hS0 (fun o ho => ?_) ?_
    rotate_left
    · simp only [List.getElem?_toArray, List.getElem?_cons_zero, List.getElem?_cons_succ, Option.some.injEq] at ho; subst ho; refine Or.inl ⟨by rfl, fun w' hSw => ?_⟩; (try dsimp only at hSw); go_simp; try with_reducible rfl
    simp only [Act.put, List.setIfInBounds_toArray, List.set_cons_zero, List.set_cons_succ]
    refine oneH (i := 4) (by kernel_rfl) (fun o ho K hK => ?_)
    simp only [List.getElem?_toArray, List.getElem?_cons_zero, List.getElem?_cons_succ, Option.some.injEq] at ho; subst ho
    go_simp
    refine (HCODE.out _).mono ?_
    rintro e w6 ⟨rfl, n6, rfl⟩
    have hS1 := hS _ (below_drewN hB0 n6)
    go_wp2_with fail
    refine hK.out _ _ hS1 ?_
    clear hK K
    try simp only [Act.put, List.setIfInBounds_toArray, List.set_cons_zero, List.set_cons_succ]
    refine takeH (i := 9) (some 2) (v := ?_) rfl (by kernel_rfl) (by kernel_rfl) (by kernel_rfl) (fun _ _ _ h => h) hS1 (fun o ho => ?_) ?_
    rotate_left
    · simp only [List.getElem?_toArray, List.getElem?_cons_zero, List.getElem?_cons_succ, Option.some.injEq] at ho; subst ho; refine Or.inl ⟨by rfl, fun w' hSw => ?_⟩; (try dsimp only at hSw); go_simp; try with_reducible rfl
    simp only [Act.put, List.setIfInBounds_toArray, List.set_cons_zero, List.set_cons_succ]
    refine takeH (i := 10) (some 3) (v := ?_) rfl (by kernel_rfl) (by kernel_rfl) (by kernel_rfl) (fun _ _ _ h => h) hS1 (fun o ho => ?_) ?_
    rotate_left
    · simp only [List.getElem?_toArray, List.getElem?_cons_zero, List.getElem?_cons_succ, Option.some.injEq] at ho; subst ho; refine Or.inl ⟨by rfl, fun w' hSw => ?_⟩; (try dsimp only at hSw); go_simp; try with_reducible rfl
    simp only [Act.put, List.setIfInBounds_toArray, List.set_cons_zero, List.set_cons_succ]
    refine wpAnyH_done (by kernel_rfl) ?_ _
    go_wp2_with fail
    go_ret2
    exact ⟨rfl, HBF.out _ (below_drewN (Below.refl _ _) _)⟩
end Go.Proofs.YtdfiflbkamhchaaDoor

/- Of and Code of no error. -/
namespace Go.Proofs.YtdfiflbkamhchaaDoor
open Go.ChangeShapes Go.WideShapes Go.RowKit Go.Deep
set_option linter.unusedVariables false

set_option maxRecDepth 100000 in
set_option maxHeartbeats 1000000 in
theorem code_nil (w : World) : Calls Tryd.prog 16 #[.nilIface] w fun e w' => e = .returned (.int .i64 0) ∧ w' = w := by
  go_enter Tryd.func16, Tryd.ntmps16
  go_wp2_with fail
  go_ret
  exact ⟨rfl, rfl⟩
set_option maxRecDepth 100000 in
set_option maxHeartbeats 1000000 in
theorem of_nil (w : World) : Calls Tryd.prog 8 #[.nilIface] w fun e w' => e = .returned (.tuple #[.int .i64 0, .int .i64 (-1)]) ∧ Below w.heap.size w w' := by
  obtain ⟨w1, hw1, hs1, hk1, hb1, hc1, -⟩ := named w #[.pointer none] 65
  have HAS := Lib.hid (as_nil (.iface 67 (.pointer (some ⟨w.heap.size, 0, none⟩))) w1)
  have HC := Lib.hid (code_nil w1)
  have HB1 := Lib.hid hb1
  clear hk1 hb1 hc1
  go_enter Tryd.func8, Tryd.ntmps8
  go_wp2_with fail
  rw [← hw1]
  refine HAS.out.mono ?_
  rintro e w2 ⟨rfl, hw2⟩
  obtain rfl : w1 = w2 := hw2.symm
  clear hw1 hs1
  go_wp2_with fail
  refine HC.out.mono ?_
  rintro e w3 ⟨rfl, hw3⟩
  obtain rfl : w1 = w3 := hw3.symm
  go_wp2_with fail
  go_ret2
  exact ⟨rfl, HB1.out⟩
end Go.Proofs.YtdfiflbkamhchaaDoor

/- The reference's small functions of layer 2: is, worst, end. -/
namespace Go.Proofs.YtdfiflbkamhchaaDoor
open Go.ChangeShapes Go.WideShapes Go.RowKit Go.Deep
set_option linter.unusedVariables false

/-- Is a register there, and of a type (below 0: of any)? -/
def isE (regs : List Int) (r t : Int) : Int := if 0 ≤ r ∧ r < regs.length then (if 0 ≤ t ∧ reg regs r ≠ t then 3 else 0) else 4
def worstE (a b : Int) : Int := if a = 4 ∨ b = 4 then 4 else if a ≠ 0 then a else b

theorem worst_any (a b : Int) (w : World) : Calls Tryd.prog 36 #[.int .i64 a, .int .i64 b] w fun e w' => e = .returned (.int .i64 (worstE a b)) ∧ w = w' := by
  by_cases h1 : a = 4
  · have HE : Hid (worstE a b = 4) := Lib.hid (if_pos (.inl h1))
    have h1' : (a == 4) = true := by simp [h1]
    clear h1
    go_enter Tryd.func36, Tryd.ntmps36
    go_wp2_with fail
    go_ret
    exact ⟨by rw [HE.out]; rfl, rfl⟩
  · have h1' : (a == 4) = false := by simp [h1]
    by_cases h2 : b = 4
    · have HE : Hid (worstE a b = 4) := Lib.hid (if_pos (.inr h2))
      have h2' : (b == 4) = true := by simp [h2]
      clear h1 h2
      go_enter Tryd.func36, Tryd.ntmps36
      go_wp2_with fail
      go_ret
      exact ⟨by rw [HE.out]; rfl, rfl⟩
    · have h2' : (b == 4) = false := by simp [h2]
      by_cases h3 : a = 0
      · have HE : Hid (worstE a b = b) := Lib.hid (by unfold worstE; rw [if_neg (by omega), if_neg (by omega)])
        have h3' : (a != 0) = false := by simp [h3]
        clear h1 h2 h3
        go_enter Tryd.func36, Tryd.ntmps36
        go_wp2_with fail
        go_ret
        exact ⟨by rw [HE.out]; rfl, rfl⟩
      · have HE : Hid (worstE a b = a) := Lib.hid (by unfold worstE; rw [if_neg (by omega), if_pos h3])
        have h3' : (a != 0) = true := by rw [bne_iff_ne]; exact h3
        clear h1 h2 h3
        go_enter Tryd.func36, Tryd.ntmps36
        go_wp2_with fail
        go_ret
        exact ⟨by rw [HE.out]; rfl, rfl⟩

set_option maxRecDepth 100000 in
set_option maxHeartbeats 1000000 in
theorem is_reg (f : FunD) (v : Value) (r t : Int) (w : World) (hv : VFun w v f) (ht : I64 t) :
    Calls Tryd.prog 35 #[v, .int .i64 r, .int .i64 t] w fun e w' => e = .returned (.int .i64 (isE f.regs r t)) ∧ Below w.heap.size w w' := by
  obtain ⟨Ar, cr, Ab, cb, rfl, hr, -, -, -⟩ := hv
  have hrl := hr.len
  have hB : Below w.heap.size w (w.alloc (.cells #[.int .i64 f.params, .int .i64 f.result, .slice Ar f.regs.length cr, .slice Ab f.blocks.length cb] 41)) := (Below.refl _ _).alloc (Nat.le_refl _) _
  by_cases h1 : r < 0
  · have HE : Hid (isE f.regs r t = 4) := Lib.hid (if_neg (by omega))
    have h1' : decide (r < 0) = true := by simpa using h1
    go_enter Tryd.func35, Tryd.ntmps35
    go_wp2_with fail
    go_ret
    exact ⟨by rw [HE.out]; rfl, hB⟩
  · have h1' : decide (r < 0) = false := by simpa using h1
    obtain ⟨k, rfl⟩ := Int.eq_ofNat_of_zero_le (Int.not_lt.1 h1)
    by_cases h2 : k < f.regs.length
    · have h2' : decide ((f.regs.length : Int) ≤ k) = false := by simp; omega
      have h2c : (k : Int) < f.regs.length := by omega
      obtain ⟨b, o, x, rfl, hx, hxc, -⟩ := hr.int h2
      have hrg : reg f.regs k = x := reg_of rfl hx.out
      have hblt := block_lt_of_cell hxc
      dsimp only at hblt
      by_cases h3 : 0 ≤ t
      · have h3' : decide (0 ≤ t) = true := by simpa using h3
        by_cases h4 : x = t
        · have HE : Hid (isE f.regs k t = 0) := Lib.hid (by unfold isE; rw [if_pos (by omega), if_neg (by rw [hrg]; exact fun h => h.2 h4)])
          have h4' : (x != t) = false := by simp [h4]
          clear h4 hrg h1
          go_enter Tryd.func35, Tryd.ntmps35
          go_wp2_with fail
          go_ret
          exact ⟨by rw [HE.out]; rfl, hB⟩
        · have HE : Hid (isE f.regs k t = 3) := Lib.hid (by unfold isE; rw [if_pos (by omega), if_pos (by rw [hrg]; exact ⟨h3, h4⟩)])
          have h4' : (x != t) = true := by rw [bne_iff_ne]; exact h4
          clear h4 hrg h1
          go_enter Tryd.func35, Tryd.ntmps35
          go_wp2_with fail
          go_ret
          exact ⟨by rw [HE.out]; rfl, hB⟩
      · have h3' : decide (0 ≤ t) = false := by simpa using h3
        have HE : Hid (isE f.regs k t = 0) := Lib.hid (by unfold isE; rw [if_pos (by omega), if_neg (fun h => h3 h.1)])
        clear hrg h1
        go_enter Tryd.func35, Tryd.ntmps35
        go_wp2_with fail
        go_ret
        exact ⟨by rw [HE.out]; rfl, hB⟩
    · have HE : Hid (isE f.regs k t = 4) := Lib.hid (if_neg (by omega))
      have h2' : decide ((f.regs.length : Int) ≤ k) = true := by simp; omega
      have h2c : (f.regs.length : Int) ≤ k := by omega
      go_enter Tryd.func35, Tryd.ntmps35
      go_wp2_with fail
      go_ret
      exact ⟨by rw [HE.out]; rfl, hB⟩

set_option maxRecDepth 100000 in
set_option maxHeartbeats 1000000 in
theorem end_ref (f : FunD) (t : TermD) (v u : Value) (w : World) (hv : VFun w v f) (hu : VTerm w u t) (hk : t.kind = 1 ∨ t.kind = 2 ∨ t.kind = 3) (hres : 0 ≤ f.result) :
    Calls Tryd.prog 38 #[v, u] w fun e w' => e = .returned (.int .i64 (termE f t)) ∧ Below w.heap.size w w' := by
  have hv0 := hv
  obtain ⟨Ar, cr, Ab, cb, rfl, hr, hb, hp64, hr64⟩ := hv
  obtain ⟨At, ct, rfl, hto, hk64, ha64⟩ := hu
  have hB : Below w.heap.size w ((w.alloc (.cells #[.int .i64 f.params, .int .i64 f.result, .slice Ar f.regs.length cr, .slice Ab f.blocks.length cb] 41)).alloc (.cells #[.int .i64 t.kind, .int .i64 t.arg, .slice At t.to.length ct] 48)) := ((Below.refl _ _).alloc (Nat.le_refl _) _).alloc (by simp) _
  by_cases h2 : t.kind = 2
  · have HE : Hid (isE f.regs t.arg 2 = termE f t) := Lib.hid (by
      unfold termE wantOf isE
      rw [if_pos h2, if_neg (show ¬ (2 : Int) = 0 by decide)]
      by_cases h : 0 ≤ t.arg ∧ t.arg < f.regs.length
      · rw [if_pos h, if_pos h]
        by_cases h' : reg f.regs t.arg = 2
        · rw [if_pos h', if_neg (fun x => x.2 h')]
        · rw [if_neg h', if_pos ⟨by decide, h'⟩]
      · rw [if_neg h, if_neg h])
    have h2' : (t.kind == 2) = true := by simp [h2]
    clear h2 hk
    go_enter Tryd.func38, Tryd.ntmps38
    go_wp2_with fail
    refine (is_reg f _ t.arg 2 _ (VFun.keep (kept_of_below hB) hv0) (by unfold I64; omega)).mono ?_
    rintro e w1 ⟨rfl, hb1⟩
    rw [HE.out]
    go_wp2_with fail
    go_ret
    exact ⟨rfl, hB.trans (hb1.mono hB.size)⟩
  · have h2' : (t.kind == 2) = false := by simp [h2]
    by_cases h3 : t.kind = 3
    · have h3' : (t.kind == 3) = true := by simp [h3]
      by_cases h0 : f.result = 0
      · have h0' : (f.result != 0) = false := by simp [h0]
        by_cases ha : t.arg = -1
        · have HE : Hid (termE f t = 0) := Lib.hid (by unfold termE wantOf; rw [if_neg h2, if_pos h3, if_pos h0, if_pos ha])
          have ha' : (t.arg != -1) = false := by simp [ha]
          clear h2 h3 h0 ha hk
          go_enter Tryd.func38, Tryd.ntmps38
          go_wp2_with fail
          go_ret
          exact ⟨by rw [HE.out]; rfl, hB⟩
        · have HE : Hid (termE f t = 3) := Lib.hid (by unfold termE wantOf; rw [if_neg h2, if_pos h3, if_pos h0, if_neg ha])
          have ha' : (t.arg != -1) = true := by rw [bne_iff_ne]; exact ha
          clear h2 h3 h0 ha hk
          go_enter Tryd.func38, Tryd.ntmps38
          go_wp2_with fail
          go_ret
          exact ⟨by rw [HE.out]; rfl, hB⟩
      · have h0' : (f.result != 0) = true := by rw [bne_iff_ne]; exact h0
        have HE : Hid (isE f.regs t.arg f.result = termE f t) := Lib.hid (by
          unfold termE wantOf isE
          rw [if_neg h2, if_pos h3, if_neg h0]
          by_cases h : 0 ≤ t.arg ∧ t.arg < f.regs.length
          · rw [if_pos h, if_pos h]
            by_cases h' : reg f.regs t.arg = f.result
            · rw [if_pos h', if_neg (fun x => x.2 h')]
            · rw [if_neg h', if_pos ⟨hres, h'⟩]
          · rw [if_neg h, if_neg h])
        clear h2 h3 h0 hk
        go_enter Tryd.func38, Tryd.ntmps38
        go_wp2_with fail
        refine (is_reg f _ t.arg f.result _ (VFun.keep (kept_of_below hB) hv0) hr64).mono ?_
        rintro e w1 ⟨rfl, hb1⟩
        rw [HE.out]
        go_wp2_with fail
        go_ret
        exact ⟨rfl, hB.trans (hb1.mono hB.size)⟩
    · have h3' : (t.kind == 3) = false := by simp [h3]
      by_cases ha : t.arg = -1
      · have HE : Hid (termE f t = 0) := Lib.hid (by unfold termE wantOf; rw [if_neg h2, if_neg h3, if_pos rfl, if_pos ha])
        have ha' : (t.arg != -1) = false := by simp [ha]
        clear h2 h3 ha hk
        go_enter Tryd.func38, Tryd.ntmps38
        go_wp2_with fail
        go_ret
        exact ⟨by rw [HE.out]; rfl, hB⟩
      · have HE : Hid (termE f t = 3) := Lib.hid (by unfold termE wantOf; rw [if_neg h2, if_neg h3, if_pos rfl, if_neg ha])
        have ha' : (t.arg != -1) = true := by rw [bne_iff_ne]; exact ha
        clear h2 h3 ha hk
        go_enter Tryd.func38, Tryd.ntmps38
        go_wp2_with fail
        go_ret
        exact ⟨by rw [HE.out]; rfl, hB⟩
end Go.Proofs.YtdfiflbkamhchaaDoor
