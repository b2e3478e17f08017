import Derived.Test.YtnlcfnjeagmemaaGreatDoorProg
import Derived.WalkKit
import Derived.LaidEql
import Derived.Stop.Asserts
import Derived.RowKitTokens
import Derived.Handy
namespace Go.Proofs.YtnlcfnjeagmemaaGreatDoor
open Go.RowKit Go.Extern.Stop Go.Stop Go.Extern
theorem Tryz.valueOfE (t:Addr)(w:World):(ReflectliteValue.unpack (.iface 107 (.pointer (some t)))).run Tryz.prog w
 = .ok (.agg #[.pointer (some ⟨2,107,none⟩),.pointer (some ⟨w.heap.size,0,none⟩),.int .u64 150]) (w.alloc (.cells #[.pointer (some t)] 107)):=by kernel_rfl
theorem Tryz.typeE (a : Addr) (w : World) : (ReflectliteValue.methodAny (ReflectliteValue.valueError "reflectlite.Value.Type" 0) (fun t _ _ _ => ReflectliteType.toType t) #[.agg #[.pointer (some ⟨2, 107, none⟩), .pointer (some a), .int .u64 150]]).run Tryz.prog w
 = .ok (.iface 165 (.agg #[.pointer (some ⟨2,107,none⟩)])) w:=by kernel_rfl
theorem Tryz.kindPE (w:World):((ReflectliteType.abiMethod fun t=>(fun a:Nat=>Value.int IntKind.u8 (a:Int)) <$> Rtype.kind t) #[.pointer (some ⟨2,107,none⟩)]).run Tryz.prog w=.ok (.int .u8 22) w:=by kernel_rfl
theorem Tryz.kindE (w:World):((ReflectliteType.abiMethod fun t=>(fun a:Nat=>Value.int IntKind.u8 (a:Int)) <$> Rtype.kind t) #[.pointer (some ⟨2,105,none⟩)]).run Tryz.prog w=.ok (.int .u8 2) w:=by kernel_rfl
theorem Tryz.partsPE (a:Addr)(w:World):(ReflectliteValue.parts (.agg #[.pointer (some ⟨2,107,none⟩),.pointer (some a),.int .u64 150])).run Tryz.prog w=.ok (some (107,a,150)) w:=by kernel_rfl
theorem Tryz.elemE (w:World):(ReflectliteType.method ReflectliteType.elem #[.agg #[.pointer (some ⟨2,107,none⟩)]]).run Tryz.prog w=.ok (.iface 165 (.agg #[.pointer (some ⟨2,105,none⟩)])) w:=by kernel_rfl
theorem Tryz.implementsE (w : World) : (ReflectliteType.relation "Implements" ReflectliteType.implements_ #[.agg #[.pointer (some ⟨2, 105, none⟩)], .iface 165 (.agg #[.pointer (some ⟨2, 64, none⟩)])]).run Tryz.prog w = .ok (.bool true) w := by kernel_rfl
theorem Tryz.typeOfE (v:Value)(w:World):(ReflectliteType.typeOf #[.iface 105 v]).run Tryz.prog w=.ok (.iface 165 (.agg #[.pointer (some ⟨2,105,none⟩)])) w:=by kernel_rfl
theorem Tryz.assignE (w : World) : (ReflectliteType.relation "AssignableTo" ReflectliteType.assignableTo #[.agg #[.pointer (some ⟨2, 105, none⟩)], .iface 165 (.agg #[.pointer (some ⟨2, 105, none⟩)])]).run Tryz.prog w = .ok (.bool true) w := by kernel_rfl
theorem Tryz.elemOfE (w:World):(Rtype.elem? 107).run Tryz.prog w=.ok (some 105) w:=by kernel_rfl
theorem Tryz.mkE (p:Addr)(w:World):(ReflectliteValue.mk 105 p ReflectliteValue.flagAddr).run Tryz.prog w=.ok (.agg #[.pointer (some ⟨2,105,none⟩),.pointer (some p),.int .u64 386]) w:=by kernel_rfl
theorem Tryz.partsAE (a:Addr)(w:World):(ReflectliteValue.parts (.agg #[.pointer (some ⟨2,105,none⟩),.pointer (some a),.int .u64 386])).run Tryz.prog w=.ok (some (105,a,386)) w:=by kernel_rfl
theorem Tryz.partsE (a:Addr)(w:World):(ReflectliteValue.parts (.agg #[.pointer (some ⟨2,105,none⟩),.pointer (some a),.int .u64 130])).run Tryz.prog w=.ok (some (105,a,130)) w:=by kernel_rfl
theorem Tryz.directE (w:World):(Rtype.directlyAssignable 105 105).run Tryz.prog w=.ok true w:=by kernel_rfl
theorem Tryz.valueOfB (t:Addr)(w:World):(ReflectliteValue.unpack (.iface 109 (.pointer (some t)))).run Tryz.prog w
 = .ok (.agg #[.pointer (some ⟨2,109,none⟩),.pointer (some ⟨w.heap.size,0,none⟩),.int .u64 150]) (w.alloc (.cells #[.pointer (some t)] 109)):=by kernel_rfl
theorem Tryz.typeB (a : Addr) (w : World) : (ReflectliteValue.methodAny (ReflectliteValue.valueError "reflectlite.Value.Type" 0) (fun t _ _ _ => ReflectliteType.toType t) #[.agg #[.pointer (some ⟨2, 109, none⟩), .pointer (some a), .int .u64 150]]).run Tryz.prog w
 = .ok (.iface 165 (.agg #[.pointer (some ⟨2,109,none⟩)])) w:=by kernel_rfl
theorem Tryz.kindPB (w:World):((ReflectliteType.abiMethod fun t=>(fun a:Nat=>Value.int IntKind.u8 (a:Int)) <$> Rtype.kind t) #[.pointer (some ⟨2,109,none⟩)]).run Tryz.prog w=.ok (.int .u8 22) w:=by kernel_rfl
theorem Tryz.kindB (w:World):((ReflectliteType.abiMethod fun t=>(fun a:Nat=>Value.int IntKind.u8 (a:Int)) <$> Rtype.kind t) #[.pointer (some ⟨2,108,none⟩)]).run Tryz.prog w=.ok (.int .u8 22) w:=by kernel_rfl
theorem Tryz.partsPB (a:Addr)(w:World):(ReflectliteValue.parts (.agg #[.pointer (some ⟨2,109,none⟩),.pointer (some a),.int .u64 150])).run Tryz.prog w=.ok (some (109,a,150)) w:=by kernel_rfl
theorem Tryz.elemB (w:World):(ReflectliteType.method ReflectliteType.elem #[.agg #[.pointer (some ⟨2,109,none⟩)]]).run Tryz.prog w=.ok (.iface 165 (.agg #[.pointer (some ⟨2,108,none⟩)])) w:=by kernel_rfl
theorem Tryz.implementsB (w : World) : (ReflectliteType.relation "Implements" ReflectliteType.implements_ #[.agg #[.pointer (some ⟨2, 108, none⟩)], .iface 165 (.agg #[.pointer (some ⟨2, 64, none⟩)])]).run Tryz.prog w = .ok (.bool true) w := by kernel_rfl
theorem Tryz.ofE (n:Int)(w:World):(ReflectliteValue.unpack (.iface 105 (.int .i64 n))).run Tryz.prog w
 = .ok (.agg #[.pointer (some ⟨2,105,none⟩),.pointer (some ⟨w.heap.size,0,none⟩),.int .u64 130]) (w.alloc (.cells #[.int .i64 n] 105)):=by kernel_rfl
theorem Tryz.assignEB (w : World) : (ReflectliteType.relation "AssignableTo" ReflectliteType.assignableTo #[.agg #[.pointer (some ⟨2, 105, none⟩)], .iface 165 (.agg #[.pointer (some ⟨2, 108, none⟩)])]).run Tryz.prog w = .ok (.bool false) w := by kernel_rfl
theorem Tryz.noAsE (v:Value)(x:TypeId)(w:World):(Instr.typeAssert (.iface 105 v) x 170 true).run Tryz.prog w=.ok (.tuple #[.nilIface,.bool false]) w:=run_typeAssert_lacksB Tryz.underlying170 (by kernel_rfl) (by kernel_rfl) v x w
theorem Tryz.noUnE (v:Value)(x:TypeId)(w:World):(Instr.typeAssert (.iface 105 v) x 173 true).run Tryz.prog w=.ok (.tuple #[.nilIface,.bool false]) w:=run_typeAssert_lacksB Tryz.underlying173 (by kernel_rfl) (by kernel_rfl) v x w
theorem Tryz.noUnsE (v:Value)(x:TypeId)(w:World):(Instr.typeAssert (.iface 105 v) x 175 true).run Tryz.prog w=.ok (.tuple #[.nilIface,.bool false]) w:=run_typeAssert_lacksB Tryz.underlying175 (by kernel_rfl) (by kernel_rfl) v x w
theorem Tryz.isNilE (a p:Addr)(W:World)(ha:W.cell? a=some (.pointer (some p))) :
 (ReflectliteValue.method (ReflectliteValue.valueError "reflectlite.Value.IsNil" 0) ReflectliteValue.isNil #[.agg #[.pointer (some ⟨2, 107, none⟩), .pointer (some a), .int .u64 150]]).run Tryz.prog W = .ok (.bool false) W := by
 change (ReflectliteValue.parts (.agg #[.pointer (some ⟨2,107,none⟩),.pointer (some a),.int .u64 150]) >>= _:Sem Value).run Tryz.prog W=_
 simp only [Sem.run_bind,Tryz.partsPE,Result.andThen];simp [ReflectliteValue.isNil,loadVar,isAgg,underlying,Tryz.underlying107,ha,Result.andThen]
theorem Tryz.elemVE (a p:Addr)(W:World)(ha:W.cell? a=some (.pointer (some p))) :
 (ReflectliteValue.method (ReflectliteValue.valueError "reflectlite.Value.Elem" 0) ReflectliteValue.elem #[.agg #[.pointer (some ⟨2, 107, none⟩), .pointer (some a), .int .u64 150]]).run Tryz.prog W
  = .ok (.agg #[.pointer (some ⟨2,105,none⟩),.pointer (some p),.int .u64 386]) W:=by
 change (ReflectliteValue.parts (.agg #[.pointer (some ⟨2,107,none⟩),.pointer (some a),.int .u64 150]) >>= _:Sem Value).run Tryz.prog W=_
 simp only [Sem.run_bind,Tryz.partsPE,Result.andThen];simp [ReflectliteValue.elem,loadVar,isAgg,underlying,Tryz.underlying107,ha,Result.andThen,Tryz.elemOfE,Tryz.mkE]
theorem Tryz.setE (ta b:Addr)(n:Int)(old:Value)(W:World)(hb:W.cell? b=some (.int .i64 n))(ht:W.cell? ta=some old)(hf:W.frozen? ta=false) :
 (ReflectliteValue.set #[.agg #[.pointer (some ⟨2,105,none⟩),.pointer (some ta),.int .u64 386],.agg #[.pointer (some ⟨2,105,none⟩),.pointer (some b),.int .u64 130]]).run Tryz.prog W
  = .ok (.tuple #[]) (W.setCell ta (.int .i64 n)):=by
 change (ReflectliteValue.parts (.agg #[.pointer (some ⟨2,105,none⟩),.pointer (some ta),.int .u64 386]) >>= fun _=>ReflectliteValue.parts (.agg #[.pointer (some ⟨2,105,none⟩),.pointer (some b),.int .u64 130]) >>= _:Sem Value).run Tryz.prog W=_
 simp only [Sem.run_bind,Tryz.partsAE,Tryz.partsE,Result.andThen];simp [ReflectliteValue.flagAddr,loadVar,isAgg,underlying,Tryz.underlying105,hb,Result.andThen,Tryz.directE,storeVar,Value.cells,storeCells,Addr.add];rw [run_store Tryz.prog W ta _ _ (by rfl)];simp [ht,hf]
theorem Tryz.isNilB (a p:Addr)(W:World)(ha:W.cell? a=some (.pointer (some p))) :
 (ReflectliteValue.method (ReflectliteValue.valueError "reflectlite.Value.IsNil" 0) ReflectliteValue.isNil #[.agg #[.pointer (some ⟨2, 109, none⟩), .pointer (some a), .int .u64 150]]).run Tryz.prog W = .ok (.bool false) W := by
 change (ReflectliteValue.parts (.agg #[.pointer (some ⟨2,109,none⟩),.pointer (some a),.int .u64 150]) >>= _:Sem Value).run Tryz.prog W=_
 simp only [Sem.run_bind,Tryz.partsPB,Result.andThen];simp [ReflectliteValue.isNil,loadVar,isAgg,underlying,Tryz.underlying109,ha,Result.andThen]
end Go.Proofs.YtnlcfnjeagmemaaGreatDoor
