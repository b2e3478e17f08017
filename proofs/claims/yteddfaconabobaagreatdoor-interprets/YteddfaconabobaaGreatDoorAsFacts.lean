import Derived.Test.YteddfaconabobaaGreatDoorProg
import Derived.WalkKit
import Derived.LaidEql
import Derived.Stop.Asserts
import Derived.RowKitTokens
import Derived.Handy
namespace Go.Proofs.YteddfaconabobaaGreatDoor
open Go.RowKit Go.Extern.Stop Go.Stop Go.Extern
theorem Tryz.valueOfE (t:Addr)(w:World):(ReflectliteValue.unpack (.iface 89 (.pointer (some t)))).run Tryz.prog w
 = .ok (.agg #[.pointer (some ⟨2,89,none⟩),.pointer (some ⟨w.heap.size,0,none⟩),.int .u64 150]) (w.alloc (.cells #[.pointer (some t)] 89)):=by kernel_rfl
theorem Tryz.typeE (a : Addr) (w : World) : (ReflectliteValue.methodAny (ReflectliteValue.valueError "reflectlite.Value.Type" 0) (fun t _ _ _ => ReflectliteType.toType t) #[.agg #[.pointer (some ⟨2, 89, none⟩), .pointer (some a), .int .u64 150]]).run Tryz.prog w
 = .ok (.iface 153 (.agg #[.pointer (some ⟨2,89,none⟩)])) w:=by kernel_rfl
theorem Tryz.kindPE (w:World):((ReflectliteType.abiMethod fun t=>(fun a:Nat=>Value.int IntKind.u8 (a:Int)) <$> Rtype.kind t) #[.pointer (some ⟨2,89,none⟩)]).run Tryz.prog w=.ok (.int .u8 22) w:=by kernel_rfl
theorem Tryz.kindE (w:World):((ReflectliteType.abiMethod fun t=>(fun a:Nat=>Value.int IntKind.u8 (a:Int)) <$> Rtype.kind t) #[.pointer (some ⟨2,87,none⟩)]).run Tryz.prog w=.ok (.int .u8 2) w:=by kernel_rfl
theorem Tryz.partsPE (a:Addr)(w:World):(ReflectliteValue.parts (.agg #[.pointer (some ⟨2,89,none⟩),.pointer (some a),.int .u64 150])).run Tryz.prog w=.ok (some (89,a,150)) w:=by kernel_rfl
theorem Tryz.elemE (w:World):(ReflectliteType.method ReflectliteType.elem #[.agg #[.pointer (some ⟨2,89,none⟩)]]).run Tryz.prog w=.ok (.iface 153 (.agg #[.pointer (some ⟨2,87,none⟩)])) w:=by kernel_rfl
theorem Tryz.implementsE (w : World) : (ReflectliteType.relation "Implements" ReflectliteType.implements_ #[.agg #[.pointer (some ⟨2, 87, none⟩)], .iface 153 (.agg #[.pointer (some ⟨2, 67, none⟩)])]).run Tryz.prog w = .ok (.bool true) w := by kernel_rfl
theorem Tryz.typeOfE (v:Value)(w:World):(ReflectliteType.typeOf #[.iface 87 v]).run Tryz.prog w=.ok (.iface 153 (.agg #[.pointer (some ⟨2,87,none⟩)])) w:=by kernel_rfl
theorem Tryz.assignE (w : World) : (ReflectliteType.relation "AssignableTo" ReflectliteType.assignableTo #[.agg #[.pointer (some ⟨2, 87, none⟩)], .iface 153 (.agg #[.pointer (some ⟨2, 87, none⟩)])]).run Tryz.prog w = .ok (.bool true) w := by kernel_rfl
theorem Tryz.elemOfE (w:World):(Rtype.elem? 89).run Tryz.prog w=.ok (some 87) w:=by kernel_rfl
theorem Tryz.mkE (p:Addr)(w:World):(ReflectliteValue.mk 87 p ReflectliteValue.flagAddr).run Tryz.prog w=.ok (.agg #[.pointer (some ⟨2,87,none⟩),.pointer (some p),.int .u64 386]) w:=by kernel_rfl
theorem Tryz.partsAE (a:Addr)(w:World):(ReflectliteValue.parts (.agg #[.pointer (some ⟨2,87,none⟩),.pointer (some a),.int .u64 386])).run Tryz.prog w=.ok (some (87,a,386)) w:=by kernel_rfl
theorem Tryz.partsE (a:Addr)(w:World):(ReflectliteValue.parts (.agg #[.pointer (some ⟨2,87,none⟩),.pointer (some a),.int .u64 130])).run Tryz.prog w=.ok (some (87,a,130)) w:=by kernel_rfl
theorem Tryz.directE (w:World):(Rtype.directlyAssignable 87 87).run Tryz.prog w=.ok true w:=by kernel_rfl
theorem Tryz.valueOfB (t:Addr)(w:World):(ReflectliteValue.unpack (.iface 91 (.pointer (some t)))).run Tryz.prog w
 = .ok (.agg #[.pointer (some ⟨2,91,none⟩),.pointer (some ⟨w.heap.size,0,none⟩),.int .u64 150]) (w.alloc (.cells #[.pointer (some t)] 91)):=by kernel_rfl
theorem Tryz.typeB (a : Addr) (w : World) : (ReflectliteValue.methodAny (ReflectliteValue.valueError "reflectlite.Value.Type" 0) (fun t _ _ _ => ReflectliteType.toType t) #[.agg #[.pointer (some ⟨2, 91, none⟩), .pointer (some a), .int .u64 150]]).run Tryz.prog w
 = .ok (.iface 153 (.agg #[.pointer (some ⟨2,91,none⟩)])) w:=by kernel_rfl
theorem Tryz.kindPB (w:World):((ReflectliteType.abiMethod fun t=>(fun a:Nat=>Value.int IntKind.u8 (a:Int)) <$> Rtype.kind t) #[.pointer (some ⟨2,91,none⟩)]).run Tryz.prog w=.ok (.int .u8 22) w:=by kernel_rfl
theorem Tryz.kindB (w:World):((ReflectliteType.abiMethod fun t=>(fun a:Nat=>Value.int IntKind.u8 (a:Int)) <$> Rtype.kind t) #[.pointer (some ⟨2,90,none⟩)]).run Tryz.prog w=.ok (.int .u8 22) w:=by kernel_rfl
theorem Tryz.partsPB (a:Addr)(w:World):(ReflectliteValue.parts (.agg #[.pointer (some ⟨2,91,none⟩),.pointer (some a),.int .u64 150])).run Tryz.prog w=.ok (some (91,a,150)) w:=by kernel_rfl
theorem Tryz.elemB (w:World):(ReflectliteType.method ReflectliteType.elem #[.agg #[.pointer (some ⟨2,91,none⟩)]]).run Tryz.prog w=.ok (.iface 153 (.agg #[.pointer (some ⟨2,90,none⟩)])) w:=by kernel_rfl
theorem Tryz.implementsB (w : World) : (ReflectliteType.relation "Implements" ReflectliteType.implements_ #[.agg #[.pointer (some ⟨2, 90, none⟩)], .iface 153 (.agg #[.pointer (some ⟨2, 67, none⟩)])]).run Tryz.prog w = .ok (.bool true) w := by kernel_rfl
theorem Tryz.typeOfB (v:Value)(w:World):(ReflectliteType.typeOf #[.iface 90 v]).run Tryz.prog w=.ok (.iface 153 (.agg #[.pointer (some ⟨2,90,none⟩)])) w:=by kernel_rfl
theorem Tryz.assignB (w : World) : (ReflectliteType.relation "AssignableTo" ReflectliteType.assignableTo #[.agg #[.pointer (some ⟨2, 90, none⟩)], .iface 153 (.agg #[.pointer (some ⟨2, 90, none⟩)])]).run Tryz.prog w = .ok (.bool true) w := by kernel_rfl
theorem Tryz.elemOfB (w:World):(Rtype.elem? 91).run Tryz.prog w=.ok (some 90) w:=by kernel_rfl
theorem Tryz.mkB (p:Addr)(w:World):(ReflectliteValue.mk 90 p ReflectliteValue.flagAddr).run Tryz.prog w=.ok (.agg #[.pointer (some ⟨2,90,none⟩),.pointer (some p),.int .u64 406]) w:=by kernel_rfl
theorem Tryz.partsAB (a:Addr)(w:World):(ReflectliteValue.parts (.agg #[.pointer (some ⟨2,90,none⟩),.pointer (some a),.int .u64 406])).run Tryz.prog w=.ok (some (90,a,406)) w:=by kernel_rfl
theorem Tryz.partsB (a:Addr)(w:World):(ReflectliteValue.parts (.agg #[.pointer (some ⟨2,90,none⟩),.pointer (some a),.int .u64 150])).run Tryz.prog w=.ok (some (90,a,150)) w:=by kernel_rfl
theorem Tryz.directB (w:World):(Rtype.directlyAssignable 90 90).run Tryz.prog w=.ok true w:=by kernel_rfl
theorem Tryz.ofE (n:Int)(w:World):(ReflectliteValue.unpack (.iface 87 (.int .i64 n))).run Tryz.prog w
 = .ok (.agg #[.pointer (some ⟨2,87,none⟩),.pointer (some ⟨w.heap.size,0,none⟩),.int .u64 130]) (w.alloc (.cells #[.int .i64 n] 87)):=by kernel_rfl
theorem Tryz.ofB (e:Addr)(w:World):(ReflectliteValue.unpack (.iface 90 (.pointer (some e)))).run Tryz.prog w
 = .ok (.agg #[.pointer (some ⟨2,90,none⟩),.pointer (some ⟨w.heap.size,0,none⟩),.int .u64 150]) (w.alloc (.cells #[.pointer (some e)] 90)):=by kernel_rfl
theorem Tryz.assignEB (w : World) : (ReflectliteType.relation "AssignableTo" ReflectliteType.assignableTo #[.agg #[.pointer (some ⟨2, 87, none⟩)], .iface 153 (.agg #[.pointer (some ⟨2, 90, none⟩)])]).run Tryz.prog w = .ok (.bool false) w := by kernel_rfl
theorem Tryz.assignBE (w : World) : (ReflectliteType.relation "AssignableTo" ReflectliteType.assignableTo #[.agg #[.pointer (some ⟨2, 90, none⟩)], .iface 153 (.agg #[.pointer (some ⟨2, 87, none⟩)])]).run Tryz.prog w = .ok (.bool false) w := by kernel_rfl
theorem Tryz.noAsE (v:Value)(x:TypeId)(w:World):(Instr.typeAssert (.iface 87 v) x 158 true).run Tryz.prog w=.ok (.tuple #[.nilIface,.bool false]) w:=run_typeAssert_lacksB Tryz.underlying158 (by kernel_rfl) (by kernel_rfl) v x w
theorem Tryz.noAsB (v:Value)(x:TypeId)(w:World):(Instr.typeAssert (.iface 90 v) x 158 true).run Tryz.prog w=.ok (.tuple #[.nilIface,.bool false]) w:=run_typeAssert_lacksB Tryz.underlying158 (by kernel_rfl) (by kernel_rfl) v x w
theorem Tryz.noUnE (v:Value)(x:TypeId)(w:World):(Instr.typeAssert (.iface 87 v) x 161 true).run Tryz.prog w=.ok (.tuple #[.nilIface,.bool false]) w:=run_typeAssert_lacksB Tryz.underlying161 (by kernel_rfl) (by kernel_rfl) v x w
theorem Tryz.unB (v:Value)(x:TypeId)(w:World):(Instr.typeAssert (.iface 90 v) x 161 true).run Tryz.prog w=.ok (.tuple #[.iface 90 v,.bool true]) w:=run_typeAssert_hasB Tryz.underlying161 (by kernel_rfl) v x w
theorem Tryz.noUnsE (v:Value)(x:TypeId)(w:World):(Instr.typeAssert (.iface 87 v) x 163 true).run Tryz.prog w=.ok (.tuple #[.nilIface,.bool false]) w:=run_typeAssert_lacksB Tryz.underlying163 (by kernel_rfl) (by kernel_rfl) v x w
theorem Tryz.isNilE (a p:Addr)(W:World)(ha:W.cell? a=some (.pointer (some p))) :
 (ReflectliteValue.method (ReflectliteValue.valueError "reflectlite.Value.IsNil" 0) ReflectliteValue.isNil #[.agg #[.pointer (some ⟨2, 89, none⟩), .pointer (some a), .int .u64 150]]).run Tryz.prog W = .ok (.bool false) W := by
 change (ReflectliteValue.parts (.agg #[.pointer (some ⟨2,89,none⟩),.pointer (some a),.int .u64 150]) >>= _:Sem Value).run Tryz.prog W=_
 simp only [Sem.run_bind,Tryz.partsPE,Result.andThen];simp [ReflectliteValue.isNil,loadVar,isAgg,underlying,Tryz.underlying89,ha,Result.andThen]
theorem Tryz.elemVE (a p:Addr)(W:World)(ha:W.cell? a=some (.pointer (some p))) :
 (ReflectliteValue.method (ReflectliteValue.valueError "reflectlite.Value.Elem" 0) ReflectliteValue.elem #[.agg #[.pointer (some ⟨2, 89, none⟩), .pointer (some a), .int .u64 150]]).run Tryz.prog W
  = .ok (.agg #[.pointer (some ⟨2,87,none⟩),.pointer (some p),.int .u64 386]) W:=by
 change (ReflectliteValue.parts (.agg #[.pointer (some ⟨2,89,none⟩),.pointer (some a),.int .u64 150]) >>= _:Sem Value).run Tryz.prog W=_
 simp only [Sem.run_bind,Tryz.partsPE,Result.andThen];simp [ReflectliteValue.elem,loadVar,isAgg,underlying,Tryz.underlying89,ha,Result.andThen,Tryz.elemOfE,Tryz.mkE]
theorem Tryz.setE (ta b:Addr)(n:Int)(old:Value)(W:World)(hb:W.cell? b=some (.int .i64 n))(ht:W.cell? ta=some old)(hf:W.frozen? ta=false) :
 (ReflectliteValue.set #[.agg #[.pointer (some ⟨2,87,none⟩),.pointer (some ta),.int .u64 386],.agg #[.pointer (some ⟨2,87,none⟩),.pointer (some b),.int .u64 130]]).run Tryz.prog W
  = .ok (.tuple #[]) (W.setCell ta (.int .i64 n)):=by
 change (ReflectliteValue.parts (.agg #[.pointer (some ⟨2,87,none⟩),.pointer (some ta),.int .u64 386]) >>= fun _=>ReflectliteValue.parts (.agg #[.pointer (some ⟨2,87,none⟩),.pointer (some b),.int .u64 130]) >>= _:Sem Value).run Tryz.prog W=_
 simp only [Sem.run_bind,Tryz.partsAE,Tryz.partsE,Result.andThen];simp [ReflectliteValue.flagAddr,loadVar,isAgg,underlying,Tryz.underlying87,hb,Result.andThen,Tryz.directE,storeVar,Value.cells,storeCells,Addr.add];rw [run_store Tryz.prog W ta _ _ (by rfl)];simp [ht,hf]
theorem Tryz.isNilB (a p:Addr)(W:World)(ha:W.cell? a=some (.pointer (some p))) :
 (ReflectliteValue.method (ReflectliteValue.valueError "reflectlite.Value.IsNil" 0) ReflectliteValue.isNil #[.agg #[.pointer (some ⟨2, 91, none⟩), .pointer (some a), .int .u64 150]]).run Tryz.prog W = .ok (.bool false) W := by
 change (ReflectliteValue.parts (.agg #[.pointer (some ⟨2,91,none⟩),.pointer (some a),.int .u64 150]) >>= _:Sem Value).run Tryz.prog W=_
 simp only [Sem.run_bind,Tryz.partsPB,Result.andThen];simp [ReflectliteValue.isNil,loadVar,isAgg,underlying,Tryz.underlying91,ha,Result.andThen]
theorem Tryz.elemVB (a p:Addr)(W:World)(ha:W.cell? a=some (.pointer (some p))) :
 (ReflectliteValue.method (ReflectliteValue.valueError "reflectlite.Value.Elem" 0) ReflectliteValue.elem #[.agg #[.pointer (some ⟨2, 91, none⟩), .pointer (some a), .int .u64 150]]).run Tryz.prog W
  = .ok (.agg #[.pointer (some ⟨2,90,none⟩),.pointer (some p),.int .u64 406]) W:=by
 change (ReflectliteValue.parts (.agg #[.pointer (some ⟨2,91,none⟩),.pointer (some a),.int .u64 150]) >>= _:Sem Value).run Tryz.prog W=_
 simp only [Sem.run_bind,Tryz.partsPB,Result.andThen];simp [ReflectliteValue.elem,loadVar,isAgg,underlying,Tryz.underlying91,ha,Result.andThen,Tryz.elemOfB,Tryz.mkB]
theorem Tryz.setB (ta b:Addr)(e:Addr)(old:Value)(W:World)(hb:W.cell? b=some (.pointer (some e)))(ht:W.cell? ta=some old)(hf:W.frozen? ta=false) :
 (ReflectliteValue.set #[.agg #[.pointer (some ⟨2,90,none⟩),.pointer (some ta),.int .u64 406],.agg #[.pointer (some ⟨2,90,none⟩),.pointer (some b),.int .u64 150]]).run Tryz.prog W
  = .ok (.tuple #[]) (W.setCell ta (.pointer (some e))):=by
 change (ReflectliteValue.parts (.agg #[.pointer (some ⟨2,90,none⟩),.pointer (some ta),.int .u64 406]) >>= fun _=>ReflectliteValue.parts (.agg #[.pointer (some ⟨2,90,none⟩),.pointer (some b),.int .u64 150]) >>= _:Sem Value).run Tryz.prog W=_
 simp only [Sem.run_bind,Tryz.partsAB,Tryz.partsB,Result.andThen];simp [ReflectliteValue.flagAddr,loadVar,isAgg,underlying,Tryz.underlying90,hb,Result.andThen,Tryz.directB,storeVar,Value.cells,storeCells,Addr.add];rw [run_store Tryz.prog W ta _ _ (by rfl)];simp [ht,hf]
end Go.Proofs.YteddfaconabobaaGreatDoor
