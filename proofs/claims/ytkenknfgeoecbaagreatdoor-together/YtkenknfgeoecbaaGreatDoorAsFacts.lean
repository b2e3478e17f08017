import Derived.Test.YtkenknfgeoecbaaGreatDoorProg
import Derived.Stop.Asserts
import Derived.Handy
namespace Go.Proofs.YtkenknfgeoecbaaGreatDoor
open Go.RowKit Go.Extern.Stop Go.Stop Go.Extern
theorem Tryz.valueOfE (t:Addr)(w:World):(ReflectliteValue.unpack (.iface 129 (.pointer (some t)))).run Tryz.prog w
 = .ok (.agg #[.pointer (some ⟨9,129,none⟩),.pointer (some ⟨w.heap.size,0,none⟩),.int .u64 150]) (w.alloc (.cells #[.pointer (some t)] 129)):=by kernel_rfl
theorem Tryz.typeE (a : Addr) (w : World) : (ReflectliteValue.methodAny (ReflectliteValue.valueError "reflectlite.Value.Type" 0) (fun t _ _ _ => ReflectliteType.toType t) #[.agg #[.pointer (some ⟨9, 129, none⟩), .pointer (some a), .int .u64 150]]).run Tryz.prog w
 = .ok (.iface 215 (.agg #[.pointer (some ⟨9,129,none⟩)])) w:=by kernel_rfl
theorem Tryz.kindPE (w:World):((ReflectliteType.abiMethod fun t=>(fun a:Nat=>Value.int IntKind.u8 (a:Int)) <$> Rtype.kind t) #[.pointer (some ⟨9,129,none⟩)]).run Tryz.prog w=.ok (.int .u8 22) w:=by kernel_rfl
theorem Tryz.kindE (w:World):((ReflectliteType.abiMethod fun t=>(fun a:Nat=>Value.int IntKind.u8 (a:Int)) <$> Rtype.kind t) #[.pointer (some ⟨9,127,none⟩)]).run Tryz.prog w=.ok (.int .u8 2) w:=by kernel_rfl
theorem Tryz.partsPE (a:Addr)(w:World):(ReflectliteValue.parts (.agg #[.pointer (some ⟨9,129,none⟩),.pointer (some a),.int .u64 150])).run Tryz.prog w=.ok (some (129,a,150)) w:=by kernel_rfl
theorem Tryz.elemE (w:World):(ReflectliteType.method ReflectliteType.elem #[.agg #[.pointer (some ⟨9,129,none⟩)]]).run Tryz.prog w=.ok (.iface 215 (.agg #[.pointer (some ⟨9,127,none⟩)])) w:=by kernel_rfl
theorem Tryz.implementsE (w : World) : (ReflectliteType.relation "Implements" ReflectliteType.implements_ #[.agg #[.pointer (some ⟨9, 127, none⟩)], .iface 215 (.agg #[.pointer (some ⟨9, 93, none⟩)])]).run Tryz.prog w = .ok (.bool true) w := by kernel_rfl
theorem Tryz.typeOfE (v:Value)(w:World):(ReflectliteType.typeOf #[.iface 127 v]).run Tryz.prog w=.ok (.iface 215 (.agg #[.pointer (some ⟨9,127,none⟩)])) w:=by kernel_rfl
theorem Tryz.assignE (w : World) : (ReflectliteType.relation "AssignableTo" ReflectliteType.assignableTo #[.agg #[.pointer (some ⟨9, 127, none⟩)], .iface 215 (.agg #[.pointer (some ⟨9, 127, none⟩)])]).run Tryz.prog w = .ok (.bool true) w := by kernel_rfl
theorem Tryz.elemOfE (w:World):(Rtype.elem? 129).run Tryz.prog w=.ok (some 127) w:=by kernel_rfl
theorem Tryz.mkE (p:Addr)(w:World):(ReflectliteValue.mk 127 p ReflectliteValue.flagAddr).run Tryz.prog w=.ok (.agg #[.pointer (some ⟨9,127,none⟩),.pointer (some p),.int .u64 386]) w:=by kernel_rfl
theorem Tryz.partsAE (a:Addr)(w:World):(ReflectliteValue.parts (.agg #[.pointer (some ⟨9,127,none⟩),.pointer (some a),.int .u64 386])).run Tryz.prog w=.ok (some (127,a,386)) w:=by kernel_rfl
theorem Tryz.partsE (a:Addr)(w:World):(ReflectliteValue.parts (.agg #[.pointer (some ⟨9,127,none⟩),.pointer (some a),.int .u64 130])).run Tryz.prog w=.ok (some (127,a,130)) w:=by kernel_rfl
theorem Tryz.directE (w:World):(Rtype.directlyAssignable 127 127).run Tryz.prog w=.ok true w:=by kernel_rfl
theorem Tryz.valueOfB (t:Addr)(w:World):(ReflectliteValue.unpack (.iface 131 (.pointer (some t)))).run Tryz.prog w
 = .ok (.agg #[.pointer (some ⟨9,131,none⟩),.pointer (some ⟨w.heap.size,0,none⟩),.int .u64 150]) (w.alloc (.cells #[.pointer (some t)] 131)):=by kernel_rfl
theorem Tryz.typeB (a : Addr) (w : World) : (ReflectliteValue.methodAny (ReflectliteValue.valueError "reflectlite.Value.Type" 0) (fun t _ _ _ => ReflectliteType.toType t) #[.agg #[.pointer (some ⟨9, 131, none⟩), .pointer (some a), .int .u64 150]]).run Tryz.prog w
 = .ok (.iface 215 (.agg #[.pointer (some ⟨9,131,none⟩)])) w:=by kernel_rfl
theorem Tryz.kindPB (w:World):((ReflectliteType.abiMethod fun t=>(fun a:Nat=>Value.int IntKind.u8 (a:Int)) <$> Rtype.kind t) #[.pointer (some ⟨9,131,none⟩)]).run Tryz.prog w=.ok (.int .u8 22) w:=by kernel_rfl
theorem Tryz.kindB (w:World):((ReflectliteType.abiMethod fun t=>(fun a:Nat=>Value.int IntKind.u8 (a:Int)) <$> Rtype.kind t) #[.pointer (some ⟨9,130,none⟩)]).run Tryz.prog w=.ok (.int .u8 22) w:=by kernel_rfl
theorem Tryz.partsPB (a:Addr)(w:World):(ReflectliteValue.parts (.agg #[.pointer (some ⟨9,131,none⟩),.pointer (some a),.int .u64 150])).run Tryz.prog w=.ok (some (131,a,150)) w:=by kernel_rfl
theorem Tryz.elemB (w:World):(ReflectliteType.method ReflectliteType.elem #[.agg #[.pointer (some ⟨9,131,none⟩)]]).run Tryz.prog w=.ok (.iface 215 (.agg #[.pointer (some ⟨9,130,none⟩)])) w:=by kernel_rfl
theorem Tryz.implementsB (w : World) : (ReflectliteType.relation "Implements" ReflectliteType.implements_ #[.agg #[.pointer (some ⟨9, 130, none⟩)], .iface 215 (.agg #[.pointer (some ⟨9, 93, none⟩)])]).run Tryz.prog w = .ok (.bool true) w := by kernel_rfl
theorem Tryz.typeOfB (v:Value)(w:World):(ReflectliteType.typeOf #[.iface 130 v]).run Tryz.prog w=.ok (.iface 215 (.agg #[.pointer (some ⟨9,130,none⟩)])) w:=by kernel_rfl
theorem Tryz.assignB (w : World) : (ReflectliteType.relation "AssignableTo" ReflectliteType.assignableTo #[.agg #[.pointer (some ⟨9, 130, none⟩)], .iface 215 (.agg #[.pointer (some ⟨9, 130, none⟩)])]).run Tryz.prog w = .ok (.bool true) w := by kernel_rfl
theorem Tryz.elemOfB (w:World):(Rtype.elem? 131).run Tryz.prog w=.ok (some 130) w:=by kernel_rfl
theorem Tryz.mkB (p:Addr)(w:World):(ReflectliteValue.mk 130 p ReflectliteValue.flagAddr).run Tryz.prog w=.ok (.agg #[.pointer (some ⟨9,130,none⟩),.pointer (some p),.int .u64 406]) w:=by kernel_rfl
theorem Tryz.partsAB (a:Addr)(w:World):(ReflectliteValue.parts (.agg #[.pointer (some ⟨9,130,none⟩),.pointer (some a),.int .u64 406])).run Tryz.prog w=.ok (some (130,a,406)) w:=by kernel_rfl
theorem Tryz.partsB (a:Addr)(w:World):(ReflectliteValue.parts (.agg #[.pointer (some ⟨9,130,none⟩),.pointer (some a),.int .u64 150])).run Tryz.prog w=.ok (some (130,a,150)) w:=by kernel_rfl
theorem Tryz.directB (w:World):(Rtype.directlyAssignable 130 130).run Tryz.prog w=.ok true w:=by kernel_rfl
theorem Tryz.ofE (n:Int)(w:World):(ReflectliteValue.unpack (.iface 127 (.int .i64 n))).run Tryz.prog w
 = .ok (.agg #[.pointer (some ⟨9,127,none⟩),.pointer (some ⟨w.heap.size,0,none⟩),.int .u64 130]) (w.alloc (.cells #[.int .i64 n] 127)):=by kernel_rfl
theorem Tryz.ofB (e:Addr)(w:World):(ReflectliteValue.unpack (.iface 130 (.pointer (some e)))).run Tryz.prog w
 = .ok (.agg #[.pointer (some ⟨9,130,none⟩),.pointer (some ⟨w.heap.size,0,none⟩),.int .u64 150]) (w.alloc (.cells #[.pointer (some e)] 130)):=by kernel_rfl
theorem Tryz.assignEB (w : World) : (ReflectliteType.relation "AssignableTo" ReflectliteType.assignableTo #[.agg #[.pointer (some ⟨9, 127, none⟩)], .iface 215 (.agg #[.pointer (some ⟨9, 130, none⟩)])]).run Tryz.prog w = .ok (.bool false) w := by kernel_rfl
theorem Tryz.assignBE (w : World) : (ReflectliteType.relation "AssignableTo" ReflectliteType.assignableTo #[.agg #[.pointer (some ⟨9, 130, none⟩)], .iface 215 (.agg #[.pointer (some ⟨9, 127, none⟩)])]).run Tryz.prog w = .ok (.bool false) w := by kernel_rfl
theorem Tryz.noAsE (v:Value)(x:TypeId)(w:World):(Instr.typeAssert (.iface 127 v) x 220 true).run Tryz.prog w=.ok (.tuple #[.nilIface,.bool false]) w:=run_typeAssert_lacksB Tryz.underlying220 (by kernel_rfl) (by kernel_rfl) v x w
theorem Tryz.noAsB (v:Value)(x:TypeId)(w:World):(Instr.typeAssert (.iface 130 v) x 220 true).run Tryz.prog w=.ok (.tuple #[.nilIface,.bool false]) w:=run_typeAssert_lacksB Tryz.underlying220 (by kernel_rfl) (by kernel_rfl) v x w
theorem Tryz.noUnE (v:Value)(x:TypeId)(w:World):(Instr.typeAssert (.iface 127 v) x 223 true).run Tryz.prog w=.ok (.tuple #[.nilIface,.bool false]) w:=run_typeAssert_lacksB Tryz.underlying223 (by kernel_rfl) (by kernel_rfl) v x w
theorem Tryz.unB (v:Value)(x:TypeId)(w:World):(Instr.typeAssert (.iface 130 v) x 223 true).run Tryz.prog w=.ok (.tuple #[.iface 130 v,.bool true]) w:=run_typeAssert_hasB Tryz.underlying223 (by kernel_rfl) v x w
theorem Tryz.noUnsE (v:Value)(x:TypeId)(w:World):(Instr.typeAssert (.iface 127 v) x 225 true).run Tryz.prog w=.ok (.tuple #[.nilIface,.bool false]) w:=run_typeAssert_lacksB Tryz.underlying225 (by kernel_rfl) (by kernel_rfl) v x w
theorem Tryz.isNilE (a p:Addr)(W:World)(ha:W.cell? a=some (.pointer (some p))) :
 (ReflectliteValue.method (ReflectliteValue.valueError "reflectlite.Value.IsNil" 0) ReflectliteValue.isNil #[.agg #[.pointer (some ⟨9, 129, none⟩), .pointer (some a), .int .u64 150]]).run Tryz.prog W = .ok (.bool false) W := by
 change (ReflectliteValue.parts (.agg #[.pointer (some ⟨9,129,none⟩),.pointer (some a),.int .u64 150]) >>= _:Sem Value).run Tryz.prog W=_
 simp only [Sem.run_bind,Tryz.partsPE,Result.andThen];simp [ReflectliteValue.isNil,loadVar,isAgg,underlying,Tryz.underlying129,ha,Result.andThen]
theorem Tryz.elemVE (a p:Addr)(W:World)(ha:W.cell? a=some (.pointer (some p))) :
 (ReflectliteValue.method (ReflectliteValue.valueError "reflectlite.Value.Elem" 0) ReflectliteValue.elem #[.agg #[.pointer (some ⟨9, 129, none⟩), .pointer (some a), .int .u64 150]]).run Tryz.prog W
  = .ok (.agg #[.pointer (some ⟨9,127,none⟩),.pointer (some p),.int .u64 386]) W:=by
 change (ReflectliteValue.parts (.agg #[.pointer (some ⟨9,129,none⟩),.pointer (some a),.int .u64 150]) >>= _:Sem Value).run Tryz.prog W=_
 simp only [Sem.run_bind,Tryz.partsPE,Result.andThen];simp [ReflectliteValue.elem,loadVar,isAgg,underlying,Tryz.underlying129,ha,Result.andThen,Tryz.elemOfE,Tryz.mkE]
theorem Tryz.setE (ta b:Addr)(n:Int)(old:Value)(W:World)(hb:W.cell? b=some (.int .i64 n))(ht:W.cell? ta=some old)(hf:W.frozen? ta=false) :
 (ReflectliteValue.set #[.agg #[.pointer (some ⟨9,127,none⟩),.pointer (some ta),.int .u64 386],.agg #[.pointer (some ⟨9,127,none⟩),.pointer (some b),.int .u64 130]]).run Tryz.prog W
  = .ok (.tuple #[]) (W.setCell ta (.int .i64 n)):=by
 change (ReflectliteValue.parts (.agg #[.pointer (some ⟨9,127,none⟩),.pointer (some ta),.int .u64 386]) >>= fun _=>ReflectliteValue.parts (.agg #[.pointer (some ⟨9,127,none⟩),.pointer (some b),.int .u64 130]) >>= _:Sem Value).run Tryz.prog W=_
 simp only [Sem.run_bind,Tryz.partsAE,Tryz.partsE,Result.andThen];simp [ReflectliteValue.flagAddr,loadVar,isAgg,underlying,Tryz.underlying127,hb,Result.andThen,Tryz.directE,storeVar,Value.cells,storeCells,Addr.add];rw [run_store Tryz.prog W ta _ _ (by rfl)];simp [ht,hf]
theorem Tryz.isNilB (a p:Addr)(W:World)(ha:W.cell? a=some (.pointer (some p))) :
 (ReflectliteValue.method (ReflectliteValue.valueError "reflectlite.Value.IsNil" 0) ReflectliteValue.isNil #[.agg #[.pointer (some ⟨9, 131, none⟩), .pointer (some a), .int .u64 150]]).run Tryz.prog W = .ok (.bool false) W := by
 change (ReflectliteValue.parts (.agg #[.pointer (some ⟨9,131,none⟩),.pointer (some a),.int .u64 150]) >>= _:Sem Value).run Tryz.prog W=_
 simp only [Sem.run_bind,Tryz.partsPB,Result.andThen];simp [ReflectliteValue.isNil,loadVar,isAgg,underlying,Tryz.underlying131,ha,Result.andThen]
theorem Tryz.elemVB (a p:Addr)(W:World)(ha:W.cell? a=some (.pointer (some p))) :
 (ReflectliteValue.method (ReflectliteValue.valueError "reflectlite.Value.Elem" 0) ReflectliteValue.elem #[.agg #[.pointer (some ⟨9, 131, none⟩), .pointer (some a), .int .u64 150]]).run Tryz.prog W
  = .ok (.agg #[.pointer (some ⟨9,130,none⟩),.pointer (some p),.int .u64 406]) W:=by
 change (ReflectliteValue.parts (.agg #[.pointer (some ⟨9,131,none⟩),.pointer (some a),.int .u64 150]) >>= _:Sem Value).run Tryz.prog W=_
 simp only [Sem.run_bind,Tryz.partsPB,Result.andThen];simp [ReflectliteValue.elem,loadVar,isAgg,underlying,Tryz.underlying131,ha,Result.andThen,Tryz.elemOfB,Tryz.mkB]
theorem Tryz.setB (ta b:Addr)(e:Addr)(old:Value)(W:World)(hb:W.cell? b=some (.pointer (some e)))(ht:W.cell? ta=some old)(hf:W.frozen? ta=false) :
 (ReflectliteValue.set #[.agg #[.pointer (some ⟨9,130,none⟩),.pointer (some ta),.int .u64 406],.agg #[.pointer (some ⟨9,130,none⟩),.pointer (some b),.int .u64 150]]).run Tryz.prog W
  = .ok (.tuple #[]) (W.setCell ta (.pointer (some e))):=by
 change (ReflectliteValue.parts (.agg #[.pointer (some ⟨9,130,none⟩),.pointer (some ta),.int .u64 406]) >>= fun _=>ReflectliteValue.parts (.agg #[.pointer (some ⟨9,130,none⟩),.pointer (some b),.int .u64 150]) >>= _:Sem Value).run Tryz.prog W=_
 simp only [Sem.run_bind,Tryz.partsAB,Tryz.partsB,Result.andThen];simp [ReflectliteValue.flagAddr,loadVar,isAgg,underlying,Tryz.underlying130,hb,Result.andThen,Tryz.directB,storeVar,Value.cells,storeCells,Addr.add];rw [run_store Tryz.prog W ta _ _ (by rfl)];simp [ht,hf]
end Go.Proofs.YtkenknfgeoecbaaGreatDoor
