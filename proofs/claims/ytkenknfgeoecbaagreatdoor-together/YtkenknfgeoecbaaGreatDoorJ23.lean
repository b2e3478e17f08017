import Derived.Test.YtkenknfgeoecbaaGreatDoorJ12
import Derived.LaidSub
import Derived.Lib.LaidU8
import Derived.Lay
import Derived.Laws.CopyOwn
import Derived.Test.YtkenknfgeoecbaaGreatDoorJ3
import Derived.Test.YtkenknfgeoecbaaGreatDoorCards
import Derived.SevenTiedAt
namespace Go.Proofs.YtkenknfgeoecbaaGreatDoor
open Go.ChangeShapes Go.WideShapes Go.ChangeAt Go.RowKit
theorem Tryz.ownE:ownKnob Tryz.prog.godebug=none:=by kernel_rfl
theorem Tryz.laidOutE:laidOutB Tryz.prog=true:=by kernel_rfl
theorem Tryz.etE : Tryz.prog.globalNamed "errors.errorType" = some 0 := by kernel_rfl
theorem Tryz.rtE : (Tryz.prog.cutTypes.find? (·.1 == "internal/reflectlite.rtype")).map (·.2) = some 215 := by kernel_rfl
theorem Tryz.oneRowE:((List.range 540).filter fun t=>Tryz.prog.rowNamed t [101,114,114,111,114])=[93]:=by kernel_rfl
theorem Tryz.sizeE:Tryz.prog.types.size=540:=by kernel_rfl
theorem Tryz.handE:typeHandle Tryz.prog 93=.pointer (some ⟨9,93,none⟩):=by kernel_rfl
theorem Tryz.gNeedE : Tryz.prog.globalNamed "prologue/program.needed" = some 2 := by kernel_rfl
theorem Tryz.gNeedTE:(Tryz.prog.globals[2]?).map (·.type)=some 377:=by kernel_rfl
theorem Tryz.cellsFieldsE:Tryz.prog.cellsOf 339=1:=by kernel_rfl
theorem Tryz.cellsNeedE:Tryz.prog.cellsOf 377=19:=by kernel_rfl
theorem Zql:(Rows.laid_prologue_program_needed:DataW Unit)=Lib.tabData .u8 Zbs:=by kernel_rfl
theorem Zbv {W : World} (h : Lib.VarReads Tryz.prog W "prologue/program.needed" Rows.laid_prologue_program_needed) : Zo W := by
 obtain⟨g,t,cs,fuel,p,hg,ht,hv,hd⟩:=h;obtain rfl:=Option.some.inj (Tryz.gNeedE.symm.trans hg);obtain rfl:=Option.some.inj (Tryz.gNeedTE.symm.trans ht);rw [Zql] at hd;have hc:=Lib.cells_of_tab Tryz.underlying377 Tryz.underlying339 Tryz.cellsFieldsE Tryz.cellsNeedE hd;intro k hk;rw [World.var?_cell Tryz.gNeedE hv k];have h1:cs[k]?=(Zbs.map fun z=>Value.int .u8 z)[k]?:=by rw [← hc]; simp
 rw [h1,List.getElem?_map];have h2:Zbs[k]?=some (Zbs.getD k 0):=by have:k<Zbs.length:=hk;simp [List.getD,this]
 rw [h2];rfl
theorem Ztj {W : World} {l : List (String × DataW Unit)} (h : laidMetH Tryz.prog l W) (hm : ("errors.errorType", Rows.laid_errors_errorType) ∈ l.filter fun x => x.2.handleName?.isSome) : Zz W := by obtain ⟨-, h2⟩ := laidMetH_iff.1 h;obtain ⟨name, u, ty, e1, e2, e3, e4, e5⟩ := h2 ("errors.errorType", Rows.laid_errors_errorType) hm;have en : name = [101, 114, 114, 111, 114] := (Option.some.inj e1).symm;subst en;obtain rfl := Option.some.inj (Tryz.rtE.symm.trans e2);have hm : ty ∈ (List.range 540).filter fun t => Tryz.prog.rowNamed t [101, 114, 114, 111, 114] := List.mem_filter.2 ⟨List.mem_range.2 (by rw [← Tryz.sizeE]; exact e3), e4⟩;rw [Tryz.oneRowE] at hm;obtain rfl := List.mem_singleton.1 hm;rw [Tryz.handE] at e5;simpa using World.var?_cell Tryz.etE e5 0
def Znx (w:World):World :=
 { w with heap:=w.heap.modify 0 fun
  | .cells _ t frozen=>.cells #[.iface 215 (.agg #[.pointer (some ⟨9,93,none⟩)])] t frozen
  | o=>o }
end Go.Proofs.YtkenknfgeoecbaaGreatDoor
namespace Go.Proofs.YtkenknfgeoecbaaGreatDoor
open Go.RowKit
structure Jq where
 u:Nat
 c:Int
 p:Int
structure Zia where
 pl:List (Int×Int)
 ref:Bool
 at_:Int
structure Zdm where
 args:List Zia
 res:List (Int×Int)
 size:Int
 copies:Int
def wdS (br n:Int):Nat:=if n=0∨br<n then 1 else n.toNat
def u1S (pr:Bool)(w u:Nat):Nat:=if (decide (1<w)&&(pr&&decide (u % 2=1)))=true then u+1 else u
def rgS (L w u1:Nat):Bool:=decide (u1+w<=L)
def plS (ag:List Int)(rg:Bool)(u1:Nat)(c:Int)(i:Nat):Int×Int:=if rg=true then (ag.getD (u1+i) 0,0) else (-1,c+8*i)
def Oe (L:Nat)(br:Int)(pr:Bool)(n:Int)(s:Jq):Jq :=
 ⟨if rgS L (wdS br n) (u1S pr (wdS br n) s.u)=true then u1S pr (wdS br n) s.u+wdS br n else if 1<wdS br n then L else u1S pr (wdS br n) s.u,
  if rgS L (wdS br n) (u1S pr (wdS br n) s.u)=true then s.c else s.c+8*wdS br n,if br<n then s.p+8*n else s.p⟩
def Kr (ag:List Int)(br:Int)(pr:Bool)(n:Int)(s:Jq):Zia :=
 ⟨(List.range (wdS br n)).map (plS ag (rgS ag.length (wdS br n) (u1S pr (wdS br n) s.u)) (u1S pr (wdS br n) s.u) s.c),decide (br<n),if br<n then s.p else 0⟩
def stA (L:Nat)(br:Int)(pr:Bool)(ps:List Int)(sh:Int):Nat->Jq
 | 0=>⟨0,sh,0⟩
 | k+1=>Oe L br pr (ps.getD k 0) (stA L br pr ps sh k)
def Cu (ag:List Int)(br:Int)(pr:Bool)(ps:List Int)(sh:Int)(k:Nat):Zia:=Kr ag br pr (ps.getD k 0) (stA ag.length br pr ps sh k)
def Zdn (rs:List Int)(c:Int)(k:Nat):Int×Int:=if k<rs.length then (rs.getD k 0,0) else (-1,c+8*((k-rs.length:Nat):Int))
def Xg (rs:List Int)(c:Int)(k:Nat):Int:=c+8*((k-rs.length:Nat):Int)
def Zib (ag rs:List Int)(br:Int)(pr:Bool)(sh:Int)(ps:List Int)(n:Int):Zdm :=
 ⟨(List.range ps.length).map (Cu ag br pr ps sh),(List.range n.toNat).map (Zdn rs (stA ag.length br pr ps sh ps.length).c),Xg rs (stA ag.length br pr ps sh ps.length).c n.toNat,(stA ag.length br pr ps sh ps.length).p⟩
theorem Zxi (br n:Int)(h:0<=n):1<=wdS br n:=by unfold wdS; split <;> omega
theorem Ybx (br n:Int)(h:n<=8):wdS br n<=8:=by unfold wdS; split <;> omega
theorem Zfo (pr:Bool)(u:Nat):u1S pr 1 u=u:=by unfold u1S; simp
theorem Zxj {L:Nat}{br:Int}{pr:Bool}{n:Int}{s:Jq}(hn:0<=n)(hu:s.u<=L):(Oe L br pr n s).u<=L:=by
 unfold Oe;simp only;split
 ·rename_i h;unfold rgS at h;exact of_decide_eq_true h
 ·split
  ·exact Nat.le_refl _
  ·have h1:wdS br n=1:=by have:=Zxi br n hn; omega
   rw [h1,Zfo];exact hu
theorem Zxk {L:Nat}{br:Int}{pr:Bool}{n:Int}{s:Jq}(hn:n<=8):s.c<=(Oe L br pr n s).c∧(Oe L br pr n s).c<=s.c+64:=by have:=Ybx br n hn;unfold Oe;simp only;split <;> omega
theorem Zxl {L:Nat}{br:Int}{pr:Bool}{n:Int}{s:Jq}(h0:0<=n)(hn:n<=8):s.p<=(Oe L br pr n s).p∧(Oe L br pr n s).p<=s.p+64:=by unfold Oe;simp only;split <;> omega
structure Ygd (L:Nat)(sh:Int)(k:Nat)(s:Jq):Prop where
 u:s.u<=L
 c0:sh<=s.c
 c1:s.c<=sh+64*k
 p0:0<=s.p
 p1:s.p<=64*k
theorem Zle {L:Nat}{br:Int}{pr:Bool}{ps:List Int}{sh:Int}(hps:Gg ps 0 8=true):∀ k,k<=ps.length->Ygd L sh k (stA L br pr ps sh k)
 | 0,_=>⟨Nat.zero_le _,Int.le_refl _,by show sh<=sh+64*((0:Nat):Int); omega,Int.le_refl _,by show(0:Int)<=64*((0:Nat):Int); omega⟩
 | k+1,h=>by
  have ih:=Zle (L:=L) (br:=br) (pr:=pr) (sh:=sh) hps k (by omega);have hk:=Gv hps (k:=k) (by omega);unfold Gn at hk;obtain⟨h0,h8⟩:=of_decide_eq_true hk;have hc:=Zxk (L:=L) (br:=br) (pr:=pr) (s:=stA L br pr ps sh k) h8;have hp:=Zxl (L:=L) (br:=br) (pr:=pr) (s:=stA L br pr ps sh k) h0 h8;have i1:=ih.c0;have i2:=ih.c1;have i3:=ih.p0;have i4:=ih.p1;refine⟨Zxj h0 ih.u,?_,?_,?_,?_⟩ <;> simp only [stA] <;> omega
theorem Rp {α:Type}(f:Nat->α)(k:Nat):(List.range (k+1)).map f=(List.range k).map f++[f k]:=by rw [List.range_succ,List.map_append]; rfl
def plC (xs:List (Int×Int)):List Value:=xs.flatMap fun x=>[.int .i64 x.1,.int .i64 x.2]
theorem Zso (xs:List (Int×Int))(x:Int×Int):plC (xs++[x])=plC xs++[.int .i64 x.1,.int .i64 x.2]:=by simp [plC]
theorem Zfp (xs:List (Int×Int)):(plC xs).length=xs.length*2:=by
 induction xs with
 | nil=>rfl
 | cons a r ih=>simp only [plC,List.flatMap_cons,List.length_append,List.length_cons,List.length_nil] at ih ⊢; omega
theorem Zns:∀(xs:List (Int×Int)) (k:Nat),k<xs.length->(plC xs)[k*2]?=some (.int .i64 (xs.getD k (0,0)).1)∧(plC xs)[k*2+1]?=some (.int .i64 (xs.getD k (0,0)).2)
 | a :: r,0,_=>⟨rfl,rfl⟩
 | a :: r,k+1,h=>by
  have ih:=Zns r k (by simpa using h);have e:plC (a :: r)=[.int .i64 a.1,.int .i64 a.2]++plC r:=rfl;rw [e];refine⟨?_,?_⟩
  ·rw [List.getElem?_append_right (by simp; omega)];rw [show(k+1)*2-[Value.int .i64 a.1,.int .i64 a.2].length=k*2 by simp; omega,ih.1];simp [List.getD]
  ·rw [List.getElem?_append_right (by simp; omega)];rw [show(k+1)*2+1-[Value.int .i64 a.1,.int .i64 a.2].length=k*2+1 by simp; omega,ih.2];simp [List.getD]
theorem Sk.gb {w w':World}{b:Nat}{v:Value}{ns:List Int}(h:Sk w b v ns)(hw:w.grownBy w' (some b))(hb:b<w.heap.size):Sk w' b v ns:=by
 rcases h with h | ⟨sb,so,cap,h1,h2,h3⟩
 ·exact Or.inl h
 ·exact Or.inr ⟨sb,so,cap,h1,h2,fun i hi=>(World.cell?_of_block (hw.block sb (by omega) (by intro e; injection e with e; omega))).trans (h3 i hi)⟩
theorem Jm {a c d:World}{row:Option Nat}(h:a.grownBy c row)(k:c.grownBy d row):a.grownBy d row :=
 ⟨k.os.trans h.os,k.tape.trans h.tape,k.output.trans h.output,Nat.le_trans h.size k.size,fun q hq hr=>(k.block q (Nat.lt_of_lt_of_le hq h.size) hr).trans (h.block q hq hr)⟩
theorem Yd (w:World)(o:Obj)(row:Option Nat):w.grownBy (w.alloc o) row :=
 have q:=(Below.refl w.heap.size w).alloc (Nat.le_refl _) o;⟨q.os,q.tape,q.output,q.size,fun k hk _=>q.block k hk⟩
def Ycm:List (Array UInt8):=[#[63],#[68,78],#[68,65],#[68,65,66],#[68,65,66],#[68,65,66],#[68,65,66],#[68,65,66],#[68,65,66],#[68,65,66],#[68,65,66,110],#[68,65,66,110],#[70,82,79],#[70,82,79],#[65],#[68,65,66],#[79],#[70,82],#[78]]
def Ycn (op:Int):ByteArray:=if 0<=op then ⟨Ycm.getD op.toNat #[63]⟩ else ⟨#[63]⟩
def Nu (op:Int):List UInt8:=(Ycn op).data.toList
theorem Cz.gb {α:Type}{size:Nat}{w w':World}{b:Nat}{v:Value}{ps:List (Array Value×α)}(h:Cz size w b v ps)(hw:w.grownBy w' (some b))(hb:b<w.heap.size):Cz size w' b v ps:=by
 rcases h with h | ⟨sb,so,cap,h1,h2,h3⟩
 ·exact Or.inl h
 ·exact Or.inr ⟨sb,so,cap,h1,h2,fun i hi j x hx=>(World.cell?_of_block (a:=⟨sb,so+i*size+j,none⟩) (hw.block sb (by omega) (by intro e; injection e with e; omega))).trans (h3 i hi j x hx)⟩
theorem Zh {w:World}{T:Nat}{o:Obj}(h:w.heap[T]?=some o):T<w.heap.size:=(Array.getElem?_eq_some_iff.1 h).1
theorem Zbx {w u:World}{b k j:Nat}{v:Value}(h:w.grownBy u (some b))(hk:w.heap.size<=k∨k=b):w.grownBy (u.setCell ⟨k,j,none⟩ v) (some b) :=
 ⟨h.os,h.tape,h.output,by simp; exact h.size,fun q hq hr=>(heap_setCell_other u ⟨k,j,none⟩ q v (by show q≠k; rintro rfl; exact hk.elim (fun x=>by omega) (fun x=>hr (by rw [x])))).trans (h.block q hq hr)⟩
section
variable {w u:World} {b T1 T2:Nat} {A1 A2:Array Value} {s:ByteArray} {q:Nat} {l:List UInt8} {bad:Bool}
end
set_option maxHeartbeats 4000000
set_option maxRecDepth 100000
theorem Zlq (p q:Addr)(w:World) :
 CallsD Tryz.prog 77 #[.pointer (some p),.pointer (some q)] .returning w fun e u' w'=>e=.returned (.tuple #[])∧u'=.returning∧w'=w:=by
 refine callsD_of_wpS Tryz.func77 rfl fun c₀ cs hu=>?_;apply wpS_seq
 apply wpS_region
 simp [wpOpsS,go_sem,recoverD,hu,Tryz.ntmps77,Exit.thenS];refine wpS_of_wp ?_;go_wp2;cases c₀
 simp_all [bodyPostS,results,Tryz.results77]
theorem Tryz.assertWrong (x:Value)(u:World):Sem.run Tryz.prog (Instr.typeAssert (.iface 189 x) 20 189 false) u=.ok x u:=by kernel_rfl
theorem Tryz.fieldWrong (u:World):Sem.run Tryz.prog (Instr.field 189 (.agg #[.iface 127 (.int .i64 4)]) 0) u=.ok (.iface 127 (.int .i64 4)) u:=by kernel_rfl
theorem Zft (p q:Nat)(x y:Value)(w:World)(hp:w.cell? ⟨p,0,none⟩=some x)(hpf:w.frozen? ⟨p,0,none⟩=false)(hq:w.cell? ⟨q,0,none⟩=some y)(hqf:w.frozen? ⟨q,0,none⟩=false)(hpq:p≠q) :
 CallsD Tryz.prog 77 #[.pointer (some ⟨p,0,none⟩),.pointer (some ⟨q,0,none⟩)] (.panicking Ry) w fun e u' w'=>e=.returned (.tuple #[])∧u'=.panicking (Ry.map fun t=>{ t with recovered:=true })∧w'=(w.drew.setCell ⟨p,0,none⟩ (.string { data:=#[] })).setCell ⟨q,0,none⟩ (.iface 127 (.int .i64 4)):=by
 refine callsD_of_wpS Tryz.func77 rfl fun c₀ cs hu=>?_;apply wpS_seq
 apply wpS_region
 unfold Ry at hu;simp [wpOpsS,go_sem,recoverD,hu,Tryz.ntmps77,Exit.thenS];refine wpS_of_wp ?_;go_wp2;have ht:(#[Value.pointer (some ⟨p,0,none⟩),Value.pointer (some ⟨q,0,none⟩)]++((((Array.replicate 7 undef).setIfInBounds 1 (Value.iface 189 (Value.agg #[Value.iface 127 (Value.int IntKind.i64 4)]))).setIfInBounds 0 (Value.iface 189 (Value.agg #[Value.iface 127 (Value.int IntKind.i64 4)]))).setIfInBounds 2 (Value.iface 189 (Value.agg #[Value.iface 127 (Value.int IntKind.i64 4)]))).setIfInBounds 3 (Value.bool true))=#[Value.pointer (some ⟨p,0,none⟩),Value.pointer (some ⟨q,0,none⟩),Value.iface 189 (Value.agg #[Value.iface 127 (Value.int IntKind.i64 4)]),Value.iface 189 (Value.agg #[Value.iface 127 (Value.int IntKind.i64 4)]),Value.iface 189 (Value.agg #[Value.iface 127 (Value.int IntKind.i64 4)]),Value.bool true,undef,undef,undef]:=rfl;rw [ht];have hta:=Tryz.assertWrong;have hfw:=Tryz.fieldWrong;go_region
 simp +zetaDelta [bodyPostS,results,Tryz.results77,Ry]
theorem Sk.mono {w:World}{b b':Nat}{v:Value}{ns:List Int}(h:Sk w b v ns)(hb:b<=b'):Sk w b' v ns:=by
 rcases h with h | ⟨sb,so,cap,h1,h2,h3⟩
 ·exact Or.inl h
 ·exact Or.inr ⟨sb,so,cap,h1,by omega,h3⟩
theorem Cz.mono {α:Type}{size:Nat}{w:World}{b b':Nat}{v:Value}{ps:List (Array Value×α)}(h:Cz size w b v ps)(hb:b<=b'):Cz size w b' v ps:=by
 rcases h with h | ⟨sb,so,cap,h1,h2,h3⟩
 ·exact Or.inl h
 ·exact Or.inr ⟨sb,so,cap,h1,by omega,h3⟩
theorem VsB.mono {α:Type}{w:World}{b b':Nat}{v:Value}{ps:List (Value×α)}(h:VsB w b v ps)(hb:b<=b'):VsB w b' v ps:=by
 rcases h with h | ⟨sb,so,cap,h1,h2,h3⟩
 ·exact Or.inl h
 ·exact Or.inr ⟨sb,so,cap,h1,by omega,h3⟩
theorem Da.mono {w:World}{b b':Nat}{p:Array Value×Yj}(h:Da w b p)(hb:b<=b'):Da w b' p:=by obtain⟨av,ov,pa,h1,h2,h3,h4,h5,h6⟩:=h;exact⟨av,ov,pa,h1,h2,h3,h4.mono hb,h5.mono hb,h6⟩
theorem Uj.mono {w:World}{b b':Nat}{p:Value×List Yj}(h:Uj w b p)(hb:b<=b'):Uj w b' p:=by obtain⟨ps,h1,h2,h3,h4⟩:=h;exact⟨ps,h1,h2.mono hb,fun q hq=>(h3 q hq).mono hb,h4⟩
theorem Rv.mono {w:World}{b b':Nat}{f:Zm}{pv hv sv bv:Value}{pp:List (Array Value×(Int×Int))}{pb:List (Value×List Yj)}(h:Rv w b f pv hv sv bv pp pb)(hb:b<=b'):Rv w b' f pv hv sv bv pp pb :=
 ⟨h.params,h.vals,h.pls.mono hb,h.hls.mono hb,h.sls.mono hb,h.bls.mono hb,h.blocks,fun q hq=>(h.each q hq).mono hb,h.lens⟩
theorem Mn.mono {w:World}{b b':Nat}{p:Array Value×Zm}(h:Mn w b p)(hb:b<=b'):Mn w b' p:=by obtain⟨pv,hv,sv,bv,pp,pb,h1,h2⟩:=h;exact⟨pv,hv,sv,bv,pp,pb,h1,h2.mono hb⟩
theorem Rf.mono {w:World}{b b':Nat}{p:Array Value×(List Int×Int)}(h:Rf w b p)(hb:b<=b'):Rf w b' p:=by obtain⟨lv,h1,h2,h3⟩:=h;exact⟨lv,h1,h2.mono hb,h3⟩
theorem Oi.mono {w:World}{b b':Nat}{p:Zj}{fv ev:Value}{pf:List (Array Value×Zm)}{pe:List (Array Value×(List Int×Int))}(h:Oi w b p fv ev pf pe)(hb:b<=b'):Oi w b' p fv ev pf pe :=
 ⟨h.fls.mono hb,h.els.mono hb,h.funcs,h.externs,fun q hq=>(h.feach q hq).mono hb,fun q hq=>(h.eeach q hq).mono hb,h.lens⟩
def Mo (p:Zj):Option (List UInt8):=match Mv p with
 | some bs=>if bs.length<=4000 then some bs else none
 | none=>none
def Ds:Option (List UInt8)->Value
 | some bs=>.tuple #[.string ⟨bs.toArray⟩,.nilIface]
 | none=>.tuple #[.string ⟨#[]⟩,.iface 127 (.int .i64 4)]
theorem Zv {B k j:Nat}{w w':World}(h:Below B w w')(hk:B<=k)(v:Value):Below B w (w'.setCell ⟨k,j,none⟩ v):=h.trans ⟨rfl,rfl,rfl,by simp,fun q hq=>heap_setCell_other w' ⟨k,j,none⟩ q v (by show q≠k; omega)⟩
theorem Zth (p:Zj)(fv ev:Value)(pf:List (Array Value×Zm))(pe:List (Array Value×(List Int×Int)))(w:World)(hg:Zo w)(hb:2<w.heap.size)(hP:Oi w w.heap.size p fv ev pf pe) :
 Calls Tryz.prog 48 #[.agg #[fv,ev]] w fun e w'=>e=.returned (Ds (Mo p))∧Below w.heap.size w w':=by
 have hmf:∀(fn:Fn) (first cap:Array Value) (w:World),(Instr.makeFunc fn first cap).run Tryz.prog w=.ok (.func fn first cap) w:=fun _ _ _ _=>rfl;obtain⟨p0,c0',e0⟩:=hP.fls.shape;obtain⟨p2,c2',e2⟩:=hP.els.shape;generalize hn0:pf.length=n0 at e0;generalize hn2:pe.length=n2 at e2;subst e0 e2;clear hn0 hn2;have HP:=Zc hP;have HG:=Zc hg;clear hP hg;go_enter_defers Tryz.func48,Tryz.ntmps48
 go_wp2_with fail
 have hbel:Below w.heap.size w ((((w.alloc (.cells #[.slice p0 n0 c0',.slice p2 n2 c2'] 62)).alloc (.cells #[.string { data:=#[] }] 9)).alloc (.cells #[.nilIface] 93)).alloc (.cells #[.slice none 0 0] 192)):=by go_grown
 have hwt:Wt ((((w.alloc (.cells #[.slice p0 n0 c0',.slice p2 n2 c2'] 62)).alloc (.cells #[.string { data:=#[] }] 9)).alloc (.cells #[.nilIface] 93)).alloc (.cells #[.slice none 0 0] 192)) (w.heap.size+1+1+1) (.slice none 0 0) []:=⟨(World.cell?_alloc_at _ _ _ _ (by simp)).trans rfl,World.frozen?_alloc_at _ _ _ _ (by simp),rfl,Or.inl ⟨rfl,rfl⟩⟩;have cs:(((((w.alloc (.cells #[.slice p0 n0 c0',.slice p2 n2 c2'] 62)).alloc (.cells #[.string { data:=#[] }] 9)).alloc (.cells #[.nilIface] 93)).alloc (.cells #[.slice none 0 0] 192)):World).cell? ⟨w.heap.size+1,0,none⟩=some (.string { data:=#[] }):=(World.cell?_alloc_past _ _ _ (by simp)).trans ((World.cell?_alloc_past _ _ _ (by simp)).trans ((World.cell?_alloc_at _ _ _ _ (by simp)).trans rfl));have csf:(((((w.alloc (.cells #[.slice p0 n0 c0',.slice p2 n2 c2'] 62)).alloc (.cells #[.string { data:=#[] }] 9)).alloc (.cells #[.nilIface] 93)).alloc (.cells #[.slice none 0 0] 192)):World).frozen? ⟨w.heap.size+1,0,none⟩=false:=(World.frozen?_alloc_past _ _ _ (by simp)).trans ((World.frozen?_alloc_past _ _ _ (by simp)).trans (World.frozen?_alloc_at _ _ _ _ (by simp)));have ce:(((((w.alloc (.cells #[.slice p0 n0 c0',.slice p2 n2 c2'] 62)).alloc (.cells #[.string { data:=#[] }] 9)).alloc (.cells #[.nilIface] 93)).alloc (.cells #[.slice none 0 0] 192)):World).cell? ⟨w.heap.size+1+1,0,none⟩=some .nilIface:=(World.cell?_alloc_past _ _ _ (by simp)).trans ((World.cell?_alloc_at _ _ _ _ (by simp)).trans rfl)
 have cef:(((((w.alloc (.cells #[.slice p0 n0 c0',.slice p2 n2 c2'] 62)).alloc (.cells #[.string { data:=#[] }] 9)).alloc (.cells #[.nilIface] 93)).alloc (.cells #[.slice none 0 0] 192)):World).frozen? ⟨w.heap.size+1+1,0,none⟩=false:=(World.frozen?_alloc_past _ _ _ (by simp)).trans (World.frozen?_alloc_at _ _ _ _ (by simp));generalize ((((w.alloc (.cells #[.slice p0 n0 c0',.slice p2 n2 c2'] 62)).alloc (.cells #[.string { data:=#[] }] 9)).alloc (.cells #[.nilIface] 93)).alloc (.cells #[.slice none 0 0] 192))=W0 at hbel hwt cs csf ce cef ⊢;refine(Zqk (w.heap.size+1+1+1) (by omega) (.slice none 0 0) [] p _ _ pf pe W0 hwt (by simp) ((O HG).below hb hbel) (((O HP).ws (Ru hbel (Nat.le_refl _))).mono (by omega))).mono ?_;rintro e w1 ⟨hws,hm⟩;have cs1:w1.cell? ⟨w.heap.size+1,0,none⟩=_:=(hws.low.cell (p:=⟨w.heap.size+1,0,none⟩) (show w.heap.size+1<w.heap.size+1+1+1 by omega)).trans cs;have ce1:w1.cell? ⟨w.heap.size+1+1,0,none⟩=_:=(hws.low.cell (p:=⟨w.heap.size+1+1,0,none⟩) (show w.heap.size+1+1<w.heap.size+1+1+1 by omega)).trans ce;have csf1:w1.frozen? ⟨w.heap.size+1,0,none⟩=false:=(World.frozen?_of_block (a:=⟨w.heap.size+1,0,none⟩) (hws.low.block (w.heap.size+1) (by omega))).trans csf;have cef1:w1.frozen? ⟨w.heap.size+1+1,0,none⟩=false:=(World.frozen?_of_block (a:=⟨w.heap.size+1+1,0,none⟩) (hws.low.block (w.heap.size+1+1) (by omega))).trans cef;have HB1:=Zc (hbel.trans (⟨hws.low.os,hws.low.tape,hws.low.output,hws.low.size,fun q hq=>hws.low.block q (by omega)⟩:Below w.heap.size W0 w1))
 clear cs ce csf cef hws hwt hbel HP HG;have HTH:=Zc (Zft (w.heap.size+1) (w.heap.size+1+1) _ _ w1 cs1 csf1 ce1 cef1 (by omega));cases hr:Mv p with
 | none=>rw [hr] at hm;subst hm;have HO:=Zc (show Mo p=none by unfold Mo; rw [hr]);refine leaves_cons (f:=77) (args:=#[.pointer (some ⟨w.heap.size+1,0,none⟩),.pointer (some ⟨w.heap.size+1+1,0,none⟩)]) (by simp) (by simp [go_sem]) ?_;refine(O HTH).mono ?_;rintro e u' w'' ⟨rfl,rfl,rfl⟩;have HB2:=Zc (Zv (j:=0) (Zv (j:=0) (O HB1) (show w.heap.size<=w.heap.size+1 by omega) (.string { data:=#[] })) (show w.heap.size<=w.heap.size+1+1 by omega) (.iface 127 (.int .i64 4)));simp [Leaves,settle,results,Tryz.results48,go_sem,Ry,cs1,ce1,O HO,Ds];exact⟨(O HB2).os,(O HB2).tape,(O HB2).output,(O HB2).size,(O HB2).block⟩
 | some bs =>
  rw [hr] at hm;obtain⟨rfl,v1,hw1⟩:=hm;rw [List.nil_append] at hw1;have hbs:=Zim p bs hr;have hpos:0<bs.length:=by
   unfold Mv at hr;obtain⟨x,y,ex,ey,rfl⟩:=Gf hr;cases ex
   simp
  have cw:=hw1.cell;have hrow:=hw1.row;obtain⟨g,cap,rfl⟩:∃ g cap,v1=.slice (some ⟨g,0,none⟩) bs.length cap:=by
   rcases hrow.2 with⟨_,h0⟩ | ⟨g,cap,cur,e,-⟩
   ·omega
   ·exact⟨g,cap,e⟩
  have hcv:(convert 182 9 (.slice (some ⟨g,0,none⟩) bs.length cap)).run Tryz.prog w1=.ok (.string ⟨bs.toArray⟩) w1 :=
   run_convert_bytes_back w1 182 9 5 ⟨g,0,none⟩ cap bs Tryz.underlying182 Tryz.underlying5 Tryz.underlying9 (fun j hj=>by
    have:=hrow.cellAt j (by omega);rw [show(⟨g,0,none⟩:Addr).add j=⟨g,j,none⟩ by unfold Addr.add; split <;> simp_all,this];simp [Oj,hj])
  have HIDLE:=Zc (fun w2=>Zlq ⟨w.heap.size+1,0,none⟩ ⟨w.heap.size+1+1,0,none⟩ w2);clear hw1 hrow;by_cases hlen:bs.length<=4000
  ·have HO:=Zc (show Mo p=some bs by unfold Mo; rw [hr]; exact if_pos hlen);generalize bs.length=n at *;go_wp2;refine leaves_cons (f:=77) (args:=#[.pointer (some ⟨w.heap.size+1,0,none⟩),.pointer (some ⟨w.heap.size+1+1,0,none⟩)]) (by simp) (by simp [go_sem]) ?_;refine(O HIDLE _).mono ?_;rintro e u' w'' ⟨rfl,rfl,rfl⟩;have HB2:=Zc (Zv (j:=0) (Zv (j:=0) (O HB1) (show w.heap.size<=w.heap.size+1 by omega) (.string ⟨bs.toArray⟩)) (show w.heap.size<=w.heap.size+1+1 by omega) .nilIface);simp [Leaves,settle,results,Tryz.results48,go_sem,cs1,ce1,O HO,Ds];exact O HB2
  ·have HO:=Zc (show Mo p=none by unfold Mo; rw [hr]; exact if_neg hlen);go_wp2_with fail
   refine(Rz _ _).mono ?_;rintro e w3 ⟨rfl,hw⟩;subst w3;refine leaves_cons (f:=77) (args:=#[.pointer (some ⟨w.heap.size+1,0,none⟩),.pointer (some ⟨w.heap.size+1+1,0,none⟩)]) (by simp) (by simp [go_sem]) ?_;refine(O HTH).mono ?_;rintro e u' w'' ⟨rfl,rfl,rfl⟩;have HB2:=Zc (Zv (j:=0) (Zv (j:=0) (O HB1) (show w.heap.size<=w.heap.size+1 by omega) (.string { data:=#[] })) (show w.heap.size<=w.heap.size+1+1 by omega) (.iface 127 (.int .i64 4)));simp [Leaves,settle,results,Tryz.results48,go_sem,Ry,cs1,ce1,O HO,Ds];exact⟨(O HB2).os,(O HB2).tape,(O HB2).output,(O HB2).size,(O HB2).block⟩
set_option maxHeartbeats 1000000
set_option maxRecDepth 100000
theorem Zqm (p:Zj)(fv ev:Value)(pf:List (Array Value×Zm))(pe:List (Array Value×(List Int×Int)))(w:World)(hg:Zo w)(hb:2<w.heap.size)(hP:Oi w w.heap.size p fv ev pf pe) :
 Calls Tryz.prog 33 #[.agg #[fv,ev]] w fun e w'=>e=.returned (Ds (Mo p))∧Below w.heap.size w w':=by
 have HG:=Zc hg;have HP:=Zc hP;obtain⟨p0,c0',e0⟩:=hP.fls.shape;obtain⟨p2,c2',e2⟩:=hP.els.shape;generalize hn0:pf.length=n0 at e0;generalize hn2:pe.length=n2 at e2;subst e0 e2;clear hn0 hn2 hP hg;go_enter Tryz.func33,Tryz.ntmps33
 go_wp2_with fail
 have hbl:Below w.heap.size w (w.alloc (.cells #[.slice p0 n0 c0',.slice p2 n2 c2'] 62)):=by go_grown
 have hsz:w.heap.size<=(w.alloc (.cells #[.slice p0 n0 c0',.slice p2 n2 c2'] 62)).heap.size:=hbl.size;refine(Zth p _ _ pf pe _ ((O HG).below hb hbl) (by omega) (((O HP).ws (Ru hbl (Nat.le_refl _))).mono hsz)).mono ?_;rintro e w1 ⟨rfl,hb1⟩;have HB:=Zc (hbl.trans (⟨hb1.os,hb1.tape,hb1.output,hb1.size,fun q hq=>hb1.block q (by omega)⟩:Below w.heap.size _ w1));clear hbl hsz hb1;cases ho:Mo p with
 | some bs=>unfold Ds;simp only;go_wp2;go_returns;exact⟨by rw [ho]; rfl,O HB⟩
 | none=>unfold Ds;simp only;go_wp2;go_returns;exact⟨by rw [ho]; rfl,O HB⟩
theorem Ni {P:Program}{fn:Func}{u q:Tmp}{uy:TypeId}(h:fn.results=#[.tmp u,.cell q uy])(tmps:Array Value)(w:World)(g':Nat)(t':TypeId)(cs':Array Value)(fr':Nat×Nat)(d':TypeDesc)
 (hp':tmps.getD q undef=.pointer (some ⟨g',0,none⟩)) (hg':w.heap[g']?=some (.cells cs' t' fr')) (hu':P.underlying uy=some d') (hd':(match d' with | .struct _ | .array _ _=>true | _=>false)=true) (hi':(P.info? uy).map (·.size)=some cs'.size) :
 (results fn tmps).run P w=.ok (.tuple #[tmps.getD u undef,.agg cs']) w:=by
 have e2:tmps[q]?.getD undef=.pointer (some ⟨g',0,none⟩):=by simpa using hp'
 simp [results,h,e2,asAddr,run_loadVar_row w g' t' uy cs' fr' d' hg' hu' hd' hi']
theorem Tryz.infFltE:(Tryz.prog.info? 29).map (·.size)=some 4:=by kernel_rfl
def Ycl:Option (List UInt8)->Value
 | some bs=>.tuple #[.string ⟨bs.toArray⟩,Dt 0 (-1) (-1) (-1)]
 | none=>.tuple #[.string ⟨#[]⟩,Dt 4 (-1) (-1) (-1)]
theorem Zls (p:Zj)(fv ev:Value)(pf:List (Array Value×Zm))(pe:List (Array Value×(List Int×Int)))(w:World)(hE:Zz w)(hg:Zo w)(hb:2<w.heap.size)(hP:Oi w w.heap.size p fv ev pf pe) :
 Calls Tryz.prog 20 #[.agg #[fv,ev]] w fun e w'=>e=.returned (Ycl (Mo p))∧Below w.heap.size w w':=by
 have HG:=Zc hg;have HP:=Zc hP;have HE:=Zc hE;obtain⟨p0,c0',e0⟩:=hP.fls.shape;obtain⟨p2,c2',e2⟩:=hP.els.shape;generalize hn0:pf.length=n0 at e0;generalize hn2:pe.length=n2 at e2;subst e0 e2;clear hn0 hn2 hP hg hE;go_enter Tryz.func20,Tryz.ntmps20
 go_wp2_with fail
 have hbl:Below w.heap.size w ((w.alloc (.cells #[.slice p0 n0 c0',.slice p2 n2 c2'] 62)).alloc (.cells #[.int .i64 0,.int .i64 0,.int .i64 0,.int .i64 0] 29)):=by go_grown
 have hsz:=hbl.size;have hrow:((w.alloc (.cells #[.slice p0 n0 c0',.slice p2 n2 c2'] 62)).alloc (.cells #[.int .i64 0,.int .i64 0,.int .i64 0,.int .i64 0] 29)).heap[w.heap.size+1]?=some (.cells #[.int .i64 0,.int .i64 0,.int .i64 0,.int .i64 0] 29 (0,0)):=by have:=heap_alloc_new (w.alloc (.cells #[.slice p0 n0 c0',.slice p2 n2 c2'] 62)) (.cells #[.int .i64 0,.int .i64 0,.int .i64 0,.int .i64 0] 29);simpa using this
 have hsz2:w.heap.size+1<((w.alloc (.cells #[.slice p0 n0 c0',.slice p2 n2 c2'] 62)).alloc (.cells #[.int .i64 0,.int .i64 0,.int .i64 0,.int .i64 0] 29)).heap.size:=by simp
 have HPE:=Zc (Zqm p _ _ pf pe _ ((O HG).below hb hbl) (by omega) (((O HP).ws (Ru hbl (Nat.le_refl _))).mono hsz));have hE0:Zz _:=(O HE).below hbl (by omega);generalize (w.alloc _).alloc _=W0 at hbl hsz hrow hsz2 HPE hE0 ⊢;refine(O HPE).mono ?_;rintro e w1 ⟨rfl,hb1⟩;have hs1:=hb1.size;have hrow1:=(hb1.block _ hsz2).trans hrow;have hE1:=hE0.below hb1 (by omega);have HB1:=Zc (hbl.trans (⟨hb1.os,hb1.tape,hb1.output,hb1.size,fun q hq=>hb1.block q (by omega)⟩:Below w.heap.size W0 w1));clear hbl hb1 hrow HPE hE0;cases ho:Mo p with
 | some bs =>
  have HFC:=Zc (Ln w1);unfold Ds;simp only;go_wp2_with fail
  refine(O HFC).mono ?_;rintro e w2 ⟨rfl,hb2⟩;have hrow2:=(hb2.block _ (by omega)).trans hrow1;have hs2:=hb2.size;have HB2:=Zc ((O HB1).trans (⟨hb2.os,hb2.tape,hb2.output,hb2.size,fun q hq=>hb2.block q (by omega)⟩:Below w.heap.size w1 w2));have HROW:=Zc hrow2;clear hb2 hrow2 hrow1;go_wp2_with (refine wpList_store_row rfl 29 (.tmp 3) (.tmp 13) rfl (w.heap.size+1) #[.int .i64 0,.int .i64 (-1),.int .i64 (-1),.int .i64 (-1)] rfl rfl 29 _ (O HROW) (Tryz.infFltE.trans rfl) rfl (by simp [Value.oneCell']) ?_)
  refine bodyPost_ret (Ni (fn:=Tryz.f20) (u:=2) (q:=3) (uy:=29) rfl _ _ (w.heap.size+1) 29 #[.int .i64 0,.int .i64 (-1),.int .i64 (-1),.int .i64 (-1)] (0,0) _ rfl (setRow_heap _ _ _ _ _ _ (O HROW)) Tryz.underlying29 rfl (Tryz.infFltE.trans rfl)) rfl ?_;exact⟨by rw [ho]; rfl,below_setRow (O HB2) (by omega) _⟩
 | none =>
  have HFC:=Zc (Lo 4 w1 hE1);unfold Ds;simp only;go_wp2_with fail
  refine(O HFC).mono ?_;rintro e w2 ⟨rfl,hb2⟩;have hrow2:=(hb2.block _ (by omega)).trans hrow1;have hs2:=hb2.size;have HB2:=Zc ((O HB1).trans (⟨hb2.os,hb2.tape,hb2.output,hb2.size,fun q hq=>hb2.block q (by omega)⟩:Below w.heap.size w1 w2));have HROW:=Zc hrow2;clear hb2 hrow2 hrow1;go_wp2_with (refine wpList_store_row rfl 29 (.tmp 3) (.tmp 13) rfl (w.heap.size+1) #[.int .i64 4,.int .i64 (-1),.int .i64 (-1),.int .i64 (-1)] rfl rfl 29 _ (O HROW) (Tryz.infFltE.trans rfl) rfl (by simp [Value.oneCell']) ?_)
  refine bodyPost_ret (Ni (fn:=Tryz.f20) (u:=2) (q:=3) (uy:=29) rfl _ _ (w.heap.size+1) 29 #[.int .i64 4,.int .i64 (-1),.int .i64 (-1),.int .i64 (-1)] (0,0) _ rfl (setRow_heap _ _ _ _ _ _ (O HROW)) Tryz.underlying29 rfl (Tryz.infFltE.trans rfl)) rfl ?_;exact⟨by rw [ho]; rfl,below_setRow (O HB2) (by omega) _⟩
section
variable {w w':World} {b:Nat}
abbrev Nv (b:Nat)(w w':World):Prop:=∀ k,k<b->w'.heap[k]?=w.heap[k]?
theorem Sk.same {v:Value}{ns:List Int}(h:Sk w b v ns)(hw:Nv b w w'):Sk w' b v ns:=by
 rcases h with h | ⟨sb,so,cap,h1,h2,h3⟩
 ·exact Or.inl h
 ·exact Or.inr ⟨sb,so,cap,h1,h2,fun i hi=>(World.cell?_of_block (a:=⟨sb,so+i,none⟩) (hw sb h2)).trans (h3 i hi)⟩
theorem Cz.same {α:Type}{size:Nat}{v:Value}{ps:List (Array Value×α)}(h:Cz size w b v ps)(hw:Nv b w w'):Cz size w' b v ps:=by
 rcases h with h | ⟨sb,so,cap,h1,h2,h3⟩
 ·exact Or.inl h
 ·exact Or.inr ⟨sb,so,cap,h1,h2,fun i hi j x hx=>(World.cell?_of_block (a:=⟨sb,so+i*size+j,none⟩) (hw sb h2)).trans (h3 i hi j x hx)⟩
theorem VsB.same {α:Type}{v:Value}{ps:List (Value×α)}(h:VsB w b v ps)(hw:Nv b w w'):VsB w' b v ps:=by
 rcases h with h | ⟨sb,so,cap,h1,h2,h3⟩
 ·exact Or.inl h
 ·exact Or.inr ⟨sb,so,cap,h1,h2,fun i hi=>(World.cell?_of_block (a:=⟨sb,so+i,none⟩) (hw sb h2)).trans (h3 i hi)⟩
theorem Da.same {p:Array Value×Yj}(h:Da w b p)(hw:Nv b w w'):Da w' b p:=by obtain⟨av,ov,pa,h1,h2,h3,h4,h5,h6⟩:=h;exact⟨av,ov,pa,h1,h2,h3,h4.same hw,h5.same hw,h6⟩
theorem Uj.same {p:Value×List Yj}(h:Uj w b p)(hw:Nv b w w'):Uj w' b p:=by obtain⟨ps,h1,h2,h3,h4⟩:=h;exact⟨ps,h1,h2.same hw,fun q hq=>(h3 q hq).same hw,h4⟩
theorem Rv.same {f:Zm}{pv hv sv bv:Value}{pp:List (Array Value×(Int×Int))}{pb:List (Value×List Yj)}(h:Rv w b f pv hv sv bv pp pb)(hw:Nv b w w'):Rv w' b f pv hv sv bv pp pb :=
 ⟨h.params,h.vals,h.pls.same hw,h.hls.same hw,h.sls.same hw,h.bls.same hw,h.blocks,fun q hq=>(h.each q hq).same hw,h.lens⟩
theorem Rf.same {p:Array Value×(List Int×Int)}(h:Rf w b p)(hw:Nv b w w'):Rf w' b p:=by obtain⟨lv,h1,h2,h3⟩:=h;exact⟨lv,h1,h2.same hw,h3⟩
theorem Mn.same {p:Array Value×Zm}(h:Mn w b p)(hw:Nv b w w'):Mn w' b p:=by obtain⟨pv,hv,sv,bv,pp,pb,h1,h2⟩:=h;exact⟨pv,hv,sv,bv,pp,pb,h1,h2.same hw⟩
theorem Oi.same {p:Zj}{fv ev:Value}{pf:List (Array Value×Zm)}{pe:List (Array Value×(List Int×Int))}(h:Oi w b p fv ev pf pe)(hw:Nv b w w'):Oi w' b p fv ev pf pe :=
 ⟨h.fls.same hw,h.els.same hw,h.funcs,h.externs,fun q hq=>(h.feach q hq).same hw,fun q hq=>(h.eeach q hq).same hw,h.lens⟩
end
structure OnB (lo hi:Nat)(w w':World):Prop where
 os:w'.os=w.os
 tape:w'.tape=w.tape
 output:w'.output=w.output
 size:w.heap.size<=w'.heap.size
 oth:∀ q:Nat,q<w.heap.size->q<lo∨hi<=q->w'.heap[q]?=w.heap[q]?
def uC (l:List Int):List Value:=l.map fun n=>.int .u64 n
def yC (l:List Int):List Value:=l.map fun n=>.int .u8 n
def slC (gs ns:List Nat):List Value:=(List.range ns.length).map fun k=>.slice (some ⟨gs.getD k 0,0,none⟩) (ns.getD k 0) (ns.getD k 0)
structure Ko (w0 V:World)(x:Ol)(q lo hi lg:Nat)(bp sp op:Option Addr)(bc sc oc:Nat)(gs:List Nat)(B:Nat->Value):Prop where
 ql:lo<=q
 qh:q<hi
 gl:lo<=lg
 gh:lg<hi
 gq:lg≠q
 hs:hi<=V.heap.size
 row:V.heap[q]?=some (.cells #[.slice bp x.fn.blocks.length bc,.int .i64 x.b,.int .i64 x.i,.slice (some ⟨lg,0,none⟩) x.v.length x.v.length,.slice sp x.s.length sc,.slice op x.o.length oc] 328 (0,0))
 loc:V.heap[lg]?=some (.cells (uC x.v).toArray 90 (0,0))
 slo:V.ownsRow lo 297 1 (.slice sp x.s.length sc) x.s.length (slC gs (x.s.map List.length))
 sb:∀ g,(Value.slice sp x.s.length sc).ownBlock=some g->g<hi
 len:gs.length=x.s.length
 each:∀ k,k<x.s.length->V.heap[gs.getD k 0]?=some (.cells (yC (x.s.getD k [])).toArray 5 (0,0))∧lo<=gs.getD k 0∧gs.getD k 0<hi
 inj:∀ j k,j<k->k<gs.length->gs.getD j 0<gs.getD k 0
 bls:LS 1 w0 (.slice bp x.fn.blocks.length bc) x.fn.blocks.length (fun k=>#[B k])
 blk:∀ k (h:k<x.fn.blocks.length),Zfn w0 (B k) x.fn.blocks[k]
 ous:Li w0 (.slice op x.o.length oc) x.o
structure IOk (x:Ol):Prop where
 v:∀ n ∈ x.v,0<=n∧n<18446744073709551616
 s:∀ l ∈ x.s,∀ n ∈ l,0<=n∧n<256
set_option maxHeartbeats 4000000
theorem Zbc (b:Bool)(w:World):Calls Tryz.prog 238 #[.bool b] w fun e w'=>e=.returned (.int .u64 (if b=true then 1 else 0))∧w'=w:=by
 cases b with
 | true =>
  go_enter Tryz.func238,Tryz.ntmps238
  go_wp2;go_ret;exact⟨rfl,rfl⟩
 | false =>
  go_enter Tryz.func238,Tryz.ntmps238
  go_wp2;go_ret;exact⟨rfl,rfl⟩
theorem Zts (op a b:Int)(w:World):Calls Tryz.prog 195 #[.int .i64 op,.int .u64 a,.int .u64 b] w fun e w'=>e=.returned (.int .u64 (Ii op a b))∧w'=w:=by
 by_cases h3:op=3
 ·subst h3;go_enter Tryz.func195,Tryz.ntmps195
  go_wp2;go_ret;exact⟨rfl,rfl⟩
 by_cases h4:op=4
 ·subst h4;go_enter Tryz.func195,Tryz.ntmps195
  go_wp2;go_ret;exact⟨rfl,rfl⟩
 by_cases h5:op=5
 ·subst h5;go_enter Tryz.func195,Tryz.ntmps195
  go_wp2;go_ret;exact⟨rfl,rfl⟩
 by_cases h6:op=6
 ·subst h6;go_enter Tryz.func195,Tryz.ntmps195
  go_wp2;go_ret;exact⟨rfl,rfl⟩
 by_cases h7:op=7
 ·subst h7;go_enter Tryz.func195,Tryz.ntmps195
  go_wp2;go_ret;exact⟨rfl,rfl⟩
 by_cases h8:op=8
 ·subst h8;by_cases hx:a<b
  ·skip
   have HX:=Za hx;go_enter Tryz.func195,Tryz.ntmps195
   go_wp2_with fail
   refine(Zbc _ _).mono ?_;rintro e w1 ⟨rfl,hw⟩;subst w1;go_wp2;go_ret;exact⟨by unfold Ii; simp [J HX],rfl⟩
  ·skip
   have HX:=Za hx;go_enter Tryz.func195,Tryz.ntmps195
   go_wp2_with fail
   refine(Zbc _ _).mono ?_;rintro e w1 ⟨rfl,hw⟩;subst w1;go_wp2;go_ret;exact⟨by unfold Ii; simp [J HX],rfl⟩
 by_cases h9:op=9
 ·subst h9;by_cases hx:a=b
  ·have hz:(a==b)=true:=by simp [hx]
   have HX:=Za hx;go_enter Tryz.func195,Tryz.ntmps195
   go_wp2_with fail
   refine(Zbc _ _).mono ?_;rintro e w1 ⟨rfl,hw⟩;subst w1;go_wp2;go_ret;exact⟨by unfold Ii; simp [J HX],rfl⟩
  ·have hz:(a==b)=false:=by simp [hx]
   have HX:=Za hx;go_enter Tryz.func195,Tryz.ntmps195
   go_wp2_with fail
   refine(Zbc _ _).mono ?_;rintro e w1 ⟨rfl,hw⟩;subst w1;go_wp2;go_ret;exact⟨by unfold Ii; simp [J HX],rfl⟩
 have z3:(op==3)=false:=by simp [h3]
 have z4:(op==4)=false:=by simp [h4]
 have z5:(op==5)=false:=by simp [h5]
 have z6:(op==6)=false:=by simp [h6]
 have z7:(op==7)=false:=by simp [h7]
 have z8:(op==8)=false:=by simp [h8]
 have z9:(op==9)=false:=by simp [h9]
 have HR:=Za (show Ii op a b=0 by unfold Ii; rw [if_neg h3,if_neg h4,if_neg h5,if_neg h6,if_neg h7,if_neg h8,if_neg h9]);clear h3 h4 h5 h6 h7 h8 h9;go_enter Tryz.func195,Tryz.ntmps195
 go_wp2;go_ret;exact⟨by rw [J HR]; rfl,rfl⟩
theorem Zcf {l:List Int}{k:Nat}(h:k<l.length)(d:Int):l.getD k d ∈ l:=by simp [List.getD,h]
theorem Zyi {bs:List Int}(hb:∀ n ∈ bs,0<=n∧n<256)(i:Nat):0<=bs.getD i 0∧bs.getD i 0<256:=by
 by_cases h:i<bs.length
 ·exact hb _ (Zcf h 0)
 ·simp [List.getD,h]
theorem Zyj (bs:List Int)(a k:Nat)(v:Int):(stB bs a k v).length=bs.length:=by simp [stB]
theorem Yct (bs:List Int)(i:Nat)(x:Int):(uC bs).toArray.setIfInBounds i (.int .u64 x)=(uC (bs.set i x)).toArray:=by simp [uC,List.map_set]
theorem Zgq {w:World}{v:Value}{ns:List Int}(h:Li w v ns):Sk w w.heap.size v ns:=by
 obtain⟨p,cap,e,h2,h3,h4⟩:=h;rcases Nat.eq_zero_or_pos ns.length with h0 | h0
 ·have:ns=[]:=List.eq_nil_of_length_eq_zero h0;subst this;exact Or.inl ⟨rfl,p,cap,e⟩
 ·obtain⟨sb,so,e1,hc⟩:=h4 h0;subst e1;refine Or.inr ⟨sb,so,cap,e,World.block_lt_of_cell? w _ (hc 0 h0),fun i hi=>?_⟩;exact hc i hi
theorem Zde {α:Type}{size:Nat}{w:World}{v:Value}{xs:List α}{A:Nat->Array Value}(h:LS size w v xs.length A):Cz size w w.heap.size v (xs.mapIdx fun k x=>(A k,x)):=by
 obtain⟨p,cap,e,h2,h3,h4⟩:=h;rcases Nat.eq_zero_or_pos xs.length with h0 | h0
 ·have:xs=[]:=List.eq_nil_of_length_eq_zero h0;subst this;exact Or.inl ⟨rfl,p,cap,e⟩
 ·obtain⟨sb,so,e1,hl,hc⟩:=h4 h0;subst e1;refine Or.inr ⟨sb,so,cap,by rw [List.length_mapIdx]; exact e,hl,fun i hi=>?_⟩;rw [List.length_mapIdx] at hi;rw [List.getElem_mapIdx];exact hc i hi
theorem Ydw {α:Type}{w:World}{v:Value}{xs:List α}{B:Nat->Value}(h:LS 1 w v xs.length (fun k=>#[B k])):VsB w w.heap.size v (xs.mapIdx fun k x=>(B k,x)):=by
 obtain⟨p,cap,e,h2,h3,h4⟩:=h;rcases Nat.eq_zero_or_pos xs.length with h0 | h0
 ·have:xs=[]:=List.eq_nil_of_length_eq_zero h0;subst this;exact Or.inl ⟨rfl,p,cap,e⟩
 ·obtain⟨sb,so,e1,hl,hc⟩:=h4 h0;subst e1;refine Or.inr ⟨sb,so,cap,by rw [List.length_mapIdx]; exact e,hl,fun i hi=>?_⟩;rw [List.length_mapIdx] at hi;rw [List.getElem_mapIdx];have:=hc i hi 0 _ rfl;simpa using this
theorem Mr {α β:Type}(xs:List α)(f:Nat->β):(xs.mapIdx fun k x=>(f k,x)).map (·.2)=xs:=List.ext_getElem (by simp) (by intro i h1 h2; simp)
theorem Dd {size:Nat}{w:World}{v:Value}{n:Nat}{A:Nat->Array Value}(h:LS size w v n A):n<Jw:=by obtain⟨_,_,_,_,h,_⟩:=h;exact h
theorem Zvw {w:World}{A:Array Value}{i:Yj}(hon:i.op=3∨i.op=16)(h:Zsj w A i):Da w w.heap.size (A,i):=by
 obtain⟨av,ov,e,hl,ho⟩:=h;exact⟨av,ov,_,e,Mr _ _,fun q hq=>by
  obtain⟨k,hk,rfl⟩:=List.mem_mapIdx.1 hq;simp [Nq,List.getD,hk],Zde hl,Zgq ho,Dd hl,ho.lt,hon⟩
theorem Zvx {w:World}{v:Value}{l:List Yj}(hon:∀ i ∈ l,i.op=3∨i.op=16)(h:Zfn w v l):Uj w w.heap.size (v,l):=by
 obtain⟨A,hl,he⟩:=h;exact⟨_,Mr _ _,Zde hl,fun q hq=>by
  obtain⟨k,hk,rfl⟩:=List.mem_mapIdx.1 hq;exact Zvw (hon _ (List.getElem_mem hk)) (he k hk),by rw [List.length_mapIdx]; exact Dd hl⟩
theorem Zro {w:World}{A:Array Value}{f:Zm}(hon:∀ l ∈ f.blocks,∀ i ∈ l,i.op=3∨i.op=16)(h:Zae w A f):Mn w w.heap.size (A,f):=by
 obtain⟨pv,hv,sv,bv,B,e,h⟩:=h;exact⟨pv,hv,sv,bv,_,_,e,⟨Mr _ _,fun q hq=>by
  obtain⟨k,hk,rfl⟩:=List.mem_mapIdx.1 hq;simp [Nq,List.getD,hk],Zde h.ps,Zgq h.hs,Zgq h.ss,Ydw h.bs,Mr _ _,fun q hq=>by
  obtain⟨k,hk,rfl⟩:=List.mem_mapIdx.1 hq;exact Zvx (hon _ (List.getElem_mem hk)) (h.each k hk),⟨by rw [List.length_mapIdx]; exact Dd h.ps,h.hs.lt,h.ss.lt,by rw [List.length_mapIdx]; exact Dd h.bs⟩⟩⟩
theorem Zvy {w:World}{fv ev:Value}{P:Zj}{A E:Nat->Array Value}(hon:∀ f ∈ P.funcs,∀ l ∈ f.blocks,∀ i ∈ l,i.op=3∨i.op=16)(h:Mk w fv ev P A E):Oi w w.heap.size P fv ev (P.funcs.mapIdx fun k x=>(A k,x)) (P.externs.mapIdx fun k x=>(E k,x)) :=
 ⟨Zde h.fs,Zde h.es,Mr _ _,Mr _ _,fun q hq=>by
  obtain⟨k,hk,rfl⟩:=List.mem_mapIdx.1 hq;exact Zro (hon _ (List.getElem_mem hk)) (h.feach k hk),fun q hq=>by
  obtain⟨k,hk,rfl⟩:=List.mem_mapIdx.1 hq;obtain⟨lv,e1,e2⟩:=h.eeach k hk;exact⟨lv,e1,Zgq e2,e2.lt⟩,⟨by rw [List.length_mapIdx]; exact Dd h.fs,by rw [List.length_mapIdx]; exact Dd h.es⟩⟩
set_option maxHeartbeats 2000000
set_option maxRecDepth 100000
abbrev Dec (α:Type):=Nat->Except Nat (α×Nat)
def Yi {α β:Type}(m:Except Nat (α×Nat))(k:α->Nat->Except Nat (β×Nat)):Except Nat (β×Nat):=match m with
 | .ok (x,a)=>k x a
 | .error q=>.error q
def bAt (s:ByteArray)(a:Nat):Int:=((s.data[a]?.getD 0).toNat:Int)
theorem Zsq (s:ByteArray)(a:Nat):0<=bAt s a∧bAt s a<=255:=by unfold bAt;have:=(s.data[a]?.getD 0).toNat_lt;omega
def signed (lo n:Int):Int:=if lo=-1∧n=255 then -1 else n
def Lm (lo hi v:Int)(a:Nat):Except Nat (Int×Nat):=if lo<=v∧v<=hi then .ok (v,a+1) else .error a
section
variable (s:ByteArray)
def Zw (lo hi:Int):Dec Int:=fun a=>if a<s.size then Lm lo hi (signed lo (bAt s a)) a else .error a
def My {α:Type}(one:Dec α):Nat->Dec (List α)
 | 0=>fun a=>.ok ([],a)
 | n+1=>fun a=>Yi (My one n a) fun xs a1=>Yi (one a1) fun x a2=>.ok (xs++[x],a2)
def Ye {α:Type}(lo hi:Int)(one:Dec α):Dec (List α):=fun a=>Yi (Zw s lo hi a) fun n a1=>My one n.toNat a1
def Ks:Dec (Int×Int):=fun a=>Yi (Zw s 0 8 a) fun x a1=>Yi (Zw s 0 255 a1) fun y a2=>.ok ((x,y),a2)
def Zif:Dec (List Int×Int):=fun a=>Yi (Ye s 0 8 (Zw s 0 8) a) fun l a1=>Yi (Zw s 0 4 a1) fun r a2=>.ok ((l,r),a2)
def dOp:Nat->Dec Int
 | 0=>fun a=>.ok (0,a)
 | n+1=>fun a=>Yi (dOp n a) fun x a1=>Yi (Zw s 0 255 a1) fun y a2=>.ok (256*x+y,a2)
def Zig (c:UInt8)(i:Yj):Dec Yj:=fun a =>
 if c=68 then Yi (Zw s 0 255 a) fun x a1=>.ok ({ i with d:=x },a1)
 else if c=65 then Yi (Zw s 0 255 a) fun x a1=>.ok ({ i with a:=x },a1)
 else if c=66 then Yi (Zw s 0 255 a) fun x a1=>.ok ({ i with bb:=x },a1)
 else if c=110 then Yi (dOp s 1 a) fun x a1=>.ok ({ i with n:=x },a1)
 else if c=78 then Yi (dOp s 8 a) fun x a1=>.ok ({ i with n:=x },a1)
 else if c=70 then Yi (Zw s 0 255 a) fun x a1=>.ok ({ i with f:=x },a1)
 else if c=82 then Yi (Ye s 0 8 (Ks s) a) fun x a1=>.ok ({ i with args:=x },a1)
 else if c=79 then Yi (Ye s 0 4 (Zw s 0 255) a) fun x a1=>.ok ({ i with outs:=x },a1)
 else .ok (i,a)
def Cv:List UInt8->Yj->Dec Yj
 | [],i=>fun a=>.ok (i,a)
 | c :: cs,i=>fun a=>Yi (Zig s c i a) fun j a1=>Cv cs j a1
def Zsr (op:Int):Yj:=⟨op,0,0,0,0,0,[],[]⟩
def Rh:Dec Yj:=fun a=>Yi (Zw s 1 18 a) fun op a1=>Cv s (Nu op) (Zsr op) a1
def Cw:Dec (List Yj):=Ye s 1 24 (Rh s)
def Zaf:Dec Zm:=fun a=>Yi (Ye s 0 8 (Ks s) a) fun ps a1=>Yi (Zw s 0 4 a1) fun r a2=>Yi (Ye s 0 12 (Zw s (-1) 15) a2) fun hs a3=>Yi (Ye s 0 6 (Zw s 1 8) a3) fun ss a4=>Yi (Ye s 1 12 (Cw s) a4) fun bs a5=>.ok (⟨ps,r,hs,ss,bs⟩,a5)
def Zag:Dec Zj:=fun a=>Yi (Zw s 70 70 a) fun _ a1=>Yi (Zw s 49 49 a1) fun _ a2=>Yi (Ye s 0 4 (Zif s) a2) fun es a3=>Yi (Ye s 1 8 (Zaf s) a3) fun fs a4=>.ok (⟨fs,es⟩,a4)
def Ng:Except (Int×Nat) Zj:=if s.size<=4000 then (match Zag s 0 with
 | .error q=>.error (3,q)
 | .ok (p,a)=>if a<s.size then .error (3,a) else .ok p) else .error (4,0)
end
def OnD (s:ByteArray):Prop:=∀ q op q1,Zw s 1 18 q=.ok (op,q1)->op=1∨op=2∨op=3∨op=5∨op=16
structure Lj (w:World)(b:Nat)(s:ByteArray)(a:Nat):Prop where
 c0:w.cell? ⟨b,0,none⟩=some (.string s)
 c1:w.cell? ⟨b,1,none⟩=some (.int .i64 a)
 f1:w.frozen? ⟨b,1,none⟩=false
 bd:a<=s.size
 small:s.size<=4000
 on:OnD s
section
variable {w w':World} {b:Nat} {s:ByteArray} {a:Nat}
theorem Lj.lt (h:Lj w b s a):b<w.heap.size:=World.block_lt_of_cell? w _ h.c0
theorem Lj.blk (h:Lj w b s a)(e:w'.heap[b]?=w.heap[b]?):Lj w' b s a:=⟨(World.cell?_of_block e).trans h.c0,(World.cell?_of_block e).trans h.c1,(World.frozen?_of_block (a:=⟨b,1,none⟩) e).trans h.f1,h.bd,h.small,h.on⟩
theorem Lj.alloc (h:Lj w b s a)(o:Obj):Lj (w.alloc o) b s a:=h.blk (((Below.refl w.heap.size w).alloc (Nat.le_refl _) o).block b h.lt)
theorem Lj.drew (h:Lj w b s a):Lj w.drew b s a:=h.blk rfl
theorem Lj.next (h:Lj w b s a)(hb:a<s.size):Lj (w.setCell ⟨b,1,none⟩ (.int .i64 ((a+1:Nat):Int))) b s (a+1) :=
 ⟨(World.cell?_setCell_other _ _ _ _ (by simp)).trans h.c0,World.cell?_setCell_same _ _ _ h.c1,by rw [World.frozen?_setCell]; exact h.f1,hb,h.small,h.on⟩
theorem Xi (w:World)(r:Option Nat):w.grownBy w r:=⟨rfl,rfl,rfl,Nat.le_refl _,fun _ _ _=>rfl⟩
theorem Zbp (w:World)(r:Option Nat):w.grownBy w.drew r:=⟨rfl,rfl,rfl,Nat.le_refl _,fun _ _ _=>rfl⟩
theorem Zxn (w:World)(b j:Nat)(v:Value):w.grownBy (w.setCell ⟨b,j,none⟩ v) (some b):=Zbx (Xi w (some b)) (Or.inr rfl)
end
def Zss (q:Int):Array Value:=#[.iface 127 (.int .i64 3),.int .i64 (-1),.int .i64 (-1),.int .i64 q]
def Og (g:Nat):List PanicEntry:=[{ v:=.iface 189 (.agg #[.iface 130 (.pointer (some ⟨g,0,none⟩))]),recovered:=false }]
def Ya {α:Type}(b:Nat)(s:ByteArray)(RV:World->Nat->Value->α->Prop)(r:Except Nat (α×Nat))(w:World)(e:Ending)(w':World):Prop :=
 w.grownBy w' (some b)∧match r with
  | .ok (x,a)=>∃ v,e=.returned v∧RV w' w.heap.size v x∧Lj w' b s a
  | .error q=>∃ g,e=.panicked (Og g)∧w'.heap[g]?=some (.cells (Zss q) 133 (0,0))∧w.heap.size<=g
def Rq (_:World)(_:Nat)(v:Value)(x:Int):Prop:=v=.int .i64 x
theorem Ya.err {α β:Type}{b:Nat}{s:ByteArray}{RV:World->Nat->Value->α->Prop}{RW:World->Nat->Value->β->Prop}{q:Nat}{w w1 w2:World}{e:Ending}(h:Ya b s RV (.error q) w1 e w2)(hg:w.grownBy w1 (some b)):Ya b s RW (.error q) w e w2:=by obtain⟨g1,g,he,hr,hl⟩:=h;exact⟨Jm hg g1,g,he,hr,Nat.le_trans hg.size hl⟩
theorem Zxo (n q:Int)(w:World):Calls Tryz.prog 80 #[.int .i64 n,.int .i64 q] w fun e w'=>e=.returned (.iface 130 (.pointer (some ⟨w.heap.size,0,none⟩)))∧w'=w.alloc (.cells #[.iface 127 (.int .i64 n),.int .i64 (-1),.int .i64 (-1),.int .i64 q] 133 (0,0)):=by
 go_enter Tryz.func80,Tryz.ntmps80
 go_wp2;go_ret;exact⟨rfl,rfl⟩
theorem Zbq {α:Type}(RV:World->Nat->Value->α->Prop)(b:Nat)(s:ByteArray)(a:Nat)(w:World)(h:Lj w b s a):Calls Tryz.prog 83 #[.pointer (some ⟨b,0,none⟩)] w (Ya b s RV (.error a) w):=by
 have c1:=h.c1;clear h;go_enter Tryz.func83,Tryz.ntmps83
 go_wp2_with fail
 refine(Zxo 3 a w).mono ?_;rintro e w1 ⟨rfl,hw⟩;subst w1;go_wp2;exact⟨rfl,Yd _ _ _,w.heap.size,rfl,heap_alloc_new _ _,Nat.le_refl _⟩
theorem Yby (s:ByteArray)(a:Nat)(h:a<s.size):((s[a].toNat:Nat):Int)=bAt s a:=by unfold bAt;rw [Array.getElem?_eq_getElem (show a<s.data.size from h)];rfl
theorem Znt (b:Nat)(s:ByteArray)(a:Nat)(w:World)(h:Lj w b s a)(hlt:a<s.size):Calls Tryz.prog 174 #[.pointer (some ⟨b,0,none⟩)] w fun e w'=>e=.returned (.int .u8 (bAt s a))∧w.grownBy w' (some b)∧Lj w' b s a:=by
 have c0:=h.c0;have c1:=h.c1;have hsm:=h.small;have HR:=Zc h;have HB:=Zc (Yby s a hlt);clear h;have hlt':¬ ((s.size:Int)<=a):=by omega
 go_enter Tryz.func174,Tryz.ntmps174
 go_wp2;go_region
 go_wp2;go_region
 go_wp2;go_ret;refine⟨by rw [← O HB]; rfl,?_,?_⟩
 ·exact Jm (Zbp _ _) (Zbp _ _)
 ·exact(O HR).drew.drew
theorem Znu {α:Type}(RV:World->Nat->Value->α->Prop)(b:Nat)(s:ByteArray)(a:Nat)(w:World)(h:Lj w b s a)(hlt:s.size<=a):Calls Tryz.prog 174 #[.pointer (some ⟨b,0,none⟩)] w (Ya b s RV (.error a) w):=by
 have c0:=h.c0;have c1:=h.c1;have hsm:=h.small;have hbd:=h.bd;have hle:(s.size:Int)<=a:=by omega
 have HC:=Zc (Zbq RV b s a w.drew h.drew);clear h;go_enter Tryz.func174,Tryz.ntmps174
 go_wp2;go_region
 go_wp2_with fail
 refine(O HC).mono ?_;intro e w2 h2;have h3:=Ya.err (RW:=RV) h2 (Zbp w (some b));obtain⟨g1,g,rfl,g2,g3⟩:=h2;exact⟨rfl,h3⟩
theorem Zst (b:Nat)(s:ByteArray)(a:Nat)(x lo hi:Int)(w:World)(h:Lj w b s a)(hlt:a<s.size):Calls Tryz.prog 173 #[.pointer (some ⟨b,0,none⟩),.int .i64 x,.int .i64 lo,.int .i64 hi] w (Ya b s Rq (Lm lo hi x a) w):=by
 have c1:=h.c1;have f1:=h.f1;have hsm:=h.small;have HC:=Zc (Zbq Rq b s a w h);have HR:=Zc h;clear h;by_cases h1:lo<=x
 ·by_cases h2:x<=hi
  ·have HD:=Zc (show Lm lo hi x a=.ok (x,a+1) from if_pos ⟨h1,h2⟩);go_enter Tryz.func173,Tryz.ntmps173
   go_wp2;go_ret;rw [O HD];exact⟨Zxn w b 1 _,_,rfl,rfl,(O HR).next hlt⟩
  ·have HD:=Zc (show Lm lo hi x a=.error a from if_neg (fun c=>h2 c.2));go_enter Tryz.func173,Tryz.ntmps173
   go_wp2_with fail
   refine(O HC).mono ?_;intro e w2 h2;have h3:=h2;obtain⟨g1,g,rfl,g2,g3⟩:=h2;refine⟨rfl,?_⟩;rw [O HD];exact h3
 ·have HD:=Zc (show Lm lo hi x a=.error a from if_neg (fun c=>h1 c.1));go_enter Tryz.func173,Tryz.ntmps173
  go_wp2_with fail
  refine(O HC).mono ?_;intro e w2 h2;have h3:=h2;obtain⟨g1,g,rfl,g2,g3⟩:=h2;refine⟨rfl,?_⟩;rw [O HD];exact h3
set_option maxHeartbeats 1000000
set_option maxRecDepth 100000
theorem Xb (b:Nat)(s:ByteArray)(a:Nat)(lo hi:Int)(w:World)(h:Lj w b s a)(hlo:lo≠-1):Calls Tryz.prog 121 #[.pointer (some ⟨b,0,none⟩),.int .i64 lo,.int .i64 hi] w (Ya b s Rq (Zw s lo hi a) w):=by
 by_cases hlt:a<s.size
 ·have HD:=Zc (show Zw s lo hi a=Lm lo hi (bAt s a) a by unfold Zw signed; rw [if_pos hlt,if_neg (fun c=>hlo c.1)]);obtain⟨b0,b1⟩:=Zsq s a;have HP:=Zc (Znt b s a w h hlt);generalize bAt s a=n at HD HP b0 b1;clear h hlo;go_enter Tryz.func121,Tryz.ntmps121
  go_wp2_with fail
  refine(O HP).mono ?_;rintro e w1 ⟨rfl,hg1,hR1⟩;have HT:=Zc (Zst b s a n lo hi w1 hR1 hlt);have HG1:=Zc hg1;clear hg1 hR1;go_wp2_with fail
  refine(O HT).mono ?_;intro e w2 h2;cases hr:Lm lo hi n a with
  | ok p=>obtain⟨x,a'⟩:=p;rw [hr] at h2;obtain⟨g1,v,rfl,hv,hR⟩:=h2;have HV:=Zc hv;have HR2:=Zc hR;have HG2:=Zc (Jm (O HG1) g1);have HE:=Zc hr;clear hv hR g1 hr;go_wp2;go_ret;rw [O HD,O HE];exact⟨O HG2,v,rfl,O HV,O HR2⟩
  | error q=>rw [hr] at h2;have h3:=Ya.err (RW:=Rq) h2 (O HG1);obtain⟨g1,g,rfl,g2,g3⟩:=h2;refine⟨rfl,?_⟩;rw [O HD,hr];exact h3
 ·have HD:=Zc (show Zw s lo hi a=.error a from if_neg hlt);have HP:=Zc (Znu Rq b s a w h (by omega));clear h;go_enter Tryz.func121,Tryz.ntmps121
  go_wp2_with fail
  refine(O HP).mono ?_;intro e w2 h2;have h3:=Ya.err (RW:=Rq) h2 (Xi w (some b));obtain⟨g1,g,rfl,g2,g3⟩:=h2;refine⟨rfl,?_⟩;rw [O HD];exact h3
theorem Znv (b:Nat)(s:ByteArray)(a:Nat)(w:World)(h:Lj w b s a):Calls Tryz.prog 176 #[.pointer (some ⟨b,0,none⟩)] w (Ya b s Rq (Zw s 0 8 a) w):=by
 have HN:=Zc (Xb b s a 0 8 w h (by decide));clear h;go_enter Tryz.func176,Tryz.ntmps176
 go_wp2_with fail
 refine(O HN).mono ?_;intro e w2 h2;cases hr:Zw s 0 8 a with
 | ok p=>obtain⟨x,a'⟩:=p;rw [hr] at h2;obtain⟨g1,v,rfl,hv,hR⟩:=h2;have HV:=Zc hv;have HR2:=Zc hR;have HG2:=Zc (Jm (Xi w (some b)) g1);have HE:=Zc hr;clear hv hR g1 hr;go_wp2;go_ret;rw [O HE];exact⟨O HG2,v,rfl,O HV,O HR2⟩
 | error q=>rw [hr] at h2;have h3:=Ya.err (RW:=Rq) h2 (Xi w (some b));obtain⟨g1,g,rfl,g2,g3⟩:=h2;refine⟨rfl,?_⟩;exact h3
theorem Gw (b:Nat)(s:ByteArray)(a:Nat)(w:World)(h:Lj w b s a):Calls Tryz.prog 232 #[.pointer (some ⟨b,0,none⟩)] w (Ya b s Rq (Zw s 0 255 a) w):=by
 have HN:=Zc (Xb b s a 0 255 w h (by decide));clear h;go_enter Tryz.func232,Tryz.ntmps232
 go_wp2_with fail
 refine(O HN).mono ?_;intro e w2 h2;cases hr:Zw s 0 255 a with
 | ok p=>obtain⟨x,a'⟩:=p;rw [hr] at h2;obtain⟨g1,v,rfl,hv,hR⟩:=h2;have HV:=Zc hv;have HR2:=Zc hR;have HG2:=Zc (Jm (Xi w (some b)) g1);have HE:=Zc hr;clear hv hR g1 hr;go_wp2;go_ret;rw [O HE];exact⟨O HG2,v,rfl,O HV,O HR2⟩
 | error q=>rw [hr] at h2;have h3:=Ya.err (RW:=Rq) h2 (Xi w (some b));obtain⟨g1,g,rfl,g2,g3⟩:=h2;refine⟨rfl,?_⟩;exact h3
theorem Ybz (b:Nat)(s:ByteArray)(a:Nat)(w:World)(h:Lj w b s a):Calls Tryz.prog 180 #[.pointer (some ⟨b,0,none⟩)] w (Ya b s Rq (Zw s 1 8 a) w):=by
 have HN:=Zc (Xb b s a 1 8 w h (by decide));clear h;go_enter Tryz.func180,Tryz.ntmps180
 go_wp2_with fail
 refine(O HN).mono ?_;intro e w2 h2;cases hr:Zw s 1 8 a with
 | ok p=>obtain⟨x,a'⟩:=p;rw [hr] at h2;obtain⟨g1,v,rfl,hv,hR⟩:=h2;have HV:=Zc hv;have HR2:=Zc hR;have HG2:=Zc (Jm (Xi w (some b)) g1);have HE:=Zc hr;clear hv hR g1 hr;go_wp2;go_ret;rw [O HE];exact⟨O HG2,v,rfl,O HV,O HR2⟩
 | error q=>rw [hr] at h2;have h3:=Ya.err (RW:=Rq) h2 (Xi w (some b));obtain⟨g1,g,rfl,g2,g3⟩:=h2;refine⟨rfl,?_⟩;exact h3
theorem Zxp (n:Int)(a:Nat)(h0:0<=n)(h1:n<=255):Lm (-1) 15 (if n<=127 then n else n-256) a=Lm (-1) 15 (signed (-1) n) a:=by
 by_cases h2:n=255
 ·subst h2; rfl
 ·have e1:signed (-1) n=n:=if_neg (fun c=>h2 c.2);rw [e1];by_cases h3:n<=127
  ·rw [if_pos h3]
  ·rw [if_neg h3];unfold Lm;rw [if_neg (by omega),if_neg (by omega)]
theorem Yca (b:Nat)(s:ByteArray)(a:Nat)(w:World)(h:Lj w b s a):Calls Tryz.prog 179 #[.pointer (some ⟨b,0,none⟩)] w (Ya b s Rq (Zw s (-1) 15 a) w):=by
 by_cases hlt:a<s.size
 ·obtain⟨b0,b1⟩:=Zsq s a;have HD:=Zc (show Zw s (-1) 15 a=Lm (-1) 15 (if bAt s a<=127 then bAt s a else bAt s a-256) a by unfold Zw; rw [if_pos hlt,Zxp _ _ b0 b1]);have HP:=Zc (Znt b s a w h hlt);generalize bAt s a=n at HD HP b0 b1;have hi8:IntKind.i8.wrap n=(if n<=127 then n else n-256):=by unfold IntKind.wrap;simp [IntKind.bits,IntKind.signed];split <;> split <;> omega
  have hi64:wrap64 (if n<=127 then n else n-256)=(if n<=127 then n else n-256):=by unfold wrap64;split <;> omega
  have HI:=Zc hi8;have HJ:=Zc hi64;clear h hi8 hi64;go_enter Tryz.func179,Tryz.ntmps179
  go_wp2_with fail
  refine(O HP).mono ?_;rintro e w1 ⟨rfl,hg1,hR1⟩;generalize hm:(if n<=127 then n else n-256)=m at HD HI HJ;have HT:=Zc (Zst b s a m (-1) 15 w1 hR1 hlt);have HG1:=Zc hg1;clear hg1 hR1 hm;go_wp2_with fail
  rw [show wrap64 (IntKind.i8.wrap n)=m by rw [O HI]; exact O HJ];refine(O HT).mono ?_;intro e w2 h2;cases hr:Lm (-1) 15 m a with
  | ok p=>obtain⟨x,a'⟩:=p;rw [hr] at h2;obtain⟨g1,v,rfl,hv,hR⟩:=h2;have HV:=Zc hv;have HR2:=Zc hR;have HG2:=Zc (Jm (O HG1) g1);have HE:=Zc hr;clear hv hR g1 hr;go_wp2;go_ret;rw [O HD,O HE];exact⟨O HG2,v,rfl,O HV,O HR2⟩
  | error q=>rw [hr] at h2;have h3:=Ya.err (RW:=Rq) h2 (O HG1);obtain⟨g1,g,rfl,g2,g3⟩:=h2;refine⟨rfl,?_⟩;rw [O HD,hr];exact h3
 ·have HD:=Zc (show Zw s (-1) 15 a=.error a from if_neg hlt);have HP:=Zc (Znu Rq b s a w h (by omega));clear h;go_enter Tryz.func179,Tryz.ntmps179
  go_wp2_with fail
  refine(O HP).mono ?_;intro e w2 h2;have h3:=Ya.err (RW:=Rq) h2 (Xi w (some b));obtain⟨g1,g,rfl,g2,g3⟩:=h2;refine⟨rfl,?_⟩;rw [O HD];exact h3
end Go.Proofs.YtkenknfgeoecbaaGreatDoor
namespace Go.Proofs.YtkenknfgeoecbaaGreatDoor
open Go.ChangeShapes Go.WideShapes Go.ChangeAt Go.RowKit
theorem Yar {P:Program}(h:P.funcs.any Func.goes=false)(s:Start)(f:String):P.goesAt s f=false:=by
 have h0:∀(g:Nat),(P.funcs[g]?).any Func.goes=false:=fun g=>by
  cases hg:P.funcs[g]? with
  | none=>rfl
  | some fn=>obtain⟨hl,e⟩:=Array.getElem?_eq_some_iff.1 hg;have:=Array.any_eq_false.1 h g hl;rw [e] at this;simpa using this
 have k:∀ g,P.goes g=false:=fun g=>by
  unfold Program.goes;rw [h,Bool.and_false,Bool.or_false];simp only [h0];simp
 unfold Program.goesAt Program.goesFrom;have e:(P.funcNamed f).any P.goes=false:=by
  cases P.funcNamed f with
  | none=>rfl
  | some g=>exact k g
 rw [e,Bool.false_or];split
 ·rfl
 ·exact List.any_eq_false.2 (fun x _=>by rw [k x]; decide)
theorem Zrx:Tryz.pinned.checked.prog.funcs.any Func.goes=false:=by kernel_rfl
theorem Zkj:false=Rows.togetherRow.goesBy Tryz.pinned.checked.prog:=(Yar Zrx _ _).symm
theorem Zkt:(Rows.togetherRow.inPlace==Tryz.pinned.checked.prog.inPlace 3)=true:=by kernel_rfl
theorem Zgz:(Rows.togetherRow.unfollowed==Tryz.pinned.checked.prog.unfollowed 3)=true:=by kernel_rfl
theorem Zha:(Rows.togetherRow.recurses==Tryz.pinned.checked.prog.recurses 3)=true:=by kernel_rfl
theorem Zhb:(Rows.togetherRow.named==Tryz.pinned.checked.prog.varsNamed 3)=true:=by kernel_rfl
theorem Zhc:(Rows.togetherRow.maps==(Tryz.f3.params.toList++Rows.togetherSpec.plain.varTypes Tryz.pinned.checked.prog).any (Tryz.pinned.checked.prog.mapsRec ·))=true:=by kernel_rfl
theorem Zhd:(Rows.togetherRow.ifaces==(Tryz.f3.params.toList++Rows.togetherSpec.plain.varTypes Tryz.pinned.checked.prog).any (Tryz.pinned.checked.prog.ifacesRec ·))=true:=by kernel_rfl
theorem Zhe:(Rows.togetherRow.mapsOut==Tryz.pinned.checked.prog.mapsAmong Tryz.f3.resultTypes.toList)=true:=by kernel_rfl
theorem Zhf:(Rows.togetherRow.loops==(Tryz.f3.params.toList++Rows.togetherSpec.plain.varTypes Tryz.pinned.checked.prog).any (Tryz.pinned.checked.prog.loopsFrom ·))=true:=by kernel_rfl
theorem Zhg:(Rows.togetherRow.wideKeys==(Tryz.f3.params.toList++Rows.togetherSpec.plain.varTypes Tryz.pinned.checked.prog++Tryz.f3.resultTypes.toList).any (Tryz.pinned.checked.prog.wideKeysFrom ·))=true:=by kernel_rfl
end Go.Proofs.YtkenknfgeoecbaaGreatDoor
