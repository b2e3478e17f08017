import Derived.Test.YteddfaconabobaaGreatDoorJ0
import Derived.Defers
import Derived.Test.YteddfaconabobaaGreatDoorEncX
import Derived.Test.YteddfaconabobaaGreatDoorJ3
import Derived.Laws.CopyOwn
import Derived.RegionCalls
import Derived.Test.YteddfaconabobaaGreatDoorRows
import Derived.ProofKit
import Derived.OpenShut
import Derived.LaidLaws
import Derived.LaidHandle
import Derived.LaidSub
import Derived.SizedLaws
import Derived.WideShapes
import Derived.Lib.LaidTab
import Derived.Lib.LaidU8
import Derived.Lay
import Derived.Test.YteddfaconabobaaGreatDoorCards
import Derived.Test.YteddfaconabobaaGreatDoorTie
import Derived.WalkKit
import Derived.Carry
import Derived.Deep.DeepHandedRow
import Derived.SevenTiedAt
import Derived.Test.YteddfaconabobaaGreatDoorJ12
import Derived.Deep.CutRange
import Derived.Test.YteddfaconabobaaGreatDoorTblRef
import Derived.Laws.AppendOwn
import Derived.Laws.OwnMore
import Derived.Deep.RegionLaw
import Derived.Below
import Derived.Test.YteddfaconabobaaGreatDoorPk
import Derived.Test.YteddfaconabobaaGreatDoorJ7
import Derived.Deep.CutBlock
import Derived.Deep.DeepCutAuto
import Derived.Deep.RegionHeld3
namespace Go.Proofs.YteddfaconabobaaGreatDoor
open Go.RowKit
theorem Dm.mono {w:World}{b b':Nat}{v:Value}{ns:List Int}(h:Dm w b v ns)(hb:b≤b'):Dm w b' v ns:=by
 rcases h with h | ⟨sb,so,cap,h1,h2,h3⟩
 ·
  exact Or.inl h
 ·
  exact Or.inr ⟨sb,so,cap,h1,by omega,h3⟩
theorem Rx.mono {α:Type}{size:Nat}{w:World}{b b':Nat}{v:Value}{ps:List (Array Value×α)}(h:Rx size w b v ps)(hb:b≤b'):Rx size w b' v ps:=by
 rcases h with h | ⟨sb,so,cap,h1,h2,h3⟩
 ·
  exact Or.inl h
 ·
  exact Or.inr ⟨sb,so,cap,h1,by omega,h3⟩
theorem VsB.mono {α:Type}{w:World}{b b':Nat}{v:Value}{ps:List (Value×α)}(h:VsB w b v ps)(hb:b≤b'):VsB w b' v ps:=by
 rcases h with h | ⟨sb,so,cap,h1,h2,h3⟩
 ·
  exact Or.inl h
 ·
  exact Or.inr ⟨sb,so,cap,h1,by omega,h3⟩
theorem Lu.mono {w:World}{b b':Nat}{p:Array Value×Zw}(h:Lu w b p)(hb:b≤b'):Lu w b' p:=by
 obtain⟨av,ov,pa,h1,h2,h3,h4,h5,h6⟩:=h;exact⟨av,ov,pa,h1,h2,h3,h4.mono hb,h5.mono hb,h6⟩
theorem Nj.mono {w:World}{b b':Nat}{p:Value×List Zw}(h:Nj w b p)(hb:b≤b'):Nj w b' p:=by
 obtain⟨ps,h1,h2,h3,h4⟩:=h;exact⟨ps,h1,h2.mono hb,fun q hq=>(h3 q hq).mono hb,h4⟩
theorem Dg.mono {w:World}{b b':Nat}{f:Zn}{pv hv sv bv:Value}{pp:List (Array Value×(Int×Int))}{pb:List (Value×List Zw)}(h:Dg w b f pv hv sv bv pp pb)(hb:b≤b'):Dg w b' f pv hv sv bv pp pb :=
 ⟨h.params,h.vals,h.pls.mono hb,h.hls.mono hb,h.sls.mono hb,h.bls.mono hb,h.blocks,fun q hq=>(h.each q hq).mono hb,h.lens⟩
theorem Gk.mono {w:World}{b b':Nat}{p:Array Value×Zn}(h:Gk w b p)(hb:b≤b'):Gk w b' p:=by
 obtain⟨pv,hv,sv,bv,pp,pb,h1,h2⟩:=h;exact⟨pv,hv,sv,bv,pp,pb,h1,h2.mono hb⟩
theorem Nk.mono {w:World}{b b':Nat}{p:Array Value×(List Int×Int)}(h:Nk w b p)(hb:b≤b'):Nk w b' p:=by
 obtain⟨lv,h1,h2,h3⟩:=h;exact⟨lv,h1,h2.mono hb,h3⟩
theorem Ub.mono {w:World}{b b':Nat}{p:Zl}{fv ev:Value}{pf:List (Array Value×Zn)}{pe:List (Array Value×(List Int×Int))}(h:Ub w b p fv ev pf pe)(hb:b≤b'):Ub w b' p fv ev pf pe :=
 ⟨h.fls.mono hb,h.els.mono hb,h.funcs,h.externs,fun q hq=>(h.feach q hq).mono hb,fun q hq=>(h.eeach q hq).mono hb,h.lens⟩
theorem Zck {α:Type}(lo hi:Int)(one:α→Pr)(xs:List α):(Sv lo hi one xs).1.length=1+(Yc one xs).1.length:=by
 simp only [Sv,Yg,Yb,List.length_append,List.length_singleton]
section
variable {w w':World} {b:Nat}
abbrev Mi (b:Nat)(w w':World):Prop:=∀ k,k<b→w'.heap[k]?=w.heap[k]?
theorem Dm.same {v:Value}{ns:List Int}(h:Dm w b v ns)(hw:Mi b w w'):Dm w' b v ns:=by
 rcases h with h | ⟨sb,so,cap,h1,h2,h3⟩
 ·
  exact Or.inl h
 ·
  exact Or.inr ⟨sb,so,cap,h1,h2,fun i hi=>(World.cell?_of_block (a:=⟨sb,so+i,none⟩) (hw sb h2)).trans (h3 i hi)⟩
theorem Rx.same {α:Type}{size:Nat}{v:Value}{ps:List (Array Value×α)}(h:Rx size w b v ps)(hw:Mi b w w'):Rx size w' b v ps:=by
 rcases h with h | ⟨sb,so,cap,h1,h2,h3⟩
 ·
  exact Or.inl h
 ·
  exact Or.inr ⟨sb,so,cap,h1,h2,fun i hi j x hx=>(World.cell?_of_block (a:=⟨sb,so+i*size+j,none⟩) (hw sb h2)).trans (h3 i hi j x hx)⟩
theorem VsB.same {α:Type}{v:Value}{ps:List (Value×α)}(h:VsB w b v ps)(hw:Mi b w w'):VsB w' b v ps:=by
 rcases h with h | ⟨sb,so,cap,h1,h2,h3⟩
 ·
  exact Or.inl h
 ·
  exact Or.inr ⟨sb,so,cap,h1,h2,fun i hi=>(World.cell?_of_block (a:=⟨sb,so+i,none⟩) (hw sb h2)).trans (h3 i hi)⟩
theorem Lu.same {p:Array Value×Zw}(h:Lu w b p)(hw:Mi b w w'):Lu w' b p:=by
 obtain⟨av,ov,pa,h1,h2,h3,h4,h5,h6⟩:=h;exact⟨av,ov,pa,h1,h2,h3,h4.same hw,h5.same hw,h6⟩
theorem Nj.same {p:Value×List Zw}(h:Nj w b p)(hw:Mi b w w'):Nj w' b p:=by
 obtain⟨ps,h1,h2,h3,h4⟩:=h;exact⟨ps,h1,h2.same hw,fun q hq=>(h3 q hq).same hw,h4⟩
theorem Dg.same {f:Zn}{pv hv sv bv:Value}{pp:List (Array Value×(Int×Int))}{pb:List (Value×List Zw)}(h:Dg w b f pv hv sv bv pp pb)(hw:Mi b w w'):Dg w' b f pv hv sv bv pp pb :=
 ⟨h.params,h.vals,h.pls.same hw,h.hls.same hw,h.sls.same hw,h.bls.same hw,h.blocks,fun q hq=>(h.each q hq).same hw,h.lens⟩
theorem Nk.same {p:Array Value×(List Int×Int)}(h:Nk w b p)(hw:Mi b w w'):Nk w' b p:=by
 obtain⟨lv,h1,h2,h3⟩:=h;exact⟨lv,h1,h2.same hw,h3⟩
theorem Gk.same {p:Array Value×Zn}(h:Gk w b p)(hw:Mi b w w'):Gk w' b p:=by
 obtain⟨pv,hv,sv,bv,pp,pb,h1,h2⟩:=h;exact⟨pv,hv,sv,bv,pp,pb,h1,h2.same hw⟩
theorem Ub.same {p:Zl}{fv ev:Value}{pf:List (Array Value×Zn)}{pe:List (Array Value×(List Int×Int))}(h:Ub w b p fv ev pf pe)(hw:Mi b w w'):Ub w' b p fv ev pf pe :=
 ⟨h.fls.same hw,h.els.same hw,h.funcs,h.externs,fun q hq=>(h.feach q hq).same hw,fun q hq=>(h.eeach q hq).same hw,h.lens⟩
end
theorem Pn.seq {w:World}{b:Nat}{l:List UInt8}{bad:Bool}{X A:Pr}(h:Pn w b (l++X.1++A.1) (bad||X.2||A.2)):Pn w b (l++(Yg X A).1) (bad||(Yg X A).2):=by
 simpa only [Yg,← List.append_assoc,← Bool.or_assoc] using h
theorem Kt (lo hi x:Int):(Yb lo hi x).1.length=1:=rfl
set_option maxHeartbeats 1000000 in
theorem Zat (e f b a:Int)(w:World):Calls Tryz.prog 10 #[Dc e f b a,Dc e f b a] w fun x w'=>x=.returned (.bool true)∧Below w.heap.size w w':=by
 unfold Dc;go_enter Tryz.func10,Tryz.ntmps10
 go_wp2;go_ret;exact⟨rfl,by go_grown⟩
end Go.Proofs.YteddfaconabobaaGreatDoor
namespace Go.Proofs.YteddfaconabobaaGreatDoor
open Go.ChangeShapes Go.WideShapes Go.ChangeAt Go.RowKit
theorem Tryz.ownE:ownKnob Tryz.prog.godebug=none:=by kernel_rfl
theorem Tryz.laidOutE:laidOutB Tryz.prog=true:=by kernel_rfl
theorem Tryz.etE : Tryz.prog.globalNamed "errors.errorType" = some 0 := by kernel_rfl
theorem Tryz.rtE : (Tryz.prog.cutTypes.find? (·.1 == "internal/reflectlite.rtype")).map (·.2) = some 153 := by kernel_rfl
theorem Tryz.oneRowE:((List.range 237).filter fun t=>Tryz.prog.rowNamed t [101,114,114,111,114])=[67]:=by kernel_rfl
theorem Tryz.sizeE:Tryz.prog.types.size=237:=by kernel_rfl
theorem Tryz.handE:typeHandle Tryz.prog 67=.pointer (some ⟨2,67,none⟩):=by kernel_rfl
theorem Tryz.gNeedE : Tryz.prog.globalNamed "prologue/program.needed" = some 1 := by kernel_rfl
theorem Tryz.gNeedTE:(Tryz.prog.globals[1]?).map (·.type)=some 197:=by kernel_rfl
theorem Tryz.cellsFieldsE:Tryz.prog.cellsOf 188=1:=by kernel_rfl
theorem Tryz.cellsNeedE:Tryz.prog.cellsOf 197=19:=by kernel_rfl
theorem Zgh:(Rows.laid_prologue_program_needed:DataW Unit)=Lib.tabData .u8 Dy:=by kernel_rfl
theorem Ko {W : World} (h : Lib.VarReads Tryz.prog W "prologue/program.needed" Rows.laid_prologue_program_needed) : Jb W := by
 obtain⟨g,t,cs,fuel,p,hg,ht,hv,hd⟩:=h;obtain rfl:=Option.some.inj (Tryz.gNeedE.symm.trans hg);obtain rfl:=Option.some.inj (Tryz.gNeedTE.symm.trans ht);rw [Zgh] at hd;have hc:=Lib.cells_of_tab Tryz.underlying197 Tryz.underlying188 Tryz.cellsFieldsE Tryz.cellsNeedE hd;intro k hk;rw [World.var?_cell Tryz.gNeedE hv k];have h1:cs[k]?=(Dy.map fun z=>Value.int .u8 z)[k]?:=by rw [← hc]; simp
 rw [h1,List.getElem?_map];have h2:Dy[k]?=some (Dy.getD k 0):=by
  have:k<Dy.length:=hk;simp [List.getD,this]
 rw [h2];rfl
theorem Zie {W : World} {l : List (String × DataW Unit)} (h : laidMetH Tryz.prog l W) (hm : ("errors.errorType", Rows.laid_errors_errorType) ∈ l.filter fun x => x.2.handleName?.isSome) : Xx W := by
 obtain ⟨-, h2⟩ := laidMetH_iff.1 h;obtain ⟨name, u, ty, e1, e2, e3, e4, e5⟩ := h2 ("errors.errorType", Rows.laid_errors_errorType) hm;have en : name = [101, 114, 114, 111, 114] := (Option.some.inj e1).symm;subst en;obtain rfl := Option.some.inj (Tryz.rtE.symm.trans e2);have hm : ty ∈ (List.range 237).filter fun t => Tryz.prog.rowNamed t [101, 114, 114, 111, 114] := List.mem_filter.2 ⟨List.mem_range.2 (by rw [← Tryz.sizeE]; exact e3), e4⟩;rw [Tryz.oneRowE] at hm;obtain rfl := List.mem_singleton.1 hm;rw [Tryz.handE] at e5;simpa using World.var?_cell Tryz.etE e5 0
def Zey (w:World):World :=
 { w with heap:=w.heap.modify 0 fun
  | .cells _ t frozen=>.cells #[.iface 153 (.agg #[.pointer (some ⟨2,67,none⟩)])] t frozen
  | o=>o }
theorem Uk {α:Type}(one:α→Pr)(c:Nat)(h:∀ x,(one x).1.length=c):∀ xs:List α,(Yc one xs).1.length=c*xs.length
 | []=>by simp [Yc]
 | x :: xs=>by
  have h1:=h x;have h2:=Uk one c h xs;simp only [Yc,Yg,List.length_append,List.length_cons,Nat.mul_succ];omega
theorem Mr (op:Int):(Zu op).length≤4:=by
 have hall:∀ x ∈ Jl,x.toList.length≤4:=by decide
 unfold Zu Me;split
 ·
  have:Jl.getD op.toNat #[63] ∈ Jl∨Jl.getD op.toNat #[63]=#[63]:=by
   rcases Nat.lt_or_ge op.toNat Jl.length with h | h
   ·
    left
    have e:Jl.getD op.toNat #[63]=Jl[op.toNat]:=by simp [List.getD,h]
    rw [e];exact List.getElem_mem h
   ·
    right
    simp [List.getD,List.getElem?_eq_none h]
  rcases this with h | h
  ·
   exact hall _ h
  ·
   simp only [h]; decide
 ·
  decide
theorem Zdu (i:Zw)(c:UInt8):(Ys i c).1.length≤9+2*i.args.length+i.outs.length:=by
 have ha:(Sv 0 8 Gw i.args).1.length=1+2*i.args.length:=by rw [Zck,Uk Gw 2 (fun _=>rfl)]
 have ho:(Sv 0 4 (Yb 0 255) i.outs).1.length=1+1*i.outs.length:=by rw [Zck,Uk (Yb 0 255) 1 (fun _=>rfl)]
 have hn:(opB i.n 8).length=8:=by simp [opB]
 unfold Ys;repeat' split
 all_goals first | (simp only [Kt]; omega) | (rw [ha]; omega) | (rw [ho]; omega) | (show(opB i.n 8).length≤_; rw [hn]; omega) | (show(1:Nat)≤_; omega) | (show(0:Nat)≤_; omega)
theorem Us (i:Zw):(Ms i).1.length≤8*Zgi i:=by
 have h1:=Mr i.op;have h2:∀ ls:List UInt8,(Yc (Ys i) ls).1.length≤(9+2*i.args.length+i.outs.length)*ls.length:=by
  intro ls;induction ls with
  | nil=>simp [Yc]
  | cons c cs ih =>
   have:=Zdu i c;simp only [Yc,Yg,List.length_append,List.length_cons,Nat.mul_succ];omega
 have h3:=h2 (Zu i.op);have h4:(9+2*i.args.length+i.outs.length)*(Zu i.op).length≤(9+2*i.args.length+i.outs.length)*4:=Nat.mul_le_mul_left _ h1;simp only [Ms,Yg,List.length_append,Kt,List.length_nil,Zgi];omega
end Go.Proofs.YteddfaconabobaaGreatDoor
namespace Go.Proofs.YteddfaconabobaaGreatDoor
open Go.RowKit
structure Zhu (p:Zl):Prop where
 funcs:∀ k,k<p.funcs.length→Jd (Xn (p.funcs.getD k Ze)).1 0 8=true
 externs:∀ k,k<p.externs.length→Jd (p.externs.getD k ([],0)).1 0 8=true
theorem Li.setRow {w:World}{T:Nat}{cs:Array Value}{v:Value}{ns:List Int}(h:Li w v ns)(hne:∀ sb so n c,v=.slice (some ⟨sb,so,none⟩) n c→0<ns.length→sb≠T):Li (w.setRow T cs) v ns:=by
 obtain⟨p,cap,h1,h2,h3,h4⟩:=h;refine⟨p,cap,h1,h2,h3,fun h0=>?_⟩;obtain⟨sb,so,e,hc⟩:=h4 h0;subst e;have hn:=hne sb so _ _ h1 h0;refine⟨sb,so,rfl,fun i hi=>?_⟩;rw [← hc i hi];unfold World.cell?;simp only [setRow_other w T sb cs hn]
def nz (z:Int):Int:=if z=0 then 0 else 1
theorem Lg (xs:List UInt8)(c L:UInt8)(h:xs.contains L=false):(xs++[c]).contains L=decide (c=L):=by
 have h2:¬ (L ∈ xs):=by simpa using h
 simp only [List.contains_eq_mem,List.mem_append,List.mem_singleton];simp [h2,eq_comm]
theorem Sl (c L:UInt8):decide (c=L)=((c.toNat:Int)==(L.toNat:Int)):=by
 rw [show((c.toNat:Int)==(L.toNat:Int))=decide ((c.toNat:Int)=(L.toNat:Int)) from rfl];exact decide_eq_decide.2 ⟨fun h=>by rw [h],fun h=>UInt8.toNat_inj.1 (by omega)⟩
def Df (ls:List UInt8)(na no:Nat)(k:Nat):Bool:=if k=0 then !(decide (0<na)&&!ls.contains 82) else !(decide (0<no)&&!ls.contains 79)
def zn (ls:List UInt8)(n:Int):Int:=if ls.contains 110 then 0 else n
structure Jn (W wc:World)(T:Nat)(Y:Array Value):Prop where
 low:Below T W wc
 row:wc.heap[T]?=some (.cells Y 65 (0,0))
theorem Jn.set {W wc:World}{T:Nat}{Y:Array Value}(h:Jn W wc T Y)(j:Nat)(v:Value):Jn W (wc.setCell ⟨T,j,none⟩ v) T (Y.setIfInBounds j v) :=
 ⟨⟨h.low.os,h.low.tape,h.low.output,by simpa using h.low.size,fun q hq=>(heap_setCell_other _ _ _ _ (by show q≠T; omega)).trans (h.low.block q hq)⟩,heap_setCell_same _ _ _ _ _ _ h.row⟩
theorem Jn.cell {W wc:World}{T:Nat}{Y:Array Value}(h:Jn W wc T Y)(j:Nat):wc.cell? ⟨T,j,none⟩=Y[j]?:=Zi h.row j
theorem Jn.fz {W wc:World}{T:Nat}{Y:Array Value}(h:Jn W wc T Y)(j:Nat):wc.frozen? ⟨T,j,none⟩=false:=frozen_of_row _ _ j _ _ h.row
theorem Jn.low_row {W wc:World}{T g:Nat}{Y:Array Value}{o:Obj}(h:Jn W wc T Y)(hg:g<T)(hr:W.heap[g]?=some o):wc.heap[g]?=some o:=(h.low.block g hg).trans hr
theorem Zgd:∀ k:Fin 18,∀ b0 b1 b2 b3 b4 b5 b6:Bool,(bits .andNot .u8 (Jm [b0,b1,b2,b3,b4,b5,b6] 7) (Dy.getD (k.val+1) 0) != 0)=((b0&&!((Jl.getD (k.val+1) #[63]).toList.contains 68))||(b1&&!((Jl.getD (k.val+1) #[63]).toList.contains 65))||(b2&&!((Jl.getD (k.val+1) #[63]).toList.contains 66))||(b3&&!((Jl.getD (k.val+1) #[63]).toList.contains 110||(Jl.getD (k.val+1) #[63]).toList.contains 78))||(b4&&!((Jl.getD (k.val+1) #[63]).toList.contains 70))||(b5&&!((Jl.getD (k.val+1) #[63]).toList.contains 82))||(b6&&!((Jl.getD (k.val+1) #[63]).toList.contains 79))):=by decide +kernel
theorem Kk {op d a bb n fx:Int}{gs:List (Int×Int)}{os:List Int}(h1:1≤op)(h2:op≤18):Zw.spare ⟨op,d,a,bb,n,fx,gs,os⟩=(((d != 0)&&!((Zu op).contains 68))||((a != 0)&&!((Zu op).contains 65))||((bb != 0)&&!((Zu op).contains 66))||((n != 0)&&!((Zu op).contains 110||(Zu op).contains 78))||((fx != 0)&&!((Zu op).contains 70))||(((gs.length:Int) != 0)&&!((Zu op).contains 82))||(((os.length:Int) != 0)&&!((Zu op).contains 79))):=by
 obtain⟨k,rfl⟩:∃ k:Fin 18,op=(k.val:Int)+1:=⟨⟨(op-1).toNat,by omega⟩,by simp; omega⟩;have e1:((k.val:Int)+1).toNat=k.val+1:=by omega
 have e2:Zu ((k.val:Int)+1)=(Jl.getD (k.val+1) #[63]).toList:=by unfold Zu Me; rw [if_pos (by omega),e1]
 rw [e2];show(bits .andNot .u8 (Jm [d != 0,a != 0,bb != 0,n != 0,fx != 0,(gs.length:Int) != 0,(os.length:Int) != 0] 7) (Dy.getD ((k.val:Int)+1).toNat 0) != 0)=_;rw [e1];exact Zgd k _ _ _ _ _ _ _
theorem Nh {op d a bb n fx:Int}{gs:List (Int×Int)}{os:List Int}{ls:List UInt8}(h1:1≤op)(h2:op≤18)(hl:ls=Zu op)(hc:ls.contains 82=false)(hg:0<gs.length):Zw.spare ⟨op,d,a,bb,n,fx,gs,os⟩=true:=by
 rw [Kk h1 h2,← hl,hc];have:((gs.length:Int) != 0)=true:=by simp; intro h; rw [h] at hg; simp at hg
 rw [this];simp
theorem Ni {op d a bb n fx:Int}{gs:List (Int×Int)}{os:List Int}{ls:List UInt8}(h1:1≤op)(h2:op≤18)(hl:ls=Zu op)(hc:ls.contains 79=false)(hg:0<os.length):Zw.spare ⟨op,d,a,bb,n,fx,gs,os⟩=true:=by
 rw [Kk h1 h2,← hl,hc];have:((os.length:Int) != 0)=true:=by simp; intro h; rw [h] at hg; simp at hg
 rw [this];simp
theorem Zoy (z:Int):(Yb 0 255 (nz z)).2=false:=by unfold Yb nz; split <;> decide
theorem Zkj (op d a bb n0 fx:Int)(h1:1≤op)(h2:op≤18)(h255:(Zu op).contains 110=true→n0=0):(Ms ⟨op,nz d,nz a,nz bb,n0,nz fx,[],[]⟩).2=!Zfa ⟨op,nz d,nz a,nz bb,n0,nz fx,[],[]⟩ (Zu op):=by
 have hp:∀ c ∈ Zu op,(Ys ⟨op,nz d,nz a,nz bb,n0,nz fx,[],[]⟩ c).2=false:=fun c hc=>by
  by_cases hc1:c=110
  ·
   subst hc1;have h0:=h255 (by simpa using hc);subst h0;rfl
  ·
   unfold Ys;repeat' split
   all_goals first | exact Zoy _ | rfl | contradiction
 have ha:∀ ls:List UInt8,(∀ c ∈ ls,(Ys ⟨op,nz d,nz a,nz bb,n0,nz fx,[],[]⟩ c).2=false)→(Yc (Ys ⟨op,nz d,nz a,nz bb,n0,nz fx,[],[]⟩) ls).2=false:=fun ls=>by
  induction ls with
  | nil=>intro _; rfl
  | cons c cs ih=>intro h; simp only [Yc,Yg]; rw [h c (by simp),ih (fun x hx=>h x (by simp [hx]))]; rfl
 simp only [Ms,Yg];rw [ha _ hp];have:(Yb 1 18 op).2=false:=by unfold Yb; simp; omega
 rw [this];rfl
theorem Zaj (ls:List UInt8)(c:UInt8)(x:Int):(zap ls c (nz x)==0)=!((x != 0)&&!(ls.contains c)):=by
 unfold zap nz;cases ls.contains c with
 | true=>simp
 | false =>
  by_cases h:x=0
  ·
   simp [h]
  ·
   simp [h]
theorem Zkk (ls:List UInt8)(n:Int):(Dn ls (zn ls n)==0)=!((n != 0)&&!(ls.contains 110||ls.contains 78)):=by
 unfold Dn zn;cases ls.contains 110 with
 | true=>simp
 | false =>
  cases ls.contains 78 with
  | true=>simp
  | false =>
   show(n==0)=!((n != 0)&&!(false||false));cases h:(n==0) <;> simp [bne,h]
theorem Zak {op d a bb n fx n0:Int}{gs:List (Int×Int)}{os:List Int}{ls:List UInt8}(h1:1≤op)(h2:op≤18)(hl:ls=Zu op)(hn:zn ls n=n0)(h8:Df ls gs.length os.length 0=true)(h9:Df ls gs.length os.length 1=true):(Ms ⟨op,nz d,nz a,nz bb,n0,nz fx,[],[]⟩).2=Zw.spare ⟨op,d,a,bb,n,fx,gs,os⟩:=by
 rw [Zkj op d a bb n0 fx h1 h2 (fun h=>by rw [← hl] at h; rw [← hn]; unfold zn; rw [h]; rfl),Kk h1 h2,← hl];have g8:(((gs.length:Int) != 0)&&!(ls.contains 82))=false:=by
  unfold Df at h8;rw [if_pos rfl] at h8;have e:((gs.length:Int) != 0)=decide (0<gs.length):=by
   rcases Nat.eq_zero_or_pos gs.length with h | h
   ·
    simp [h]
   ·
    have:((gs.length:Int) != 0)=true:=by simp; intro hh; rw [hh] at h; simp at h
    rw [this,decide_eq_true h]
  rw [e];simpa only [Bool.not_eq_true'] using h8
 have g9:(((os.length:Int) != 0)&&!(ls.contains 79))=false:=by
  unfold Df at h9;rw [if_neg (by decide)] at h9;have e:((os.length:Int) != 0)=decide (0<os.length):=by
   rcases Nat.eq_zero_or_pos os.length with h | h
   ·
    simp [h]
   ·
    have:((os.length:Int) != 0)=true:=by simp; intro hh; rw [hh] at h; simp at h
    rw [this,decide_eq_true h]
  rw [e];simpa only [Bool.not_eq_true'] using h9
 rw [g8,g9];subst hn;have e82:((Sw ls 82 ([]:List (Int×Int)).length:Int)==0)=true:=by unfold Sw; split <;> rfl
 have e79:((Sw ls 79 ([]:List Int).length:Int)==0)=true:=by unfold Sw; split <;> rfl
 show(!Ul (zap ls 68 (nz d)) (zap ls 65 (nz a)) (zap ls 66 (nz bb)) (Dn ls (zn ls n)) (zap ls 70 (nz fx)) (Sw ls 82 ([]:List (Int×Int)).length) (Sw ls 79 ([]:List Int).length))=_;unfold Ul;rw [Zaj,Zaj,Zaj,Zkk,Zaj,e82,e79];generalize ((d != 0)&&!(ls.contains 68))=b0;generalize ((a != 0)&&!(ls.contains 65))=b1;generalize ((bb != 0)&&!(ls.contains 66))=b2;generalize ((n != 0)&&!(ls.contains 110||ls.contains 78))=b3;generalize ((fx != 0)&&!(ls.contains 70))=b4;cases b0 <;> cases b1 <;> cases b2 <;> cases b3 <;> cases b4 <;> rfl
theorem Zal {ls:List UInt8}{na no:Nat}(h:ls.contains 82=true):Df ls na no 0=true:=by
 unfold Df;rw [if_pos rfl,h];cases decide (0<na) <;> rfl
theorem Zam {ls:List UInt8}{na no:Nat}(h:ls.contains 79=true):Df ls na no 1=true:=by
 unfold Df;rw [if_neg (by decide),h];cases decide (0<no) <;> rfl
theorem Zan {ls:List UInt8}{na no:Nat}(h:¬ 0<na):Df ls na no 0=true:=by
 unfold Df;rw [if_pos rfl,decide_eq_false h];rfl
theorem Zao {ls:List UInt8}{na no:Nat}(h:¬ 0<no):Df ls na no 1=true:=by
 unfold Df;rw [if_neg (by decide),decide_eq_false h];rfl
theorem Zet (w:World)(X0 X1 X2 X3 X4:Obj):(((((w.alloc X0).alloc X1).alloc X2).alloc X3).alloc X4).heap[w.heap.size]?=some X0∧(((((w.alloc X0).alloc X1).alloc X2).alloc X3).alloc X4).heap[w.heap.size+1]?=some X1∧(((((w.alloc X0).alloc X1).alloc X2).alloc X3).alloc X4).heap[w.heap.size+1+1]?=some X2∧(((((w.alloc X0).alloc X1).alloc X2).alloc X3).alloc X4).heap[w.heap.size+1+1+1]?=some X3∧(((((w.alloc X0).alloc X1).alloc X2).alloc X3).alloc X4).heap.size=w.heap.size+1+1+1+1+1:=by
 obtain⟨r0,b0,s0⟩:=Yj w X0;obtain⟨r1,b1,s1⟩:=Yj (w.alloc X0) X1;obtain⟨r2,b2,s2⟩:=Yj ((w.alloc X0).alloc X1) X2;obtain⟨r3,b3,s3⟩:=Yj (((w.alloc X0).alloc X1).alloc X2) X3;obtain⟨r4,b4,s4⟩:=Yj ((((w.alloc X0).alloc X1).alloc X2).alloc X3) X4;rw [s0] at r1;rw [s1,s0] at r2;rw [s2,s1,s0] at r3;exact⟨(b4.block _ (by omega)).trans ((b3.block _ (by omega)).trans ((b2.block _ (by omega)).trans ((b1.block _ (by omega)).trans r0))),(b4.block _ (by omega)).trans ((b3.block _ (by omega)).trans ((b2.block _ (by omega)).trans r1)),(b4.block _ (by omega)).trans ((b3.block _ (by omega)).trans r2),(b4.block _ (by omega)).trans r3,by omega⟩
structure Lr where
 r:Int
 sp:Int
 lk:Int
 t0:Int
 t1:Int
 pa:Option Addr
 ag:List Int
 ca:Nat
 pr:Option Addr
 rs:List Int
 cr:Nat
 ps:Option Addr
 ss:List Int
 cs:Nat
 al:Int
 sh:Int
 br:Int
 pairs:Bool
def Lr.box (T:Lr):Array Value:=#[.int .i64 T.r,.int .i64 T.sp,.int .i64 T.lk,.int .i64 T.t0,.int .i64 T.t1,.slice T.pa T.ag.length T.ca,.slice T.pr T.rs.length T.cr,.slice T.ps T.ss.length T.cs,.int .i64 T.al,.int .i64 T.sh,.int .i64 T.br,.bool T.pairs]
structure TbR (w:World)(b:Nat)(T:Lr):Prop where
 a:Dm w b (.slice T.pa T.ag.length T.ca) T.ag
 r:Dm w b (.slice T.pr T.rs.length T.cr) T.rs
 s:Dm w b (.slice T.ps T.ss.length T.cs) T.ss
theorem Dm.at {w:World}{b:Nat}{p:Option Addr}{c:Nat}{ns:List Int}(h:Dm w b (.slice p ns.length c) ns){k:Nat}(hk:k<ns.length):∃ sb so,p=some ⟨sb,so,none⟩∧sb<b∧∀ i,i<ns.length→w.cell? ⟨sb,so+i,none⟩=some (.int .i64 (ns.getD i 0)):=by
 rcases h with⟨e,-⟩ | ⟨sb,so,cap,hv,hb,hc⟩
 ·
  rw [e] at hk; simp at hk
 ·
  injection hv with h1 h2 h3;exact⟨sb,so,h1,hb,hc⟩
theorem TbR.gb {w w':World}{b:Nat}{T:Lr}(h:TbR w b T)(hw:w.grownBy w' (some b))(hb:b<w.heap.size):TbR w' b T:=⟨h.a.gb hw hb,h.r.gb hw hb,h.s.gb hw hb⟩
theorem Zpw {w w':World}{B n size:Nat}{e:TypeId}{v:Value}{xs:List Value}{o:Option Nat}(h:w.ownsRow B e size v n xs)(hg:w.grownBy w' o)(hne:∀ g,v.ownBlock=some g→o≠some g):w'.ownsRow B e size v n xs :=
 h.kept hg (by
  cases hv:v.ownBlock with
  | none=>exact Or.inl rfl
  | some g=>exact Or.inr (fun e=>hne g hv e.symm))
theorem Zpx {a b:World}{o:Option Nat}(h:Below a.heap.size a b):a.grownBy b o:=⟨h.os,h.tape,h.output,h.size,fun q hq _=>h.block q hq⟩
def Zpa (T:Lr):Bool:=Ja T.r T.sp T.lk T.t0 T.t1 T.ag T.rs T.ss T.al T.sh T.br
structure TbO (w:World)(T:Lr):Prop where
 a:Li w (.slice T.pa T.ag.length T.ca) T.ag
 r:Li w (.slice T.pr T.rs.length T.cr) T.rs
 s:Li w (.slice T.ps T.ss.length T.cs) T.ss
theorem TbO.below {w w':World}{T:Lr}(h:TbO w T)(hb:Below w.heap.size w w'):TbO w' T:=⟨h.a.below hb,h.r.below hb,h.s.below hb⟩
theorem Li.low {w:World}{p:Option Addr}{c:Nat}{ns:List Int}(h:Li w (.slice p ns.length c) ns):Dm w w.heap.size (.slice p ns.length c) ns:=by
 obtain⟨p',c',e,h2,h3,h4⟩:=h;injection e with e1 e2 e3;subst e1 e3;by_cases h0:0<ns.length
 ·
  obtain⟨sb,so,e,hc⟩:=h4 h0;exact Or.inr ⟨sb,so,c,by rw [e],by have:=World.block_lt_of_cell? w _ (hc 0 h0); simpa using this,hc⟩
 ·
  have hn:ns=[]:=List.length_eq_zero_iff.1 (by omega);exact Or.inl ⟨hn,p,c,by rw [hn]; rfl⟩
theorem Li.cap {w:World}{p:Option Addr}{c:Nat}{ns:List Int}(h:Li w (.slice p ns.length c) ns):∀ a n cap,Value.slice p ns.length c=.slice a n cap→n≤cap:=fun a n cap e=>by
 obtain⟨p',c',e',h2,h3,h4⟩:=h;injection e' with e1 e2 e3;injection e with f1 f2 f3;omega
theorem TbO.low {w:World}{T:Lr}(h:TbO w T):TbR w w.heap.size T:=⟨h.a.low,h.r.low,h.s.low⟩
set_option maxHeartbeats 4000000 in
set_option maxRecDepth 100000 in
theorem Zla (f:Zn)(pv b c d:Value)(w:World)(hp:LS 2 w pv f.params.length (fun k=>Yz (f.params.getD k (0,0))))(hn:f.params.length≤8796093022208) :
 Calls Tryz.prog 41 #[.agg #[pv,.int .i64 f.results,b,c,d]] w fun e w'=>∃ v,e=.returned (.agg #[v,.int .i64 f.results])∧Li w' v (Xn f).1∧Below w.heap.size w w'∧(∀ sb so n c,v=.slice (some ⟨sb,so,none⟩) n c→w.heap.size≤sb):=by
 obtain⟨ti,hti,hz0,hz1,hz2⟩:=Xs Tryz.infoInt;have hx:=Yj w (.cells #[pv,.int .i64 f.results,b,c,d] 60 (0,0));have hp1:=hp.below hx.2.1;have hx2:=Yj (w.alloc (.cells #[pv,.int .i64 f.results,b,c,d] 60 (0,0))) (.cells #[.slice none 0 0,.int .i64 0] 56 (0,0));have hp2:=hp1.below hx2.2.1;have hx3:=Yj ((w.alloc (.cells #[pv,.int .i64 f.results,b,c,d] 60 (0,0))).alloc (.cells #[.slice none 0 0,.int .i64 0] 56 (0,0))) (.cells #[.slice none 0 0,.int .i64 f.results] 56 (0,0));have hp3:=hp2.below hx3.2.1;have hs1:=hx.2.2;have hs2:=hx2.2.2;have hs3:=hx3.2.2;have hW1:=Za (Za hx.2.1 hx2.2.1 (by omega)) hx3.2.1 (by omega);have hrr:=(hx3.2.1.block (w.heap.size+1) (by omega)).trans (hs1 ▸ hx2.1);have hrs:=hx3.1;rw [hs2,hs1] at hrs hs3;obtain⟨p,cap,rfl,hcap,hlt,hc⟩:=hp3.pairs;have hpb:=hp;have HC:=J hc;have HW1:=J hW1;have HRS:=J hrs;have HRR:=J hrr;have HS3:=J hs3;have HPB:=J hp.pairs;clear hc hx hp hp1 hx2 hp2 hW1 hrs hrr hx3 hp3 hs1 hs2 hs3 hpb;go_enter Tryz.func41,Tryz.ntmps41
 go_wp2_with fail
 generalize World.alloc (World.alloc (World.alloc w _) _) _=W at HC HW1 HRS HRR HS3 ⊢;go_loopw [12] (fun j w'=>∃(k:Nat) (v:Value),j=.int .i64 k∧k≤f.params.length∧w'.heap[w.heap.size+1+1]?=some (.cells #[v,.int .i64 f.results] 56 (0,0))∧w'.ownsRow W.heap.size 3 1 v k (wTk f.params k)∧Below (w.heap.size+2) W w') (fun j _=>f.params.length-(intOf j).toNat)
 case atStart=>exact⟨0,_,rfl,by omega,G HRS,World.ownsRow_nil _ _ _ _,Below.refl _ _⟩
 case round =>
  obtain⟨k,v,rfl,hk,hrow,how,hbw⟩:=hrel;have hws:=hbw.size;have cv:=(cR hrow 0);have r0:=fun X:Obj=>(Yh hrow 0 X).trans rfl;have fz:=fun j=>frozen_of_row _ _ j _ _ hrow;obtain⟨vp,vn,vc,hvs⟩:∃ vp vn vc,v=.slice vp vn vc:=by
   rcases how.2 with⟨e,_⟩ | ⟨g,cap,cur,e,_⟩
   ·
    exact⟨_,_,_,e⟩
   ·
    exact⟨_,_,_,e⟩
  subst hvs;by_cases hk2:k<f.params.length
  ·
   obtain⟨p',cap',he,-,-,hcc0⟩:=G HPB;injection he with e1 e2 e3;subst e1 e3;obtain⟨sb,so,rfl,hcc⟩:=hcc0 (by omega);have hsb:sb<w.heap.size:=World.block_lt_of_cell? w _ (hcc k hk2).1;have hbb:Below w.heap.size w wr:=(G HW1).trans (hbw.mono (Nat.le_add_right _ _));have c1:=(hbb.cell (p:=⟨sb,so+k*2,none⟩) hsb).trans (hcc k hk2).1;have c2:=(hbb.cell (p:=⟨sb,so+k*2+1,none⟩) hsb).trans (hcc k hk2).2;have hT:=G HS3;have hTl:w.heap.size+1+1<wr.heap.size:=by omega
   have HTL:=J hTl;have HTK:=J (Di f.params k hk2);have HOW:=J how;have HBW:=J hbw;have HROW:=J hrow;clear hcc hcc0 how hbw hbb hrow hT hTl e2 fz cv HC;generalize f.params.getD k (0,0)=xy at c1 c2 HTK;obtain⟨x,y⟩:=xy;simp only at c1 c2;go_wp2_with (at_builtin; refine wpList_append_own _ rfl _ _ 23 rfl W.heap.size 3 ti _ 1 8 Tryz.underlying23 hti hz0 hz1 hz2 rfl (by decide) _ _ _ rfl (((G HOW).alloc _).alloc _) ⟨wr.heap.size+1,0,none⟩ 1 1 [.int .i64 x] rfl rfl (by intro j u hj; match j,hj with | 0,hj=>(simp at hj; subst hj; exact(World.cell?_alloc_at _ _ _ _ (by simp)).trans rfl)) (by intro u hu; simp at hu; subst hu; rfl) ?c3 ?c4 ?c5 ?_)
   case c3=>unfold maxLen; omega
   case c4=>omega
   case c5=>first | omega | (simp; omega)
   intro v' w7 hown hgr _;obtain⟨g2,cap2,rfl⟩:=Ru hown;have hTl:=G HTL;have hT:=G HS3;have hne:∀ q,q<W.heap.size→some q≠(Value.slice vp vn vc).ownBlock:=fun q hq e=>by have:=((G HOW).lt q e.symm).1; omega
   have hrow7:=(hgr.block (w.heap.size+1+1) (by simp; omega) (hne _ (by omega))).trans ((((Below.refl wr.heap.size wr).alloc (Nat.le_refl _) _).alloc (by simp) _).block (w.heap.size+1+1) hTl |>.trans (G HROW));have c7:=(cR hrow7 0);have f7:=frozen_of_row _ _ 0 _ _ hrow7;have HNR:=J (heap_setCell_same w7 (w.heap.size+1+1) 0 _ _ (.slice (some ⟨g2,0,none⟩) (k+1) cap2) hrow7);have HNW:=J (show w7.ownsRow W.heap.size 3 1 (.slice (some ⟨g2,0,none⟩) (k+1) cap2) (k+1) (wTk f.params (k+1)) by rw [G HTK]; exact hown);have HN2:=J (Nu (w':=w7.setCell ⟨w.heap.size+1+1,0,none⟩ (.slice (some ⟨g2,0,none⟩) (k+1) cap2)) (G HNW) (fun g hg=>heap_setCell_other _ _ _ _ (by show g≠w.heap.size+1+1; omega)));have HB7:=J (show Below (w.heap.size+2) W (w7.setCell ⟨w.heap.size+1+1,0,none⟩ (.slice (some ⟨g2,0,none⟩) (k+1) cap2)) from
    have hb7:Below (w.heap.size+2) W w7:=(((G HBW).alloc (by omega) _).alloc (by simp; omega) _).trans ⟨hgr.os,hgr.tape,hgr.output,hgr.size,fun q hq=>hgr.block q (by simp; omega) (hne q (by omega))⟩;⟨hb7.os,hb7.tape,hb7.output,by simpa using hb7.size,fun q hq=>(heap_setCell_other _ _ _ _ (by show q≠w.heap.size+1+1; omega)).trans (hb7.block q hq)⟩)
   clear hown hgr hne hTl hT hrow7 r0 c1 c2;go_wp2;go_roundw
   case rel=>exact⟨k+1,_,by go_num,by omega,G HNR,G HN2,G HB7⟩
   case measure=>simp [intOf]; omega
  ·
   obtain rfl:k=f.params.length:=by omega
   have hvn:vn=f.params.length:=by
    rcases how.2 with⟨e,e0⟩ | ⟨g,cap,cur,e,_⟩
    ·
     injection e with _ e2 _; omega
    ·
     injection e with _ e2 _
   subst vn;unfold wTk at how;rw [List.take_length] at how;have hT:=G HS3;have HRR2:=J ((hbw.block (w.heap.size+1) (by omega)).trans (G HRR));have HRS2:=J hrow;have HOW:=J how;have HBW:=J hbw;clear hrow how hbw hT r0 fz cv;go_wp2_with (first | (refine wpList_load_row rfl 56 (.tmp 3) rfl (w.heap.size+1+1) rfl 56 #[.slice vp f.params.length vc,.int .i64 f.results] (0,0) _ (G HRS2) Tryz.underlying56 rfl (Tryz.infSigK.trans rfl) ?_) | (refine wpList_store_row rfl 56 (.tmp 2) (.tmp 24) rfl (w.heap.size+1) #[.slice vp f.params.length vc,.int .i64 f.results] rfl rfl 56 _ (G HRR2) (Tryz.infSigK.trans rfl) rfl (by simp [Value.oneCell']) ?_))
   refine bodyPost_ret (Jp (fn:=Tryz.f41) (q:=2) (uy:=56) rfl _ _ (w.heap.size+1) 56 #[.slice vp f.params.length vc,.int .i64 f.results] (0,0) _ rfl (setRow_heap _ _ _ _ _ _ (G HRR2)) Tryz.underlying56 rfl (Tryz.infSigK.trans rfl)) rfl ?_;have hT:=G HS3;refine⟨_,rfl,Li.of_own (base:=W.heap.size) (by rw [show((Xn f).1).length=f.params.length by simp [Xn]]; exact Nu (G HOW) (fun g hg=>setRow_other _ _ _ _ (by omega))) (by simp [Xn]; omega),Zh ((G HW1).trans ((G HBW).mono (by omega))) (by omega),fun sb so n c e=>by have h:=((G HOW).lt sb (by rw [e]; rfl)).1; omega⟩
theorem Gm {P:Program}{fn:Func}{p q:Tmp}{px:TypeId}(h:fn.results=#[.cell p px,.tmp q])(tmps:Array Value)(w:World)(g:Nat)(t:TypeId)(cs:Array Value)(fr:Nat×Nat)(d:TypeDesc)
 (hp:tmps.getD p undef=.pointer (some ⟨g,0,none⟩)) (hg:w.heap[g]?=some (.cells cs t fr)) (hu:P.underlying px=some d) (hd:(match d with | .struct _ | .array _ _=>true | _=>false)=true) (hi:(P.info? px).map (·.size)=some cs.size) :
 (results fn tmps).run P w=.ok (.tuple #[.agg cs,tmps.getD q undef]) w:=by
 have e1:tmps[p]?.getD undef=.pointer (some ⟨g,0,none⟩):=by simpa using hp
 simp [results,h,e1,asAddr,run_loadVar_row w g t px cs fr d hg hu hd hi]
theorem Zaw (w:World)(X0 X1 X2:Obj):(((w.alloc X0).alloc X1).alloc X2).heap[w.heap.size]?=some X0∧(((w.alloc X0).alloc X1).alloc X2).heap[w.heap.size+1]?=some X1∧(((w.alloc X0).alloc X1).alloc X2).heap[w.heap.size+1+1]?=some X2∧(((w.alloc X0).alloc X1).alloc X2).heap.size=w.heap.size+1+1+1∧Below w.heap.size w (((w.alloc X0).alloc X1).alloc X2):=by
 obtain⟨r0,b0,s0⟩:=Yj w X0;obtain⟨r1,b1,s1⟩:=Yj (w.alloc X0) X1;obtain⟨r2,b2,s2⟩:=Yj ((w.alloc X0).alloc X1) X2;rw [s0] at r1;rw [s1,s0] at r2;exact⟨(b2.block _ (by omega)).trans ((b1.block _ (by omega)).trans r0),(b2.block _ (by omega)).trans r1,r2,by omega,Za (Za b0 b1 (by omega)) b2 (by omega)⟩
end Go.Proofs.YteddfaconabobaaGreatDoor
