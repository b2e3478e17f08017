import Derived.Test.YtkenknfgeoecbaaGreatDoorJ13
import Derived.Laws.CopyOwn
import Derived.Deep.OwnRows
namespace Go.Proofs.YtkenknfgeoecbaaGreatDoor
open Go.RowKit
set_option maxHeartbeats 4000000
set_option maxRecDepth 100000
theorem Zlg (p q:Addr)(w:World) :
 CallsD Tryz.prog 77 #[.pointer (some p),.pointer (some q)] .returning w fun e u' w'=>e=.returned (.tuple #[])∧u'=.returning∧w'=w:=by
 refine callsD_of_wpS Tryz.func77 rfl fun c₀ cs hu=>?_;apply wpS_seq
 apply wpS_region
 simp [wpOpsS,go_sem,recoverD,hu,Tryz.ntmps77,Exit.thenS];refine wpS_of_wp ?_;go_wp2;cases c₀
 simp_all [bodyPostS,results,Tryz.results77]
theorem Tryz.assertWrong (x:Value)(u:World):Sem.run Tryz.prog (Instr.typeAssert (.iface 189 x) 20 189 false) u=.ok x u:=by kernel_rfl
theorem Tryz.fieldWrong (u:World):Sem.run Tryz.prog (Instr.field 189 (.agg #[.iface 127 (.int .i64 4)]) 0) u=.ok (.iface 127 (.int .i64 4)) u:=by kernel_rfl
theorem Zgc (p q:Nat)(x y:Value)(w:World)(hp:w.cell? ⟨p,0,none⟩=some x)(hpf:w.frozen? ⟨p,0,none⟩=false)(hq:w.cell? ⟨q,0,none⟩=some y)(hqf:w.frozen? ⟨q,0,none⟩=false)(hpq:p≠q) :
 CallsD Tryz.prog 77 #[.pointer (some ⟨p,0,none⟩),.pointer (some ⟨q,0,none⟩)] (.panicking Si) w fun e u' w'=>e=.returned (.tuple #[])∧u'=.panicking (Si.map fun t=>{ t with recovered:=true })∧w'=(w.drew.setCell ⟨p,0,none⟩ (.string { data:=#[] })).setCell ⟨q,0,none⟩ (.iface 127 (.int .i64 4)):=by
 refine callsD_of_wpS Tryz.func77 rfl fun c₀ cs hu=>?_;apply wpS_seq
 apply wpS_region
 unfold Si at hu;simp [wpOpsS,go_sem,recoverD,hu,Tryz.ntmps77,Exit.thenS];refine wpS_of_wp ?_;go_wp2;have ht:(#[Value.pointer (some ⟨p,0,none⟩),Value.pointer (some ⟨q,0,none⟩)]++((((Array.replicate 7 undef).setIfInBounds 1 (Value.iface 189 (Value.agg #[Value.iface 127 (Value.int IntKind.i64 4)]))).setIfInBounds 0 (Value.iface 189 (Value.agg #[Value.iface 127 (Value.int IntKind.i64 4)]))).setIfInBounds 2 (Value.iface 189 (Value.agg #[Value.iface 127 (Value.int IntKind.i64 4)]))).setIfInBounds 3 (Value.bool true))=#[Value.pointer (some ⟨p,0,none⟩),Value.pointer (some ⟨q,0,none⟩),Value.iface 189 (Value.agg #[Value.iface 127 (Value.int IntKind.i64 4)]),Value.iface 189 (Value.agg #[Value.iface 127 (Value.int IntKind.i64 4)]),Value.iface 189 (Value.agg #[Value.iface 127 (Value.int IntKind.i64 4)]),Value.bool true,undef,undef,undef]:=rfl;rw [ht];have hta:=Tryz.assertWrong;have hfw:=Tryz.fieldWrong;go_region
 simp +zetaDelta [bodyPostS,results,Tryz.results77,Si]
theorem Sv.mono {w:World}{b b':Nat}{v:Value}{ns:List Int}(h:Sv w b v ns)(hb:b≤b'):Sv w b' v ns:=by
 rcases h with h | ⟨sb,so,cap,h1,h2,h3⟩
 ·exact Or.inl h
 ·exact Or.inr ⟨sb,so,cap,h1,by omega,h3⟩
theorem Iu.mono {α:Type}{size:Nat}{w:World}{b b':Nat}{v:Value}{ps:List (Array Value×α)}(h:Iu size w b v ps)(hb:b≤b'):Iu size w b' v ps:=by
 rcases h with h | ⟨sb,so,cap,h1,h2,h3⟩
 ·exact Or.inl h
 ·exact Or.inr ⟨sb,so,cap,h1,by omega,h3⟩
theorem VsB.mono {α:Type}{w:World}{b b':Nat}{v:Value}{ps:List (Value×α)}(h:VsB w b v ps)(hb:b≤b'):VsB w b' v ps:=by
 rcases h with h | ⟨sb,so,cap,h1,h2,h3⟩
 ·exact Or.inl h
 ·exact Or.inr ⟨sb,so,cap,h1,by omega,h3⟩
theorem Dc.mono {w:World}{b b':Nat}{p:Array Value×Yj}(h:Dc w b p)(hb:b≤b'):Dc w b' p:=by obtain⟨av,ov,pa,h1,h2,h3,h4,h5,h6⟩:=h;exact⟨av,ov,pa,h1,h2,h3,h4.mono hb,h5.mono hb,h6⟩
theorem Ui.mono {w:World}{b b':Nat}{p:Value×List Yj}(h:Ui w b p)(hb:b≤b'):Ui w b' p:=by obtain⟨ps,h1,h2,h3,h4⟩:=h;exact⟨ps,h1,h2.mono hb,fun q hq=>(h3 q hq).mono hb,h4⟩
theorem Sf.mono {w:World}{b b':Nat}{f:Zm}{pv hv sv bv:Value}{pp:List (Array Value×(Int×Int))}{pb:List (Value×List Yj)}(h:Sf w b f pv hv sv bv pp pb)(hb:b≤b'):Sf w b' f pv hv sv bv pp pb :=
 ⟨h.params,h.vals,h.pls.mono hb,h.hls.mono hb,h.sls.mono hb,h.bls.mono hb,h.blocks,fun q hq=>(h.each q hq).mono hb,h.lens⟩
theorem Mo.mono {w:World}{b b':Nat}{p:Array Value×Zm}(h:Mo w b p)(hb:b≤b'):Mo w b' p:=by obtain⟨pv,hv,sv,bv,pp,pb,h1,h2⟩:=h;exact⟨pv,hv,sv,bv,pp,pb,h1,h2.mono hb⟩
theorem Rm.mono {w:World}{b b':Nat}{p:Array Value×(List Int×Int)}(h:Rm w b p)(hb:b≤b'):Rm w b' p:=by obtain⟨lv,h1,h2,h3⟩:=h;exact⟨lv,h1,h2.mono hb,h3⟩
theorem Oo.mono {w:World}{b b':Nat}{p:Zj}{fv ev:Value}{pf:List (Array Value×Zm)}{pe:List (Array Value×(List Int×Int))}(h:Oo w b p fv ev pf pe)(hb:b≤b'):Oo w b' p fv ev pf pe :=
 ⟨h.fls.mono hb,h.els.mono hb,h.funcs,h.externs,fun q hq=>(h.feach q hq).mono hb,fun q hq=>(h.eeach q hq).mono hb,h.lens⟩
def Mp (p:Zj):Option (List UInt8):=match Na p with
 | some bs=>if bs.length≤4000 then some bs else none
 | none=>none
def Dv:Option (List UInt8)→Value
 | some bs=>.tuple #[.string ⟨bs.toArray⟩,.nilIface]
 | none=>.tuple #[.string ⟨#[]⟩,.iface 127 (.int .i64 4)]
theorem Zw {B k j:Nat}{w w':World}(h:Below B w w')(hk:B≤k)(v:Value):Below B w (w'.setCell ⟨k,j,none⟩ v):=h.trans ⟨rfl,rfl,rfl,by simp,fun q hq=>heap_setCell_other w' ⟨k,j,none⟩ q v (by show q≠k; omega)⟩
theorem Zuc (p:Zj)(fv ev:Value)(pf:List (Array Value×Zm))(pe:List (Array Value×(List Int×Int)))(w:World)(hg:Zo w)(hb:2<w.heap.size)(hP:Oo w w.heap.size p fv ev pf pe) :
 Calls Tryz.prog 48 #[.agg #[fv,ev]] w fun e w'=>e=.returned (Dv (Mp p))∧Below w.heap.size w w':=by
 have hmf:∀(fn:Fn) (first cap:Array Value) (w:World),(Instr.makeFunc fn first cap).run Tryz.prog w=.ok (.func fn first cap) w:=fun _ _ _ _=>rfl;obtain⟨p0,c0',e0⟩:=hP.fls.shape;obtain⟨p2,c2',e2⟩:=hP.els.shape;generalize hn0:pf.length=n0 at e0;generalize hn2:pe.length=n2 at e2;subst e0 e2;clear hn0 hn2;have HP:=Zc hP;have HG:=Zc hg;clear hP hg;go_enter_defers Tryz.func48,Tryz.ntmps48
 go_wp2_with fail
 have hbel:Below w.heap.size w ((((w.alloc (.cells #[.slice p0 n0 c0',.slice p2 n2 c2'] 62)).alloc (.cells #[.string { data:=#[] }] 9)).alloc (.cells #[.nilIface] 93)).alloc (.cells #[.slice none 0 0] 192)):=by go_grown
 have hwt:Wt ((((w.alloc (.cells #[.slice p0 n0 c0',.slice p2 n2 c2'] 62)).alloc (.cells #[.string { data:=#[] }] 9)).alloc (.cells #[.nilIface] 93)).alloc (.cells #[.slice none 0 0] 192)) (w.heap.size+1+1+1) (.slice none 0 0) []:=⟨(World.cell?_alloc_at _ _ _ _ (by simp)).trans rfl,World.frozen?_alloc_at _ _ _ _ (by simp),rfl,Or.inl ⟨rfl,rfl⟩⟩;have cs:(((((w.alloc (.cells #[.slice p0 n0 c0',.slice p2 n2 c2'] 62)).alloc (.cells #[.string { data:=#[] }] 9)).alloc (.cells #[.nilIface] 93)).alloc (.cells #[.slice none 0 0] 192)):World).cell? ⟨w.heap.size+1,0,none⟩=some (.string { data:=#[] }):=(World.cell?_alloc_past _ _ _ (by simp)).trans ((World.cell?_alloc_past _ _ _ (by simp)).trans ((World.cell?_alloc_at _ _ _ _ (by simp)).trans rfl));have csf:(((((w.alloc (.cells #[.slice p0 n0 c0',.slice p2 n2 c2'] 62)).alloc (.cells #[.string { data:=#[] }] 9)).alloc (.cells #[.nilIface] 93)).alloc (.cells #[.slice none 0 0] 192)):World).frozen? ⟨w.heap.size+1,0,none⟩=false:=(World.frozen?_alloc_past _ _ _ (by simp)).trans ((World.frozen?_alloc_past _ _ _ (by simp)).trans (World.frozen?_alloc_at _ _ _ _ (by simp)));have ce:(((((w.alloc (.cells #[.slice p0 n0 c0',.slice p2 n2 c2'] 62)).alloc (.cells #[.string { data:=#[] }] 9)).alloc (.cells #[.nilIface] 93)).alloc (.cells #[.slice none 0 0] 192)):World).cell? ⟨w.heap.size+1+1,0,none⟩=some .nilIface:=(World.cell?_alloc_past _ _ _ (by simp)).trans ((World.cell?_alloc_at _ _ _ _ (by simp)).trans rfl)
 have cef:(((((w.alloc (.cells #[.slice p0 n0 c0',.slice p2 n2 c2'] 62)).alloc (.cells #[.string { data:=#[] }] 9)).alloc (.cells #[.nilIface] 93)).alloc (.cells #[.slice none 0 0] 192)):World).frozen? ⟨w.heap.size+1+1,0,none⟩=false:=(World.frozen?_alloc_past _ _ _ (by simp)).trans (World.frozen?_alloc_at _ _ _ _ (by simp));generalize ((((w.alloc (.cells #[.slice p0 n0 c0',.slice p2 n2 c2'] 62)).alloc (.cells #[.string { data:=#[] }] 9)).alloc (.cells #[.nilIface] 93)).alloc (.cells #[.slice none 0 0] 192))=W0 at hbel hwt cs csf ce cef ⊢;refine(Zqk (w.heap.size+1+1+1) (by omega) (.slice none 0 0) [] p _ _ pf pe W0 hwt (by simp) ((O HG).below hb hbel) (((O HP).ws (Se hbel (Nat.le_refl _))).mono (by omega))).mono ?_;rintro e w1 ⟨hws,hm⟩;have cs1:w1.cell? ⟨w.heap.size+1,0,none⟩=_:=(hws.low.cell (p:=⟨w.heap.size+1,0,none⟩) (show w.heap.size+1<w.heap.size+1+1+1 by omega)).trans cs;have ce1:w1.cell? ⟨w.heap.size+1+1,0,none⟩=_:=(hws.low.cell (p:=⟨w.heap.size+1+1,0,none⟩) (show w.heap.size+1+1<w.heap.size+1+1+1 by omega)).trans ce;have csf1:w1.frozen? ⟨w.heap.size+1,0,none⟩=false:=(World.frozen?_of_block (a:=⟨w.heap.size+1,0,none⟩) (hws.low.block (w.heap.size+1) (by omega))).trans csf;have cef1:w1.frozen? ⟨w.heap.size+1+1,0,none⟩=false:=(World.frozen?_of_block (a:=⟨w.heap.size+1+1,0,none⟩) (hws.low.block (w.heap.size+1+1) (by omega))).trans cef;have HB1:=Zc (hbel.trans (⟨hws.low.os,hws.low.tape,hws.low.output,hws.low.size,fun q hq=>hws.low.block q (by omega)⟩:Below w.heap.size W0 w1))
 clear cs ce csf cef hws hwt hbel HP HG;have HTH:=Zc (Zgc (w.heap.size+1) (w.heap.size+1+1) _ _ w1 cs1 csf1 ce1 cef1 (by omega));cases hr:Na p with
 | none=>rw [hr] at hm;subst hm;have HO:=Zc (show Mp p=none by unfold Mp; rw [hr]);refine leaves_cons (f:=77) (args:=#[.pointer (some ⟨w.heap.size+1,0,none⟩),.pointer (some ⟨w.heap.size+1+1,0,none⟩)]) (by simp) (by simp [go_sem]) ?_;refine(O HTH).mono ?_;rintro e u' w'' ⟨rfl,rfl,rfl⟩;have HB2:=Zc (Zw (j:=0) (Zw (j:=0) (O HB1) (show w.heap.size≤w.heap.size+1 by omega) (.string { data:=#[] })) (show w.heap.size≤w.heap.size+1+1 by omega) (.iface 127 (.int .i64 4)));simp [Leaves,settle,results,Tryz.results48,go_sem,Si,cs1,ce1,O HO,Dv];exact⟨(O HB2).os,(O HB2).tape,(O HB2).output,(O HB2).size,(O HB2).block⟩
 | some bs =>
  rw [hr] at hm;obtain⟨rfl,v1,hw1⟩:=hm;rw [List.nil_append] at hw1;have hbs:=Zij p bs hr;have hpos:0<bs.length:=by
   unfold Na at hr;obtain⟨x,y,ex,ey,rfl⟩:=Gi hr;cases ex
   simp
  have cw:=hw1.cell;have hrow:=hw1.row;obtain⟨g,cap,rfl⟩:∃ g cap,v1=.slice (some ⟨g,0,none⟩) bs.length cap:=by
   rcases hrow.2 with⟨_,h0⟩ | ⟨g,cap,cur,e,-⟩
   ·omega
   ·exact⟨g,cap,e⟩
  have hcv:(convert 182 9 (.slice (some ⟨g,0,none⟩) bs.length cap)).run Tryz.prog w1=.ok (.string ⟨bs.toArray⟩) w1 :=
   run_convert_bytes_back w1 182 9 5 ⟨g,0,none⟩ cap bs Tryz.underlying182 Tryz.underlying5 Tryz.underlying9 (fun j hj=>by
    have:=hrow.cellAt j (by omega);rw [show(⟨g,0,none⟩:Addr).add j=⟨g,j,none⟩ by unfold Addr.add; split <;> simp_all,this];simp [Oq,hj])
  have HIDLE:=Zc (fun w2=>Zlg ⟨w.heap.size+1,0,none⟩ ⟨w.heap.size+1+1,0,none⟩ w2);clear hw1 hrow;by_cases hlen:bs.length≤4000
  ·have HO:=Zc (show Mp p=some bs by unfold Mp; rw [hr]; exact if_pos hlen);generalize bs.length=n at *;go_wp2;refine leaves_cons (f:=77) (args:=#[.pointer (some ⟨w.heap.size+1,0,none⟩),.pointer (some ⟨w.heap.size+1+1,0,none⟩)]) (by simp) (by simp [go_sem]) ?_;refine(O HIDLE _).mono ?_;rintro e u' w'' ⟨rfl,rfl,rfl⟩;have HB2:=Zc (Zw (j:=0) (Zw (j:=0) (O HB1) (show w.heap.size≤w.heap.size+1 by omega) (.string ⟨bs.toArray⟩)) (show w.heap.size≤w.heap.size+1+1 by omega) .nilIface);simp [Leaves,settle,results,Tryz.results48,go_sem,cs1,ce1,O HO,Dv];exact O HB2
  ·have HO:=Zc (show Mp p=none by unfold Mp; rw [hr]; exact if_neg hlen);go_wp2_with fail
   refine(Sj _ _).mono ?_;rintro e w3 ⟨rfl,hw⟩;subst w3;refine leaves_cons (f:=77) (args:=#[.pointer (some ⟨w.heap.size+1,0,none⟩),.pointer (some ⟨w.heap.size+1+1,0,none⟩)]) (by simp) (by simp [go_sem]) ?_;refine(O HTH).mono ?_;rintro e u' w'' ⟨rfl,rfl,rfl⟩;have HB2:=Zc (Zw (j:=0) (Zw (j:=0) (O HB1) (show w.heap.size≤w.heap.size+1 by omega) (.string { data:=#[] })) (show w.heap.size≤w.heap.size+1+1 by omega) (.iface 127 (.int .i64 4)));simp [Leaves,settle,results,Tryz.results48,go_sem,Si,cs1,ce1,O HO,Dv];exact⟨(O HB2).os,(O HB2).tape,(O HB2).output,(O HB2).size,(O HB2).block⟩
set_option maxHeartbeats 1000000
set_option maxRecDepth 100000
theorem Zqn (p:Zj)(fv ev:Value)(pf:List (Array Value×Zm))(pe:List (Array Value×(List Int×Int)))(w:World)(hg:Zo w)(hb:2<w.heap.size)(hP:Oo w w.heap.size p fv ev pf pe) :
 Calls Tryz.prog 33 #[.agg #[fv,ev]] w fun e w'=>e=.returned (Dv (Mp p))∧Below w.heap.size w w':=by
 have HG:=Zc hg;have HP:=Zc hP;obtain⟨p0,c0',e0⟩:=hP.fls.shape;obtain⟨p2,c2',e2⟩:=hP.els.shape;generalize hn0:pf.length=n0 at e0;generalize hn2:pe.length=n2 at e2;subst e0 e2;clear hn0 hn2 hP hg;go_enter Tryz.func33,Tryz.ntmps33
 go_wp2_with fail
 have hbl:Below w.heap.size w (w.alloc (.cells #[.slice p0 n0 c0',.slice p2 n2 c2'] 62)):=by go_grown
 have hsz:w.heap.size≤(w.alloc (.cells #[.slice p0 n0 c0',.slice p2 n2 c2'] 62)).heap.size:=hbl.size;refine(Zuc p _ _ pf pe _ ((O HG).below hb hbl) (by omega) (((O HP).ws (Se hbl (Nat.le_refl _))).mono hsz)).mono ?_;rintro e w1 ⟨rfl,hb1⟩;have HB:=Zc (hbl.trans (⟨hb1.os,hb1.tape,hb1.output,hb1.size,fun q hq=>hb1.block q (by omega)⟩:Below w.heap.size _ w1));clear hbl hsz hb1;cases ho:Mp p with
 | some bs=>unfold Dv;simp only;go_wp2;go_returns;exact⟨by rw [ho]; rfl,O HB⟩
 | none=>unfold Dv;simp only;go_wp2;go_returns;exact⟨by rw [ho]; rfl,O HB⟩
theorem Np {P:Program}{fn:Func}{u q:Tmp}{uy:TypeId}(h:fn.results=#[.tmp u,.cell q uy])(tmps:Array Value)(w:World)(g':Nat)(t':TypeId)(cs':Array Value)(fr':Nat×Nat)(d':TypeDesc)
 (hp':tmps.getD q undef=.pointer (some ⟨g',0,none⟩)) (hg':w.heap[g']?=some (.cells cs' t' fr')) (hu':P.underlying uy=some d') (hd':(match d' with | .struct _ | .array _ _=>true | _=>false)=true) (hi':(P.info? uy).map (·.size)=some cs'.size) :
 (results fn tmps).run P w=.ok (.tuple #[tmps.getD u undef,.agg cs']) w:=by
 have e2:tmps[q]?.getD undef=.pointer (some ⟨g',0,none⟩):=by simpa using hp'
 simp [results,h,e2,asAddr,run_loadVar_row w g' t' uy cs' fr' d' hg' hu' hd' hi']
theorem Tryz.infFltE:(Tryz.prog.info? 29).map (·.size)=some 4:=by kernel_rfl
def Ycx:Option (List UInt8)→Value
 | some bs=>.tuple #[.string ⟨bs.toArray⟩,Dw 0 (-1) (-1) (-1)]
 | none=>.tuple #[.string ⟨#[]⟩,Dw 4 (-1) (-1) (-1)]
theorem Zlh (p:Zj)(fv ev:Value)(pf:List (Array Value×Zm))(pe:List (Array Value×(List Int×Int)))(w:World)(hE:Ya w)(hg:Zo w)(hb:2<w.heap.size)(hP:Oo w w.heap.size p fv ev pf pe) :
 Calls Tryz.prog 20 #[.agg #[fv,ev]] w fun e w'=>e=.returned (Ycx (Mp p))∧Below w.heap.size w w':=by
 have HG:=Zc hg;have HP:=Zc hP;have HE:=Zc hE;obtain⟨p0,c0',e0⟩:=hP.fls.shape;obtain⟨p2,c2',e2⟩:=hP.els.shape;generalize hn0:pf.length=n0 at e0;generalize hn2:pe.length=n2 at e2;subst e0 e2;clear hn0 hn2 hP hg hE;go_enter Tryz.func20,Tryz.ntmps20
 go_wp2_with fail
 have hbl:Below w.heap.size w ((w.alloc (.cells #[.slice p0 n0 c0',.slice p2 n2 c2'] 62)).alloc (.cells #[.int .i64 0,.int .i64 0,.int .i64 0,.int .i64 0] 29)):=by go_grown
 have hsz:=hbl.size;have hrow:((w.alloc (.cells #[.slice p0 n0 c0',.slice p2 n2 c2'] 62)).alloc (.cells #[.int .i64 0,.int .i64 0,.int .i64 0,.int .i64 0] 29)).heap[w.heap.size+1]?=some (.cells #[.int .i64 0,.int .i64 0,.int .i64 0,.int .i64 0] 29 (0,0)):=by have:=heap_alloc_new (w.alloc (.cells #[.slice p0 n0 c0',.slice p2 n2 c2'] 62)) (.cells #[.int .i64 0,.int .i64 0,.int .i64 0,.int .i64 0] 29);simpa using this
 have hsz2:w.heap.size+1<((w.alloc (.cells #[.slice p0 n0 c0',.slice p2 n2 c2'] 62)).alloc (.cells #[.int .i64 0,.int .i64 0,.int .i64 0,.int .i64 0] 29)).heap.size:=by simp
 have HPE:=Zc (Zqn p _ _ pf pe _ ((O HG).below hb hbl) (by omega) (((O HP).ws (Se hbl (Nat.le_refl _))).mono hsz));have hE0:Ya _:=(O HE).below hbl (by omega);generalize (w.alloc _).alloc _=W0 at hbl hsz hrow hsz2 HPE hE0 ⊢;refine(O HPE).mono ?_;rintro e w1 ⟨rfl,hb1⟩;have hs1:=hb1.size;have hrow1:=(hb1.block _ hsz2).trans hrow;have hE1:=hE0.below hb1 (by omega);have HB1:=Zc (hbl.trans (⟨hb1.os,hb1.tape,hb1.output,hb1.size,fun q hq=>hb1.block q (by omega)⟩:Below w.heap.size W0 w1));clear hbl hb1 hrow HPE hE0;cases ho:Mp p with
 | some bs =>
  have HFC:=Zc (Lu w1);unfold Dv;simp only;go_wp2_with fail
  refine(O HFC).mono ?_;rintro e w2 ⟨rfl,hb2⟩;have hrow2:=(hb2.block _ (by omega)).trans hrow1;have hs2:=hb2.size;have HB2:=Zc ((O HB1).trans (⟨hb2.os,hb2.tape,hb2.output,hb2.size,fun q hq=>hb2.block q (by omega)⟩:Below w.heap.size w1 w2));have HROW:=Zc hrow2;clear hb2 hrow2 hrow1;go_wp2_with (refine wpList_store_row rfl 29 (.tmp 3) (.tmp 13) rfl (w.heap.size+1) #[.int .i64 0,.int .i64 (-1),.int .i64 (-1),.int .i64 (-1)] rfl rfl 29 _ (O HROW) (Tryz.infFltE.trans rfl) rfl (by simp [Value.oneCell']) ?_)
  refine bodyPost_ret (Np (fn:=Tryz.f20) (u:=2) (q:=3) (uy:=29) rfl _ _ (w.heap.size+1) 29 #[.int .i64 0,.int .i64 (-1),.int .i64 (-1),.int .i64 (-1)] (0,0) _ rfl (setRow_heap _ _ _ _ _ _ (O HROW)) Tryz.underlying29 rfl (Tryz.infFltE.trans rfl)) rfl ?_;exact⟨by rw [ho]; rfl,below_setRow (O HB2) (by omega) _⟩
 | none =>
  have HFC:=Zc (Lv 4 w1 hE1);unfold Dv;simp only;go_wp2_with fail
  refine(O HFC).mono ?_;rintro e w2 ⟨rfl,hb2⟩;have hrow2:=(hb2.block _ (by omega)).trans hrow1;have hs2:=hb2.size;have HB2:=Zc ((O HB1).trans (⟨hb2.os,hb2.tape,hb2.output,hb2.size,fun q hq=>hb2.block q (by omega)⟩:Below w.heap.size w1 w2));have HROW:=Zc hrow2;clear hb2 hrow2 hrow1;go_wp2_with (refine wpList_store_row rfl 29 (.tmp 3) (.tmp 13) rfl (w.heap.size+1) #[.int .i64 4,.int .i64 (-1),.int .i64 (-1),.int .i64 (-1)] rfl rfl 29 _ (O HROW) (Tryz.infFltE.trans rfl) rfl (by simp [Value.oneCell']) ?_)
  refine bodyPost_ret (Np (fn:=Tryz.f20) (u:=2) (q:=3) (uy:=29) rfl _ _ (w.heap.size+1) 29 #[.int .i64 4,.int .i64 (-1),.int .i64 (-1),.int .i64 (-1)] (0,0) _ rfl (setRow_heap _ _ _ _ _ _ (O HROW)) Tryz.underlying29 rfl (Tryz.infFltE.trans rfl)) rfl ?_;exact⟨by rw [ho]; rfl,below_setRow (O HB2) (by omega) _⟩
theorem Yes {p:Prop}(h:p):Hid p:=h
theorem Znd {p:Prop}(h:Hid p):p:=h
def ldv (m:Nat→Int):Nat→Nat→Int
 | _,0=>0
 | a,n+1=>m a+256*ldv m (a+1) n
def byt (v:Int)(k:Nat):Int:=v / 256 ^ k % 256
theorem Yay (v:Int)(k:Nat):v / 2 ^ (8*k) % 256=byt v k:=by unfold byt; rw [Int.pow_mul]; rfl
def upd (m:Nat→Int)(a:Nat)(v:Int)(n:Nat):Nat→Int:=fun i=>if a≤i∧i<a+n then byt v (i-a) else m i
theorem Zke (m:Nat→Int)(a:Nat)(v:Int):upd m a v 0=m:=by funext i; unfold upd; rw [if_neg (by omega)]
theorem Zdx (m:Nat→Int)(a:Nat)(v:Int)(n i:Nat):upd m a v (n+1) i=if i=a+n then byt v n else upd m a v n i:=by
 unfold upd;by_cases h:i=a+n
 ·subst h; rw [if_pos (by omega),if_pos rfl]; congr 1; omega
 ·rw [if_neg h];by_cases h2:a≤i∧i<a+n
  ·rw [if_pos (by omega),if_pos h2]
  ·rw [if_neg (by omega),if_neg h2]
def stw (w:World)(d a:Nat)(v:Int):Nat→World
 | 0=>w
 | k+1=>(stw w d a v k).setCell ⟨d,a+k,none⟩ (.int .u8 (byt v k))
theorem Zkf (w:World)(d a:Nat)(v:Int):∀ k,(stw w d a v k).heap.size=w.heap.size
 | 0=>rfl
 | k+1=>by simp [stw,Zkf w d a v k]
theorem Zdy (w:World)(d a:Nat)(v:Int)(x:Addr):∀ k,(stw w d a v k).frozen? x=w.frozen? x
 | 0=>rfl
 | k+1=>by simp only [stw,World.frozen?_setCell]; exact Zdy w d a v x k
theorem Zpm (w:World)(d a:Nat)(v:Int)(x:Nat)(h:x≠d):∀ k,(stw w d a v k).heap[x]?=w.heap[x]?
 | 0=>rfl
 | k+1=>by
  simp only [stw];rw [Below.heap_setCell _ _ _ _ h];exact Zpm w d a v x h k
theorem Zkg (w:World)(d a:Nat)(v:Int)(n:Nat)(m:Nat→Int)(hc:∀ i,i<n→w.cell? ⟨d,i,none⟩=some (.int .u8 (m i))) :
 ∀ k,a+k≤n→∀ i,i<n→(stw w d a v k).cell? ⟨d,i,none⟩=some (.int .u8 (upd m a v k i))
 | 0,_,i,hi=>by rw [Zke]; exact hc i hi
 | k+1,hk,i,hi=>by
  simp only [stw];rw [Zdx];have ih:=Zkg w d a v n m hc k (by omega);by_cases h:i=a+k
  ·subst h;rw [if_pos rfl,World.cell?_setCell_same _ _ _ (ih _ hi)]
  ·rw [if_neg h,World.cell?_setCell_other _ _ _ _ (by intro e; cases e; exact h rfl)];exact ih i hi
set_option maxHeartbeats 400000
def isW (n:Int):Bool:=n==1||n==2||n==4||n==8
theorem Zpl (n:Int):isW n=true↔n=1∨n=2∨n=4∨n=8:=by unfold isW; simp; omega
theorem Zso (n:Int)(w:World):Calls Tryz.prog 302 #[.int .i64 n] w fun e w'=>e=.returned (.bool (isW n))∧w'=w:=by
 by_cases h1:n=1
 ·subst h1; go_enter Tryz.func302,Tryz.ntmps302; go_wp2; go_ret; exact⟨rfl,rfl⟩
 by_cases h2:n=2
 ·subst h2; go_enter Tryz.func302,Tryz.ntmps302; go_wp2; go_ret; exact⟨rfl,rfl⟩
 by_cases h4:n=4
 ·subst h4; go_enter Tryz.func302,Tryz.ntmps302; go_wp2; go_ret; exact⟨rfl,rfl⟩
 by_cases h8:n=8
 ·subst h8; go_enter Tryz.func302,Tryz.ntmps302; go_wp2; go_ret; exact⟨rfl,rfl⟩
 have e1:(n==1)=false:=by simp [h1]
 have e2:(n==2)=false:=by simp [h2]
 have e4:(n==4)=false:=by simp [h4]
 have e8:(n==8)=false:=by simp [h8]
 have e:isW n=false:=by simp [isW,h1,h2,h4,h8]
 rw [e]; clear e;go_enter Tryz.func302,Tryz.ntmps302; go_wp2; go_ret; exact⟨rfl,rfl⟩
end Go.Proofs.YtkenknfgeoecbaaGreatDoor
namespace Go.Proofs.YtkenknfgeoecbaaGreatDoor
open Go.ChangeShapes Go.WideShapes Go.ChangeAt Go.RowKit
theorem Yah {P:Program}(h:P.funcs.any Func.goes=false)(s:Start)(f:String):P.goesAt s f=false:=by
 have h0:∀(g:Nat),(P.funcs[g]?).any Func.goes=false:=fun g=>by
  cases hg:P.funcs[g]? with
  | none=>rfl
  | some fn=>obtain⟨hl,e⟩:=Array.getElem?_eq_some_iff.1 hg;have:=Array.any_eq_false.1 h g hl;rw [e] at this;simpa using this
 have k:∀ g,P.goes g=false:=fun g=>by
  unfold Program.goes;rw [h,Bool.and_false,Bool.or_false];simp only [h0];simp
 unfold Program.goesAt Program.goesFrom;have e:(P.funcNamed f).any P.goes=false:=by
  cases P.funcNamed f with
  | none=>rfl
  | some g=>exact k g
 rw [e,Bool.false_or];split
 ·rfl
 ·exact List.any_eq_false.2 (fun x _=>by rw [k x]; decide)
theorem Zrs:Tryz.pinned.checked.prog.funcs.any Func.goes=false:=by kernel_rfl
theorem Zrt:false=Rows.placedRow.goesBy Tryz.pinned.checked.prog:=(Yah Zrs _ _).symm
theorem Zru:Rows.placedRow.wf (OpenSpec.ofChange Rows.placedSpec)=true:=by kernel_rfl
theorem Zrv:laidOutB Tryz.pinned.checked.prog=true:=by kernel_rfl
theorem Zrw:mapsRowed Tryz.pinned.checked.prog=true:=by kernel_rfl
theorem Zrx:Tryz.f4.params.all (Tryz.pinned.checked.prog.readableRec ·)=true:=by kernel_rfl
theorem Zry:namedTie Tryz.pinned.checked.prog Rows.placedRow.named Rows.placedSpec.vars=true:=by kernel_rfl
theorem Zrz:(Rows.placedRow.stops==[])=true:=by kernel_rfl
theorem Zsa:(Tryz.pinned.checked.prog.stops==[])=true:=by kernel_rfl
theorem Zsb:(Rows.placedRow.knobs==[])=true:=by kernel_rfl
theorem Zsc:(Tryz.pinned.checked.prog.stopKnobs==[])=true:=by kernel_rfl
end Go.Proofs.YtkenknfgeoecbaaGreatDoor
