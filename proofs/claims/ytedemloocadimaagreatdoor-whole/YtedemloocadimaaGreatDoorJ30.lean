import Derived.Test.YtedemloocadimaaGreatDoorJ23
import Derived.WalkSmall
import Derived.Test.YtedemloocadimaaGreatDoorJ22
import Derived.Defers
import Derived.Laws.CopyOwn
import Derived.Deep.OwnRows
namespace Go.Proofs.YtedemloocadimaaGreatDoor
open Go.RowKit
theorem Kd.gb {α:Type}{size:Nat}{w w':World}{b:Nat}{v:Value}{ps:List (Array Value×α)}(h:Kd size w b v ps)(hw:w.grownBy w' (some b))(hb:b<w.heap.size):Kd size w' b v ps:=by
 rcases h with h | ⟨sb,so,cap,h1,h2,h3⟩
 ·
  exact Or.inl h
 ·
  exact Or.inr ⟨sb,so,cap,h1,h2,fun i hi j x hx=>(World.cell?_of_block (a:=⟨sb,so+i*size+j,none⟩) (hw.block sb (by omega) (by intro e; injection e with e; omega))).trans (h3 i hi j x hx)⟩
theorem Zk {w:World}{T:Nat}{o:Obj}(h:w.heap[T]?=some o):T<w.heap.size:=(Array.getElem?_eq_some_iff.1 h).1
theorem Zdb {w u:World}{b k j:Nat}{v:Value}(h:w.grownBy u (some b))(hk:w.heap.size≤k∨k=b):w.grownBy (u.setCell ⟨k,j,none⟩ v) (some b) :=
 ⟨h.os,h.tape,h.output,by simp; exact h.size,fun q hq hr=>(heap_setCell_other u ⟨k,j,none⟩ q v (by show q≠k; rintro rfl; exact hk.elim (fun x=>by omega) (fun x=>hr (by rw [x])))).trans (h.block q hq hr)⟩
section
variable {w u:World} {b T1 T2:Nat} {A1 A2:Array Value} {s:ByteArray} {q:Nat} {l:List UInt8} {bad:Bool}
end
set_option maxHeartbeats 4000000
set_option maxRecDepth 100000
theorem Zmk (p q:Addr)(w:World) :
 CallsD Tryz.prog 48 #[.pointer (some p),.pointer (some q)] .returning w fun e u' w'=>e=.returned (.tuple #[])∧u'=.returning∧w'=w:=by
 refine callsD_of_wpS Tryz.func48 rfl fun c₀ cs hu=>?_;apply wpS_seq
 apply wpS_region
 simp [wpOpsS,go_sem,recoverD,hu,Tryz.ntmps48,Exit.thenS];refine wpS_of_wp ?_;go_wp2;cases c₀
 simp_all [bodyPostS,results,Tryz.results48]
theorem Tryz.assertWrong (x:Value)(u:World):Sem.run Tryz.prog (Instr.typeAssert (.iface 124 x) 20 124 false) u=.ok x u:=by kernel_rfl
theorem Tryz.fieldWrong (u:World):Sem.run Tryz.prog (Instr.field 124 (.agg #[.iface 111 (.int .i64 4)]) 0) u=.ok (.iface 111 (.int .i64 4)) u:=by kernel_rfl
theorem Zgl (p q:Nat)(x y:Value)(w:World)(hp:w.cell? ⟨p,0,none⟩=some x)(hpf:w.frozen? ⟨p,0,none⟩=false)(hq:w.cell? ⟨q,0,none⟩=some y)(hqf:w.frozen? ⟨q,0,none⟩=false)(hpq:p≠q) :
 CallsD Tryz.prog 48 #[.pointer (some ⟨p,0,none⟩),.pointer (some ⟨q,0,none⟩)] (.panicking Kr) w fun e u' w'=>e=.returned (.tuple #[])∧u'=.panicking (Kr.map fun t=>{ t with recovered:=true })∧w'=(w.drew.setCell ⟨p,0,none⟩ (.string { data:=#[] })).setCell ⟨q,0,none⟩ (.iface 111 (.int .i64 4)):=by
 refine callsD_of_wpS Tryz.func48 rfl fun c₀ cs hu=>?_;apply wpS_seq
 apply wpS_region
 unfold Kr at hu;simp [wpOpsS,go_sem,recoverD,hu,Tryz.ntmps48,Exit.thenS];refine wpS_of_wp ?_;go_wp2;have ht:(#[Value.pointer (some ⟨p,0,none⟩),Value.pointer (some ⟨q,0,none⟩)]++((((Array.replicate 7 undef).setIfInBounds 1 (Value.iface 124 (Value.agg #[Value.iface 111 (Value.int IntKind.i64 4)]))).setIfInBounds 0 (Value.iface 124 (Value.agg #[Value.iface 111 (Value.int IntKind.i64 4)]))).setIfInBounds 2 (Value.iface 124 (Value.agg #[Value.iface 111 (Value.int IntKind.i64 4)]))).setIfInBounds 3 (Value.bool true))=#[Value.pointer (some ⟨p,0,none⟩),Value.pointer (some ⟨q,0,none⟩),Value.iface 124 (Value.agg #[Value.iface 111 (Value.int IntKind.i64 4)]),Value.iface 124 (Value.agg #[Value.iface 111 (Value.int IntKind.i64 4)]),Value.iface 124 (Value.agg #[Value.iface 111 (Value.int IntKind.i64 4)]),Value.bool true,undef,undef,undef]:=rfl;rw [ht];have hta:=Tryz.assertWrong;have hfw:=Tryz.fieldWrong;go_region
 simp +zetaDelta [bodyPostS,results,Tryz.results48,Kr]
theorem Rv.mono {w:World}{b b':Nat}{v:Value}{ns:List Int}(h:Rv w b v ns)(hb:b≤b'):Rv w b' v ns:=by
 rcases h with h | ⟨sb,so,cap,h1,h2,h3⟩
 ·
  exact Or.inl h
 ·
  exact Or.inr ⟨sb,so,cap,h1,by omega,h3⟩
theorem Kd.mono {α:Type}{size:Nat}{w:World}{b b':Nat}{v:Value}{ps:List (Array Value×α)}(h:Kd size w b v ps)(hb:b≤b'):Kd size w b' v ps:=by
 rcases h with h | ⟨sb,so,cap,h1,h2,h3⟩
 ·
  exact Or.inl h
 ·
  exact Or.inr ⟨sb,so,cap,h1,by omega,h3⟩
theorem VsB.mono {α:Type}{w:World}{b b':Nat}{v:Value}{ps:List (Value×α)}(h:VsB w b v ps)(hb:b≤b'):VsB w b' v ps:=by
 rcases h with h | ⟨sb,so,cap,h1,h2,h3⟩
 ·
  exact Or.inl h
 ·
  exact Or.inr ⟨sb,so,cap,h1,by omega,h3⟩
theorem Re.mono {w:World}{b b':Nat}{p:Array Value×Zq}(h:Re w b p)(hb:b≤b'):Re w b' p:=by
 obtain⟨av,ov,pa,h1,h2,h3,h4,h5,h6⟩:=h;exact⟨av,ov,pa,h1,h2,h3,h4.mono hb,h5.mono hb,h6⟩
theorem Dl.mono {w:World}{b b':Nat}{p:Value×List Zq}(h:Dl w b p)(hb:b≤b'):Dl w b' p:=by
 obtain⟨ps,h1,h2,h3,h4⟩:=h;exact⟨ps,h1,h2.mono hb,fun q hq=>(h3 q hq).mono hb,h4⟩
theorem Ko.mono {w:World}{b b':Nat}{f:Zy}{pv hv sv bv:Value}{pp:List (Array Value×(Int×Int))}{pb:List (Value×List Zq)}(h:Ko w b f pv hv sv bv pp pb)(hb:b≤b'):Ko w b' f pv hv sv bv pp pb :=
 ⟨h.params,h.vals,h.pls.mono hb,h.hls.mono hb,h.sls.mono hb,h.bls.mono hb,h.blocks,fun q hq=>(h.each q hq).mono hb,h.lens⟩
theorem Oh.mono {w:World}{b b':Nat}{p:Array Value×Zy}(h:Oh w b p)(hb:b≤b'):Oh w b' p:=by
 obtain⟨pv,hv,sv,bv,pp,pb,h1,h2⟩:=h;exact⟨pv,hv,sv,bv,pp,pb,h1,h2.mono hb⟩
theorem Ru.mono {w:World}{b b':Nat}{p:Array Value×(List Int×Int)}(h:Ru w b p)(hb:b≤b'):Ru w b' p:=by
 obtain⟨lv,h1,h2,h3⟩:=h;exact⟨lv,h1,h2.mono hb,h3⟩
theorem Ow.mono {w:World}{b b':Nat}{p:Zw}{fv ev:Value}{pf:List (Array Value×Zy)}{pe:List (Array Value×(List Int×Int))}(h:Ow w b p fv ev pf pe)(hb:b≤b'):Ow w b' p fv ev pf pe :=
 ⟨h.fls.mono hb,h.els.mono hb,h.funcs,h.externs,fun q hq=>(h.feach q hq).mono hb,fun q hq=>(h.eeach q hq).mono hb,h.lens⟩
def Gq (p:Zw):Option (List UInt8):=match Mp p with
 | some bs=>if bs.length≤4000 then some bs else none
 | none=>none
def Sp:Option (List UInt8)→Value
 | some bs=>.tuple #[.string ⟨bs.toArray⟩,.nilIface]
 | none=>.tuple #[.string ⟨#[]⟩,.iface 111 (.int .i64 4)]
theorem Yw {B k j:Nat}{w w':World}(h:Below B w w')(hk:B≤k)(v:Value):Below B w (w'.setCell ⟨k,j,none⟩ v):=h.trans ⟨rfl,rfl,rfl,by simp,fun q hq=>heap_setCell_other w' ⟨k,j,none⟩ q v (by show q≠k; omega)⟩
theorem Zuj (p:Zw)(fv ev:Value)(pf:List (Array Value×Zy))(pe:List (Array Value×(List Int×Int)))(w:World)(hg:Zs w)(hb:2<w.heap.size)(hP:Ow w w.heap.size p fv ev pf pe) :
 Calls Tryz.prog 33 #[.agg #[fv,ev]] w fun e w'=>e=.returned (Sp (Gq p))∧Below w.heap.size w w':=by
 have hmf:∀(fn:Fn) (first cap:Array Value) (w:World),(Instr.makeFunc fn first cap).run Tryz.prog w=.ok (.func fn first cap) w:=fun _ _ _ _=>rfl;obtain⟨p0,c0',e0⟩:=hP.fls.shape;obtain⟨p2,c2',e2⟩:=hP.els.shape;generalize hn0:pf.length=n0 at e0;generalize hn2:pe.length=n2 at e2;subst e0 e2;clear hn0 hn2;have HP:=Zc hP;have HG:=Zc hg;clear hP hg;go_enter_defers Tryz.func33,Tryz.ntmps33
 go_wp2_with fail
 have hbel:Below w.heap.size w ((((w.alloc (.cells #[.slice p0 n0 c0',.slice p2 n2 c2'] 25)).alloc (.cells #[.string { data:=#[] }] 9)).alloc (.cells #[.nilIface] 74)).alloc (.cells #[.slice none 0 0] 128)):=by go_grown
 have hwt:Wt ((((w.alloc (.cells #[.slice p0 n0 c0',.slice p2 n2 c2'] 25)).alloc (.cells #[.string { data:=#[] }] 9)).alloc (.cells #[.nilIface] 74)).alloc (.cells #[.slice none 0 0] 128)) (w.heap.size+1+1+1) (.slice none 0 0) []:=⟨(World.cell?_alloc_at _ _ _ _ (by simp)).trans rfl,World.frozen?_alloc_at _ _ _ _ (by simp),rfl,Or.inl ⟨rfl,rfl⟩⟩;have cs:(((((w.alloc (.cells #[.slice p0 n0 c0',.slice p2 n2 c2'] 25)).alloc (.cells #[.string { data:=#[] }] 9)).alloc (.cells #[.nilIface] 74)).alloc (.cells #[.slice none 0 0] 128)):World).cell? ⟨w.heap.size+1,0,none⟩=some (.string { data:=#[] }):=(World.cell?_alloc_past _ _ _ (by simp)).trans ((World.cell?_alloc_past _ _ _ (by simp)).trans ((World.cell?_alloc_at _ _ _ _ (by simp)).trans rfl));have csf:(((((w.alloc (.cells #[.slice p0 n0 c0',.slice p2 n2 c2'] 25)).alloc (.cells #[.string { data:=#[] }] 9)).alloc (.cells #[.nilIface] 74)).alloc (.cells #[.slice none 0 0] 128)):World).frozen? ⟨w.heap.size+1,0,none⟩=false:=(World.frozen?_alloc_past _ _ _ (by simp)).trans ((World.frozen?_alloc_past _ _ _ (by simp)).trans (World.frozen?_alloc_at _ _ _ _ (by simp)));have ce:(((((w.alloc (.cells #[.slice p0 n0 c0',.slice p2 n2 c2'] 25)).alloc (.cells #[.string { data:=#[] }] 9)).alloc (.cells #[.nilIface] 74)).alloc (.cells #[.slice none 0 0] 128)):World).cell? ⟨w.heap.size+1+1,0,none⟩=some .nilIface:=(World.cell?_alloc_past _ _ _ (by simp)).trans ((World.cell?_alloc_at _ _ _ _ (by simp)).trans rfl)
 have cef:(((((w.alloc (.cells #[.slice p0 n0 c0',.slice p2 n2 c2'] 25)).alloc (.cells #[.string { data:=#[] }] 9)).alloc (.cells #[.nilIface] 74)).alloc (.cells #[.slice none 0 0] 128)):World).frozen? ⟨w.heap.size+1+1,0,none⟩=false:=(World.frozen?_alloc_past _ _ _ (by simp)).trans (World.frozen?_alloc_at _ _ _ _ (by simp));generalize ((((w.alloc (.cells #[.slice p0 n0 c0',.slice p2 n2 c2'] 25)).alloc (.cells #[.string { data:=#[] }] 9)).alloc (.cells #[.nilIface] 74)).alloc (.cells #[.slice none 0 0] 128))=W0 at hbel hwt cs csf ce cef ⊢;refine(Zra (w.heap.size+1+1+1) (by omega) (.slice none 0 0) [] p _ _ pf pe W0 hwt (by simp) ((O HG).below hb hbel) (((O HP).ws (Mg hbel (Nat.le_refl _))).mono (by omega))).mono ?_;rintro e w1 ⟨hws,hm⟩;have cs1:w1.cell? ⟨w.heap.size+1,0,none⟩=_:=(hws.low.cell (p:=⟨w.heap.size+1,0,none⟩) (show w.heap.size+1<w.heap.size+1+1+1 by omega)).trans cs;have ce1:w1.cell? ⟨w.heap.size+1+1,0,none⟩=_:=(hws.low.cell (p:=⟨w.heap.size+1+1,0,none⟩) (show w.heap.size+1+1<w.heap.size+1+1+1 by omega)).trans ce;have csf1:w1.frozen? ⟨w.heap.size+1,0,none⟩=false:=(World.frozen?_of_block (a:=⟨w.heap.size+1,0,none⟩) (hws.low.block (w.heap.size+1) (by omega))).trans csf;have cef1:w1.frozen? ⟨w.heap.size+1+1,0,none⟩=false:=(World.frozen?_of_block (a:=⟨w.heap.size+1+1,0,none⟩) (hws.low.block (w.heap.size+1+1) (by omega))).trans cef;have HB1:=Zc (hbel.trans (⟨hws.low.os,hws.low.tape,hws.low.output,hws.low.size,fun q hq=>hws.low.block q (by omega)⟩:Below w.heap.size W0 w1))
 clear cs ce csf cef hws hwt hbel HP HG;have HTH:=Zc (Zgl (w.heap.size+1) (w.heap.size+1+1) _ _ w1 cs1 csf1 ce1 cef1 (by omega));cases hr:Mp p with
 | none =>
  rw [hr] at hm;subst hm;have HO:=Zc (show Gq p=none by unfold Gq; rw [hr]);refine leaves_cons (f:=48) (args:=#[.pointer (some ⟨w.heap.size+1,0,none⟩),.pointer (some ⟨w.heap.size+1+1,0,none⟩)]) (by simp) (by simp [go_sem]) ?_;refine(O HTH).mono ?_;rintro e u' w'' ⟨rfl,rfl,rfl⟩;have HB2:=Zc (Yw (j:=0) (Yw (j:=0) (O HB1) (show w.heap.size≤w.heap.size+1 by omega) (.string { data:=#[] })) (show w.heap.size≤w.heap.size+1+1 by omega) (.iface 111 (.int .i64 4)));simp [Leaves,settle,results,Tryz.results33,go_sem,Kr,cs1,ce1,O HO,Sp];exact⟨(O HB2).os,(O HB2).tape,(O HB2).output,(O HB2).size,(O HB2).block⟩
 | some bs =>
  rw [hr] at hm;obtain⟨rfl,v1,hw1⟩:=hm;rw [List.nil_append] at hw1;have hbs:=Zis p bs hr;have hpos:0<bs.length:=by
   unfold Mp at hr;obtain⟨x,y,ex,ey,rfl⟩:=Mi hr;cases ex
   simp
  have cw:=hw1.cell;have hrow:=hw1.row;obtain⟨g,cap,rfl⟩:∃ g cap,v1=.slice (some ⟨g,0,none⟩) bs.length cap:=by
   rcases hrow.2 with⟨_,h0⟩ | ⟨g,cap,cur,e,-⟩
   ·
    omega
   ·
    exact⟨g,cap,e⟩
  have hcv:(convert 126 9 (.slice (some ⟨g,0,none⟩) bs.length cap)).run Tryz.prog w1=.ok (.string ⟨bs.toArray⟩) w1 :=
   run_convert_bytes_back w1 126 9 5 ⟨g,0,none⟩ cap bs Tryz.underlying126 Tryz.underlying5 Tryz.underlying9 (fun j hj=>by
    have:=hrow.cellAt j (by omega);rw [show(⟨g,0,none⟩:Addr).add j=⟨g,j,none⟩ by unfold Addr.add; split <;> simp_all,this];simp [Gs,hj])
  have HIDLE:=Zc (fun w2=>Zmk ⟨w.heap.size+1,0,none⟩ ⟨w.heap.size+1+1,0,none⟩ w2);clear hw1 hrow;by_cases hlen:bs.length≤4000
  ·
   have HO:=Zc (show Gq p=some bs by unfold Gq; rw [hr]; exact if_pos hlen);generalize bs.length=n at *;go_wp2;refine leaves_cons (f:=48) (args:=#[.pointer (some ⟨w.heap.size+1,0,none⟩),.pointer (some ⟨w.heap.size+1+1,0,none⟩)]) (by simp) (by simp [go_sem]) ?_;refine(O HIDLE _).mono ?_;rintro e u' w'' ⟨rfl,rfl,rfl⟩;have HB2:=Zc (Yw (j:=0) (Yw (j:=0) (O HB1) (show w.heap.size≤w.heap.size+1 by omega) (.string ⟨bs.toArray⟩)) (show w.heap.size≤w.heap.size+1+1 by omega) .nilIface);simp [Leaves,settle,results,Tryz.results33,go_sem,cs1,ce1,O HO,Sp];exact O HB2
  ·
   have HO:=Zc (show Gq p=none by unfold Gq; rw [hr]; exact if_neg hlen);go_wp2_with fail
   refine(Lt _ _).mono ?_;rintro e w3 ⟨rfl,hw⟩;subst w3;refine leaves_cons (f:=48) (args:=#[.pointer (some ⟨w.heap.size+1,0,none⟩),.pointer (some ⟨w.heap.size+1+1,0,none⟩)]) (by simp) (by simp [go_sem]) ?_;refine(O HTH).mono ?_;rintro e u' w'' ⟨rfl,rfl,rfl⟩;have HB2:=Zc (Yw (j:=0) (Yw (j:=0) (O HB1) (show w.heap.size≤w.heap.size+1 by omega) (.string { data:=#[] })) (show w.heap.size≤w.heap.size+1+1 by omega) (.iface 111 (.int .i64 4)));simp [Leaves,settle,results,Tryz.results33,go_sem,Kr,cs1,ce1,O HO,Sp];exact⟨(O HB2).os,(O HB2).tape,(O HB2).output,(O HB2).size,(O HB2).block⟩
set_option maxHeartbeats 1000000
set_option maxRecDepth 100000
theorem Zrd (p:Zw)(fv ev:Value)(pf:List (Array Value×Zy))(pe:List (Array Value×(List Int×Int)))(w:World)(hg:Zs w)(hb:2<w.heap.size)(hP:Ow w w.heap.size p fv ev pf pe) :
 Calls Tryz.prog 18 #[.agg #[fv,ev]] w fun e w'=>e=.returned (Sp (Gq p))∧Below w.heap.size w w':=by
 have HG:=Zc hg;have HP:=Zc hP;obtain⟨p0,c0',e0⟩:=hP.fls.shape;obtain⟨p2,c2',e2⟩:=hP.els.shape;generalize hn0:pf.length=n0 at e0;generalize hn2:pe.length=n2 at e2;subst e0 e2;clear hn0 hn2 hP hg;go_enter Tryz.func18,Tryz.ntmps18
 go_wp2_with fail
 have hbl:Below w.heap.size w (w.alloc (.cells #[.slice p0 n0 c0',.slice p2 n2 c2'] 25)):=by go_grown
 have hsz:w.heap.size≤(w.alloc (.cells #[.slice p0 n0 c0',.slice p2 n2 c2'] 25)).heap.size:=hbl.size;refine(Zuj p _ _ pf pe _ ((O HG).below hb hbl) (by omega) (((O HP).ws (Mg hbl (Nat.le_refl _))).mono hsz)).mono ?_;rintro e w1 ⟨rfl,hb1⟩;have HB:=Zc (hbl.trans (⟨hb1.os,hb1.tape,hb1.output,hb1.size,fun q hq=>hb1.block q (by omega)⟩:Below w.heap.size _ w1));clear hbl hsz hb1;cases ho:Gq p with
 | some bs =>
  unfold Sp;simp only;go_wp2;go_returns;exact⟨by rw [ho]; rfl,O HB⟩
 | none =>
  unfold Sp;simp only;go_wp2;go_returns;exact⟨by rw [ho]; rfl,O HB⟩
theorem Sz {P:Program}{fn:Func}{u q:Tmp}{uy:TypeId}(h:fn.results=#[.tmp u,.cell q uy])(tmps:Array Value)(w:World)(g':Nat)(t':TypeId)(cs':Array Value)(fr':Nat×Nat)(d':TypeDesc)
 (hp':tmps.getD q undef=.pointer (some ⟨g',0,none⟩)) (hg':w.heap[g']?=some (.cells cs' t' fr')) (hu':P.underlying uy=some d') (hd':(match d' with | .struct _ | .array _ _=>true | _=>false)=true) (hi':(P.info? uy).map (·.size)=some cs'.size) :
 (results fn tmps).run P w=.ok (.tuple #[tmps.getD u undef,.agg cs']) w:=by
 have e2:tmps[q]?.getD undef=.pointer (some ⟨g',0,none⟩):=by simpa using hp'
 simp [results,h,e2,asAddr,run_loadVar_row w g' t' uy cs' fr' d' hg' hu' hd' hi']
theorem Tryz.infFltE:(Tryz.prog.info? 28).map (·.size)=some 4:=by kernel_rfl
def Ydj:Option (List UInt8)→Value
 | some bs=>.tuple #[.string ⟨bs.toArray⟩,Iw 0 (-1) (-1) (-1)]
 | none=>.tuple #[.string ⟨#[]⟩,Iw 4 (-1) (-1) (-1)]
theorem Zcz (p:Zw)(fv ev:Value)(pf:List (Array Value×Zy))(pe:List (Array Value×(List Int×Int)))(w:World)(hE:Xj w)(hg:Zs w)(hb:2<w.heap.size)(hP:Ow w w.heap.size p fv ev pf pe) :
 Calls Tryz.prog 5 #[.agg #[fv,ev]] w fun e w'=>e=.returned (Ydj (Gq p))∧Below w.heap.size w w':=by
 have HG:=Zc hg;have HP:=Zc hP;have HE:=Zc hE;obtain⟨p0,c0',e0⟩:=hP.fls.shape;obtain⟨p2,c2',e2⟩:=hP.els.shape;generalize hn0:pf.length=n0 at e0;generalize hn2:pe.length=n2 at e2;subst e0 e2;clear hn0 hn2 hP hg hE;go_enter Tryz.func5,Tryz.ntmps5
 go_wp2_with fail
 have hbl:Below w.heap.size w ((w.alloc (.cells #[.slice p0 n0 c0',.slice p2 n2 c2'] 25)).alloc (.cells #[.int .i64 0,.int .i64 0,.int .i64 0,.int .i64 0] 28)):=by go_grown
 have hsz:=hbl.size;have hrow:((w.alloc (.cells #[.slice p0 n0 c0',.slice p2 n2 c2'] 25)).alloc (.cells #[.int .i64 0,.int .i64 0,.int .i64 0,.int .i64 0] 28)).heap[w.heap.size+1]?=some (.cells #[.int .i64 0,.int .i64 0,.int .i64 0,.int .i64 0] 28 (0,0)):=by
  have:=heap_alloc_new (w.alloc (.cells #[.slice p0 n0 c0',.slice p2 n2 c2'] 25)) (.cells #[.int .i64 0,.int .i64 0,.int .i64 0,.int .i64 0] 28);simpa using this
 have hsz2:w.heap.size+1<((w.alloc (.cells #[.slice p0 n0 c0',.slice p2 n2 c2'] 25)).alloc (.cells #[.int .i64 0,.int .i64 0,.int .i64 0,.int .i64 0] 28)).heap.size:=by simp
 have HPE:=Zc (Zrd p _ _ pf pe _ ((O HG).below hb hbl) (by omega) (((O HP).ws (Mg hbl (Nat.le_refl _))).mono hsz));have hE0:Xj _:=(O HE).below hbl (by omega);generalize (w.alloc _).alloc _=W0 at hbl hsz hrow hsz2 HPE hE0 ⊢;refine(O HPE).mono ?_;rintro e w1 ⟨rfl,hb1⟩;have hs1:=hb1.size;have hrow1:=(hb1.block _ hsz2).trans hrow;have hE1:=hE0.below hb1 (by omega);have HB1:=Zc (hbl.trans (⟨hb1.os,hb1.tape,hb1.output,hb1.size,fun q hq=>hb1.block q (by omega)⟩:Below w.heap.size W0 w1));clear hbl hb1 hrow HPE hE0;cases ho:Gq p with
 | some bs =>
  have HFC:=Zc (Uy w1);unfold Sp;simp only;go_wp2_with fail
  refine(O HFC).mono ?_;rintro e w2 ⟨rfl,hb2⟩;have hrow2:=(hb2.block _ (by omega)).trans hrow1;have hs2:=hb2.size;have HB2:=Zc ((O HB1).trans (⟨hb2.os,hb2.tape,hb2.output,hb2.size,fun q hq=>hb2.block q (by omega)⟩:Below w.heap.size w1 w2));have HROW:=Zc hrow2;clear hb2 hrow2 hrow1;go_wp2_with (refine wpList_store_row rfl 28 (.tmp 3) (.tmp 13) rfl (w.heap.size+1) #[.int .i64 0,.int .i64 (-1),.int .i64 (-1),.int .i64 (-1)] rfl rfl 28 _ (O HROW) (Tryz.infFltE.trans rfl) rfl (by simp [Value.oneCell']) ?_)
  refine bodyPost_ret (Sz (fn:=Tryz.f5) (u:=2) (q:=3) (uy:=28) rfl _ _ (w.heap.size+1) 28 #[.int .i64 0,.int .i64 (-1),.int .i64 (-1),.int .i64 (-1)] (0,0) _ rfl (setRow_heap _ _ _ _ _ _ (O HROW)) Tryz.underlying28 rfl (Tryz.infFltE.trans rfl)) rfl ?_;exact⟨by rw [ho]; rfl,below_setRow (O HB2) (by omega) _⟩
 | none =>
  have HFC:=Zc (Rf 4 w1 hE1);unfold Sp;simp only;go_wp2_with fail
  refine(O HFC).mono ?_;rintro e w2 ⟨rfl,hb2⟩;have hrow2:=(hb2.block _ (by omega)).trans hrow1;have hs2:=hb2.size;have HB2:=Zc ((O HB1).trans (⟨hb2.os,hb2.tape,hb2.output,hb2.size,fun q hq=>hb2.block q (by omega)⟩:Below w.heap.size w1 w2));have HROW:=Zc hrow2;clear hb2 hrow2 hrow1;go_wp2_with (refine wpList_store_row rfl 28 (.tmp 3) (.tmp 13) rfl (w.heap.size+1) #[.int .i64 4,.int .i64 (-1),.int .i64 (-1),.int .i64 (-1)] rfl rfl 28 _ (O HROW) (Tryz.infFltE.trans rfl) rfl (by simp [Value.oneCell']) ?_)
  refine bodyPost_ret (Sz (fn:=Tryz.f5) (u:=2) (q:=3) (uy:=28) rfl _ _ (w.heap.size+1) 28 #[.int .i64 4,.int .i64 (-1),.int .i64 (-1),.int .i64 (-1)] (0,0) _ rfl (setRow_heap _ _ _ _ _ _ (O HROW)) Tryz.underlying28 rfl (Tryz.infFltE.trans rfl)) rfl ?_;exact⟨by rw [ho]; rfl,below_setRow (O HB2) (by omega) _⟩
section
variable {w w':World} {b:Nat}
abbrev Uv (b:Nat)(w w':World):Prop:=∀ k,k<b→w'.heap[k]?=w.heap[k]?
theorem Rv.same {v:Value}{ns:List Int}(h:Rv w b v ns)(hw:Uv b w w'):Rv w' b v ns:=by
 rcases h with h | ⟨sb,so,cap,h1,h2,h3⟩
 ·
  exact Or.inl h
 ·
  exact Or.inr ⟨sb,so,cap,h1,h2,fun i hi=>(World.cell?_of_block (a:=⟨sb,so+i,none⟩) (hw sb h2)).trans (h3 i hi)⟩
theorem Kd.same {α:Type}{size:Nat}{v:Value}{ps:List (Array Value×α)}(h:Kd size w b v ps)(hw:Uv b w w'):Kd size w' b v ps:=by
 rcases h with h | ⟨sb,so,cap,h1,h2,h3⟩
 ·
  exact Or.inl h
 ·
  exact Or.inr ⟨sb,so,cap,h1,h2,fun i hi j x hx=>(World.cell?_of_block (a:=⟨sb,so+i*size+j,none⟩) (hw sb h2)).trans (h3 i hi j x hx)⟩
theorem VsB.same {α:Type}{v:Value}{ps:List (Value×α)}(h:VsB w b v ps)(hw:Uv b w w'):VsB w' b v ps:=by
 rcases h with h | ⟨sb,so,cap,h1,h2,h3⟩
 ·
  exact Or.inl h
 ·
  exact Or.inr ⟨sb,so,cap,h1,h2,fun i hi=>(World.cell?_of_block (a:=⟨sb,so+i,none⟩) (hw sb h2)).trans (h3 i hi)⟩
theorem Re.same {p:Array Value×Zq}(h:Re w b p)(hw:Uv b w w'):Re w' b p:=by
 obtain⟨av,ov,pa,h1,h2,h3,h4,h5,h6⟩:=h;exact⟨av,ov,pa,h1,h2,h3,h4.same hw,h5.same hw,h6⟩
theorem Dl.same {p:Value×List Zq}(h:Dl w b p)(hw:Uv b w w'):Dl w' b p:=by
 obtain⟨ps,h1,h2,h3,h4⟩:=h;exact⟨ps,h1,h2.same hw,fun q hq=>(h3 q hq).same hw,h4⟩
theorem Ko.same {f:Zy}{pv hv sv bv:Value}{pp:List (Array Value×(Int×Int))}{pb:List (Value×List Zq)}(h:Ko w b f pv hv sv bv pp pb)(hw:Uv b w w'):Ko w' b f pv hv sv bv pp pb :=
 ⟨h.params,h.vals,h.pls.same hw,h.hls.same hw,h.sls.same hw,h.bls.same hw,h.blocks,fun q hq=>(h.each q hq).same hw,h.lens⟩
theorem Ru.same {p:Array Value×(List Int×Int)}(h:Ru w b p)(hw:Uv b w w'):Ru w' b p:=by
 obtain⟨lv,h1,h2,h3⟩:=h;exact⟨lv,h1,h2.same hw,h3⟩
theorem Oh.same {p:Array Value×Zy}(h:Oh w b p)(hw:Uv b w w'):Oh w' b p:=by
 obtain⟨pv,hv,sv,bv,pp,pb,h1,h2⟩:=h;exact⟨pv,hv,sv,bv,pp,pb,h1,h2.same hw⟩
theorem Ow.same {p:Zw}{fv ev:Value}{pf:List (Array Value×Zy)}{pe:List (Array Value×(List Int×Int))}(h:Ow w b p fv ev pf pe)(hw:Uv b w w'):Ow w' b p fv ev pf pe :=
 ⟨h.fls.same hw,h.els.same hw,h.funcs,h.externs,fun q hq=>(h.feach q hq).same hw,fun q hq=>(h.eeach q hq).same hw,h.lens⟩
end
set_option maxHeartbeats 2000000
set_option maxRecDepth 100000
abbrev Dec (α:Type):=Nat→Except Nat (α×Nat)
def Yn {α β:Type}(m:Except Nat (α×Nat))(k:α→Nat→Except Nat (β×Nat)):Except Nat (β×Nat):=match m with
 | .ok (x,a)=>k x a
 | .error q=>.error q
def bAt (s:ByteArray)(a:Nat):Int:=((s.data[a]?.getD 0).toNat:Int)
theorem Ztv (s:ByteArray)(a:Nat):0≤bAt s a∧bAt s a≤255:=by
 unfold bAt;have:=(s.data[a]?.getD 0).toNat_lt;omega
def signed (lo n:Int):Int:=if lo=-1∧n=255 then -1 else n
def Nm (lo hi v:Int)(a:Nat):Except Nat (Int×Nat):=if lo≤v∧v≤hi then .ok (v,a+1) else .error a
section
variable (s:ByteArray)
def Yf (lo hi:Int):Dec Int:=fun a=>if a<s.size then Nm lo hi (signed lo (bAt s a)) a else .error a
def Nn {α:Type}(one:Dec α):Nat→Dec (List α)
 | 0=>fun a=>.ok ([],a)
 | n+1=>fun a=>Yn (Nn one n a) fun xs a1=>Yn (one a1) fun x a2=>.ok (xs++[x],a2)
def Ys {α:Type}(lo hi:Int)(one:Dec α):Dec (List α):=fun a=>Yn (Yf s lo hi a) fun n a1=>Nn one n.toNat a1
def Mt:Dec (Int×Int):=fun a=>Yn (Yf s 0 8 a) fun x a1=>Yn (Yf s 0 255 a1) fun y a2=>.ok ((x,y),a2)
def Zem:Dec (List Int×Int):=fun a=>Yn (Ys s 0 8 (Yf s 0 8) a) fun l a1=>Yn (Yf s 0 4 a1) fun r a2=>.ok ((l,r),a2)
def dOp:Nat→Dec Int
 | 0=>fun a=>.ok (0,a)
 | n+1=>fun a=>Yn (dOp n a) fun x a1=>Yn (Yf s 0 255 a1) fun y a2=>.ok (256*x+y,a2)
def Od (c:UInt8)(i:Zq):Dec Zq:=fun a =>
 if c=68 then Yn (Yf s 0 255 a) fun x a1=>.ok ({ i with d:=x },a1)
 else if c=65 then Yn (Yf s 0 255 a) fun x a1=>.ok ({ i with a:=x },a1)
 else if c=66 then Yn (Yf s 0 255 a) fun x a1=>.ok ({ i with bb:=x },a1)
 else if c=110 then Yn (dOp s 1 a) fun x a1=>.ok ({ i with n:=x },a1)
 else if c=78 then Yn (dOp s 8 a) fun x a1=>.ok ({ i with n:=x },a1)
 else if c=70 then Yn (Yf s 0 255 a) fun x a1=>.ok ({ i with f:=x },a1)
 else if c=82 then Yn (Ys s 0 8 (Mt s) a) fun x a1=>.ok ({ i with args:=x },a1)
 else if c=79 then Yn (Ys s 0 4 (Yf s 0 255) a) fun x a1=>.ok ({ i with outs:=x },a1)
 else .ok (i,a)
def Yx:List UInt8→Zq→Dec Zq
 | [],i=>fun a=>.ok (i,a)
 | c :: cs,i=>fun a=>Yn (Od s c i a) fun j a1=>Yx cs j a1
def Mm (op:Int):Zq:=⟨op,0,0,0,0,0,[],[]⟩
def Mu:Dec Zq:=fun a=>Yn (Yf s 1 18 a) fun op a1=>Yx s (Zg op) (Mm op) a1
def Ib:Dec (List Zq):=Ys s 1 24 (Mu s)
def Cq:Dec Zy:=fun a=>Yn (Ys s 0 8 (Mt s) a) fun ps a1=>Yn (Yf s 0 4 a1) fun r a2=>Yn (Ys s 0 12 (Yf s (-1) 15) a2) fun hs a3=>Yn (Ys s 0 6 (Yf s 1 8) a3) fun ss a4=>Yn (Ys s 1 12 (Ib s) a4) fun bs a5=>.ok (⟨ps,r,hs,ss,bs⟩,a5)
def Ro:Dec Zw:=fun a=>Yn (Yf s 70 70 a) fun _ a1=>Yn (Yf s 49 49 a1) fun _ a2=>Yn (Ys s 0 4 (Zem s) a2) fun es a3=>Yn (Ys s 1 8 (Cq s) a3) fun fs a4=>.ok (⟨fs,es⟩,a4)
def Gl:Except (Int×Nat) Zw:=if s.size≤4000 then (match Ro s 0 with
 | .error q=>.error (3,q)
 | .ok (p,a)=>if a<s.size then .error (3,a) else .ok p) else .error (4,0)
end
structure Mc (w:World)(b:Nat)(s:ByteArray)(a:Nat):Prop where
 c0:w.cell? ⟨b,0,none⟩=some (.string s)
 c1:w.cell? ⟨b,1,none⟩=some (.int .i64 a)
 f1:w.frozen? ⟨b,1,none⟩=false
 bd:a≤s.size
 small:s.size≤4000
section
variable {w w':World} {b:Nat} {s:ByteArray} {a:Nat}
theorem Mc.lt (h:Mc w b s a):b<w.heap.size:=World.block_lt_of_cell? w _ h.c0
theorem Mc.blk (h:Mc w b s a)(e:w'.heap[b]?=w.heap[b]?):Mc w' b s a:=⟨(World.cell?_of_block e).trans h.c0,(World.cell?_of_block e).trans h.c1,(World.frozen?_of_block (a:=⟨b,1,none⟩) e).trans h.f1,h.bd,h.small⟩
theorem Mc.alloc (h:Mc w b s a)(o:Obj):Mc (w.alloc o) b s a:=h.blk (((Below.refl w.heap.size w).alloc (Nat.le_refl _) o).block b h.lt)
theorem Mc.drew (h:Mc w b s a):Mc w.drew b s a:=h.blk rfl
theorem Mc.next (h:Mc w b s a)(hb:a<s.size):Mc (w.setCell ⟨b,1,none⟩ (.int .i64 ((a+1:Nat):Int))) b s (a+1) :=
 ⟨(World.cell?_setCell_other _ _ _ _ (by simp)).trans h.c0,World.cell?_setCell_same _ _ _ h.c1,by rw [World.frozen?_setCell]; exact h.f1,hb,h.small⟩
theorem Ju (w:World)(r:Option Nat):w.grownBy w r:=⟨rfl,rfl,rfl,Nat.le_refl _,fun _ _ _=>rfl⟩
theorem Zcr (w:World)(r:Option Nat):w.grownBy w.drew r:=⟨rfl,rfl,rfl,Nat.le_refl _,fun _ _ _=>rfl⟩
theorem Zyt (w:World)(b j:Nat)(v:Value):w.grownBy (w.setCell ⟨b,j,none⟩ v) (some b):=Zdb (Ju w (some b)) (Or.inr rfl)
end
def Ztw (q:Int):Array Value:=#[.iface 111 (.int .i64 3),.int .i64 (-1),.int .i64 (-1),.int .i64 q]
def Dg (g:Nat):List PanicEntry:=[{ v:=.iface 124 (.agg #[.iface 114 (.pointer (some ⟨g,0,none⟩))]),recovered:=false }]
def Yl {α:Type}(b:Nat)(s:ByteArray)(RV:World→Nat→Value→α→Prop)(r:Except Nat (α×Nat))(w:World)(e:Ending)(w':World):Prop :=
 w.grownBy w' (some b)∧match r with
  | .ok (x,a)=>∃ v,e=.returned v∧RV w' w.heap.size v x∧Mc w' b s a
  | .error q=>∃ g,e=.panicked (Dg g)∧w'.heap[g]?=some (.cells (Ztw q) 117 (0,0))∧w.heap.size≤g
def Kl (_:World)(_:Nat)(v:Value)(x:Int):Prop:=v=.int .i64 x
theorem Yl.err {α β:Type}{b:Nat}{s:ByteArray}{RV:World→Nat→Value→α→Prop}{RW:World→Nat→Value→β→Prop}{q:Nat}{w w1 w2:World}{e:Ending}(h:Yl b s RV (.error q) w1 e w2)(hg:w.grownBy w1 (some b)):Yl b s RW (.error q) w e w2:=by
 obtain⟨g1,g,he,hr,hl⟩:=h;exact⟨Xy hg g1,g,he,hr,Nat.le_trans hg.size hl⟩
theorem Zol (n q:Int)(w:World):Calls Tryz.prog 55 #[.int .i64 n,.int .i64 q] w fun e w'=>e=.returned (.iface 114 (.pointer (some ⟨w.heap.size,0,none⟩)))∧w'=w.alloc (.cells #[.iface 111 (.int .i64 n),.int .i64 (-1),.int .i64 (-1),.int .i64 q] 117 (0,0)):=by
 go_enter Tryz.func55,Tryz.ntmps55
 go_wp2;go_ret;exact⟨rfl,rfl⟩
theorem Zcs {α:Type}(RV:World→Nat→Value→α→Prop)(b:Nat)(s:ByteArray)(a:Nat)(w:World)(h:Mc w b s a):Calls Tryz.prog 58 #[.pointer (some ⟨b,0,none⟩)] w (Yl b s RV (.error a) w):=by
 have c1:=h.c1;clear h;go_enter Tryz.func58,Tryz.ntmps58
 go_wp2_with fail
 refine(Zol 3 a w).mono ?_;rintro e w1 ⟨rfl,hw⟩;subst w1;go_wp2;exact⟨rfl,Yc _ _ _,w.heap.size,rfl,heap_alloc_new _ _,Nat.le_refl _⟩
theorem Ycq (s:ByteArray)(a:Nat)(h:a<s.size):((s[a].toNat:Nat):Int)=bAt s a:=by
 unfold bAt;rw [Array.getElem?_eq_getElem (show a<s.data.size from h)];rfl
theorem Zom (b:Nat)(s:ByteArray)(a:Nat)(w:World)(h:Mc w b s a)(hlt:a<s.size):Calls Tryz.prog 146 #[.pointer (some ⟨b,0,none⟩)] w fun e w'=>e=.returned (.int .u8 (bAt s a))∧w.grownBy w' (some b)∧Mc w' b s a:=by
 have c0:=h.c0;have c1:=h.c1;have hsm:=h.small;have HR:=Zc h;have HB:=Zc (Ycq s a hlt);clear h;have hlt':¬ ((s.size:Int)≤a):=by omega
 go_enter Tryz.func146,Tryz.ntmps146
 go_wp2;go_region
 go_wp2;go_region
 go_wp2;go_ret;refine⟨by rw [← O HB]; rfl,?_,?_⟩
 ·
  exact Xy (Zcr _ _) (Zcr _ _)
 ·
  exact(O HR).drew.drew
theorem Zon {α:Type}(RV:World→Nat→Value→α→Prop)(b:Nat)(s:ByteArray)(a:Nat)(w:World)(h:Mc w b s a)(hlt:s.size≤a):Calls Tryz.prog 146 #[.pointer (some ⟨b,0,none⟩)] w (Yl b s RV (.error a) w):=by
 have c0:=h.c0;have c1:=h.c1;have hsm:=h.small;have hbd:=h.bd;have hle:(s.size:Int)≤a:=by omega
 have HC:=Zc (Zcs RV b s a w.drew h.drew);clear h;go_enter Tryz.func146,Tryz.ntmps146
 go_wp2;go_region
 go_wp2_with fail
 refine(O HC).mono ?_;intro e w2 h2;have h3:=Yl.err (RW:=RV) h2 (Zcr w (some b));obtain⟨g1,g,rfl,g2,g3⟩:=h2;exact⟨rfl,h3⟩
theorem Ztx (b:Nat)(s:ByteArray)(a:Nat)(x lo hi:Int)(w:World)(h:Mc w b s a)(hlt:a<s.size):Calls Tryz.prog 145 #[.pointer (some ⟨b,0,none⟩),.int .i64 x,.int .i64 lo,.int .i64 hi] w (Yl b s Kl (Nm lo hi x a) w):=by
 have c1:=h.c1;have f1:=h.f1;have hsm:=h.small;have HC:=Zc (Zcs Kl b s a w h);have HR:=Zc h;clear h;by_cases h1:lo≤x
 ·
  by_cases h2:x≤hi
  ·
   have HD:=Zc (show Nm lo hi x a=.ok (x,a+1) from if_pos ⟨h1,h2⟩);go_enter Tryz.func145,Tryz.ntmps145
   go_wp2;go_ret;rw [O HD];exact⟨Zyt w b 1 _,_,rfl,rfl,(O HR).next hlt⟩
  ·
   have HD:=Zc (show Nm lo hi x a=.error a from if_neg (fun c=>h2 c.2));go_enter Tryz.func145,Tryz.ntmps145
   go_wp2_with fail
   refine(O HC).mono ?_;intro e w2 h2;have h3:=h2;obtain⟨g1,g,rfl,g2,g3⟩:=h2;refine⟨rfl,?_⟩;rw [O HD];exact h3
 ·
  have HD:=Zc (show Nm lo hi x a=.error a from if_neg (fun c=>h1 c.1));go_enter Tryz.func145,Tryz.ntmps145
  go_wp2_with fail
  refine(O HC).mono ?_;intro e w2 h2;have h3:=h2;obtain⟨g1,g,rfl,g2,g3⟩:=h2;refine⟨rfl,?_⟩;rw [O HD];exact h3
set_option maxHeartbeats 1000000
set_option maxRecDepth 100000
theorem Xm (b:Nat)(s:ByteArray)(a:Nat)(lo hi:Int)(w:World)(h:Mc w b s a)(hlo:lo≠-1):Calls Tryz.prog 95 #[.pointer (some ⟨b,0,none⟩),.int .i64 lo,.int .i64 hi] w (Yl b s Kl (Yf s lo hi a) w):=by
 by_cases hlt:a<s.size
 ·
  have HD:=Zc (show Yf s lo hi a=Nm lo hi (bAt s a) a by unfold Yf signed; rw [if_pos hlt,if_neg (fun c=>hlo c.1)]);obtain⟨b0,b1⟩:=Ztv s a;have HP:=Zc (Zom b s a w h hlt);generalize bAt s a=n at HD HP b0 b1;clear h hlo;go_enter Tryz.func95,Tryz.ntmps95
  go_wp2_with fail
  refine(O HP).mono ?_;rintro e w1 ⟨rfl,hg1,hR1⟩;have HT:=Zc (Ztx b s a n lo hi w1 hR1 hlt);have HG1:=Zc hg1;clear hg1 hR1;go_wp2_with fail
  refine(O HT).mono ?_;intro e w2 h2;cases hr:Nm lo hi n a with
  | ok p =>
   obtain⟨x,a'⟩:=p;rw [hr] at h2;obtain⟨g1,v,rfl,hv,hR⟩:=h2;have HV:=Zc hv;have HR2:=Zc hR;have HG2:=Zc (Xy (O HG1) g1);have HE:=Zc hr;clear hv hR g1 hr;go_wp2;go_ret;rw [O HD,O HE];exact⟨O HG2,v,rfl,O HV,O HR2⟩
  | error q =>
   rw [hr] at h2;have h3:=Yl.err (RW:=Kl) h2 (O HG1);obtain⟨g1,g,rfl,g2,g3⟩:=h2;refine⟨rfl,?_⟩;rw [O HD,hr];exact h3
 ·
  have HD:=Zc (show Yf s lo hi a=.error a from if_neg hlt);have HP:=Zc (Zon Kl b s a w h (by omega));clear h;go_enter Tryz.func95,Tryz.ntmps95
  go_wp2_with fail
  refine(O HP).mono ?_;intro e w2 h2;have h3:=Yl.err (RW:=Kl) h2 (Ju w (some b));obtain⟨g1,g,rfl,g2,g3⟩:=h2;refine⟨rfl,?_⟩;rw [O HD];exact h3
theorem Zgh (b:Nat)(s:ByteArray)(a:Nat)(w:World)(h:Mc w b s a):Calls Tryz.prog 148 #[.pointer (some ⟨b,0,none⟩)] w (Yl b s Kl (Yf s 0 8 a) w):=by
 have HN:=Zc (Xm b s a 0 8 w h (by decide));clear h;go_enter Tryz.func148,Tryz.ntmps148
 go_wp2_with fail
 refine(O HN).mono ?_;intro e w2 h2;cases hr:Yf s 0 8 a with
 | ok p =>
  obtain⟨x,a'⟩:=p;rw [hr] at h2;obtain⟨g1,v,rfl,hv,hR⟩:=h2;have HV:=Zc hv;have HR2:=Zc hR;have HG2:=Zc (Xy (Ju w (some b)) g1);have HE:=Zc hr;clear hv hR g1 hr;go_wp2;go_ret;rw [O HE];exact⟨O HG2,v,rfl,O HV,O HR2⟩
 | error q =>
  rw [hr] at h2;have h3:=Yl.err (RW:=Kl) h2 (Ju w (some b));obtain⟨g1,g,rfl,g2,g3⟩:=h2;refine⟨rfl,?_⟩;exact h3
theorem Jh (b:Nat)(s:ByteArray)(a:Nat)(w:World)(h:Mc w b s a):Calls Tryz.prog 213 #[.pointer (some ⟨b,0,none⟩)] w (Yl b s Kl (Yf s 0 255 a) w):=by
 have HN:=Zc (Xm b s a 0 255 w h (by decide));clear h;go_enter Tryz.func213,Tryz.ntmps213
 go_wp2_with fail
 refine(O HN).mono ?_;intro e w2 h2;cases hr:Yf s 0 255 a with
 | ok p =>
  obtain⟨x,a'⟩:=p;rw [hr] at h2;obtain⟨g1,v,rfl,hv,hR⟩:=h2;have HV:=Zc hv;have HR2:=Zc hR;have HG2:=Zc (Xy (Ju w (some b)) g1);have HE:=Zc hr;clear hv hR g1 hr;go_wp2;go_ret;rw [O HE];exact⟨O HG2,v,rfl,O HV,O HR2⟩
 | error q =>
  rw [hr] at h2;have h3:=Yl.err (RW:=Kl) h2 (Ju w (some b));obtain⟨g1,g,rfl,g2,g3⟩:=h2;refine⟨rfl,?_⟩;exact h3
theorem Ycr (b:Nat)(s:ByteArray)(a:Nat)(w:World)(h:Mc w b s a):Calls Tryz.prog 152 #[.pointer (some ⟨b,0,none⟩)] w (Yl b s Kl (Yf s 1 8 a) w):=by
 have HN:=Zc (Xm b s a 1 8 w h (by decide));clear h;go_enter Tryz.func152,Tryz.ntmps152
 go_wp2_with fail
 refine(O HN).mono ?_;intro e w2 h2;cases hr:Yf s 1 8 a with
 | ok p =>
  obtain⟨x,a'⟩:=p;rw [hr] at h2;obtain⟨g1,v,rfl,hv,hR⟩:=h2;have HV:=Zc hv;have HR2:=Zc hR;have HG2:=Zc (Xy (Ju w (some b)) g1);have HE:=Zc hr;clear hv hR g1 hr;go_wp2;go_ret;rw [O HE];exact⟨O HG2,v,rfl,O HV,O HR2⟩
 | error q =>
  rw [hr] at h2;have h3:=Yl.err (RW:=Kl) h2 (Ju w (some b));obtain⟨g1,g,rfl,g2,g3⟩:=h2;refine⟨rfl,?_⟩;exact h3
theorem Zyu (n:Int)(a:Nat)(h0:0≤n)(h1:n≤255):Nm (-1) 15 (if n≤127 then n else n-256) a=Nm (-1) 15 (signed (-1) n) a:=by
 by_cases h2:n=255
 ·
  subst h2; rfl
 ·
  have e1:signed (-1) n=n:=if_neg (fun c=>h2 c.2);rw [e1];by_cases h3:n≤127
  ·
   rw [if_pos h3]
  ·
   rw [if_neg h3];unfold Nm;rw [if_neg (by omega),if_neg (by omega)]
theorem Ycs (b:Nat)(s:ByteArray)(a:Nat)(w:World)(h:Mc w b s a):Calls Tryz.prog 151 #[.pointer (some ⟨b,0,none⟩)] w (Yl b s Kl (Yf s (-1) 15 a) w):=by
 by_cases hlt:a<s.size
 ·
  obtain⟨b0,b1⟩:=Ztv s a;have HD:=Zc (show Yf s (-1) 15 a=Nm (-1) 15 (if bAt s a≤127 then bAt s a else bAt s a-256) a by unfold Yf; rw [if_pos hlt,Zyu _ _ b0 b1]);have HP:=Zc (Zom b s a w h hlt);generalize bAt s a=n at HD HP b0 b1;have hi8:IntKind.i8.wrap n=(if n≤127 then n else n-256):=by
   unfold IntKind.wrap;simp [IntKind.bits,IntKind.signed];split <;> split <;> omega
  have hi64:wrap64 (if n≤127 then n else n-256)=(if n≤127 then n else n-256):=by
   unfold wrap64;split <;> omega
  have HI:=Zc hi8;have HJ:=Zc hi64;clear h hi8 hi64;go_enter Tryz.func151,Tryz.ntmps151
  go_wp2_with fail
  refine(O HP).mono ?_;rintro e w1 ⟨rfl,hg1,hR1⟩;generalize hm:(if n≤127 then n else n-256)=m at HD HI HJ;have HT:=Zc (Ztx b s a m (-1) 15 w1 hR1 hlt);have HG1:=Zc hg1;clear hg1 hR1 hm;go_wp2_with fail
  rw [show wrap64 (IntKind.i8.wrap n)=m by rw [O HI]; exact O HJ];refine(O HT).mono ?_;intro e w2 h2;cases hr:Nm (-1) 15 m a with
  | ok p =>
   obtain⟨x,a'⟩:=p;rw [hr] at h2;obtain⟨g1,v,rfl,hv,hR⟩:=h2;have HV:=Zc hv;have HR2:=Zc hR;have HG2:=Zc (Xy (O HG1) g1);have HE:=Zc hr;clear hv hR g1 hr;go_wp2;go_ret;rw [O HD,O HE];exact⟨O HG2,v,rfl,O HV,O HR2⟩
  | error q =>
   rw [hr] at h2;have h3:=Yl.err (RW:=Kl) h2 (O HG1);obtain⟨g1,g,rfl,g2,g3⟩:=h2;refine⟨rfl,?_⟩;rw [O HD,hr];exact h3
 ·
  have HD:=Zc (show Yf s (-1) 15 a=.error a from if_neg hlt);have HP:=Zc (Zon Kl b s a w h (by omega));clear h;go_enter Tryz.func151,Tryz.ntmps151
  go_wp2_with fail
  refine(O HP).mono ?_;intro e w2 h2;have h3:=Yl.err (RW:=Kl) h2 (Ju w (some b));obtain⟨g1,g,rfl,g2,g3⟩:=h2;refine⟨rfl,?_⟩;rw [O HD];exact h3
end Go.Proofs.YtedemloocadimaaGreatDoor
