import Derived.Test.YtedemloocadimaaGreatDoorJ3
import Derived.Test.YtedemloocadimaaGreatDoorJ10
import Derived.Test.YtedemloocadimaaGreatDoorTblTxt
namespace Go.Proofs.YtedemloocadimaaGreatDoor
open Go.RowKit
set_option maxHeartbeats 4000000
set_option maxRecDepth 100000
theorem Zpd (w:World)(r:Option Nat):w.grownBy w.drew r:=⟨rfl,rfl,rfl,Nat.le_refl _,fun _ _ _=>rfl⟩
theorem GT.mono {S:Rg}{B B0:Nat}{arr:Array Value}{u:World}(h:GT S B arr u)(hB:B0≤B):GT S B0 arr u:=by
 obtain⟨v4,v5,v6,h1,h2,h3,h4,h5⟩:=h;exact⟨v4,v5,v6,h1,Gy h2 hB,Gy h3 hB,Gy h4 hB,h5⟩
structure Raw (w:World)(b:Nat)(s:ByteArray):Prop where
 c0:w.cell? ⟨b,0,none⟩=some (.string s)
 c1:w.cell? ⟨b,1,none⟩=some (.int .u32 0)
 c2:w.cell? ⟨b,2,none⟩=some (.int .i32 0)
 th:w.there b 4 12
 fz:∀ j,w.frozen? ⟨b,j,none⟩=false
theorem Raw.lt {w:World}{b:Nat}{s:ByteArray}(h:Raw w b s):b<w.heap.size:=World.block_lt_of_cell? w _ h.c0
theorem Raw.below {w w':World}{b:Nat}{s:ByteArray}(h:Raw w b s)(hb:Below w.heap.size w w'):Raw w' b s :=
 have e:∀ j,w'.cell? ⟨b,j,none⟩=w.cell? ⟨b,j,none⟩:=fun j=>hb.cell (p:=⟨b,j,none⟩) h.lt;have f:∀ j,w'.frozen? ⟨b,j,none⟩=w.frozen? ⟨b,j,none⟩:=fun j=>World.frozen?_of_block (a:=⟨b,j,none⟩) (hb.block b h.lt);⟨(e 0).trans h.c0,(e 1).trans h.c1,(e 2).trans h.c2,fun j hj=>⟨by rw [e]; exact(h.th j hj).1,by rw [f]; exact(h.th j hj).2⟩,fun j=>(f j).trans (h.fz j)⟩
structure Yhj (w:World)(b:Nat)(S:Rg)(u:World):Prop where
 grow:w.grownBy u (some b)
 r:∃ arr,arr.size=12∧arr.all (·.oneCell')=true∧u.rangeAt b 4 arr.toList∧GT S w.heap.size arr u
theorem Yhk (s:ByteArray)(S:Rg)(hS:Jt s=.inr S)(b:Nat)(pl:Addr)(w:World)(hR:Raw w b s)(hpb:pl.block≠b)(hU:U8 w)(hI:Itm w)(hg1:1≠b)(hg2:3<b∧4<b)(hp:w.cell? pl=some (.pointer (some ⟨b,0,none⟩))) :
 Calls Tryz.prog 100 #[.pointer (some ⟨b,1,none⟩),.func (.func 101) #[] #[.pointer (some pl)]] w fun e w'=>e=.returned (.tuple #[])∧Yhj w b S w':=by
 have hlt:=hR.lt;have hgs:=Up w b 2 (.int .i32 1);have ho:∀ j,j≠2→(w.setCell ⟨b,2,none⟩ (.int .i32 1)).cell? ⟨b,j,none⟩=w.cell? ⟨b,j,none⟩:=fun j hj=>World.cell?_setCell_other _ _ _ _ (by first | (simp; done) | (simp; omega));have hfr:∀ j,(w.setCell ⟨b,2,none⟩ (.int .i32 1)).frozen? ⟨b,j,none⟩=false:=fun j=>by rw [World.frozen?_setCell]; exact hR.fz j
 have hlow:Below b w (w.setCell ⟨b,2,none⟩ (.int .i32 1)):=⟨hgs.os,hgs.tape,hgs.output,hgs.size,fun q hq=>hgs.block q (by omega) (by first | (simp; done) | (simp; omega))⟩;have hsz:(w.setCell ⟨b,2,none⟩ (.int .i32 1)).heap.size=w.heap.size:=by simp
 have key:=Yae s S hS b pl (w.setCell ⟨b,2,none⟩ (.int .i32 1)) (by rw [hsz]; exact hlt) hpb (hU.below hlow hg2) (hI.grown hgs hg1) hg1 hg2
  ((World.cell?_setCell_other _ _ _ _ (fun e=>hpb (by first | exact(congrArg Addr.block e) | exact(congrArg Addr.block e).symm))).trans hp) ((ho 0 (by omega)).trans hR.c0) (fun j hj=>⟨by rw [ho _ (by omega)]; exact(hR.th j hj).1,hfr _⟩) hfr
 refine(Yeg b pl w (fun u=>Rd1 (w.setCell ⟨b,2,none⟩ (.int .i32 1)) b S u) hR.c1 hR.c2 (hR.fz 2) (key.mono ?_)).mono ?_
 ·
  rintro e u ⟨rfl,h⟩;exact⟨rfl,(h.s.hd 1 (by omega)).trans ((ho 1 (by omega)).trans hR.c1),(h.s.hd 2 (by omega)).trans (World.cell?_setCell_same _ _ _ hR.c2),h.s.fz 1,h.s.fz 2,h⟩
 ·
  rintro e w' ⟨rfl,u,h,rfl⟩;refine⟨rfl,?_,?_⟩
  ·
   exact Xr (Xr (Xr hgs h.s.grow) (Xr (Zpd u _) (Up u.drew b 1 _))) (Up _ b 2 _)
  ·
   obtain⟨arr,a1,a2,a3,a4⟩:=h.r;refine⟨arr,a1,a2,fun j v hv=>?_,?_⟩
   ·
    rw [World.cell?_setCell_other _ _ _ _ (by simp),World.cell?_setCell_other _ _ _ _ (by simp),World.cell?_drew];exact a3 j v hv
   ·
    rw [hsz] at a4;exact(a4.kept (Xr (Zpd u _) (Up u.drew b 1 (.int .u32 1))) hlt).kept (Up _ b 2 _) hlt
theorem Zvs (s:ByteArray)(S:Rg)(hS:Jt s=.inr S)(b:Nat)(w:World)(hR:Raw w b s)(hU:U8 w)(hI:Itm w)(hg1:1≠b)(hg2:3<b∧4<b) :
 Calls Tryz.prog 59 #[.pointer (some ⟨b,0,none⟩)] w fun e w'=>∃ arr,e=.returned (.agg arr)∧arr.size=12∧arr.all (·.oneCell')=true∧GT S w.heap.size arr w'∧w.grownBy w' (some b):=by
 have hlt:=hR.lt;have HDO:=Ze (fun(X Y:Obj) (hp:((w.alloc X).alloc Y).cell? ⟨w.heap.size,0,none⟩=some (.pointer (some ⟨b,0,none⟩))) =>
  have hb:Below w.heap.size w ((w.alloc X).alloc Y):=((Below.refl w.heap.size w).alloc (Nat.le_refl _) X).alloc (by simp) Y;Yhk s S hS b ⟨w.heap.size,0,none⟩ ((w.alloc X).alloc Y) (hR.below hb) (Nat.ne_of_gt hlt) (hU.below hb hU.lt) (hI.grown (Ya (row:=some b) hb) hg1) hg1 hg2 hp)
 have HLW:=Ze (fun(X Y:Obj)=>((Below.refl w.heap.size w).alloc (Nat.le_refl _) X).alloc (by simp) Y);clear hR hU hI hS;go_enter Tryz.func59,Tryz.ntmps59
 go_wp2_with fail
 refine(Zb HDO _ _ (by rw [World.cell?_alloc_lt _ _ ⟨w.heap.size,0,none⟩ (by simp),World.cell?_alloc_at _ _ _ _ rfl]; rfl)).mono ?_;rintro e w1 ⟨rfl,hO⟩;obtain⟨arr,a1,a2,a3,a4⟩:=hO.r;have hz:=hO.grow.size;simp only [World.size_alloc] at hz;have cp:w1.cell? ⟨w.heap.size,0,none⟩=some (.pointer (some ⟨b,0,none⟩)):=(World.cell?_of_block (hO.grow.block w.heap.size (by simp; omega) (by simp; omega))).trans (by rw [World.cell?_alloc_lt _ _ ⟨w.heap.size,0,none⟩ (by simp),World.cell?_alloc_at _ _ _ _ rfl]; rfl);have HRow:=Ze ((hO.grow.block (w.heap.size+1) (by simp) (by simp; omega)).trans (heap_alloc2_new w _ _));have HG:=Ze ((a4.kept (Nh w1 (w.heap.size+1) arr) (by simp)).mono (B0:=w.heap.size) (by simp; omega));have HGB:=Ze (Zpm (Xr (Ya (Zb HLW _ _)) hO.grow) (Nh w1 (w.heap.size+1) arr) (fun q hq=>by injection hq with hq; omega));have HA3:=Ze a3;clear hO a3 a4;go_wp2_with (first | (refine wpList_load_mid rfl 37 (.tmp 10) rfl b 4 rfl arr.toList _ (Zb HA3) Tryz.underlying37 rfl (Tryz.infTab.trans (congrArg some (by simp [a1]))) ?_; simp only [Array.toArray_toList]) | refine wpList_store_row rfl 37 (.tmp 2) (.tmp 11) rfl (w.heap.size+1) arr rfl rfl 37 _ (Zb HRow) (Tryz.infTab.trans (congrArg some a1.symm)) a1.symm a2 ?_)
 refine bodyPost_ret (results_cell_row (fn:=Tryz.f59) (p:=2) (ty:=37) rfl _ _ (w.heap.size+1) 37 arr (0,0) _ rfl (setRow_heap _ _ _ _ _ _ (Zb HRow)) Tryz.underlying37 rfl (Tryz.infTab.trans (congrArg some a1.symm))) rfl ?_;exact⟨arr,rfl,a1,a2,Zb HG,Zb HGB⟩
set_option maxHeartbeats 8000000
set_option maxRecDepth 100000
theorem Zwi (s:ByteArray)(w:World)(hU:U8 w)(hI:Itm w):Calls Tryz.prog 22 #[.string s] w (Zpp s w):=by
 have hit:=hI.lt;have HU:=Ze hU;have HI:=Ze hI;clear hU hI;go_enter Tryz.func22,Tryz.ntmps22
 go_wp2_with fail
 have hlow:=fun X=>(Below.refl w.heap.size w).alloc (Nat.le_refl _) X;refine(Zkq s _ ((Zb HU).below (hlow _) (Zb HU).lt) ((Zb HI).grown (Ya (row:=some w.heap.size) (hlow _)) (Nat.ne_of_lt hit))).mono ?_;rintro e w1 ⟨hb1,arr,ev,rfl,hA1,hA2,hM⟩;have HBL:=Ze ((hlow _).trans (hb1.mono (by simp)));have HR:=Ze ((hb1.block w.heap.size (by simp)).trans (heap_alloc_new w _));have HM:=Ze hM;clear hb1 hM hlow;go_wp2_with (refine wpList_store_row rfl 37 (.tmp 2) (.tmp 6) rfl w.heap.size arr rfl rfl 37 _ (Zb HR) (Tryz.infTab.trans (congrArg some hA1.symm)) hA1.symm hA2 ?_)
 refine bodyPost_ret (Xx (fn:=Tryz.f22) (p:=2) (u:=3) (ty:=37) rfl _ _ w.heap.size 37 arr (0,0) _ rfl (setRow_heap _ _ _ _ _ _ (Zb HR)) Tryz.underlying37 rfl (Tryz.infTab.trans (congrArg some hA1.symm))) rfl ?_;exact⟨below_setRow (Zb HBL) (Nat.le_refl _) _,arr,ev,rfl,hA1,hA2,((Zb HM).setRow (by simp) _).mono (by simp)⟩
theorem Kb {P:Program}{fn:Func}{p q:Tmp}{ty uy:TypeId}(h:fn.results=#[.cell p ty,.cell q uy])(tmps:Array Value)(w:World)(g:Nat)(t:TypeId)(cs:Array Value)(fr:Nat×Nat)(d:TypeDesc)
 (hp:tmps.getD p undef=.pointer (some ⟨g,0,none⟩)) (hg:w.heap[g]?=some (.cells cs t fr)) (hu:P.underlying ty=some d) (hd:(match d with | .struct _ | .array _ _=>true | _=>false)=true) (hi:(P.info? ty).map (·.size)=some cs.size)
 (g':Nat) (t':TypeId) (cs':Array Value) (fr':Nat×Nat) (d':TypeDesc)
 (hp':tmps.getD q undef=.pointer (some ⟨g',0,none⟩)) (hg':w.heap[g']?=some (.cells cs' t' fr')) (hu':P.underlying uy=some d') (hd':(match d' with | .struct _ | .array _ _=>true | _=>false)=true) (hi':(P.info? uy).map (·.size)=some cs'.size) :
 (results fn tmps).run P w=.ok (.tuple #[.agg cs,.agg cs']) w:=by
 have e1:tmps[p]?.getD undef=.pointer (some ⟨g,0,none⟩):=by simpa using hp
 have e2:tmps[q]?.getD undef=.pointer (some ⟨g',0,none⟩):=by simpa using hp'
 simp [results,h,e1,e2,asAddr,run_loadVar_row w g t ty cs fr d hg hu hd hi,run_loadVar_row w g' t' uy cs' fr' d' hg' hu' hd' hi']
theorem Tryz.infFlt:(Tryz.prog.info? 28).map (·.size)=some 4:=by kernel_rfl
structure PlS (W:World)(T N:Nat)(u:World):Prop where
 size:N≤u.heap.size
 same:∀ q,q<N→q≠T→q≠T+1→u.heap[q]?=W.heap[q]?
 b0:∃ cs,cs.size=12∧u.heap[T]?=some (.cells cs 37 (0,0))
 b1:∃ cs,cs.size=4∧u.heap[T+1]?=some (.cells cs 28 (0,0))
 os:u.os=W.os
 tape:u.tape=W.tape
 output:u.output=W.output
structure PlR (W:World)(T N:Nat)(arr fv:Array Value)(u u':World):Prop where
 s:PlS W T N u'
 r0:u'.heap[T]?=u.heap[T]?∨u'.heap[T]?=some (.cells arr 37 (0,0))
 r1:u'.heap[T+1]?=u.heap[T+1]?∨u'.heap[T+1]?=some (.cells fv 28 (0,0))
def OkL (arr fv:Array Value)(ev:Value)(T:Nat)(i:Nat)(v:Value)(u:World):Prop :=
 match i with
 | 0=>v=.agg arr
 | 1=>v=ev
 | 2=>v=.agg fv
 | 3=>u.heap[T]?=some (.cells arr 37 (0,0))
 | 4=>u.heap[T+1]?=some (.cells fv 28 (0,0))
 | _=>True
theorem OkL.stab {W:World}{N:Nat}(arr fv:Array Value)(ev:Value)(T:Nat)(i:Nat)(v:Value)(u u':World)(h:OkL arr fv ev T i v u)(hr:PlR W T N arr fv u u'):OkL arr fv ev T i v u':=by
 unfold OkL at *;split at h
 ·
  exact h
 ·
  exact h
 ·
  exact h
 ·
  exact hr.r0.elim (fun e=>e.trans h) id
 ·
  exact hr.r1.elim (fun e=>e.trans h) id
 ·
  trivial
theorem PlS.same_refl {W:World}{T N:Nat}{arr fv:Array Value}{u:World}(h:PlS W T N u):PlR W T N arr fv u u:=⟨h,Or.inl rfl,Or.inl rfl⟩
theorem Zhk (s:ByteArray)(w:World)(hU:U8 w)(hI:Itm w)(Post:Array Value→Array Value→World→Prop)(G:Array Value→Value→Array Value→World→Prop)
 (hcall:∀ w0,U8 w0→Itm w0→Below w.heap.size w w0→w0.heap.size=w.heap.size+2→Calls Tryz.prog 22 #[.string s] w0 fun e w1=>Below w0.heap.size w0 w1∧∃ arr ev fv,e=.returned (.tuple #[.agg arr,ev])∧(arr.size=12∧arr.all (·.oneCell')=true)∧(fv.size=4∧fv.all (·.oneCell')=true)∧G arr ev fv w1)
 (hfault:∀ arr ev fv w1 u,G arr ev fv w1→Below w.heap.size w w1→(∀ q,q<w1.heap.size→q≠w.heap.size→q≠w.heap.size+1→u.heap[q]?=w1.heap[q]?)→Calls Tryz.prog 19 #[ev] u fun e u'=>e=.returned (.agg fv)∧Below u.heap.size u u')
 (hpost:∀ arr ev fv w1 u,G arr ev fv w1→Below w.heap.size w u→(∀ q,q<w1.heap.size→q≠w.heap.size→q≠w.heap.size+1→u.heap[q]?=w1.heap[q]?)→u.os=w1.os→u.tape=w1.tape→u.output=w1.output→w1.heap.size≤u.heap.size→Post arr fv u) :
 Calls Tryz.prog 8 #[.string s] w fun e w'=>∃ arr fv,e=.returned (.tuple #[.agg arr,.agg fv])∧Below w.heap.size w w'∧Post arr fv w':=by
 have hit:=hI.lt;have HU:=Ze hU;have HI:=Ze hI;have HC:=Ze hcall;have HFa:=Ze hfault;have HPo:=Ze hpost;clear hU hI hcall hfault hpost;go_enter Tryz.func8,Tryz.ntmps8
 go_wp2_with fail
 have hlow:∀ X Y,Below w.heap.size w ((w.alloc X).alloc Y):=fun X Y=>((Below.refl w.heap.size w).alloc (Nat.le_refl _) X).alloc (by simp) Y;refine(Zb HC _ ((Zb HU).below (hlow _ _) (Zb HU).lt) ((Zb HI).grown (Ya (row:=some w.heap.size) (hlow _ _)) (Nat.ne_of_lt hit)) (hlow _ _) (by simp)).mono ?_;rintro e w1 ⟨hb1,arr,ev,fv,rfl,⟨hA1,hA2⟩,⟨hf1,hf2⟩,hG⟩;have hz1:=hb1.size;simp only [World.size_alloc] at hz1;have HBL:=Ze ((hlow _ _).trans (hb1.mono (by simp; try omega)));have HR0:=Ze ((hb1.block w.heap.size (by simp; try omega)).trans ((Mn _ _ _ (by simp)).trans (heap_alloc_new w _)));have HR1:=Ze ((hb1.block (w.heap.size+1) (by simp)).trans (heap_alloc2_new w _ _));have HG:=Ze hG;clear hb1 hG hlow;go_wp2_with (refine wpList_store_row rfl 37 (.tmp 4) (.tmp 9) rfl w1.heap.size arr rfl rfl 37 _ (heap_alloc_new _ _) (Tryz.infTab.trans (congrArg some hA1.symm)) hA1.symm hA2 ?_; rw [Sv])
 have hS0:PlS (w1.alloc (.cells arr 37)) w.heap.size (w1.heap.size+1) (w1.alloc (.cells arr 37)).drew:=⟨by simp,fun _ _ _ _=>rfl,⟨_,rfl,(Mn _ _ _ (by omega)).trans (Zb HR0)⟩,⟨_,rfl,(Mn _ _ _ (by omega)).trans (Zb HR1)⟩,rfl,rfl,rfl⟩;have hX:(w1.alloc (.cells arr 37)).heap[w1.heap.size]?=some (.cells arr 37 (0,0)):=heap_alloc_new _ _;have hk1:∀ q,q<w1.heap.size→(w1.alloc (.cells arr 37)).heap[q]?=w1.heap[q]?:=fun q hq=>Mn _ _ _ hq;refine Zwf (by kernel_rfl) 11 _ (OkL arr fv ev w.heap.size) (PlS (w1.alloc (.cells arr 37)) w.heap.size (w1.heap.size+1)) (PlR (w1.alloc (.cells arr 37)) w.heap.size (w1.heap.size+1) arr fv) ?hd ?hsz ?hle (fun i v u u' h hr=>OkL.stab arr fv ev w.heap.size i v u u' h hr) (fun u u' _ hr=>hr.s) ?step ?fin hS0;case hd =>
  intro i o ho;have hi:i<5:=(Array.getElem?_eq_some_iff.1 ho).1;match i,hi with
  | 0,_=>obtain rfl:=(Option.some.inj ho).symm; exact⟨Or.inl rfl,rfl⟩
  | 1,_=>obtain rfl:=(Option.some.inj ho).symm; exact⟨Or.inl rfl,rfl⟩
  | 2,_=>obtain rfl:=(Option.some.inj ho).symm; exact⟨Or.inl rfl,rfl⟩
  | 3,_=>obtain rfl:=(Option.some.inj ho).symm; exact⟨Or.inr rfl,rfl⟩
  | 4,_=>obtain rfl:=(Option.some.inj ho).symm; exact⟨Or.inr rfl,rfl⟩
 case hsz =>
  intro i o ho hdo;have hi:i<5:=(Array.getElem?_eq_some_iff.1 ho).1;match i,hi with
  | 0,_=>show 11<14; decide
  | 1,_=>show 12<14; decide
  | 2,_=>show 13<14; decide
  | 3,_=>obtain rfl:=(Option.some.inj ho).symm; cases hdo
  | 4,_=>obtain rfl:=(Option.some.inj ho).symm; cases hdo
 case hle =>
  intro i o ho;have hi:i<5:=(Array.getElem?_eq_some_iff.1 ho).1;match i,hi with
  | 0,_=>obtain rfl:=(Option.some.inj ho).symm; simp
  | 1,_=>obtain rfl:=(Option.some.inj ho).symm; simp
  | 2,_=>obtain rfl:=(Option.some.inj ho).symm; simp
  | 3,_=>obtain rfl:=(Option.some.inj ho).symm; simp
  | 4,_=>obtain rfl:=(Option.some.inj ho).symm; simp
 case step =>
  intro i o ho a u hS hfr hdp;have hi:i<5:=(Array.getElem?_eq_some_iff.1 ho).1;match i,hi with
  | 0,_ =>
   obtain rfl:=(Option.some.inj ho).symm;have f0:a.eval (.tmp 4)=.pointer (some ⟨w1.heap.size,0,none⟩):=hfr 4 (by omega);exact wp_load_row 37 (.tmp 4) rfl w1.heap.size f0 37 arr (0,0) _ ((hS.same w1.heap.size (by omega) (by omega) (by omega)).trans hX) Tryz.underlying37 rfl (Tryz.infTab.trans (congrArg some hA1.symm)) ⟨_,rfl,hS.same_refl,rfl⟩
  | 1,_ =>
   obtain rfl:=(Option.some.inj ho).symm;have f0:a.eval (.tmp 5)=ev:=hfr 5 (by omega);refine Yz (F:=fun v w'=>_∧_) (v:=ev) (w':=u) ?_ ⟨hS.same_refl,rfl⟩;rw [← f0];rfl
  | 2,_ =>
   obtain rfl:=(Option.some.inj ho).symm;have f0:a.eval (.tmp 12)=ev:=hdp ⟨1,.data⟩ (by simp) rfl ⟨_,rfl,rfl⟩;refine Zhj (F:=fun v w'=>_∧_) (f:=19) (args:=#[ev]) (w1:=u) ?_ ((Zb HFa arr ev fv w1 u (Zb HG) (Zb HBL) (fun q hq h1 h2=>(hS.same q (by omega) h1 h2).trans (hk1 q hq))).mono ?_)
   ·
    clear hdp hfr ho;simp [execOp,go_sem];simpa [Act.eval] using f0
   ·
    rintro e u' ⟨rfl,hb⟩;obtain⟨c0,k0,l0⟩:=hS.b0;obtain⟨c1,k1,l1⟩:=hS.b1;have hz:=hS.size;exact⟨_,rfl,⟨⟨Nat.le_trans hz hb.size,fun q hq h1 h2=>(hb.block q (by omega)).trans (hS.same q hq h1 h2),⟨c0,k0,(hb.block _ (by omega)).trans l0⟩,⟨c1,k1,(hb.block _ (by omega)).trans l1⟩,hb.os.trans hS.os,hb.tape.trans hS.tape,hb.output.trans hS.output⟩,Or.inl (hb.block _ (by omega)),Or.inl (hb.block _ (by omega))⟩,rfl⟩
  | 3,_ =>
   obtain rfl:=(Option.some.inj ho).symm;have f0:a.eval (.tmp 2)=.pointer (some ⟨w.heap.size,0,none⟩):=hfr 2 (by omega);have f1:a.eval (.tmp 11)=.agg arr:=hdp ⟨0,.data⟩ (by simp) rfl ⟨_,rfl,rfl⟩;obtain⟨c0,k0,l0⟩:=hS.b0;obtain⟨c1,k1,l1⟩:=hS.b1;exact wp_store_row 37 (.tmp 2) (.tmp 11) rfl w.heap.size arr f0 f1 37 c0 l0 (Tryz.infTab.trans (congrArg some hA1.symm)) (k0.trans hA1.symm) hA2 ⟨_,rfl,⟨⟨by simpa using hS.size,fun q hq h1 h2=>(setRow_other _ _ _ _ h1).trans (hS.same q hq h1 h2),⟨arr,hA1,setRow_heap _ _ _ _ _ _ l0⟩,⟨c1,k1,(setRow_other _ _ _ _ (by omega)).trans l1⟩,hS.os,hS.tape,hS.output⟩,Or.inr (setRow_heap _ _ _ _ _ _ l0),Or.inl (setRow_other _ _ _ _ (by omega))⟩,setRow_heap _ _ _ _ _ _ l0⟩
  | 4,_ =>
   obtain rfl:=(Option.some.inj ho).symm;have f0:a.eval (.tmp 3)=.pointer (some ⟨w.heap.size+1,0,none⟩):=hfr 3 (by omega);have f1:a.eval (.tmp 13)=.agg fv:=hdp ⟨2,.data⟩ (by simp) rfl ⟨_,rfl,rfl⟩;obtain⟨c0,k0,l0⟩:=hS.b0;obtain⟨c1,k1,l1⟩:=hS.b1;exact wp_store_row 28 (.tmp 3) (.tmp 13) rfl (w.heap.size+1) fv f0 f1 28 c1 l1 (Tryz.infFlt.trans (congrArg some hf1.symm)) (k1.trans hf1.symm) hf2 ⟨_,rfl,⟨⟨by simpa using hS.size,fun q hq h1 h2=>(setRow_other _ _ _ _ h2).trans (hS.same q hq h1 h2),⟨c0,k0,(setRow_other _ _ _ _ (by omega)).trans l0⟩,⟨fv,hf1,setRow_heap _ _ _ _ _ _ l1⟩,hS.os,hS.tape,hS.output⟩,Or.inl (setRow_other _ _ _ _ (by omega)),Or.inr (setRow_heap _ _ _ _ _ _ l1)⟩,setRow_heap _ _ _ _ _ _ l1⟩
 case fin =>
  intro a u hS hdf hts hout hok hno;have h0:u.heap[w.heap.size]?=some (.cells arr 37 (0,0)):=(hno 3 _ rfl rfl).2.elim fun _ h=>h;have h1:u.heap[w.heap.size+1]?=some (.cells fv 28 (0,0)):=(hno 4 _ rfl rfl).2.elim fun _ h=>h;have e2:a.eval (.tmp 2)=.pointer (some ⟨w.heap.size,0,none⟩):=hout 2 (Or.inl (by omega));have e3:a.eval (.tmp 3)=.pointer (some ⟨w.heap.size+1,0,none⟩):=hout 3 (Or.inl (by omega));have hbu:Below w.heap.size w u:=((Zb HBL).trans (((Below.refl w1.heap.size w1).alloc (Nat.le_refl _) _).mono (by omega))).trans ⟨hS.os,hS.tape,hS.output,by have:=hS.size; simp; omega,fun q hq=>hS.same q (by omega) (by omega) (by omega)⟩;have hpo:=Zb HPo arr ev fv w1 u (Zb HG) hbu (fun q hq k1 k2=>(hS.same q (by omega) k1 k2).trans (hk1 q hq)) hS.os hS.tape hS.output (by have:=hS.size; omega);clear hok hno hout;go_wp2;refine bodyPost_ret (Kb (fn:=Tryz.f8) (p:=2) (q:=3) (ty:=37) (uy:=28) rfl _ _ w.heap.size 37 arr (0,0) _ ?g0 h0 Tryz.underlying37 rfl (Tryz.infTab.trans (congrArg some hA1.symm)) (w.heap.size+1) 28 fv (0,0) _ ?g1 h1 Tryz.underlying28 rfl (Tryz.infFlt.trans (congrArg some hf1.symm))) hdf ?_;case g0=>simpa [Act.eval] using e2
  case g1=>simpa [Act.eval] using e3
  exact⟨arr,fv,rfl,hbu,hpo⟩
def Yao (s:ByteArray)(w:World)(e:Ending)(w':World):Prop :=
 Below w.heap.size w w'∧match Jt s with
  | .inl (n,p)=>e=.returned (.tuple #[Zan,Iw n (-1) (-1) p])
  | .inr S=>∃ v4 v5 v6,e=.returned (.tuple #[Zex S v4 v5 v6,Iw 0 (-1) (-1) (-1)])∧w'.ownsRow w.heap.size 3 1 v4 (S.vals 4).length (Jo (S.vals 4))∧w'.ownsRow w.heap.size 3 1 v5 (S.vals 5).length (Jo (S.vals 5))∧w'.ownsRow w.heap.size 3 1 v6 (S.vals 6).length (Jo (S.vals 6))∧Zbo v4 v5 v6
theorem Zak {w u:World}{B n:Nat}{v:Value}{xs:List Value}(h:w.ownsRow B 3 1 v n xs)(hs:∀ q,B≤q→q<w.heap.size→u.heap[q]?=w.heap[q]?):u.ownsRow B 3 1 v n xs:=by
 refine⟨h.1,?_⟩;rcases h.2 with h' | ⟨g,cap,cur,h1,h2,h3,h4⟩
 ·
  exact Or.inl h'
 ·
  exact Or.inr ⟨g,cap,cur,h1,h2,(hs g h2 (by
   rcases Nat.lt_or_ge g w.heap.size with x | x
   ·
    exact x
   ·
    simp [Array.getElem?_eq_none x] at h3)).trans h3,h4⟩
theorem Zfv (s:ByteArray)(w:World)(hU:U8 w)(hI:Itm w)(hE:Xj w):Calls Tryz.prog 8 #[.string s] w (Yao s w):=by
 have h0:=Jx hE;have key:=Zhk s w hU hI
  (fun arr fv u=>match Jt s with
   | .inl (n,p)=>.agg arr=Zan∧.agg fv=Iw n (-1) (-1) p
   | .inr S=>∃ v4 v5 v6,.agg arr=Zex S v4 v5 v6∧.agg fv=Iw 0 (-1) (-1) (-1)∧u.ownsRow w.heap.size 3 1 v4 (S.vals 4).length (Jo (S.vals 4))∧u.ownsRow w.heap.size 3 1 v5 (S.vals 5).length (Jo (S.vals 5))∧u.ownsRow w.heap.size 3 1 v6 (S.vals 6).length (Jo (S.vals 6))∧Zbo v4 v5 v6)
  (fun arr ev fv w1=>La s (w.heap.size+2) arr ev w1∧match Jt s with
   | .inl (n,p)=>.agg fv=Iw n (-1) (-1) p
   | .inr S=>.agg fv=Iw 0 (-1) (-1) (-1))
  ?c1 ?c2 ?c3
 ·
  refine key.mono ?_;rintro e w' ⟨arr,fv,rfl,hb,hp⟩;refine⟨hb,?_⟩;split
  ·
   rename_i n p hF;simp only [hF] at hp;rw [hp.1,hp.2]
  ·
   rename_i S hF;simp only [hF] at hp;obtain⟨v4,v5,v6,e1,e2,r⟩:=hp;exact⟨v4,v5,v6,by rw [e1,e2],r⟩
 case c1 =>
  intro w0 hU0 hI0 hb0 hz0;refine(Zwi s w0 hU0 hI0).mono ?_;rintro e w1 ⟨hb1,arr,ev,rfl,hA1,hA2,hM⟩;rw [hz0] at hM;refine⟨hb1,?_⟩;cases hF:Jt s with
  | inl r =>
   obtain⟨n,p⟩:=r;exact⟨arr,ev,#[.int .i64 n,.int .i64 (-1),.int .i64 (-1),.int .i64 p],rfl,⟨hA1,hA2⟩,⟨rfl,by simp [Value.oneCell']⟩,hM,rfl⟩
  | inr S =>
   exact⟨arr,ev,#[.int .i64 0,.int .i64 (-1),.int .i64 (-1),.int .i64 (-1)],rfl,⟨hA1,hA2⟩,⟨rfl,by simp [Value.oneCell']⟩,hM,rfl⟩
 case c2 =>
  rintro arr ev fv w1 u ⟨hM,hf⟩ hb1 hs;have hz1:=hb1.size;have hEu:Xj u:=(World.cell?_of_block (hs 0 (by omega) (by omega) (by omega))).trans (hE.below hb1 h0);unfold La at hM;cases hF:Jt s with
  | inl r =>
   obtain⟨n,p⟩:=r;simp only [hF] at hM hf;obtain⟨_,q,rfl,hq,hB⟩:=hM;have e:=hs q (Jx hB.c0) (by omega) (by omega);rw [hf];exact Zbb n (-1) (-1) p q u hEu ⟨(World.cell?_of_block e).trans hB.c0,(World.cell?_of_block e).trans hB.c1,(World.cell?_of_block e).trans hB.c2,(World.cell?_of_block e).trans hB.c3⟩
  | inr S =>
   simp only [hF] at hM hf;obtain⟨v4,v5,v6,_,rfl,_⟩:=hM;rw [hf];exact Uy u
 case c3 =>
  rintro arr ev fv w1 u ⟨hM,hf⟩ hbu hs _ _ _ hzu;unfold La at hM;cases hF:Jt s with
  | inl r =>
   obtain⟨n,p⟩:=r;simp only [hF] at hM hf ⊢;exact⟨hM.1,hf⟩
  | inr S =>
   simp only [hF] at hM hf ⊢;obtain⟨v4,v5,v6,e1,_,r4,r5,r6,ap⟩:=hM;have k:=fun{n v xs} (r:w1.ownsRow (w.heap.size+2) 3 1 v n xs)=>Gy (Zak (u:=u) r (fun q h1 h2=>hs q h2 (by omega) (by omega))) (show w.heap.size≤w.heap.size+2 by omega);exact⟨v4,v5,v6,e1,hf,k r4,k r5,k r6,ap⟩
set_option maxHeartbeats 4000000
set_option maxRecDepth 100000
theorem Zpf (w:World)(s:ByteArray):Raw (w.alloc (.cells #[.string s,.int .u32 0,.int .i32 0,.int .u32 0,.int .i64 0,.int .i64 0,.int .i64 0,.int .i64 0,.int .i64 0,.slice none 0 0,.slice none 0 0,.slice none 0 0,.int .i64 0,.int .i64 0,.int .i64 0,.bool false] 161)) w.heap.size s :=
 have h:=Xv (heap_alloc_new w (.cells #[.string s,.int .u32 0,.int .i32 0,.int .u32 0,.int .i64 0,.int .i64 0,.int .i64 0,.int .i64 0,.int .i64 0,.slice none 0 0,.slice none 0 0,.slice none 0 0,.int .i64 0,.int .i64 0,.int .i64 0,.bool false] 161));⟨h.1 0,h.1 1,h.1 2,fun j hj=>⟨by
  rw [h.1];match j,hj with
  | 0,_ | 1,_ | 2,_ | 3,_ | 4,_ | 5,_ | 6,_ | 7,_ | 8,_ | 9,_ | 10,_ | 11,_=>rfl,h.2 _⟩,h.2⟩
def Zpg (S:Rg)(w:World)(e:Ending)(w':World):Prop :=
 Below w.heap.size w w'∧∃ arr,e=.returned (.tuple #[.agg arr,.nilIface])∧arr.size=12∧arr.all (·.oneCell')=true∧GT S w.heap.size arr w'
theorem Zrz (S:Rg)(hS:Jt Zoa=.inr S)(w:World)(hU:U8 w)(hI:Itm w):Calls Tryz.prog 36 #[.int .i64 0] w (Zpg S w):=by
 have hit:=hI.lt;have hut:=hU.lt;have HRD:=Ze (fun(X:Obj) =>
  have hb1:Below w.heap.size w (w.alloc X):=(Below.refl w.heap.size w).alloc (Nat.le_refl _) X;have hb:Below w.heap.size w ((w.alloc X).alloc (.cells #[.string Zoa,.int .u32 0,.int .i32 0,.int .u32 0,.int .i64 0,.int .i64 0,.int .i64 0,.int .i64 0,.int .i64 0,.slice none 0 0,.slice none 0 0,.slice none 0 0,.int .i64 0,.int .i64 0,.int .i64 0,.bool false] 161)):=hb1.alloc (by simp) _;have hR:=Zpf (w.alloc X) Zoa;have hsz:(w.alloc X).heap.size=w.heap.size+1:=by simp
  Zvs Zoa S hS (w.heap.size+1) ((w.alloc X).alloc (.cells #[.string Zoa,.int .u32 0,.int .i32 0,.int .u32 0,.int .i64 0,.int .i64 0,.int .i64 0,.int .i64 0,.int .i64 0,.slice none 0 0,.slice none 0 0,.slice none 0 0,.int .i64 0,.int .i64 0,.int .i64 0,.bool false] 161)) (by rw [hsz] at hR; exact hR) (hU.below hb hU.lt) (hI.grown (Ya (row:=some (w.heap.size+1)) hb) (by omega)) (by omega) (by omega))
 have HBB:=Ze (fun(X Y:Obj)=>((Below.refl w.heap.size w).alloc (Nat.le_refl _) X).alloc (by simp) Y);clear hU hI hS;go_enter Tryz.func36,Tryz.ntmps36
 go_wp2_with fail
 refine(Zb HRD _).mono ?_;rintro e w1 ⟨arr,rfl,a1,a2,hG,hgb⟩;have hz:=hgb.size;simp only [World.size_alloc] at hz;have HR:=Ze ((hgb.block w.heap.size (by simp; omega) (by simp)).trans ((Mn _ _ _ (by simp)).trans (heap_alloc_new w _)));have HG:=Ze ((hG.kept (Nh w1 w.heap.size arr) (by simp; omega)).mono (B0:=w.heap.size) (by simp; omega));have HB:=Ze (show Below w.heap.size w w1 from(Zb HBB _ _).trans ⟨hgb.os,hgb.tape,hgb.output,hgb.size,fun q hq=>hgb.block q (by simp; omega) (by simp; omega)⟩);clear hG hgb;go_wp2_with (refine wpList_store_row rfl 37 (.tmp 2) (.tmp 9) rfl w.heap.size arr rfl rfl 37 _ (Zb HR) (Tryz.infTab.trans (congrArg some a1.symm)) a1.symm a2 ?_)
 refine bodyPost_ret (Xx (fn:=Tryz.f36) (p:=2) (u:=3) (ty:=37) rfl _ _ w.heap.size 37 arr (0,0) _ rfl (setRow_heap _ _ _ _ _ _ (Zb HR)) Tryz.underlying37 rfl (Tryz.infTab.trans (congrArg some a1.symm))) rfl ?_;exact⟨below_setRow (Zb HB) (Nat.le_refl _) _,arr,rfl,a1,a2,Zb HG⟩
theorem Zsa (S:Rg)(hS:Jt Zob=.inr S)(w:World)(hU:U8 w)(hI:Itm w):Calls Tryz.prog 36 #[.int .i64 1] w (Zpg S w):=by
 have hit:=hI.lt;have hut:=hU.lt;have HRD:=Ze (fun(X:Obj) =>
  have hb1:Below w.heap.size w (w.alloc X):=(Below.refl w.heap.size w).alloc (Nat.le_refl _) X;have hb:Below w.heap.size w ((w.alloc X).alloc (.cells #[.string Zob,.int .u32 0,.int .i32 0,.int .u32 0,.int .i64 0,.int .i64 0,.int .i64 0,.int .i64 0,.int .i64 0,.slice none 0 0,.slice none 0 0,.slice none 0 0,.int .i64 0,.int .i64 0,.int .i64 0,.bool false] 161)):=hb1.alloc (by simp) _;have hR:=Zpf (w.alloc X) Zob;have hsz:(w.alloc X).heap.size=w.heap.size+1:=by simp
  Zvs Zob S hS (w.heap.size+1) ((w.alloc X).alloc (.cells #[.string Zob,.int .u32 0,.int .i32 0,.int .u32 0,.int .i64 0,.int .i64 0,.int .i64 0,.int .i64 0,.int .i64 0,.slice none 0 0,.slice none 0 0,.slice none 0 0,.int .i64 0,.int .i64 0,.int .i64 0,.bool false] 161)) (by rw [hsz] at hR; exact hR) (hU.below hb hU.lt) (hI.grown (Ya (row:=some (w.heap.size+1)) hb) (by omega)) (by omega) (by omega))
 have HBB:=Ze (fun(X Y:Obj)=>((Below.refl w.heap.size w).alloc (Nat.le_refl _) X).alloc (by simp) Y);clear hU hI hS;go_enter Tryz.func36,Tryz.ntmps36
 go_wp2_with fail
 refine(Zb HRD _).mono ?_;rintro e w1 ⟨arr,rfl,a1,a2,hG,hgb⟩;have hz:=hgb.size;simp only [World.size_alloc] at hz;have HR:=Ze ((hgb.block w.heap.size (by simp; omega) (by simp)).trans ((Mn _ _ _ (by simp)).trans (heap_alloc_new w _)));have HG:=Ze ((hG.kept (Nh w1 w.heap.size arr) (by simp; omega)).mono (B0:=w.heap.size) (by simp; omega));have HB:=Ze (show Below w.heap.size w w1 from(Zb HBB _ _).trans ⟨hgb.os,hgb.tape,hgb.output,hgb.size,fun q hq=>hgb.block q (by simp; omega) (by simp; omega)⟩);clear hG hgb;go_wp2_with (refine wpList_store_row rfl 37 (.tmp 2) (.tmp 14) rfl w.heap.size arr rfl rfl 37 _ (Zb HR) (Tryz.infTab.trans (congrArg some a1.symm)) a1.symm a2 ?_)
 refine bodyPost_ret (Xx (fn:=Tryz.f36) (p:=2) (u:=3) (ty:=37) rfl _ _ w.heap.size 37 arr (0,0) _ rfl (setRow_heap _ _ _ _ _ _ (Zb HR)) Tryz.underlying37 rfl (Tryz.infTab.trans (congrArg some a1.symm))) rfl ?_;exact⟨below_setRow (Zb HB) (Nat.le_refl _) _,arr,rfl,a1,a2,Zb HG⟩
theorem Zni (k:Int)(hk:k≠0∧k≠1)(w:World):Calls Tryz.prog 36 #[.int .i64 k] w fun e w'=>e=.returned (.tuple #[Zan,.iface 111 (.int .i64 6)])∧Below w.heap.size w w':=by
 have k0:(k==0)=false:=by simpa using hk.1
 have k1:(k==1)=false:=by simpa using hk.2
 have HR:=Ze (heap_alloc_new w (.cells #[.int .i64 0,.int .i64 0,.int .i64 0,.int .i64 0,.int .i64 0,.slice none 0 0,.slice none 0 0,.slice none 0 0,.int .i64 0,.int .i64 0,.int .i64 0,.bool false] 37));have HBL:=Ze ((Below.refl w.heap.size w).alloc (Nat.le_refl _) (.cells #[.int .i64 0,.int .i64 0,.int .i64 0,.int .i64 0,.int .i64 0,.slice none 0 0,.slice none 0 0,.slice none 0 0,.int .i64 0,.int .i64 0,.int .i64 0,.bool false] 37));go_enter Tryz.func36,Tryz.ntmps36
 go_wp2_with (refine wpList_store_row rfl 37 (.tmp 2) (.tmp 15) rfl w.heap.size #[.int .i64 0,.int .i64 0,.int .i64 0,.int .i64 0,.int .i64 0,.slice none 0 0,.slice none 0 0,.slice none 0 0,.int .i64 0,.int .i64 0,.int .i64 0,.bool false] rfl rfl 37 _ (Zb HR) Tryz.infTab rfl (by simp [Value.oneCell']) ?_)
 refine bodyPost_ret (Xx (fn:=Tryz.f36) (p:=2) (u:=3) (ty:=37) rfl _ _ w.heap.size 37 #[.int .i64 0,.int .i64 0,.int .i64 0,.int .i64 0,.int .i64 0,.slice none 0 0,.slice none 0 0,.slice none 0 0,.int .i64 0,.int .i64 0,.int .i64 0,.bool false] (0,0) _ rfl (setRow_heap _ _ _ _ _ _ (Zb HR)) Tryz.underlying37 rfl Tryz.infTab) rfl ?_;exact⟨rfl,below_setRow (Zb HBL) (Nat.le_refl _) _⟩
end Go.Proofs.YtedemloocadimaaGreatDoor
