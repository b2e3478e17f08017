import Derived.Test.YtkenknfgeoecbaaGreatDoorJ4
import Derived.Test.YtkenknfgeoecbaaGreatDoorTblTxt
import Derived.Deep.CutRange
import Derived.Test.YtkenknfgeoecbaaGreatDoorTie
namespace Go.Proofs.YtkenknfgeoecbaaGreatDoor
open Go.RowKit
set_option maxHeartbeats 4000000
set_option maxRecDepth 100000
theorem Zoy (w:World)(r:Option Nat):w.grownBy w.drew r:=⟨rfl,rfl,rfl,Nat.le_refl _,fun _ _ _=>rfl⟩
theorem GT.mono {S:Uy}{B B0:Nat}{arr:Array Value}{u:World}(h:GT S B arr u)(hB:B0<=B):GT S B0 arr u:=by obtain⟨v4,v5,v6,h1,h2,h3,h4,h5⟩:=h;exact⟨v4,v5,v6,h1,Jc h2 hB,Jc h3 hB,Jc h4 hB,h5⟩
structure Raw (w:World)(b:Nat)(s:ByteArray):Prop where
 c0:w.cell? ⟨b,0,none⟩=some (.string s)
 c1:w.cell? ⟨b,1,none⟩=some (.int .u32 0)
 c2:w.cell? ⟨b,2,none⟩=some (.int .i32 0)
 th:w.there b 4 12
 fz:∀ j,w.frozen? ⟨b,j,none⟩=false
theorem Raw.lt {w:World}{b:Nat}{s:ByteArray}(h:Raw w b s):b<w.heap.size:=World.block_lt_of_cell? w _ h.c0
theorem Raw.below {w w':World}{b:Nat}{s:ByteArray}(h:Raw w b s)(hb:Below w.heap.size w w'):Raw w' b s :=
 have e:∀ j,w'.cell? ⟨b,j,none⟩=w.cell? ⟨b,j,none⟩:=fun j=>hb.cell (p:=⟨b,j,none⟩) h.lt;have f:∀ j,w'.frozen? ⟨b,j,none⟩=w.frozen? ⟨b,j,none⟩:=fun j=>World.frozen?_of_block (a:=⟨b,j,none⟩) (hb.block b h.lt);⟨(e 0).trans h.c0,(e 1).trans h.c1,(e 2).trans h.c2,fun j hj=>⟨by rw [e]; exact(h.th j hj).1,by rw [f]; exact(h.th j hj).2⟩,fun j=>(f j).trans (h.fz j)⟩
structure Yhz (w:World)(b:Nat)(S:Uy)(u:World):Prop where
 grow:w.grownBy u (some b)
 r:∃ arr,arr.size=12∧arr.all (·.oneCell')=true∧u.rangeAt b 4 arr.toList∧GT S w.heap.size arr u
theorem Yia (s:ByteArray)(S:Uy)(hS:Xo s=.inr S)(b:Nat)(pl:Addr)(w:World)(hR:Raw w b s)(hpb:pl.block≠b)(hU:U8 w)(hI:Itm w)(hg1:1≠b)(hg2:3<b∧4<b)(hp:w.cell? pl=some (.pointer (some ⟨b,0,none⟩))) :
 Calls Tryz.prog 105 #[.pointer (some ⟨b,1,none⟩),.func (.func 106) #[] #[.pointer (some pl)]] w fun e w'=>e=.returned (.tuple #[])∧Yhz w b S w':=by
 have hlt:=hR.lt;have hgs:=Nz w b 2 (.int .i32 1);have ho:∀ j,j≠2->(w.setCell ⟨b,2,none⟩ (.int .i32 1)).cell? ⟨b,j,none⟩=w.cell? ⟨b,j,none⟩:=fun j hj=>World.cell?_setCell_other _ _ _ _ (by first | (simp; done) | (simp; omega));have hfr:∀ j,(w.setCell ⟨b,2,none⟩ (.int .i32 1)).frozen? ⟨b,j,none⟩=false:=fun j=>by rw [World.frozen?_setCell]; exact hR.fz j
 have hlow:Below b w (w.setCell ⟨b,2,none⟩ (.int .i32 1)):=⟨hgs.os,hgs.tape,hgs.output,hgs.size,fun q hq=>hgs.block q (by omega) (by first | (simp; done) | (simp; omega))⟩;have hsz:(w.setCell ⟨b,2,none⟩ (.int .i32 1)).heap.size=w.heap.size:=by simp
 have key:=Yat s S hS b pl (w.setCell ⟨b,2,none⟩ (.int .i32 1)) (by rw [hsz]; exact hlt) hpb (hU.below hlow hg2) (hI.grown hgs hg1) hg1 hg2
  ((World.cell?_setCell_other _ _ _ _ (fun e=>hpb (by first | exact(congrArg Addr.block e) | exact(congrArg Addr.block e).symm))).trans hp) ((ho 0 (by omega)).trans hR.c0) (fun j hj=>⟨by rw [ho _ (by omega)]; exact(hR.th j hj).1,hfr _⟩) hfr
 refine(Yeu b pl w (fun u=>Rd1 (w.setCell ⟨b,2,none⟩ (.int .i32 1)) b S u) hR.c1 hR.c2 (hR.fz 2) (key.mono ?_)).mono ?_
 ·rintro e u ⟨rfl,h⟩;exact⟨rfl,(h.s.hd 1 (by omega)).trans ((ho 1 (by omega)).trans hR.c1),(h.s.hd 2 (by omega)).trans (World.cell?_setCell_same _ _ _ hR.c2),h.s.fz 1,h.s.fz 2,h⟩
 ·rintro e w' ⟨rfl,u,h,rfl⟩;refine⟨rfl,?_,?_⟩
  ·exact Yj (Yj (Yj hgs h.s.grow) (Yj (Zoy u _) (Nz u.drew b 1 _))) (Nz _ b 2 _)
  ·obtain⟨arr,a1,a2,a3,a4⟩:=h.r;refine⟨arr,a1,a2,fun j v hv=>?_,?_⟩
   ·rw [World.cell?_setCell_other _ _ _ _ (by simp),World.cell?_setCell_other _ _ _ _ (by simp),World.cell?_drew];exact a3 j v hv
   ·rw [hsz] at a4;exact(a4.kept (Yj (Zoy u _) (Nz u.drew b 1 (.int .u32 1))) hlt).kept (Nz _ b 2 _) hlt
theorem Zvq (s:ByteArray)(S:Uy)(hS:Xo s=.inr S)(b:Nat)(w:World)(hR:Raw w b s)(hU:U8 w)(hI:Itm w)(hg1:1≠b)(hg2:3<b∧4<b) :
 Calls Tryz.prog 65 #[.pointer (some ⟨b,0,none⟩)] w fun e w'=>∃ arr,e=.returned (.agg arr)∧arr.size=12∧arr.all (·.oneCell')=true∧GT S w.heap.size arr w'∧w.grownBy w' (some b):=by
 have hlt:=hR.lt;have HDO:=Ze (fun(X Y:Obj) (hp:((w.alloc X).alloc Y).cell? ⟨w.heap.size,0,none⟩=some (.pointer (some ⟨b,0,none⟩)))=>have hb:Below w.heap.size w ((w.alloc X).alloc Y):=((Below.refl w.heap.size w).alloc (Nat.le_refl _) X).alloc (by simp) Y;Yia s S hS b ⟨w.heap.size,0,none⟩ ((w.alloc X).alloc Y) (hR.below hb) (Nat.ne_of_gt hlt) (hU.below hb hU.lt) (hI.grown (Zo (row:=some b) hb) hg1) hg1 hg2 hp)
 have HLW:=Ze (fun(X Y:Obj)=>((Below.refl w.heap.size w).alloc (Nat.le_refl _) X).alloc (by simp) Y);clear hR hU hI hS;go_enter Tryz.func65,Tryz.ntmps65
 go_wp2_with fail
 refine(Zb HDO _ _ (by rw [World.cell?_alloc_lt _ _ ⟨w.heap.size,0,none⟩ (by simp),World.cell?_alloc_at _ _ _ _ rfl]; rfl)).mono ?_;rintro e w1 ⟨rfl,hO⟩;obtain⟨arr,a1,a2,a3,a4⟩:=hO.r;have hz:=hO.grow.size;simp only [World.size_alloc] at hz;have cp:w1.cell? ⟨w.heap.size,0,none⟩=some (.pointer (some ⟨b,0,none⟩)):=(World.cell?_of_block (hO.grow.block w.heap.size (by simp; omega) (by simp; omega))).trans (by rw [World.cell?_alloc_lt _ _ ⟨w.heap.size,0,none⟩ (by simp),World.cell?_alloc_at _ _ _ _ rfl]; rfl);have HRow:=Ze ((hO.grow.block (w.heap.size+1) (by simp) (by simp; omega)).trans (heap_alloc2_new w _ _));have HG:=Ze ((a4.kept (Lj w1 (w.heap.size+1) arr) (by simp)).mono (B0:=w.heap.size) (by simp; omega));have HGB:=Ze (Zpn (Yj (Zo (Zb HLW _ _)) hO.grow) (Lj w1 (w.heap.size+1) arr) (fun q hq=>by injection hq with hq; omega));have HA3:=Ze a3;clear hO a3 a4;go_wp2_with (first | (refine wpList_load_mid rfl 25 (.tmp 10) rfl b 4 rfl arr.toList _ (Zb HA3) Tryz.underlying25 rfl (Tryz.infTab.trans (congrArg some (by simp [a1]))) ?_; simp only [Array.toArray_toList]) | refine wpList_store_row rfl 25 (.tmp 2) (.tmp 11) rfl (w.heap.size+1) arr rfl rfl 25 _ (Zb HRow) (Tryz.infTab.trans (congrArg some a1.symm)) a1.symm a2 ?_)
 refine bodyPost_ret (results_cell_row (fn:=Tryz.f65) (p:=2) (ty:=25) rfl _ _ (w.heap.size+1) 25 arr (0,0) _ rfl (setRow_heap _ _ _ _ _ _ (Zb HRow)) Tryz.underlying25 rfl (Tryz.infTab.trans (congrArg some a1.symm))) rfl ?_;exact⟨arr,rfl,a1,a2,Zb HG,Zb HGB⟩
set_option maxHeartbeats 8000000
set_option maxRecDepth 100000
theorem Zwu (s:ByteArray)(w:World)(hU:U8 w)(hI:Itm w):Calls Tryz.prog 30 #[.string s] w (Zpq s w):=by
 have hit:=hI.lt;have HU:=Ze hU;have HI:=Ze hI;clear hU hI;go_enter Tryz.func30,Tryz.ntmps30
 go_wp2_with fail
 have hlow:=fun X=>(Below.refl w.heap.size w).alloc (Nat.le_refl _) X;refine(Zks s _ ((Zb HU).below (hlow _) (Zb HU).lt) ((Zb HI).grown (Zo (row:=some w.heap.size) (hlow _)) (Nat.ne_of_lt hit))).mono ?_;rintro e w1 ⟨hb1,arr,ev,rfl,hA1,hA2,hM⟩;have HBL:=Ze ((hlow _).trans (hb1.mono (by simp)));have HR:=Ze ((hb1.block w.heap.size (by simp)).trans (heap_alloc_new w _));have HM:=Ze hM;clear hb1 hM hlow;go_wp2_with (refine wpList_store_row rfl 25 (.tmp 2) (.tmp 6) rfl w.heap.size arr rfl rfl 25 _ (Zb HR) (Tryz.infTab.trans (congrArg some hA1.symm)) hA1.symm hA2 ?_)
 refine bodyPost_ret (Ym (fn:=Tryz.f30) (p:=2) (u:=3) (ty:=25) rfl _ _ w.heap.size 25 arr (0,0) _ rfl (setRow_heap _ _ _ _ _ _ (Zb HR)) Tryz.underlying25 rfl (Tryz.infTab.trans (congrArg some hA1.symm))) rfl ?_;exact⟨below_setRow (Zb HBL) (Nat.le_refl _) _,arr,ev,rfl,hA1,hA2,((Zb HM).setRow (by simp) _).mono (by simp)⟩
theorem Sa {P:Program}{fn:Func}{p q:Tmp}{ty uy:TypeId}(h:fn.results=#[.cell p ty,.cell q uy])(tmps:Array Value)(w:World)(g:Nat)(t:TypeId)(cs:Array Value)(fr:Nat×Nat)(d:TypeDesc)
 (hp:tmps.getD p undef=.pointer (some ⟨g,0,none⟩)) (hg:w.heap[g]?=some (.cells cs t fr)) (hu:P.underlying ty=some d) (hd:(match d with | .struct _ | .array _ _=>true | _=>false)=true) (hi:(P.info? ty).map (·.size)=some cs.size)
 (g':Nat) (t':TypeId) (cs':Array Value) (fr':Nat×Nat) (d':TypeDesc)
 (hp':tmps.getD q undef=.pointer (some ⟨g',0,none⟩)) (hg':w.heap[g']?=some (.cells cs' t' fr')) (hu':P.underlying uy=some d') (hd':(match d' with | .struct _ | .array _ _=>true | _=>false)=true) (hi':(P.info? uy).map (·.size)=some cs'.size) :
 (results fn tmps).run P w=.ok (.tuple #[.agg cs,.agg cs']) w:=by
 have e1:tmps[p]?.getD undef=.pointer (some ⟨g,0,none⟩):=by simpa using hp
 have e2:tmps[q]?.getD undef=.pointer (some ⟨g',0,none⟩):=by simpa using hp'
 simp [results,h,e1,e2,asAddr,run_loadVar_row w g t ty cs fr d hg hu hd hi,run_loadVar_row w g' t' uy cs' fr' d' hg' hu' hd' hi']
theorem Tryz.infFlt:(Tryz.prog.info? 29).map (·.size)=some 4:=by kernel_rfl
structure PlS (W:World)(T N:Nat)(u:World):Prop where
 size:N<=u.heap.size
 same:∀ q,q<N->q≠T->q≠T+1->u.heap[q]?=W.heap[q]?
 b0:∃ cs,cs.size=12∧u.heap[T]?=some (.cells cs 25 (0,0))
 b1:∃ cs,cs.size=4∧u.heap[T+1]?=some (.cells cs 29 (0,0))
 os:u.os=W.os
 tape:u.tape=W.tape
 output:u.output=W.output
structure PlR (W:World)(T N:Nat)(arr fv:Array Value)(u u':World):Prop where
 s:PlS W T N u'
 r0:u'.heap[T]?=u.heap[T]?∨u'.heap[T]?=some (.cells arr 25 (0,0))
 r1:u'.heap[T+1]?=u.heap[T+1]?∨u'.heap[T+1]?=some (.cells fv 29 (0,0))
def OkL (arr fv:Array Value)(ev:Value)(T:Nat)(i:Nat)(v:Value)(u:World):Prop :=
 match i with
 | 0=>v=.agg arr
 | 1=>v=ev
 | 2=>v=.agg fv
 | 3=>u.heap[T]?=some (.cells arr 25 (0,0))
 | 4=>u.heap[T+1]?=some (.cells fv 29 (0,0))
 | _=>True
theorem OkL.stab {W:World}{N:Nat}(arr fv:Array Value)(ev:Value)(T:Nat)(i:Nat)(v:Value)(u u':World)(h:OkL arr fv ev T i v u)(hr:PlR W T N arr fv u u'):OkL arr fv ev T i v u':=by
 unfold OkL at *;split at h
 ·exact h
 ·exact h
 ·exact h
 ·exact hr.r0.elim (fun e=>e.trans h) id
 ·exact hr.r1.elim (fun e=>e.trans h) id
 ·trivial
theorem PlS.same_refl {W:World}{T N:Nat}{arr fv:Array Value}{u:World}(h:PlS W T N u):PlR W T N arr fv u u:=⟨h,Or.inl rfl,Or.inl rfl⟩
theorem Zhq (s:ByteArray)(w:World)(hU:U8 w)(hI:Itm w)(Post:Array Value->Array Value->World->Prop)(G:Array Value->Value->Array Value->World->Prop)
 (hcall:∀ w0,U8 w0->Itm w0->Below w.heap.size w w0->w0.heap.size=w.heap.size+2->Calls Tryz.prog 30 #[.string s] w0 fun e w1=>Below w0.heap.size w0 w1∧∃ arr ev fv,e=.returned (.tuple #[.agg arr,ev])∧(arr.size=12∧arr.all (·.oneCell')=true)∧(fv.size=4∧fv.all (·.oneCell')=true)∧G arr ev fv w1)
 (hfault:∀ arr ev fv w1 u,G arr ev fv w1->Below w.heap.size w w1->(∀ q,q<w1.heap.size->q≠w.heap.size->q≠w.heap.size+1->u.heap[q]?=w1.heap[q]?)->Calls Tryz.prog 26 #[ev] u fun e u'=>e=.returned (.agg fv)∧Below u.heap.size u u')
 (hpost:∀ arr ev fv w1 u,G arr ev fv w1->Below w.heap.size w u->(∀ q,q<w1.heap.size->q≠w.heap.size->q≠w.heap.size+1->u.heap[q]?=w1.heap[q]?)->u.os=w1.os->u.tape=w1.tape->u.output=w1.output->w1.heap.size<=u.heap.size->Post arr fv u) :
 Calls Tryz.prog 16 #[.string s] w fun e w'=>∃ arr fv,e=.returned (.tuple #[.agg arr,.agg fv])∧Below w.heap.size w w'∧Post arr fv w':=by
 have hit:=hI.lt;have HU:=Ze hU;have HI:=Ze hI;have HC:=Ze hcall;have HFa:=Ze hfault;have HPo:=Ze hpost;clear hU hI hcall hfault hpost;go_enter Tryz.func16,Tryz.ntmps16
 go_wp2_with fail
 have hlow:∀ X Y,Below w.heap.size w ((w.alloc X).alloc Y):=fun X Y=>((Below.refl w.heap.size w).alloc (Nat.le_refl _) X).alloc (by simp) Y;refine(Zb HC _ ((Zb HU).below (hlow _ _) (Zb HU).lt) ((Zb HI).grown (Zo (row:=some w.heap.size) (hlow _ _)) (Nat.ne_of_lt hit)) (hlow _ _) (by simp)).mono ?_;rintro e w1 ⟨hb1,arr,ev,fv,rfl,⟨hA1,hA2⟩,⟨hf1,hf2⟩,hG⟩;have hz1:=hb1.size;simp only [World.size_alloc] at hz1;have HBL:=Ze ((hlow _ _).trans (hb1.mono (by simp; try omega)));have HR0:=Ze ((hb1.block w.heap.size (by simp; try omega)).trans ((Gs _ _ _ (by simp)).trans (heap_alloc_new w _)));have HR1:=Ze ((hb1.block (w.heap.size+1) (by simp)).trans (heap_alloc2_new w _ _));have HG:=Ze hG;clear hb1 hG hlow;go_wp2_with (refine wpList_store_row rfl 25 (.tmp 4) (.tmp 9) rfl w1.heap.size arr rfl rfl 25 _ (heap_alloc_new _ _) (Tryz.infTab.trans (congrArg some hA1.symm)) hA1.symm hA2 ?_; rw [Rx])
 have hS0:PlS (w1.alloc (.cells arr 25)) w.heap.size (w1.heap.size+1) (w1.alloc (.cells arr 25)).drew:=⟨by simp,fun _ _ _ _=>rfl,⟨_,rfl,(Gs _ _ _ (by omega)).trans (Zb HR0)⟩,⟨_,rfl,(Gs _ _ _ (by omega)).trans (Zb HR1)⟩,rfl,rfl,rfl⟩;have hX:(w1.alloc (.cells arr 25)).heap[w1.heap.size]?=some (.cells arr 25 (0,0)):=heap_alloc_new _ _;have hk1:∀ q,q<w1.heap.size->(w1.alloc (.cells arr 25)).heap[q]?=w1.heap[q]?:=fun q hq=>Gs _ _ _ hq;refine Zwr (by kernel_rfl) 11 _ (OkL arr fv ev w.heap.size) (PlS (w1.alloc (.cells arr 25)) w.heap.size (w1.heap.size+1)) (PlR (w1.alloc (.cells arr 25)) w.heap.size (w1.heap.size+1) arr fv) ?hd ?hsz ?hle (fun i v u u' h hr=>OkL.stab arr fv ev w.heap.size i v u u' h hr) (fun u u' _ hr=>hr.s) ?step ?fin hS0;case hd =>
  intro i o ho;have hi:i<5:=(Array.getElem?_eq_some_iff.1 ho).1;match i,hi with
  | 0,_=>obtain rfl:=oR ho; exact⟨Or.inl rfl,rfl⟩
  | 1,_=>obtain rfl:=oR ho; exact⟨Or.inl rfl,rfl⟩
  | 2,_=>obtain rfl:=oR ho; exact⟨Or.inl rfl,rfl⟩
  | 3,_=>obtain rfl:=oR ho; exact⟨Or.inr rfl,rfl⟩
  | 4,_=>obtain rfl:=oR ho; exact⟨Or.inr rfl,rfl⟩
 case hsz =>
  intro i o ho hdo;have hi:i<5:=(Array.getElem?_eq_some_iff.1 ho).1;match i,hi with
  | 0,_=>show 11<14; decide
  | 1,_=>show 12<14; decide
  | 2,_=>show 13<14; decide
  | 3,_=>obtain rfl:=oR ho; cases hdo
  | 4,_=>obtain rfl:=oR ho; cases hdo
 case hle =>
  intro i o ho;have hi:i<5:=(Array.getElem?_eq_some_iff.1 ho).1;match i,hi with
  | 0,_=>obtain rfl:=oR ho; simp
  | 1,_=>obtain rfl:=oR ho; simp
  | 2,_=>obtain rfl:=oR ho; simp
  | 3,_=>obtain rfl:=oR ho; simp
  | 4,_=>obtain rfl:=oR ho; simp
 case step =>
  intro i o ho a u hS hfr hdp;have hi:i<5:=(Array.getElem?_eq_some_iff.1 ho).1;match i,hi with
  | 0,_=>obtain rfl:=oR ho;have f0:a.eval (.tmp 4)=.pointer (some ⟨w1.heap.size,0,none⟩):=hfr 4 (by omega);exact wp_load_row 25 (.tmp 4) rfl w1.heap.size f0 25 arr (0,0) _ ((hS.same w1.heap.size (by omega) (by omega) (by omega)).trans hX) Tryz.underlying25 rfl (Tryz.infTab.trans (congrArg some hA1.symm)) ⟨_,rfl,hS.same_refl,rfl⟩
  | 1,_=>obtain rfl:=oR ho;have f0:a.eval (.tmp 5)=ev:=hfr 5 (by omega);refine Ya (F:=fun v w'=>_∧_) (v:=ev) (w':=u) ?_ ⟨hS.same_refl,rfl⟩;rw [← f0];rfl
  | 2,_ =>
   obtain rfl:=oR ho;have f0:a.eval (.tmp 12)=ev:=hdp ⟨1,.data⟩ (by simp) rfl ⟨_,rfl,rfl⟩;refine Zhp (F:=fun v w'=>_∧_) (f:=26) (args:=#[ev]) (w1:=u) ?_ ((Zb HFa arr ev fv w1 u (Zb HG) (Zb HBL) (fun q hq h1 h2=>(hS.same q (by omega) h1 h2).trans (hk1 q hq))).mono ?_)
   ·clear hdp hfr ho;simp [execOp,go_sem];simpa [Act.eval] using f0
   ·rintro e u' ⟨rfl,hb⟩;obtain⟨c0,k0,l0⟩:=hS.b0;obtain⟨c1,k1,l1⟩:=hS.b1;have hz:=hS.size;exact⟨_,rfl,⟨⟨Nat.le_trans hz hb.size,fun q hq h1 h2=>(hb.block q (by omega)).trans (hS.same q hq h1 h2),⟨c0,k0,(hb.block _ (by omega)).trans l0⟩,⟨c1,k1,(hb.block _ (by omega)).trans l1⟩,hb.os.trans hS.os,hb.tape.trans hS.tape,hb.output.trans hS.output⟩,Or.inl (hb.block _ (by omega)),Or.inl (hb.block _ (by omega))⟩,rfl⟩
  | 3,_=>obtain rfl:=oR ho;have f0:a.eval (.tmp 2)=.pointer (some ⟨w.heap.size,0,none⟩):=hfr 2 (by omega);have f1:a.eval (.tmp 11)=.agg arr:=hdp ⟨0,.data⟩ (by simp) rfl ⟨_,rfl,rfl⟩;obtain⟨c0,k0,l0⟩:=hS.b0;obtain⟨c1,k1,l1⟩:=hS.b1;exact wp_store_row 25 (.tmp 2) (.tmp 11) rfl w.heap.size arr f0 f1 25 c0 l0 (Tryz.infTab.trans (congrArg some hA1.symm)) (k0.trans hA1.symm) hA2 ⟨_,rfl,⟨⟨by simpa using hS.size,fun q hq h1 h2=>(setRow_other _ _ _ _ h1).trans (hS.same q hq h1 h2),⟨arr,hA1,setRow_heap _ _ _ _ _ _ l0⟩,⟨c1,k1,(setRow_other _ _ _ _ (by omega)).trans l1⟩,hS.os,hS.tape,hS.output⟩,Or.inr (setRow_heap _ _ _ _ _ _ l0),Or.inl (setRow_other _ _ _ _ (by omega))⟩,setRow_heap _ _ _ _ _ _ l0⟩
  | 4,_=>obtain rfl:=oR ho;have f0:a.eval (.tmp 3)=.pointer (some ⟨w.heap.size+1,0,none⟩):=hfr 3 (by omega);have f1:a.eval (.tmp 13)=.agg fv:=hdp ⟨2,.data⟩ (by simp) rfl ⟨_,rfl,rfl⟩;obtain⟨c0,k0,l0⟩:=hS.b0;obtain⟨c1,k1,l1⟩:=hS.b1;exact wp_store_row 29 (.tmp 3) (.tmp 13) rfl (w.heap.size+1) fv f0 f1 29 c1 l1 (Tryz.infFlt.trans (congrArg some hf1.symm)) (k1.trans hf1.symm) hf2 ⟨_,rfl,⟨⟨by simpa using hS.size,fun q hq h1 h2=>(setRow_other _ _ _ _ h2).trans (hS.same q hq h1 h2),⟨c0,k0,(setRow_other _ _ _ _ (by omega)).trans l0⟩,⟨fv,hf1,setRow_heap _ _ _ _ _ _ l1⟩,hS.os,hS.tape,hS.output⟩,Or.inl (setRow_other _ _ _ _ (by omega)),Or.inr (setRow_heap _ _ _ _ _ _ l1)⟩,setRow_heap _ _ _ _ _ _ l1⟩
 case fin =>
  intro a u hS hdf hts hout hok hno;have h0:u.heap[w.heap.size]?=some (.cells arr 25 (0,0)):=(hno 3 _ rfl rfl).2.elim fun _ h=>h;have h1:u.heap[w.heap.size+1]?=some (.cells fv 29 (0,0)):=(hno 4 _ rfl rfl).2.elim fun _ h=>h;have e2:a.eval (.tmp 2)=.pointer (some ⟨w.heap.size,0,none⟩):=hout 2 (Or.inl (by omega));have e3:a.eval (.tmp 3)=.pointer (some ⟨w.heap.size+1,0,none⟩):=hout 3 (Or.inl (by omega));have hbu:Below w.heap.size w u:=((Zb HBL).trans (((Below.refl w1.heap.size w1).alloc (Nat.le_refl _) _).mono (by omega))).trans ⟨hS.os,hS.tape,hS.output,by have:=hS.size; simp; omega,fun q hq=>hS.same q (by omega) (by omega) (by omega)⟩;have hpo:=Zb HPo arr ev fv w1 u (Zb HG) hbu (fun q hq k1 k2=>(hS.same q (by omega) k1 k2).trans (hk1 q hq)) hS.os hS.tape hS.output (by have:=hS.size; omega);clear hok hno hout;go_wp2;refine bodyPost_ret (Sa (fn:=Tryz.f16) (p:=2) (q:=3) (ty:=25) (uy:=29) rfl _ _ w.heap.size 25 arr (0,0) _ ?g0 h0 Tryz.underlying25 rfl (Tryz.infTab.trans (congrArg some hA1.symm)) (w.heap.size+1) 29 fv (0,0) _ ?g1 h1 Tryz.underlying29 rfl (Tryz.infFlt.trans (congrArg some hf1.symm))) hdf ?_;case g0=>simpa [Act.eval] using e2
  case g1=>simpa [Act.eval] using e3
  exact⟨arr,fv,rfl,hbu,hpo⟩
def Ybt (s:ByteArray)(w:World)(e:Ending)(w':World):Prop :=
 Below w.heap.size w w'∧match Xo s with
  | .inl (n,p)=>e=.returned (.tuple #[Zad,Rm n (-1) (-1) p])
  | .inr S=>∃ v4 v5 v6,e=.returned (.tuple #[Zez S v4 v5 v6,Rm 0 (-1) (-1) (-1)])∧w'.ownsRow w.heap.size 3 1 v4 (S.vals 4).length (Yz (S.vals 4))∧w'.ownsRow w.heap.size 3 1 v5 (S.vals 5).length (Yz (S.vals 5))∧w'.ownsRow w.heap.size 3 1 v6 (S.vals 6).length (Yz (S.vals 6))∧Zbf v4 v5 v6
theorem Zab {w u:World}{B n:Nat}{v:Value}{xs:List Value}(h:w.ownsRow B 3 1 v n xs)(hs:∀ q,B<=q->q<w.heap.size->u.heap[q]?=w.heap[q]?):u.ownsRow B 3 1 v n xs:=by
 refine⟨h.1,?_⟩;rcases h.2 with h' | ⟨g,cap,cur,h1,h2,h3,h4⟩
 ·exact Or.inl h'
 ·exact Or.inr ⟨g,cap,cur,h1,h2,(hs g h2 (by
   rcases Nat.lt_or_ge g w.heap.size with x | x
   ·exact x
   ·simp [Array.getElem?_eq_none x] at h3)).trans h3,h4⟩
theorem Zge (s:ByteArray)(w:World)(hU:U8 w)(hI:Itm w)(hE:Yd w):Calls Tryz.prog 16 #[.string s] w (Ybt s w):=by
 have h0:=Xi hE;have key:=Zhq s w hU hI
  (fun arr fv u=>match Xo s with
   | .inl (n,p)=>.agg arr=Zad∧.agg fv=Rm n (-1) (-1) p
   | .inr S=>∃ v4 v5 v6,.agg arr=Zez S v4 v5 v6∧.agg fv=Rm 0 (-1) (-1) (-1)∧u.ownsRow w.heap.size 3 1 v4 (S.vals 4).length (Yz (S.vals 4))∧u.ownsRow w.heap.size 3 1 v5 (S.vals 5).length (Yz (S.vals 5))∧u.ownsRow w.heap.size 3 1 v6 (S.vals 6).length (Yz (S.vals 6))∧Zbf v4 v5 v6)
  (fun arr ev fv w1=>Jg s (w.heap.size+2) arr ev w1∧match Xo s with
   | .inl (n,p)=>.agg fv=Rm n (-1) (-1) p
   | .inr S=>.agg fv=Rm 0 (-1) (-1) (-1))
  ?c1 ?c2 ?c3
 ·refine key.mono ?_;rintro e w' ⟨arr,fv,rfl,hb,hp⟩;refine⟨hb,?_⟩;split
  ·rename_i n p hF;simp only [hF] at hp;rw [hp.1,hp.2]
  ·rename_i S hF;simp only [hF] at hp;obtain⟨v4,v5,v6,e1,e2,r⟩:=hp;exact⟨v4,v5,v6,by rw [e1,e2],r⟩
 case c1 =>
  intro w0 hU0 hI0 hb0 hz0;refine(Zwu s w0 hU0 hI0).mono ?_;rintro e w1 ⟨hb1,arr,ev,rfl,hA1,hA2,hM⟩;rw [hz0] at hM;refine⟨hb1,?_⟩;cases hF:Xo s with
  | inl r=>obtain⟨n,p⟩:=r;exact⟨arr,ev,#[.int .i64 n,.int .i64 (-1),.int .i64 (-1),.int .i64 p],rfl,⟨hA1,hA2⟩,⟨rfl,by simp [Value.oneCell']⟩,hM,rfl⟩
  | inr S=>exact⟨arr,ev,#[.int .i64 0,.int .i64 (-1),.int .i64 (-1),.int .i64 (-1)],rfl,⟨hA1,hA2⟩,⟨rfl,by simp [Value.oneCell']⟩,hM,rfl⟩
 case c2 =>
  rintro arr ev fv w1 u ⟨hM,hf⟩ hb1 hs;have hz1:=hb1.size;have hEu:Yd u:=(World.cell?_of_block (hs 0 (by omega) (by omega) (by omega))).trans (hE.below hb1 h0);unfold Jg at hM;cases hF:Xo s with
  | inl r=>obtain⟨n,p⟩:=r;simp only [hF] at hM hf;obtain⟨_,q,rfl,hq,hB⟩:=hM;have e:=hs q (Xi hB.c0) (by omega) (by omega);rw [hf];exact Zao n (-1) (-1) p q u hEu ⟨(World.cell?_of_block e).trans hB.c0,(World.cell?_of_block e).trans hB.c1,(World.cell?_of_block e).trans hB.c2,(World.cell?_of_block e).trans hB.c3⟩
  | inr S=>simp only [hF] at hM hf;obtain⟨v4,v5,v6,_,rfl,_⟩:=hM;rw [hf];exact Md u
 case c3 =>
  rintro arr ev fv w1 u ⟨hM,hf⟩ hbu hs _ _ _ hzu;unfold Jg at hM;cases hF:Xo s with
  | inl r=>obtain⟨n,p⟩:=r;simp only [hF] at hM hf ⊢;exact⟨hM.1,hf⟩
  | inr S=>simp only [hF] at hM hf ⊢;obtain⟨v4,v5,v6,e1,_,r4,r5,r6,ap⟩:=hM;have k:=fun{n v xs} (r:w1.ownsRow (w.heap.size+2) 3 1 v n xs)=>Jc (Zab (u:=u) r (fun q h1 h2=>hs q h2 (by omega) (by omega))) (show w.heap.size<=w.heap.size+2 by omega);exact⟨v4,v5,v6,e1,hf,k r4,k r5,k r6,ap⟩
set_option maxHeartbeats 4000000
set_option maxRecDepth 100000
theorem Zpa (w:World)(s:ByteArray):Raw (w.alloc (.cells #[.string s,.int .u32 0,.int .i32 0,.int .u32 0,.int .i64 0,.int .i64 0,.int .i64 0,.int .i64 0,.int .i64 0,.slice none 0 0,.slice none 0 0,.slice none 0 0,.int .i64 0,.int .i64 0,.int .i64 0,.bool false] 170)) w.heap.size s :=
 have h:=Yl (heap_alloc_new w (.cells #[.string s,.int .u32 0,.int .i32 0,.int .u32 0,.int .i64 0,.int .i64 0,.int .i64 0,.int .i64 0,.int .i64 0,.slice none 0 0,.slice none 0 0,.slice none 0 0,.int .i64 0,.int .i64 0,.int .i64 0,.bool false] 170));⟨h.1 0,h.1 1,h.1 2,fun j hj=>⟨by
  rw [h.1];match j,hj with
  | 0,_ | 1,_ | 2,_ | 3,_ | 4,_ | 5,_ | 6,_ | 7,_ | 8,_ | 9,_ | 10,_ | 11,_=>rfl,h.2 _⟩,h.2⟩
def Zpb (S:Uy)(w:World)(e:Ending)(w':World):Prop :=
 Below w.heap.size w w'∧∃ arr,e=.returned (.tuple #[.agg arr,.nilIface])∧arr.size=12∧arr.all (·.oneCell')=true∧GT S w.heap.size arr w'
theorem Zrn (S:Uy)(hS:Xo Znp=.inr S)(w:World)(hU:U8 w)(hI:Itm w):Calls Tryz.prog 44 #[.int .i64 0] w (Zpb S w):=by
 have hit:=hI.lt;have hut:=hU.lt;have HRD:=Ze (fun(X:Obj) =>
  have hb1:Below w.heap.size w (w.alloc X):=(Below.refl w.heap.size w).alloc (Nat.le_refl _) X;have hb:Below w.heap.size w ((w.alloc X).alloc (.cells #[.string Znp,.int .u32 0,.int .i32 0,.int .u32 0,.int .i64 0,.int .i64 0,.int .i64 0,.int .i64 0,.int .i64 0,.slice none 0 0,.slice none 0 0,.slice none 0 0,.int .i64 0,.int .i64 0,.int .i64 0,.bool false] 170)):=hb1.alloc (by simp) _;have hR:=Zpa (w.alloc X) Znp;have hsz:(w.alloc X).heap.size=w.heap.size+1:=by simp
  Zvq Znp S hS (w.heap.size+1) ((w.alloc X).alloc (.cells #[.string Znp,.int .u32 0,.int .i32 0,.int .u32 0,.int .i64 0,.int .i64 0,.int .i64 0,.int .i64 0,.int .i64 0,.slice none 0 0,.slice none 0 0,.slice none 0 0,.int .i64 0,.int .i64 0,.int .i64 0,.bool false] 170)) (by rw [hsz] at hR; exact hR) (hU.below hb hU.lt) (hI.grown (Zo (row:=some (w.heap.size+1)) hb) (by omega)) (by omega) (by omega))
 have HBB:=Ze (fun(X Y:Obj)=>((Below.refl w.heap.size w).alloc (Nat.le_refl _) X).alloc (by simp) Y);clear hU hI hS;go_enter Tryz.func44,Tryz.ntmps44
 go_wp2_with fail
 refine(Zb HRD _).mono ?_;rintro e w1 ⟨arr,rfl,a1,a2,hG,hgb⟩;have hz:=hgb.size;simp only [World.size_alloc] at hz;have HR:=Ze ((hgb.block w.heap.size (by simp; omega) (by simp)).trans ((Gs _ _ _ (by simp)).trans (heap_alloc_new w _)));have HG:=Ze ((hG.kept (Lj w1 w.heap.size arr) (by simp; omega)).mono (B0:=w.heap.size) (by simp; omega));have HB:=Ze (show Below w.heap.size w w1 from(Zb HBB _ _).trans ⟨hgb.os,hgb.tape,hgb.output,hgb.size,fun q hq=>hgb.block q (by simp; omega) (by simp; omega)⟩);clear hG hgb;go_wp2_with (refine wpList_store_row rfl 25 (.tmp 2) (.tmp 9) rfl w.heap.size arr rfl rfl 25 _ (Zb HR) (Tryz.infTab.trans (congrArg some a1.symm)) a1.symm a2 ?_)
 refine bodyPost_ret (Ym (fn:=Tryz.f44) (p:=2) (u:=3) (ty:=25) rfl _ _ w.heap.size 25 arr (0,0) _ rfl (setRow_heap _ _ _ _ _ _ (Zb HR)) Tryz.underlying25 rfl (Tryz.infTab.trans (congrArg some a1.symm))) rfl ?_;exact⟨below_setRow (Zb HB) (Nat.le_refl _) _,arr,rfl,a1,a2,Zb HG⟩
theorem Zro (S:Uy)(hS:Xo Znq=.inr S)(w:World)(hU:U8 w)(hI:Itm w):Calls Tryz.prog 44 #[.int .i64 1] w (Zpb S w):=by
 have hit:=hI.lt;have hut:=hU.lt;have HRD:=Ze (fun(X:Obj) =>
  have hb1:Below w.heap.size w (w.alloc X):=(Below.refl w.heap.size w).alloc (Nat.le_refl _) X;have hb:Below w.heap.size w ((w.alloc X).alloc (.cells #[.string Znq,.int .u32 0,.int .i32 0,.int .u32 0,.int .i64 0,.int .i64 0,.int .i64 0,.int .i64 0,.int .i64 0,.slice none 0 0,.slice none 0 0,.slice none 0 0,.int .i64 0,.int .i64 0,.int .i64 0,.bool false] 170)):=hb1.alloc (by simp) _;have hR:=Zpa (w.alloc X) Znq;have hsz:(w.alloc X).heap.size=w.heap.size+1:=by simp
  Zvq Znq S hS (w.heap.size+1) ((w.alloc X).alloc (.cells #[.string Znq,.int .u32 0,.int .i32 0,.int .u32 0,.int .i64 0,.int .i64 0,.int .i64 0,.int .i64 0,.int .i64 0,.slice none 0 0,.slice none 0 0,.slice none 0 0,.int .i64 0,.int .i64 0,.int .i64 0,.bool false] 170)) (by rw [hsz] at hR; exact hR) (hU.below hb hU.lt) (hI.grown (Zo (row:=some (w.heap.size+1)) hb) (by omega)) (by omega) (by omega))
 have HBB:=Ze (fun(X Y:Obj)=>((Below.refl w.heap.size w).alloc (Nat.le_refl _) X).alloc (by simp) Y);clear hU hI hS;go_enter Tryz.func44,Tryz.ntmps44
 go_wp2_with fail
 refine(Zb HRD _).mono ?_;rintro e w1 ⟨arr,rfl,a1,a2,hG,hgb⟩;have hz:=hgb.size;simp only [World.size_alloc] at hz;have HR:=Ze ((hgb.block w.heap.size (by simp; omega) (by simp)).trans ((Gs _ _ _ (by simp)).trans (heap_alloc_new w _)));have HG:=Ze ((hG.kept (Lj w1 w.heap.size arr) (by simp; omega)).mono (B0:=w.heap.size) (by simp; omega));have HB:=Ze (show Below w.heap.size w w1 from(Zb HBB _ _).trans ⟨hgb.os,hgb.tape,hgb.output,hgb.size,fun q hq=>hgb.block q (by simp; omega) (by simp; omega)⟩);clear hG hgb;go_wp2_with (refine wpList_store_row rfl 25 (.tmp 2) (.tmp 14) rfl w.heap.size arr rfl rfl 25 _ (Zb HR) (Tryz.infTab.trans (congrArg some a1.symm)) a1.symm a2 ?_)
 refine bodyPost_ret (Ym (fn:=Tryz.f44) (p:=2) (u:=3) (ty:=25) rfl _ _ w.heap.size 25 arr (0,0) _ rfl (setRow_heap _ _ _ _ _ _ (Zb HR)) Tryz.underlying25 rfl (Tryz.infTab.trans (congrArg some a1.symm))) rfl ?_;exact⟨below_setRow (Zb HB) (Nat.le_refl _) _,arr,rfl,a1,a2,Zb HG⟩
theorem Zmo (k:Int)(hk:k≠0∧k≠1)(w:World):Calls Tryz.prog 44 #[.int .i64 k] w fun e w'=>e=.returned (.tuple #[Zad,.iface 127 (.int .i64 6)])∧Below w.heap.size w w':=by
 have k0:(k==0)=false:=by simpa using hk.1
 have k1:(k==1)=false:=by simpa using hk.2
 have HR:=Ze (heap_alloc_new w (.cells #[.int .i64 0,.int .i64 0,.int .i64 0,.int .i64 0,.int .i64 0,.slice none 0 0,.slice none 0 0,.slice none 0 0,.int .i64 0,.int .i64 0,.int .i64 0,.bool false] 25));have HBL:=Ze ((Below.refl w.heap.size w).alloc (Nat.le_refl _) (.cells #[.int .i64 0,.int .i64 0,.int .i64 0,.int .i64 0,.int .i64 0,.slice none 0 0,.slice none 0 0,.slice none 0 0,.int .i64 0,.int .i64 0,.int .i64 0,.bool false] 25));go_enter Tryz.func44,Tryz.ntmps44
 go_wp2_with (refine wpList_store_row rfl 25 (.tmp 2) (.tmp 15) rfl w.heap.size #[.int .i64 0,.int .i64 0,.int .i64 0,.int .i64 0,.int .i64 0,.slice none 0 0,.slice none 0 0,.slice none 0 0,.int .i64 0,.int .i64 0,.int .i64 0,.bool false] rfl rfl 25 _ (Zb HR) Tryz.infTab rfl (by simp [Value.oneCell']) ?_)
 refine bodyPost_ret (Ym (fn:=Tryz.f44) (p:=2) (u:=3) (ty:=25) rfl _ _ w.heap.size 25 #[.int .i64 0,.int .i64 0,.int .i64 0,.int .i64 0,.int .i64 0,.slice none 0 0,.slice none 0 0,.slice none 0 0,.int .i64 0,.int .i64 0,.int .i64 0,.bool false] (0,0) _ rfl (setRow_heap _ _ _ _ _ _ (Zb HR)) Tryz.underlying25 rfl Tryz.infTab) rfl ?_;exact⟨rfl,below_setRow (Zb HBL) (Nat.le_refl _) _⟩
set_option maxHeartbeats 8000000
set_option maxRecDepth 100000
def Zku (o:Option Uy)(B:Nat)(arr:Array Value)(ev:Value)(u:World):Prop:=match o with
 | some S=>GT S B arr u∧ev=.nilIface
 | none=>.agg arr=Zad∧ev=.iface 127 (.int .i64 6)
theorem Zku.setRow {o:Option Uy}{B T:Nat}{arr:Array Value}{ev:Value}{u:World}(h:Zku o B arr ev u)(hT:T<B)(cs:Array Value):Zku o B arr ev (u.setRow T cs):=by
 cases o with
 | none=>exact h
 | some S=>exact⟨h.1.kept (Lj u T cs) hT,h.2⟩
theorem Zku.mono {o:Option Uy}{B B0:Nat}{arr:Array Value}{ev:Value}{u:World}(h:Zku o B arr ev u)(hB:B0<=B):Zku o B0 arr ev u:=by
 cases o with
 | none=>exact h
 | some S=>exact⟨h.1.mono hB,h.2⟩
def Yfl (k:Int)(o:Option Uy):Prop:=(k=0∧∃ S,o=some S∧Xo Znp=.inr S)∨(k=1∧∃ S,o=some S∧Xo Znq=.inr S)∨(k≠0∧k≠1∧o=none)
def Yhp (o:Option Uy)(w:World)(e:Ending)(w':World):Prop :=
 Below w.heap.size w w'∧∃ arr ev,e=.returned (.tuple #[.agg arr,ev])∧arr.size=12∧arr.all (·.oneCell')=true∧Zku o w.heap.size arr ev w'
theorem Zsd (k:Int)(o:Option Uy)(hk:Yfl k o)(w:World)(hU:U8 w)(hI:Itm w):Calls Tryz.prog 44 #[.int .i64 k] w (Yhp o w):=by
 rcases hk with⟨rfl,S,rfl,hS⟩ | ⟨rfl,S,rfl,hS⟩ | ⟨h0,h1,rfl⟩
 ·refine(Zrn S hS w hU hI).mono ?_;rintro e w' ⟨hb,arr,rfl,a1,a2,a3⟩;exact⟨hb,arr,_,rfl,a1,a2,a3,rfl⟩
 ·refine(Zro S hS w hU hI).mono ?_;rintro e w' ⟨hb,arr,rfl,a1,a2,a3⟩;exact⟨hb,arr,_,rfl,a1,a2,a3,rfl⟩
 ·refine(Zmo k ⟨h0,h1⟩ w).mono ?_;rintro e w' ⟨rfl,hb⟩;exact⟨hb,_,_,rfl,rfl,by simp [Zu,Value.oneCell'],rfl,rfl⟩
theorem Zse (k:Int)(o:Option Uy)(hk:Yfl k o)(w:World)(hU:U8 w)(hI:Itm w):Calls Tryz.prog 29 #[.int .i64 k] w (Yhp o w):=by
 have hit:=hI.lt;have HU:=Ze hU;have HI:=Ze hI;have HK:=Ze hk;clear hU hI hk;go_enter Tryz.func29,Tryz.ntmps29
 go_wp2_with fail
 have hlow:=fun X=>(Below.refl w.heap.size w).alloc (Nat.le_refl _) X;refine(Zsd k o (Zb HK) _ ((Zb HU).below (hlow _) (Zb HU).lt) ((Zb HI).grown (Zo (row:=some w.heap.size) (hlow _)) (Nat.ne_of_lt hit))).mono ?_;rintro e w1 ⟨hb1,arr,ev,rfl,hA1,hA2,hM⟩;have HBL:=Ze ((hlow _).trans (hb1.mono (by simp)));have HR:=Ze ((hb1.block w.heap.size (by simp)).trans (heap_alloc_new w _));have HM:=Ze hM;clear hb1 hM hlow;go_wp2_with (refine wpList_store_row rfl 25 (.tmp 2) (.tmp 6) rfl w.heap.size arr rfl rfl 25 _ (Zb HR) (Tryz.infTab.trans (congrArg some hA1.symm)) hA1.symm hA2 ?_)
 refine bodyPost_ret (Ym (fn:=Tryz.f29) (p:=2) (u:=3) (ty:=25) rfl _ _ w.heap.size 25 arr (0,0) _ rfl (setRow_heap _ _ _ _ _ _ (Zb HR)) Tryz.underlying25 rfl (Tryz.infTab.trans (congrArg some hA1.symm))) rfl ?_;exact⟨below_setRow (Zb HBL) (Nat.le_refl _) _,arr,ev,rfl,hA1,hA2,((Zb HM).setRow (by simp) _).mono (by simp)⟩
theorem Zfc (k:Int)(w:World)(hU:U8 w)(hI:Itm w)(Post:Array Value->Array Value->World->Prop)(G:Array Value->Value->Array Value->World->Prop)
 (hcall:∀ w0,U8 w0->Itm w0->Below w.heap.size w w0->w0.heap.size=w.heap.size+2->Calls Tryz.prog 29 #[.int .i64 k] w0 fun e w1=>Below w0.heap.size w0 w1∧∃ arr ev fv,e=.returned (.tuple #[.agg arr,ev])∧(arr.size=12∧arr.all (·.oneCell')=true)∧(fv.size=4∧fv.all (·.oneCell')=true)∧G arr ev fv w1)
 (hfault:∀ arr ev fv w1 u,G arr ev fv w1->Below w.heap.size w w1->(∀ q,q<w1.heap.size->q≠w.heap.size->q≠w.heap.size+1->u.heap[q]?=w1.heap[q]?)->Calls Tryz.prog 26 #[ev] u fun e u'=>e=.returned (.agg fv)∧Below u.heap.size u u')
 (hpost:∀ arr ev fv w1 u,G arr ev fv w1->Below w.heap.size w u->(∀ q,q<w1.heap.size->q≠w.heap.size->q≠w.heap.size+1->u.heap[q]?=w1.heap[q]?)->u.os=w1.os->u.tape=w1.tape->u.output=w1.output->w1.heap.size<=u.heap.size->Post arr fv u) :
 Calls Tryz.prog 15 #[.int .i64 k] w fun e w'=>∃ arr fv,e=.returned (.tuple #[.agg arr,.agg fv])∧Below w.heap.size w w'∧Post arr fv w':=by
 have hit:=hI.lt;have HU:=Ze hU;have HI:=Ze hI;have HC:=Ze hcall;have HFa:=Ze hfault;have HPo:=Ze hpost;clear hU hI hcall hfault hpost;go_enter Tryz.func15,Tryz.ntmps15
 go_wp2_with fail
 have hlow:∀ X Y,Below w.heap.size w ((w.alloc X).alloc Y):=fun X Y=>((Below.refl w.heap.size w).alloc (Nat.le_refl _) X).alloc (by simp) Y;refine(Zb HC _ ((Zb HU).below (hlow _ _) (Zb HU).lt) ((Zb HI).grown (Zo (row:=some w.heap.size) (hlow _ _)) (Nat.ne_of_lt hit)) (hlow _ _) (by simp)).mono ?_;rintro e w1 ⟨hb1,arr,ev,fv,rfl,⟨hA1,hA2⟩,⟨hf1,hf2⟩,hG⟩;have hz1:=hb1.size;simp only [World.size_alloc] at hz1;have HBL:=Ze ((hlow _ _).trans (hb1.mono (by simp; try omega)));have HR0:=Ze ((hb1.block w.heap.size (by simp; try omega)).trans ((Gs _ _ _ (by simp)).trans (heap_alloc_new w _)));have HR1:=Ze ((hb1.block (w.heap.size+1) (by simp)).trans (heap_alloc2_new w _ _));have HG:=Ze hG;clear hb1 hG hlow;go_wp2_with (refine wpList_store_row rfl 25 (.tmp 4) (.tmp 9) rfl w1.heap.size arr rfl rfl 25 _ (heap_alloc_new _ _) (Tryz.infTab.trans (congrArg some hA1.symm)) hA1.symm hA2 ?_; rw [Rx])
 have hS0:PlS (w1.alloc (.cells arr 25)) w.heap.size (w1.heap.size+1) (w1.alloc (.cells arr 25)).drew:=⟨by simp,fun _ _ _ _=>rfl,⟨_,rfl,(Gs _ _ _ (by omega)).trans (Zb HR0)⟩,⟨_,rfl,(Gs _ _ _ (by omega)).trans (Zb HR1)⟩,rfl,rfl,rfl⟩;have hX:(w1.alloc (.cells arr 25)).heap[w1.heap.size]?=some (.cells arr 25 (0,0)):=heap_alloc_new _ _;have hk1:∀ q,q<w1.heap.size->(w1.alloc (.cells arr 25)).heap[q]?=w1.heap[q]?:=fun q hq=>Gs _ _ _ hq;refine Zwr (by kernel_rfl) 11 _ (OkL arr fv ev w.heap.size) (PlS (w1.alloc (.cells arr 25)) w.heap.size (w1.heap.size+1)) (PlR (w1.alloc (.cells arr 25)) w.heap.size (w1.heap.size+1) arr fv) ?hd ?hsz ?hle (fun i v u u' h hr=>OkL.stab arr fv ev w.heap.size i v u u' h hr) (fun u u' _ hr=>hr.s) ?step ?fin hS0;case hd =>
  intro i o ho;have hi:i<5:=(Array.getElem?_eq_some_iff.1 ho).1;match i,hi with
  | 0,_=>obtain rfl:=oR ho; exact⟨Or.inl rfl,rfl⟩
  | 1,_=>obtain rfl:=oR ho; exact⟨Or.inl rfl,rfl⟩
  | 2,_=>obtain rfl:=oR ho; exact⟨Or.inl rfl,rfl⟩
  | 3,_=>obtain rfl:=oR ho; exact⟨Or.inr rfl,rfl⟩
  | 4,_=>obtain rfl:=oR ho; exact⟨Or.inr rfl,rfl⟩
 case hsz =>
  intro i o ho hdo;have hi:i<5:=(Array.getElem?_eq_some_iff.1 ho).1;match i,hi with
  | 0,_=>show 11<14; decide
  | 1,_=>show 12<14; decide
  | 2,_=>show 13<14; decide
  | 3,_=>obtain rfl:=oR ho; cases hdo
  | 4,_=>obtain rfl:=oR ho; cases hdo
 case hle =>
  intro i o ho;have hi:i<5:=(Array.getElem?_eq_some_iff.1 ho).1;match i,hi with
  | 0,_=>obtain rfl:=oR ho; simp
  | 1,_=>obtain rfl:=oR ho; simp
  | 2,_=>obtain rfl:=oR ho; simp
  | 3,_=>obtain rfl:=oR ho; simp
  | 4,_=>obtain rfl:=oR ho; simp
 case step =>
  intro i o ho a u hS hfr hdp;have hi:i<5:=(Array.getElem?_eq_some_iff.1 ho).1;match i,hi with
  | 0,_=>obtain rfl:=oR ho;have f0:a.eval (.tmp 4)=.pointer (some ⟨w1.heap.size,0,none⟩):=hfr 4 (by omega);exact wp_load_row 25 (.tmp 4) rfl w1.heap.size f0 25 arr (0,0) _ ((hS.same w1.heap.size (by omega) (by omega) (by omega)).trans hX) Tryz.underlying25 rfl (Tryz.infTab.trans (congrArg some hA1.symm)) ⟨_,rfl,hS.same_refl,rfl⟩
  | 1,_=>obtain rfl:=oR ho;have f0:a.eval (.tmp 5)=ev:=hfr 5 (by omega);refine Ya (F:=fun v w'=>_∧_) (v:=ev) (w':=u) ?_ ⟨hS.same_refl,rfl⟩;rw [← f0];rfl
  | 2,_ =>
   obtain rfl:=oR ho;have f0:a.eval (.tmp 12)=ev:=hdp ⟨1,.data⟩ (by simp) rfl ⟨_,rfl,rfl⟩;refine Zhp (F:=fun v w'=>_∧_) (f:=26) (args:=#[ev]) (w1:=u) ?_ ((Zb HFa arr ev fv w1 u (Zb HG) (Zb HBL) (fun q hq h1 h2=>(hS.same q (by omega) h1 h2).trans (hk1 q hq))).mono ?_)
   ·clear hdp hfr ho;simp [execOp,go_sem];simpa [Act.eval] using f0
   ·rintro e u' ⟨rfl,hb⟩;obtain⟨c0,k0,l0⟩:=hS.b0;obtain⟨c1,k1,l1⟩:=hS.b1;have hz:=hS.size;exact⟨_,rfl,⟨⟨Nat.le_trans hz hb.size,fun q hq h1 h2=>(hb.block q (by omega)).trans (hS.same q hq h1 h2),⟨c0,k0,(hb.block _ (by omega)).trans l0⟩,⟨c1,k1,(hb.block _ (by omega)).trans l1⟩,hb.os.trans hS.os,hb.tape.trans hS.tape,hb.output.trans hS.output⟩,Or.inl (hb.block _ (by omega)),Or.inl (hb.block _ (by omega))⟩,rfl⟩
  | 3,_=>obtain rfl:=oR ho;have f0:a.eval (.tmp 2)=.pointer (some ⟨w.heap.size,0,none⟩):=hfr 2 (by omega);have f1:a.eval (.tmp 11)=.agg arr:=hdp ⟨0,.data⟩ (by simp) rfl ⟨_,rfl,rfl⟩;obtain⟨c0,k0,l0⟩:=hS.b0;obtain⟨c1,k1,l1⟩:=hS.b1;exact wp_store_row 25 (.tmp 2) (.tmp 11) rfl w.heap.size arr f0 f1 25 c0 l0 (Tryz.infTab.trans (congrArg some hA1.symm)) (k0.trans hA1.symm) hA2 ⟨_,rfl,⟨⟨by simpa using hS.size,fun q hq h1 h2=>(setRow_other _ _ _ _ h1).trans (hS.same q hq h1 h2),⟨arr,hA1,setRow_heap _ _ _ _ _ _ l0⟩,⟨c1,k1,(setRow_other _ _ _ _ (by omega)).trans l1⟩,hS.os,hS.tape,hS.output⟩,Or.inr (setRow_heap _ _ _ _ _ _ l0),Or.inl (setRow_other _ _ _ _ (by omega))⟩,setRow_heap _ _ _ _ _ _ l0⟩
  | 4,_=>obtain rfl:=oR ho;have f0:a.eval (.tmp 3)=.pointer (some ⟨w.heap.size+1,0,none⟩):=hfr 3 (by omega);have f1:a.eval (.tmp 13)=.agg fv:=hdp ⟨2,.data⟩ (by simp) rfl ⟨_,rfl,rfl⟩;obtain⟨c0,k0,l0⟩:=hS.b0;obtain⟨c1,k1,l1⟩:=hS.b1;exact wp_store_row 29 (.tmp 3) (.tmp 13) rfl (w.heap.size+1) fv f0 f1 29 c1 l1 (Tryz.infFlt.trans (congrArg some hf1.symm)) (k1.trans hf1.symm) hf2 ⟨_,rfl,⟨⟨by simpa using hS.size,fun q hq h1 h2=>(setRow_other _ _ _ _ h2).trans (hS.same q hq h1 h2),⟨c0,k0,(setRow_other _ _ _ _ (by omega)).trans l0⟩,⟨fv,hf1,setRow_heap _ _ _ _ _ _ l1⟩,hS.os,hS.tape,hS.output⟩,Or.inl (setRow_other _ _ _ _ (by omega)),Or.inr (setRow_heap _ _ _ _ _ _ l1)⟩,setRow_heap _ _ _ _ _ _ l1⟩
 case fin =>
  intro a u hS hdf hts hout hok hno;have h0:u.heap[w.heap.size]?=some (.cells arr 25 (0,0)):=(hno 3 _ rfl rfl).2.elim fun _ h=>h;have h1:u.heap[w.heap.size+1]?=some (.cells fv 29 (0,0)):=(hno 4 _ rfl rfl).2.elim fun _ h=>h;have e2:a.eval (.tmp 2)=.pointer (some ⟨w.heap.size,0,none⟩):=hout 2 (Or.inl (by omega));have e3:a.eval (.tmp 3)=.pointer (some ⟨w.heap.size+1,0,none⟩):=hout 3 (Or.inl (by omega));have hbu:Below w.heap.size w u:=((Zb HBL).trans (((Below.refl w1.heap.size w1).alloc (Nat.le_refl _) _).mono (by omega))).trans ⟨hS.os,hS.tape,hS.output,by have:=hS.size; simp; omega,fun q hq=>hS.same q (by omega) (by omega) (by omega)⟩;have hpo:=Zb HPo arr ev fv w1 u (Zb HG) hbu (fun q hq k1 k2=>(hS.same q (by omega) k1 k2).trans (hk1 q hq)) hS.os hS.tape hS.output (by have:=hS.size; omega);clear hok hno hout;go_wp2;refine bodyPost_ret (Sa (fn:=Tryz.f15) (p:=2) (q:=3) (ty:=25) (uy:=29) rfl _ _ w.heap.size 25 arr (0,0) _ ?g0 h0 Tryz.underlying25 rfl (Tryz.infTab.trans (congrArg some hA1.symm)) (w.heap.size+1) 29 fv (0,0) _ ?g1 h1 Tryz.underlying29 rfl (Tryz.infFlt.trans (congrArg some hf1.symm))) hdf ?_;case g0=>simpa [Act.eval] using e2
  case g1=>simpa [Act.eval] using e3
  exact⟨arr,fv,rfl,hbu,hpo⟩
def Yii (o:Option Uy)(w:World)(e:Ending)(w':World):Prop :=
 Below w.heap.size w w'∧∃ arr fv,e=.returned (.tuple #[.agg arr,.agg fv])∧match o with
  | some S=>GT S w.heap.size arr w'∧.agg fv=Rm 0 (-1) (-1) (-1)
  | none=>.agg arr=Zad∧.agg fv=Rm 6 (-1) (-1) (-1)
theorem Zhv (n f b a:Int):∃ fv,.agg fv=Rm n f b a∧fv.size=4∧fv.all (·.oneCell')=true:=⟨_,rfl,rfl,by simp [Value.oneCell']⟩
theorem Zej (k:Int)(o:Option Uy)(hk:Yfl k o)(w:World)(hU:U8 w)(hI:Itm w)(hE:Yd w):Calls Tryz.prog 15 #[.int .i64 k] w (Yii o w):=by
 have h0:=Xi hE;have key:=Zfc k w hU hI
  (fun arr fv u=>match o with
   | some S=>GT S w.heap.size arr u∧.agg fv=Rm 0 (-1) (-1) (-1)
   | none=>.agg arr=Zad∧.agg fv=Rm 6 (-1) (-1) (-1))
  (fun arr ev fv w1=>Zku o (w.heap.size+2) arr ev w1∧match o with
   | some S=>.agg fv=Rm 0 (-1) (-1) (-1)
   | none=>.agg fv=Rm 6 (-1) (-1) (-1))
  ?c1 ?c2 ?c3
 ·refine key.mono ?_;rintro e w' ⟨arr,fv,rfl,hb,hp⟩;refine⟨hb,arr,fv,rfl,?_⟩;cases o with
  | none=>exact hp
  | some S=>exact hp
 case c1 =>
  intro w0 hU0 hI0 hb0 hs0;refine(Zse k o hk w0 hU0 hI0).mono ?_;rintro e w1 ⟨hb1,arr,ev,rfl,a1,a2,hM⟩;rw [hs0] at hM;cases o with
  | none=>obtain⟨fv,f1,f2,f3⟩:=Zhv 6 (-1) (-1) (-1);exact⟨hb1,arr,ev,fv,rfl,⟨a1,a2⟩,⟨f2,f3⟩,hM,f1⟩
  | some S=>obtain⟨fv,f1,f2,f3⟩:=Zhv 0 (-1) (-1) (-1);exact⟨hb1,arr,ev,fv,rfl,⟨a1,a2⟩,⟨f2,f3⟩,hM,f1⟩
 case c2 =>
  rintro arr ev fv w1 u ⟨hM,hf⟩ hb hs;have hEu:Yd u:=by have e1:u.heap[0]?=w1.heap[0]?:=hs 0 (Nat.lt_of_lt_of_le h0 hb.size) (by omega) (by omega);exact(World.cell?_of_block e1).trans ((hb.cell (p:=⟨0,0,none⟩) h0).trans hE)
  cases o with
  | none=>rw [hM.2];refine(Me 6 u hEu).mono ?_;rintro e u' ⟨rfl,hb'⟩;exact⟨by rw [hf],hb'⟩
  | some S=>rw [hM.2];refine(Md u).mono ?_;rintro e u' ⟨rfl,hb'⟩;exact⟨by rw [hf],hb'⟩
 case c3 =>
  rintro arr ev fv w1 u ⟨hM,hf⟩ hb hs ho ht hu hz;cases o with
  | none=>exact⟨hM.1,hf⟩
  | some S=>refine⟨?_,hf⟩;obtain⟨v4,v5,v6,h1,h2,h3,h4,h5⟩:=hM.1;have hk:∀ q,w.heap.size+2<=q->q<w1.heap.size->u.heap[q]?=w1.heap[q]?:=fun q hq hq2=>hs q hq2 (by omega) (by omega);exact⟨v4,v5,v6,h1,Jc (Zab h2 hk) (by omega),Jc (Zab h3 hk) (by omega),Jc (Zab h4 hk) (by omega),h5⟩
set_option maxHeartbeats 2000000
set_option maxRecDepth 100000
structure TD where
 r:Int
 sp:Int
 lk:Int
 t0:Int
 t1:Int
 al:Int
 sh:Int
 by_:Int
 pr:Bool
 l4:List Int
 l5:List Int
 l6:List Int
def td (k:Nat):TD:=if k=0 then ⟨12,11,-1,9,10,16,0,2,false,[0,1,2,3],[0,1],[5,6,7]⟩ else ⟨14,13,12,10,11,16,16,2,true,[0,1,2,3],[0,1],[6,7,8,9]⟩
def TD.box (d:TD)(v4 v5 v6:Value):Array Value:=Zu d.r d.sp d.lk d.t0 d.t1 v4 v5 v6 d.al d.sh d.by_ d.pr
def Zxj (b:Bool):Int:=match b with
 | true=>0
 | false=>2
theorem Zxk (r sp lk t0 t1:Int)(va vr vs:Value)(al sh by_:Int)(pr:Bool)(ag rs ss:List Int)(w:World)(ha:Rs w va ag)(hr:Rs w vr rs)(hs:Rs w vs ss)(ca:∀ a n cap,va=.slice a n cap->n<=cap)(cr:∀ a n cap,vr=.slice a n cap->n<=cap)(cs:∀ a n cap,vs=.slice a n cap->n<=cap):Calls Tryz.prog 32 #[.agg (Zu r sp lk t0 t1 va vr vs al sh by_ pr)] w fun e w'=>e=.returned (Zhx (Jl r sp lk t0 t1 ag rs ss al sh by_))∧Below w.heap.size w w':=by
 have hb:∀ X,Below w.heap.size w (w.alloc X):=fun X=>(Below.refl w.heap.size w).alloc (Nat.le_refl _) X;have HC:=Ze (fun X:Obj=>Zcj r sp lk t0 t1 va vr vs al sh by_ pr ag rs ss (w.alloc X) (ha.below (hb X)) (hr.below (hb X)) (hs.below (hb X)) ca cr cs);have HB:=Ze hb;clear hb ha hr hs ca cr cs;unfold Zu at HC ⊢;go_enter Tryz.func32,Tryz.ntmps32
 go_wp2_with fail
 refine(Zb HC _).mono ?_;rintro e w1 ⟨rfl,hb1⟩;have HB1:=Ze ((Zb HB _).trans (hb1.mono (by simp)));clear hb1;go_wp2;go_ret;exact⟨rfl,Zb HB1⟩
theorem Zsg (r sp lk t0 t1:Int)(va vr vs:Value)(al sh by_:Int)(pr:Bool)(ag rs ss:List Int)(w:World)(hE:Yd w)(ha:Rs w va ag)(hr:Rs w vr rs)(hs:Rs w vs ss)(ca:∀ a n cap,va=.slice a n cap->n<=cap)(cr:∀ a n cap,vr=.slice a n cap->n<=cap)(cs:∀ a n cap,vs=.slice a n cap->n<=cap):Calls Tryz.prog 18 #[.agg (Zu r sp lk t0 t1 va vr vs al sh by_ pr)] w fun e w'=>e=.returned (Rm (Zxj (Jl r sp lk t0 t1 ag rs ss al sh by_)) (-1) (-1) (-1))∧Below w.heap.size w w':=by
 have h0:=Xi hE;have hb:∀ X Y,Below w.heap.size w ((w.alloc X).alloc Y):=fun X Y=>((Below.refl w.heap.size w).alloc (Nat.le_refl _) X).alloc (by simp) Y;have HC:=Ze (fun X Y:Obj=>Zxk r sp lk t0 t1 va vr vs al sh by_ pr ag rs ss ((w.alloc X).alloc Y) (ha.below (hb X Y)) (hr.below (hb X Y)) (hs.below (hb X Y)) ca cr cs);have HB:=Ze hb;have HE:=Ze hE;clear hb ha hr hs ca cr cs hE;unfold Zu at HC ⊢;go_enter Tryz.func18,Tryz.ntmps18
 go_wp2_with fail
 refine(Zb HC _ _).mono ?_;rintro e w1 ⟨rfl,hb1⟩;have hz1:=hb1.size;simp only [World.size_alloc] at hz1;have HB1:=Ze ((Zb HB _ _).trans (hb1.mono (by simp; omega)));have HR:=Ze ((hb1.block (w.heap.size+1) (by simp)).trans (heap_alloc2_new w _ _));have hf:Calls Tryz.prog 26 #[Zhx (Jl r sp lk t0 t1 ag rs ss al sh by_)] w1 fun e w'=>e=.returned (Rm (Zxj (Jl r sp lk t0 t1 ag rs ss al sh by_)) (-1) (-1) (-1))∧Below w1.heap.size w1 w':=by
  have hE1:Yd w1:=(Zb HE).below (Zb HB1) h0;cases Jl r sp lk t0 t1 ag rs ss al sh by_ with
  | true=>exact Md w1
  | false=>exact Me 2 w1 hE1
 have HF:=Ze hf;clear hb1 hf;go_wp2_with fail
 refine(Zb HF).mono ?_;rintro e w2 ⟨rfl,hb2⟩;have HB2:=Ze ((Zb HB1).trans (hb2.mono (by omega)));have HR2:=Ze ((hb2.block (w.heap.size+1) (by omega)).trans (Zb HR));clear hb2;obtain⟨fv,f1,f2,f3⟩:=Zhv (Zxj (Jl r sp lk t0 t1 ag rs ss al sh by_)) (-1) (-1) (-1);have HF1:=Ze f1;rw [← f1];clear f1;go_wp2_with (refine wpList_store_row rfl 29 (.tmp 2) (.tmp 5) rfl (w.heap.size+1) fv rfl rfl 29 _ (Zb HR2) (Tryz.infFlt.trans (congrArg some f2.symm)) f2.symm f3 ?_)
 refine bodyPost_ret (results_cell_row (fn:=Tryz.f18) (p:=2) (ty:=29) rfl _ _ (w.heap.size+1) 29 fv (0,0) _ rfl (setRow_heap _ _ _ _ _ _ (Zb HR2)) Tryz.underlying29 rfl (Tryz.infFlt.trans (congrArg some f2.symm))) rfl ?_;exact⟨by rw [Zb HF1],below_setRow (Zb HB2) (by omega) _⟩
theorem Zsc (kk:Nat)(hk:kk<2)(w:World)(hU:U8 w)(hI:Itm w)(hE:Yd w):Calls Tryz.prog 15 #[.int .i64 kk] w fun e w'=>Below w.heap.size w w'∧∃ v4 v5 v6,e=.returned (.tuple #[.agg ((td kk).box v4 v5 v6),Rm 0 (-1) (-1) (-1)])∧w'.ownsRow w.heap.size 3 1 v4 (td kk).l4.length (Yz (td kk).l4)∧w'.ownsRow w.heap.size 3 1 v5 (td kk).l5.length (Yz (td kk).l5)∧w'.ownsRow w.heap.size 3 1 v6 (td kk).l6.length (Yz (td kk).l6)∧Zbf v4 v5 v6:=by
 match kk,hk with
 | 0,_=>obtain⟨S,hS,hv,hp⟩:=Znr Zxl;refine(Zej 0 (some S) (Or.inl ⟨rfl,S,rfl,hS⟩) w hU hI hE).mono ?_;rintro e w' ⟨hb,arr,fv,rfl,⟨v4,v5,v6,h1,h2,h3,h4,h5⟩,hf⟩;rw [hv 4 (by omega)] at h2;rw [hv 5 (by omega)] at h3;rw [hv 6 (by omega)] at h4;refine⟨hb,v4,v5,v6,?_,h2,h3,h4,h5⟩;rw [h1,hf];unfold Zez;rw [hv 0 (by omega),hv 1 (by omega),hv 2 (by omega),hv 3 (by omega),hv 7 (by omega),hv 8 (by omega),hv 9 (by omega),hp];rfl
 | 1,_=>obtain⟨S,hS,hv,hp⟩:=Znr Zxm;refine(Zej 1 (some S) (Or.inr (Or.inl ⟨rfl,S,rfl,hS⟩)) w hU hI hE).mono ?_;rintro e w' ⟨hb,arr,fv,rfl,⟨v4,v5,v6,h1,h2,h3,h4,h5⟩,hf⟩;rw [hv 4 (by omega)] at h2;rw [hv 5 (by omega)] at h3;rw [hv 6 (by omega)] at h4;refine⟨hb,v4,v5,v6,?_,h2,h3,h4,h5⟩;rw [h1,hf];unfold Zez;rw [hv 0 (by omega),hv 1 (by omega),hv 2 (by omega),hv 3 (by omega),hv 7 (by omega),hv 8 (by omega),hv 9 (by omega),hp];rfl
theorem Rs.slice {w:World}{v:Value}{ns:List Int}(h:Rs w v ns):∃ a n p,v=.slice a n p:=by obtain⟨p,cap,e⟩:=h.shape;exact⟨_,_,_,e⟩
theorem On {w:World}{B n:Nat}{v:Value}{xs:List Value}(h:w.ownsRow B 3 1 v n xs):∃ a k p,v=.slice a k p:=by
 rcases h.2 with⟨e,_⟩ | ⟨g,cap,cur,e,-⟩
 ·exact⟨_,_,_,e⟩
 ·exact⟨_,_,_,e⟩
theorem Oa (w:World)(X Y:Obj):((w.alloc X).alloc Y).heap[w.heap.size]?=some X∧((w.alloc X).alloc Y).heap[w.heap.size+1]?=some Y∧Below w.heap.size w ((w.alloc X).alloc Y)∧((w.alloc X).alloc Y).heap.size=w.heap.size+2 :=
 ⟨(Gs _ _ _ (by simp)).trans (heap_alloc_new w _),heap_alloc2_new w _ _,((Below.refl w.heap.size w).alloc (Nat.le_refl _) _).alloc (by simp) _,by simp⟩
end Go.Proofs.YtkenknfgeoecbaaGreatDoor
namespace Go.Proofs.YtkenknfgeoecbaaGreatDoor
open Go.ChangeShapes Go.WideShapes Go.ChangeAt Go.RowKit
set_option maxRecDepth 100000
theorem Tryz.gItemsQ : Tryz.prog.globalNamed "prologue/table.items" = some 1 := by kernel_rfl
theorem Tryz.gItemsTQ:(Tryz.prog.globals[1]?).map (·.type)=some 244:=by kernel_rfl
theorem Tryz.cellsItemQ:Tryz.prog.cellsOf 243=5:=by kernel_rfl
theorem Tryz.cellsStrQ:Tryz.prog.cellsOf 9=1:=by kernel_rfl
theorem Tryz.cellsBoolQ:Tryz.prog.cellsOf 4=1:=by kernel_rfl
theorem Tryz.cellsIntQ:Tryz.prog.cellsOf 3=1:=by kernel_rfl
theorem Xa {α:Type}{tr:TypeId->List Value->Option α}{fs:Array Field}{cs:List Value}{xs:List α}{c:Nat}{i:Nat}{f:Field}{y:α}
 (hf:∀(i:Nat) (f:Field),fs[i]?=some f->tr f.type ((cs.drop f.offset).take (Tryz.prog.cellsOf f.type))=xs[i]?) (hi:fs[i]?=some f) (hc:Tryz.prog.cellsOf f.type=c) (hy:xs[i]?=some y):tr f.type ((cs.drop f.offset).take c)=some y:=by
 rw [← hy,← hf i f hi,hc]
theorem Yfm {α:Type}{l:List α}(h:l.length=5):∃ a0 a1 a2 a3 a4,l=[a0,a1,a2,a3,a4]:=by
 match l,h with
 | [a0,a1,a2,a3,a4],_=>exact⟨_,_,_,_,_,rfl⟩
theorem Zno (k:Nat)(hk:k<11):∃ l:List (DataW Unit),(Rows.laid_prologue_table_items:DataW Unit)=.agg l∧l[k]?=some (.agg [.lit (.string (nm k)),.lit (.int .i64 (loK k)),.lit (.int .i64 (hiK k)),.lit (.bool (decide (k=2))),.lit (.bool (decide (k=10)))]):=by
 refine⟨_,rfl,?_⟩;match k,hk with
 | 0,_ | 1,_ | 2,_ | 3,_ | 4,_ | 5,_ | 6,_ | 7,_ | 8,_ | 9,_ | 10,_=>rfl
theorem Zhw {W : World} (h : Lib.VarReads Tryz.prog W "prologue/table.items" Rows.laid_prologue_table_items) : Itm W := by
 obtain⟨g,t,cs,fuel,p,hg,ht,hv,hd⟩:=h;obtain rfl:=Option.some.inj (Tryz.gItemsQ.symm.trans hg);obtain rfl:=Option.some.inj (Tryz.gItemsTQ.symm.trans ht);obtain⟨xs,m,-,hx,hl,hxl,hall⟩:=DataW.trod_array Tryz.underlying244 hd;have key:∀ k,k<11->W.cell? ⟨1,k*5,none⟩=some (.string ⟨(nm k).toArray⟩)∧W.cell? ⟨1,k*5+1,none⟩=some (.int .i64 (loK k))∧W.cell? ⟨1,k*5+2,none⟩=some (.int .i64 (hiK k))∧W.cell? ⟨1,k*5+3,none⟩=some (.bool (decide (k=2)))∧W.cell? ⟨1,k*5+4,none⟩=some (.bool (decide (k=10))):=by
  intro k hk;obtain⟨l,hl1,hl2⟩:=Zno k hk;rw [hl1] at hx;have hx1:l=xs.map (·.1):=by simpa using congrArg Prod.fst hx
  rw [hx1,List.getElem?_map,Option.map_eq_some_iff] at hl2;obtain⟨⟨y,py⟩,hy,rfl⟩:=hl2;have h1:=(hall k hk).trans hy;rw [Tryz.cellsItemQ] at h1;obtain⟨ys,n,-,hz,-,hyl,hf⟩:=DataW.trod_struct Tryz.underlying243 h1;obtain⟨y0,y1,y2,y3,y4,rfl⟩:=Yfm hyl;have hz1:[.lit (.string (nm k)),.lit (.int .i64 (loK k)),.lit (.int .i64 (hiK k)),.lit (.bool (decide (k=2))),.lit (.bool (decide (k=10)))]=[y0,y1,y2,y3,y4].map (·.1):=by simpa using congrArg Prod.fst hz
  simp only [List.map_cons,List.map_nil,List.cons.injEq,and_true] at hz1;obtain⟨e0,e1,e2,e3,e4⟩:=hz1;have f0:DataW.trod (fun _=>()) Tryz.prog W 0 (fun _=>true) false n 9 ((((cs.toList.drop (k*5)).take 5).drop 0).take 1)=some y0:=Xa hf (i:=0) rfl Tryz.cellsStrQ rfl;have f1:DataW.trod (fun _=>()) Tryz.prog W 0 (fun _=>true) false n 3 ((((cs.toList.drop (k*5)).take 5).drop 1).take 1)=some y1:=Xa hf (i:=1) rfl Tryz.cellsIntQ rfl;have f2:DataW.trod (fun _=>()) Tryz.prog W 0 (fun _=>true) false n 3 ((((cs.toList.drop (k*5)).take 5).drop 2).take 1)=some y2:=Xa hf (i:=2) rfl Tryz.cellsIntQ rfl;have f3:DataW.trod (fun _=>()) Tryz.prog W 0 (fun _=>true) false n 4 ((((cs.toList.drop (k*5)).take 5).drop 3).take 1)=some y3:=Xa hf (i:=3) rfl Tryz.cellsBoolQ rfl;have f4:DataW.trod (fun _=>()) Tryz.prog W 0 (fun _=>true) false n 4 ((((cs.toList.drop (k*5)).take 5).drop 4).take 1)=some y4:=Xa hf (i:=4) rfl Tryz.cellsBoolQ rfl;clear hf hz;obtain⟨s,c0,x0,-⟩:=DataW.trod_string Tryz.underlying9 f0;obtain⟨n1,c1,x1,-⟩:=DataW.trod_int Tryz.underlying3 f1;obtain⟨n2,c2,x2,-⟩:=DataW.trod_int Tryz.underlying3 f2;obtain⟨b3,c3,x3⟩:=DataW.trod_bool Tryz.underlying4 f3;obtain⟨b4,c4,x4⟩:=DataW.trod_bool Tryz.underlying4 f4;subst x0 x1 x2 x3 x4;have hs:s=⟨(nm k).toArray⟩:=by simp only [DataW.lit.injEq,Lit.string.injEq] at e0;obtain⟨⟨sl⟩⟩:=s;simp at e0;rw [e0]
  have h1':n1=(loK k:Int):=by simpa using e1.symm
  have h2':n2=(hiK k:Int):=by simpa using e2.symm
  have h3':b3=decide (k=2):=by simpa using e3.symm
  have h4':b4=decide (k=10):=by simpa using e4.symm
  subst hs;rw [h1'] at c1;rw [h2'] at c2;rw [h3'] at c3;rw [h4'] at c4;have g0:=congrArg (·[0]?) c0;have g1:=congrArg (·[0]?) c1;have g2:=congrArg (·[0]?) c2;have g3:=congrArg (·[0]?) c3;have g4:=congrArg (·[0]?) c4;simp [List.getElem?_drop] at g0 g1 g2 g3 g4;refine⟨?_,?_,?_,?_,?_⟩
  ·rw [World.var?_cell Tryz.gItemsQ hv (k*5)]; exact g0
  ·rw [World.var?_cell Tryz.gItemsQ hv (k*5+1)]; exact g1
  ·rw [World.var?_cell Tryz.gItemsQ hv (k*5+2)]; exact g2
  ·rw [World.var?_cell Tryz.gItemsQ hv (k*5+3)]; exact g3
  ·rw [World.var?_cell Tryz.gItemsQ hv (k*5+4)]; exact g4
 exact⟨fun k hk=>⟨(key k hk).1,(key k hk).2.2.2.1⟩,fun k hk=>(key k hk).2.1,fun k hk=>(key k hk).2.2.1,fun k hk=>(key k hk).2.2.2.2⟩
theorem Tryz.u8X:U8Extra Tryz.prog Tryz.lays260_ren:=by constructor <;> kernel_rfl
theorem Yfn:Rows.laid_unicode_utf8_first=Lib.firstData:=by kernel_rfl
theorem Ybz:(Rows.laid_unicode_utf8_acceptRanges:DataW Unit)=Lib.acceptData:=by kernel_rfl
theorem Yca {α:Type}{l:List α}(h:l.length=12):∃ a0 a1 a2 a3 a4 a5 a6 a7 a8 a9 a10 a11,l=[a0,a1,a2,a3,a4,a5,a6,a7,a8,a9,a10,a11]:=by
 match l,h with
 | [a0,a1,a2,a3,a4,a5,a6,a7,a8,a9,a10,a11],_=>exact⟨_,_,_,_,_,_,_,_,_,_,_,_,rfl⟩
theorem Ycb {α:Type}{l:List α}(h:l.length=11):∃ a0 a1 a2 a3 a4 a5 a6 a7 a8 a9 a10,l=[a0,a1,a2,a3,a4,a5,a6,a7,a8,a9,a10]:=by
 match l,h with
 | [a0,a1,a2,a3,a4,a5,a6,a7,a8,a9,a10],_=>exact⟨_,_,_,_,_,_,_,_,_,_,_,rfl⟩
theorem Yfo {α:Type}{l:List α}(h:l.length=2):∃ a0 a1,l=[a0,a1]:=by
 match l,h with
 | [a0,a1],_=>exact⟨_,_,rfl⟩
theorem Tryz.cells2iQ:Tryz.prog.cellsOf 22=2:=by kernel_rfl
theorem Tryz.cellsIntsQ:Tryz.prog.cellsOf 23=1:=by kernel_rfl
section
variable {H:Type} {enc:TypeId×Value->H} {w:World} {fuel:Nat} {held:Bool}
theorem Mm {v:Value}{y:DataW H×List MemPlace}(h:DataW.trod enc Tryz.prog w 0 (fun _=>true) held fuel 3 [v]=some y):∃ n:Int,v=.int .i64 n:=by obtain⟨n,e,-,hw⟩:=DataW.trod_int Tryz.underlying3 h;exact⟨n,List.head_eq_of_cons_eq e⟩
theorem Zsf {v0 v1:Value}{y:DataW H×List MemPlace}(h:DataW.trod enc Tryz.prog w 0 (fun _=>true) held fuel 22 [v0,v1]=some y):∃ n m:Int,v0=.int .i64 n∧v1=.int .i64 m:=by
 obtain⟨xs,m,-,-,-,hxl,hall⟩:=DataW.trod_array Tryz.underlying22 h;obtain⟨x0,x1,rfl⟩:=Yfo hxl;have h0:DataW.trod enc Tryz.prog w 0 (fun _=>true) held m 3 [v0]=some x0:=by have:=hall 0 (by decide);rw [Tryz.cellsIntQ] at this;exact this
 have h1:DataW.trod enc Tryz.prog w 0 (fun _=>true) held m 3 [v1]=some x1:=by have:=hall 1 (by decide);rw [Tryz.cellsIntQ] at this;exact this
 obtain⟨n,e0⟩:=Mm h0;obtain⟨k,e1⟩:=Mm h1;exact⟨n,k,e0,e1⟩
end
end Go.Proofs.YtkenknfgeoecbaaGreatDoor
namespace Go.Proofs.YtkenknfgeoecbaaGreatDoor
open Go.RowKit
set_option maxHeartbeats 1000000
theorem Zax {w:World}{v:Value}{ns:List Int}(h:Rs w v ns):∀ w' b,Below w.heap.size w w'->w.heap.size<=b->Lst w' b v ns:=by
 intro w' b hb hle;rcases h with h | ⟨sb,so,cap,e,hc⟩
 ·exact Or.inl h
 ·cases ns with
  | nil=>exact Or.inl ⟨rfl,_,_,e⟩
  | cons n r=>have h0:=ltc (hc 0 (by simp));exact Or.inr ⟨sb,so,cap,e,⟨fun i hi=>(hb.cell (p:=⟨sb,so+i,none⟩) h0).trans (hc i hi),Or.inl (Nat.lt_of_lt_of_le h0 hle)⟩⟩
structure Tb (w:World)(r sp lk t0 t1:Int)(va vr vs:Value)(al sh by_:Int)(ag rs ss:List Int):Prop where
 tabs:Kv w
 o:okN r∧okN sp∧okN lk∧okN t0∧okN t1∧okN al∧okN sh∧okN by_
 a:okI ag∧okI rs∧okI ss
 l:Rs w va ag∧Rs w vr rs∧Rs w vs ss
 n:ag.length+rs.length+ss.length<=4000000
theorem Tb.below {w w':World}{r sp lk t0 t1:Int}{va vr vs:Value}{al sh by_:Int}{ag rs ss:List Int}(h:Tb w r sp lk t0 t1 va vr vs al sh by_ ag rs ss)(hb:Below w.heap.size w w'):Tb w' r sp lk t0 t1 va vr vs al sh by_ ag rs ss :=
 ⟨h.tabs.below hb h.tabs.gb,h.o,h.a,⟨h.l.1.below hb,h.l.2.1.below hb,h.l.2.2.below hb⟩,h.n⟩
theorem Tb.alloc {w:World}{r sp lk t0 t1:Int}{va vr vs:Value}{al sh by_:Int}{ag rs ss:List Int}(h:Tb w r sp lk t0 t1 va vr vs al sh by_ ag rs ss)(o:Obj):Tb (w.alloc o) r sp lk t0 t1 va vr vs al sh by_ ag rs ss :=
 h.below ((Below.refl _ _).alloc (Nat.le_refl _) o)
theorem Yid {w:World}{r sp lk t0 t1:Int}{va vr vs:Value}{al sh by_:Int}{ag rs ss:List Int}(pr:Bool)(h:Tb w r sp lk t0 t1 va vr vs al sh by_ ag rs ss) :
 Calls Tryz.prog 46 #[.agg (Zu r sp lk t0 t1 va vr vs al sh by_ pr)] w fun e w'=>e=.returned (.string ⟨(Mk r sp lk t0 t1 ag rs ss al sh by_ pr).toArray⟩)∧Below w.heap.size w w' :=
 Yfc r sp lk t0 t1 va vr vs al sh by_ pr ag rs ss w h.tabs h.o.1 h.o.2.1 h.o.2.2.1 h.o.2.2.2.1 h.o.2.2.2.2.1 h.o.2.2.2.2.2.1 h.o.2.2.2.2.2.2.1 h.o.2.2.2.2.2.2.2 h.a.1 h.a.2.1 h.a.2.2 (Zax h.l.1) (Zax h.l.2.1) (Zax h.l.2.2) h.n
theorem Yie {w:World}{r sp lk t0 t1:Int}{va vr vs:Value}{al sh by_:Int}{ag rs ss:List Int}(pr:Bool)(h:Tb w r sp lk t0 t1 va vr vs al sh by_ ag rs ss) :
 Calls Tryz.prog 31 #[.agg (Zu r sp lk t0 t1 va vr vs al sh by_ pr)] w fun e w'=>e=.returned (.string ⟨(Mk r sp lk t0 t1 ag rs ss al sh by_ pr).toArray⟩)∧Below w.heap.size w w':=by
 have HH:=Zt h;clear h;have HC:=Zt (Yid pr ((Zf HH).alloc (.cells (Zu r sp lk t0 t1 va vr vs al sh by_ pr) 25)));unfold Zu at HC ⊢;go_enter Tryz.func31,Tryz.ntmps31
 go_wp2_with fail
 refine(Zf HC).mono ?_;rintro e w' ⟨rfl,hb⟩;have HB:=Zt (((Below.refl w.heap.size w).alloc (Nat.le_refl _) _).trans (hb.mono (by simp)));clear hb;go_wp2;go_ret;exact⟨rfl,Zf HB⟩
theorem Yif {w:World}{r sp lk t0 t1:Int}{va vr vs:Value}{al sh by_:Int}{ag rs ss:List Int}(pr:Bool)(h:Tb w r sp lk t0 t1 va vr vs al sh by_ ag rs ss) :
 Calls Tryz.prog 17 #[.agg (Zu r sp lk t0 t1 va vr vs al sh by_ pr)] w fun e w'=>e=.returned (.string ⟨(Mk r sp lk t0 t1 ag rs ss al sh by_ pr).toArray⟩)∧Below w.heap.size w w':=by
 have HH:=Zt h;clear h;have HC:=Zt (Yie pr ((Zf HH).alloc (.cells (Zu r sp lk t0 t1 va vr vs al sh by_ pr) 25)));unfold Zu at HC ⊢;go_enter Tryz.func17,Tryz.ntmps17
 go_wp2_with fail
 refine(Zf HC).mono ?_;rintro e w' ⟨rfl,hb⟩;have HB:=Zt (((Below.refl w.heap.size w).alloc (Nat.le_refl _) _).trans (hb.mono (by simp)));clear hb;go_wp2;go_ret;exact⟨rfl,Zf HB⟩
set_option maxRecDepth 1000000
structure Env (w:World):Prop where
 u8:U8 w
 it:Itm w
 er:Yd w
 tb:Kv w
theorem Env.below {w w':World}(h:Env w)(hb:Below w.heap.size w w'):Env w' :=
 ⟨h.u8.below hb h.u8.lt,h.it.grown (Zo (row:=some w.heap.size) hb) (Nat.ne_of_lt h.it.lt),h.er.below hb (Xi h.er),h.tb.below hb h.tb.gb⟩
structure L3 (w:World)(va vr vs:Value)(ag rs ss:List Int):Prop where
 a:Rs w va ag
 r:Rs w vr rs
 s:Rs w vs ss
 ca:∀ a n cap,va=.slice a n cap->n<=cap
 cr:∀ a n cap,vr=.slice a n cap->n<=cap
 cs:∀ a n cap,vs=.slice a n cap->n<=cap
theorem L3.below {w w':World}{va vr vs:Value}{ag rs ss:List Int}(h:L3 w va vr vs ag rs ss)(hb:Below w.heap.size w w'):L3 w' va vr vs ag rs ss:=⟨h.a.below hb,h.r.below hb,h.s.below hb,h.ca,h.cr,h.cs⟩
theorem Znt {r sp lk t0 t1:Int}{ag rs ss:List Int}{al sh by_:Int}(h:Jl r sp lk t0 t1 ag rs ss al sh by_=true):(okN r∧okN sp∧okN lk∧okN t0∧okN t1∧okN al∧okN sh∧okN by_)∧(okI ag∧okI rs∧okI ss)∧ag.length+rs.length+ss.length<=4000000:=by
 unfold Jl at h;simp only [Bool.and_eq_true] at h;obtain⟨⟨h1,h2⟩,h3⟩:=h;have n1:=of_decide_eq_true h1;have n2:=of_decide_eq_true h2;unfold Jz at h3;simp only [Bool.and_eq_true] at h3;obtain⟨⟨⟨⟨⟨k0,k1,-⟩,k2,-⟩,k3,-⟩,-⟩,-⟩:=h3;have m0:=Zag k0;have own:(0<=sp∧sp<r)∧(0<=t0∧t0<r)∧(0<=t1∧t1<r)∧(lk=-1∨(0<=lk∧lk<r)):=by
  unfold Yp at m0;by_cases hk:lk=-1
  ·rw [if_pos hk] at m0;exact⟨m0 sp (by simp),m0 t0 (by simp),m0 t1 (by simp),Or.inl hk⟩
  ·rw [if_neg hk] at m0;exact⟨m0 sp (by simp),m0 t0 (by simp),m0 t1 (by simp),Or.inr (m0 lk (by simp))⟩
 have each:∀ l:List Int,(∀ n ∈ l,0<=n∧n<r)->okI l:=fun l hl n hn=>by have:=hl n hn; omega
 unfold okN;refine⟨⟨by omega,by omega,by omega,by omega,by omega,by omega,by omega,by omega⟩,⟨each _ (Zag k1),each _ (Zag k2),each _ (Zag k3)⟩,by omega⟩
theorem Yhr {w:World}{r sp lk t0 t1:Int}{va vr vs:Value}{al sh by_:Int}{ag rs ss:List Int}(hE:Env w)(h:Jl r sp lk t0 t1 ag rs ss al sh by_=true)(hl:L3 w va vr vs ag rs ss):Tb w r sp lk t0 t1 va vr vs al sh by_ ag rs ss :=
 have b:=Znt h;⟨hE.tb,b.1,b.2.1,⟨hl.a,hl.r,hl.s⟩,b.2.2⟩
theorem Zxv:Zkv (Xo ⟨(Mk 12 11 (-1) 9 10 [0,1,2,3] [0,1] [5,6,7] 16 0 2 false).toArray⟩) [[12],[11],[-1],[9,10],[0,1,2,3],[0,1],[5,6,7],[16],[0],[2]] false=true:=by kernel_rfl
theorem Znu (w:World)(hE:Env w) :
 Calls Tryz.prog 16 #[.string ⟨(Mk 12 11 (-1) 9 10 [0,1,2,3] [0,1] [5,6,7] 16 0 2 false).toArray⟩] w fun e w'=>Below w.heap.size w w'∧∃ a4 n4 p4 a5 n5 p5 a6 n6 p6,e=.returned (.tuple #[.agg (Zu 12 11 (-1) 9 10 (.slice a4 n4 p4) (.slice a5 n5 p5) (.slice a6 n6 p6) 16 0 2 false),Rm 0 (-1) (-1) (-1)]):=by
 obtain⟨S,hS,v,v10⟩:=Znr Zxv;refine(Zge _ w hE.u8 hE.it hE.er).mono ?_;rintro e w' ⟨hb,hm⟩;rw [hS] at hm;simp only at hm;obtain⟨u4,u5,u6,rfl,r4,r5,r6,-⟩:=hm;obtain⟨a4,n4,p4,rfl⟩:=On r4;obtain⟨a5,n5,p5,rfl⟩:=On r5;obtain⟨a6,n6,p6,rfl⟩:=On r6;refine⟨hb,a4,n4,p4,a5,n5,p5,a6,n6,p6,?_⟩;unfold Zez;rw [v 0 (by decide),v 1 (by decide),v 2 (by decide),v 3 (by decide),v 7 (by decide),v 8 (by decide),v 9 (by decide),v10];rfl
theorem Znv:Xo ⟨#[]⟩=.inl (1,0):=by rfl
theorem Zhz (w:World)(hE:Env w):Calls Tryz.prog 16 #[.string ⟨#[]⟩] w fun e w'=>e=.returned (.tuple #[Zad,Rm 1 (-1) (-1) 0])∧Below w.heap.size w w':=by refine(Zge _ w hE.u8 hE.it hE.er).mono ?_;rintro e w' ⟨hb,hm⟩;rw [Znv] at hm;exact⟨hm,hb⟩
theorem Zso (w:World)(hE:Env w):Calls Tryz.prog 15 #[.int .i64 0] w fun e w'=>Below w.heap.size w w'∧∃ a4 n4 p4 a5 n5 p5 a6 n6 p6,e=.returned (.tuple #[.agg (Zu 12 11 (-1) 9 10 (.slice a4 n4 p4) (.slice a5 n5 p5) (.slice a6 n6 p6) 16 0 2 false),Rm 0 (-1) (-1) (-1)])∧L3 w' (.slice a4 n4 p4) (.slice a5 n5 p5) (.slice a6 n6 p6) [0,1,2,3] [0,1] [5,6,7]:=by refine(Zsc 0 (by omega) w hE.u8 hE.it hE.er).mono ?_;rintro e w' ⟨hb,v4,v5,v6,rfl,r4,r5,r6,-⟩;obtain⟨a4,n4,p4,rfl⟩:=On r4;obtain⟨a5,n5,p5,rfl⟩:=On r5;obtain⟨a6,n6,p6,rfl⟩:=On r6;exact⟨hb,a4,n4,p4,a5,n5,p5,a6,n6,p6,rfl,Du (ns:=[0,1,2,3]) r4,Du (ns:=[0,1]) r5,Du (ns:=[5,6,7]) r6,Uh r4,Uh r5,Uh r6⟩
theorem Yce:Jl 12 11 (-1) 9 10 [0,1,2,3] [0,1] [5,6,7] 16 0 2=true:=by kernel_rfl
theorem Ycf:Jl 0 0 0 0 0 [] [] [] 0 0 0=false:=by kernel_rfl
theorem Yim (w:World):L3 w (.slice none 0 0) (.slice none 0 0) (.slice none 0 0) [] [] [] :=
 ⟨Or.inl ⟨rfl,_,_,rfl⟩,Or.inl ⟨rfl,_,_,rfl⟩,Or.inl ⟨rfl,_,_,rfl⟩,fun _ _ _ e=>by injection e with _ e2 e3; omega,fun _ _ _ e=>by injection e with _ e2 e3; omega,fun _ _ _ e=>by injection e with _ e2 e3; omega⟩
theorem Yhs {r sp lk t0 t1:Int}{va vr vs:Value}{al sh by_:Int}(pr:Bool){ag rs ss:List Int}(w:World)(hE:Env w)(hl:L3 w va vr vs ag rs ss):Calls Tryz.prog 18 #[.agg (Zu r sp lk t0 t1 va vr vs al sh by_ pr)] w fun e w'=>e=.returned (Rm (Zxj (Jl r sp lk t0 t1 ag rs ss al sh by_)) (-1) (-1) (-1))∧Below w.heap.size w w' :=
 Zsg r sp lk t0 t1 va vr vs al sh by_ pr ag rs ss w hE.er hl.a hl.r hl.s hl.ca hl.cr hl.cs
set_option maxHeartbeats 4000000
set_option maxRecDepth 100000
def Zns:Zj:=⟨[(0,0),(0,1)],1,[5,-1],[],[[⟨3,1,0,1,0,0,[],[]⟩,⟨16,0,0,0,0,0,[],[1]⟩]]⟩
def Yt:Zk:=⟨[Zns],[]⟩
theorem Zxu:∀ f ∈ Yt.funcs,∀ l ∈ f.blocks,∀ i ∈ l,i.op=3∨i.op=16:=by decide
theorem alK (w:World)(o:Obj)(g:Nat)(h:g<w.heap.size):(w.alloc o).heap[g]?=w.heap[g]?:=Gs _ _ _ h
theorem Zbh {w:World}{g so:Nat}{cs:Array Value}{t:TypeId}{fr:Nat×Nat}{l:List Value}(h:w.heap[g]?=some (.cells cs t fr))(hl:(cs.toList.drop so).take l.length=l):w.rangeAt g so l:=by
 intro j x hx;rw [Zl h (so+j),← Array.getElem?_toList];have hj:j<l.length:=by
  rcases Nat.lt_or_ge j l.length with h' | h'
  ·exact h'
  ·rw [List.getElem?_eq_none h'] at hx; cases hx
 rw [← hx];conv=>rhs; rw [← hl]
 rw [List.getElem?_take_of_lt hj,List.getElem?_drop]
theorem alN {A:World}{o:Obj}{k:Nat}(h:k=A.heap.size):(A.alloc o).heap[k]?=some o:=h ▸ heap_alloc_new A o
theorem Yhq (w:World)(o0 o1 o2 o3 o4 o5 o6:Obj)(V:World)(hV:V=((((((w.alloc o0).alloc o1).alloc o2).alloc o3).alloc o4).alloc o5).alloc o6):V.heap.size=w.heap.size+7∧V.heap[w.heap.size+1]?=some o1∧V.heap[w.heap.size+1+1]?=some o2∧V.heap[w.heap.size+1+1+1]?=some o3∧V.heap[w.heap.size+1+1+1+1]?=some o4∧V.heap[w.heap.size+1+1+1+1+1]?=some o5∧V.heap[w.heap.size+1+1+1+1+1+1]?=some o6:=by
 subst hV;refine⟨by simp,?_,?_,?_,?_,?_,?_⟩
 ·exact(alK _ _ _ (by simp <;> omega)).trans ((alK _ _ _ (by simp <;> omega)).trans ((alK _ _ _ (by simp <;> omega)).trans ((alK _ _ _ (by simp <;> omega)).trans ((alK _ _ _ (by simp <;> omega)).trans (alN (by simp))))))
 ·exact(alK _ _ _ (by simp <;> omega)).trans ((alK _ _ _ (by simp <;> omega)).trans ((alK _ _ _ (by simp <;> omega)).trans ((alK _ _ _ (by simp <;> omega)).trans (alN (by simp)))))
 ·exact(alK _ _ _ (by simp <;> omega)).trans ((alK _ _ _ (by simp <;> omega)).trans ((alK _ _ _ (by simp <;> omega)).trans (alN (by simp))))
 ·exact(alK _ _ _ (by simp <;> omega)).trans ((alK _ _ _ (by simp <;> omega)).trans (alN (by simp)))
 ·exact(alK _ _ _ (by simp <;> omega)).trans (alN (by simp))
 ·exact alN (by simp)
theorem ls0 (size:Nat)(w:World)(A:Nat->Array Value):LS size w (.slice none 0 0) 0 A:=⟨none,0,rfl,Nat.le_refl _,by decide,fun h=>absurd h (by decide)⟩
theorem Ycd (w:World):Calls Tryz.prog 19 #[] w fun e w'=>(∃ b A E,e=.returned (.agg #[.slice (some ⟨b,0,none⟩) 1 1,.slice none 0 0])∧Mo w' (.slice (some ⟨b,0,none⟩) 1 1) (.slice none 0 0) Yt A E)∧Below w.heap.size w w':=by
 go_enter Tryz.func19,Tryz.ntmps19
 go_wp2;go_returns;refine⟨⟨_,fun _=>#[.slice (some ⟨w.heap.size+1,0,none⟩) 2 2,.int .i64 1,.slice (some ⟨w.heap.size+1+1,0,none⟩) 2 2,.slice none 0 0,.slice (some ⟨w.heap.size+1+1+1+1+1,0,none⟩) 1 1],fun _=>#[],rfl,?_⟩,by go_grown⟩;obtain⟨hz,r1,r2,r3,r4,r5,r6⟩:=Yhq w _ _ _ _ _ _ _ _ rfl;generalize World.alloc _ _=V at hz r1 r2 r3 r4 r5 r6 ⊢;have k2:∀ i,i<2->i=0∨i=1:=fun i hi=>by omega
 have hblk:Zaj V (.slice (some ⟨w.heap.size+1+1+1+1,0,none⟩) 2 2) [⟨3,1,0,1,0,0,[],[]⟩,⟨16,0,0,0,0,0,[],[1]⟩]:=by
  refine⟨fun k=>if k=0 then #[.int .i64 3,.int .i64 1,.int .i64 0,.int .i64 1,.int .u64 0,.int .i64 0,.slice none 0 0,.slice none 0 0] else #[.int .i64 16,.int .i64 0,.int .i64 0,.int .i64 0,.int .u64 0,.int .i64 0,.slice none 0 0,.slice (some ⟨w.heap.size+1+1+1,0,none⟩) 1 1],⟨_,2,rfl,Nat.le_refl _,show(2:Nat)<Xe by decide,fun _=>⟨_,0,rfl,by omega,fun i hi=>?_⟩⟩,fun k hk=>?_⟩
  ·rcases k2 i hi with rfl | rfl
   ·exact Zbh r4 rfl
   ·exact Zbh r4 rfl
  ·rcases k2 k hk with rfl | rfl
   ·exact⟨_,_,rfl,ls0 _ _ _,Li.nil _⟩
   ·exact⟨_,_,rfl,ls0 _ _ _,Li.new (ns:=[1]) r3 (by decide)⟩
 refine⟨⟨_,1,rfl,Nat.le_refl _,show(1:Nat)<Xe by decide,fun _=>⟨_,0,rfl,by omega,fun i hi=>?_⟩⟩,fun k hk=>?_,ls0 _ _ _,fun k hk=>absurd hk (by simp [Yt])⟩
 ·obtain rfl:i=0:=by simp [Yt] at hi; exact hi
  exact Zbh r6 rfl
 ·obtain rfl:k=0:=by simp [Yt] at hk; exact hk
  refine⟨_,_,_,_,fun _=>.slice (some ⟨w.heap.size+1+1+1+1,0,none⟩) 2 2,rfl,⟨_,2,rfl,Nat.le_refl _,show(2:Nat)<Xe by decide,fun _=>⟨_,0,rfl,by omega,fun i hi=>?_⟩⟩,Li.new (ns:=[5,-1]) r2 (by decide),Li.nil _,⟨_,1,rfl,Nat.le_refl _,show(1:Nat)<Xe by decide,fun _=>⟨_,0,rfl,by omega,fun i hi=>?_⟩⟩,fun k hk=>?_⟩
  ·rcases k2 i hi with rfl | rfl
   ·exact Zbh r1 rfl
   ·exact Zbh r1 rfl
  ·obtain rfl:i=0:=by simp [Yt,Zns] at hi; exact hi
   exact Zbh r5 rfl
  ·obtain rfl:k=0:=by simp [Yt,Zns] at hk; exact hk
   exact hblk
theorem Yin (n f b a:Int)(W:World):(Instr.field 29 (.agg #[.int .i64 n,.int .i64 f,.int .i64 b,.int .i64 a]) 0).run Tryz.prog W=.ok (.int .i64 n) W:=by kernel_rfl
end Go.Proofs.YtkenknfgeoecbaaGreatDoor
