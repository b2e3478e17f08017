import Derived.Test.YtkenknfgeoecbaaGreatDoorJ9
namespace Go.Proofs.YtkenknfgeoecbaaGreatDoor
open Go.RowKit
set_option maxRecDepth 1000000
def Znf:ByteArray:=⟨#[114,101,103,115,32,49,50,59,32,115,112,32,49,49,59,32,108,105,110,107,32,45,59,32,116,101,109,112,115,32,57,32,49,48,59,32,97,114,103,115,32,48,32,49,32,50,32,51,59,32,114,101,115,117,108,116,115,32,48,32,49,59,32,115,97,118,101,115,32,53,32,54,32,55,59,32,97,108,105,103,110,32,49,54,59,32,115,104,97,100,111,119,32,48,59,32,98,121,114,101,102,32,50,59]⟩
def Zng:ByteArray:=⟨#[114,101,103,115,32,49,52,59,32,115,112,32,49,51,59,32,108,105,110,107,32,49,50,59,32,116,101,109,112,115,32,49,48,32,49,49,59,32,97,114,103,115,32,48,32,49,32,50,32,51,59,32,114,101,115,117,108,116,115,32,48,32,49,59,32,115,97,118,101,115,32,54,32,55,32,56,32,57,59,32,97,108,105,103,110,32,49,54,59,32,115,104,97,100,111,119,32,49,54,59,32,98,121,114,101,102,32,50,59,32,112,97,105,114,115,59]⟩
def Zjz (x:(Nat×Nat) ⊕ Um)(v:List (List Int))(p:Bool):Bool:=match x with
 | .inr S=>(List.range 10).all (fun k=>decide (S.vals k=v.getD k []))&&decide (S.sn 10=p)
 | .inl _=>false
theorem Zwc:Zjz (Xk Znf) [[12],[11],[-1],[9,10],[0,1,2,3],[0,1],[5,6,7],[16],[0],[2]] false=true:=by kernel_rfl
theorem Zwd:Zjz (Xk Zng) [[14],[13],[12],[10,11],[0,1,2,3],[0,1],[6,7,8,9],[16],[16],[2]] true=true:=by kernel_rfl
theorem Znh {x:(Nat×Nat) ⊕ Um}{v:List (List Int)}{p:Bool}(h:Zjz x v p=true):∃ S,x=.inr S∧(∀ k,k<10->S.vals k=v.getD k [])∧S.sn 10=p:=by
 cases x with
 | inl y=>cases h
 | inr S=>simp only [Zjz,Bool.and_eq_true,List.all_eq_true,List.mem_range,decide_eq_true_eq] at h;exact⟨S,rfl,h.1,h.2⟩
set_option maxHeartbeats 8000000
set_option maxRecDepth 100000
theorem Zvl (s:ByteArray)(w:World)(hU:U8 w)(hI:Ck w):Calls Tryz.prog 30 #[.string s] w (Zpi s w):=by
 have hit:=hI.lt;have HU:=Ze hU;have HI:=Ze hI;clear hU hI;go_enter Tryz.func30,Tryz.ntmps30
 go_wp2_with fail
 have hlow:=fun X=>(Below.refl w.heap.size w).alloc (Nat.le_refl _) X;refine(Zjw s _ ((Zb HU).below (hlow _) (Zb HU).lt) ((Zb HI).grown (Zn (row:=some w.heap.size) (hlow _)) (Nat.ne_of_lt hit))).mono ?_;rintro e w1 ⟨hb1,arr,ev,rfl,hA1,hA2,hM⟩;have HBL:=Ze ((hlow _).trans (hb1.mono (by simp)));have HR:=Ze ((hb1.block w.heap.size (by simp)).trans (heap_alloc_new w _));have HM:=Ze hM;clear hb1 hM hlow;go_wp2_with (refine wpList_store_row rfl 25 (.tmp 2) (.tmp 6) rfl w.heap.size arr rfl rfl 25 _ (Zb HR) (Tryz.infTab.trans (congrArg some hA1.symm)) hA1.symm hA2 ?_)
 refine bodyPost_ret (Ym (fn:=Tryz.f30) (p:=2) (u:=3) (ty:=25) rfl _ _ w.heap.size 25 arr (0,0) _ rfl (setRow_heap _ _ _ _ _ _ (Zb HR)) Tryz.underlying25 rfl (Tryz.infTab.trans (congrArg some hA1.symm))) rfl ?_;exact⟨below_setRow (Zb HBL) (Nat.le_refl _) _,arr,ev,rfl,hA1,hA2,((Zb HM).setRow (by simp) _).mono (by simp)⟩
theorem Rg {P:Program}{fn:Func}{p q:Tmp}{ty uy:TypeId}(h:fn.results=#[.cell p ty,.cell q uy])(tmps:Array Value)(w:World)(g:Nat)(t:TypeId)(cs:Array Value)(fr:Nat×Nat)(d:TypeDesc)
 (hp:tmps.getD p undef=.pointer (some ⟨g,0,none⟩)) (hg:w.heap[g]?=some (.cells cs t fr)) (hu:P.underlying ty=some d) (hd:(match d with | .struct _ | .array _ _=>true | _=>false)=true) (hi:(P.info? ty).map (·.size)=some cs.size)
 (g':Nat) (t':TypeId) (cs':Array Value) (fr':Nat×Nat) (d':TypeDesc)
 (hp':tmps.getD q undef=.pointer (some ⟨g',0,none⟩)) (hg':w.heap[g']?=some (.cells cs' t' fr')) (hu':P.underlying uy=some d') (hd':(match d' with | .struct _ | .array _ _=>true | _=>false)=true) (hi':(P.info? uy).map (·.size)=some cs'.size) :
 (results fn tmps).run P w=.ok (.tuple #[.agg cs,.agg cs']) w:=by
 have e1:tmps[p]?.getD undef=.pointer (some ⟨g,0,none⟩):=by simpa using hp
 have e2:tmps[q]?.getD undef=.pointer (some ⟨g',0,none⟩):=by simpa using hp'
 simp [results,h,e1,e2,asAddr,run_loadVar_row w g t ty cs fr d hg hu hd hi,run_loadVar_row w g' t' uy cs' fr' d' hg' hu' hd' hi']
theorem Tryz.infFlt:(Tryz.prog.info? 29).map (·.size)=some 4:=by kernel_rfl
structure PlS (W:World)(T N:Nat)(u:World):Prop where
 size:N<=u.heap.size
 same:∀ q,q<N->q≠T->q≠T+1->u.heap[q]?=W.heap[q]?
 b0:∃ cs,cs.size=12∧u.heap[T]?=some (.cells cs 25 (0,0))
 b1:∃ cs,cs.size=4∧u.heap[T+1]?=some (.cells cs 29 (0,0))
 os:u.os=W.os
 tape:u.tape=W.tape
 output:u.output=W.output
structure PlR (W:World)(T N:Nat)(arr fv:Array Value)(u u':World):Prop where
 s:PlS W T N u'
 r0:u'.heap[T]?=u.heap[T]?∨u'.heap[T]?=some (.cells arr 25 (0,0))
 r1:u'.heap[T+1]?=u.heap[T+1]?∨u'.heap[T+1]?=some (.cells fv 29 (0,0))
def OkL (arr fv:Array Value)(ev:Value)(T:Nat)(i:Nat)(v:Value)(u:World):Prop :=
 match i with
 | 0=>v=.agg arr
 | 1=>v=ev
 | 2=>v=.agg fv
 | 3=>u.heap[T]?=some (.cells arr 25 (0,0))
 | 4=>u.heap[T+1]?=some (.cells fv 29 (0,0))
 | _=>True
theorem OkL.stab {W:World}{N:Nat}(arr fv:Array Value)(ev:Value)(T:Nat)(i:Nat)(v:Value)(u u':World)(h:OkL arr fv ev T i v u)(hr:PlR W T N arr fv u u'):OkL arr fv ev T i v u':=by
 unfold OkL at *;split at h
 ·exact h
 ·exact h
 ·exact h
 ·exact hr.r0.elim (fun e=>e.trans h) id
 ·exact hr.r1.elim (fun e=>e.trans h) id
 ·trivial
theorem PlS.same_refl {W:World}{T N:Nat}{arr fv:Array Value}{u:World}(h:PlS W T N u):PlR W T N arr fv u u:=⟨h,Or.inl rfl,Or.inl rfl⟩
theorem Zgo (s:ByteArray)(w:World)(hU:U8 w)(hI:Ck w)(Post:Array Value->Array Value->World->Prop)(G:Array Value->Value->Array Value->World->Prop)
 (hcall:∀ w0,U8 w0->Ck w0->Below w.heap.size w w0->w0.heap.size=w.heap.size+2->Calls Tryz.prog 30 #[.string s] w0 fun e w1=>Below w0.heap.size w0 w1∧∃ arr ev fv,e=.returned (.tuple #[.agg arr,ev])∧(arr.size=12∧arr.all (·.oneCell')=true)∧(fv.size=4∧fv.all (·.oneCell')=true)∧G arr ev fv w1)
 (hfault:∀ arr ev fv w1 u,G arr ev fv w1->Below w.heap.size w w1->(∀ q,q<w1.heap.size->q≠w.heap.size->q≠w.heap.size+1->u.heap[q]?=w1.heap[q]?)->Calls Tryz.prog 26 #[ev] u fun e u'=>e=.returned (.agg fv)∧Below u.heap.size u u')
 (hpost:∀ arr ev fv w1 u,G arr ev fv w1->Below w.heap.size w u->(∀ q,q<w1.heap.size->q≠w.heap.size->q≠w.heap.size+1->u.heap[q]?=w1.heap[q]?)->u.os=w1.os->u.tape=w1.tape->u.output=w1.output->w1.heap.size<=u.heap.size->Post arr fv u) :
 Calls Tryz.prog 16 #[.string s] w fun e w'=>∃ arr fv,e=.returned (.tuple #[.agg arr,.agg fv])∧Below w.heap.size w w'∧Post arr fv w':=by
 have hit:=hI.lt;have HU:=Ze hU;have HI:=Ze hI;have HC:=Ze hcall;have HFa:=Ze hfault;have HPo:=Ze hpost;clear hU hI hcall hfault hpost;go_enter Tryz.func16,Tryz.ntmps16
 go_wp2_with fail
 have hlow:∀ X Y,Below w.heap.size w ((w.alloc X).alloc Y):=fun X Y=>((Below.refl w.heap.size w).alloc (Nat.le_refl _) X).alloc (by simp) Y;refine(Zb HC _ ((Zb HU).below (hlow _ _) (Zb HU).lt) ((Zb HI).grown (Zn (row:=some w.heap.size) (hlow _ _)) (Nat.ne_of_lt hit)) (hlow _ _) (by simp)).mono ?_;rintro e w1 ⟨hb1,arr,ev,fv,rfl,⟨hA1,hA2⟩,⟨hf1,hf2⟩,hG⟩;have hz1:=hb1.size;simp only [World.size_alloc] at hz1;have HBL:=Ze ((hlow _ _).trans (hb1.mono (by simp; try omega)));have HR0:=Ze ((hb1.block w.heap.size (by simp; try omega)).trans ((Gi _ _ _ (by simp)).trans (heap_alloc_new w _)));have HR1:=Ze ((hb1.block (w.heap.size+1) (by simp)).trans (heap_alloc2_new w _ _));have HG:=Ze hG;clear hb1 hG hlow;go_wp2_with (refine wpList_store_row rfl 25 (.tmp 4) (.tmp 9) rfl w1.heap.size arr rfl rfl 25 _ (heap_alloc_new _ _) (Tryz.infTab.trans (congrArg some hA1.symm)) hA1.symm hA2 ?_; rw [Rc])
 have hS0:PlS (w1.alloc (.cells arr 25)) w.heap.size (w1.heap.size+1) (w1.alloc (.cells arr 25)).drew:=⟨by simp,fun _ _ _ _=>rfl,⟨_,rfl,(Gi _ _ _ (by omega)).trans (Zb HR0)⟩,⟨_,rfl,(Gi _ _ _ (by omega)).trans (Zb HR1)⟩,rfl,rfl,rfl⟩;have hX:(w1.alloc (.cells arr 25)).heap[w1.heap.size]?=some (.cells arr 25 (0,0)):=heap_alloc_new _ _;have hk1:∀ q,q<w1.heap.size->(w1.alloc (.cells arr 25)).heap[q]?=w1.heap[q]?:=fun q hq=>Gi _ _ _ hq;refine Zvi (by kernel_rfl) 11 _ (OkL arr fv ev w.heap.size) (PlS (w1.alloc (.cells arr 25)) w.heap.size (w1.heap.size+1)) (PlR (w1.alloc (.cells arr 25)) w.heap.size (w1.heap.size+1) arr fv) ?hd ?hsz ?hle (fun i v u u' h hr=>OkL.stab arr fv ev w.heap.size i v u u' h hr) (fun u u' _ hr=>hr.s) ?step ?fin hS0;case hd =>
  intro i o ho;have hi:i<5:=(Array.getElem?_eq_some_iff.1 ho).1;match i,hi with
  | 0,_=>obtain rfl:=oR ho; exact⟨Or.inl rfl,rfl⟩
  | 1,_=>obtain rfl:=oR ho; exact⟨Or.inl rfl,rfl⟩
  | 2,_=>obtain rfl:=oR ho; exact⟨Or.inl rfl,rfl⟩
  | 3,_=>obtain rfl:=oR ho; exact⟨Or.inr rfl,rfl⟩
  | 4,_=>obtain rfl:=oR ho; exact⟨Or.inr rfl,rfl⟩
 case hsz =>
  intro i o ho hdo;have hi:i<5:=(Array.getElem?_eq_some_iff.1 ho).1;match i,hi with
  | 0,_=>show 11<14; decide
  | 1,_=>show 12<14; decide
  | 2,_=>show 13<14; decide
  | 3,_=>obtain rfl:=oR ho; cases hdo
  | 4,_=>obtain rfl:=oR ho; cases hdo
 case hle =>
  intro i o ho;have hi:i<5:=(Array.getElem?_eq_some_iff.1 ho).1;match i,hi with
  | 0,_=>obtain rfl:=oR ho; simp
  | 1,_=>obtain rfl:=oR ho; simp
  | 2,_=>obtain rfl:=oR ho; simp
  | 3,_=>obtain rfl:=oR ho; simp
  | 4,_=>obtain rfl:=oR ho; simp
 case step =>
  intro i o ho a u hS hfr hdp;have hi:i<5:=(Array.getElem?_eq_some_iff.1 ho).1;match i,hi with
  | 0,_=>obtain rfl:=oR ho;have f0:a.eval (.tmp 4)=.pointer (some ⟨w1.heap.size,0,none⟩):=hfr 4 (by omega);exact wp_load_row 25 (.tmp 4) rfl w1.heap.size f0 25 arr (0,0) _ ((hS.same w1.heap.size (by omega) (by omega) (by omega)).trans hX) Tryz.underlying25 rfl (Tryz.infTab.trans (congrArg some hA1.symm)) ⟨_,rfl,hS.same_refl,rfl⟩
  | 1,_=>obtain rfl:=oR ho;have f0:a.eval (.tmp 5)=ev:=hfr 5 (by omega);refine Zy (F:=fun v w'=>_∧_) (v:=ev) (w':=u) ?_ ⟨hS.same_refl,rfl⟩;rw [← f0];rfl
  | 2,_ =>
   obtain rfl:=oR ho;have f0:a.eval (.tmp 12)=ev:=hdp ⟨1,.data⟩ (by simp) rfl ⟨_,rfl,rfl⟩;refine Zgn (F:=fun v w'=>_∧_) (f:=26) (args:=#[ev]) (w1:=u) ?_ ((Zb HFa arr ev fv w1 u (Zb HG) (Zb HBL) (fun q hq h1 h2=>(hS.same q (by omega) h1 h2).trans (hk1 q hq))).mono ?_)
   ·clear hdp hfr ho;simp [execOp,go_sem];simpa [Act.eval] using f0
   ·rintro e u' ⟨rfl,hb⟩;obtain⟨c0,k0,l0⟩:=hS.b0;obtain⟨c1,k1,l1⟩:=hS.b1;have hz:=hS.size;exact⟨_,rfl,⟨⟨Nat.le_trans hz hb.size,fun q hq h1 h2=>(hb.block q (by omega)).trans (hS.same q hq h1 h2),⟨c0,k0,(hb.block _ (by omega)).trans l0⟩,⟨c1,k1,(hb.block _ (by omega)).trans l1⟩,hb.os.trans hS.os,hb.tape.trans hS.tape,hb.output.trans hS.output⟩,Or.inl (hb.block _ (by omega)),Or.inl (hb.block _ (by omega))⟩,rfl⟩
  | 3,_=>obtain rfl:=oR ho;have f0:a.eval (.tmp 2)=.pointer (some ⟨w.heap.size,0,none⟩):=hfr 2 (by omega);have f1:a.eval (.tmp 11)=.agg arr:=hdp ⟨0,.data⟩ (by simp) rfl ⟨_,rfl,rfl⟩;obtain⟨c0,k0,l0⟩:=hS.b0;obtain⟨c1,k1,l1⟩:=hS.b1;exact wp_store_row 25 (.tmp 2) (.tmp 11) rfl w.heap.size arr f0 f1 25 c0 l0 (Tryz.infTab.trans (congrArg some hA1.symm)) (k0.trans hA1.symm) hA2 ⟨_,rfl,⟨⟨by simpa using hS.size,fun q hq h1 h2=>(setRow_other _ _ _ _ h1).trans (hS.same q hq h1 h2),⟨arr,hA1,setRow_heap _ _ _ _ _ _ l0⟩,⟨c1,k1,(setRow_other _ _ _ _ (by omega)).trans l1⟩,hS.os,hS.tape,hS.output⟩,Or.inr (setRow_heap _ _ _ _ _ _ l0),Or.inl (setRow_other _ _ _ _ (by omega))⟩,setRow_heap _ _ _ _ _ _ l0⟩
  | 4,_=>obtain rfl:=oR ho;have f0:a.eval (.tmp 3)=.pointer (some ⟨w.heap.size+1,0,none⟩):=hfr 3 (by omega);have f1:a.eval (.tmp 13)=.agg fv:=hdp ⟨2,.data⟩ (by simp) rfl ⟨_,rfl,rfl⟩;obtain⟨c0,k0,l0⟩:=hS.b0;obtain⟨c1,k1,l1⟩:=hS.b1;exact wp_store_row 29 (.tmp 3) (.tmp 13) rfl (w.heap.size+1) fv f0 f1 29 c1 l1 (Tryz.infFlt.trans (congrArg some hf1.symm)) (k1.trans hf1.symm) hf2 ⟨_,rfl,⟨⟨by simpa using hS.size,fun q hq h1 h2=>(setRow_other _ _ _ _ h2).trans (hS.same q hq h1 h2),⟨c0,k0,(setRow_other _ _ _ _ (by omega)).trans l0⟩,⟨fv,hf1,setRow_heap _ _ _ _ _ _ l1⟩,hS.os,hS.tape,hS.output⟩,Or.inl (setRow_other _ _ _ _ (by omega)),Or.inr (setRow_heap _ _ _ _ _ _ l1)⟩,setRow_heap _ _ _ _ _ _ l1⟩
 case fin =>
  intro a u hS hdf hts hout hok hno;have h0:u.heap[w.heap.size]?=some (.cells arr 25 (0,0)):=(hno 3 _ rfl rfl).2.elim fun _ h=>h;have h1:u.heap[w.heap.size+1]?=some (.cells fv 29 (0,0)):=(hno 4 _ rfl rfl).2.elim fun _ h=>h;have e2:a.eval (.tmp 2)=.pointer (some ⟨w.heap.size,0,none⟩):=hout 2 (Or.inl (by omega));have e3:a.eval (.tmp 3)=.pointer (some ⟨w.heap.size+1,0,none⟩):=hout 3 (Or.inl (by omega));have hbu:Below w.heap.size w u:=((Zb HBL).trans (((Below.refl w1.heap.size w1).alloc (Nat.le_refl _) _).mono (by omega))).trans ⟨hS.os,hS.tape,hS.output,by have:=hS.size; simp; omega,fun q hq=>hS.same q (by omega) (by omega) (by omega)⟩;have hpo:=Zb HPo arr ev fv w1 u (Zb HG) hbu (fun q hq k1 k2=>(hS.same q (by omega) k1 k2).trans (hk1 q hq)) hS.os hS.tape hS.output (by have:=hS.size; omega);clear hok hno hout;go_wp2;refine bodyPost_ret (Rg (fn:=Tryz.f16) (p:=2) (q:=3) (ty:=25) (uy:=29) rfl _ _ w.heap.size 25 arr (0,0) _ ?g0 h0 Tryz.underlying25 rfl (Tryz.infTab.trans (congrArg some hA1.symm)) (w.heap.size+1) 29 fv (0,0) _ ?g1 h1 Tryz.underlying29 rfl (Tryz.infFlt.trans (congrArg some hf1.symm))) hdf ?_;case g0=>simpa [Act.eval] using e2
  case g1=>simpa [Act.eval] using e3
  exact⟨arr,fv,rfl,hbu,hpo⟩
def Yac (s:ByteArray)(w:World)(e:Ending)(w':World):Prop :=
 Below w.heap.size w w'∧match Xk s with
  | .inl (n,p)=>e=.returned (.tuple #[Cn,Dt n (-1) (-1) p])
  | .inr S=>∃ v4 v5 v6,e=.returned (.tuple #[Zdz S v4 v5 v6,Dt 0 (-1) (-1) (-1)])∧w'.ownsRow w.heap.size 3 1 v4 (S.vals 4).length (Yz (S.vals 4))∧w'.ownsRow w.heap.size 3 1 v5 (S.vals 5).length (Yz (S.vals 5))∧w'.ownsRow w.heap.size 3 1 v6 (S.vals 6).length (Yz (S.vals 6))∧Zaa v4 v5 v6
theorem Cl {w u:World}{B n:Nat}{v:Value}{xs:List Value}(h:w.ownsRow B 3 1 v n xs)(hs:∀ q,B<=q->q<w.heap.size->u.heap[q]?=w.heap[q]?):u.ownsRow B 3 1 v n xs:=by
 refine⟨h.1,?_⟩;rcases h.2 with h' | ⟨g,cap,cur,h1,h2,h3,h4⟩
 ·exact Or.inl h'
 ·exact Or.inr ⟨g,cap,cur,h1,h2,(hs g h2 (by
   rcases Nat.lt_or_ge g w.heap.size with x | x
   ·exact x
   ·simp [Array.getElem?_eq_none x] at h3)).trans h3,h4⟩
theorem Zfg (s:ByteArray)(w:World)(hU:U8 w)(hI:Ck w)(hE:Zz w):Calls Tryz.prog 16 #[.string s] w (Yac s w):=by
 have h0:=Xe hE;have key:=Zgo s w hU hI
  (fun arr fv u=>match Xk s with
   | .inl (n,p)=>.agg arr=Cn∧.agg fv=Dt n (-1) (-1) p
   | .inr S=>∃ v4 v5 v6,.agg arr=Zdz S v4 v5 v6∧.agg fv=Dt 0 (-1) (-1) (-1)∧u.ownsRow w.heap.size 3 1 v4 (S.vals 4).length (Yz (S.vals 4))∧u.ownsRow w.heap.size 3 1 v5 (S.vals 5).length (Yz (S.vals 5))∧u.ownsRow w.heap.size 3 1 v6 (S.vals 6).length (Yz (S.vals 6))∧Zaa v4 v5 v6)
  (fun arr ev fv w1=>Xy s (w.heap.size+2) arr ev w1∧match Xk s with
   | .inl (n,p)=>.agg fv=Dt n (-1) (-1) p
   | .inr S=>.agg fv=Dt 0 (-1) (-1) (-1))
  ?c1 ?c2 ?c3
 ·refine key.mono ?_;rintro e w' ⟨arr,fv,rfl,hb,hp⟩;refine⟨hb,?_⟩;split
  ·rename_i n p hF;simp only [hF] at hp;rw [hp.1,hp.2]
  ·rename_i S hF;simp only [hF] at hp;obtain⟨v4,v5,v6,e1,e2,r⟩:=hp;exact⟨v4,v5,v6,by rw [e1,e2],r⟩
 case c1 =>
  intro w0 hU0 hI0 hb0 hz0;refine(Zvl s w0 hU0 hI0).mono ?_;rintro e w1 ⟨hb1,arr,ev,rfl,hA1,hA2,hM⟩;rw [hz0] at hM;refine⟨hb1,?_⟩;cases hF:Xk s with
  | inl r=>obtain⟨n,p⟩:=r;exact⟨arr,ev,#[.int .i64 n,.int .i64 (-1),.int .i64 (-1),.int .i64 p],rfl,⟨hA1,hA2⟩,⟨rfl,by simp [Value.oneCell']⟩,hM,rfl⟩
  | inr S=>exact⟨arr,ev,#[.int .i64 0,.int .i64 (-1),.int .i64 (-1),.int .i64 (-1)],rfl,⟨hA1,hA2⟩,⟨rfl,by simp [Value.oneCell']⟩,hM,rfl⟩
 case c2 =>
  rintro arr ev fv w1 u ⟨hM,hf⟩ hb1 hs;have hz1:=hb1.size;have hEu:Zz u:=(World.cell?_of_block (hs 0 (by omega) (by omega) (by omega))).trans (hE.below hb1 h0);unfold Xy at hM;cases hF:Xk s with
  | inl r=>obtain⟨n,p⟩:=r;simp only [hF] at hM hf;obtain⟨_,q,rfl,hq,hB⟩:=hM;have e:=hs q (Xe hB.c0) (by omega) (by omega);rw [hf];exact Ia n (-1) (-1) p q u hEu ⟨(World.cell?_of_block e).trans hB.c0,(World.cell?_of_block e).trans hB.c1,(World.cell?_of_block e).trans hB.c2,(World.cell?_of_block e).trans hB.c3⟩
  | inr S=>simp only [hF] at hM hf;obtain⟨v4,v5,v6,_,rfl,_⟩:=hM;rw [hf];exact Ln u
 case c3 =>
  rintro arr ev fv w1 u ⟨hM,hf⟩ hbu hs _ _ _ hzu;unfold Xy at hM;cases hF:Xk s with
  | inl r=>obtain⟨n,p⟩:=r;simp only [hF] at hM hf ⊢;exact⟨hM.1,hf⟩
  | inr S=>simp only [hF] at hM hf ⊢;obtain⟨v4,v5,v6,e1,_,r4,r5,r6,ap⟩:=hM;have k:=fun{n v xs} (r:w1.ownsRow (w.heap.size+2) 3 1 v n xs)=>Xw (Cl (u:=u) r (fun q h1 h2=>hs q h2 (by omega) (by omega))) (show w.heap.size<=w.heap.size+2 by omega);exact⟨v4,v5,v6,e1,hf,k r4,k r5,k r6,ap⟩
end Go.Proofs.YtkenknfgeoecbaaGreatDoor
