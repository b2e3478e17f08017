import Derived.Test.YtedemloocadimaaGreatDoorJ15
import Derived.Test.YtedemloocadimaaGreatDoorTblReg
import Derived.Deep.CutRange
import Derived.Test.YtedemloocadimaaGreatDoorJ9
import Derived.Test.YtedemloocadimaaGreatDoorJ4
import Derived.Test.YtedemloocadimaaGreatDoorJ10
namespace Go.Proofs.YtedemloocadimaaGreatDoor
open Go.RowKit
set_option maxHeartbeats 8000000
set_option maxRecDepth 100000
def Zkv (o:Option Rg)(B:Nat)(arr:Array Value)(ev:Value)(u:World):Prop:=match o with
 | some S=>GT S B arr u∧ev=.nilIface
 | none=>.agg arr=Zan∧ev=.iface 111 (.int .i64 6)
theorem Zkv.setRow {o:Option Rg}{B T:Nat}{arr:Array Value}{ev:Value}{u:World}(h:Zkv o B arr ev u)(hT:T<B)(cs:Array Value):Zkv o B arr ev (u.setRow T cs):=by
 cases o with
 | none=>exact h
 | some S=>exact⟨h.1.kept (Nh u T cs) hT,h.2⟩
theorem Zkv.mono {o:Option Rg}{B B0:Nat}{arr:Array Value}{ev:Value}{u:World}(h:Zkv o B arr ev u)(hB:B0≤B):Zkv o B0 arr ev u:=by
 cases o with
 | none=>exact h
 | some S=>exact⟨h.1.mono hB,h.2⟩
def Yep (k:Int)(o:Option Rg):Prop:=(k=0∧∃ S,o=some S∧Jt Zoa=.inr S)∨(k=1∧∃ S,o=some S∧Jt Zob=.inr S)∨(k≠0∧k≠1∧o=none)
def Ygs (o:Option Rg)(w:World)(e:Ending)(w':World):Prop :=
 Below w.heap.size w w'∧∃ arr ev,e=.returned (.tuple #[.agg arr,ev])∧arr.size=12∧arr.all (·.oneCell')=true∧Zkv o w.heap.size arr ev w'
theorem Zsn (k:Int)(o:Option Rg)(hk:Yep k o)(w:World)(hU:U8 w)(hI:Itm w):Calls Tryz.prog 36 #[.int .i64 k] w (Ygs o w):=by
 rcases hk with⟨rfl,S,rfl,hS⟩ | ⟨rfl,S,rfl,hS⟩ | ⟨h0,h1,rfl⟩
 ·
  refine(Zrz S hS w hU hI).mono ?_;rintro e w' ⟨hb,arr,rfl,a1,a2,a3⟩;exact⟨hb,arr,_,rfl,a1,a2,a3,rfl⟩
 ·
  refine(Zsa S hS w hU hI).mono ?_;rintro e w' ⟨hb,arr,rfl,a1,a2,a3⟩;exact⟨hb,arr,_,rfl,a1,a2,a3,rfl⟩
 ·
  refine(Zni k ⟨h0,h1⟩ w).mono ?_;rintro e w' ⟨rfl,hb⟩;exact⟨hb,_,_,rfl,rfl,by simp [Yt,Value.oneCell'],rfl,rfl⟩
theorem Zso (k:Int)(o:Option Rg)(hk:Yep k o)(w:World)(hU:U8 w)(hI:Itm w):Calls Tryz.prog 21 #[.int .i64 k] w (Ygs o w):=by
 have hit:=hI.lt;have HU:=Ze hU;have HI:=Ze hI;have HK:=Ze hk;clear hU hI hk;go_enter Tryz.func21,Tryz.ntmps21
 go_wp2_with fail
 have hlow:=fun X=>(Below.refl w.heap.size w).alloc (Nat.le_refl _) X;refine(Zsn k o (Zb HK) _ ((Zb HU).below (hlow _) (Zb HU).lt) ((Zb HI).grown (Ya (row:=some w.heap.size) (hlow _)) (Nat.ne_of_lt hit))).mono ?_;rintro e w1 ⟨hb1,arr,ev,rfl,hA1,hA2,hM⟩;have HBL:=Ze ((hlow _).trans (hb1.mono (by simp)));have HR:=Ze ((hb1.block w.heap.size (by simp)).trans (heap_alloc_new w _));have HM:=Ze hM;clear hb1 hM hlow;go_wp2_with (refine wpList_store_row rfl 37 (.tmp 2) (.tmp 6) rfl w.heap.size arr rfl rfl 37 _ (Zb HR) (Tryz.infTab.trans (congrArg some hA1.symm)) hA1.symm hA2 ?_)
 refine bodyPost_ret (Xx (fn:=Tryz.f21) (p:=2) (u:=3) (ty:=37) rfl _ _ w.heap.size 37 arr (0,0) _ rfl (setRow_heap _ _ _ _ _ _ (Zb HR)) Tryz.underlying37 rfl (Tryz.infTab.trans (congrArg some hA1.symm))) rfl ?_;exact⟨below_setRow (Zb HBL) (Nat.le_refl _) _,arr,ev,rfl,hA1,hA2,((Zb HM).setRow (by simp) _).mono (by simp)⟩
theorem Zey (k:Int)(w:World)(hU:U8 w)(hI:Itm w)(Post:Array Value→Array Value→World→Prop)(G:Array Value→Value→Array Value→World→Prop)
 (hcall:∀ w0,U8 w0→Itm w0→Below w.heap.size w w0→w0.heap.size=w.heap.size+2→Calls Tryz.prog 21 #[.int .i64 k] w0 fun e w1=>Below w0.heap.size w0 w1∧∃ arr ev fv,e=.returned (.tuple #[.agg arr,ev])∧(arr.size=12∧arr.all (·.oneCell')=true)∧(fv.size=4∧fv.all (·.oneCell')=true)∧G arr ev fv w1)
 (hfault:∀ arr ev fv w1 u,G arr ev fv w1→Below w.heap.size w w1→(∀ q,q<w1.heap.size→q≠w.heap.size→q≠w.heap.size+1→u.heap[q]?=w1.heap[q]?)→Calls Tryz.prog 19 #[ev] u fun e u'=>e=.returned (.agg fv)∧Below u.heap.size u u')
 (hpost:∀ arr ev fv w1 u,G arr ev fv w1→Below w.heap.size w u→(∀ q,q<w1.heap.size→q≠w.heap.size→q≠w.heap.size+1→u.heap[q]?=w1.heap[q]?)→u.os=w1.os→u.tape=w1.tape→u.output=w1.output→w1.heap.size≤u.heap.size→Post arr fv u) :
 Calls Tryz.prog 7 #[.int .i64 k] w fun e w'=>∃ arr fv,e=.returned (.tuple #[.agg arr,.agg fv])∧Below w.heap.size w w'∧Post arr fv w':=by
 have hit:=hI.lt;have HU:=Ze hU;have HI:=Ze hI;have HC:=Ze hcall;have HFa:=Ze hfault;have HPo:=Ze hpost;clear hU hI hcall hfault hpost;go_enter Tryz.func7,Tryz.ntmps7
 go_wp2_with fail
 have hlow:∀ X Y,Below w.heap.size w ((w.alloc X).alloc Y):=fun X Y=>((Below.refl w.heap.size w).alloc (Nat.le_refl _) X).alloc (by simp) Y;refine(Zb HC _ ((Zb HU).below (hlow _ _) (Zb HU).lt) ((Zb HI).grown (Ya (row:=some w.heap.size) (hlow _ _)) (Nat.ne_of_lt hit)) (hlow _ _) (by simp)).mono ?_;rintro e w1 ⟨hb1,arr,ev,fv,rfl,⟨hA1,hA2⟩,⟨hf1,hf2⟩,hG⟩;have hz1:=hb1.size;simp only [World.size_alloc] at hz1;have HBL:=Ze ((hlow _ _).trans (hb1.mono (by simp; try omega)));have HR0:=Ze ((hb1.block w.heap.size (by simp; try omega)).trans ((Mn _ _ _ (by simp)).trans (heap_alloc_new w _)));have HR1:=Ze ((hb1.block (w.heap.size+1) (by simp)).trans (heap_alloc2_new w _ _));have HG:=Ze hG;clear hb1 hG hlow;go_wp2_with (refine wpList_store_row rfl 37 (.tmp 4) (.tmp 9) rfl w1.heap.size arr rfl rfl 37 _ (heap_alloc_new _ _) (Tryz.infTab.trans (congrArg some hA1.symm)) hA1.symm hA2 ?_; rw [Sv])
 have hS0:PlS (w1.alloc (.cells arr 37)) w.heap.size (w1.heap.size+1) (w1.alloc (.cells arr 37)).drew:=⟨by simp,fun _ _ _ _=>rfl,⟨_,rfl,(Mn _ _ _ (by omega)).trans (Zb HR0)⟩,⟨_,rfl,(Mn _ _ _ (by omega)).trans (Zb HR1)⟩,rfl,rfl,rfl⟩;have hX:(w1.alloc (.cells arr 37)).heap[w1.heap.size]?=some (.cells arr 37 (0,0)):=heap_alloc_new _ _;have hk1:∀ q,q<w1.heap.size→(w1.alloc (.cells arr 37)).heap[q]?=w1.heap[q]?:=fun q hq=>Mn _ _ _ hq;refine Zwf (by kernel_rfl) 11 _ (OkL arr fv ev w.heap.size) (PlS (w1.alloc (.cells arr 37)) w.heap.size (w1.heap.size+1)) (PlR (w1.alloc (.cells arr 37)) w.heap.size (w1.heap.size+1) arr fv) ?hd ?hsz ?hle (fun i v u u' h hr=>OkL.stab arr fv ev w.heap.size i v u u' h hr) (fun u u' _ hr=>hr.s) ?step ?fin hS0;case hd =>
  intro i o ho;have hi:i<5:=(Array.getElem?_eq_some_iff.1 ho).1;match i,hi with
  | 0,_=>obtain rfl:=(Option.some.inj ho).symm; exact⟨Or.inl rfl,rfl⟩
  | 1,_=>obtain rfl:=(Option.some.inj ho).symm; exact⟨Or.inl rfl,rfl⟩
  | 2,_=>obtain rfl:=(Option.some.inj ho).symm; exact⟨Or.inl rfl,rfl⟩
  | 3,_=>obtain rfl:=(Option.some.inj ho).symm; exact⟨Or.inr rfl,rfl⟩
  | 4,_=>obtain rfl:=(Option.some.inj ho).symm; exact⟨Or.inr rfl,rfl⟩
 case hsz =>
  intro i o ho hdo;have hi:i<5:=(Array.getElem?_eq_some_iff.1 ho).1;match i,hi with
  | 0,_=>show 11<14; decide
  | 1,_=>show 12<14; decide
  | 2,_=>show 13<14; decide
  | 3,_=>obtain rfl:=(Option.some.inj ho).symm; cases hdo
  | 4,_=>obtain rfl:=(Option.some.inj ho).symm; cases hdo
 case hle =>
  intro i o ho;have hi:i<5:=(Array.getElem?_eq_some_iff.1 ho).1;match i,hi with
  | 0,_=>obtain rfl:=(Option.some.inj ho).symm; simp
  | 1,_=>obtain rfl:=(Option.some.inj ho).symm; simp
  | 2,_=>obtain rfl:=(Option.some.inj ho).symm; simp
  | 3,_=>obtain rfl:=(Option.some.inj ho).symm; simp
  | 4,_=>obtain rfl:=(Option.some.inj ho).symm; simp
 case step =>
  intro i o ho a u hS hfr hdp;have hi:i<5:=(Array.getElem?_eq_some_iff.1 ho).1;match i,hi with
  | 0,_ =>
   obtain rfl:=(Option.some.inj ho).symm;have f0:a.eval (.tmp 4)=.pointer (some ⟨w1.heap.size,0,none⟩):=hfr 4 (by omega);exact wp_load_row 37 (.tmp 4) rfl w1.heap.size f0 37 arr (0,0) _ ((hS.same w1.heap.size (by omega) (by omega) (by omega)).trans hX) Tryz.underlying37 rfl (Tryz.infTab.trans (congrArg some hA1.symm)) ⟨_,rfl,hS.same_refl,rfl⟩
  | 1,_ =>
   obtain rfl:=(Option.some.inj ho).symm;have f0:a.eval (.tmp 5)=ev:=hfr 5 (by omega);refine Yz (F:=fun v w'=>_∧_) (v:=ev) (w':=u) ?_ ⟨hS.same_refl,rfl⟩;rw [← f0];rfl
  | 2,_ =>
   obtain rfl:=(Option.some.inj ho).symm;have f0:a.eval (.tmp 12)=ev:=hdp ⟨1,.data⟩ (by simp) rfl ⟨_,rfl,rfl⟩;refine Zhj (F:=fun v w'=>_∧_) (f:=19) (args:=#[ev]) (w1:=u) ?_ ((Zb HFa arr ev fv w1 u (Zb HG) (Zb HBL) (fun q hq h1 h2=>(hS.same q (by omega) h1 h2).trans (hk1 q hq))).mono ?_)
   ·
    clear hdp hfr ho;simp [execOp,go_sem];simpa [Act.eval] using f0
   ·
    rintro e u' ⟨rfl,hb⟩;obtain⟨c0,k0,l0⟩:=hS.b0;obtain⟨c1,k1,l1⟩:=hS.b1;have hz:=hS.size;exact⟨_,rfl,⟨⟨Nat.le_trans hz hb.size,fun q hq h1 h2=>(hb.block q (by omega)).trans (hS.same q hq h1 h2),⟨c0,k0,(hb.block _ (by omega)).trans l0⟩,⟨c1,k1,(hb.block _ (by omega)).trans l1⟩,hb.os.trans hS.os,hb.tape.trans hS.tape,hb.output.trans hS.output⟩,Or.inl (hb.block _ (by omega)),Or.inl (hb.block _ (by omega))⟩,rfl⟩
  | 3,_ =>
   obtain rfl:=(Option.some.inj ho).symm;have f0:a.eval (.tmp 2)=.pointer (some ⟨w.heap.size,0,none⟩):=hfr 2 (by omega);have f1:a.eval (.tmp 11)=.agg arr:=hdp ⟨0,.data⟩ (by simp) rfl ⟨_,rfl,rfl⟩;obtain⟨c0,k0,l0⟩:=hS.b0;obtain⟨c1,k1,l1⟩:=hS.b1;exact wp_store_row 37 (.tmp 2) (.tmp 11) rfl w.heap.size arr f0 f1 37 c0 l0 (Tryz.infTab.trans (congrArg some hA1.symm)) (k0.trans hA1.symm) hA2 ⟨_,rfl,⟨⟨by simpa using hS.size,fun q hq h1 h2=>(setRow_other _ _ _ _ h1).trans (hS.same q hq h1 h2),⟨arr,hA1,setRow_heap _ _ _ _ _ _ l0⟩,⟨c1,k1,(setRow_other _ _ _ _ (by omega)).trans l1⟩,hS.os,hS.tape,hS.output⟩,Or.inr (setRow_heap _ _ _ _ _ _ l0),Or.inl (setRow_other _ _ _ _ (by omega))⟩,setRow_heap _ _ _ _ _ _ l0⟩
  | 4,_ =>
   obtain rfl:=(Option.some.inj ho).symm;have f0:a.eval (.tmp 3)=.pointer (some ⟨w.heap.size+1,0,none⟩):=hfr 3 (by omega);have f1:a.eval (.tmp 13)=.agg fv:=hdp ⟨2,.data⟩ (by simp) rfl ⟨_,rfl,rfl⟩;obtain⟨c0,k0,l0⟩:=hS.b0;obtain⟨c1,k1,l1⟩:=hS.b1;exact wp_store_row 28 (.tmp 3) (.tmp 13) rfl (w.heap.size+1) fv f0 f1 28 c1 l1 (Tryz.infFlt.trans (congrArg some hf1.symm)) (k1.trans hf1.symm) hf2 ⟨_,rfl,⟨⟨by simpa using hS.size,fun q hq h1 h2=>(setRow_other _ _ _ _ h2).trans (hS.same q hq h1 h2),⟨c0,k0,(setRow_other _ _ _ _ (by omega)).trans l0⟩,⟨fv,hf1,setRow_heap _ _ _ _ _ _ l1⟩,hS.os,hS.tape,hS.output⟩,Or.inl (setRow_other _ _ _ _ (by omega)),Or.inr (setRow_heap _ _ _ _ _ _ l1)⟩,setRow_heap _ _ _ _ _ _ l1⟩
 case fin =>
  intro a u hS hdf hts hout hok hno;have h0:u.heap[w.heap.size]?=some (.cells arr 37 (0,0)):=(hno 3 _ rfl rfl).2.elim fun _ h=>h;have h1:u.heap[w.heap.size+1]?=some (.cells fv 28 (0,0)):=(hno 4 _ rfl rfl).2.elim fun _ h=>h;have e2:a.eval (.tmp 2)=.pointer (some ⟨w.heap.size,0,none⟩):=hout 2 (Or.inl (by omega));have e3:a.eval (.tmp 3)=.pointer (some ⟨w.heap.size+1,0,none⟩):=hout 3 (Or.inl (by omega));have hbu:Below w.heap.size w u:=((Zb HBL).trans (((Below.refl w1.heap.size w1).alloc (Nat.le_refl _) _).mono (by omega))).trans ⟨hS.os,hS.tape,hS.output,by have:=hS.size; simp; omega,fun q hq=>hS.same q (by omega) (by omega) (by omega)⟩;have hpo:=Zb HPo arr ev fv w1 u (Zb HG) hbu (fun q hq k1 k2=>(hS.same q (by omega) k1 k2).trans (hk1 q hq)) hS.os hS.tape hS.output (by have:=hS.size; omega);clear hok hno hout;go_wp2;refine bodyPost_ret (Kb (fn:=Tryz.f7) (p:=2) (q:=3) (ty:=37) (uy:=28) rfl _ _ w.heap.size 37 arr (0,0) _ ?g0 h0 Tryz.underlying37 rfl (Tryz.infTab.trans (congrArg some hA1.symm)) (w.heap.size+1) 28 fv (0,0) _ ?g1 h1 Tryz.underlying28 rfl (Tryz.infFlt.trans (congrArg some hf1.symm))) hdf ?_;case g0=>simpa [Act.eval] using e2
  case g1=>simpa [Act.eval] using e3
  exact⟨arr,fv,rfl,hbu,hpo⟩
def Yhq (o:Option Rg)(w:World)(e:Ending)(w':World):Prop :=
 Below w.heap.size w w'∧∃ arr fv,e=.returned (.tuple #[.agg arr,.agg fv])∧match o with
  | some S=>GT S w.heap.size arr w'∧.agg fv=Iw 0 (-1) (-1) (-1)
  | none=>.agg arr=Zan∧.agg fv=Iw 6 (-1) (-1) (-1)
theorem Zho (n f b a:Int):∃ fv,.agg fv=Iw n f b a∧fv.size=4∧fv.all (·.oneCell')=true:=⟨_,rfl,rfl,by simp [Value.oneCell']⟩
theorem Zeh (k:Int)(o:Option Rg)(hk:Yep k o)(w:World)(hU:U8 w)(hI:Itm w)(hE:Xj w):Calls Tryz.prog 7 #[.int .i64 k] w (Yhq o w):=by
 have h0:=Jx hE;have key:=Zey k w hU hI
  (fun arr fv u=>match o with
   | some S=>GT S w.heap.size arr u∧.agg fv=Iw 0 (-1) (-1) (-1)
   | none=>.agg arr=Zan∧.agg fv=Iw 6 (-1) (-1) (-1))
  (fun arr ev fv w1=>Zkv o (w.heap.size+2) arr ev w1∧match o with
   | some S=>.agg fv=Iw 0 (-1) (-1) (-1)
   | none=>.agg fv=Iw 6 (-1) (-1) (-1))
  ?c1 ?c2 ?c3
 ·
  refine key.mono ?_;rintro e w' ⟨arr,fv,rfl,hb,hp⟩;refine⟨hb,arr,fv,rfl,?_⟩;cases o with
  | none=>exact hp
  | some S=>exact hp
 case c1 =>
  intro w0 hU0 hI0 hb0 hs0;refine(Zso k o hk w0 hU0 hI0).mono ?_;rintro e w1 ⟨hb1,arr,ev,rfl,a1,a2,hM⟩;rw [hs0] at hM;cases o with
  | none =>
   obtain⟨fv,f1,f2,f3⟩:=Zho 6 (-1) (-1) (-1);exact⟨hb1,arr,ev,fv,rfl,⟨a1,a2⟩,⟨f2,f3⟩,hM,f1⟩
  | some S =>
   obtain⟨fv,f1,f2,f3⟩:=Zho 0 (-1) (-1) (-1);exact⟨hb1,arr,ev,fv,rfl,⟨a1,a2⟩,⟨f2,f3⟩,hM,f1⟩
 case c2 =>
  rintro arr ev fv w1 u ⟨hM,hf⟩ hb hs;have hEu:Xj u:=by
   have e1:u.heap[0]?=w1.heap[0]?:=hs 0 (Nat.lt_of_lt_of_le h0 hb.size) (by omega) (by omega);exact(World.cell?_of_block e1).trans ((hb.cell (p:=⟨0,0,none⟩) h0).trans hE)
  cases o with
  | none =>
   rw [hM.2];refine(Rf 6 u hEu).mono ?_;rintro e u' ⟨rfl,hb'⟩;exact⟨by rw [hf],hb'⟩
  | some S =>
   rw [hM.2];refine(Uy u).mono ?_;rintro e u' ⟨rfl,hb'⟩;exact⟨by rw [hf],hb'⟩
 case c3 =>
  rintro arr ev fv w1 u ⟨hM,hf⟩ hb hs ho ht hu hz;cases o with
  | none=>exact⟨hM.1,hf⟩
  | some S =>
   refine⟨?_,hf⟩;obtain⟨v4,v5,v6,h1,h2,h3,h4,h5⟩:=hM.1;have hk:∀ q,w.heap.size+2≤q→q<w1.heap.size→u.heap[q]?=w1.heap[q]?:=fun q hq hq2=>hs q hq2 (by omega) (by omega);exact⟨v4,v5,v6,h1,Gy (Zak h2 hk) (by omega),Gy (Zak h3 hk) (by omega),Gy (Zak h4 hk) (by omega),h5⟩
theorem Zhy {s:ByteArray}{L:List Tk}{i:Nat}{x:Nat×List UInt8}(h:(L.map (vw s))[i]?=some x):Ix L i=x.1∧(tAt s L i).data.toList=x.2∧i<L.length:=by
 rw [List.getElem?_map,Option.map_eq_some_iff] at h;obtain⟨t,ht,rfl⟩:=h;exact⟨by simp [Ix,ht,vw],by simp [tAt,ht,vw],(List.getElem?_eq_some_iff.1 ht).1⟩
theorem Zgb (k:Nat)(s:ByteArray)(L:List Tk):∀(rest:List Int) (f:Nat) (E1 E2:List (Nat×List UInt8)) (ns0:List Int),(∀ n ∈ rest,okT k n)→L.map (vw s)=E1++(rest.map (Du k)++(6,[59]) :: E2)→ns0.length+rest.length≤hiK k→rest.length≤f →
 Ln s L k f E1.length ns0=(E1.length+rest.length,ns0++rest)
 | [],f,E1,E2,ns0,_,hv,_,_=>by
  obtain⟨h1,h2,-⟩:=Zhy (s:=s) (L:=L) (i:=E1.length) (x:=(6,[59])) (by rw [hv]; simp);cases f with
  | zero=>simp [Ln]
  | succ f =>
   unfold Ln;have hn:Kv s L E1.length (decide (k=2))=none:=by
    unfold Kv;rw [h1];simp
   rw [hn];simp
 | n :: rest,f,E1,E2,ns0,hok,hv,hhi,hf=>by
  cases f with
  | zero=>simp at hf
  | succ f =>
   obtain⟨h1,h2,-⟩:=Zhy (s:=s) (L:=L) (i:=E1.length) (x:=Du k n) (by rw [hv]; simp);have ih:=Zgb k s L rest f (E1++[Du k n]) E2 (ns0++[n]) (fun x hx=>hok x (by simp [hx])) (by rw [hv]; simp) (by simp at hhi ⊢; omega) (by simp at hf; omega);have hn:Kv s L E1.length (decide (k=2))=some n:=by
    unfold Kv;by_cases hd:k=2∧n=-1
    ·
     rw [if_pos ⟨by rw [h1]; simp [Du,hd],by simp [hd.1]⟩,hd.2]
    ·
     have hdg:0≤n∧n<100:=(hok n (by simp)).resolve_left hd;obtain⟨g1,g2,g3,g4⟩:=Dv hd hdg.1 hdg.2;have e4:Ix L E1.length=4:=by rw [h1]; simp [Du,hd]
     have e5:(tAt s L E1.length).data.toList=Yr k n:=by rw [h2]; rfl
     have e6:(tAt s L E1.length).size≤3:=by
      have:(tAt s L E1.length).size=(tAt s L E1.length).data.toList.length:=(Array.length_toList (xs:=(tAt s L E1.length).data)).symm;rw [this,e5]; exact g3
     rw [if_neg (by rw [e4]; omega),if_pos ⟨e4,e6⟩,e5,g4]
   unfold Ln;rw [if_pos (by simp at hhi; omega),hn];simp only [List.length_append,List.length_cons,List.length_nil] at ih ⊢;rw [ih];simp
   omega
theorem Zto (s:ByteArray)(L:List Tk)(E1 E2:List (Nat×List UInt8))(k:Nat)(ns:List Int)(hv:L.map (vw s)=E1++Gg k ns++E2)(hk:k<11)(hok:∀ n ∈ ns,okT k n)(hlo:loK k≤ns.length)(hhi:ns.length≤hiK k)(sn:Nat→Bool)(vals:Nat→List Int)(hsn:sn k=false) :
 Ms s L ⟨E1.length,sn,vals⟩=(true,⟨E1.length+(Gg k ns).length,Im sn k,Zaj vals k ns⟩):=by
 obtain⟨h1,h2,-⟩:=Zhy (s:=s) (L:=L) (i:=E1.length) (x:=(3,nm k)) (by rw [hv]; simp [Gg]);have hN:Zcb s L E1.length sn=some k:=Zdw ⟨hk,h2.symm,hsn⟩;have hn:=Zgb k s L ns 13 (E1++[(3,nm k)]) E2 [] hok (by rw [hv]; simp [Gg]) (by simpa using hhi) (by have:=Zwd k; omega);simp only [List.length_append,List.length_cons,List.length_nil,List.nil_append] at hn;obtain⟨h6,-,-⟩:=Zhy (s:=s) (L:=L) (i:=E1.length+1+ns.length) (x:=(6,[59])) (by
  rw [hv,show E1++Gg k ns++E2=(E1++(3,nm k) :: ns.map (Du k))++((6,[59]) :: E2) by simp [Gg],List.getElem?_append_right (by simp; omega)];simp [show E1.length+1+ns.length-(E1.length+(ns.length+1))=0 by omega])
 unfold Ms;simp only [hN];rw [hn];simp only [hlo,h6,if_true];simp [Gg];omega
def Zcd:List (Nat×List Int)→(Nat→Bool)→Nat→Bool
 | [],sn=>sn
 | x :: Q,sn=>Zcd Q (Im sn x.1)
def Zgc:List (Nat×List Int)→(Nat→List Int)→Nat→List Int
 | [],v=>v
 | x :: Q,v=>Zgc Q (Zaj v x.1 x.2)
def okQ (x:Nat×List Int):Prop:=x.1<11∧(∀ n ∈ x.2,okT x.1 n)∧loK x.1≤x.2.length∧x.2.length≤hiK x.1
theorem Zej (s:ByteArray)(L:List Tk):∀(Q:List (Nat×List Int)) (f:Nat) (E1:List (Nat×List UInt8)) (sn:Nat→Bool) (vals:Nat→List Int),L.map (vw s)=E1++Gw Q→(∀ x ∈ Q,okQ x)→(Q.map (·.1)).Nodup→(∀ x ∈ Q,sn x.1=false)→Q.length≤f →
 Ye s L f ⟨E1.length,sn,vals⟩=(true,⟨L.length,Zcd Q sn,Zgc Q vals⟩)
 | [],f,E1,sn,vals,hv,_,_,_,_=>by
  have hl:L.length=E1.length:=by have:=congrArg List.length hv; simpa [Gw] using this
  cases f with
  | zero=>simp [Ye,Zcd,Zgc,hl]
  | succ f=>unfold Ye; simp [Zcd,Zgc,hl]
 | x :: Q,f,E1,sn,vals,hv,hq,hnd,hsn,hf=>by
  cases f with
  | zero=>simp at hf
  | succ f =>
   have e2:Gw (x :: Q)=Gg x.1 x.2++Gw Q:=by simp [Gw]
   rw [e2,← List.append_assoc] at hv;obtain⟨o1,o2,o3,o4⟩:=hq x (by simp);have h1:=Zto s L E1 (Gw Q) x.1 x.2 hv o1 o2 o3 o4 sn vals (hsn x (by simp));have hl:L.length=E1.length+(Gg x.1 x.2).length+(Gw Q).length:=by have:=congrArg List.length hv; simp at this; omega
   have hp:0<(Gg x.1 x.2).length:=by simp [Gg]
   simp only [List.map_cons,List.nodup_cons] at hnd;have ih:=Zej s L Q f (E1++Gg x.1 x.2) (Im sn x.1) (Zaj vals x.1 x.2) hv (fun y hy=>hq y (by simp [hy])) hnd.2 (fun y hy=>by
    have hne:y.1≠x.1:=fun e=>hnd.1 (by rw [← e]; exact List.mem_map_of_mem hy);simp [Im,hne];exact hsn y (by simp [hy])) (by simp at hf; omega)
   unfold Ye;rw [if_pos (by simp only; omega),h1];simp only [List.length_append] at ih;simp only [if_true];rw [ih];rfl
theorem Zfa {k:Nat}{n:Int}(h:okT k n):(Yr k n).length≤3:=by
 by_cases hd:k=2∧n=-1
 ·
  unfold Yr; rw [if_pos hd]; simp
 ·
  have hdg:=h.resolve_left hd;exact(Dv hd hdg.1 hdg.2).2.2.1
theorem Kx (k:Nat):∀(ns:List Int),(∀ n ∈ ns,okT k n)→(Yb k ns).length≤4*ns.length
 | [],_=>by simp [Yb]
 | n :: ns,h=>by
  have h1:=Zfa (h n (by simp));have h2:=Kx k ns (fun x hx=>h x (by simp [hx]));have e1:Yb k (n :: ns)=(32 :: Yr k n)++Yb k ns:=by simp [Yb]
  rw [e1];simp only [List.length_append,List.length_cons];omega
theorem Zek {x:Nat×List Int}(h:okQ x):(Yh x.1 x.2).length≤9+4*hiK x.1:=by
 have h1:=Zhd x.1;have h2:=Kx x.1 x.2 h.2.1;have h3:=h.2.2.2;simp only [Yh,List.length_append,List.length_cons,List.length_nil];omega
theorem Zlh (Q:List (Nat×List Int))(hq:∀ x ∈ Q,okQ x)(hnd:(Q.map (·.1)).Nodup)(hsz:(Xl Q).length≤400)(hall:Zch (Zcd Q (fun _=>false))=true) :
 ∃ i,Jt ⟨(Xl Q).toArray⟩=.inr ⟨i,Zcd Q (fun _=>false),Zgc Q (fun _=>[])⟩:=by
 obtain⟨L,h1,h2⟩:=Ztn Q (fun x hx=>⟨(hq x hx).1,(hq x hx).2.1⟩);have hl:Q.length≤L.length:=by
  have:=congrArg List.length h2;simp at this;rw [this];clear h1 h2 this hq hnd hsz hall;induction Q with
  | nil=>simp
  | cons x Q ih=>simp [Gw,Gg] at ih ⊢; omega
 have h3:=Zej ⟨(Xl Q).toArray⟩ L Q L.length [] (fun _=>false) (fun _=>[]) (by simpa using h2) hq hnd (fun _ _=>rfl) hl;refine⟨L.length,?_⟩;unfold Jt;rw [if_neg (by simp [ByteArray.size]; omega),h1];simp only;unfold Rm;have h4:Ye ⟨(Xl Q).toArray⟩ L L.length Ut=(true,⟨L.length,Zcd Q (fun _=>false),Zgc Q (fun _=>[])⟩):=h3;rw [h4];simp only;rw [if_pos ⟨trivial,hall⟩]
theorem Um {l:List Int}{c:Int}(h:Rh l c=true):∀ n ∈ l,0≤n∧n<c:=by
 intro n hn;obtain⟨q,hq,rfl⟩:=List.getElem_of_mem hn;have h1:=(List.all_eq_true.1 h) q (List.mem_range.2 hq);unfold Zku at h1;have hg:l.getD q 0=l[q]:=by simp [List.getD,hq]
 rw [hg] at h1;have:=of_decide_eq_true h1;exact⟨this.1,this.2.1⟩
def Nr (r sp lk t0 t1:Int)(ag rs ss:List Int)(al sh by_:Int)(pr:Bool):List (Nat×List Int) :=
 [(0,[r]),(1,[sp]),(2,[lk]),(3,[t0,t1]),(4,ag),(5,rs),(6,ss),(7,[al]),(8,[sh]),(9,[by_])]++(if pr then [(10,[])] else [])
theorem Zli (r sp lk t0 t1:Int)(ag rs ss:List Int)(al sh by_:Int)(pr:Bool):Mk r sp lk t0 t1 ag rs ss al sh by_ pr=Xl (Nr r sp lk t0 t1 ag rs ss al sh by_ pr):=by
 cases pr <;> simp [Mk,Xl,Nr]
theorem Zlj {r sp lk t0 t1:Int}{ag rs ss:List Int}{al sh by_:Int}{pr:Bool}(h:Lq r sp lk t0 t1 ag rs ss al sh by_=true) :
 ∃ S,Jt ⟨(Mk r sp lk t0 t1 ag rs ss al sh by_ pr).toArray⟩=.inr S∧S.vals 0=[r]∧S.vals 1=[sp]∧S.vals 2=[lk]∧S.vals 3=[t0,t1]∧S.vals 4=ag∧S.vals 5=rs∧S.vals 6=ss∧S.vals 7=[al]∧S.vals 8=[sh]∧S.vals 9=[by_]∧S.sn 10=pr:=by
 have h':=h;unfold Lq at h';simp only [Bool.and_eq_true] at h';obtain⟨⟨h1,h2⟩,h3⟩:=h';have n1:=of_decide_eq_true h1;have n2:=of_decide_eq_true h2;unfold Ma at h3;simp only [Bool.and_eq_true] at h3;obtain⟨⟨⟨⟨⟨k0,k1,-⟩,k2,-⟩,k3,-⟩,-⟩,-⟩:=h3;have m0:=Um k0;have m1:=Um k1;have m2:=Um k2;have m3:=Um k3;have own:(0≤sp∧sp<r)∧(0≤t0∧t0<r)∧(0≤t1∧t1<r)∧(lk=-1∨(0≤lk∧lk<r)):=by
  unfold Jg at m0;by_cases hk:lk=-1
  ·
   rw [if_pos hk] at m0;exact⟨m0 sp (by simp),m0 t0 (by simp),m0 t1 (by simp),Or.inl hk⟩
  ·
   rw [if_neg hk] at m0;exact⟨m0 sp (by simp),m0 t0 (by simp),m0 t1 (by simp),Or.inr (m0 lk (by simp))⟩
 obtain⟨a0,a1,a2,a3⟩:=own;obtain⟨b0,b1,b2,b3,b4,b5,b6,b7⟩:=n1;have one:∀(k:Nat) (n:Int),0≤n→n<100→loK k≤1→1≤hiK k→k<11→okQ (k,[n]):=fun k n g0 g1 g2 g3 g4=>⟨g4,fun x hx=>by simp at hx; subst hx; exact Or.inr ⟨g0,g1⟩,by simpa using g2,by simpa using g3⟩;have lst:∀(k:Nat) (l:List Int),(∀ n ∈ l,0≤n∧n<r)→loK k=0→l.length≤hiK k→k<11→okQ (k,l):=fun k l g0 g1 g2 g3=>⟨g3,fun x hx=>Or.inr ⟨(g0 x hx).1,by have:=(g0 x hx).2; omega⟩,by simp [g1],g2⟩;have hq:∀ x ∈ Nr r sp lk t0 t1 ag rs ss al sh by_ pr,okQ x:=by
  intro x hx;unfold Nr at hx;rw [List.mem_append] at hx;rcases hx with hx | hx
  ·
   simp only [List.mem_cons,List.not_mem_nil,or_false] at hx;rcases hx with rfl | rfl | rfl | rfl | rfl | rfl | rfl | rfl | rfl | rfl
   ·
    exact one 0 r (by omega) (by omega) (by decide) (by decide) (by decide)
   ·
    exact one 1 sp (by omega) (by omega) (by decide) (by decide) (by decide)
   ·
    refine⟨(by decide:2<11),fun x hx=>?_,(by decide:loK 2≤1),(by decide:1≤hiK 2)⟩;simp at hx;subst hx;rcases a3 with h | h
    ·
     exact Or.inl ⟨rfl,h⟩
    ·
     exact Or.inr ⟨h.1,by omega⟩
   ·
    refine⟨(by decide:3<11),fun x hx=>?_,(by decide:loK 3≤2),(by decide:2≤hiK 3)⟩;simp at hx;rcases hx with rfl | rfl
    ·
     exact Or.inr ⟨by omega,by omega⟩
    ·
     exact Or.inr ⟨by omega,by omega⟩
   ·
    exact lst 4 ag m1 rfl n2.1 (by decide)
   ·
    exact lst 5 rs m2 rfl n2.2.1 (by decide)
   ·
    exact lst 6 ss m3 rfl n2.2.2 (by decide)
   ·
    exact one 7 al (by omega) (by omega) (by decide) (by decide) (by decide)
   ·
    exact one 8 sh (by omega) (by omega) (by decide) (by decide) (by decide)
   ·
    exact one 9 by_ (by omega) (by omega) (by decide) (by decide) (by decide)
  ·
   cases pr with
   | false=>simp at hx
   | true =>
    simp at hx;subst hx;exact⟨(by decide:10<11),fun x hx=>(by simp at hx),(by decide:loK 10≤0),(by decide:0≤hiK 10)⟩
 have hnd:((Nr r sp lk t0 t1 ag rs ss al sh by_ pr).map (·.1)).Nodup:=by
  cases pr <;> simp [Nr]
 have hsz:(Xl (Nr r sp lk t0 t1 ag rs ss al sh by_ pr)).length≤400:=by
  have g:∀ x ∈ Nr r sp lk t0 t1 ag rs ss al sh by_ pr,(Yh x.1 x.2).length≤9+4*hiK x.1:=fun x hx=>Zek (hq x hx);cases pr with
  | false =>
   have g0:=g (0,[r]) (by simp [Nr]);have g1:=g (1,[sp]) (by simp [Nr]);have g2:=g (2,[lk]) (by simp [Nr]);have g3:=g (3,[t0,t1]) (by simp [Nr]);have g4:=g (4,ag) (by simp [Nr]);have g5:=g (5,rs) (by simp [Nr]);have g6:=g (6,ss) (by simp [Nr]);have g7:=g (7,[al]) (by simp [Nr]);have g8:=g (8,[sh]) (by simp [Nr]);have g9:=g (9,[by_]) (by simp [Nr]);simp only [hiK,List.getD_cons_zero,List.getD_cons_succ] at g0 g1 g2 g3 g4 g5 g6 g7 g8 g9;simp only [Nr,Xl,List.flatMap_cons,List.flatMap_nil,List.flatMap_append,List.length_append,List.length_nil,Bool.false_eq_true,if_false];omega
  | true =>
   have g0:=g (0,[r]) (by simp [Nr]);have g1:=g (1,[sp]) (by simp [Nr]);have g2:=g (2,[lk]) (by simp [Nr]);have g3:=g (3,[t0,t1]) (by simp [Nr]);have g4:=g (4,ag) (by simp [Nr]);have g5:=g (5,rs) (by simp [Nr]);have g6:=g (6,ss) (by simp [Nr]);have g7:=g (7,[al]) (by simp [Nr]);have g8:=g (8,[sh]) (by simp [Nr]);have g9:=g (9,[by_]) (by simp [Nr]);have g10:=g (10,[]) (by simp [Nr]);simp only [hiK,List.getD_cons_zero,List.getD_cons_succ] at g0 g1 g2 g3 g4 g5 g6 g7 g8 g9 g10;simp only [Nr,Xl,List.flatMap_cons,List.flatMap_nil,List.flatMap_append,List.length_append,List.length_nil,if_true];omega
 have hall:Zch (Zcd (Nr r sp lk t0 t1 ag rs ss al sh by_ pr) (fun _=>false))=true:=by
  cases pr <;> rfl
 obtain⟨i,hi⟩:=Zlh _ hq hnd hsz hall;rw [Zli];refine⟨_,hi,?_⟩;cases pr <;> exact⟨rfl,rfl,rfl,rfl,rfl,rfl,rfl,rfl,rfl,rfl,rfl⟩
end Go.Proofs.YtedemloocadimaaGreatDoor
