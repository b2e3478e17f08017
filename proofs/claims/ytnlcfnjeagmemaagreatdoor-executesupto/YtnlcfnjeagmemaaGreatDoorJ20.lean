import Derived.Test.YtnlcfnjeagmemaaGreatDoorJ3
import Derived.Test.YtnlcfnjeagmemaaGreatDoorJ18
namespace Go.Proofs.YtnlcfnjeagmemaaGreatDoor
open Go.RowKit
set_option maxHeartbeats 4000000
set_option maxRecDepth 100000
def Zfb (i:Zt):List Value:=[.int .i64 i.op,.int .i64 i.r,.int .i64 i.a,.int .i64 i.b,.int .i64 i.n,.int .i64 i.w,.int .i64 i.f]
def LV (w:World)(A:Nat)(v:Value)(n:Nat)(V:Nat→Value):Prop:=∃ p c,v=.slice p n c∧n≤c∧n<4611686018427387904∧∀ k,k<n→∃ g so,p=some ⟨g,so,none⟩∧g<A∧w.cell? ⟨g,so+k,none⟩=some (V k)
def MvC (w:World)(A:Nat)(v:Value)(l:List Zt):Prop:=∃ p c,v=.slice p l.length c∧l.length≤c∧l.length<4611686018427387904∧∀ k,k<l.length→∃ g so,p=some ⟨g,so,none⟩∧g<A∧∀ j u,(Zfb (l.getD k Yz))[j]?=some u→w.cell? ⟨g,so+k*7+j,none⟩=some u
def Gi (w:World)(A:Nat)(v:Value)(fs:List (List (List Zt))):Prop:=∃ V,LV w A v fs.length V∧∀ f,f<fs.length→∃ U,LV w A (V f) (fs.getD f []).length U∧∀ b,b<(fs.getD f []).length→MvC w A (U b) ((fs.getD f []).getD b [])
theorem LV.kx {w w':World}{A N a b n:Nat}{v:Value}{V:Nat→Value}(h:LV w A v n V)(k:Kx N a b w w')(hN:A≤N)(ha:A≤a)(hb:A≤b):LV w' A v n V:=by
 obtain⟨p,c,h1,h2,h3,h4⟩:=h;refine⟨p,c,h1,h2,h3,fun i hi=>?_⟩;obtain⟨g,so,e,hg,hc⟩:=h4 i hi;exact⟨g,so,e,hg,(Yp (k.oth g (by omega) (by omega) (by omega))).trans hc⟩
theorem MvC.kx {w w':World}{A N a b:Nat}{v:Value}{l:List Zt}(h:MvC w A v l)(k:Kx N a b w w')(hN:A≤N)(ha:A≤a)(hb:A≤b):MvC w' A v l:=by
 obtain⟨p,c,h1,h2,h3,h4⟩:=h;refine⟨p,c,h1,h2,h3,fun i hi=>?_⟩;obtain⟨g,so,e,hg,hc⟩:=h4 i hi;exact⟨g,so,e,hg,fun j u hj=>(Yp (k.oth g (by omega) (by omega) (by omega))).trans (hc j u hj)⟩
theorem Gi.kx {w w':World}{A N a b:Nat}{v:Value}{fs:List (List (List Zt))}(h:Gi w A v fs)(k:Kx N a b w w')(hN:A≤N)(ha:A≤a)(hb:A≤b):Gi w' A v fs:=by
 obtain⟨V,h1,h2⟩:=h;refine⟨V,h1.kx k hN ha hb,fun f hf=>?_⟩;obtain⟨U,h3,h4⟩:=h2 f hf;exact⟨U,h3.kx k hN ha hb,fun i hi=>(h4 i hi).kx k hN ha hb⟩
theorem Jj {N b j:Nat}{w W:World}{v:Value}(h:Below N w W)(hb:N≤b):Below N w (W.setCell ⟨b,j,none⟩ v):=⟨h.os,h.tape,h.output,by have:=h.size; simpa using this,fun q hq=>(heap_setCell_other _ _ _ _ (by show q≠b; omega)).trans (h.block q hq)⟩
theorem Tryz.infMv:(Tryz.prog.info? 103).map (·.size)=some 7:=by kernel_rfl
section
variable {P:Program} {ops:Array Oper} {Q:Exit→Act→World→Prop} {md:Region.Mode}
theorem It (i:Nat){W:World}{oi:Oper}{n:Nat}{L:Array Bool}{a a':Act}{j:Nat}(h:wpAnyH P md ops Q (fun V=>∃ k,V=W.drewN k) n (L.setIfInBounds i true) a' (W.drewN j))(h0:ops[i]?=some oi:=by rfl)(h1:(Region.noSelect ops&&(Region.free md ops L i&&(Region.ready md ops L).contains i))=true:=by kernel_rfl)(hg:Region.wanted oi (yielded ops a.tmps)=false:=by rfl)
 (hq:∀(c:List PanicEntry) (a:Act) (w:World),Q (Exit.panic c) (a.put oi.dst undef) w→Q (Exit.panic c) a w:=by exact fun _ _ _ h=>h) (ha:a.put oi.dst undef=a':=by(try simp only [Act.put,zA,zB,zC,zD,zE,zF]); with_reducible rfl):wpAnyH P md ops Q (fun V=>∃ k,V=W.drewN k) (n+1) L a (W.drewN j):=by
 subst ha;simp only [Bool.and_eq_true] at h1;exact wpAnyH_take h0 h1.1 h1.2.1 h1.2.2 hq (Or.inr ⟨hg,rfl⟩) ⟨j,rfl⟩ h
end
section
variable {w:World} {A B N:Nat} {G:Xn} {mb sb:Nat} {m:Zf}
theorem Zfc (h:MR w A B N G mb sb m)(C:Zk)(hc:Gi w A G.cf C.funcs)(f at_:Nat)(hf:m.f=f)(ha:m.at_=at_)(hfl2:f<C.funcs.length) :
 Calls Tryz.prog 113 #[.pointer (some ⟨mb,0,none⟩)] w fun e w'=>e=.returned (.agg (Zfb (Zv C m)).toArray)∧Below w.heap.size w w':=by
 have hbd:=h.bd;obtain⟨r0,hb0,hz0⟩:=Zs w (.cells #[.int .i64 0,.int .i64 0,.int .i64 0,.int .i64 0,.int .i64 0,.int .i64 0,.int .i64 0] 103 (0,0));have HM:=Y (h.al (.cells #[.int .i64 0,.int .i64 0,.int .i64 0,.int .i64 0,.int .i64 0,.int .i64 0,.int .i64 0] 103 (0,0)));have HR0:=Y r0;have HB0:=Y hb0;have HZ0:=Y hz0;have HC:=Y (hc.kx (Gh (a:=mb) (b:=sb) hb0) (by omega) hbd.1 hbd.2.1);clear r0 hb0 hz0 h hc;go_enter Tryz.func113,Tryz.ntmps113
 go_upto_region 1 with fail
 generalize World.alloc w _=W at HM HR0 HB0 HZ0 HC ⊢;obtain⟨P,hmi⟩:=(O HM).row;obtain⟨V,⟨fp,fc,hfv,hfc,hfl,hfa⟩,hV⟩:=O HC;have c13:W.cell? ⟨mb,13,none⟩=some (.slice fp C.funcs.length fc):=by rw [← hfv]; exact(cR hmi 13)
 have c39:W.cell? ⟨mb,39,none⟩=some (.int .i64 (f:Int)):=(Zd hmi 39).trans (congrArg some (congrArg _ hf));have c40:W.cell? ⟨mb,40,none⟩=some (.int .i64 m.bk):=(cR hmi 40);have c41:W.cell? ⟨mb,41,none⟩=some (.int .i64 (at_:Int)):=(Zd hmi 41).trans (congrArg some (congrArg _ ha));obtain⟨g,so,hp,hgA,hcf⟩:=hfa f hfl2;obtain⟨U,⟨up,uc,huv,huc,hul,hua⟩,hU⟩:=hV f hfl2;rw [huv] at hcf;subst hp;have HFM:=Y (show Zv C m=if 0≤m.bk then (((C.funcs.getD f []).getD m.bk.toNat []).getD at_ Yz) else Yz by unfold Zv; rw [hf,ha]; rfl);clear hV hfa hfv huv hmi hf ha;generalize C.funcs.getD f []=bks at hcf huc hul hua hU HFM;generalize m.bk=bk at c40 HFM;have HUA:=Y hua;have HU:=Y hU;clear hua hU;go_quiet (fail)
 go_upto_region 2 with fail
 clear c13 c39 hcf;have d40:(W.drewN nq).cell? ⟨mb,40,none⟩=some (.int .i64 bk):=c40;have d41:(W.drewN nq).cell? ⟨mb,41,none⟩=some (.int .i64 (at_:Int)):=c41;have HUA1:=Y (fun k hk=>show ∃ g so,up=some ⟨g,so,none⟩∧g<A∧(W.drewN nq).cell? ⟨g,so+k,none⟩=some (U k) from O HUA k hk);have HU1:=Y (fun b hb=>show MvC (W.drewN nq) A (U b) (bks.getD b []) from(O HU b hb).kx (N:=A) (a:=A) (b:=A) ⟨rfl,rfl,rfl,Nat.le_refl _,fun _ _ _ _=>rfl⟩ (Nat.le_refl _) (Nat.le_refl _) (Nat.le_refl _));have HR1:=Y (show(W.drewN nq).heap[w.heap.size]?=_ from O HR0);have HB1:=Y (show Below w.heap.size w (W.drewN nq) from Yk (O HB0) nq);clear c40 c41 HUA HU HR0 HB0 HM HC HZ0;generalize W.drewN nq=W1 at d40 d41 HUA1 HU1 HR1 HB1 ⊢;by_cases hin:0≤bk∧bk<(bks.length:Int)
 ·
  obtain⟨b,hb⟩:∃ b:Nat,bk=b:=⟨bk.toNat,by omega⟩;subst hb;have hbl:b<bks.length:=by omega
  have hix:Gr (b:Int) (bks.length:Int)=true:=decide_eq_true hin;obtain⟨g2,so2,hup,hg2,hcu⟩:=O HUA1 b hbl;obtain⟨mp,mc,hmv0,hmc,hml,hma⟩:=O HU1 b hbl;rw [hmv0] at hcu;subst hup;rw [if_pos hin.1,Int.toNat_natCast] at HFM;generalize bks.getD b []=l at hcu hmc hml hma HFM;have HMA:=Y hma;clear hma hmv0 hin HUA1 HU1;by_cases hat:at_<l.length
  ·
   have hge:¬ ((l.length:Int)≤(at_:Int)):=by omega
   obtain⟨g3,so3,hmp,hg3,hmv⟩:=O HMA at_ hat;subst hmp;obtain⟨i,hi⟩:∃ i,i=l.getD at_ Yz:=⟨_,rfl⟩;rw [← hi] at hmv;have HQ:=Y (show Zv C m=i by rw [O HFM,hi]);clear hi HFM HMA;have e40:(W1.drewN 1).cell? ⟨mb,40,none⟩=some (.int .i64 (b:Int)):=d40;have e41:(W1.drewN 1).cell? ⟨mb,41,none⟩=some (.int .i64 (at_:Int)):=d41;have ecu:(W1.drewN 1).cell? ⟨g2,so2+b,none⟩=_:=hcu;have emv:∀ j u,(Zfb i)[j]?=some u→(W1.drewN 1).cell? ⟨g3,so3+at_*7+j,none⟩=some u:=hmv;have HR2:=Y (show(W1.drewN 1).heap[w.heap.size]?=_ from O HR1);have HB2:=Y (show Below w.heap.size w (W1.drewN 1) from Yk (O HB1) 1);refine wp_region_held_drew (S:=fun V=>∃ k,V=W1.drewN k) (by kernel_rfl) ⟨1,rfl⟩ (fun _=>?_);change wpAnyH _ _ _ _ _ _ _ _ (W1.drewN 1)
   refine tE 0 ?_;refine tE 1 ?_;refine tE 2 ?_;refine tE 3 ?_;refine tE 4 ?_;refine tE 5 ?_;refine tE 6 ?_;refine tO 7 fun K hK=>?_;go_simp;refine(Xh (b:Int) bks.length (W1.drewN 1)).mono ?_;rintro e w1 ⟨rfl,hw1⟩;subst w1;rw [hix];refine hK.out _ _ ⟨1,rfl⟩ (fun _=>?_);clear hK K;change wpAnyH _ _ _ _ _ _ _ _ (W1.drewN (1))
   try simp only [Act.put,zA,zB,zC,zD,zE,zF]
   refine tE 8 ?_;refine tE 9 ?_;refine tE 10 ?_;refine tE 11 ?_;refine tE 12 ?_;refine tE 13 ?_;refine tE 14 ?_;refine tE 15 ?_;refine tE 16 ?_;refine tE 17 ?_;refine tE 18 ?_;refine tE 19 ?_;refine tE 20 ?_;refine tE 21 ?_;refine tE 22 ?_;refine tE 23 ?_;refine tE 24 ?_;refine tE 25 ?_;refine wpAnyH_done (by kernel_rfl) ?_ _;go_upto_region 4 with fail
   clear d40 d41 hcu hmv HR1 HB1;generalize W1.drewN 1=W2 at e40 e41 ecu emv HR2 HB2 ⊢;have m0:=emv 0 _ rfl;have m1:=emv 1 _ rfl;have m2:=emv 2 _ rfl;have m3:=emv 3 _ rfl;have m4:=emv 4 _ rfl;have m5:=emv 5 _ rfl;have m6:=emv 6 _ rfl;rw [Nat.add_zero] at m0;clear emv;have x0:=((cR (O HR2) 0):_=some (Value.int .i64 0));have z0:=frozen_of_row _ _ 0 _ _ (O HR2);have x1:=((cR (O HR2) 1):_=some (Value.int .i64 0));have z1:=frozen_of_row _ _ 1 _ _ (O HR2);have x2:=((cR (O HR2) 2):_=some (Value.int .i64 0));have z2:=frozen_of_row _ _ 2 _ _ (O HR2);have x3:=((cR (O HR2) 3):_=some (Value.int .i64 0));have z3:=frozen_of_row _ _ 3 _ _ (O HR2);have x4:=((cR (O HR2) 4):_=some (Value.int .i64 0));have z4:=frozen_of_row _ _ 4 _ _ (O HR2);have x5:=((cR (O HR2) 5):_=some (Value.int .i64 0));have z5:=frozen_of_row _ _ 5 _ _ (O HR2);have x6:=((cR (O HR2) 6):_=some (Value.int .i64 0));have z6:=frozen_of_row _ _ 6 _ _ (O HR2);refine Zh (C:=fun V=>∃ k,V=W2.drewN k) (d:=15) (by kernel_rfl) ?_;change Ye _ _ _ _ _ _ _ _ _ (W2.drewN 1)
   refine vE 0 ?_;refine vE 1 ?_;refine vE 2 ?_;refine vE 3 ?_;refine vE 4 ?_;refine vE 5 ?_;refine vE 6 ?_;refine vE 7 ?_;refine vE 8 ?_;refine vE 9 ?_;refine vE 10 ?_;refine vE 11 ?_;refine vE 12 ?_;refine vE 13 ?_;refine vE 14 ?_;refine vO 15 fun K hK=>?_;go_simp;refine kO hK (fun hx=>by cases hx) ?_;clear hK K;refine Zi (by kernel_rfl) ?_ _;have HRW:=Y (show((((((((W2.drewN 1).setCell ⟨w.heap.size,0,none⟩ (.int .i64 i.op)).setCell ⟨w.heap.size,1,none⟩ (.int .i64 i.r)).setCell ⟨w.heap.size,2,none⟩ (.int .i64 i.a)).setCell ⟨w.heap.size,3,none⟩ (.int .i64 i.b)).setCell ⟨w.heap.size,4,none⟩ (.int .i64 i.n)).setCell ⟨w.heap.size,5,none⟩ (.int .i64 i.w)).setCell ⟨w.heap.size,6,none⟩ (.int .i64 i.f)).heap[w.heap.size]?=some (.cells #[.int .i64 i.op,.int .i64 i.r,.int .i64 i.a,.int .i64 i.b,.int .i64 i.n,.int .i64 i.w,.int .i64 i.f] 103 (0,0)) from heap_setCell_same _ _ 6 _ _ _ (heap_setCell_same _ _ 5 _ _ _ (heap_setCell_same _ _ 4 _ _ _ (heap_setCell_same _ _ 3 _ _ _ (heap_setCell_same _ _ 2 _ _ _ (heap_setCell_same _ _ 1 _ _ _ (heap_setCell_same _ _ 0 _ _ _ (show(W2.drewN 1).heap[w.heap.size]?=_ from O HR2))))))));go_wp2;refine bodyPost_ret (Xu (fn:=Tryz.f113) (q:=2) (uy:=103) rfl _ _ w.heap.size 103 #[.int .i64 i.op,.int .i64 i.r,.int .i64 i.a,.int .i64 i.b,.int .i64 i.n,.int .i64 i.w,.int .i64 i.f] (0,0) _ rfl (O HRW) Tryz.underlying103 rfl (Tryz.infMv.trans rfl)) rfl ?_;rw [O HQ];exact⟨rfl,Jj (Jj (Jj (Jj (Jj (Jj (Jj (Yk (O HB2) 1) (Nat.le_refl _)) (Nat.le_refl _)) (Nat.le_refl _)) (Nat.le_refl _)) (Nat.le_refl _)) (Nat.le_refl _)) (Nat.le_refl _)⟩
  ·
   have hge:((l.length:Int)≤(at_:Int)):=by omega
   have HQ:=Y (show Zv C m=Yz by rw [O HFM]; simp [List.getD,hat]);clear HFM HMA;refine wp_region_held_drew (S:=fun V=>∃ k,V=W1.drewN k) (by kernel_rfl) ⟨1,rfl⟩ (fun _=>?_);change wpAnyH _ _ _ _ _ _ _ _ (W1.drewN 1)
   refine tE 0 ?_;refine tE 1 ?_;refine tE 2 ?_;refine tE 3 ?_;refine tE 4 ?_;refine tE 5 ?_;refine tE 6 ?_;refine tO 7 fun K hK=>?_;go_simp;refine(Xh (b:Int) bks.length (W1.drewN 1)).mono ?_;rintro e w1 ⟨rfl,hw1⟩;subst w1;rw [hix];refine hK.out _ _ ⟨1,rfl⟩ (fun _=>?_);clear hK K;change wpAnyH _ _ _ _ _ _ _ _ (W1.drewN (1))
   try simp only [Act.put,zA,zB,zC,zD,zE,zF]
   refine tE 8 ?_;refine tE 9 ?_;refine tE 10 ?_;refine tE 11 ?_;refine tE 12 ?_;refine tE 13 ?_;refine tE 14 ?_;refine tE 15 ?_;refine tE 16 ?_;refine tE 17 ?_;refine tE 18 ?_;refine tE 19 ?_;refine tE 20 ?_;refine tE 21 ?_;refine tE 22 ?_;refine tE 23 ?_;refine tE 24 ?_;refine tE 25 ?_;refine wpAnyH_done (by kernel_rfl) ?_ _;go_upto_region 3 with fail
   go_wp2_with (refine wpList_store_row rfl 103 _ _ rfl w.heap.size #[.int .i64 0,.int .i64 0,.int .i64 0,.int .i64 0,.int .i64 0,.int .i64 0,.int .i64 0] rfl rfl 103 _ (O HR1) (Tryz.infMv.trans rfl) rfl (by simp [Value.oneCell']) ?_)
   refine bodyPost_ret (Xu (fn:=Tryz.f113) (q:=2) (uy:=103) rfl _ _ w.heap.size 103 #[.int .i64 0,.int .i64 0,.int .i64 0,.int .i64 0,.int .i64 0,.int .i64 0,.int .i64 0] (0,0) _ rfl (setRow_heap _ _ _ _ _ _ (O HR1)) Tryz.underlying103 rfl (Tryz.infMv.trans rfl)) rfl ?_;rw [O HQ];refine⟨rfl,?_⟩;have hb:=O HB1;exact⟨hb.os,hb.tape,hb.output,by have:=hb.size; simpa [World.setRow] using this,fun q hq=>(setRow_other _ _ _ _ (by omega)).trans (hb.block q hq)⟩
 ·
  have hix:Gr bk (bks.length:Int)=false:=decide_eq_false hin;have HQ:=Y (show Zv C m=Yz by
   rw [O HFM];split
   ·
    have:bks.length≤bk.toNat:=by omega
    simp [List.getD,this]
   ·
    rfl)
  clear HFM HUA1 HU1 hin;refine wp_region_held_drew (S:=fun V=>∃ k,V=W1.drewN k) (by kernel_rfl) ⟨1,rfl⟩ (fun _=>?_);change wpAnyH _ _ _ _ _ _ _ _ (W1.drewN 1)
  refine tE 0 ?_;refine tE 1 ?_;refine tE 2 ?_;refine tE 3 ?_;refine tE 4 ?_;refine tE 5 ?_;refine tE 6 ?_;refine tO 7 fun K hK=>?_;go_simp;refine(Xh bk bks.length (W1.drewN 1)).mono ?_;rintro e w1 ⟨rfl,hw1⟩;subst w1;rw [hix];refine hK.out _ _ ⟨1,rfl⟩ (fun _=>?_);clear hK K;change wpAnyH _ _ _ _ _ _ _ _ (W1.drewN (1))
  try simp only [Act.put,zA,zB,zC,zD,zE,zF]
  refine tE 8 ?_;refine tE 9 ?_;refine It 10 ?_;refine It 11 ?_;refine It 12 ?_;refine It 13 ?_;refine It 14 ?_;refine It 15 ?_;refine It 16 ?_;refine It 17 ?_;refine It 18 ?_;refine It 19 ?_;refine It 20 ?_;refine It 21 ?_;refine It 22 ?_;refine It 23 ?_;refine It 24 ?_;refine tE 25 ?_;refine wpAnyH_done (by kernel_rfl) ?_ _;go_upto_region 3 with fail
  go_wp2_with (refine wpList_store_row rfl 103 _ _ rfl w.heap.size #[.int .i64 0,.int .i64 0,.int .i64 0,.int .i64 0,.int .i64 0,.int .i64 0,.int .i64 0] rfl rfl 103 _ (O HR1) (Tryz.infMv.trans rfl) rfl (by simp [Value.oneCell']) ?_)
  refine bodyPost_ret (Xu (fn:=Tryz.f113) (q:=2) (uy:=103) rfl _ _ w.heap.size 103 #[.int .i64 0,.int .i64 0,.int .i64 0,.int .i64 0,.int .i64 0,.int .i64 0,.int .i64 0] (0,0) _ rfl (setRow_heap _ _ _ _ _ _ (O HR1)) Tryz.underlying103 rfl (Tryz.infMv.trans rfl)) rfl ?_;rw [O HQ];refine⟨rfl,?_⟩;have hb:=O HB1;exact⟨hb.os,hb.tape,hb.output,by have:=hb.size; simpa [World.setRow] using this,fun q hq=>(setRow_other _ _ _ _ (by omega)).trans (hb.block q hq)⟩
end
set_option maxHeartbeats 4000000
set_option maxRecDepth 100000
theorem Zoo (m:Xn):∀ i,i<22→m.row[15+i]?=some (m.D i)
 | 0,_=>rfl
 | 1,_=>rfl
 | 2,_=>rfl
 | 3,_=>rfl
 | 4,_=>rfl
 | 5,_=>rfl
 | 6,_=>rfl
 | 7,_=>rfl
 | 8,_=>rfl
 | 9,_=>rfl
 | 10,_=>rfl
 | 11,_=>rfl
 | 12,_=>rfl
 | 13,_=>rfl
 | 14,_=>rfl
 | 15,_=>rfl
 | 16,_=>rfl
 | 17,_=>rfl
 | 18,_=>rfl
 | 19,_=>rfl
 | 20,_=>rfl
 | 21,_=>rfl
 | n+22,h=>absurd h (by omega)
def nmL:List Int:=[0,1,2,3,3,3,3,3,3,3,1,1,2,1,0,0,0,0,1,0,0,0]
theorem Zyb:∀ k:Nat,k<22→(Xc (k:Int):Int)=nmL.getD k 0:=by decide
theorem List.mem_take_of_lt {α:Type}(l:List α)(n:Nat){j:Nat}(h:j<n)(hj:j<l.length):l[j] ∈ l.take n:=by
 have h2:j<(l.take n).length:=by simp; omega
 have:(l.take n)[j]=l[j]:=by simp
 rw [← this];exact List.getElem_mem h2
section
variable {w:World} {A B N:Nat} {G:Xn} {mb sb:Nat} {m:Zf}
theorem Zme (h:MR w A B N G mb sb m)(op r a b n wd f:Int)(ho:¬ (0≤op∧op<22)) :
 Calls Tryz.prog 114 #[.pointer (some ⟨mb,0,none⟩),.agg #[.int .i64 op,.int .i64 r,.int .i64 a,.int .i64 b,.int .i64 n,.int .i64 wd,.int .i64 f]] w fun e w'=>e=.returned (.bool false)∧Below w.heap.size w w':=by
 have hbd:=h.bd;obtain⟨r0,hb0,hz0⟩:=Zs w (.cells #[.int .i64 op,.int .i64 r,.int .i64 a,.int .i64 b,.int .i64 n,.int .i64 wd,.int .i64 f] 103 (0,0));have HB0:=Y hb0;have c0:=((cR r0 0):_=some (Value.int .i64 op));have hix:Gr op 22=false:=decide_eq_false ho;clear r0 hb0 hz0 h ho;go_enter Tryz.func114,Tryz.ntmps114
 go_upto_region 1 with fail
 generalize World.alloc w _=W at HB0 c0 ⊢;refine wp_region_held_drew (S:=fun V=>∃ k,V=W.drewN k) (by kernel_rfl) ⟨1,rfl⟩ (fun _=>?_);change wpAnyH _ _ _ _ _ _ _ _ (W.drewN 1)
 refine tE 0 ?_;refine tE 1 ?_;refine tO 2 fun K hK=>?_;go_simp;refine(Xh op 22 (W.drewN 1)).mono ?_;rintro e w1 ⟨rfl,hw1⟩;subst w1;rw [hix];refine hK.out _ _ ⟨1,rfl⟩ (fun _=>?_);clear hK K;change wpAnyH _ _ _ _ _ _ _ _ (W.drewN (1))
 try simp only [Act.put,zA,zB,zC,zD,zE,zF]
 refine tE 3 ?_;refine tE 4 ?_;refine It 5 ?_;refine It 6 ?_;refine It 7 ?_;refine It 8 ?_;refine It 9 ?_;refine It 10 ?_;refine It 11 ?_;refine It 12 ?_;refine tE 13 ?_;refine wpAnyH_done (by kernel_rfl) ?_ _;go_wp2;go_ret;exact⟨rfl,Yk (O HB0) 1⟩
theorem Zop (h:MR w A B N G mb sb m)(k:Nat)(r a b n wd f:Int)(hk:k<22)(hq:∀ V,(binOp .eql 130 (G.D k) .nilFunc).run Tryz.prog V=.ok (.bool true) V)(hgd:∀ V,(eqGuard .eql 130 (.tmp 19) (.const .nilFunc) (G.D k) .nilFunc).run Tryz.prog V=.ok () V) :
 Calls Tryz.prog 114 #[.pointer (some ⟨mb,0,none⟩),.agg #[.int .i64 (k:Int),.int .i64 r,.int .i64 a,.int .i64 b,.int .i64 n,.int .i64 wd,.int .i64 f]] w fun e w'=>e=.returned (.bool false)∧Below w.heap.size w w':=by
 have hbd:=h.bd;obtain⟨r0,hb0,hz0⟩:=Zs w (.cells #[.int .i64 (k:Int),.int .i64 r,.int .i64 a,.int .i64 b,.int .i64 n,.int .i64 wd,.int .i64 f] 103 (0,0));have HB0:=Y hb0;have c0:=((cR r0 0):_=some (Value.int .i64 (k:Int)));have hix:Gr (k:Int) 22=true:=decide_eq_true (by omega);obtain⟨P,hmi⟩:=(h.al (.cells #[.int .i64 (k:Int),.int .i64 r,.int .i64 a,.int .i64 b,.int .i64 n,.int .i64 wd,.int .i64 f] 103 (0,0))).row;have cd:=((Zd hmi (15+k)).trans (Zoo _ k hk):_=some (G.D k));have hk1:(k:Int)<22:=by omega
 generalize G.D k=D at hq hgd cd;clear r0 hb0 hz0 h hmi;go_enter Tryz.func114,Tryz.ntmps114
 go_upto_region 1 with fail
 generalize World.alloc w _=W at HB0 c0 cd ⊢;refine wp_region_held_drew (S:=fun V=>∃ k,V=W.drewN k) (by kernel_rfl) ⟨1,rfl⟩ (fun _=>?_);change wpAnyH _ _ _ _ _ _ _ _ (W.drewN 1)
 refine tE 0 ?_;refine tE 1 ?_;refine tO 2 fun K hK=>?_;go_simp;refine(Xh (k:Int) 22 (W.drewN 1)).mono ?_;rintro e w1 ⟨rfl,hw1⟩;subst w1;rw [hix];refine hK.out _ _ ⟨1,rfl⟩ (fun _=>?_);clear hK K;change wpAnyH _ _ _ _ _ _ _ _ (W.drewN (1))
 try simp only [Act.put,zA,zB,zC,zD,zE,zF]
 refine tE 3 ?_;refine tE 4 ?_;refine tE 5 ?_;refine tE 6 ?_;refine tE 7 ?_;refine tE 8 ?_;refine tE 9 ?_;refine tE 10 ?_;refine tE 11 ?_;refine tE 12 ?_;refine tE 13 ?_;refine wpAnyH_done (by kernel_rfl) ?_ _;go_wp2;go_ret;exact⟨rfl,Yk (O HB0) 1⟩
theorem Zfd (h:MR w A B N G mb sb m)(k nk:Nat)(r a b n wd f:Int)(hk:k<22)(hq:∀ V,(binOp .eql 130 (G.D k) .nilFunc).run Tryz.prog V=.ok (.bool false) V)(hgd:∀ V,(eqGuard .eql 130 (.tmp 19) (.const .nilFunc) (G.D k) .nilFunc).run Tryz.prog V=.ok () V)(hg:w.cell? ⟨1,k,none⟩=some (.int .i64 (nk:Int)))(hnk:nk≤3) :
 Calls Tryz.prog 114 #[.pointer (some ⟨mb,0,none⟩),.agg #[.int .i64 (k:Int),.int .i64 r,.int .i64 a,.int .i64 b,.int .i64 n,.int .i64 wd,.int .i64 f]] w fun e w'=>e=.returned (.bool (([r,a,b].take nk).all fun x=>Gr x G.T.r))∧Below w.heap.size w w':=by
 have hbd:=h.bd;obtain⟨r0,hb0,hz0⟩:=Zs w (.cells #[.int .i64 (k:Int),.int .i64 r,.int .i64 a,.int .i64 b,.int .i64 n,.int .i64 wd,.int .i64 f] 103 (0,0));have HB0:=Y hb0;have HR0:=Y r0;have c0:=((cR r0 0):_=some (Value.int .i64 (k:Int)));have c1:=((cR r0 1):_=some (Value.int .i64 r));have c2:=((cR r0 2):_=some (Value.int .i64 a));have c3:=((cR r0 3):_=some (Value.int .i64 b));have hix:Gr (k:Int) 22=true:=decide_eq_true (by omega);obtain⟨P,hmi⟩:=(h.al (.cells #[.int .i64 (k:Int),.int .i64 r,.int .i64 a,.int .i64 b,.int .i64 n,.int .i64 wd,.int .i64 f] 103 (0,0))).row;have cd:=((Zd hmi (15+k)).trans (Zoo _ k hk):_=some (G.D k));have ct:=((cR hmi 0):_=some (Value.int .i64 G.T.r));have cg:=(World.cell?_of_block (hb0.block 1 (World.block_lt_of_cell? w _ hg))).trans hg;have hk1:(k:Int)<22:=by omega
 have hnk1:(nk:Int)≤3:=by omega
 generalize G.D k=D at hq hgd cd;clear r0 hb0 h hmi hg;have hmw:mb<w.heap.size:=by omega
 have HZ0:=Y hz0;clear hz0;go_enter Tryz.func114,Tryz.ntmps114
 go_upto_region 1 with fail
 generalize World.alloc w _=W at HB0 HR0 HZ0 c0 c1 c2 c3 cd ct cg ⊢;refine wp_region_held_drew (S:=fun V=>∃ k,V=W.drewN k) (by kernel_rfl) ⟨1,rfl⟩ (fun _=>?_);change wpAnyH _ _ _ _ _ _ _ _ (W.drewN 1)
 refine tE 0 ?_;refine tE 1 ?_;refine tO 2 fun K hK=>?_;go_simp;refine(Xh (k:Int) 22 (W.drewN 1)).mono ?_;rintro e w1 ⟨rfl,hw1⟩;subst w1;rw [hix];refine hK.out _ _ ⟨1,rfl⟩ (fun _=>?_);clear hK K;change wpAnyH _ _ _ _ _ _ _ _ (W.drewN (1))
 try simp only [Act.put,zA,zB,zC,zD,zE,zF]
 refine tE 3 ?_;refine tE 4 ?_;refine tE 5 ?_;refine tE 6 ?_;refine tE 7 ?_;refine tE 8 ?_;refine tE 9 ?_;refine tE 10 ?_;refine tE 11 ?_;refine tE 12 ?_;refine tE 13 ?_;refine wpAnyH_done (by kernel_rfl) ?_ _;have HB1:=Y (show Below w.heap.size w (W.drewN 1) from Yk (O HB0) 1);have k0:(W.drewN 1).cell? ⟨w.heap.size,0,none⟩=some (.int .i64 (k:Int)):=c0;have k1:(W.drewN 1).cell? ⟨w.heap.size,1,none⟩=some (.int .i64 r):=c1;have k2:(W.drewN 1).cell? ⟨w.heap.size,2,none⟩=some (.int .i64 a):=c2;have k3:(W.drewN 1).cell? ⟨w.heap.size,3,none⟩=some (.int .i64 b):=c3;have kt:(W.drewN 1).cell? ⟨mb,0,none⟩=some (.int .i64 G.T.r):=ct;have kg:(W.drewN 1).cell? ⟨1,k,none⟩=some (.int .i64 (nk:Int)):=cg;have HZ1:=Y (show(W.drewN 1).heap.size=w.heap.size+1 from O HZ0);go_upto_region 3 with fail
 clear c0 c1 c2 c3 cd ct cg HB0 HR0 HZ0 hq hgd;generalize W.drewN 1=W1 at HB1 k0 k1 k2 k3 kt kg HZ1 ⊢;obtain⟨r5,hb5,hz5⟩:=Zs W1 (.cells #[.int .i64 r,.int .i64 a,.int .i64 b] 195 (0,0));have HR5:=Y r5;have HB5:=Y (Zb (O HB1) hb5 (by have:=O HZ1; omega));have j0:=(World.cell?_of_block (hb5.block w.heap.size (by have:=O HZ1; omega))).trans k0;have jt:=(World.cell?_of_block (hb5.block mb (by have:=O HZ1; omega))).trans kt;have jg:=(World.cell?_of_block (hb5.block 1 (World.block_lt_of_cell? W1 _ kg))).trans kg;clear r5 hb5 hz5;go_upto_region 4 with fail
 clear k0 k1 k2 k3 kt kg;generalize hba:W1.heap.size=ba at HR5 ⊢;clear hba;generalize World.alloc W1 _=W2 at HR5 HB5 j0 jt jg ⊢;go_wp2_with fail
 clear j0 jg;go_loopw [35] (fun s35 V=>∃ j:Nat,s35=.int .i64 j∧j≤nk∧V=W2∧(([r,a,b].take j).all fun x=>Gr x G.T.r)=true) (fun s35 _=>nk-(intOf s35).toNat)
 case atStart=>exact⟨0,rfl,by omega,rfl,by simp⟩
 case round =>
  obtain⟨j,rfl,hj,hV,hall⟩:=hrel;subst hV;by_cases hj2:j<nk
  ·
   have hj3:j<[r,a,b].length:=by simp; omega
   obtain⟨y,hy⟩:∃ y,y=[r,a,b][j]:=⟨_,rfl⟩;have cj:wr.cell? ⟨ba,j,none⟩=some (.int .i64 y):=(Zd (O HR5) j).trans (by
    rw [hy];match j,hj3 with
    | 0,_=>rfl
    | 1,_=>rfl
    | 2,_=>rfl)
   have HNX:=Y (show([r,a,b].take (j+1)).all (fun x=>Gr x G.T.r)=Gr y G.T.r by
    rw [List.take_succ_eq_append_getElem hj3,List.all_append,hall,hy];simp)
   have HF:=Y (fun(hn:Gr y G.T.r=false)=>show(([r,a,b].take nk).all fun x=>Gr x G.T.r)=false by
    rw [List.all_eq_false];refine⟨y,?_,by rw [hn]; decide⟩;rw [hy];exact List.mem_take_of_lt _ _ hj2 hj3)
   clear hy hall hj3;go_wp2_with fail
   refine(Xh y G.T.r _).mono ?_;rintro e w2 ⟨rfl,hw2⟩;subst w2;cases hyx:Gr y G.T.r with
   | false =>
    go_wp2;go_ret;rw [O HF hyx];exact⟨rfl,O HB5⟩
   | true =>
    go_wp2;go_roundw
    case rel=>exact⟨j+1,by go_num,by omega,trivial,by rw [O HNX,hyx]⟩
    case measure=>simp [intOf]; omega
  ·
   have hjn:j=nk:=by omega
   subst hjn;have HA:=Y hall;clear hall;go_wp2;go_ret;rw [O HA];exact⟨rfl,O HB5⟩
end
set_option maxHeartbeats 4000000
set_option maxRecDepth 100000
theorem Zyc (T:Zm)(C:Zk)(own:Yc)(was:Nat→Int)(k:Nat)(s:Zf)(h:s.kind=0):On T C own was (k+1) s=On T C own was k (Yb T C own was { s with steps:=s.steps+1 }):=by
 rw [On,if_pos h]
theorem Zrw (T:Zm)(C:Zk)(own:Yc)(was:Nat→Int)(s:Zf)(h:s.kind≠0):∀ k,On T C own was k s=s
 | 0=>by rw [On,if_neg h]
 | k+1=>by rw [On,if_neg h]
section
variable {w:World} {A B:Nat} {G:Xn} {mb sb:Nat} {m:Zf}
theorem Zoq (I J:World→Zf→Prop)(C:Zk)(own:Yc)(n:Nat)(hn:n≤4194304)
 (hI:∀ V s,I V s→∃ N,MR V A B N G mb sb s)
 (hinc:∀ V s,I V s→s.kind=0→s.steps<(n:Int)→J (V.setCell ⟨mb,85,none⟩ (.int .i64 (s.steps+1))) { s with steps:=s.steps+1 })
 (hst:∀ V s,J V s→s.kind=0→Calls Tryz.prog 82 #[.pointer (some ⟨mb,0,none⟩)] V fun e w'=>(∃ v,e=.returned v)∧I w' (Yb G.T C own G.Z s)∧Kx B mb sb V w')
 (hss:∀ s,(Yb G.T C own G.Z s).steps=s.steps) (h:I w m) (hm:m.steps=0) :
 Calls Tryz.prog 61 #[.pointer (some ⟨mb,0,none⟩),.int .i64 (n:Int)] w fun e w'=>(∃ v,e=.returned v)∧(∃ N,MR w' A B N G mb sb (On G.T C own G.Z n m))∧Kx B mb sb w w':=by
 have H0:=Y h;have HI:=Y hI;have HINC:=Y hinc;have HST:=Y hst;have HSS:=Y hss;have HM0:=Y hm;clear h hI hinc hst hss hm;go_enter Tryz.func61,Tryz.ntmps61
 go_wp2_with fail
 go_loopg [] (n+1) (fun k V=>∃(s:Zf) (j:Nat),k=n-j+1∧j≤n∧I V s∧s.steps=(j:Int)∧On G.T C own G.Z n m=On G.T C own G.Z (n-j) s∧Kx B mb sb w V)
 case atStart=>exact⟨m,0,by omega,by omega,O H0,O HM0,rfl,Kx.rf _ _ _ _⟩
 case round =>
  obtain⟨s,j,hk,hj,hi,hsj,hev,hkx⟩:=hrel;obtain⟨N,P,es,hP⟩:=O HI wr s hi;have c81:wr.cell? ⟨mb,81,none⟩=some (.int .i64 s.kind):=(cR hP.mm.mi 81);have c85:wr.cell? ⟨mb,85,none⟩=some (.int .i64 (j:Int)):=by rw [← hsj]; exact(cR hP.mm.mi 85)
  have z85:=frozen_of_row _ _ 85 _ _ hP.mm.mi;have HMR:=Y (show MR wr A B N G mb sb s from⟨P,es,hP⟩);have HI0:=Y hi;have HKX:=Y hkx;have HEV:=Y hev;have HK:=Y hk;clear hP hi hkx hev hk;by_cases hz:s.kind=0
  ·
   rw [hz] at c81;by_cases hjn:j<n
   ·
    have hjI:(j:Int)<(n:Int):=by omega
    have h1:=O HINC wr s (O HI0) hz (by omega);have HEV1:=Y (show On G.T C own G.Z n m=On G.T C own G.Z (n-(j+1)) (Yb G.T C own G.Z { s with steps:=s.steps+1 }) by rw [O HEV,show n-j=n-(j+1)+1 by omega,Zyc _ _ _ _ _ _ hz]);have HS1:=Y (show(Yb G.T C own G.Z { s with steps:=s.steps+1 }).steps=((j+1:Nat):Int) by rw [O HSS]; show s.steps+1=_; omega);have HST1:=Y (O HST _ _ h1 hz);rw [show s.steps+1=(j:Int)+1 by omega] at HST1;have HKX1:=Y ((O HKX).tr (Mc.kx (Zl mb 85 wr (.int .i64 ((j:Int)+1)))));rw [show s.steps+1=(j:Int)+1 by omega] at HEV1 HS1;clear h1 hsj;go_upto_region 2 with fail
    clear c81 c85 z85;go_wp2_with fail
    refine(O HST1).mono ?_;rintro e w5 ⟨⟨v5,rfl⟩,hi5,hk5⟩;have HI5:=Y hi5;have HK5:=Y ((O HKX1).tr hk5);clear hi5 hk5;go_wp2;go_roundg (n-(j+1)+1)
    case measure=>rw [O HK]; omega
    case rel=>exact⟨_,j+1,rfl,by omega,O HI5,O HS1,O HEV1,O HK5⟩
   ·
    have hjn2:j=n:=by omega
    subst hjn2;have HQ:=Y (show On G.T C own G.Z j m=s.endK 3 [] by rw [O HEV,Nat.sub_self,On,if_pos hz]);have hjI:¬ ((j:Int)<(j:Int)):=by omega
    clear hsj;go_wp2_with fail
    refine(Zvh (O HMR) 3).mono ?_;rintro e w2 ⟨⟨v2,rfl⟩,h2,x2⟩;have H2:=Y h2;have X2:=Y ((O HKX).tr (x2.low (O HMR).bd.2.2.2.2));clear h2 x2;go_wp2;go_returns;rw [O HQ];exact⟨⟨_,rfl⟩,⟨_,O H2⟩,O X2⟩
  ·
   have hb:(s.kind==(0:Int))=false:=by simpa using hz
   have HQ:=Y (show On G.T C own G.Z n m=s by rw [O HEV,Zrw _ _ _ _ _ hz]);clear hsj hz;go_wp2;go_returns;rw [O HQ];exact⟨⟨_,rfl⟩,⟨_,O HMR⟩,O HKX⟩
end
set_option maxHeartbeats 1000000
theorem Zhx (n a:Int)(w:World)(h0:0≤n)(h1:n≤1000000)(ha:1≤a)(hb:a≤1000):Calls Tryz.prog 76 #[.int .i64 n,.int .i64 a] w fun e w'=>e=.returned (.int .i64 ((n+a-1) / a*a))∧w'=w:=by
 have hq:Int.tdiv (n+a-1) a=(n+a-1) / a:=Int.tdiv_eq_ediv_of_nonneg (by omega);have hq0:0≤(n+a-1) / a:=Int.ediv_nonneg (by omega) (by omega);have hqm:(n+a-1) / a*a≤n+a-1:=Int.ediv_mul_le _ (by omega);have hq1:(n+a-1) / a≤n+a-1:=Int.ediv_le_self _ (by omega);have hqp:0≤(n+a-1) / a*a:=Int.mul_nonneg hq0 (by omega);have hne:(a==0)=false:=by simp; omega
 obtain⟨d,hd⟩:∃ d,d=(n+a-1) / a:=⟨_,rfl⟩;rw [← hd] at hq hq0 hqm hq1 hqp ⊢;clear hd;go_enter Tryz.func76,Tryz.ntmps76
 go_wp2;go_ret;exact⟨by simp [*],rfl⟩
def Zaw (s:Int):Bool:=decide (0≤s∧s≤65536∧s % 32=0)
theorem Zmf (s:Int)(w:World):Calls Tryz.prog 57 #[.int .i64 s] w fun e w'=>e=.returned (.bool (Zaw s))∧w'=w:=by
 by_cases h0:0≤s
 ·
  by_cases h1:s≤65536
  ·
   have hr:s.tmod 32=s % 32:=Int.tmod_eq_emod_of_nonneg h0;have HQ:=Y (show Zaw s=(s % 32==0) by
    unfold Zaw;by_cases h2:s % 32=0
    ·
     rw [decide_eq_true ⟨h0,h1,h2⟩,h2]; rfl
    ·
     rw [decide_eq_false (fun h=>h2 h.2.2)]; simpa using h2)
   go_enter Tryz.func57,Tryz.ntmps57
   go_wp2;go_ret;rw [O HQ];exact⟨by simp,rfl⟩
  ·
   have HQ:=Y (show Zaw s=false from decide_eq_false (fun h=>h1 h.2.1));go_enter Tryz.func57,Tryz.ntmps57
   go_wp2;go_ret;rw [O HQ];exact⟨rfl,rfl⟩
 ·
  have HQ:=Y (show Zaw s=false from decide_eq_false (fun h=>h0 h.1));go_enter Tryz.func57,Tryz.ntmps57
  go_wp2;go_ret;rw [O HQ];exact⟨rfl,rfl⟩
set_option maxHeartbeats 4000000
set_option maxRecDepth 100000
def dVs:Array Value:=#[.nilFunc,.func (.func 91) #[] #[],.func (.func 92) #[] #[],.func (.func 93) #[] #[],.func (.func 93) #[] #[],.func (.func 93) #[] #[],.func (.func 93) #[] #[],.func (.func 93) #[] #[],.func (.func 93) #[] #[],.func (.func 93) #[] #[],.func (.func 94) #[] #[],.func (.func 95) #[] #[],.func (.func 96) #[] #[],.func (.func 97) #[] #[],.func (.func 98) #[] #[],.func (.func 99) #[] #[],.func (.func 100) #[] #[],.func (.func 101) #[] #[],.func (.func 102) #[] #[],.func (.func 103) #[] #[],.func (.func 104) #[] #[],.func (.func 105) #[] #[]]
theorem Tryz.infDs:(Tryz.prog.info? 132).map (·.size)=some 22:=by kernel_rfl
theorem Iv (w:World):Calls Tryz.prog 73 #[] w fun e w'=>e=.returned (.agg dVs)∧Below w.heap.size w w':=by
 obtain⟨r0,hb0,hz0⟩:=Zs w (.cells #[.nilFunc,.nilFunc,.nilFunc,.nilFunc,.nilFunc,.nilFunc,.nilFunc,.nilFunc,.nilFunc,.nilFunc,.nilFunc,.nilFunc,.nilFunc,.nilFunc,.nilFunc,.nilFunc,.nilFunc,.nilFunc,.nilFunc,.nilFunc,.nilFunc,.nilFunc] 132 (0,0));have HR0:=Y r0;have HB0:=Y hb0;clear r0 hb0 hz0;go_enter Tryz.func73,Tryz.ntmps73
 go_upto_region 1 with fail
 generalize World.alloc w _=W at HR0 HB0 ⊢;go_wp2_with (refine wpList_store_row rfl 132 _ _ rfl w.heap.size dVs rfl rfl 132 _ (O HR0) (Tryz.infDs.trans rfl) rfl (by simp [dVs,Value.oneCell']) ?_)
 refine bodyPost_ret (Xu (fn:=Tryz.f73) (q:=0) (uy:=132) rfl _ _ w.heap.size 132 dVs (0,0) _ rfl (setRow_heap _ _ _ _ _ _ (O HR0)) Tryz.underlying132 rfl (Tryz.infDs.trans rfl)) rfl ?_;refine⟨rfl,?_⟩;have hb:=O HB0;exact⟨hb.os,hb.tape,hb.output,by have:=hb.size; simpa [World.setRow] using this,fun q hq=>(setRow_other _ _ _ _ (by omega)).trans (hb.block q hq)⟩
theorem Zua (q:Nat)(V:World):(binOp .eql 130 (.func (.func q) #[] #[]) .nilFunc).run Tryz.prog V=.ok (.bool false) V:=by kernel_rfl
theorem Zyd (q:Nat)(V:World):(eqGuard .eql 130 (.tmp 19) (.const .nilFunc) (.func (.func q) #[] #[]) .nilFunc).run Tryz.prog V=.ok () V:=by rfl
theorem Zvq (V:World):(binOp .eql 130 .nilFunc .nilFunc).run Tryz.prog V=.ok (.bool true) V:=by kernel_rfl
end Go.Proofs.YtnlcfnjeagmemaaGreatDoor
