import Derived.Test.YtkenknfgeoecbaaGreatDoorJ3
namespace Go.Proofs.YtkenknfgeoecbaaGreatDoor
open Go.RowKit
set_option maxHeartbeats 4000000
set_option maxRecDepth 100000
def iC (ns:List Int):List Value:=ns.map fun n=>.int .i64 n
def wTk (xs:List (Int×Int))(k:Nat):List Value:=iC ((xs.take k).map (·.1))
theorem Zbi (xs:List (Int×Int))(k:Nat)(hk:k<xs.length):wTk xs (k+1)=wTk xs k++[.int .i64 (xs.getD k (0,0)).1]:=by unfold wTk;rw [List.take_succ_eq_append_getElem hk,List.map_append];simp [iC,List.getD,hk]
theorem Jo {P:Program}{fn:Func}{q:Tmp}{uy:TypeId}(h:fn.results=#[.cell q uy])(tmps:Array Value)(w:World)(g':Nat)(t':TypeId)(cs':Array Value)(fr':Nat×Nat)(d':TypeDesc)
 (hp':tmps.getD q undef=.pointer (some ⟨g',0,none⟩)) (hg':w.heap[g']?=some (.cells cs' t' fr')) (hu':P.underlying uy=some d') (hd':(match d' with | .struct _ | .array _ _=>true | _=>false)=true) (hi':(P.info? uy).map (·.size)=some cs'.size) :
 (results fn tmps).run P w=.ok (.agg cs') w:=by
 have e2:tmps[q]?.getD undef=.pointer (some ⟨g',0,none⟩):=by simpa using hp'
 simp [results,h,e2,asAddr,run_loadVar_row w g' t' uy cs' fr' d' hg' hu' hd' hi']
theorem Tryz.infoInt:(Tryz.prog.info? 3).map (fun i=>(i.zero,i.size,i.bytes))=some (some (.int .i64 0),1,8):=by kernel_rfl
theorem Tryz.infSigK:(Tryz.prog.info? 43).map (·.size)=some 2:=by kernel_rfl
theorem Ly {P:Program}{t:TypeId}{z:Value}{n b:Nat}(h:(P.info? t).map (fun i=>(i.zero,i.size,i.bytes))=some (some z,n,b)):∃ i,P.info? t=some i∧i.zero=some z∧i.size=n∧i.bytes=b:=by
 cases hi:P.info? t with
 | none=>simp [hi] at h
 | some i=>simp [hi] at h; exact⟨i,rfl,h.1,h.2.1,h.2.2⟩
theorem Li.of_own {w:World}{base:Nat}{v:Value}{ns:List Int}(h:w.ownsRow base 3 1 v ns.length (iC ns))(hn:ns.length<9223372036854775808):Li w v ns:=by
 rcases h.2 with⟨e,e0⟩ | ⟨g,cap,cur,e,-,-,hc,-⟩
 ·exact⟨none,0,by rw [e,e0],by omega,hn,fun h0=>by omega⟩
 ·refine⟨_,cap,e,hc,hn,fun h0=>⟨g,0,rfl,fun i hi=>?_⟩⟩;subst e;have:=h.cellAt i (by omega);simp only [Nat.zero_add] at this ⊢;rw [this];simp [iC,hi]
theorem Si {w w':World}{base n size:Nat}{e:TypeId}{v:Value}{xs:List Value}(h:w.ownsRow base e size v n xs)(hk:∀ g,base<=g->w'.heap[g]?=w.heap[g]?):w'.ownsRow base e size v n xs:=by
 obtain⟨h1,h2 | ⟨g,cap,cur,e1,e2,e3,e4⟩⟩:=h
 ·exact⟨h1,Or.inl h2⟩
 ·exact⟨h1,Or.inr ⟨g,cap,cur,e1,e2,(hk g e2).trans e3,e4⟩⟩
theorem Zg {a w:World}{n T:Nat}{cs:Array Value}(h:Below n a w)(hT:n<=T):Below n a (w.setRow T cs):=⟨h.os,h.tape,h.output,by have:=h.size; simpa [World.setRow] using this,fun k hk=>(setRow_other w T k cs (by omega)).trans (h.block k hk)⟩
theorem Cs {w:World}{base n:Nat}{v:Value}{xs:List Value}(h:w.ownsRow base 3 1 v (n+1) xs):∃ g cap,v=.slice (some ⟨g,0,none⟩) (n+1) cap:=by
 rcases h.2 with⟨_,e0⟩ | ⟨g,cap,cur,e,-⟩
 ·omega
 ·exact⟨g,cap,e⟩
theorem Ybj (f:Zm)(pv b c d:Value)(w:World)(hp:LS 2 w pv f.params.length (fun k=>Nq (f.params.getD k (0,0))))(hn:f.params.length<=8796093022208) :
 Calls Tryz.prog 85 #[.agg #[pv,.int .i64 f.results,b,c,d]] w fun e w'=>∃ v,e=.returned (.agg #[v,.int .i64 f.results])∧Li w' v (Le f).1∧Below w.heap.size w w':=by
 obtain⟨ti,hti,hz0,hz1,hz2⟩:=Ly Tryz.infoInt;have hx:=al0 w (.cells #[pv,.int .i64 f.results,b,c,d] 71 (0,0));have hp1:=hp.below hx.2.1;have hx2:=al0 (w.alloc (.cells #[pv,.int .i64 f.results,b,c,d] 71 (0,0))) (.cells #[.slice none 0 0,.int .i64 0] 43 (0,0));have hp2:=hp1.below hx2.2.1;have hx3:=al0 ((w.alloc (.cells #[pv,.int .i64 f.results,b,c,d] 71 (0,0))).alloc (.cells #[.slice none 0 0,.int .i64 0] 43 (0,0))) (.cells #[.slice none 0 0,.int .i64 f.results] 43 (0,0));have hp3:=hp2.below hx3.2.1;have hs1:=hx.2.2;have hs2:=hx2.2.2;have hs3:=hx3.2.2;have hW1:=Zd (Zd hx.2.1 hx2.2.1 (by omega)) hx3.2.1 (by omega);have hrr:=(hx3.2.1.block (w.heap.size+1) (by omega)).trans (hs1 ▸ hx2.1);have hrs:=hx3.1;rw [hs2,hs1] at hrs hs3;obtain⟨p,cap,rfl,hcap,hlt,hc⟩:=hp3.pairs;have hpb:=hp;have HC:=Za hc;have HW1:=Za hW1;have HRS:=Za hrs;have HRR:=Za hrr;have HS3:=Za hs3;have HPB:=Za hp.pairs;clear hc hx hp hp1 hx2 hp2 hW1 hrs hrr hx3 hp3 hs1 hs2 hs3 hpb;go_enter Tryz.func85,Tryz.ntmps85
 go_wp2_with fail
 generalize World.alloc (World.alloc (World.alloc w _) _) _=W at HC HW1 HRS HRR HS3 ⊢;go_loopw [12] (fun j w'=>∃(k:Nat) (v:Value),j=.int .i64 k∧k<=f.params.length∧w'.heap[w.heap.size+1+1]?=some (.cells #[v,.int .i64 f.results] 43 (0,0))∧w'.ownsRow W.heap.size 3 1 v k (wTk f.params k)∧Below (w.heap.size+2) W w') (fun j _=>f.params.length-(intOf j).toNat)
 case atStart=>exact⟨0,_,rfl,by omega,J HRS,World.ownsRow_nil _ _ _ _,Below.refl _ _⟩
 case round =>
  obtain⟨k,v,rfl,hk,hrow,how,hbw⟩:=hrel;have hws:=hbw.size;have cv:=(cR hrow 0);have r0:=fun X:Obj=>(Gm hrow 0 X).trans rfl;have fz:=fun j=>frozen_of_row _ _ j _ _ hrow;obtain⟨vp,vn,vc,hvs⟩:∃ vp vn vc,v=.slice vp vn vc:=by
   rcases how.2 with⟨e,_⟩ | ⟨g,cap,cur,e,_⟩
   ·exact⟨_,_,_,e⟩
   ·exact⟨_,_,_,e⟩
  subst hvs;by_cases hk2:k<f.params.length
  ·obtain⟨p',cap',he,-,-,hcc0⟩:=J HPB;injection he with e1 e2 e3;subst e1 e3;obtain⟨sb,so,rfl,hcc⟩:=hcc0 (by omega);have hsb:sb<w.heap.size:=World.block_lt_of_cell? w _ (hcc k hk2).1;have hbb:Below w.heap.size w wr:=(J HW1).trans (hbw.mono (Nat.le_add_right _ _));have c1:=(hbb.cell (p:=⟨sb,so+k*2,none⟩) hsb).trans (hcc k hk2).1;have c2:=(hbb.cell (p:=⟨sb,so+k*2+1,none⟩) hsb).trans (hcc k hk2).2;have hT:=J HS3;have hTl:w.heap.size+1+1<wr.heap.size:=by omega
   have HTL:=Za hTl;have HTK:=Za (Zbi f.params k hk2);have HOW:=Za how;have HBW:=Za hbw;have HROW:=Za hrow;clear hcc hcc0 how hbw hbb hrow hT hTl e2 fz cv HC;generalize f.params.getD k (0,0)=xy at c1 c2 HTK;obtain⟨x,y⟩:=xy;simp only at c1 c2;go_wp2_with (at_builtin; refine wpList_append_own _ rfl _ _ 23 rfl W.heap.size 3 ti _ 1 8 Tryz.underlying23 hti hz0 hz1 hz2 rfl (by decide) _ _ _ rfl (((J HOW).alloc _).alloc _) ⟨wr.heap.size+1,0,none⟩ 1 1 [.int .i64 x] rfl rfl (by intro j u hj; match j,hj with | 0,hj=>(simp at hj; subst hj; exact(World.cell?_alloc_at _ _ _ _ (by simp)).trans rfl)) (by intro u hu; simp at hu; subst hu; rfl) ?c3 ?c4 ?c5 ?_)
   case c3=>unfold maxLen; omega
   case c4=>omega
   case c5=>first | omega | (simp; omega)
   intro v' w7 hown hgr _;obtain⟨g2,cap2,rfl⟩:=Cs hown;have hTl:=J HTL;have hT:=J HS3;have hne:∀ q,q<W.heap.size->some q≠(Value.slice vp vn vc).ownBlock:=fun q hq e=>by have:=((J HOW).lt q e.symm).1; omega
   have hrow7:=(hgr.block (w.heap.size+1+1) (by simp; omega) (hne _ (by omega))).trans ((((Below.refl wr.heap.size wr).alloc (Nat.le_refl _) _).alloc (by simp) _).block (w.heap.size+1+1) hTl |>.trans (J HROW));have c7:=(cR hrow7 0);have f7:=frozen_of_row _ _ 0 _ _ hrow7;have HNR:=Za (heap_setCell_same w7 (w.heap.size+1+1) 0 _ _ (.slice (some ⟨g2,0,none⟩) (k+1) cap2) hrow7);have HNW:=Za (show w7.ownsRow W.heap.size 3 1 (.slice (some ⟨g2,0,none⟩) (k+1) cap2) (k+1) (wTk f.params (k+1)) by rw [J HTK]; exact hown);have HN2:=Za (Si (w':=w7.setCell ⟨w.heap.size+1+1,0,none⟩ (.slice (some ⟨g2,0,none⟩) (k+1) cap2)) (J HNW) (fun g hg=>heap_setCell_other _ _ _ _ (by show g≠w.heap.size+1+1; omega)));have HB7:=Za (show Below (w.heap.size+2) W (w7.setCell ⟨w.heap.size+1+1,0,none⟩ (.slice (some ⟨g2,0,none⟩) (k+1) cap2)) from
    have hb7:Below (w.heap.size+2) W w7:=(((J HBW).alloc (by omega) _).alloc (by simp; omega) _).trans ⟨hgr.os,hgr.tape,hgr.output,hgr.size,fun q hq=>hgr.block q (by simp; omega) (hne q (by omega))⟩;⟨hb7.os,hb7.tape,hb7.output,by simpa using hb7.size,fun q hq=>(heap_setCell_other _ _ _ _ (by show q≠w.heap.size+1+1; omega)).trans (hb7.block q hq)⟩)
   clear hown hgr hne hTl hT hrow7 r0 c1 c2;go_wp2;go_roundw
   case rel=>exact⟨k+1,_,by go_num,by omega,J HNR,J HN2,J HB7⟩
   case measure=>simp [intOf]; omega
  ·obtain rfl:k=f.params.length:=by omega
   have hvn:vn=f.params.length:=by
    rcases how.2 with⟨e,e0⟩ | ⟨g,cap,cur,e,_⟩
    ·injection e with _ e2 _; omega
    ·injection e with _ e2 _
   subst vn;unfold wTk at how;rw [List.take_length] at how;have hT:=J HS3;have HRR2:=Za ((hbw.block (w.heap.size+1) (by omega)).trans (J HRR));have HRS2:=Za hrow;have HOW:=Za how;have HBW:=Za hbw;clear hrow how hbw hT r0 fz cv;go_wp2_with (first | (refine wpList_load_row rfl 43 (.tmp 3) rfl (w.heap.size+1+1) rfl 43 #[.slice vp f.params.length vc,.int .i64 f.results] (0,0) _ (J HRS2) Tryz.underlying43 rfl (Tryz.infSigK.trans rfl) ?_) | (refine wpList_store_row rfl 43 (.tmp 2) (.tmp 24) rfl (w.heap.size+1) #[.slice vp f.params.length vc,.int .i64 f.results] rfl rfl 43 _ (J HRR2) (Tryz.infSigK.trans rfl) rfl (by simp [Value.oneCell']) ?_))
   refine bodyPost_ret (Jo (fn:=Tryz.f85) (q:=2) (uy:=43) rfl _ _ (w.heap.size+1) 43 #[.slice vp f.params.length vc,.int .i64 f.results] (0,0) _ rfl (setRow_heap _ _ _ _ _ _ (J HRR2)) Tryz.underlying43 rfl (Tryz.infSigK.trans rfl)) rfl ?_;have hT:=J HS3;refine⟨_,rfl,Li.of_own (base:=W.heap.size) (by rw [show((Le f).1).length=f.params.length by simp [Le]]; exact Si (J HOW) (fun g hg=>setRow_other _ _ _ _ (by omega))) (by simp [Le]; omega),Zg ((J HW1).trans ((J HBW).mono (by omega))) (by omega)⟩
set_option maxHeartbeats 4000000
set_option maxRecDepth 100000
theorem Zfn.shape {w:World}{v:Value}{l:List Yj}(h:Zfn w v l):∃ q c,v=.slice q l.length c∧l.length<9223372036854775808:=by obtain⟨A,⟨p,cap,h1,h2,h3,h4⟩,-⟩:=h;exact⟨p,cap,h1,h3⟩
theorem Kq.blk {w:World}{f:Zm}{pv hv sv bv:Value}{B:Nat->Value}(h:Kq w f pv hv sv bv B):∀ k,k<f.blocks.length->∃ q c,B k=.slice q (f.blocks.getD k []).length c∧(f.blocks.getD k []).length<9223372036854775808:=fun k hk=>by
 have:=(h.each k hk).shape;rwa [show f.blocks[k]=f.blocks.getD k [] by simp [List.getD,hk]] at this
theorem Zkx (r sp lk t0 t1:Int)(va vr vs:Value)(al sh by_:Int)(pr:Bool)(f:Zm)(pv hv sv bv:Value)(B:Nat->Value)(w:World)(hr:4<=r∧r<=16)(hF:Kq w f pv hv sv bv B) :
 Calls Tryz.prog 89 #[.agg (Zt r sp lk t0 t1 va vr vs al sh by_ pr),.agg #[pv,.int .i64 f.results,hv,sv,bv]] w fun e w'=>e=.returned (.bool (Yu r (Yn sp lk t0 t1) f))∧Below w.heap.size w w':=by
 have hx:=al0 w (.cells (Zt r sp lk t0 t1 va vr vs al sh by_ pr) 25 (0,0));have hx2:=al0 (w.alloc (.cells (Zt r sp lk t0 t1 va vr vs al sh by_ pr) 25 (0,0))) (.cells #[pv,.int .i64 f.results,hv,sv,bv] 71 (0,0));have HFD:=Za ((hF.below hx.2.1).below hx2.2.1);have hs1:=hx.2.2;have hs2:=hx2.2.2;have HW1:=Za (Zd hx.2.1 hx2.2.1 (by omega));have hrb:=(hx2.2.1.block w.heap.size (by omega)).trans hx.1;have hrf:=hx2.1;rw [hs1] at hrf hs2;obtain⟨pp,cp,rfl⟩:=hF.ps.shape;obtain⟨ph,ch,rfl⟩:=hF.hs.shape;obtain⟨ps,cs,rfl⟩:=hF.ss.shape;obtain⟨pb,cb,rfl⟩:=hF.bs.shape;have hl1:f.params.length<9223372036854775808:=by obtain⟨_,_,_,_,h,_⟩:=hF.ps; exact h
 have hl2:f.homes.length<9223372036854775808:=hF.hs.lt;have hl3:f.slots.length<9223372036854775808:=hF.ss.lt;have hl4:f.blocks.length<9223372036854775808:=by obtain⟨_,_,_,_,h,_⟩:=hF.bs; exact h
 have HRB:=Za hrb;have HRF:=Za hrf;have HS2:=Za hs2;have HR:=Za hr;have HX0:=Za (fun h:¬ f.params.length<=8=>show Yu r (Yn sp lk t0 t1) f=false by unfold Yu; simp [h]);have HX1:=Za (fun h:Ns (Le f)=false=>show Yu r (Yn sp lk t0 t1) f=false by unfold Yu; simp [h]);have HX2:=Za (fun h:¬ f.homes.length<=12=>show Yu r (Yn sp lk t0 t1) f=false by unfold Yu; simp [h]);have HX3:=Za (fun h:Kd r (Yn sp lk t0 t1) f.homes=false=>show Yu r (Yn sp lk t0 t1) f=false by unfold Yu; simp [h]);have HX4:=Za (fun h:¬ f.slots.length<=6=>show Yu r (Yn sp lk t0 t1) f=false by unfold Yu; simp [h]);have HX5:=Za (fun h:Gg f.slots 1 8=false=>show Yu r (Yn sp lk t0 t1) f=false by unfold Yu; simp [h]);have HX6:=Za (fun h:Gn f.blocks.length 1 12=false=>show Yu r (Yn sp lk t0 t1) f=false by unfold Yu; simp [h]);have HX7:=Za (fun h:Ua f.blocks=false=>show Yu r (Yn sp lk t0 t1) f=false by unfold Yu; simp [h]);have HX8:=Za (fun h:Ub f=false=>show Yu r (Yn sp lk t0 t1) f=false by unfold Yu; simp [h]);have HXT:=Za (fun(h0:f.params.length<=8) (h1:Ns (Le f)=true) (h2:f.homes.length<=12) (h3:Kd r (Yn sp lk t0 t1) f.homes=true) (h4:f.slots.length<=6) (h5:Gg f.slots 1 8=true) (h6:Gn f.blocks.length 1 12=true) (h7:Ua f.blocks=true) (h8:Ub f=true)=>show Yu r (Yn sp lk t0 t1) f=true by unfold Yu; simp [h0,h1,h2,h3,h4,h5,h6,h7,h8]);clear hx hx2 hF hs1 hs2 hrb hrf hr;go_enter Tryz.func89,Tryz.ntmps89
 by_cases h0:f.params.length<=8
 ·skip
  go_wp2_with fail
  generalize World.alloc (World.alloc w _) _=W at HFD HW1 HRB HRF HS2 ⊢;refine(Ybj f _ _ _ _ W (J HFD).ps (by omega)).mono ?_;rintro e w2 ⟨vv,rfl,hvv,hb⟩;have HB2:=Za hb;have HVV:=Za hvv;obtain⟨vp,vc,rfl⟩:=hvv.shape;clear hb hvv;go_wp2_with fail
  refine(Cr _ _ _ _ (J HVV)).mono ?_;rintro e w3 ⟨rfl,hb⟩;have HB3:=Za (Zd (J HB2) hb (J HB2).size);clear hb HVV HB2;have hsz:=J HS2;have hrow:=((J HB3).block (w.heap.size+1) (by omega)).trans (J HRF);have r2:=(cR hrow 2);clear hrow hsz;cases h1:Ns ((Le f).1,f.results) with
  | false=>have hz:=Za (J HX1 h1);go_wp2;go_ret;exact⟨by rw [J hz]; rfl,Zd (J HW1) (J HB3) (by have:=J HS2; omega)⟩
  | true =>
   have H1:=Za h1;clear h1;by_cases h2:f.homes.length<=12
   ·skip
    have hsz:=J HS2;have hrow:=((J HB3).block (w.heap.size+1) (by omega)).trans (J HRF);have hrbx:=((J HB3).block w.heap.size (by omega)).trans (J HRB);unfold Zt at hrbx;obtain⟨b0,b1,b2,b3,b4,b5,b6,b7,b8,b9,b10,b11⟩:=cT12 hrbx;clear hrow hsz hrbx;go_wp2_with fail
    refine(Zkw r sp lk t0 t1 va vr vs al sh by_ pr _ f.homes w3 (J HR) ((J HFD).below (J HB3)).hs (by omega)).mono ?_;rintro e w4 ⟨rfl,hb⟩;have HB4:=Za (Zd (J HB3) hb (J HB3).size);clear hb r2 b0 b1 b2 b3 b4 b5 b6 b7 b8 b9 b10 b11;have hsz:=J HS2;have hrow:=((J HB4).block (w.heap.size+1) (by omega)).trans (J HRF);have r3:=(cR hrow 3);have r4:=(cR hrow 4);clear hrow hsz;cases h3:Kd r (Yn sp lk t0 t1) f.homes with
    | false=>have hz:=Za (J HX3 h3);go_wp2;go_ret;exact⟨by rw [J hz]; rfl,Zd (J HW1) (J HB4) (by have:=J HS2; omega)⟩
    | true =>
     have H3:=Za h3;clear h3;by_cases h4:f.slots.length<=6
     ·skip
      go_wp2_with fail
      refine(Zkv _ f.slots w4 ((J HFD).below (J HB4)).ss).mono ?_;rintro e w5 ⟨rfl,h5'⟩;subst w5;cases h5:Gg f.slots 1 8 with
      | false=>have hz:=Za (J HX5 h5);go_wp2;go_ret;exact⟨by rw [J hz]; rfl,Zd (J HW1) (J HB4) (by have:=J HS2; omega)⟩
      | true =>
       have H5:=Za h5;clear h5;go_wp2_with fail
       refine(Jk f.blocks.length 1 12 w4).mono ?_;rintro e w5 ⟨rfl,h5'⟩;subst w5;cases h6:Gn f.blocks.length 1 12 with
       | false=>have hz:=Za (J HX6 h6);go_wp2;go_ret;exact⟨by rw [J hz]; rfl,Zd (J HW1) (J HB4) (by have:=J HS2; omega)⟩
       | true =>
        have H6:=Za h6;clear h6;go_wp2_with fail
        refine(Zhl _ f.blocks B w4 ((J HFD).below (J HB4)).bs (J HFD).blk).mono ?_;rintro e w5 ⟨rfl,h5'⟩;subst w5;cases h7:Ua f.blocks with
        | false=>have hz:=Za (J HX7 h7);go_wp2;go_ret;exact⟨by rw [J hz]; rfl,Zd (J HW1) (J HB4) (by have:=J HS2; omega)⟩
        | true =>
         have H7:=Za h7;clear h7;have hsz:=J HS2;have hrow:=((J HB4).block (w.heap.size+1) (by omega)).trans (J HRF);obtain⟨r0,r1,r2⟩:=cT3 hrow;clear hrow hsz;go_wp2_with fail
         refine(Zhm f _ _ _ _ w4 ((J HFD).below (J HB4)).ps ((J HFD).below (J HB4)).hs ((J HFD).below (J HB4)).ss).mono ?_;rintro e w5 ⟨rfl,hb⟩;have HB5:=Za (Zd (J HB4) hb (J HB4).size);clear hb;cases h8:Ub f with
         | false=>have hz:=Za (J HX8 h8);go_wp2;go_ret;exact⟨by rw [J hz]; rfl,Zd (J HW1) (J HB5) (by have:=J HS2; omega)⟩
         | true=>have hz:=Za (J HXT h0 (J H1) h2 (J H3) h4 (J H5) (J H6) (J H7) h8);go_wp2;go_ret;exact⟨by rw [J hz]; rfl,Zd (J HW1) (J HB5) (by have:=J HS2; omega)⟩
     ·have hz:=Za (J HX4 h4);go_wp2;go_ret;exact⟨by rw [J hz]; rfl,Zd (J HW1) (J HB4) (by have:=J HS2; omega)⟩
   ·have hz:=Za (J HX2 h2);go_wp2;go_ret;exact⟨by rw [J hz]; rfl,Zd (J HW1) (J HB3) (by have:=J HS2; omega)⟩
 ·have hz:=Za (J HX0 h0);go_wp2;go_ret;exact⟨by rw [J hz]; rfl,J HW1⟩
set_option maxHeartbeats 2000000
set_option maxRecDepth 100000
theorem Kp (f:Zm)(fv ev pv hv sv bv lv:Value)(r:Int)(ls:List Int)(w:World)(hh:∃ p c,hv=.slice p f.homes.length c)(hhl:f.homes.length<9223372036854775808)(h:Li w lv ls):Calls Tryz.prog 240 #[.agg #[fv,ev,pv,.int .i64 r,hv,sv,bv],lv] w fun e w'=>e=.returned (.bool (Mt f ls))∧Below w.heap.size w w':=by
 obtain⟨ph,ch,rfl⟩:=hh;have hx:=al0 w (.cells #[fv,ev,pv,.int .i64 r,.slice ph f.homes.length ch,sv,bv] 272 (0,0));obtain⟨p,cap,rfl,hcap,hlt,hc⟩:=h.below hx.2.1;have hlt:ls.length<9223372036854775808:=hlt;have HC:=Za hc;have HX:=Za hx;clear hc hx h;go_enter Tryz.func240,Tryz.ntmps240
 go_wp2_with fail
 generalize World.alloc w _=W at HC HX ⊢;go_loopw [9] (fun j w'=>∃ k:Nat,j=.int .i64 k∧k<=ls.length∧w'=W∧∀ q,q<k->Jp f (ls.getD q 0)=true) (fun j _=>ls.length-(intOf j).toNat)
 case atStart=>exact⟨0,rfl,by omega,rfl,fun q hq=>by omega⟩
 case round =>
  obtain⟨k,rfl,hk,rfl,hno⟩:=hrel;have HN:=Za hno;clear hno;by_cases hk2:k<ls.length
  ·obtain⟨sb,so,rfl,hcc⟩:=J HC (by omega);have c:=hcc k hk2;have r4:=(cR (J HX).1 4);have HW:=Za (Jk (ls.getD k 0) 0 (f.homes.length-1) wr);have HBAD:=Za (fun hb:Gn (ls.getD k 0) 0 (f.homes.length-1)=false=>show Mt f ls=false from Gd hk2 hb);have HNX:=Za (fun hb:Gn (ls.getD k 0) 0 (f.homes.length-1)=true=>Jc (q:=fun q=>Jp f (ls.getD q 0)) (J HN) hb);clear hcc HC;generalize Gn (ls.getD k 0) 0 (f.homes.length-1)=yes at HW HBAD HNX;generalize ls.getD k 0=y at c HW;go_wp2_with fail
   refine(J HW).mono ?_;rintro e w2 ⟨rfl,h2⟩;subst w2;cases yes with
   | false=>have hx:=Za (J HBAD rfl);go_wp2;go_ret;exact⟨by rw [J hx]; rfl,(J HX).2.1⟩
   | true =>
    have hx:=Za (J HNX rfl);go_wp2;go_roundw
    case rel=>exact⟨k+1,by go_num,by omega,trivial,J hx⟩
    case measure=>simp [intOf]; omega
  ·have HT:=Za (show Mt f ls=true from Ld (fun q hq=>J HN q (by omega)));obtain rfl:k=ls.length:=by omega
   go_wp2;go_ret;exact⟨by rw [J HT]; rfl,(J HX).2.1⟩
theorem IntKind.wrap_of_boundsK {n:Int}(h0:-9223372036854775808<=n)(h1:n<9223372036854775808):IntKind.i64.wrap n=n:=by rw [IntKind.wrap_i64];omega
theorem Li.one (w:World)(n:Int):Li (w.alloc (.cells #[.int .i64 n] 3 (0,0))) (.slice (some ⟨w.heap.size,0,none⟩) 1 1) [n]:=Li.new (ns:=[n]) (heap_alloc_new w _) (by show 1<Jw; decide)
end Go.Proofs.YtkenknfgeoecbaaGreatDoor
