import Derived.Test.YtkenknfgeoecbaaGreatDoorJ22
namespace Go.Proofs.YtkenknfgeoecbaaGreatDoor
open Go.RowKit
set_option maxHeartbeats 4000000
set_option maxRecDepth 100000
theorem Zlk {P:Program}{ops:Array Oper}{o:Oper}{a:Act}{w:World}{K:Act->World->Prop}{Q:Exit->Act->World->Prop}{E:Prop}(hg:o.guard=none)(f:FuncId)(args:Array Value){F:Value->World->Prop}
 (hrun:(execOp a.eval o).run P w=.ok (.enter f args) w) (hF:Calls P f args w fun e w'=>∃ v,e=.returned v∧F v w') (h:∀ v w',F v w'->K (a.put o.dst v) w'):if Region.wanted o (yielded ops a.tmps)=true then Oper.wp P o a w K Q else E:=by
 have hw:Region.wanted o (yielded ops a.tmps)=true:=by simp [Region.wanted,hg]
 rw [if_pos hw];unfold Oper.wp;rw [hrun];refine hF.mono ?_;rintro e w' ⟨v,rfl,hv⟩;exact h v w' hv
theorem Zyc {P:Program}{ops:Array Oper}{o:Oper}{a:Act}{w:World}{K:Act->World->Prop}{Q:Exit->Act->World->Prop}{E:Prop}
 (hg:o.guard=none) (s x:Operand) (t:TypeId) (ho:o.op=.call { callee:=.builtin .append,args:=#[s,x],argTypes:=#[t,t] })
 (base:Nat) (e:TypeId) (i:TypeInfo) (z:Value) (size bytes:Nat) (ht:P.underlying t=some (.slice e)) (hi:P.info? e=some i) (hz:i.zero=some z)
 (hsize:i.size=size) (hby:i.bytes=bytes) (hzs:z.cells.size=size) (hsz:0<size)
 (v:Value) (n:Nat) (xs:List Value) (hs:a.eval s=v) (hown:w.ownsRow base e size v n xs)
 (ad:Addr) (m c:Nat) (news:List Value) (hx:a.eval x=.slice (some ad) m c) (hl:news.length=m*size) (hnews:∀ j u,news[j]?=some u->w.cell? (ad.add j)=some u) (h1:∀ u ∈ news,u.oneCell'=true)
 (h63:n+m<=maxLen) (hbytes:(n+m)*bytes<=140737488355328) (hbase:base<=w.heap.size)
 (h:∀ v' w',w'.ownsRow base e size v' (n+m) (xs++news)->w.grownBy w' v.ownBlock->K (a.put o.dst v') w') :
 if Region.wanted o (yielded ops a.tmps)=true then Oper.wp P o a w K Q else E:=by
 have hw:Region.wanted o (yielded ops a.tmps)=true:=by simp [Region.wanted,hg]
 rw [if_pos hw];exact wp_append_own w s x t ho base e i z size bytes ht hi hz hsize hby hzs hsz v n xs hs hown ad m c news hx hl hnews h1 h63 hbytes hbase (fun v' w' h2 h3 _=>h v' w' h2 h3)
theorem Ydf {w w':World}{B G:Nat}{v:Value}{xs:List (Int×Int)}(h:Cq w B v xs)(hg:w.grownBy w' (some G))(hG:G<B):Cq w' B v xs :=
 Xc h hg (fun g hv e=>by injection e with e; have:=(World.ownsRow.lt h g hv).1; omega)
theorem Zik {w:World}{B B':Nat}{v:Value}{xs:List (Int×Int)}(h:Cq w B v xs)(hB:B'<=B):Cq w B' v xs:=by
 obtain⟨h1,h2 | ⟨g,cap,cur,e1,e2,e3⟩⟩:=h
 ·exact⟨h1,Or.inl h2⟩
 ·exact⟨h1,Or.inr ⟨g,cap,cur,e1,Nat.le_trans hB e2,e3⟩⟩
theorem Zyd {w w':World}{B B' n:Nat}{v av:Value}{xs:List (Int×Int)}{ys:List Value}(h:Cq w B v xs)(ha:w.ownsRow B' 52 3 av n ys)(hg:w.grownBy w' av.ownBlock):Cq w' B v xs :=
 Xc h hg (fun g hv e=>by
  rcases h.2 with⟨e1,-⟩ | ⟨g1,c1,cur1,e1,-,r1,-⟩
  ·rw [e1] at hv; cases hv
  ·rcases ha.2 with⟨e2,-⟩ | ⟨g2,c2,cur2,e2,-,r2,-⟩
   ·rw [e2] at e; cases e
   ·rw [e1] at hv;rw [e2] at e;injection hv with hv;injection e with e;simp only at hv e;rw [hv] at r1;rw [e] at r2;rw [r1] at r2;injection r2 with r2;injection r2 with _ r2 _;exact absurd r2 (by decide))
theorem Zbz {w:World}{B b j:Nat}{v u:Value}{xs:List (Int×Int)}(h:Cq w B v xs)(hb:b<B):Cq (w.setCell ⟨b,j,none⟩ u) B v xs:=ownsRow_setCell_below h (a:=⟨b,j,none⟩) hb u
theorem Tryz.infLyK:(Tryz.prog.info? 47).map (·.size)=some 4:=by kernel_rfl
theorem Tryz.infoSp:(Tryz.prog.info? 52).map (fun i=>(i.zero,i.size,i.bytes))=some (some (.agg #[.slice none 0 0,.bool false,.int .i64 0]),3,40):=by kernel_rfl
theorem Zqa {α:Type}(l:List α)(x d:α)(k:Nat)(h:k<l.length+1):(l++[x]).getD k d=if k<l.length then l.getD k d else x:=by
 split
 ·rename_i hk;simp [List.getD,List.getElem?_append_left hk]
 ·rename_i hk;obtain rfl:k=l.length:=by omega
  simp [List.getD]
theorem Ra {w:World}{B T size n:Nat}{v:Value}{xs:List Value}(h:w.ownsRow B T size v (n+1) xs):∃ g c,v=.slice (some ⟨g,0,none⟩) (n+1) c:=by
 rcases h.2 with⟨e,e0⟩ | ⟨g,cap,cur,e,-⟩
 ·omega
 ·exact⟨_,_,e⟩
theorem Dg {w:World}{B:Nat}{v:Value}{xs:List (Int×Int)}(h:Cq w B v xs):∃ p n c,v=.slice p n c:=by
 rcases h.2 with⟨e,e0⟩ | ⟨g,cap,cur,e,-⟩
 ·exact⟨_,_,_,e⟩
 ·exact⟨_,_,_,e⟩
structure OfI (W:World)(b0:Nat)(T:Yc)(ps:List Int)(k:Nat)(av:Value)(pvs:List Value)(w:World):Prop where
 low:Below (b0+3) W w
 giv:Yn w (b0+3) T (Nm T.ag.length T.br T.pairs ps T.sh k)
 row:w.heap[b0+4]?=some (.cells #[av,.slice none 0 0,.int .i64 0,.int .i64 0] 47 (0,0))
 len:pvs.length=k
 own:w.ownsRow (b0+5) 52 3 av k (Zit pvs ((List.range k).map (Mw T.ag T.br T.pairs ps T.sh)))
 each:∀ j,j<k->Cq w (b0+5) (pvs.getD j undef) (Mw T.ag T.br T.pairs ps T.sh j).pl
theorem OfI.next {W w3 w7 wr:World}{b0 k:Nat}{T:Yc}{ps:List Int}{av v7 pv:Value}{pvs:List Value}{sp:Zir}(hI:OfI W b0 T ps k av pvs wr)(hz:b0+5<=wr.heap.size)(hgb:wr.drew.grownBy w3 (some (b0+3)))(hG:Yn w3 (b0+3) T (Nm T.ag.length T.br T.pairs ps T.sh (k+1)))(hP:Cq w3 wr.heap.size pv sp.pl)(hsp:Mw T.ag T.br T.pairs ps T.sh k=sp)
 (hgr:(w3.alloc (.cells #[pv,.bool sp.ref,.int .i64 sp.at_] 52 (0,0))).grownBy w7 av.ownBlock) (hown:w7.ownsRow (b0+5) 52 3 v7 (k+1) (Zit pvs ((List.range k).map (Mw T.ag T.br T.pairs ps T.sh))++[pv,.bool sp.ref,.int .i64 sp.at_])) :
 OfI W b0 T ps (k+1) v7 (pvs++[pv]) (w7.setCell ⟨b0+4,0,none⟩ v7):=by
 have hz3:wr.heap.size<=w3.heap.size:=hgb.size;have ha:=al0 w3 (.cells #[pv,.bool sp.ref,.int .i64 sp.at_] 52 (0,0));have hz7:=hgr.size;have how3:w3.ownsRow (b0+5) 52 3 av k (Zit pvs ((List.range k).map (Mw T.ag T.br T.pairs ps T.sh))):=Xc (w:=wr.drew) hI.own hgb (fun g hg e=>by injection e with e; have:=(World.ownsRow.lt hI.own g hg).1; omega);have hne:∀ q,q<b0+5->some q≠av.ownBlock:=fun q hq e=>by have:=(World.ownsRow.lt hI.own q e.symm).1; omega
 have hblk:∀ q,q<b0+5->q≠b0+3->q≠b0+4->(w7.setCell ⟨b0+4,0,none⟩ v7).heap[q]?=wr.heap[q]?:=fun q h1 h2 h3=>(heap_setCell_other _ _ _ _ (by show q≠b0+4; exact h3)).trans ((hgr.block q (by rw [ha.2.2]; omega) (hne q h1)).trans ((ha.2.1.block q (by omega)).trans (hgb.block q (by show q<wr.heap.size; omega) (by intro e; injection e with e; omega))))
 have hP':∀{v:Value} {xs:List (Int×Int)},Cq w3 (b0+5) v xs->Cq (w7.setCell ⟨b0+4,0,none⟩ v7) (b0+5) v xs:=fun{v xs} h=>Zbz (Zyd (w:=w3.alloc (.cells #[pv,.bool sp.ref,.int .i64 sp.at_] 52 (0,0))) (World.ownsRow.alloc h _) (World.ownsRow.alloc how3 _) hgr) (by omega);have hrw:w7.heap[b0+4]?=some (.cells #[av,.slice none 0 0,.int .i64 0,.int .i64 0] 47 (0,0)):=(hgr.block (b0+4) (by rw [ha.2.2]; omega) (hne _ (by omega))).trans ((ha.2.1.block (b0+4) (by omega)).trans ((hgb.block (b0+4) (by show b0+4<wr.heap.size; omega) (by intro e; injection e with e; omega)).trans hI.row));refine⟨⟨?_,?_,?_,?_,fun q hq=>(hblk q (by omega) (by omega) (by omega)).trans (hI.low.block q hq)⟩,?_,heap_setCell_same _ _ 0 _ _ _ hrw,by simp [hI.len],?_,fun j hj=>?_⟩
 ·exact hgr.os.trans (ha.2.1.os.trans (hgb.os.trans hI.low.os))
 ·exact hgr.tape.trans (ha.2.1.tape.trans (hgb.tape.trans hI.low.tape))
 ·exact hgr.output.trans (ha.2.1.output.trans (hgb.output.trans hI.low.output))
 ·have:=hI.low.size;have h:(w7.setCell ⟨b0+4,0,none⟩ v7).heap.size=w7.heap.size:=by simp
  omega
 ·exact(heap_setCell_other _ _ _ _ (by show b0+3≠b0+4; omega)).trans ((hgr.block (b0+3) (by rw [ha.2.2]; omega) (hne _ (by omega))).trans ((ha.2.1.block (b0+3) (by omega)).trans hG))
 ·rw [Oo,Zqc _ _ _ _ (by simp [hI.len]),hsp];exact ownsRow_setCell_below hown (a:=⟨b0+4,0,none⟩) (by show b0+4<b0+5; omega) v7
 ·rw [Zqa _ _ _ _ (by rw [hI.len]; exact hj)];split
  ·rename_i h;rw [hI.len] at h;exact hP' (Ydf (w:=wr.drew) (hI.each j h) hgb (by omega))
  ·rename_i h;rw [hI.len] at h;obtain rfl:j=k:=by omega
   rw [hsp];exact hP' (Zik hP hz)
theorem Zob (T:Yc)(ps:List Int)(pq:Option Addr)(cq:Nat)(n:Int)(w:World)(hT:TbR w w.heap.size T)(hps:Li w (.slice pq ps.length cq) ps)(hsig:Jv ps 0 8=true)(hpl:ps.length<=8)(hn0:0<=n)(hn4:n<=4)(hLa:T.ag.length<=100)(hLr:T.rs.length<=100)(hs0:0<=T.sh)(hs1:T.sh<=100) :
 Calls Tryz.prog 63 #[.agg T.box,.agg #[.slice pq ps.length cq,.int .i64 n]] w fun e w'=>∃ av rv pvs,e=.returned (.agg #[av,rv,.int .i64 (Zel T.ag T.rs T.br T.pairs T.sh ps n).size,.int .i64 (Zel T.ag T.rs T.br T.pairs T.sh ps n).copies])∧Oq w' w.heap.size av rv (Zel T.ag T.rs T.br T.pairs T.sh ps n) pvs∧Below w.heap.size w w':=by
 obtain⟨ti,hti,hz0,hz1,hz2⟩:=Gy Tryz.infoSp;have hB:Below w.heap.size w (((((w.alloc (.cells T.box 25 (0,0))).alloc (.cells #[.slice pq ps.length cq,.int .i64 n] 43 (0,0))).alloc (.cells #[.slice none 0 0,.slice none 0 0,.int .i64 0,.int .i64 0] 47 (0,0))).alloc (.cells (Zis T ⟨0,T.sh,0⟩) 231 (0,0))).alloc (.cells #[.slice none 0 0,.slice none 0 0,.int .i64 0,.int .i64 0] 47 (0,0))):=(((((Below.refl w.heap.size w).alloc (Nat.le_refl _) (.cells T.box 25 (0,0))).alloc (by simp) (.cells #[.slice pq ps.length cq,.int .i64 n] 43 (0,0))).alloc (by simp; omega) (.cells #[.slice none 0 0,.slice none 0 0,.int .i64 0,.int .i64 0] 47 (0,0))).alloc (by simp; omega) (.cells (Zis T ⟨0,T.sh,0⟩) 231 (0,0))).alloc (by simp; omega) (.cells #[.slice none 0 0,.slice none 0 0,.int .i64 0,.int .i64 0] 47 (0,0));obtain⟨r0,r1,r2,r3,hZ⟩:=Yga w (.cells T.box 25 (0,0)) (.cells #[.slice pq ps.length cq,.int .i64 n] 43 (0,0)) (.cells #[.slice none 0 0,.slice none 0 0,.int .i64 0,.int .i64 0] 47 (0,0)) (.cells (Zis T ⟨0,T.sh,0⟩) 231 (0,0)) (.cells #[.slice none 0 0,.slice none 0 0,.int .i64 0,.int .i64 0] 47 (0,0));have r4:(((((w.alloc (.cells T.box 25 (0,0))).alloc (.cells #[.slice pq ps.length cq,.int .i64 n] 43 (0,0))).alloc (.cells #[.slice none 0 0,.slice none 0 0,.int .i64 0,.int .i64 0] 47 (0,0))).alloc (.cells (Zis T ⟨0,T.sh,0⟩) 231 (0,0))).alloc (.cells #[.slice none 0 0,.slice none 0 0,.int .i64 0,.int .i64 0] 47 (0,0))).heap[w.heap.size+4]?=some (.cells #[.slice none 0 0,.slice none 0 0,.int .i64 0,.int .i64 0] 47 (0,0)):=by have:=heap_alloc_new ((((w.alloc (.cells T.box 25 (0,0))).alloc (.cells #[.slice pq ps.length cq,.int .i64 n] 43 (0,0))).alloc (.cells #[.slice none 0 0,.slice none 0 0,.int .i64 0,.int .i64 0] 47 (0,0))).alloc (.cells (Zis T ⟨0,T.sh,0⟩) 231 (0,0))) (.cells #[.slice none 0 0,.slice none 0 0,.int .i64 0,.int .i64 0] 47 (0,0)); simpa using this
 have HB:=O hB;have HR1:=O r1;have HR2:=O r2;have HG0:=O (show Yn _ (w.heap.size+3) T ⟨0,T.sh,0⟩ from r3);have HR4:=O r4;have HPS:=O hps;have HT:=O hT;have HSIG:=O hsig;have hlt:ps.length<9223372036854775808:=by omega
 clear hB r0 r1 r2 r3 r4 hps hT hsig;unfold Yc.box Zis at *;go_enter Tryz.func63,Tryz.ntmps63
 go_wp2_with fail
 generalize World.alloc (World.alloc (World.alloc (World.alloc (World.alloc w _) _) _) _) _=W at HB HR1 HR2 HG0 HR4 hZ ⊢;generalize hb0:w.heap.size=b0 at HB HR1 HR2 HG0 HR4 HT hZ ⊢;have HI0:=O (show OfI W b0 T ps 0 (.slice none 0 0) [] W from⟨Below.refl _ _,J HG0,J HR4,rfl,World.ownsRow_nil _ _ _ _,fun j hj=>by omega⟩);go_loopw [17] (fun j w'=>∃(k:Nat) (av:Value) (pvs:List Value),j=.int .i64 k∧k<=ps.length∧OfI W b0 T ps k av pvs w') (fun j _=>ps.length-(intOf j).toNat)
 case atStart=>exact⟨0,_,_,rfl,by omega,J HI0⟩
 case round =>
  clear HI0 HG0 HR4;obtain⟨k,av,pvs,rfl,hk,hI⟩:=hrel;have hwz:=hI.low.size;have hok:=Zgo (L:=T.ag.length) (br:=T.br) (pr:=T.pairs) (sh:=T.sh) (J HSIG) k hk;by_cases hk2:k<ps.length
  ·have hnk:=Je (J HSIG) hk2;unfold Xl at hnk;obtain⟨hm0,hm8⟩:=of_decide_eq_true hnk;have hTk:TbR wr (b0+3) T:=by
    have hm:∀{v:Value} {ns:List Int},Kl w b0 v ns->Kl wr (b0+3) v ns:=fun{v ns} h=>by
     rcases h with h | ⟨sb,so,cap,e1,e2,e3⟩
     ·exact Or.inl h
     ·refine Or.inr ⟨sb,so,cap,e1,by omega,fun i hi=>?_⟩;have e4:=e3 i hi;have hl:=World.block_lt_of_cell? w _ e4;simp only at hl;exact(World.cell?_of_block (show wr.heap[sb]?=w.heap[sb]? from(hI.low.block sb (by omega)).trans ((J HB).block sb (by omega)))).trans e4
    have ht:=J HT;exact⟨hm ht.a,hm ht.r,hm ht.s⟩
   obtain⟨p',cap',he,-,-,hcc⟩:=J HPS;injection he with j1 j2 j3;obtain⟨sb,so,hpq,hc⟩:=hcc (by omega);have c:=hc k hk2;have hsb:=World.block_lt_of_cell? w _ c;simp only at hsb;have cw:wr.cell? ⟨sb,so+k,none⟩=some (.int .i64 (ps.getD k 0)):=(World.cell?_of_block (show wr.heap[sb]?=w.heap[sb]? from(hI.low.block sb (by omega)).trans ((J HB).block sb (by omega)))).trans c;obtain⟨ap,ac,hav⟩:∃ ap ac,av=.slice ap k ac:=by
    rcases hI.own.2 with⟨e,e0⟩ | ⟨g,cap,cur,e,_⟩
    ·exact⟨_,_,by rw [e0]; exact e⟩
    ·exact⟨_,_,e⟩
   subst hav;have y0:=(cR hI.row 0);have hok1:=hok.u;have hok2:=hok.c0;have hok3:=hok.c1;have hok4:=hok.p0;have hok5:=hok.p1;have HC:=O (Ydd T (Nm T.ag.length T.br T.pairs ps T.sh k) (b0+3) (ps.getD k 0) wr.drew hI.giv (hTk.gb (Jj (Below.refl wr.heap.size wr).drew) (by omega)) hm0 hm8 hok1 (by omega) (by omega) (by omega) (by omega) (by omega));have HI:=O hI;have HSN:=O (show Mp T.ag.length T.br T.pairs (ps.getD k 0) (Nm T.ag.length T.br T.pairs ps T.sh k)=Nm T.ag.length T.br T.pairs ps T.sh (k+1) from rfl);have HSP:=O (show Ie T.ag T.br T.pairs (ps.getD k 0) (Nm T.ag.length T.br T.pairs ps T.sh k)=Mw T.ag T.br T.pairs ps T.sh k from rfl);rw [J HSN,J HSP] at HC;have hwr5:b0+5<=wr.heap.size:=by omega
   rw [j1,hpq];clear hI hTk hok hok1 hok2 hok3 hok4 hok5 hcc hc c j1 j2 j3 HSN HSP;generalize hzz:ps.getD k 0=zz at HC cw;clear hzz hnk hm0 hm8;generalize hsp:Mw T.ag T.br T.pairs ps T.sh k=sp at HC;have HSPE:=O hsp;clear hsp;have HF:=O (show Calls Tryz.prog 101 #[.pointer (some ⟨b0+3,0,none⟩),.int .i64 zz] wr.drew (fun e w3=>∃ v,e=.returned v∧∃ pv,v=.agg #[pv,.bool sp.ref,.int .i64 sp.at_]∧Cq w3 wr.heap.size pv sp.pl∧Yn w3 (b0+3) T (Nm T.ag.length T.br T.pairs ps T.sh (k+1))∧wr.drew.grownBy w3 (some (b0+3))) from(J HC).mono (by
    rintro e w3 ⟨pv,rfl,h1,h2,h3⟩;exact⟨_,rfl,pv,rfl,h1,h2,h3⟩))
   clear HC;go_wp2_with fail
   go_region_law (first | (refine Zyc rfl (.tmp 22) (.tmp 26) 44 rfl (b0+5) 52 ti _ 3 40 Tryz.underlying44 hti hz0 hz1 hz2 rfl (by decide) (.slice ap k ac) k (Zit pvs ((List.range k).map (Mw T.ag T.br T.pairs ps T.sh))) (by simp [Act.eval]) ((J HOW3).alloc _) ⟨w3.heap.size,0,none⟩ 1 1 [.slice vp vn vc,.bool sp.ref,.int .i64 sp.at_] (by simp [Act.eval]) rfl (by intro j u hj; match j,hj with | 0,hj=>(simp at hj; subst hj; simp [Addr.add]) | 1,hj=>(simp at hj; subst hj; simp [Addr.add]) | 2,hj=>(simp at hj; subst hj; simp [Addr.add])) (by intro u hu; simp at hu; rcases hu with rfl | rfl | rfl <;> rfl) (by unfold maxLen; omega) (by omega) (by simp; omega) ?_; intro v7 w7 hown7 hgr7; have hr7:=J HR7 w7 hgr7; have j0:=(cR hr7 0); have g0:=frozen_of_row _ _ 0 _ _ hr7; obtain⟨gg7,cc7,rfl⟩:=Ra hown7; have HOW7:=O hown7; have HGR7:=O hgr7; have HROW7:=O hr7; clear hown7 hgr7 hr7) | (refine Zlk rfl 101 #[.pointer (some ⟨b0+3,0,none⟩),.int .i64 zz] (by simp [go_sem]) (J HF) ?_; rintro v w3 ⟨pv,rfl,hP3,hG3,hgb3⟩; obtain⟨vp,vn,vc,rfl⟩:=Dg hP3; have hw3:wr.heap.size<=w3.heap.size:=hgb3.size; have hr3:=(hgb3.block (b0+4) (by show b0+4<wr.heap.size; omega) (by intro e; injection e with e; omega)).trans (J HI).row; have h0:=(cR hr3 0); have h0a:=fun X:Obj=>(Gw hr3 0 X).trans rfl; have HOW3:=O (Xc (w:=wr.drew) (J HI).own hgb3 (fun g hg e=>by injection e with e; have:=(World.ownsRow.lt (J HI).own g hg).1; omega)); have HP3:=O hP3; have HG3:=O hG3; have HGB3:=O hgb3; have HR3:=O hr3; have HR7:=O (fun w7 (hgr:(w3.alloc (.cells #[.slice vp vn vc,.bool sp.ref,.int .i64 sp.at_] 52 (0,0))).grownBy w7 (Value.slice ap k ac).ownBlock)=>(hgr.block (b0+4) (by simp; omega) (by intro e; have:=(World.ownsRow.lt (J HOW3) (b0+4) e.symm).1; omega)).trans (((al0 w3 (.cells #[.slice vp vn vc,.bool sp.ref,.int .i64 sp.at_] 52 (0,0))).2.1.block (b0+4) (by omega)).trans hr3)); clear hP3 hG3 hgb3 hr3))
   all_goals (
    have hx:=O ((J HI).next hwr5 (J HGB3) (J HG3) (J HP3) (J HSPE) (J HGR7) (J HOW7));clear HGR7 HOW7 HROW7 HR7 HR3 HGB3 HG3 HP3 HOW3 h0 h0a HF;go_wp2;go_roundw
    case rel=>exact⟨k+1,_,_,by go_num,by omega,J hx⟩
    case measure=>simp [intOf]; omega)
  ·obtain rfl:k=ps.length:=by omega
   obtain⟨m,rfl⟩:∃ m:Nat,n=m:=⟨n.toNat,by omega⟩;have hok1:=hok.u;have hok2:=hok.c0;have hok3:=hok.c1;have hTk:TbR wr (b0+3) T:=by
    have hm:∀{v:Value} {ns:List Int},Kl w b0 v ns->Kl wr (b0+3) v ns:=fun{v ns} h=>by
     rcases h with h | ⟨sb,so,cap,e1,e2,e3⟩
     ·exact Or.inl h
     ·refine Or.inr ⟨sb,so,cap,e1,by omega,fun i hi=>?_⟩;have e4:=e3 i hi;have hl:=World.block_lt_of_cell? w _ e4;simp only at hl;exact(World.cell?_of_block (show wr.heap[sb]?=w.heap[sb]? from(hI.low.block sb (by omega)).trans ((J HB).block sb (by omega)))).trans e4
    have ht:=J HT;exact⟨hm ht.a,hm ht.r,hm ht.s⟩
   have HC:=O (Yde T (Nm T.ag.length T.br T.pairs ps T.sh ps.length) (b0+3) m wr hI.giv hTk (by omega) (by omega) (by omega) (by omega));obtain⟨ap,ac,hav⟩:∃ ap ac,av=.slice ap ps.length ac:=by
    rcases hI.own.2 with⟨e,e0⟩ | ⟨g,cap,cur,e,_⟩
    ·exact⟨_,_,by rw [e0]; exact e⟩
    ·exact⟨_,_,e⟩
   subst hav;have s1:=(cR ((hI.low.block (b0+1) (by omega)).trans (J HR1)) 1);have HI:=O hI;have HE:=O (show Zel T.ag T.rs T.br T.pairs T.sh ps m=⟨(List.range ps.length).map (Mw T.ag T.br T.pairs ps T.sh),(List.range m).map (Kt T.rs (Nm T.ag.length T.br T.pairs ps T.sh ps.length).c),Xg T.rs (Nm T.ag.length T.br T.pairs ps T.sh ps.length).c m,(Nm T.ag.length T.br T.pairs ps T.sh ps.length).p⟩ from rfl);clear hI hTk hok hok1 hok2 hok3;generalize Nm T.ag.length T.br T.pairs ps T.sh ps.length=s9 at HC HE;go_wp2_with fail
   refine(J HC).mono ?_;rintro e w2 ⟨v,rfl,hP2,hG2,hgb2⟩;have hz2:=hgb2.size;obtain⟨rp,rn,rc,rfl⟩:=Dg hP2;have hrl:=(hgb2.block (b0+4) (by omega) (by intro e; injection e with e; omega)).trans (J HI).row;have hrr:=(hgb2.block (b0+2) (by omega) (by intro e; injection e with e; omega)).trans (((J HI).low.block (b0+2) (by omega)).trans (J HR2));have l1:=(cR hrl 1);have z1:=frozen_of_row _ _ 1 _ _ hrl;have hru:=heap_setCell_same _ _ 1 _ _ (.slice rp rn rc) hrl;have hgu:=hG2.oth (b:=b0+4) (j:=1) (v:=.slice rp rn rc) (by omega);have hru2:=(heap_setCell_other w2 ⟨b0+4,1,none⟩ (b0+2) (.slice rp rn rc) (by show b0+2≠b0+4; omega)).trans hrr;have hPu:=Zbz (b:=b0+4) (j:=1) (u:=.slice rp rn rc) (Zik hP2 (show b0+5<=wr.heap.size by omega)) (by omega);have HRU:=O hru;have HGU:=O hgu;have HRR:=O hru2;have HPU:=O hPu;have HGB2:=O hgb2;clear hrr hP2 hG2 hgb2 s1 hru hgu hru2 hPu hrl;go_wp2_with fail
   clear l1 z1;generalize hUU:w2.setCell _ _=U at HRU HGU HRR HPU ⊢;have HUU:=O hUU;clear hUU;have l2:=(cR (J HRU) 2);have l3:=(cR (J HRU) 3);have z2:=frozen_of_row _ _ 2 _ _ (J HRU);have z3:=frozen_of_row _ _ 3 _ _ (J HRU);have HK0:=O (show U.drew.cell? ⟨b0+3,13,none⟩=some (.int .i64 (Xg T.rs s9.c m))∧U.drew.cell? ⟨b0+3,14,none⟩=some (.int .i64 s9.p) from⟨(J HGU).k13,(J HGU).k14⟩);have HK1:=O (show(U.drew.setCell ⟨b0+4,2,none⟩ (.int .i64 (Xg T.rs s9.c m))).cell? ⟨b0+3,13,none⟩=some (.int .i64 (Xg T.rs s9.c m))∧(U.drew.setCell ⟨b0+4,2,none⟩ (.int .i64 (Xg T.rs s9.c m))).cell? ⟨b0+3,14,none⟩=some (.int .i64 s9.p) from⟨((J HGU).oth (w:=U.drew) (b:=b0+4) (j:=2) (v:=.int .i64 (Xg T.rs s9.c m)) (by omega)).k13,((J HGU).oth (w:=U.drew) (b:=b0+4) (j:=2) (v:=.int .i64 (Xg T.rs s9.c m)) (by omega)).k14⟩);have HK2:=O (show((U.drew.setCell ⟨b0+4,2,none⟩ (.int .i64 (Xg T.rs s9.c m))).setCell ⟨b0+4,3,none⟩ (.int .i64 s9.p)).cell? ⟨b0+3,13,none⟩=some (.int .i64 (Xg T.rs s9.c m))∧((U.drew.setCell ⟨b0+4,2,none⟩ (.int .i64 (Xg T.rs s9.c m))).setCell ⟨b0+4,3,none⟩ (.int .i64 s9.p)).cell? ⟨b0+3,14,none⟩=some (.int .i64 s9.p) from⟨(((J HGU).oth (w:=U.drew) (b:=b0+4) (j:=2) (v:=.int .i64 (Xg T.rs s9.c m)) (by omega)).oth (b:=b0+4) (j:=3) (v:=.int .i64 s9.p) (by omega)).k13,(((J HGU).oth (w:=U.drew) (b:=b0+4) (j:=2) (v:=.int .i64 (Xg T.rs s9.c m)) (by omega)).oth (b:=b0+4) (j:=3) (v:=.int .i64 s9.p) (by omega)).k14⟩)
   refine wp_region_held_drew (S:=fun V=>V.cell? ⟨b0+3,13,none⟩=some (.int .i64 (Xg T.rs s9.c m))∧V.cell? ⟨b0+3,14,none⟩=some (.int .i64 s9.p)) (by kernel_rfl) (J HK0) (fun hHeld=>?_);refine tT 0 ?_;refine tT 1 ?_;refine tT 2 ?_;refine tT 3 ?_;refine tT 4 ?_;refine tT 5 ?_;refine tT 6 ?_;refine tT 7 ?_;refine tT 8 ?_;refine tO 9 fun K hK=>?_;go_simp;refine kO hK (J HK1) (fun hHeld2=>?_);clear hK K;refine tT 10 ?_;refine tO 11 fun K hK=>?_;go_simp;refine kO hK (J HK2) (fun hHeld2=>?_);clear hK K;refine wpAnyH_done (by kernel_rfl) ?_ _;have hrz:((U.setCell ⟨b0+1+1+1+1,2,none⟩ (.int .i64 (Xg T.rs s9.c m))).setCell ⟨b0+1+1+1+1,3,none⟩ (.int .i64 s9.p)).drew.heap[b0+4]?=some (.cells #[.slice ap ps.length ac,.slice rp rn rc,.int .i64 (Xg T.rs s9.c m),.int .i64 s9.p] 47 (0,0)):=heap_setCell_same _ _ 3 _ _ _ (heap_setCell_same U.drew _ 2 _ _ _ (J HRU));have hrq:((U.setCell ⟨b0+1+1+1+1,2,none⟩ (.int .i64 (Xg T.rs s9.c m))).setCell ⟨b0+1+1+1+1,3,none⟩ (.int .i64 s9.p)).drew.heap[b0+2]?=_:=(heap_setCell_other (U.drew.setCell ⟨b0+4,2,none⟩ (.int .i64 (Xg T.rs s9.c m))) ⟨b0+4,3,none⟩ (b0+2) (.int .i64 s9.p) (by show b0+2≠b0+4; omega)).trans ((heap_setCell_other U.drew ⟨b0+4,2,none⟩ (b0+2) (.int .i64 (Xg T.rs s9.c m)) (by show b0+2≠b0+4; omega)).trans (J HRR));have hpz:Cq ((U.setCell ⟨b0+1+1+1+1,2,none⟩ (.int .i64 (Xg T.rs s9.c m))).setCell ⟨b0+1+1+1+1,3,none⟩ (.int .i64 s9.p)).drew (b0+5) _ _:=Zbz (b:=b0+4) (j:=3) (u:=.int .i64 s9.p) (Zbz (w:=U.drew) (b:=b0+4) (j:=2) (u:=.int .i64 (Xg T.rs s9.c m)) (J HPU) (by omega)) (by omega)
   have hbz:∀ q,q≠b0+3->q≠b0+4->q<wr.heap.size->((U.setCell ⟨b0+1+1+1+1,2,none⟩ (.int .i64 (Xg T.rs s9.c m))).setCell ⟨b0+1+1+1+1,3,none⟩ (.int .i64 s9.p)).drew.heap[q]?=wr.heap[q]?:=fun q h1 h2 h3=>by
    have e:=J HUU;subst e;exact(heap_setCell_other ((w2.setCell ⟨b0+4,1,none⟩ (.slice rp rn rc)).setCell ⟨b0+4,2,none⟩ (.int .i64 (Xg T.rs s9.c m))) ⟨b0+4,3,none⟩ q (.int .i64 s9.p) h2).trans ((heap_setCell_other (w2.setCell ⟨b0+4,1,none⟩ (.slice rp rn rc)) ⟨b0+4,2,none⟩ q _ h2).trans ((heap_setCell_other w2 ⟨b0+4,1,none⟩ q _ h2).trans ((J HGB2).block q h3 (by intro e; injection e with e; omega))))
   have hoz:((U.setCell ⟨b0+1+1+1+1,2,none⟩ (.int .i64 (Xg T.rs s9.c m))).setCell ⟨b0+1+1+1+1,3,none⟩ (.int .i64 s9.p)).drew.os=wr.os∧((U.setCell ⟨b0+1+1+1+1,2,none⟩ (.int .i64 (Xg T.rs s9.c m))).setCell ⟨b0+1+1+1+1,3,none⟩ (.int .i64 s9.p)).drew.tape=wr.tape∧((U.setCell ⟨b0+1+1+1+1,2,none⟩ (.int .i64 (Xg T.rs s9.c m))).setCell ⟨b0+1+1+1+1,3,none⟩ (.int .i64 s9.p)).drew.output=wr.output∧((U.setCell ⟨b0+1+1+1+1,2,none⟩ (.int .i64 (Xg T.rs s9.c m))).setCell ⟨b0+1+1+1+1,3,none⟩ (.int .i64 s9.p)).drew.heap.size=w2.heap.size:=by have e:=J HUU;subst e;exact⟨(J HGB2).os,(J HGB2).tape,(J HGB2).output,by simp⟩
   clear l2 l3 z2 z3 HK0 HK1 HK2;generalize ((U.setCell ⟨b0+1+1+1+1,2,none⟩ (.int .i64 (Xg T.rs s9.c m))).setCell ⟨b0+1+1+1+1,3,none⟩ (.int .i64 s9.p)).drew=Z at hrz hrq hpz hbz hoz ⊢;obtain⟨y0,y1,y2,y3⟩:=cT4 hrz;have HRQ:=O hrq;have HPZ:=O hpz;have HBZ:=O hbz;have HOZ:=O hoz;clear hrz hrq hpz hbz hoz;go_wp2_with (refine wpList_store_row rfl 47 _ _ rfl (b0+2) #[.slice ap ps.length ac,.slice rp rn rc,.int .i64 (Xg T.rs s9.c m),.int .i64 s9.p] rfl rfl 47 _ (J HRQ) (Tryz.infLyK.trans rfl) rfl (by simp [Value.oneCell']) ?_)
   refine bodyPost_ret (Gx (fn:=Tryz.f63) (q:=4) (uy:=47) rfl _ _ (b0+2) 47 #[.slice ap ps.length ac,.slice rp rn rc,.int .i64 (Xg T.rs s9.c m),.int .i64 s9.p] (0,0) _ rfl (setRow_heap _ _ _ _ _ _ (J HRQ)) Tryz.underlying47 rfl (Tryz.infLyK.trans rfl)) rfl ?_;have hI:=J HI;have hob:=J HOZ;have hzz:=(J HGB2).size;rw [hb0,J HE];have hown:∀{e:TypeId} {size n:Nat} {v:Value} {xs:List Value},wr.ownsRow (b0+5) e size v n xs->(Z.setRow (b0+2) #[.slice ap ps.length ac,.slice rp rn rc,.int .i64 (Xg T.rs s9.c m),.int .i64 s9.p]).ownsRow b0 e size v n xs:=fun{e size n v xs} h=>by
    obtain⟨h1,h2 | ⟨g,cap,cur,e1,e2,e3,e4⟩⟩:=h
    ·exact⟨h1,Or.inl h2⟩
    ·exact⟨h1,Or.inr ⟨g,cap,cur,e1,by omega,(setRow_other _ _ _ _ (by omega)).trans ((J HBZ g (by omega) (by omega) (Zi e3)).trans e3),e4⟩⟩
   refine⟨_,_,pvs,rfl,⟨by simp [hI.len],?_,fun j hj=>?_,?_⟩,?_⟩
   ·have h:=hown hI.own;simpa using h
   ·have hj2:j<ps.length:=by simpa using hj
    have h:=hown (hI.each j hj2);have e:((List.range ps.length).map (Mw T.ag T.br T.pairs ps T.sh)).getD j Zsz=Mw T.ag T.br T.pairs ps T.sh j:=by simp [List.getD,hj2]
    show Cq _ b0 (pvs.getD j undef) (((List.range ps.length).map (Mw T.ag T.br T.pairs ps T.sh)).getD j Zsz).pl;rw [e];exact h
   ·exact Zoa (J HPZ) (by omega) (by omega)
   ·refine⟨?_,?_,?_,?_,fun q hq=>?_⟩
    ·exact hob.1.trans (hI.low.os.trans (J HB).os)
    ·exact hob.2.1.trans (hI.low.tape.trans (J HB).tape)
    ·exact hob.2.2.1.trans (hI.low.output.trans (J HB).output)
    ·have h:(Z.setRow (b0+2) #[.slice ap ps.length ac,.slice rp rn rc,.int .i64 (Xg T.rs s9.c m),.int .i64 s9.p]).heap.size=Z.heap.size:=by simp [World.setRow]
     have:=hob.2.2.2;omega
    ·exact(setRow_other _ _ _ _ (by omega)).trans ((J HBZ q (by omega) (by omega) (by omega)).trans ((hI.low.block q (by omega)).trans ((J HB).block q hq)))
end Go.Proofs.YtkenknfgeoecbaaGreatDoor
