import Derived.Test.YtnlcfnjeagmemaaGreatDoorJ3
import Derived.Test.YtnlcfnjeagmemaaGreatDoorJ10
import Derived.Deep.RegionLaw
import Derived.Below
import Derived.WalkSmall
namespace Go.Proofs.YtnlcfnjeagmemaaGreatDoor
open Go.RowKit
set_option maxHeartbeats 4000000
set_option maxRecDepth 100000
theorem Zhm {P:Program}{ops:Array Oper}{o:Oper}{a:Act}{w:World}{K:Act→World→Prop}{Q:Exit→Act→World→Prop}{E:Prop}(hg:o.guard=none)(f:FuncId)(args:Array Value){F:Value→World→Prop}
 (hrun:(execOp a.eval o).run P w=.ok (.enter f args) w) (hF:Calls P f args w fun e w'=>∃ v,e=.returned v∧F v w') (h:∀ v w',F v w'→K (a.put o.dst v) w'):if Region.wanted o (yielded ops a.tmps)=true then Oper.wp P o a w K Q else E:=by
 have hw:Region.wanted o (yielded ops a.tmps)=true:=by simp [Region.wanted,hg]
 rw [if_pos hw];unfold Oper.wp;rw [hrun];refine hF.mono ?_;rintro e w' ⟨v,rfl,hv⟩;exact h v w' hv
theorem Zci {P:Program}{ops:Array Oper}{o:Oper}{a:Act}{w:World}{K:Act→World→Prop}{Q:Exit→Act→World→Prop}{E:Prop}
 (hg:o.guard=none) (s x:Operand) (t:TypeId) (ho:o.op=.call { callee:=.builtin .append,args:=#[s,x],argTypes:=#[t,t] })
 (base:Nat) (e:TypeId) (i:TypeInfo) (z:Value) (size bytes:Nat) (ht:P.underlying t=some (.slice e)) (hi:P.info? e=some i) (hz:i.zero=some z)
 (hsize:i.size=size) (hby:i.bytes=bytes) (hzs:z.cells.size=size) (hsz:0<size)
 (v:Value) (n:Nat) (xs:List Value) (hs:a.eval s=v) (hown:w.ownsRow base e size v n xs)
 (ad:Addr) (m c:Nat) (news:List Value) (hx:a.eval x=.slice (some ad) m c) (hl:news.length=m*size) (hnews:∀ j u,news[j]?=some u→w.cell? (ad.add j)=some u) (h1:∀ u ∈ news,u.oneCell'=true)
 (h63:n+m≤maxLen) (hbytes:(n+m)*bytes≤140737488355328) (hbase:base≤w.heap.size)
 (h:∀ v' w',w'.ownsRow base e size v' (n+m) (xs++news)→w.grownBy w' v.ownBlock→K (a.put o.dst v') w') :
 if Region.wanted o (yielded ops a.tmps)=true then Oper.wp P o a w K Q else E:=by
 have hw:Region.wanted o (yielded ops a.tmps)=true:=by simp [Region.wanted,hg]
 rw [if_pos hw];exact wp_append_own w s x t ho base e i z size bytes ht hi hz hsize hby hzs hsz v n xs hs hown ad m c news hx hl hnews h1 h63 hbytes hbase (fun v' w' h2 h3 _=>h v' w' h2 h3)
theorem Zur {w w':World}{B G:Nat}{v:Value}{xs:List (Int×Int)}(h:Gt w B v xs)(hg:w.grownBy w' (some G))(hG:G<B):Gt w' B v xs :=
 Oy h hg (fun g hv e=>by injection e with e; have:=(World.ownsRow.lt h g hv).1; omega)
theorem Ic {w:World}{B B':Nat}{v:Value}{xs:List (Int×Int)}(h:Gt w B v xs)(hB:B'≤B):Gt w B' v xs:=by
 obtain⟨h1,h2 | ⟨g,cap,cur,e1,e2,e3⟩⟩:=h
 ·
  exact⟨h1,Or.inl h2⟩
 ·
  exact⟨h1,Or.inr ⟨g,cap,cur,e1,Nat.le_trans hB e2,e3⟩⟩
theorem Zix {w w':World}{B B' n:Nat}{v av:Value}{xs:List (Int×Int)}{ys:List Value}(h:Gt w B v xs)(ha:w.ownsRow B' 87 3 av n ys)(hg:w.grownBy w' av.ownBlock):Gt w' B v xs :=
 Oy h hg (fun g hv e=>by
  rcases h.2 with⟨e1,-⟩ | ⟨g1,c1,cur1,e1,-,r1,-⟩
  ·
   rw [e1] at hv; cases hv
  ·
   rcases ha.2 with⟨e2,-⟩ | ⟨g2,c2,cur2,e2,-,r2,-⟩
   ·
    rw [e2] at e; cases e
   ·
    rw [e1] at hv;rw [e2] at e;injection hv with hv;injection e with e;simp only at hv e;rw [hv] at r1;rw [e] at r2;rw [r1] at r2;injection r2 with r2;injection r2 with _ r2 _;exact absurd r2 (by decide))
theorem Uu {w:World}{B b j:Nat}{v u:Value}{xs:List (Int×Int)}(h:Gt w B v xs)(hb:b<B):Gt (w.setCell ⟨b,j,none⟩ u) B v xs:=ownsRow_setCell_below h (a:=⟨b,j,none⟩) hb u
theorem Tryz.infLyK:(Tryz.prog.info? 76).map (·.size)=some 4:=by kernel_rfl
theorem Tryz.infoSp:(Tryz.prog.info? 87).map (fun i=>(i.zero,i.size,i.bytes))=some (some (.agg #[.slice none 0 0,.bool false,.int .i64 0]),3,40):=by kernel_rfl
theorem Zbj {α:Type}(l:List α)(x d:α)(k:Nat)(h:k<l.length+1):(l++[x]).getD k d=if k<l.length then l.getD k d else x:=by
 split
 ·
  rename_i hk;simp [List.getD,List.getElem?_append_left hk]
 ·
  rename_i hk;obtain rfl:k=l.length:=by omega
  simp [List.getD]
theorem Ll {w:World}{B T size n:Nat}{v:Value}{xs:List Value}(h:w.ownsRow B T size v (n+1) xs):∃ g c,v=.slice (some ⟨g,0,none⟩) (n+1) c:=by
 rcases h.2 with⟨e,e0⟩ | ⟨g,cap,cur,e,-⟩
 ·
  omega
 ·
  exact⟨_,_,e⟩
theorem Zbk {w:World}{B:Nat}{v:Value}{xs:List (Int×Int)}(h:Gt w B v xs):∃ p n c,v=.slice p n c:=by
 rcases h.2 with⟨e,e0⟩ | ⟨g,cap,cur,e,-⟩
 ·
  exact⟨_,_,_,e⟩
 ·
  exact⟨_,_,_,e⟩
structure OfI (W:World)(b0:Nat)(T:Zm)(ps:List Int)(k:Nat)(av:Value)(pvs:List Value)(w:World):Prop where
 low:Below (b0+3) W w
 giv:Ym w (b0+3) T (Ln T.ag.length T.br T.pairs ps T.sh k)
 row:w.heap[b0+4]?=some (.cells #[av,.slice none 0 0,.int .i64 0,.int .i64 0] 76 (0,0))
 len:pvs.length=k
 own:w.ownsRow (b0+5) 87 3 av k (Dg pvs ((List.range k).map (Gx T.ag T.br T.pairs ps T.sh)))
 each:∀ j,j<k→Gt w (b0+5) (pvs.getD j undef) (Gx T.ag T.br T.pairs ps T.sh j).pl
theorem OfI.next {W w3 w7 wr:World}{b0 k:Nat}{T:Zm}{ps:List Int}{av v7 pv:Value}{pvs:List Value}{sp:Xm}(hI:OfI W b0 T ps k av pvs wr)(hz:b0+5≤wr.heap.size)(hgb:wr.drew.grownBy w3 (some (b0+3)))(hG:Ym w3 (b0+3) T (Ln T.ag.length T.br T.pairs ps T.sh (k+1)))(hP:Gt w3 wr.heap.size pv sp.pl)(hsp:Gx T.ag T.br T.pairs ps T.sh k=sp)
 (hgr:(w3.alloc (.cells #[pv,.bool sp.ref,.int .i64 sp.at_] 87 (0,0))).grownBy w7 av.ownBlock) (hown:w7.ownsRow (b0+5) 87 3 v7 (k+1) (Dg pvs ((List.range k).map (Gx T.ag T.br T.pairs ps T.sh))++[pv,.bool sp.ref,.int .i64 sp.at_])) :
 OfI W b0 T ps (k+1) v7 (pvs++[pv]) (w7.setCell ⟨b0+4,0,none⟩ v7):=by
 have hz3:wr.heap.size≤w3.heap.size:=hgb.size;have ha:=Zs w3 (.cells #[pv,.bool sp.ref,.int .i64 sp.at_] 87 (0,0));have hz7:=hgr.size;have how3:w3.ownsRow (b0+5) 87 3 av k (Dg pvs ((List.range k).map (Gx T.ag T.br T.pairs ps T.sh))):=Oy (w:=wr.drew) hI.own hgb (fun g hg e=>by injection e with e; have:=(World.ownsRow.lt hI.own g hg).1; omega);have hne:∀ q,q<b0+5→some q≠av.ownBlock:=fun q hq e=>by have:=(World.ownsRow.lt hI.own q e.symm).1; omega
 have hblk:∀ q,q<b0+5→q≠b0+3→q≠b0+4→(w7.setCell ⟨b0+4,0,none⟩ v7).heap[q]?=wr.heap[q]?:=fun q h1 h2 h3 =>
  (heap_setCell_other _ _ _ _ (by show q≠b0+4; exact h3)).trans ((hgr.block q (by rw [ha.2.2]; omega) (hne q h1)).trans ((ha.2.1.block q (by omega)).trans (hgb.block q (by show q<wr.heap.size; omega) (by intro e; injection e with e; omega))))
 have hP':∀{v:Value} {xs:List (Int×Int)},Gt w3 (b0+5) v xs→Gt (w7.setCell ⟨b0+4,0,none⟩ v7) (b0+5) v xs:=fun{v xs} h=>Uu (Zix (w:=w3.alloc (.cells #[pv,.bool sp.ref,.int .i64 sp.at_] 87 (0,0))) (World.ownsRow.alloc h _) (World.ownsRow.alloc how3 _) hgr) (by omega);have hrw:w7.heap[b0+4]?=some (.cells #[av,.slice none 0 0,.int .i64 0,.int .i64 0] 76 (0,0)):=(hgr.block (b0+4) (by rw [ha.2.2]; omega) (hne _ (by omega))).trans ((ha.2.1.block (b0+4) (by omega)).trans ((hgb.block (b0+4) (by show b0+4<wr.heap.size; omega) (by intro e; injection e with e; omega)).trans hI.row));refine⟨⟨?_,?_,?_,?_,fun q hq=>(hblk q (by omega) (by omega) (by omega)).trans (hI.low.block q hq)⟩,?_,heap_setCell_same _ _ 0 _ _ _ hrw,by simp [hI.len],?_,fun j hj=>?_⟩
 ·
  exact hgr.os.trans (ha.2.1.os.trans (hgb.os.trans hI.low.os))
 ·
  exact hgr.tape.trans (ha.2.1.tape.trans (hgb.tape.trans hI.low.tape))
 ·
  exact hgr.output.trans (ha.2.1.output.trans (hgb.output.trans hI.low.output))
 ·
  have:=hI.low.size;have h:(w7.setCell ⟨b0+4,0,none⟩ v7).heap.size=w7.heap.size:=by simp
  omega
 ·
  exact(heap_setCell_other _ _ _ _ (by show b0+3≠b0+4; omega)).trans ((hgr.block (b0+3) (by rw [ha.2.2]; omega) (hne _ (by omega))).trans ((ha.2.1.block (b0+3) (by omega)).trans hG))
 ·
  rw [Jd,Zbl _ _ _ _ (by simp [hI.len]),hsp];exact ownsRow_setCell_below hown (a:=⟨b0+4,0,none⟩) (by show b0+4<b0+5; omega) v7
 ·
  rw [Zbj _ _ _ _ (by rw [hI.len]; exact hj)];split
  ·
   rename_i h;rw [hI.len] at h;exact hP' (Zur (w:=wr.drew) (hI.each j h) hgb (by omega))
  ·
   rename_i h;rw [hI.len] at h;obtain rfl:j=k:=by omega
   rw [hsp];exact hP' (Ic hP hz)
theorem Zxg (T:Zm)(ps:List Int)(pq:Option Addr)(cq:Nat)(n:Int)(w:World)(hT:TbR w w.heap.size T)(hps:Li w (.slice pq ps.length cq) ps)(hsig:Gu ps 0 8=true)(hpl:ps.length≤8)(hn0:0≤n)(hn4:n≤4)(hLa:T.ag.length≤100)(hLr:T.rs.length≤100)(hs0:0≤T.sh)(hs1:T.sh≤100) :
 Calls Tryz.prog 75 #[.agg T.box,.agg #[.slice pq ps.length cq,.int .i64 n]] w fun e w'=>∃ av rv pvs,e=.returned (.agg #[av,rv,.int .i64 (St T.ag T.rs T.br T.pairs T.sh ps n).size,.int .i64 (St T.ag T.rs T.br T.pairs T.sh ps n).copies])∧Yo w' w.heap.size av rv (St T.ag T.rs T.br T.pairs T.sh ps n) pvs∧Below w.heap.size w w':=by
 obtain⟨ti,hti,hz0,hz1,hz2⟩:=Yr Tryz.infoSp;have hB:Below w.heap.size w (((((w.alloc (.cells T.box 25 (0,0))).alloc (.cells #[.slice pq ps.length cq,.int .i64 n] 59 (0,0))).alloc (.cells #[.slice none 0 0,.slice none 0 0,.int .i64 0,.int .i64 0] 76 (0,0))).alloc (.cells (Zem T ⟨0,T.sh,0⟩) 182 (0,0))).alloc (.cells #[.slice none 0 0,.slice none 0 0,.int .i64 0,.int .i64 0] 76 (0,0))):=(((((Below.refl w.heap.size w).alloc (Nat.le_refl _) (.cells T.box 25 (0,0))).alloc (by simp) (.cells #[.slice pq ps.length cq,.int .i64 n] 59 (0,0))).alloc (by simp; omega) (.cells #[.slice none 0 0,.slice none 0 0,.int .i64 0,.int .i64 0] 76 (0,0))).alloc (by simp; omega) (.cells (Zem T ⟨0,T.sh,0⟩) 182 (0,0))).alloc (by simp; omega) (.cells #[.slice none 0 0,.slice none 0 0,.int .i64 0,.int .i64 0] 76 (0,0));obtain⟨r0,r1,r2,r3,hZ⟩:=Zxe w (.cells T.box 25 (0,0)) (.cells #[.slice pq ps.length cq,.int .i64 n] 59 (0,0)) (.cells #[.slice none 0 0,.slice none 0 0,.int .i64 0,.int .i64 0] 76 (0,0)) (.cells (Zem T ⟨0,T.sh,0⟩) 182 (0,0)) (.cells #[.slice none 0 0,.slice none 0 0,.int .i64 0,.int .i64 0] 76 (0,0));have r4:(((((w.alloc (.cells T.box 25 (0,0))).alloc (.cells #[.slice pq ps.length cq,.int .i64 n] 59 (0,0))).alloc (.cells #[.slice none 0 0,.slice none 0 0,.int .i64 0,.int .i64 0] 76 (0,0))).alloc (.cells (Zem T ⟨0,T.sh,0⟩) 182 (0,0))).alloc (.cells #[.slice none 0 0,.slice none 0 0,.int .i64 0,.int .i64 0] 76 (0,0))).heap[w.heap.size+4]?=some (.cells #[.slice none 0 0,.slice none 0 0,.int .i64 0,.int .i64 0] 76 (0,0)):=by have:=heap_alloc_new ((((w.alloc (.cells T.box 25 (0,0))).alloc (.cells #[.slice pq ps.length cq,.int .i64 n] 59 (0,0))).alloc (.cells #[.slice none 0 0,.slice none 0 0,.int .i64 0,.int .i64 0] 76 (0,0))).alloc (.cells (Zem T ⟨0,T.sh,0⟩) 182 (0,0))) (.cells #[.slice none 0 0,.slice none 0 0,.int .i64 0,.int .i64 0] 76 (0,0)); simpa using this
 have HB:=Y hB;have HR1:=Y r1;have HR2:=Y r2;have HG0:=Y (show Ym _ (w.heap.size+3) T ⟨0,T.sh,0⟩ from r3);have HR4:=Y r4;have HPS:=Y hps;have HT:=Y hT;have HSIG:=Y hsig;have hlt:ps.length<9223372036854775808:=by omega
 clear hB r0 r1 r2 r3 r4 hps hT hsig;unfold Zm.box Zem at *;go_enter Tryz.func75,Tryz.ntmps75
 go_wp2_with fail
 generalize World.alloc (World.alloc (World.alloc (World.alloc (World.alloc w _) _) _) _) _=W at HB HR1 HR2 HG0 HR4 hZ ⊢;generalize hb0:w.heap.size=b0 at HB HR1 HR2 HG0 HR4 HT hZ ⊢;have HI0:=Y (show OfI W b0 T ps 0 (.slice none 0 0) [] W from⟨Below.refl _ _,O HG0,O HR4,rfl,World.ownsRow_nil _ _ _ _,fun j hj=>by omega⟩);go_loopw [17] (fun j w'=>∃(k:Nat) (av:Value) (pvs:List Value),j=.int .i64 k∧k≤ps.length∧OfI W b0 T ps k av pvs w') (fun j _=>ps.length-(intOf j).toNat)
 case atStart=>exact⟨0,_,_,rfl,by omega,O HI0⟩
 case round =>
  clear HI0 HG0 HR4;obtain⟨k,av,pvs,rfl,hk,hI⟩:=hrel;have hwz:=hI.low.size;have hok:=Zcn (L:=T.ag.length) (br:=T.br) (pr:=T.pairs) (sh:=T.sh) (O HSIG) k hk;by_cases hk2:k<ps.length
  ·
   have hnk:=Ut (O HSIG) hk2;unfold Nf at hnk;obtain⟨hm0,hm8⟩:=of_decide_eq_true hnk;have hTk:TbR wr (b0+3) T:=by
    have hm:∀{v:Value} {ns:List Int},Lj w b0 v ns→Lj wr (b0+3) v ns:=fun{v ns} h=>by
     rcases h with h | ⟨sb,so,cap,e1,e2,e3⟩
     ·
      exact Or.inl h
     ·
      refine Or.inr ⟨sb,so,cap,e1,by omega,fun i hi=>?_⟩;have e4:=e3 i hi;have hl:=World.block_lt_of_cell? w _ e4;simp only at hl;exact(World.cell?_of_block (show wr.heap[sb]?=w.heap[sb]? from(hI.low.block sb (by omega)).trans ((O HB).block sb (by omega)))).trans e4
    have ht:=O HT;exact⟨hm ht.a,hm ht.r,hm ht.s⟩
   obtain⟨p',cap',he,-,-,hcc⟩:=O HPS;injection he with j1 j2 j3;obtain⟨sb,so,hpq,hc⟩:=hcc (by omega);have c:=hc k hk2;have hsb:=World.block_lt_of_cell? w _ c;simp only at hsb;have cw:wr.cell? ⟨sb,so+k,none⟩=some (.int .i64 (ps.getD k 0)):=(World.cell?_of_block (show wr.heap[sb]?=w.heap[sb]? from(hI.low.block sb (by omega)).trans ((O HB).block sb (by omega)))).trans c;obtain⟨ap,ac,hav⟩:∃ ap ac,av=.slice ap k ac:=by
    rcases hI.own.2 with⟨e,e0⟩ | ⟨g,cap,cur,e,_⟩
    ·
     exact⟨_,_,by rw [e0]; exact e⟩
    ·
     exact⟨_,_,e⟩
   subst hav;have y0:=(cR hI.row 0);have hok1:=hok.u;have hok2:=hok.c0;have hok3:=hok.c1;have hok4:=hok.p0;have hok5:=hok.p1;have HC:=Y (Zup T (Ln T.ag.length T.br T.pairs ps T.sh k) (b0+3) (ps.getD k 0) wr.drew hI.giv (hTk.gb (Me (Below.refl wr.heap.size wr).drew) (by omega)) hm0 hm8 hok1 (by omega) (by omega) (by omega) (by omega) (by omega));have HI:=Y hI;have HSN:=Y (show Jv T.ag.length T.br T.pairs (ps.getD k 0) (Ln T.ag.length T.br T.pairs ps T.sh k)=Ln T.ag.length T.br T.pairs ps T.sh (k+1) from rfl);have HSP:=Y (show Lx T.ag T.br T.pairs (ps.getD k 0) (Ln T.ag.length T.br T.pairs ps T.sh k)=Gx T.ag T.br T.pairs ps T.sh k from rfl);rw [O HSN,O HSP] at HC;have hwr5:b0+5≤wr.heap.size:=by omega
   rw [j1,hpq];clear hI hTk hok hok1 hok2 hok3 hok4 hok5 hcc hc c j1 j2 j3 HSN HSP;generalize hzz:ps.getD k 0=zz at HC cw;clear hzz hnk hm0 hm8;generalize hsp:Gx T.ag T.br T.pairs ps T.sh k=sp at HC;have HSPE:=Y hsp;clear hsp;have HF:=Y (show Calls Tryz.prog 106 #[.pointer (some ⟨b0+3,0,none⟩),.int .i64 zz] wr.drew (fun e w3=>∃ v,e=.returned v∧∃ pv,v=.agg #[pv,.bool sp.ref,.int .i64 sp.at_]∧Gt w3 wr.heap.size pv sp.pl∧Ym w3 (b0+3) T (Ln T.ag.length T.br T.pairs ps T.sh (k+1))∧wr.drew.grownBy w3 (some (b0+3))) from(O HC).mono (by
    rintro e w3 ⟨pv,rfl,h1,h2,h3⟩;exact⟨_,rfl,pv,rfl,h1,h2,h3⟩))
   clear HC;go_wp2_with fail
   go_region_law (first | (refine Zci rfl (.tmp 22) (.tmp 26) 73 rfl (b0+5) 87 ti _ 3 40 Tryz.underlying73 hti hz0 hz1 hz2 rfl (by decide) (.slice ap k ac) k (Dg pvs ((List.range k).map (Gx T.ag T.br T.pairs ps T.sh))) (by simp [Act.eval]) ((O HOW3).alloc _) ⟨w3.heap.size,0,none⟩ 1 1 [.slice vp vn vc,.bool sp.ref,.int .i64 sp.at_] (by simp [Act.eval]) rfl (by intro j u hj; match j,hj with | 0,hj=>(simp at hj; subst hj; simp [Addr.add]) | 1,hj=>(simp at hj; subst hj; simp [Addr.add]) | 2,hj=>(simp at hj; subst hj; simp [Addr.add])) (by intro u hu; simp at hu; rcases hu with rfl | rfl | rfl <;> rfl) (by unfold maxLen; omega) (by omega) (by simp; omega) ?_; intro v7 w7 hown7 hgr7; have hr7:=O HR7 w7 hgr7; have j0:=(cR hr7 0); have g0:=frozen_of_row _ _ 0 _ _ hr7; obtain⟨gg7,cc7,rfl⟩:=Ll hown7; have HOW7:=Y hown7; have HGR7:=Y hgr7; have HROW7:=Y hr7; clear hown7 hgr7 hr7) | (refine Zhm rfl 106 #[.pointer (some ⟨b0+3,0,none⟩),.int .i64 zz] (by simp [go_sem]) (O HF) ?_; rintro v w3 ⟨pv,rfl,hP3,hG3,hgb3⟩; obtain⟨vp,vn,vc,rfl⟩:=Zbk hP3; have hw3:wr.heap.size≤w3.heap.size:=hgb3.size; have hr3:=(hgb3.block (b0+4) (by show b0+4<wr.heap.size; omega) (by intro e; injection e with e; omega)).trans (O HI).row; have h0:=(cR hr3 0); have h0a:=fun X:Obj=>(Zcf hr3 0 X).trans rfl; have HOW3:=Y (Oy (w:=wr.drew) (O HI).own hgb3 (fun g hg e=>by injection e with e; have:=(World.ownsRow.lt (O HI).own g hg).1; omega)); have HP3:=Y hP3; have HG3:=Y hG3; have HGB3:=Y hgb3; have HR3:=Y hr3; have HR7:=Y (fun w7 (hgr:(w3.alloc (.cells #[.slice vp vn vc,.bool sp.ref,.int .i64 sp.at_] 87 (0,0))).grownBy w7 (Value.slice ap k ac).ownBlock)=>(hgr.block (b0+4) (by simp; omega) (by intro e; have:=(World.ownsRow.lt (O HOW3) (b0+4) e.symm).1; omega)).trans (((Zs w3 (.cells #[.slice vp vn vc,.bool sp.ref,.int .i64 sp.at_] 87 (0,0))).2.1.block (b0+4) (by omega)).trans hr3)); clear hP3 hG3 hgb3 hr3))
   all_goals (
    have hx:=Y ((O HI).next hwr5 (O HGB3) (O HG3) (O HP3) (O HSPE) (O HGR7) (O HOW7));clear HGR7 HOW7 HROW7 HR7 HR3 HGB3 HG3 HP3 HOW3 h0 h0a HF;go_wp2;go_roundw
    case rel=>exact⟨k+1,_,_,by go_num,by omega,O hx⟩
    case measure=>simp [intOf]; omega)
  ·
   obtain rfl:k=ps.length:=by omega
   obtain⟨m,rfl⟩:∃ m:Nat,n=m:=⟨n.toNat,by omega⟩;have hok1:=hok.u;have hok2:=hok.c0;have hok3:=hok.c1;have hTk:TbR wr (b0+3) T:=by
    have hm:∀{v:Value} {ns:List Int},Lj w b0 v ns→Lj wr (b0+3) v ns:=fun{v ns} h=>by
     rcases h with h | ⟨sb,so,cap,e1,e2,e3⟩
     ·
      exact Or.inl h
     ·
      refine Or.inr ⟨sb,so,cap,e1,by omega,fun i hi=>?_⟩;have e4:=e3 i hi;have hl:=World.block_lt_of_cell? w _ e4;simp only at hl;exact(World.cell?_of_block (show wr.heap[sb]?=w.heap[sb]? from(hI.low.block sb (by omega)).trans ((O HB).block sb (by omega)))).trans e4
    have ht:=O HT;exact⟨hm ht.a,hm ht.r,hm ht.s⟩
   have HC:=Y (Zuq T (Ln T.ag.length T.br T.pairs ps T.sh ps.length) (b0+3) m wr hI.giv hTk (by omega) (by omega) (by omega) (by omega));obtain⟨ap,ac,hav⟩:∃ ap ac,av=.slice ap ps.length ac:=by
    rcases hI.own.2 with⟨e,e0⟩ | ⟨g,cap,cur,e,_⟩
    ·
     exact⟨_,_,by rw [e0]; exact e⟩
    ·
     exact⟨_,_,e⟩
   subst hav;have s1:=(cR ((hI.low.block (b0+1) (by omega)).trans (O HR1)) 1);have HI:=Y hI;have HE:=Y (show St T.ag T.rs T.br T.pairs T.sh ps m=⟨(List.range ps.length).map (Gx T.ag T.br T.pairs ps T.sh),(List.range m).map (My T.rs (Ln T.ag.length T.br T.pairs ps T.sh ps.length).c),Yj T.rs (Ln T.ag.length T.br T.pairs ps T.sh ps.length).c m,(Ln T.ag.length T.br T.pairs ps T.sh ps.length).p⟩ from rfl);clear hI hTk hok hok1 hok2 hok3;generalize Ln T.ag.length T.br T.pairs ps T.sh ps.length=s9 at HC HE;go_wp2_with fail
   refine(O HC).mono ?_;rintro e w2 ⟨v,rfl,hP2,hG2,hgb2⟩;have hz2:=hgb2.size;obtain⟨rp,rn,rc,rfl⟩:=Zbk hP2;have hrl:=(hgb2.block (b0+4) (by omega) (by intro e; injection e with e; omega)).trans (O HI).row;have hrr:=(hgb2.block (b0+2) (by omega) (by intro e; injection e with e; omega)).trans (((O HI).low.block (b0+2) (by omega)).trans (O HR2));have l1:=(cR hrl 1);have z1:=frozen_of_row _ _ 1 _ _ hrl;have hru:=heap_setCell_same _ _ 1 _ _ (.slice rp rn rc) hrl;have hgu:=hG2.oth (b:=b0+4) (j:=1) (v:=.slice rp rn rc) (by omega);have hru2:=(heap_setCell_other w2 ⟨b0+4,1,none⟩ (b0+2) (.slice rp rn rc) (by show b0+2≠b0+4; omega)).trans hrr;have hPu:=Uu (b:=b0+4) (j:=1) (u:=.slice rp rn rc) (Ic hP2 (show b0+5≤wr.heap.size by omega)) (by omega);have HRU:=Y hru;have HGU:=Y hgu;have HRR:=Y hru2;have HPU:=Y hPu;have HGB2:=Y hgb2;clear hrr hP2 hG2 hgb2 s1 hru hgu hru2 hPu hrl;go_wp2_with fail
   clear l1 z1;generalize hUU:w2.setCell _ _=U at HRU HGU HRR HPU ⊢;have HUU:=Y hUU;clear hUU;have l2:=(cR (O HRU) 2);have l3:=(cR (O HRU) 3);have z2:=frozen_of_row _ _ 2 _ _ (O HRU);have z3:=frozen_of_row _ _ 3 _ _ (O HRU);have HK0:=Y (show U.drew.cell? ⟨b0+3,13,none⟩=some (.int .i64 (Yj T.rs s9.c m))∧U.drew.cell? ⟨b0+3,14,none⟩=some (.int .i64 s9.p) from⟨(O HGU).k13,(O HGU).k14⟩);have HK1:=Y (show(U.drew.setCell ⟨b0+4,2,none⟩ (.int .i64 (Yj T.rs s9.c m))).cell? ⟨b0+3,13,none⟩=some (.int .i64 (Yj T.rs s9.c m))∧(U.drew.setCell ⟨b0+4,2,none⟩ (.int .i64 (Yj T.rs s9.c m))).cell? ⟨b0+3,14,none⟩=some (.int .i64 s9.p) from⟨((O HGU).oth (w:=U.drew) (b:=b0+4) (j:=2) (v:=.int .i64 (Yj T.rs s9.c m)) (by omega)).k13,((O HGU).oth (w:=U.drew) (b:=b0+4) (j:=2) (v:=.int .i64 (Yj T.rs s9.c m)) (by omega)).k14⟩);have HK2:=Y (show((U.drew.setCell ⟨b0+4,2,none⟩ (.int .i64 (Yj T.rs s9.c m))).setCell ⟨b0+4,3,none⟩ (.int .i64 s9.p)).cell? ⟨b0+3,13,none⟩=some (.int .i64 (Yj T.rs s9.c m))∧((U.drew.setCell ⟨b0+4,2,none⟩ (.int .i64 (Yj T.rs s9.c m))).setCell ⟨b0+4,3,none⟩ (.int .i64 s9.p)).cell? ⟨b0+3,14,none⟩=some (.int .i64 s9.p) from⟨(((O HGU).oth (w:=U.drew) (b:=b0+4) (j:=2) (v:=.int .i64 (Yj T.rs s9.c m)) (by omega)).oth (b:=b0+4) (j:=3) (v:=.int .i64 s9.p) (by omega)).k13,(((O HGU).oth (w:=U.drew) (b:=b0+4) (j:=2) (v:=.int .i64 (Yj T.rs s9.c m)) (by omega)).oth (b:=b0+4) (j:=3) (v:=.int .i64 s9.p) (by omega)).k14⟩)
   refine wp_region_held_drew (S:=fun V=>V.cell? ⟨b0+3,13,none⟩=some (.int .i64 (Yj T.rs s9.c m))∧V.cell? ⟨b0+3,14,none⟩=some (.int .i64 s9.p)) (by kernel_rfl) (O HK0) (fun hHeld=>?_);refine tT 0 ?_;refine tT 1 ?_;refine tT 2 ?_;refine tT 3 ?_;refine tT 4 ?_;refine tT 5 ?_;refine tT 6 ?_;refine tT 7 ?_;refine tT 8 ?_;refine tO 9 fun K hK=>?_;go_simp;refine kO hK (O HK1) (fun hHeld2=>?_);clear hK K;refine tT 10 ?_;refine tO 11 fun K hK=>?_;go_simp;refine kO hK (O HK2) (fun hHeld2=>?_);clear hK K;refine wpAnyH_done (by kernel_rfl) ?_ _;have hrz:((U.setCell ⟨b0+1+1+1+1,2,none⟩ (.int .i64 (Yj T.rs s9.c m))).setCell ⟨b0+1+1+1+1,3,none⟩ (.int .i64 s9.p)).drew.heap[b0+4]?=some (.cells #[.slice ap ps.length ac,.slice rp rn rc,.int .i64 (Yj T.rs s9.c m),.int .i64 s9.p] 76 (0,0)):=heap_setCell_same _ _ 3 _ _ _ (heap_setCell_same U.drew _ 2 _ _ _ (O HRU));have hrq:((U.setCell ⟨b0+1+1+1+1,2,none⟩ (.int .i64 (Yj T.rs s9.c m))).setCell ⟨b0+1+1+1+1,3,none⟩ (.int .i64 s9.p)).drew.heap[b0+2]?=_:=(heap_setCell_other (U.drew.setCell ⟨b0+4,2,none⟩ (.int .i64 (Yj T.rs s9.c m))) ⟨b0+4,3,none⟩ (b0+2) (.int .i64 s9.p) (by show b0+2≠b0+4; omega)).trans ((heap_setCell_other U.drew ⟨b0+4,2,none⟩ (b0+2) (.int .i64 (Yj T.rs s9.c m)) (by show b0+2≠b0+4; omega)).trans (O HRR));have hpz:Gt ((U.setCell ⟨b0+1+1+1+1,2,none⟩ (.int .i64 (Yj T.rs s9.c m))).setCell ⟨b0+1+1+1+1,3,none⟩ (.int .i64 s9.p)).drew (b0+5) _ _:=Uu (b:=b0+4) (j:=3) (u:=.int .i64 s9.p) (Uu (w:=U.drew) (b:=b0+4) (j:=2) (u:=.int .i64 (Yj T.rs s9.c m)) (O HPU) (by omega)) (by omega)
   have hbz:∀ q,q≠b0+3→q≠b0+4→q<wr.heap.size→((U.setCell ⟨b0+1+1+1+1,2,none⟩ (.int .i64 (Yj T.rs s9.c m))).setCell ⟨b0+1+1+1+1,3,none⟩ (.int .i64 s9.p)).drew.heap[q]?=wr.heap[q]?:=fun q h1 h2 h3=>by
    have e:=O HUU;subst e;exact(heap_setCell_other ((w2.setCell ⟨b0+4,1,none⟩ (.slice rp rn rc)).setCell ⟨b0+4,2,none⟩ (.int .i64 (Yj T.rs s9.c m))) ⟨b0+4,3,none⟩ q (.int .i64 s9.p) h2).trans ((heap_setCell_other (w2.setCell ⟨b0+4,1,none⟩ (.slice rp rn rc)) ⟨b0+4,2,none⟩ q _ h2).trans ((heap_setCell_other w2 ⟨b0+4,1,none⟩ q _ h2).trans ((O HGB2).block q h3 (by intro e; injection e with e; omega))))
   have hoz:((U.setCell ⟨b0+1+1+1+1,2,none⟩ (.int .i64 (Yj T.rs s9.c m))).setCell ⟨b0+1+1+1+1,3,none⟩ (.int .i64 s9.p)).drew.os=wr.os∧((U.setCell ⟨b0+1+1+1+1,2,none⟩ (.int .i64 (Yj T.rs s9.c m))).setCell ⟨b0+1+1+1+1,3,none⟩ (.int .i64 s9.p)).drew.tape=wr.tape∧((U.setCell ⟨b0+1+1+1+1,2,none⟩ (.int .i64 (Yj T.rs s9.c m))).setCell ⟨b0+1+1+1+1,3,none⟩ (.int .i64 s9.p)).drew.output=wr.output∧((U.setCell ⟨b0+1+1+1+1,2,none⟩ (.int .i64 (Yj T.rs s9.c m))).setCell ⟨b0+1+1+1+1,3,none⟩ (.int .i64 s9.p)).drew.heap.size=w2.heap.size:=by
    have e:=O HUU;subst e;exact⟨(O HGB2).os,(O HGB2).tape,(O HGB2).output,by simp⟩
   clear l2 l3 z2 z3 HK0 HK1 HK2;generalize ((U.setCell ⟨b0+1+1+1+1,2,none⟩ (.int .i64 (Yj T.rs s9.c m))).setCell ⟨b0+1+1+1+1,3,none⟩ (.int .i64 s9.p)).drew=Z at hrz hrq hpz hbz hoz ⊢;have y0:=(cR hrz 0);have y1:=(cR hrz 1);have y2:=(cR hrz 2);have y3:=(cR hrz 3);have HRQ:=Y hrq;have HPZ:=Y hpz;have HBZ:=Y hbz;have HOZ:=Y hoz;clear hrz hrq hpz hbz hoz;go_wp2_with (refine wpList_store_row rfl 76 _ _ rfl (b0+2) #[.slice ap ps.length ac,.slice rp rn rc,.int .i64 (Yj T.rs s9.c m),.int .i64 s9.p] rfl rfl 76 _ (O HRQ) (Tryz.infLyK.trans rfl) rfl (by simp [Value.oneCell']) ?_)
   refine bodyPost_ret (Xu (fn:=Tryz.f75) (q:=4) (uy:=76) rfl _ _ (b0+2) 76 #[.slice ap ps.length ac,.slice rp rn rc,.int .i64 (Yj T.rs s9.c m),.int .i64 s9.p] (0,0) _ rfl (setRow_heap _ _ _ _ _ _ (O HRQ)) Tryz.underlying76 rfl (Tryz.infLyK.trans rfl)) rfl ?_;have hI:=O HI;have hob:=O HOZ;have hzz:=(O HGB2).size;rw [hb0,O HE];have hown:∀{e:TypeId} {size n:Nat} {v:Value} {xs:List Value},wr.ownsRow (b0+5) e size v n xs→(Z.setRow (b0+2) #[.slice ap ps.length ac,.slice rp rn rc,.int .i64 (Yj T.rs s9.c m),.int .i64 s9.p]).ownsRow b0 e size v n xs:=fun{e size n v xs} h=>by
    obtain⟨h1,h2 | ⟨g,cap,cur,e1,e2,e3,e4⟩⟩:=h
    ·
     exact⟨h1,Or.inl h2⟩
    ·
     exact⟨h1,Or.inr ⟨g,cap,cur,e1,by omega,(setRow_other _ _ _ _ (by omega)).trans ((O HBZ g (by omega) (by omega) (Zc e3)).trans e3),e4⟩⟩
   refine⟨_,_,pvs,rfl,⟨by simp [hI.len],?_,fun j hj=>?_,?_⟩,?_⟩
   ·
    have h:=hown hI.own;simpa using h
   ·
    have hj2:j<ps.length:=by simpa using hj
    have h:=hown (hI.each j hj2);have e:((List.range ps.length).map (Gx T.ag T.br T.pairs ps T.sh)).getD j Xs=Gx T.ag T.br T.pairs ps T.sh j:=by simp [List.getD,hj2]
    show Gt _ b0 (pvs.getD j undef) (((List.range ps.length).map (Gx T.ag T.br T.pairs ps T.sh)).getD j Xs).pl;rw [e];exact h
   ·
    exact Zch (O HPZ) (by omega) (by omega)
   ·
    refine⟨?_,?_,?_,?_,fun q hq=>?_⟩
    ·
     exact hob.1.trans (hI.low.os.trans (O HB).os)
    ·
     exact hob.2.1.trans (hI.low.tape.trans (O HB).tape)
    ·
     exact hob.2.2.1.trans (hI.low.output.trans (O HB).output)
    ·
     have h:(Z.setRow (b0+2) #[.slice ap ps.length ac,.slice rp rn rc,.int .i64 (Yj T.rs s9.c m),.int .i64 s9.p]).heap.size=Z.heap.size:=by simp [World.setRow]
     have:=hob.2.2.2;omega
    ·
     exact(setRow_other _ _ _ _ (by omega)).trans ((O HBZ q (by omega) (by omega) (by omega)).trans ((hI.low.block q (by omega)).trans ((O HB).block q hq)))
def Ztv:Yc:=⟨[],[],0,0⟩
theorem Yo.no (w:World)(B:Nat):Yo w B (.slice none 0 0) (.slice none 0 0) Ztv []:=⟨rfl,World.ownsRow_nil _ _ _ _,fun k hk=>absurd hk (by simp [Ztv]),World.ownsRow_nil _ _ _ _⟩
theorem Yo.row {w:World}{B B' b:Nat}{cs:Array Value}{av rv:Value}{l:Yc}{pvs:List Value}(h:Yo w B av rv l pvs)(hb:b<B)(hB:B'≤B):Yo (w.setRow b cs) B' av rv l pvs:=by
 have k:∀{n size:Nat} {e:TypeId} {v:Value} {xs:List Value},w.ownsRow B e size v n xs→(w.setRow b cs).ownsRow B' e size v n xs:=fun{n size e v xs} h=>by
  obtain⟨h1,h2 | ⟨g,cap,cur,e1,e2,e3,e4⟩⟩:=h
  ·
   exact⟨h1,Or.inl h2⟩
  ·
   exact⟨h1,Or.inr ⟨g,cap,cur,e1,Nat.le_trans hB e2,(setRow_other _ _ _ _ (by omega)).trans e3,e4⟩⟩
 exact⟨h.len,k h.args,fun j hj=>k (h.each j hj),k h.res⟩
theorem Yo.keep {w w':World}{B:Nat}{av rv:Value}{l:Yc}{pvs:List Value}(h:Yo w B av rv l pvs)(hb:Below w.heap.size w w'):Yo w' B av rv l pvs :=
 ⟨h.len,Oy h.args (Me (o:=none) hb) (fun g _ e=>by cases e),fun j hj=>Oy (h.each j hj) (Me (o:=none) hb) (fun g _ e=>by cases e),Oy h.res (Me (o:=none) hb) (fun g _ e=>by cases e)⟩
theorem Yo.same {w w':World}{B B':Nat}{av rv:Value}{l:Yc}{pvs:List Value}(h:Yo w B av rv l pvs)(hs:∀ q,B≤q→w'.heap[q]?=w.heap[q]?)(hB:B'≤B):Yo w' B' av rv l pvs:=by
 have k:∀{n size:Nat} {e:TypeId} {v:Value} {xs:List Value},w.ownsRow B e size v n xs→w'.ownsRow B' e size v n xs:=fun{n size e v xs} h=>by
  obtain⟨h1,h2 | ⟨g,cap,cur,e1,e2,e3,e4⟩⟩:=h
  ·
   exact⟨h1,Or.inl h2⟩
  ·
   exact⟨h1,Or.inr ⟨g,cap,cur,e1,Nat.le_trans hB e2,(hs g e2).trans e3,e4⟩⟩
 exact⟨h.len,k h.args,fun j hj=>k (h.each j hj),k h.res⟩
def Ow (T:Zm):Bool:=Ls T.r T.sp T.lk T.t0 T.t1 T.ag T.rs T.ss T.al T.sh T.br
theorem Zlr {ps:List Int}{n:Int}(h:Xy (ps,n)=true):ps.length≤8∧0≤n∧n≤4∧Gu ps 0 8=true:=by
 unfold Xy Nf at h;simp only [Bool.and_eq_true,decide_eq_true_eq] at h;exact⟨h.1,h.2.1.1,h.2.1.2,h.2.2⟩
structure TbO (w:World)(T:Zm):Prop where
 a:Li w (.slice T.pa T.ag.length T.ca) T.ag
 r:Li w (.slice T.pr T.rs.length T.cr) T.rs
 s:Li w (.slice T.ps T.ss.length T.cs) T.ss
theorem TbO.below {w w':World}{T:Zm}(h:TbO w T)(hb:Below w.heap.size w w'):TbO w' T:=⟨h.a.below hb,h.r.below hb,h.s.below hb⟩
theorem Li.low {w:World}{p:Option Addr}{c:Nat}{ns:List Int}(h:Li w (.slice p ns.length c) ns):Lj w w.heap.size (.slice p ns.length c) ns:=by
 obtain⟨p',c',e,h2,h3,h4⟩:=h;injection e with e1 e2 e3;subst e1 e3;by_cases h0:0<ns.length
 ·
  obtain⟨sb,so,e,hc⟩:=h4 h0;exact Or.inr ⟨sb,so,c,by rw [e],by have:=World.block_lt_of_cell? w _ (hc 0 h0); simpa using this,hc⟩
 ·
  have hn:ns=[]:=List.length_eq_zero_iff.1 (by omega);exact Or.inl ⟨hn,p,c,by rw [hn]; rfl⟩
theorem Li.cap {w:World}{p:Option Addr}{c:Nat}{ns:List Int}(h:Li w (.slice p ns.length c) ns):∀ a n cap,Value.slice p ns.length c=.slice a n cap→n≤cap:=fun a n cap e=>by
 obtain⟨p',c',e',h2,h3,h4⟩:=h;injection e' with e1 e2 e3;injection e with f1 f2 f3;omega
theorem TbO.low {w:World}{T:Zm}(h:TbO w T):TbR w w.heap.size T:=⟨h.a.low,h.r.low,h.s.low⟩
structure Mt (s:List Int×Int):Prop where
 n:Gu s.1 0 8=true
 l:s.1.length≤8
 r0:0≤s.2
 r4:s.2≤4
def Zr (T:Zm)(s:List Int×Int):Yc:=St T.ag T.rs T.br T.pairs T.sh s.1 s.2
structure Zt where
 op:Int
 r:Int
 a:Int
 b:Int
 n:Int
 w:Int
 f:Int
def Yz:Zt:=⟨0,0,0,0,0,0,0⟩
structure Zk where
 sigs:List (List Int×Int)
 funcs:List (List (List Zt))
 externs:List (List Int×Int)
structure Zf where
 f:Int
 bk:Int
 at_:Int
 rg:Nat→Int
 me:List Int
 sc:List Int
 tr:List (Int×List Int)
 pk:Int
 kind:Int
 code:Int
 steps:Int
 vals:List Int
def Yy (R:Nat→Int)(i:Nat)(v:Int):Nat→Int:=fun j=>if j=i then v else R j
def Zm.spN (T:Zm):Nat:=T.sp.toNat
namespace Zf
variable (T:Zm) (m:Zf)
def endK (k:Int)(vs:List Int):Zf:={ m with kind:=k,vals:=vs }
def fault (c:Int):Zf:={ m with kind:=5,vals:=[],code:=c }
def sp:Int:=m.rg T.spN
def setSP (v:Int):Zf×Bool:=if wrap64 v<0 then (m.endK 4 [],false) else if (m.me.length:Int)<wrap64 v then (m.fault 2,false) else ({ m with rg:=Yy m.rg T.spN v,pk:=max m.pk (m.me.length-wrap64 v) },true)
def setR (r:Nat)(v:Int):Zf×Bool:=if r=T.spN then m.setSP T v else ({ m with rg:=Yy m.rg r v },true)
def reach (a w:Int):Zf×Bool:=if Cb w=false then (m.fault 2,false) else if wrap64 a<0 then (m.endK 4 [],false) else if (m.me.length:Int)-w<wrap64 a then (m.fault 2,false) else (m,true)
def load (a w:Int):Zf×Option Int:=if (m.reach a w).2=true then (m,some (ldB m.me (wrap64 a).toNat w.toNat)) else ((m.reach a w).1,none)
def store (a w v:Int):Zf×Bool:=if (m.reach a w).2=true then ({ m with me:=stB m.me (wrap64 a).toNat w.toNat v },true) else ((m.reach a w).1,false)
def read (p:Int×Int):Zf×Option Int:=if p.1=-1 then m.load (IntKind.u64.wrap (m.sp T+IntKind.u64.wrap p.2)) 8 else (m,some (m.rg p.1.toNat))
def write (p:Int×Int)(v:Int):Zf×Bool:=if p.1=-1 then m.store (IntKind.u64.wrap (m.sp T+IntKind.u64.wrap p.2)) 8 v else m.setR T p.1.toNat v
def aligned:Zf×Bool:=if m.sp T % T.al=0 then (m,true) else (m.fault 3,false)
def putN (n:Int):Zf×Bool :=
 if T.lk=-1 then (if (m.setSP T (IntKind.u64.wrap (m.sp T-8))).2=true then (m.setSP T (IntKind.u64.wrap (m.sp T-8))).1.store ((m.setSP T (IntKind.u64.wrap (m.sp T-8))).1.sp T) 8 n else ((m.setSP T (IntKind.u64.wrap (m.sp T-8))).1,false))
 else m.setR T T.lk.toNat n
def enter (F:Nat)(f:Int):Zf×Bool:=if 0≤f∧f<F then ({ m with f:=f,bk:=0,at_:=0 },true) else (m.fault 1,false)
def call (F:Nat)(f n:Int):Zf×Bool:=if (m.aligned T).2=true then (if (m.putN T n).2=true then (m.putN T n).1.enter F f else ((m.putN T n).1,false)) else ((m.aligned T).1,false)
def takeN:Zf×Option Int :=
 if T.lk=-1 then
  (if (m.load (m.sp T) 8).2.isSome=true then (((m.load (m.sp T) 8).1.setSP T (IntKind.u64.wrap ((m.load (m.sp T) 8).1.sp T+8))).1,if ((m.load (m.sp T) 8).1.setSP T (IntKind.u64.wrap ((m.load (m.sp T) 8).1.sp T+8))).2=true then (m.load (m.sp T) 8).2 else none) else ((m.load (m.sp T) 8).1,none))
 else (m,some (m.rg T.lk.toNat))
def wordOf (x:Xm)(n:Nat):Zf×Option Int :=
 if x.ref=false then m.read T (x.pl.getD n (0,0)) else
  (if (m.read T (x.pl.getD 0 (0,0))).2.isSome=true then (m.read T (x.pl.getD 0 (0,0))).1.load (IntKind.u64.wrap ((m.read T (x.pl.getD 0 (0,0))).2.getD 0+8*n)) 8 else ((m.read T (x.pl.getD 0 (0,0))).1,none))
end Zf
def Mf (f b:Nat)(l:List Zt):List (Int×Int×Int):=(List.range l.length).filterMap fun k=>if (l.getD k Yz).op=15 then some ((f:Int),(b:Int),(k:Int)+1) else none
def Lq (f:Nat)(bs:List (List Zt)):List (Int×Int×Int):=(List.range bs.length).flatMap fun b=>Mf f b (bs.getD b [])
def Zg (C:Zk):List (Int×Int×Int):=(List.range C.funcs.length).flatMap fun f=>Lq f (C.funcs.getD f [])
def Jh (p:Int×Int×Int):List (Int×Int×Int)→Int→Int
 | [],_=>0
 | q :: r,k=>if q=p then k else Jh p r (k+1)
def Zv (C:Zk)(m:Zf):Zt:=if 0≤m.bk then (((C.funcs.getD m.f.toNat []).getD m.bk.toNat []).getD m.at_.toNat Yz) else Yz
def Xc (op:Int):Nat:=if op=1∨op=10∨op=11∨op=13∨op=18 then 1 else if op=2∨op=12 then 2 else if 3≤op∧op≤9 then 3 else 0
def Jq (T:Zm)(i:Zt):Bool:=decide (1≤i.op∧i.op≤21)&&(([i.r,i.a,i.b].take (Xc i.op)).all fun r=>decide (0≤r∧r<T.r))
def Zo (T:Zm):Zf→List (Xm×Nat)→List Int→Zf×Option (List Int)
 | m,[],acc=>(m,some acc)
 | m,x :: r,acc=>if (m.wordOf T x.1 x.2).2.isSome=true then Zo T (m.wordOf T x.1 x.2).1 r (acc++[(m.wordOf T x.1 x.2).2.getD 0]) else ((m.wordOf T x.1 x.2).1,none)
def Ng (args:List Xm)(ps:List Int):List (Xm×Nat):=(List.range args.length).flatMap fun k=>(List.range (max (ps.getD k 0) 1).toNat).map fun n=>(args.getD k Xs,n)
def Lk (T:Zm)(R:Nat→Int)(base:Int):Nat→Int:=fun r=>if (r:Int)<T.r∧r≠T.spN∧T.ss.contains (r:Int)=false then IntKind.u64.wrap (base+r) else R r
def Ys (T:Zm)(base:Int):Nat→Nat→Zf→Zf×Bool
 | 0,_,m=>(m,true)
 | n+1,k,m=>if (m.store (IntKind.u64.wrap (m.sp T+8*k)) 8 (IntKind.u64.wrap (IntKind.u64.wrap (base+1000)+8*k))).2=true then Ys T base n (k+1) (m.store (IntKind.u64.wrap (m.sp T+8*k)) 8 (IntKind.u64.wrap (IntKind.u64.wrap (base+1000)+8*k))).1 else ((m.store (IntKind.u64.wrap (m.sp T+8*k)) 8 (IntKind.u64.wrap (IntKind.u64.wrap (base+1000)+8*k))).1,false)
def Xa (T:Zm):Zf→List (Int×Int)→List Int→Zf
 | m,[],_=>m
 | m,p :: r,sc=>Xa T (m.write T p (sc.headD 0)).1 r sc.tail
def Zz (T:Zm)(m:Zf)(size:Int):Zf×Bool:=Ys T (IntKind.u64.wrap (65536*m.tr.length)) ((size+7) / 8).toNat 0 { m with rg:=Lk T m.rg (IntKind.u64.wrap (65536*m.tr.length)) }
def Xw (T:Zm)(m:Zf)(res:List (Int×Int)):Zf:=Xa T { m with sc:=m.sc.drop res.length } res m.sc
def Xk (T:Zm)(C:Zk)(m:Zf)(f:Int):Zf :=
 if (m.aligned T).2=false then (m.aligned T).1
 else if 0≤f∧f<C.externs.length then
  (match Zo T m (Ng (Zr T (C.externs.getD f.toNat ([],0))).args (C.externs.getD f.toNat ([],0)).1) [] with
  | (m',none)=>m'
  | (m',some ws)=>if (Zz T { m' with tr:=m'.tr++[(f,ws)] } (Zr T (C.externs.getD f.toNat ([],0))).size).2=true then Xw T (Zz T { m' with tr:=m'.tr++[(f,ws)] } (Zr T (C.externs.getD f.toNat ([],0))).size).1 (Zr T (C.externs.getD f.toNat ([],0))).res else (Zz T { m' with tr:=m'.tr++[(f,ws)] } (Zr T (C.externs.getD f.toNat ([],0))).size).1)
 else m.fault 1
def Ma (T:Zm)(was:Nat→Int)(m:Zf):Bool:=(T.ss.all fun r=>decide (m.rg r.toNat=was r.toNat))&&decide (m.sp T=was T.spN)
def Ya (T:Zm):Zf→List (Int×Int)→List Int→Zf×List Int
 | m,[],acc=>(m,acc)
 | m,p :: r,acc=>Ya T (m.read T p).1 r (acc++[(m.read T p).2.getD 0])
def Yw (T:Zm)(own:Yc)(was:Nat→Int)(m:Zf):Zf:=if Ma T was m=true then (Ya T m own.res []).1.endK 1 (Ya T m own.res []).2 else m.fault 5
def Mz (T:Zm)(C:Zk)(own:Yc)(was:Nat→Int)(m:Zf):Zf :=
 match m.takeN T with
 | (m',none)=>m'
 | (m',some n)=>if n=0 then Yw T own was m' else if ((Zg C).length:Int)<n then m'.fault 4 else { m' with f:=((Zg C).getD (n.toNat-1) (0,0,0)).1,bk:=((Zg C).getD (n.toNat-1) (0,0,0)).2.1,at_:=((Zg C).getD (n.toNat-1) (0,0,0)).2.2 }
def Jb (T:Zm)(m:Zf)(r:Int)(a k:Int):Zf:=if (m.load a k).2.isSome=true then ((m.load a k).1.setR T r.toNat ((m.load a k).2.getD 0)).1 else (m.load a k).1
def Xo (T:Zm)(C:Zk)(own:Yc)(was:Nat→Int)(m:Zf)(i:Zt):Zf :=
 if i.op=1 then (m.setR T i.r.toNat (IntKind.u64.wrap i.n)).1
 else if i.op=2 then (m.setR T i.r.toNat (m.rg i.a.toNat)).1
 else if 3≤i.op∧i.op≤9 then (m.setR T i.r.toNat (Lr i.op (m.rg i.a.toNat) (m.rg i.b.toNat))).1
 else if i.op=10 then Jb T m i.r (IntKind.u64.wrap (m.sp T+IntKind.u64.wrap i.n)) i.w
 else if i.op=11 then (m.store (IntKind.u64.wrap (m.sp T+IntKind.u64.wrap i.n)) i.w (m.rg i.r.toNat)).1
 else if i.op=12 then Jb T m i.r (IntKind.u64.wrap (m.rg i.a.toNat+IntKind.u64.wrap i.n)) 8
 else if i.op=13 then (m.setR T i.r.toNat (IntKind.u64.wrap (m.sp T+IntKind.u64.wrap i.n))).1
 else if i.op=14 then (m.setSP T (IntKind.u64.wrap (m.sp T+IntKind.u64.wrap i.n))).1
 else if i.op=15 then (m.call T C.funcs.length i.f (Jh (m.f,m.bk,m.at_) (Zg C) 1)).1
 else if i.op=16 then Xk T C m i.f
 else if i.op=17 then { m with bk:=i.a,at_:=0 }
 else if i.op=18 then { m with bk:=if m.rg i.r.toNat=0 then i.b else i.a,at_:=0 }
 else if i.op=19 then Mz T C own was m
 else if i.op=20 then (m.enter C.funcs.length i.f).1
 else m.endK 2 [IntKind.u64.wrap i.n]
def Yb (T:Zm)(C:Zk)(own:Yc)(was:Nat→Int)(m:Zf):Zf :=
 if Jq T (Zv C m)=true then Xo T C own was { m with at_:=m.at_+1 } (Zv C m) else m.fault 1
def On (T:Zm)(C:Zk)(own:Yc)(was:Nat→Int):Nat→Zf→Zf
 | 0,m=>if m.kind=0 then m.endK 3 [] else m
 | n+1,m=>if m.kind=0 then On T C own was n (Yb T C own was { m with steps:=m.steps+1 }) else m
theorem Zxh (w:World)(X0 X1 X2 X3:Obj):((((w.alloc X0).alloc X1).alloc X2).alloc X3).heap[w.heap.size]?=some X0∧((((w.alloc X0).alloc X1).alloc X2).alloc X3).heap[w.heap.size+1]?=some X1∧((((w.alloc X0).alloc X1).alloc X2).alloc X3).heap[w.heap.size+1+1]?=some X2∧((((w.alloc X0).alloc X1).alloc X2).alloc X3).heap[w.heap.size+1+1+1]?=some X3∧((((w.alloc X0).alloc X1).alloc X2).alloc X3).heap.size=w.heap.size+1+1+1+1:=by
 obtain⟨r0,b0,s0⟩:=Zs w X0;obtain⟨r1,b1,s1⟩:=Zs (w.alloc X0) X1;obtain⟨r2,b2,s2⟩:=Zs ((w.alloc X0).alloc X1) X2;obtain⟨r3,b3,s3⟩:=Zs (((w.alloc X0).alloc X1).alloc X2) X3;rw [s0] at r1;rw [s1,s0] at r2;rw [s2,s1,s0] at r3;exact⟨(b3.block _ (by omega)).trans ((b2.block _ (by omega)).trans ((b1.block _ (by omega)).trans r0)),(b3.block _ (by omega)).trans ((b2.block _ (by omega)).trans r1),(b3.block _ (by omega)).trans r2,r3,by omega⟩
structure RlI (W:World)(b0:Nat)(T:Zm)(ps:List Int)(k:Nat)(av:Value)(pvs:List Value)(w:World):Prop where
 low:Below (b0+3) W w
 row:w.heap[b0+3]?=some (.cells #[av,.slice none 0 0,.int .i64 0,.int .i64 (Ln T.ag.length T.br T.pairs ps T.sh k).p] 76 (0,0))
 len:pvs.length=k
 own:w.ownsRow (b0+4) 87 3 av k (Dg pvs ((List.range k).map (Gx T.ag T.br T.pairs ps T.sh)))
 each:∀ j,j<k→Gt w (b0+4) (pvs.getD j undef) (Gx T.ag T.br T.pairs ps T.sh j).pl
structure Id (wr:World)(b0 Ta:Nat)(av pv:Value)(ref:Bool)(at_ p:Int)(xs:List (Int×Int))(w:World):Prop where
 os:w.os=wr.os
 tape:w.tape=wr.tape
 output:w.output=wr.output
 size:Ta<w.heap.size
 oth:∀ q,q<Ta→q≠b0+3→w.heap[q]?=wr.heap[q]?
 lrow:w.heap[b0+3]?=some (.cells #[av,.slice none 0 0,.int .i64 0,.int .i64 p] 76 (0,0))
 arow:w.heap[Ta]?=some (.cells #[pv,.bool ref,.int .i64 at_] 87 (0,0))
 pl:Gt w (Ta+1) pv xs
theorem Id.first {wr:World}{b0:Nat}{av:Value}{ref:Bool}{p:Int}(h:wr.heap[b0+3]?=some (.cells #[av,.slice none 0 0,.int .i64 0,.int .i64 p] 76 (0,0))):Id wr b0 wr.heap.size av (.slice none 0 0) ref 0 p [] (wr.alloc (.cells #[.slice none 0 0,.bool ref,.int .i64 0] 87 (0,0))):=by
 have ha:=Zs wr (.cells #[.slice none 0 0,.bool ref,.int .i64 0] 87 (0,0));exact⟨rfl,rfl,rfl,by rw [ha.2.2]; omega,fun q hq _=>ha.2.1.block q hq,(ha.2.1.block _ (Zc h)).trans h,ha.1,World.ownsRow_nil _ _ _ _⟩
theorem Id.refd {wr:World}{b0:Nat}{av:Value}{ref:Bool}{p a2 p2:Int}(h:wr.heap[b0+3]?=some (.cells #[av,.slice none 0 0,.int .i64 0,.int .i64 p] 76 (0,0))):Id wr b0 wr.heap.size av (.slice none 0 0) ref a2 p2 [] ((wr.setCell ⟨b0+3,3,none⟩ (.int .i64 p2)).alloc (.cells #[.slice none 0 0,.bool ref,.int .i64 a2] 87 (0,0))):=by
 have ha:=Zs (wr.setCell ⟨b0+3,3,none⟩ (.int .i64 p2)) (.cells #[.slice none 0 0,.bool ref,.int .i64 a2] 87 (0,0));have hs:(wr.setCell ⟨b0+3,3,none⟩ (.int .i64 p2)).heap.size=wr.heap.size:=by simp
 have hl:=Zc h;refine⟨rfl,rfl,rfl,by rw [ha.2.2]; omega,fun q hq hne=>(ha.2.1.block q (by omega)).trans (heap_setCell_other _ _ _ _ hne),(ha.2.1.block _ (by omega)).trans (heap_setCell_same _ _ 3 _ _ _ h),?_,World.ownsRow_nil _ _ _ _⟩;have h1:=ha.1;rw [hs] at h1;exact h1
theorem Id.next {wr w w7:World}{b0 Ta:Nat}{av pv v7:Value}{ref:Bool}{at_ p x y:Int}{xs:List (Int×Int)}(h:Id wr b0 Ta av pv ref at_ p xs w)(hb:b0+3<Ta)(hgr:(w.alloc (.cells #[.int .i64 x,.int .i64 y] 91 (0,0))).grownBy w7 pv.ownBlock)(hown:w7.ownsRow (Ta+1) 91 2 v7 (xs.length+1) (plC xs++[.int .i64 x,.int .i64 y])) :
 Id wr b0 Ta av v7 ref at_ p (xs++[(x,y)]) (w7.setCell ⟨Ta,0,none⟩ v7):=by
 have ha:=Zs w (.cells #[.int .i64 x,.int .i64 y] 91 (0,0));have hz7:=hgr.size;have hz:=h.size;have hne:∀ q,q≤Ta→some q≠pv.ownBlock:=fun q hq e=>by have:=(World.ownsRow.lt h.pl q e.symm).1; omega
 have hblk:∀ q,q≤Ta→w7.heap[q]?=w.heap[q]?:=fun q hq=>(hgr.block q (by rw [ha.2.2]; omega) (hne q hq)).trans (ha.2.1.block q (by omega));refine⟨hgr.os.trans (ha.2.1.os.trans h.os),hgr.tape.trans (ha.2.1.tape.trans h.tape),hgr.output.trans (ha.2.1.output.trans h.output),?_,fun q h1 h2=>(heap_setCell_other _ _ _ _ (by show q≠Ta; omega)).trans ((hblk q (by omega)).trans (h.oth q h1 h2)),(heap_setCell_other _ _ _ _ (by show b0+3≠Ta; omega)).trans ((hblk _ (by omega)).trans h.lrow),heap_setCell_same _ _ 0 _ _ _ ((hblk Ta (Nat.le_refl _)).trans h.arow),?_⟩
 ·
  have e:(w7.setCell ⟨Ta,0,none⟩ v7).heap.size=w7.heap.size:=by simp
  omega
 ·
  unfold Gt;rw [Zel,show(xs++[(x,y)]).length=xs.length+1 by simp];exact ownsRow_setCell_below hown (a:=⟨Ta,0,none⟩) (by show Ta<Ta+1; omega) v7
theorem Uv {w w':World}{o:Option Nat}(h:w.drew.grownBy w' o):w.grownBy w' o:=⟨h.os,h.tape,h.output,h.size,h.block⟩
theorem Zcj {w0 w:World}{b0 Ta:Nat}{av pv:Value}{ref:Bool}{at_ p:Int}{xs:List (Int×Int)}(h:Id w0 b0 Ta av pv ref at_ p xs w)(hT:Ta=w0.heap.size){B n size:Nat}{e:TypeId}{v:Value}{ys:List Value}(ho:w0.ownsRow B e size v n ys)(hB:b0+4≤B):w.ownsRow B e size v n ys:=by
 obtain⟨h1,h2 | ⟨g,cap,cur,e1,e2,e3,e4⟩⟩:=ho
 ·
  exact⟨h1,Or.inl h2⟩
 ·
  exact⟨h1,Or.inr ⟨g,cap,cur,e1,e2,(h.oth g (by rw [hT]; exact Zc e3) (by omega)).trans e3,e4⟩⟩
theorem RlI.next {W w0 w w7:World}{b0 Ta k:Nat}{T:Zm}{ps:List Int}{av pv v7:Value}{pvs:List Value}{ref:Bool}{at_ p:Int}{xs:List (Int×Int)}(hI:RlI W b0 T ps k av pvs w0)(hJ:Id w0 b0 Ta av pv ref at_ p xs w)(hT:Ta=w0.heap.size)(hz:b0+4≤Ta)(hsp:Gx T.ag T.br T.pairs ps T.sh k=⟨xs,ref,at_⟩)(hp:p=(Ln T.ag.length T.br T.pairs ps T.sh (k+1)).p)
 (hgr:(w.alloc (.cells #[pv,.bool ref,.int .i64 at_] 87 (0,0))).grownBy w7 av.ownBlock) (hown:w7.ownsRow (b0+4) 87 3 v7 (k+1) (Dg pvs ((List.range k).map (Gx T.ag T.br T.pairs ps T.sh))++[pv,.bool ref,.int .i64 at_])) :
 RlI W b0 T ps (k+1) v7 (pvs++[pv]) (w7.setCell ⟨b0+3,0,none⟩ v7):=by
 have ha:=Zs w (.cells #[pv,.bool ref,.int .i64 at_] 87 (0,0));have hz7:=hgr.size;have hzw:=hJ.size;have hlow:=hI.low.size;have how:w.ownsRow (b0+4) 87 3 av k (Dg pvs ((List.range k).map (Gx T.ag T.br T.pairs ps T.sh))):=Zcj hJ hT hI.own (Nat.le_refl _);have hne:∀ q,q<b0+4→some q≠av.ownBlock:=fun q hq e=>by have:=(World.ownsRow.lt how q e.symm).1; omega
 have hblk:∀ q,q<b0+4→w7.heap[q]?=w.heap[q]?:=fun q h1=>(hgr.block q (by rw [ha.2.2]; omega) (hne q h1)).trans (ha.2.1.block q (by omega));have hP':∀{v:Value} {ys:List (Int×Int)},Gt w (b0+4) v ys→Gt (w7.setCell ⟨b0+3,0,none⟩ v7) (b0+4) v ys:=fun{v ys} h=>Uu (Zix (w:=w.alloc (.cells #[pv,.bool ref,.int .i64 at_] 87 (0,0))) (World.ownsRow.alloc h _) (World.ownsRow.alloc how _) hgr) (by omega);refine⟨⟨?_,?_,?_,?_,fun q hq=>(heap_setCell_other _ _ _ _ (by show q≠b0+3; omega)).trans ((hblk q (by omega)).trans ((hJ.oth q (by omega) (by omega)).trans (hI.low.block q hq)))⟩,?_,by simp [hI.len],?_,fun j hj=>?_⟩
 ·
  exact hgr.os.trans (ha.2.1.os.trans (hJ.os.trans hI.low.os))
 ·
  exact hgr.tape.trans (ha.2.1.tape.trans (hJ.tape.trans hI.low.tape))
 ·
  exact hgr.output.trans (ha.2.1.output.trans (hJ.output.trans hI.low.output))
 ·
  have h:(w7.setCell ⟨b0+3,0,none⟩ v7).heap.size=w7.heap.size:=by simp
  omega
 ·
  rw [← hp];exact heap_setCell_same _ _ 0 _ _ _ ((hblk (b0+3) (by omega)).trans hJ.lrow)
 ·
  rw [Jd,Zbl _ _ _ _ (by simp [hI.len]),hsp];exact ownsRow_setCell_below hown (a:=⟨b0+3,0,none⟩) (by show b0+3<b0+4; omega) v7
 ·
  rw [Zbj _ _ _ _ (by rw [hI.len]; exact hj)];split
  ·
   rename_i h;rw [hI.len] at h;exact hP' (Zcj hJ hT (hI.each j h) (Nat.le_refl _))
  ·
   rename_i h;rw [hI.len] at h;obtain rfl:j=k:=by omega
   rw [hsp];exact hP' (Ic hJ.pl (by omega))
def Zxi (id:Nat)(X:Act→World→Prop):Exit→Act→World→Prop
 | .exit n,a,w=>n=id∧X a w
 | _,_,_=>False
theorem Ie {P:Program}{c:Code}{id:Nat}{Q0:Exit→Act→World→Prop}{a:Act}{w:World}(h:c.wp P (Zxi id fun a w=>Q0 (.exit id) a w) a w):c.wp P Q0 a w:=wp_mono h (fun e a w hq=>by
 cases e with
 | exit n=>obtain⟨rfl,hx⟩:=hq; exact hx
 | normal=>exact hq.elim
 | goto l=>exact hq.elim
 | ret=>exact hq.elim
 | panic c=>exact hq.elim
 | outgrown=>exact hq.elim)
def Ou:Code→List Code
 | .loop c=>.loop c :: Ou c
 | .seq a b=>Ou a++Ou b
 | .block _ c=>Ou c
 | .scope c=>Ou c
 | .cond _ a b=>Ou a++Ou b
 | _=>[]
def Cg (f:Func)(n:Nat):Code:=(((f.body.map Ou).getD [])[n]?).getD .skip
theorem Ov {w:World}{B:Nat}{v:Value}{xs:List (Int×Int)}(h:Gt w B v xs):∃ p c,v=.slice p xs.length c:=by
 rcases h.2 with⟨e,e0⟩ | ⟨g,cap,cur,e,-⟩
 ·
  exact⟨none,0,by rw [e0]; exact e⟩
 ·
  exact⟨_,_,e⟩
structure RlK (wr:World)(b0 Tb:Nat)(av rv:Value)(p:Int)(xs:List (Int×Int))(w:World):Prop where
 os:w.os=wr.os
 tape:w.tape=wr.tape
 output:w.output=wr.output
 size:Tb≤w.heap.size
 oth:∀ q,q<Tb→q≠b0+3→w.heap[q]?=wr.heap[q]?
 lrow:w.heap[b0+3]?=some (.cells #[av,rv,.int .i64 0,.int .i64 p] 76 (0,0))
 pl:Gt w Tb rv xs
theorem RlK.first {wr:World}{b0 Tb:Nat}{av:Value}{p:Int}(hT:Tb=wr.heap.size)(h:wr.heap[b0+3]?=some (.cells #[av,.slice none 0 0,.int .i64 0,.int .i64 p] 76 (0,0))):RlK wr b0 Tb av (.slice none 0 0) p [] wr :=
 ⟨rfl,rfl,rfl,Nat.le_of_eq hT,fun _ _ _=>rfl,h,World.ownsRow_nil _ _ _ _⟩
theorem RlK.next {wr w w7:World}{b0 Tb:Nat}{av rv v7:Value}{p x y:Int}{xs:List (Int×Int)}(h:RlK wr b0 Tb av rv p xs w)(hb:b0+3<Tb)(hgr:(w.alloc (.cells #[.int .i64 x,.int .i64 y] 91 (0,0))).grownBy w7 rv.ownBlock)(hown:w7.ownsRow Tb 91 2 v7 (xs.length+1) (plC xs++[.int .i64 x,.int .i64 y])) :
 RlK wr b0 Tb av v7 p (xs++[(x,y)]) (w7.setCell ⟨b0+3,1,none⟩ v7):=by
 have ha:=Zs w (.cells #[.int .i64 x,.int .i64 y] 91 (0,0));have hz7:=hgr.size;have hz:=h.size;have hne:∀ q,q<Tb→some q≠rv.ownBlock:=fun q hq e=>by have:=(World.ownsRow.lt h.pl q e.symm).1; omega
 have hblk:∀ q,q<Tb→w7.heap[q]?=w.heap[q]?:=fun q hq=>(hgr.block q (by rw [ha.2.2]; omega) (hne q hq)).trans (ha.2.1.block q (by omega));refine⟨hgr.os.trans (ha.2.1.os.trans h.os),hgr.tape.trans (ha.2.1.tape.trans h.tape),hgr.output.trans (ha.2.1.output.trans h.output),?_,fun q h1 h2=>(heap_setCell_other _ _ _ _ (by show q≠b0+3; exact h2)).trans ((hblk q h1).trans (h.oth q h1 h2)),heap_setCell_same _ _ 1 _ _ _ ((hblk (b0+3) hb).trans h.lrow),?_⟩
 ·
  have e:(w7.setCell ⟨b0+3,1,none⟩ v7).heap.size=w7.heap.size:=by simp
  omega
 ·
  unfold Gt;rw [Zel,show(xs++[(x,y)]).length=xs.length+1 by simp];exact ownsRow_setCell_below hown (a:=⟨b0+3,1,none⟩) (by show b0+3<Tb; omega) v7
theorem Zxj (ag:List Int)(u1:Nat)(c:Int)(i:Nat):Rc ag true u1 c i=(ag.getD (u1+i) 0,0):=by unfold Rc; rfl
theorem Zxk (ag:List Int)(u1:Nat)(c:Int)(i:Nat):Rc ag false u1 c i=(-1,c+8*i):=by unfold Rc; rfl
theorem Zhn {L N u1:Nat}{br zz:Int}{pr rg:Bool}{s:Xv}(hN:N=Ox br zz)(hu:u1=Oq pr N s.u)(hr:rg=Rb L N u1):(Jv L br pr zz s).u=(if rg=true then u1+N else if 1<N then L else u1)∧(Jv L br pr zz s).c=(if rg=true then s.c else s.c+8*(N:Int)):=by
 subst hN hu hr;exact⟨rfl,rfl⟩
theorem Zrg {L:Nat}{br zz:Int}{pr bref:Bool}{s:Xv}(hb:bref=decide (br<zz)):(Jv L br pr zz s).p=(if bref=true then s.p+8*zz else s.p):=by
 subst hb;unfold Jv;simp
theorem Zho {ag:List Int}{N u1:Nat}{br zz:Int}{pr rg bref:Bool}{s:Xv}(hN:N=Ox br zz)(hu:u1=Oq pr N s.u)(hr:rg=Rb ag.length N u1)(hb:bref=decide (br<zz)):Lx ag br pr zz s=⟨(List.range N).map (Rc ag rg u1 s.c),bref,if bref=true then s.p else 0⟩:=by
 subst hN hu hr hb;unfold Lx;simp
theorem Gl {α:Type}(f:Nat→α)(i:Nat):((List.range i).map f).length=i:=by simp
end Go.Proofs.YtnlcfnjeagmemaaGreatDoor
