import Derived.Test.YtnlcfnjeagmemaaGreatDoorAs
import Derived.Test.YtnlcfnjeagmemaaGreatDoorJ4
import Derived.Deep.RegionHeld3
namespace Go.Proofs.YtnlcfnjeagmemaaGreatDoor
open Go.RowKit Go.Extern.Stop Go.Stop Go.Extern
set_option maxHeartbeats 1000000
theorem Ds {w:World}{b o:Nat}{v:Value}(h:w.cell? ⟨b,o,none⟩=some v):b<w.heap.size:=by
 rcases Nat.lt_or_ge b w.heap.size with h' | h'
 ·
  exact h'
 ·
  simp [World.cell?,Array.getElem?_eq_none h'] at h
abbrev flt (e f b a:Int):Value:=.agg #[.int .i64 e,.int .i64 f,.int .i64 b,.int .i64 a]
abbrev Jk (w:World):Prop:=w.cell? ⟨0,0,none⟩=some (.iface 165 (.agg #[.pointer (some ⟨2,64,none⟩)]))
theorem Zmg (w:World):Calls Tryz.prog 18 #[.nilIface] w fun e w'=>e=.returned (flt 0 (-1) (-1) (-1))∧Below w.heap.size w w':=by
 go_enter Tryz.func18,Tryz.ntmps18
 go_wp2;go_returns;exact⟨rfl,by go_grown⟩
theorem Jk.alloc {w:World}(h:Jk w)(o:Obj):Jk (w.alloc o):=by
 show(w.alloc o).cell? _=_;rw [World.cell?_alloc_lt _ _ ⟨0,0,none⟩ (Ds h)]; exact h
theorem Jk.setCell {w:World}(h:Jk w){a:Addr}(ha:0<a.block)(v:Value):Jk (w.setCell a v) :=
 ((Below.refl (min a.block w.heap.size) w).setCell (Nat.min_le_left _ _) v).cell (p:=⟨0,0,none⟩) (by show 0<min a.block w.heap.size; have:=Ds h; omega) |>.trans h
theorem Jk.below {w w':World}{B:Nat}(h:Jk w)(hb:Below B w w')(h0:0<B):Jk w':=(hb.cell (p:=⟨0,0,none⟩) h0).trans h
theorem Jk.drew {w:World}(h:Jk w):Jk w.drew:=h
theorem Zff (n:Int)(w:World)(hg:Jk w):Calls Tryz.prog 18 #[.iface 105 (.int .i64 n)] w fun e w'=>e=.returned (flt n (-1) (-1) (-1))∧Below w.heap.size w w':=by
 have hlt:=Ds hg;have HG:Hid (Jk w):=hg;clear hg;go_enter Tryz.func18,Tryz.ntmps18
 go_wp2_with fail
 refine(Zre n _ (.int .i64 0) _ ?s1 ?s2 ?s3).mono ?_;case s1=>repeat' (first | exact HG.out | apply Jk.alloc | (apply Jk.setCell) | (simp; done) | (simp; omega))
 case s2=>rw [World.cell?_alloc_at _ _ _ _ (by simp)]; rfl
 case s3=>rw [World.frozen?_alloc_at _ _ _ _ (by simp)]
 rintro e w' ⟨rfl,rfl⟩;go_wp2_with fail
 refine(Znj n _ _ ?s1).mono ?_;case s1=>repeat' (first | exact HG.out | apply Jk.alloc | (apply Jk.setCell) | (simp; done) | (simp; omega))
 rintro e w' ⟨rfl,rfl⟩;go_wp2_with fail
 go_returns;refine⟨rfl,?_⟩;go_grown
theorem Ru {w:World}{T:Nat}{t:TypeId}{cs:Array Value}(h:w.heap[T]?=some (.cells cs t (0,0))):(∀ j,w.cell? ⟨T,j,none⟩=cs[j]?)∧∀ j,w.frozen? ⟨T,j,none⟩=false :=
 ⟨fun j=>by simp [World.cell?,h],fun j=>by simp [World.frozen?,h]⟩
end Go.Proofs.YtnlcfnjeagmemaaGreatDoor
namespace Go.Proofs.YtnlcfnjeagmemaaGreatDoor
open Go.RowKit
set_option maxHeartbeats 2000000
def Kr (r al sh by_:Int):Bool:=decide (4≤r∧r≤16∧(al=8∨al=16∨al=32)∧0≤sh∧sh≤32∧sh % 8=0∧0≤by_∧by_≤4)
theorem Zcz (r sp lk t0 t1:Int)(va vr vs:Value)(al sh by_:Int)(pr:Bool)(w:World):Calls Tryz.prog 69 #[.agg (Jl r sp lk t0 t1 va vr vs al sh by_ pr)] w fun e w'=>e=.returned (.bool (Kr r al sh by_))∧Below w.heap.size w w':=by
 unfold Jl;have no:∀ p:Prop,¬ (4≤r∧r≤16∧(al=8∨al=16∨al=32)∧0≤sh∧sh≤32∧sh % 8=0∧0≤by_∧by_≤4)→Kr r al sh by_=false:=fun _ h=>decide_eq_false h;have NO:=Zj no;clear no;by_cases h1:4≤r
 ·
  by_cases h2:r≤16
  ·
   by_cases h3:al=8∨al=16∨al=32
   ·
    by_cases h4:0≤sh
    ·
     by_cases h5:sh≤32
     ·
      by_cases h6:sh % 8=0
      ·
       have z6:(sh % 8==0)=true:=by simp [h6]
       by_cases h7:0≤by_
       ·
        by_cases h8:by_≤4
        ·
         have hy:Kr r al sh by_=true:=decide_eq_true ⟨h1,h2,h3,h4,h5,h6,h7,h8⟩;rw [hy];clear hy h6;rcases h3 with rfl | rfl | rfl;all_goals
          go_enter Tryz.func69,Tryz.ntmps69
          go_wp2;go_ret;exact⟨rfl,by go_grown⟩
        ·
         rw [Za NO True (by omega)];clear h6;rcases h3 with rfl | rfl | rfl;all_goals
          go_enter Tryz.func69,Tryz.ntmps69
          go_wp2;go_ret;exact⟨rfl,by go_grown⟩
       ·
        rw [Za NO True (by omega)];clear h6;rcases h3 with rfl | rfl | rfl;all_goals
         go_enter Tryz.func69,Tryz.ntmps69
         go_wp2;go_ret;exact⟨rfl,by go_grown⟩
      ·
       have z6:(sh % 8==0)=false:=by simp [h6]
       rw [Za NO True (by omega)];clear h6;rcases h3 with rfl | rfl | rfl;all_goals
        go_enter Tryz.func69,Tryz.ntmps69
        go_wp2;go_ret;exact⟨rfl,by go_grown⟩
     ·
      rw [Za NO True (by omega)];rcases h3 with rfl | rfl | rfl;all_goals
       go_enter Tryz.func69,Tryz.ntmps69
       go_wp2;go_ret;exact⟨rfl,by go_grown⟩
    ·
     rw [Za NO True (by omega)];rcases h3 with rfl | rfl | rfl;all_goals
      go_enter Tryz.func69,Tryz.ntmps69
      go_wp2;go_ret;exact⟨rfl,by go_grown⟩
   ·
    rw [Za NO True (by omega)];have z1:(al==8)=false:=by simp; omega
    have z2:(al==16)=false:=by simp; omega
    have z3:(al==32)=false:=by simp; omega
    clear h3;go_enter Tryz.func69,Tryz.ntmps69
    go_wp2;go_ret;exact⟨rfl,by go_grown⟩
  ·
   rw [Za NO True (by omega)];go_enter Tryz.func69,Tryz.ntmps69
   go_wp2;go_ret;exact⟨rfl,by go_grown⟩
 ·
  rw [Za NO True (by omega)];go_enter Tryz.func69,Tryz.ntmps69
  go_wp2;go_ret;exact⟨rfl,by go_grown⟩
theorem Rs.shape {w:World}{v:Value}{ns:List Int}(h:Rs w v ns):∃ p cap,v=.slice p ns.length cap:=by
 rcases h with⟨rfl,p,cap,e⟩ | ⟨sb,so,cap,e,_⟩
 ·
  exact⟨p,cap,e⟩
 ·
  exact⟨_,_,e⟩
def Dl (ag rs ss:List Int):Bool:=decide (ag.length≤8∧rs.length≤4∧ss.length≤12)
theorem Zia (r sp lk t0 t1:Int)(va vr vs:Value)(al sh by_:Int)(pr:Bool)(ag rs ss:List Int)(w:World)(ha:∃ p cap,va=.slice p ag.length cap)(hr:∃ p cap,vr=.slice p rs.length cap)(hs:∃ p cap,vs=.slice p ss.length cap):Calls Tryz.prog 70 #[.agg (Jl r sp lk t0 t1 va vr vs al sh by_ pr)] w fun e w'=>e=.returned (.bool (Dl ag rs ss))∧Below w.heap.size w w':=by
 unfold Jl;obtain⟨pa,ca,rfl⟩:=ha;obtain⟨pr',cr,rfl⟩:=hr;obtain⟨ps,cs,rfl⟩:=hs;unfold Dl;generalize ag.length=na;generalize rs.length=nr;generalize ss.length=ns;by_cases h1:na≤8
 ·
  by_cases h2:nr≤4
  ·
   by_cases h3:ns≤12
   ·
    rw [decide_eq_true ⟨h1,h2,h3⟩];go_enter Tryz.func70,Tryz.ntmps70
    go_wp2;go_ret;exact⟨by show Ending.returned (.bool (decide ((ns:Int)≤12)))=_; rw [decide_eq_true (by omega)],by go_grown⟩
   ·
    rw [decide_eq_false (fun h=>h3 h.2.2)];go_enter Tryz.func70,Tryz.ntmps70
    go_wp2;go_ret;exact⟨by show Ending.returned (.bool (decide ((ns:Int)≤12)))=_; rw [decide_eq_false (by omega)],by go_grown⟩
  ·
   rw [decide_eq_false (fun h=>h2 h.2.1)];go_enter Tryz.func70,Tryz.ntmps70
   go_wp2;go_ret;exact⟨rfl,by go_grown⟩
 ·
  rw [decide_eq_false (fun h=>h1 h.1)];go_enter Tryz.func70,Tryz.ntmps70
  go_wp2;go_ret;exact⟨rfl,by go_grown⟩
set_option maxHeartbeats 2000000
set_option maxRecDepth 100000
def Yt (sp lk t0 t1:Int):List Int:=if lk=-1 then [sp,t0,t1] else [sp,t0,t1,lk]
theorem Zfk (sp lk t0 t1:Int):(Yt sp lk t0 t1).length≤4:=by unfold Yt; split <;> simp
theorem Uy {w:World}{base:Nat}{v:Value}{ns:List Int}(h:w.ownsRow base 3 1 v ns.length (Sz ns)):Rs w v ns:=by
 rcases h.2 with⟨e,e0⟩ | ⟨g,cap,cur,e,-⟩
 ·
  exact Or.inl ⟨List.eq_nil_of_length_eq_zero e0,none,0,by rw [e]⟩
 ·
  refine Or.inr ⟨g,0,cap,e,fun i hi=>?_⟩;subst e;have:=h.cellAt i (by omega);simp only [Nat.zero_add] at this ⊢;rw [this];simp [Sz,hi]
theorem Dt {w:World}{base n:Nat}{v:Value}{xs:List Value}(h:w.ownsRow base 3 1 v n xs):∀ a n cap,v=.slice a n cap→n≤cap:=by
 intro a m cap e;rcases h.2 with⟨e1,e0⟩ | ⟨g,cap',cur,e1,_,_,hc,_⟩
 ·
  rw [e1] at e; injection e with _ h2 h3; omega
 ·
  rw [e1] at e; injection e with _ h2 h3; omega
theorem Zhz (r sp lk t0 t1:Int)(va vr vs:Value)(al sh by_:Int)(pr:Bool)(w:World):Calls Tryz.prog 87 #[.agg (Jl r sp lk t0 t1 va vr vs al sh by_ pr)] w fun e w'=>∃ v,e=.returned v∧Rs w' v (Yt sp lk t0 t1)∧(∀ a n cap,v=.slice a n cap→n≤cap)∧Below w.heap.size w w':=by
 obtain⟨ti,hti,hz0,hz1,hz2⟩:=Kq Tryz.infoI;unfold Jl;have HOW:=Zj (fun X:Obj=>show((w.alloc X).alloc (.cells #[.int .i64 sp,.int .i64 t0,.int .i64 t1] 3)).ownsRow w.heap.size 3 1 (.slice (some ⟨w.heap.size+1,0,none⟩) 3 3) ([sp,t0,t1]:List Int).length (Sz [sp,t0,t1]) from
  ⟨rfl,Or.inr ⟨w.heap.size+1,3,#[.int .i64 sp,.int .i64 t0,.int .i64 t1],rfl,by omega,by have:=heap_alloc_new (w.alloc X) (.cells #[.int .i64 sp,.int .i64 t0,.int .i64 t1] 3); simpa using this,by simp,by unfold maxLen; omega,rfl,rfl⟩⟩)
 by_cases hk:lk=-1
 ·
  have hO:Yt sp lk t0 t1=[sp,t0,t1]:=by unfold Yt; rw [if_pos hk]
  rw [hO];clear hO;subst hk;go_enter Tryz.func87,Tryz.ntmps87
  go_wp2;go_ret;exact⟨_,rfl,Uy (Za HOW _),Dt (Za HOW (.cells #[] 3)),by go_grown⟩
 ·
  have hO:Yt sp lk t0 t1=[sp,t0,t1]++[lk]:=by unfold Yt; rw [if_neg hk]; rfl
  rw [hO];clear hO;have zk:(lk==-1)=false:=by simpa using hk
  go_enter Tryz.func87,Tryz.ntmps87
  go_wp2_with (at_builtin; refine wpList_append_own _ rfl _ _ 23 rfl w.heap.size 3 ti _ 1 8 Tryz.underlying23 hti hz0 hz1 hz2 rfl (by decide) _ _ _ rfl ((Za HOW _).alloc _) ⟨w.heap.size+2,0,none⟩ 1 1 [.int .i64 lk] rfl rfl (by intro j u hj; match j,hj with | 0,hj=>(simp at hj; subst hj; exact(World.cell?_alloc_at _ _ _ _ (by simp)).trans rfl)) (by intro u hu; simp at hu; subst hu; rfl) ?c3 ?c4 ?c5 ?_)
  case c3=>unfold maxLen; simp
  case c4=>simp
  case c5=>simp; omega
  intro v' w7 hown hgr _;have HOWN:=Zj hown;have HB:=Zj (show Below w.heap.size w w7 from((((Below.refl w.heap.size w).alloc (Nat.le_refl _) _).alloc (by simp) _).alloc (by simp; omega) _).trans ⟨hgr.os,hgr.tape,hgr.output,hgr.size,fun q hq=>hgr.block q (by simp; omega) (fun e=>by simp [Value.ownBlock] at e; omega)⟩);clear hown hgr;go_wp2;go_ret;have h1:w7.ownsRow w.heap.size 3 1 v' ([sp,t0,t1]++[lk]:List Int).length (Sz ([sp,t0,t1]++[lk])):=Za HOWN;exact⟨_,rfl,Uy h1,Dt h1,Za HB⟩
set_option maxHeartbeats 4000000
set_option maxRecDepth 100000
def Xf (r sp lk t0 t1:Int)(ag rs ss:List Int):Bool:=Jy (Yt sp lk t0 t1) r&&(Jy ag r&&!Xe ag (Yt sp lk t0 t1))&&(Jy rs r&&!Xe rs (Yt sp lk t0 t1))&&(Jy ss r&&!Xe ss (Yt sp lk t0 t1))&&!Xe ss ag&&!Xe ss rs
theorem Zac (r sp lk t0 t1:Int)(va vr vs:Value)(al sh by_:Int)(pr:Bool)(ag rs ss:List Int)(w:World)(ha:Rs w va ag)(hr:Rs w vr rs)(hs:Rs w vs ss)(ca:∀ a n cap,va=.slice a n cap→n≤cap)(cr:∀ a n cap,vr=.slice a n cap→n≤cap)(cs:∀ a n cap,vs=.slice a n cap→n≤cap)(la:ag.length≤8)(lr:rs.length≤4)(ls:ss.length≤12):Calls Tryz.prog 71 #[.agg (Jl r sp lk t0 t1 va vr vs al sh by_ pr)] w fun e w'=>e=.returned (.bool (Xf r sp lk t0 t1 ag rs ss))∧Below w.heap.size w w':=by
 obtain⟨pa,xa,rfl⟩:=ha.shape;obtain⟨pq,xr,rfl⟩:=hr.shape;obtain⟨ps,xs,rfl⟩:=hs.shape;have HA0:=Zj ha;have HR0:=Zj hr;have HS0:=Zj hs;have HAC:=Zj ca;have HRC:=Zj cr;have HSC:=Zj cs;clear ha hr hs ca cr cs;unfold Jl;go_enter Tryz.func71,Tryz.ntmps71
 go_wp2_with fail
 refine(Zhz r sp lk t0 t1 _ _ _ al sh by_ pr _).mono ?_;rintro e w1 ⟨vo,rfl,hRo,hco,hb1⟩;have hz1:=hb1.size;simp only [World.size_alloc] at hz1;have q0:=(Ru ((hb1.block w.heap.size (by simp)).trans (heap_alloc_new w _))).1;have HB:=Zj (((Below.refl w.heap.size w).alloc (Nat.le_refl _) _).trans (hb1.mono (by simp)));have HO:=Zj (fun X:Obj=>hRo.below ((Below.refl w1.heap.size w1).alloc (Nat.le_refl _) X));have HA:=Zj (fun X:Obj=>((Za HA0).below (Za HB)).below ((Below.refl w1.heap.size w1).alloc (Nat.le_refl _) X));have HR:=Zj (fun X:Obj=>((Za HR0).below (Za HB)).below ((Below.refl w1.heap.size w1).alloc (Nat.le_refl _) X));have HS:=Zj (fun X:Obj=>((Za HS0).below (Za HB)).below ((Below.refl w1.heap.size w1).alloc (Nat.le_refl _) X));have hol:=Zfk sp lk t0 t1;have c0:=q0 0;have c5:=q0 5;have c6:=q0 6;have c7:=q0 7;simp at c0 c5 c6 c7;have d0:=fun X:Obj=>(World.cell?_alloc_lt w1 X ⟨w.heap.size,0,none⟩ (show w.heap.size<w1.heap.size by omega)).trans c0;have d5:=fun X:Obj=>(World.cell?_alloc_lt w1 X ⟨w.heap.size,5,none⟩ (show w.heap.size<w1.heap.size by omega)).trans c5;have d6:=fun X:Obj=>(World.cell?_alloc_lt w1 X ⟨w.heap.size,6,none⟩ (show w.heap.size<w1.heap.size by omega)).trans c6;have d7:=fun X:Obj=>(World.cell?_alloc_lt w1 X ⟨w.heap.size,7,none⟩ (show w.heap.size<w1.heap.size by omega)).trans c7;have HRO:=Zj hRo;have HCO:=Zj hco;clear hb1 q0 hRo hco HA0 HR0 HS0;go_wp2_with fail
 refine(Gz (Yt sp lk t0 t1) r vo w1 (Za HRO) (by omega) (Za HCO)).mono ?_;rintro e w2 ⟨rfl,h2⟩;subst w2;cases y0:Jy (Yt sp lk t0 t1) r with
 | false =>
  have HY:=Zj y0;clear y0;go_wp2;go_ret;exact⟨by simp [Xf,Za HY],Za HB⟩
 | true =>
  have HY0:=Zj y0;clear y0;go_wp2_with fail
  refine wp_loop_rounds 4 ?_;rw [rounds_succ];go_wp2_with fail
  refine(Gz ag r _ _ (Za HA _) (by omega) (Za HAC)).mono ?_;rintro e w2 ⟨rfl,h2⟩;subst w2;cases y1:Jy ag r with
  | false =>
   have HY:=Zj y1;clear y1;go_wp2;go_ret;exact⟨by simp [Xf,Za HY],(Za HB).alloc (by omega) _⟩
  | true =>
   have HY1:=Zj y1;clear y1;go_wp2_with fail
   refine(Zaa ag (Yt sp lk t0 t1) _ vo _ (Za HA _) (Za HO _) (by omega) (by omega)).mono ?_;rintro e w2 ⟨rfl,h2⟩;subst w2;cases z1:Xe ag (Yt sp lk t0 t1) with
   | true =>
    have HY:=Zj z1;clear z1;go_wp2;go_ret;exact⟨by simp [Xf,Za HY],(Za HB).alloc (by omega) _⟩
   | false =>
    have HZ1:=Zj z1;clear z1;go_wp2_with fail
    rw [rounds_succ];go_wp2_with fail
    refine(Gz rs r _ _ (Za HR _) (by omega) (Za HRC)).mono ?_;rintro e w2 ⟨rfl,h2⟩;subst w2;cases y2:Jy rs r with
    | false =>
     have HY:=Zj y2;clear y2;go_wp2;go_ret;exact⟨by simp [Xf,Za HY],(Za HB).alloc (by omega) _⟩
    | true =>
     have HY2:=Zj y2;clear y2;go_wp2_with fail
     refine(Zaa rs (Yt sp lk t0 t1) _ vo _ (Za HR _) (Za HO _) (by omega) (by omega)).mono ?_;rintro e w2 ⟨rfl,h2⟩;subst w2;cases z2:Xe rs (Yt sp lk t0 t1) with
     | true =>
      have HY:=Zj z2;clear z2;go_wp2;go_ret;exact⟨by simp [Xf,Za HY],(Za HB).alloc (by omega) _⟩
     | false =>
      have HZ2:=Zj z2;clear z2;go_wp2_with fail
      rw [rounds_succ];go_wp2_with fail
      refine(Gz ss r _ _ (Za HS _) (by omega) (Za HSC)).mono ?_;rintro e w2 ⟨rfl,h2⟩;subst w2;cases y3:Jy ss r with
      | false =>
       have HY:=Zj y3;clear y3;go_wp2;go_ret;exact⟨by simp [Xf,Za HY],(Za HB).alloc (by omega) _⟩
      | true =>
       have HY3:=Zj y3;clear y3;go_wp2_with fail
       refine(Zaa ss (Yt sp lk t0 t1) _ vo _ (Za HS _) (Za HO _) (by omega) (by omega)).mono ?_;rintro e w2 ⟨rfl,h2⟩;subst w2;cases z3:Xe ss (Yt sp lk t0 t1) with
       | true =>
        have HY:=Zj z3;clear z3;go_wp2;go_ret;exact⟨by simp [Xf,Za HY],(Za HB).alloc (by omega) _⟩
       | false =>
        have HZ3:=Zj z3;clear z3;go_wp2_with fail
        rw [rounds_succ];go_wp2_with fail
        refine(Zaa ss ag _ _ _ (Za HS _) (Za HA _) (by omega) (by omega)).mono ?_;rintro e w2 ⟨rfl,h2⟩;subst w2;cases x1:Xe ss ag with
        | true =>
         have HY:=Zj x1;clear x1;go_wp2;go_ret;exact⟨by simp [Xf,Za HY],(Za HB).alloc (by omega) _⟩
        | false =>
         have HX1:=Zj x1;clear x1;go_wp2_with fail
         refine(Zaa ss rs _ _ _ (Za HS _) (Za HR _) (by omega) (by omega)).mono ?_;rintro e w2 ⟨rfl,h2⟩;subst w2;cases x2:Xe ss rs with
         | true =>
          have HY:=Zj x2;clear x2;go_wp2;go_ret;exact⟨by simp [Xf,Za HY,Za HX1,Za HZ1,Za HZ2,Za HZ3,Za HY1,Za HY2,Za HY3,Za HY0],(Za HB).alloc (by omega) _⟩
         | false =>
          have HY:=Zj x2;clear x2;go_wp2;go_ret;exact⟨by simp [Xf,Za HY,Za HX1,Za HZ1,Za HZ2,Za HZ3,Za HY1,Za HY2,Za HY3,Za HY0],(Za HB).alloc (by omega) _⟩
def Zvu (b:Bool):Value:=match b with
 | true=>.nilIface
 | false=>.iface 105 (.int .i64 2)
def Ls (r sp lk t0 t1:Int)(ag rs ss:List Int)(al sh by_:Int):Bool:=Kr r al sh by_&&Dl ag rs ss&&Xf r sp lk t0 t1 ag rs ss
theorem Zsd (r sp lk t0 t1:Int)(va vr vs:Value)(al sh by_:Int)(pr:Bool)(ag rs ss:List Int)(w:World)(ha:Rs w va ag)(hr:Rs w vr rs)(hs:Rs w vs ss)(ca:∀ a n cap,va=.slice a n cap→n≤cap)(cr:∀ a n cap,vr=.slice a n cap→n≤cap)(cs:∀ a n cap,vs=.slice a n cap→n≤cap):Calls Tryz.prog 53 #[.agg (Jl r sp lk t0 t1 va vr vs al sh by_ pr)] w fun e w'=>e=.returned (Zvu (Ls r sp lk t0 t1 ag rs ss al sh by_))∧Below w.heap.size w w':=by
 have HA0:=Zj ha;have HR0:=Zj hr;have HS0:=Zj hs;have HAC:=Zj ca;have HRC:=Zj cr;have HSC:=Zj cs;have SA:=Zj ha.shape;have SR:=Zj hr.shape;have SS:=Zj hs.shape;clear ha hr hs ca cr cs;have HB0:=Zj (fun X:Obj=>(Below.refl w.heap.size w).alloc (Nat.le_refl _) X);have HD:=Zj (fun(u:World) (X:Obj) (cs:Array Value) (h:Below (w.alloc X).heap.size (w.alloc X) u) (hX:X=.cells cs 25 (0,0))=>(h.block w.heap.size (by simp)).trans ((heap_alloc_new w X).trans (congrArg some hX)));unfold Jl;go_enter Tryz.func53,Tryz.ntmps53
 go_wp2_with fail
 refine(Zcz r sp lk t0 t1 va vr vs al sh by_ pr _).mono ?_;rintro e w1 ⟨rfl,hb1⟩;have q1:=Ru (Za HD _ _ _ hb1 rfl);have HB1:=Zj hb1;have hz1:=hb1.size;simp only [World.size_alloc] at hz1;have b1:=Za HD _ _ _ hb1 rfl;clear hb1;cases y1:Kr r al sh by_ with
 | false =>
  have HY:=Zj y1;clear y1 q1 b1;go_wp2;go_ret;exact⟨by rw [show Ls r sp lk t0 t1 ag rs ss al sh by_=false by simp [Ls,Za HY]]; rfl,(Za HB0 _).trans ((Za HB1).mono (by simp))⟩
 | true =>
  have HY1:=Zj y1;clear y1;have k1:=q1.1;clear q1;go_wp2_with fail
  refine(Zia r sp lk t0 t1 va vr vs al sh by_ pr ag rs ss _ (Za SA) (Za SR) (Za SS)).mono ?_;rintro e w2 ⟨rfl,hb2⟩;have hb2':=(Za HB1).trans (hb2.mono (by simp; omega));have HB2:=Zj hb2';have hz2:=hb2.size;have k2:=(Ru (Za HD _ _ _ hb2' rfl)).1;clear hb2 hb2' k1 b1;cases y2:Dl ag rs ss with
  | false =>
   have HY:=Zj y2;clear y2 k2;go_wp2;go_ret;exact⟨by rw [show Ls r sp lk t0 t1 ag rs ss al sh by_=false by simp [Ls,Za HY]]; rfl,(Za HB0 _).trans ((Za HB2).mono (by simp))⟩
  | true =>
   have hl:ag.length≤8∧rs.length≤4∧ss.length≤12:=of_decide_eq_true y2;have HY2:=Zj y2;have HL:=Zj hl;have HB3:=Zj ((Za HB0 _).trans ((Za HB2).mono (by simp)));clear y2 hl;go_wp2_with fail
   refine(Zac r sp lk t0 t1 va vr vs al sh by_ pr ag rs ss _ ((Za HA0).below (Za HB3)) ((Za HR0).below (Za HB3)) ((Za HS0).below (Za HB3)) (Za HAC) (Za HRC) (Za HSC) (Za HL).1 (Za HL).2.1 (Za HL).2.2).mono ?_;rintro e w3 ⟨rfl,hb3⟩;have HB4:=Zj ((Za HB3).trans (hb3.mono (by omega)));clear hb3 k2;cases y3:Xf r sp lk t0 t1 ag rs ss with
   | false =>
    have HY:=Zj y3;clear y3;go_wp2;go_ret;exact⟨by rw [show Ls r sp lk t0 t1 ag rs ss al sh by_=false by simp [Ls,Za HY]]; rfl,Za HB4⟩
   | true =>
    have HY:=Zj y3;clear y3;go_wp2;go_ret;exact⟨by rw [show Ls r sp lk t0 t1 ag rs ss al sh by_=true by simp [Ls,Za HY,Za HY1,Za HY2]]; rfl,Za HB4⟩
theorem Zcf {w:World}{T:Nat}{cs:Array Value}{t:TypeId}{fr:Nat×Nat}(h:w.heap[T]?=some (.cells cs t fr))(j:Nat)(X:Obj):(w.alloc X).cell? ⟨T,j,none⟩=cs[j]?:=by
 have hlt:T<w.heap.size:=by
  rcases Nat.lt_or_ge T w.heap.size with y | y
  ·
   exact y
  ·
   simp [Array.getElem?_eq_none y] at h
 exact(World.cell?_of_block (a:=⟨T,j,none⟩) ((Zs w X).2.1.block T hlt)).trans (Zd h j)
theorem Li.rs {w:World}{v:Value}{ns:List Int}(h:Li w v ns):Rs w v ns:=by
 obtain⟨p,cap,h1,h2,h3,h4⟩:=h;rcases Nat.eq_zero_or_pos ns.length with h0 | h0
 ·
  exact Or.inl ⟨List.eq_nil_of_length_eq_zero h0,p,cap,by rw [h1,h0]⟩
 ·
  obtain⟨sb,so,e,hc⟩:=h4 h0;exact Or.inr ⟨sb,so,cap,by rw [h1,e],hc⟩
theorem Xu {P:Program}{fn:Func}{q:Tmp}{uy:TypeId}(h:fn.results=#[.cell q uy])(tmps:Array Value)(w:World)(g':Nat)(t':TypeId)(cs':Array Value)(fr':Nat×Nat)(d':TypeDesc)
 (hp':tmps.getD q undef=.pointer (some ⟨g',0,none⟩)) (hg':w.heap[g']?=some (.cells cs' t' fr')) (hu':P.underlying uy=some d') (hd':(match d' with | .struct _ | .array _ _=>true | _=>false)=true) (hi':(P.info? uy).map (·.size)=some cs'.size) :
 (results fn tmps).run P w=.ok (.agg cs') w:=by
 have e2:tmps[q]?.getD undef=.pointer (some ⟨g',0,none⟩):=by simpa using hp'
 simp [results,h,e2,asAddr,run_loadVar_row w g' t' uy cs' fr' d' hg' hu' hd' hi']
theorem Yr {P:Program}{t:TypeId}{z:Value}{n b:Nat}(h:(P.info? t).map (fun i=>(i.zero,i.size,i.bytes))=some (some z,n,b)):∃ i,P.info? t=some i∧i.zero=some z∧i.size=n∧i.bytes=b:=by
 cases hi:P.info? t with
 | none=>simp [hi] at h
 | some i=>simp [hi] at h; exact⟨i,rfl,h.1,h.2.1,h.2.2⟩
theorem Zp {a w:World}{n T:Nat}{cs:Array Value}(h:Below n a w)(hT:n≤T):Below n a (w.setRow T cs):=⟨h.os,h.tape,h.output,by have:=h.size; simpa [World.setRow] using this,fun k hk=>(setRow_other w T k cs (by omega)).trans (h.block k hk)⟩
theorem IntKind.wrap_of_boundsK {n:Int}(h0:-9223372036854775808≤n)(h1:n<9223372036854775808):IntKind.i64.wrap n=n:=by
 rw [IntKind.wrap_i64];omega
theorem Li.one (w:World)(n:Int):Li (w.alloc (.cells #[.int .i64 n] 3 (0,0))) (.slice (some ⟨w.heap.size,0,none⟩) 1 1) [n]:=Li.new (ns:=[n]) (heap_alloc_new w _) (by show 1<Zeo; decide)
end Go.Proofs.YtnlcfnjeagmemaaGreatDoor
