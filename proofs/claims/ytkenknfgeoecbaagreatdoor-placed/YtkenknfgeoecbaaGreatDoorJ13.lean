import Derived.Test.YtkenknfgeoecbaaGreatDoorAs
import Derived.Test.YtkenknfgeoecbaaGreatDoorJ9
import Derived.Test.YtkenknfgeoecbaaGreatDoorJ19
import Derived.Deep.Slices
import Derived.LaidSub
import Derived.Lib.LaidU8
import Derived.Lay
import Derived.Test.YtkenknfgeoecbaaGreatDoorCards
import Derived.SevenTiedAt
namespace Go.Proofs.YtkenknfgeoecbaaGreatDoor
open Go.RowKit Go.Extern.Stop Go.Stop Go.Extern
set_option maxHeartbeats 1000000
theorem Xg {w:World}{b o:Nat}{v:Value}(h:w.cell? ⟨b,o,none⟩=some v):b<w.heap.size:=by
 rcases Nat.lt_or_ge b w.heap.size with h' | h'
 ·exact h'
 ·simp [World.cell?,Array.getElem?_eq_none h'] at h
abbrev Dw (e f b a:Int):Value:=.agg #[.int .i64 e,.int .i64 f,.int .i64 b,.int .i64 a]
abbrev Ya (w:World):Prop:=w.cell? ⟨0,0,none⟩=some (.iface 215 (.agg #[.pointer (some ⟨9,93,none⟩)]))
theorem Lu (w:World):Calls Tryz.prog 26 #[.nilIface] w fun e w'=>e=.returned (Dw 0 (-1) (-1) (-1))∧Below w.heap.size w w':=by
 go_enter Tryz.func26,Tryz.ntmps26
 go_wp2;go_returns;exact⟨rfl,by go_grown⟩
theorem Ya.alloc {w:World}(h:Ya w)(o:Obj):Ya (w.alloc o):=by show(w.alloc o).cell? _=_;rw [World.cell?_alloc_lt _ _ ⟨0,0,none⟩ (Xg h)]; exact h
theorem Ya.setCell {w:World}(h:Ya w){a:Addr}(ha:0<a.block)(v:Value):Ya (w.setCell a v) :=
 ((Below.refl (min a.block w.heap.size) w).setCell (Nat.min_le_left _ _) v).cell (p:=⟨0,0,none⟩) (by show 0<min a.block w.heap.size; have:=Xg h; omega) |>.trans h
theorem Ya.below {w w':World}{B:Nat}(h:Ya w)(hb:Below B w w')(h0:0<B):Ya w':=(hb.cell (p:=⟨0,0,none⟩) h0).trans h
theorem Ya.drew {w:World}(h:Ya w):Ya w.drew:=h
theorem Lv (n:Int)(w:World)(hg:Ya w):Calls Tryz.prog 26 #[.iface 127 (.int .i64 n)] w fun e w'=>e=.returned (Dw n (-1) (-1) (-1))∧Below w.heap.size w w':=by
 have hlt:=Xg hg;have HG:Hid (Ya w):=hg;clear hg;go_enter Tryz.func26,Tryz.ntmps26
 go_wp2_with fail
 refine(Zxp n _ (.int .i64 0) _ ?s1 ?s2 ?s3).mono ?_;case s1=>repeat' (first | exact HG.out | apply Ya.alloc | (apply Ya.setCell) | (simp; done) | (simp; omega))
 case s2=>rw [World.cell?_alloc_at _ _ _ _ (by simp)]; rfl
 case s3=>rw [World.frozen?_alloc_at _ _ _ _ (by simp)]
 rintro e w' ⟨rfl,rfl⟩;go_wp2_with fail
 refine(Ztc n _ _ ?s1).mono ?_;case s1=>repeat' (first | exact HG.out | apply Ya.alloc | (apply Ya.setCell) | (simp; done) | (simp; omega))
 rintro e w' ⟨rfl,rfl⟩;go_wp2_with fail
 go_returns;refine⟨rfl,?_⟩;go_grown
set_option maxHeartbeats 4000000
theorem Zcp {p:Prop}(h:p):Hid p:=h
theorem Dx {p:Prop}(h:Hid p):p:=h
structure Gp (w:World)(q:Nat)(n f b a:Int):Prop where
 c0:w.cell? ⟨q,0,none⟩=some (.iface 127 (.int .i64 n))
 c1:w.cell? ⟨q,1,none⟩=some (.int .i64 f)
 c2:w.cell? ⟨q,2,none⟩=some (.int .i64 b)
 c3:w.cell? ⟨q,3,none⟩=some (.int .i64 a)
theorem Gp.below {w w':World}{q:Nat}{n f b a:Int}(h:Gp w q n f b a)(hb:Below w.heap.size w w'):Gp w' q n f b a :=
 have hq:=Xg h.c0;⟨(hb.cell (p:=⟨q,0,none⟩) hq).trans h.c0,(hb.cell (p:=⟨q,1,none⟩) hq).trans h.c1,(hb.cell (p:=⟨q,2,none⟩) hq).trans h.c2,(hb.cell (p:=⟨q,3,none⟩) hq).trans h.c3⟩
theorem Gp.alloc {w:World}{q:Nat}{n f b a:Int}(h:Gp w q n f b a)(o:Obj):Gp (w.alloc o) q n f b a:=h.below (((Below.refl _ _).alloc (Nat.le_refl _) _))
theorem Gp.setCell {w:World}{q:Nat}{n f b a:Int}(h:Gp w q n f b a){c:Addr}(hc:c.block≠q)(v:Value):Gp (w.setCell c v) q n f b a:=by have e:∀ o,(w.setCell c v).cell? ⟨q,o,none⟩=w.cell? ⟨q,o,none⟩:=fun o=>World.cell?_of_block (Below.heap_setCell w c v q (fun e=>hc e.symm));exact⟨(e _).trans h.c0,(e _).trans h.c1,(e _).trans h.c2,(e _).trans h.c3⟩
structure Ky (w w':World)(t:Addr)(v:Value):Prop where
 same:∀ x,x<w.heap.size→x≠t.block→w'.heap[x]?=w.heap[x]?
 cell:w'.cell? t=some v
 froz:w'.frozen? t=w.frozen? t
 size:w'.heap.size=w.heap.size+4
 os:w'.os=w.os
 tape:w'.tape=w.tape
 output:w'.output=w.output
theorem Zug (w:World)(a b c d:Obj)(t:Addr)(old v:Value)(h:w.cell? t=some old):Ky w ((((w.alloc a).alloc b).alloc c).alloc d |>.setCell t v) t v:=by have ht:t.block<w.heap.size:=World.block_lt_of_cell? w _ h;have hb:Below w.heap.size w ((((w.alloc a).alloc b).alloc c).alloc d):=((((Below.refl _ _).alloc (Nat.le_refl _) _).alloc (by simp) _).alloc (by simp; try omega) _).alloc (by simp; try omega) _;refine⟨fun x hx hne=>(Below.heap_setCell _ _ _ _ hne).trans (hb.block x hx),World.cell?_setCell_same _ _ _ ((hb.cell (p:=t) ht).trans h),?_,by simp,rfl,rfl,rfl⟩;rw [World.frozen?_setCell];exact hb.frozen (p:=t) ht
theorem Gl (w:World)(o:Obj)(x:Nat)(h:x<w.heap.size):(w.alloc o).heap[x]?=w.heap[x]?:=((Below.refl w.heap.size w).alloc (Nat.le_refl _) o).block x h
theorem Yk {w:World}{T:Nat}{t:TypeId}{cs:Array Value}(h:w.heap[T]?=some (.cells cs t (0,0))):(∀ j,w.cell? ⟨T,j,none⟩=cs[j]?)∧∀ j,w.frozen? ⟨T,j,none⟩=false :=
 ⟨fun j=>by simp [World.cell?,h],fun j=>by simp [World.frozen?,h]⟩
theorem Ky.low {w w':World}{t:Addr}{v:Value}(h:Ky w w' t v){B:Nat}(hB:B≤t.block)(hs:B≤w.heap.size):Below B w w':=⟨h.os,h.tape,h.output,by have:=h.size; omega,fun x hx=>h.same x (by omega) (by omega)⟩
theorem Ky.bad {w w':World}{t:Addr}{v:Value}(h:Ky w w' t v){q:Nat}{n f b a:Int}(hq:q≠t.block)(hb:Gp w q n f b a):Gp w' q n f b a :=
 have e:=h.same q (Xg hb.c0) hq;⟨(World.cell?_of_block e).trans hb.c0,(World.cell?_of_block e).trans hb.c1,(World.cell?_of_block e).trans hb.c2,(World.cell?_of_block e).trans hb.c3⟩
theorem Ky.err {w w':World}{t:Addr}{v:Value}(h:Ky w w' t v)(ht:t.block≠0)(hb:Ya w):Ya w':=(World.cell?_of_block (h.same 0 (Xg hb) (Ne.symm ht))).trans hb
theorem Zuh {w:World}{T:Nat}{o:Obj}(h:w.heap[T]?=some o):w.drew.heap[T]?=some o:=h
theorem Yhc {w:World}{T:Nat}{t:TypeId}{z0 z1 z2 z3:Value}(h:w.heap[T]?=some (.cells #[z0,z1,z2,z3] t (0,0)))(a b c d:Value):((((w.setCell ⟨T,0,none⟩ a).setCell ⟨T,1,none⟩ b).setCell ⟨T,2,none⟩ c).setCell ⟨T,3,none⟩ d).heap[T]?=some (.cells #[a,b,c,d] t (0,0)) :=
 heap_setCell_same _ _ _ _ _ _ (heap_setCell_same _ _ _ _ _ _ (heap_setCell_same _ _ _ _ _ _ (heap_setCell_same _ _ _ _ _ _ h)))
theorem Iv (n f b a:Int)(q:Nat)(w:World)(hg:Ya w)(h:Gp w q n f b a):Calls Tryz.prog 26 #[.iface 130 (.pointer (some ⟨q,0,none⟩))] w fun e w'=>e=.returned (Dw n f b a)∧Below w.heap.size w w':=by
 have hlt:=Xg hg;have hq:=Xg h.c0;have HG:Hid (Ya w):=hg;have HB:Hid (Gp w q n f b a):=h;clear hg h;go_enter Tryz.func26,Tryz.ntmps26
 go_wp2_with fail
 refine(Ztd n q 0 _ (.int .i64 0) _ ?s1 ?s2 ?s3 ?s4).mono ?_;case s1=>repeat' (first | exact HG.out | apply Ya.alloc | (apply Ya.setCell) | (simp; done) | (simp; omega))
 case s2=>rw [World.cell?_alloc_at _ _ _ _ (by simp)]; rfl
 case s3=>rw [World.frozen?_alloc_at _ _ _ _ (by simp)]
 case s4=>refine Gp.c0 (n:=n) (f:=f) (b:=b) (a:=a) ?_;repeat' (first | exact HB.out | apply Gp.alloc | (apply Gp.setCell) | (simp; done) | (simp; omega))
 rintro e w1 ⟨rfl,hw1⟩;have K1:=hw1 ▸ Zug _ _ _ _ _ _ (.int .i64 0) (.int .i64 n) (by rw [World.cell?_alloc_at _ _ _ _ (by simp)]; rfl);clear hw1;have rR:w1.heap[w.heap.size]?=some (.cells #[.int .i64 0,.int .i64 0,.int .i64 0,.int .i64 0] 29 (0,0)):=(K1.same _ (by simp; omega) (by simp; try omega)).trans ((Gl _ _ _ (by simp; omega)).trans ((Gl _ _ _ (by simp)).trans (heap_alloc_new _ _)));have rF:w1.heap[w.heap.size+1]?=some (.cells #[.int .i64 (-1),.int .i64 (-1),.int .i64 (-1),.int .i64 (-1)] 29 (0,0)):=(K1.same _ (by simp; try omega) (by simp; try omega)).trans ((Gl _ _ _ (by simp)).trans (by simpa using heap_alloc_new (w.alloc _) _));have B1:Gp w1 q n f b a:=K1.bad (by simp; omega) (((HB.out.alloc _).alloc _).alloc _);have E1:Ya w1:=K1.err (by simp) (((HG.out.alloc _).alloc _).alloc _);have L1:Below w.heap.size w w1:=((((Below.refl _ _).alloc (Nat.le_refl _) _).alloc (by simp) _).alloc (by simp; try omega) _).trans (K1.low (by simp; try omega) (by simp; try omega));have z1:w1.heap.size=w.heap.size+7:=by have:=K1.size; simp at this; omega
 have cn:w1.cell? ⟨w.heap.size+1+1,0,none⟩=some (.int .i64 n):=K1.cell;clear K1;have f0:=(Yk rF).1 0;have f1:=(Yk rF).1 1;have f2:=(Yk rF).1 2;have f3:=(Yk rF).1 3;have fz:=(Yk rF).2;simp at f0 f1 f2 f3;have HB1:=Zcp B1;have HE1:=Zcp E1;have HL1:=Zcp L1;have HR1:=Zcp rR;have HF1:=Zcp rF;clear B1 E1 L1 rR rF;go_wp2_with fail
 refine(Zxq ⟨q,0,none⟩ _ (.pointer none) _ ?s1 ?s2 ?s3).mono ?_;case s1=>exact((Dx HE1).setCell (by simp) _).alloc _
 case s2=>rw [World.cell?_alloc_at _ _ _ _ (by simp [z1])]; rfl
 case s3=>rw [World.frozen?_alloc_at _ _ _ _ (by simp [z1])]
 rintro e w2 ⟨rfl,hw2⟩;have K2:=hw2 ▸ Zug _ _ _ _ _ _ (.pointer none) (.pointer (some ⟨q,0,none⟩)) (by rw [World.cell?_alloc_at _ _ _ _ (by simp [z1])]; rfl);clear hw2;have gR:w2.heap[w.heap.size]?=some (.cells #[.int .i64 0,.int .i64 0,.int .i64 0,.int .i64 0] 29 (0,0)):=(K2.same _ (by simp; omega) (by simp)).trans ((Gl _ _ _ (by simp; omega)).trans ((Below.heap_setCell _ _ _ _ (by simp)).trans (Dx HR1)));have gF:w2.heap[w.heap.size+1]?=some (.cells #[.int .i64 n,.int .i64 (-1),.int .i64 (-1),.int .i64 (-1)] 29 (0,0)):=(K2.same _ (by simp; omega) (by simp)).trans ((Gl _ _ _ (by simp; omega)).trans (heap_setCell_same _ _ _ _ _ _ (Dx HF1)));have B2:Gp w2 q n f b a:=K2.bad (by simp; omega) (((Dx HB1).setCell (by simp; omega) _).alloc _);have L2:Below w.heap.size w w2:=(((Dx HL1).setCell (by simp) _).alloc (by simp; omega) _).trans (K2.low (by simp) (by simp; omega));have cb:w2.cell? ⟨w.heap.size+7,0,none⟩=some (.pointer (some ⟨q,0,none⟩)):=K2.cell;clear K2 f0 f1 f2 f3 fz cn;have f0:=(Yk gF).1 0;have f1:=(Yk gF).1 1;have f2:=(Yk gF).1 2;have f3:=(Yk gF).1 3;have fz:=(Yk gF).2;have r0:=(Yk gR).1 0;have r1:=(Yk gR).1 1;have r2:=(Yk gR).1 2;have r3:=(Yk gR).1 3;have rz:=(Yk gR).2;simp at f0 f1 f2 f3 r0 r1 r2 r3;have d1:=B2.c1;have d2:=B2.c2;have d3:=B2.c3;have HL2:=Zcp L2;have HR2:=Zcp gR;clear B2 L2 gR gF HB1 HE1 HL1 HR1 HF1 HG HB;generalize hT:w.heap.size=T at *;go_wp2_with fail
 go_region
 all_goals go_wp2
 all_goals have hblk:=Yhc ((Below.heap_setCell _ ⟨T+1,3,none⟩ (.int .i64 a) T (by simp)).trans ((Below.heap_setCell _ ⟨T+1,2,none⟩ (.int .i64 b) T (by simp)).trans ((Below.heap_setCell _ ⟨T+1,1,none⟩ (.int .i64 f) T (by simp)).trans (Dx HR2)))) (.int .i64 n) (.int .i64 f) (.int .i64 b) (.int .i64 a)
 all_goals have hinf:(Tryz.prog.info? 29).map (·.size)=some 4:=by kernel_rfl
 all_goals refine bodyPost_ret (results_cell_row (fn:=Tryz.f26) (p:=2) (ty:=29) rfl _ _ T 29 #[.int .i64 n,.int .i64 f,.int .i64 b,.int .i64 a] (0,0) _ rfl (Zuh hblk) Tryz.underlying29 rfl hinf) rfl ?_
 all_goals refine⟨rfl,?_⟩
 all_goals rw [hT]
 all_goals have L:=Dx HL2
 all_goals exact(((((((L.setCell (by show T≤T+1; omega) _).setCell (by show T≤T+1; omega) _).setCell (by show T≤T+1; omega) _).setCell (Nat.le_refl _) _).setCell (Nat.le_refl _) _).setCell (Nat.le_refl _) _).setCell (Nat.le_refl _) _).drew
end Go.Proofs.YtkenknfgeoecbaaGreatDoor
namespace Go.Proofs.YtkenknfgeoecbaaGreatDoor
open Go.RowKit
set_option maxHeartbeats 4000000
set_option maxRecDepth 100000
def Ge (r sp lk t0 t1:Int)(ag rs ss:List Int):Bool:=Jp (Yu sp lk t0 t1) r&&(Jp ag r&&!Mj ag (Yu sp lk t0 t1))&&(Jp rs r&&!Mj rs (Yu sp lk t0 t1))&&(Jp ss r&&!Mj ss (Yu sp lk t0 t1))&&!Mj ss ag&&!Mj ss rs
theorem Zed (r sp lk t0 t1:Int)(va vr vs:Value)(al sh by_:Int)(pr:Bool)(ag rs ss:List Int)(w:World)(ha:Rs w va ag)(hr:Rs w vr rs)(hs:Rs w vs ss)(ca:∀ a n cap,va=.slice a n cap→n≤cap)(cr:∀ a n cap,vr=.slice a n cap→n≤cap)(cs:∀ a n cap,vs=.slice a n cap→n≤cap)(la:ag.length≤8)(lr:rs.length≤4)(ls:ss.length≤12):Calls Tryz.prog 76 #[.agg (Zu r sp lk t0 t1 va vr vs al sh by_ pr)] w fun e w'=>e=.returned (.bool (Ge r sp lk t0 t1 ag rs ss))∧Below w.heap.size w w':=by
 obtain⟨pa,xa,rfl⟩:=ha.shape;obtain⟨pq,xr,rfl⟩:=hr.shape;obtain⟨ps,xs,rfl⟩:=hs.shape;have HA0:=Ze ha;have HR0:=Ze hr;have HS0:=Ze hs;have HAC:=Ze ca;have HRC:=Ze cr;have HSC:=Ze cs;clear ha hr hs ca cr cs;unfold Zu;go_enter Tryz.func76,Tryz.ntmps76
 go_wp2_with fail
 refine(Zdz r sp lk t0 t1 _ _ _ al sh by_ pr _).mono ?_;rintro e w1 ⟨vo,rfl,hRo,hco,hb1⟩;have hz1:=hb1.size;simp only [World.size_alloc] at hz1;have q0:=(Yk ((hb1.block w.heap.size (by simp)).trans (heap_alloc_new w _))).1;have HB:=Ze (((Below.refl w.heap.size w).alloc (Nat.le_refl _) _).trans (hb1.mono (by simp)));have HO:=Ze (fun X:Obj=>hRo.below ((Below.refl w1.heap.size w1).alloc (Nat.le_refl _) X));have HA:=Ze (fun X:Obj=>((Zb HA0).below (Zb HB)).below ((Below.refl w1.heap.size w1).alloc (Nat.le_refl _) X));have HR:=Ze (fun X:Obj=>((Zb HR0).below (Zb HB)).below ((Below.refl w1.heap.size w1).alloc (Nat.le_refl _) X));have HS:=Ze (fun X:Obj=>((Zb HS0).below (Zb HB)).below ((Below.refl w1.heap.size w1).alloc (Nat.le_refl _) X));have hol:=Zwz sp lk t0 t1;have c0:=q0 0;have c5:=q0 5;have c6:=q0 6;have c7:=q0 7;simp at c0 c5 c6 c7;have d0:=fun X:Obj=>(World.cell?_alloc_lt w1 X ⟨w.heap.size,0,none⟩ (show w.heap.size<w1.heap.size by omega)).trans c0;have d5:=fun X:Obj=>(World.cell?_alloc_lt w1 X ⟨w.heap.size,5,none⟩ (show w.heap.size<w1.heap.size by omega)).trans c5;have d6:=fun X:Obj=>(World.cell?_alloc_lt w1 X ⟨w.heap.size,6,none⟩ (show w.heap.size<w1.heap.size by omega)).trans c6;have d7:=fun X:Obj=>(World.cell?_alloc_lt w1 X ⟨w.heap.size,7,none⟩ (show w.heap.size<w1.heap.size by omega)).trans c7;have HRO:=Ze hRo;have HCO:=Ze hco;clear hb1 q0 hRo hco HA0 HR0 HS0;go_wp2_with fail
 refine(Mk (Yu sp lk t0 t1) r vo w1 (Zb HRO) (by omega) (Zb HCO)).mono ?_;rintro e w2 ⟨rfl,h2⟩;subst w2;cases y0:Jp (Yu sp lk t0 t1) r with
 | false=>have HY:=Ze y0;clear y0;go_wp2;go_ret;exact⟨by simp [Ge,Zb HY],Zb HB⟩
 | true =>
  have HY0:=Ze y0;clear y0;go_wp2_with fail
  refine wp_loop_rounds 4 ?_;rw [rounds_succ];go_wp2_with fail
  refine(Mk ag r _ _ (Zb HA _) (by omega) (Zb HAC)).mono ?_;rintro e w2 ⟨rfl,h2⟩;subst w2;cases y1:Jp ag r with
  | false=>have HY:=Ze y1;clear y1;go_wp2;go_ret;exact⟨by simp [Ge,Zb HY],(Zb HB).alloc (by omega) _⟩
  | true =>
   have HY1:=Ze y1;clear y1;go_wp2_with fail
   refine(Zeb ag (Yu sp lk t0 t1) _ vo _ (Zb HA _) (Zb HO _) (by omega) (by omega)).mono ?_;rintro e w2 ⟨rfl,h2⟩;subst w2;cases z1:Mj ag (Yu sp lk t0 t1) with
   | true=>have HY:=Ze z1;clear z1;go_wp2;go_ret;exact⟨by simp [Ge,Zb HY],(Zb HB).alloc (by omega) _⟩
   | false =>
    have HZ1:=Ze z1;clear z1;go_wp2_with fail
    rw [rounds_succ];go_wp2_with fail
    refine(Mk rs r _ _ (Zb HR _) (by omega) (Zb HRC)).mono ?_;rintro e w2 ⟨rfl,h2⟩;subst w2;cases y2:Jp rs r with
    | false=>have HY:=Ze y2;clear y2;go_wp2;go_ret;exact⟨by simp [Ge,Zb HY],(Zb HB).alloc (by omega) _⟩
    | true =>
     have HY2:=Ze y2;clear y2;go_wp2_with fail
     refine(Zeb rs (Yu sp lk t0 t1) _ vo _ (Zb HR _) (Zb HO _) (by omega) (by omega)).mono ?_;rintro e w2 ⟨rfl,h2⟩;subst w2;cases z2:Mj rs (Yu sp lk t0 t1) with
     | true=>have HY:=Ze z2;clear z2;go_wp2;go_ret;exact⟨by simp [Ge,Zb HY],(Zb HB).alloc (by omega) _⟩
     | false =>
      have HZ2:=Ze z2;clear z2;go_wp2_with fail
      rw [rounds_succ];go_wp2_with fail
      refine(Mk ss r _ _ (Zb HS _) (by omega) (Zb HSC)).mono ?_;rintro e w2 ⟨rfl,h2⟩;subst w2;cases y3:Jp ss r with
      | false=>have HY:=Ze y3;clear y3;go_wp2;go_ret;exact⟨by simp [Ge,Zb HY],(Zb HB).alloc (by omega) _⟩
      | true =>
       have HY3:=Ze y3;clear y3;go_wp2_with fail
       refine(Zeb ss (Yu sp lk t0 t1) _ vo _ (Zb HS _) (Zb HO _) (by omega) (by omega)).mono ?_;rintro e w2 ⟨rfl,h2⟩;subst w2;cases z3:Mj ss (Yu sp lk t0 t1) with
       | true=>have HY:=Ze z3;clear z3;go_wp2;go_ret;exact⟨by simp [Ge,Zb HY],(Zb HB).alloc (by omega) _⟩
       | false =>
        have HZ3:=Ze z3;clear z3;go_wp2_with fail
        rw [rounds_succ];go_wp2_with fail
        refine(Zeb ss ag _ _ _ (Zb HS _) (Zb HA _) (by omega) (by omega)).mono ?_;rintro e w2 ⟨rfl,h2⟩;subst w2;cases x1:Mj ss ag with
        | true=>have HY:=Ze x1;clear x1;go_wp2;go_ret;exact⟨by simp [Ge,Zb HY],(Zb HB).alloc (by omega) _⟩
        | false =>
         have HX1:=Ze x1;clear x1;go_wp2_with fail
         refine(Zeb ss rs _ _ _ (Zb HS _) (Zb HR _) (by omega) (by omega)).mono ?_;rintro e w2 ⟨rfl,h2⟩;subst w2;cases x2:Mj ss rs with
         | true=>have HY:=Ze x2;clear x2;go_wp2;go_ret;exact⟨by simp [Ge,Zb HY,Zb HX1,Zb HZ1,Zb HZ2,Zb HZ3,Zb HY1,Zb HY2,Zb HY3,Zb HY0],(Zb HB).alloc (by omega) _⟩
         | false=>have HY:=Ze x2;clear x2;go_wp2;go_ret;exact⟨by simp [Ge,Zb HY,Zb HX1,Zb HZ1,Zb HZ2,Zb HZ3,Zb HY1,Zb HY2,Zb HY3,Zb HY0],(Zb HB).alloc (by omega) _⟩
def Zhi (b:Bool):Value:=match b with
 | true=>.nilIface
 | false=>.iface 127 (.int .i64 2)
def Jn (r sp lk t0 t1:Int)(ag rs ss:List Int)(al sh by_:Int):Bool:=Ig r al sh by_&&Zea ag rs ss&&Ge r sp lk t0 t1 ag rs ss
theorem Zbw (r sp lk t0 t1:Int)(va vr vs:Value)(al sh by_:Int)(pr:Bool)(ag rs ss:List Int)(w:World)(ha:Rs w va ag)(hr:Rs w vr rs)(hs:Rs w vs ss)(ca:∀ a n cap,va=.slice a n cap→n≤cap)(cr:∀ a n cap,vr=.slice a n cap→n≤cap)(cs:∀ a n cap,vs=.slice a n cap→n≤cap):Calls Tryz.prog 47 #[.agg (Zu r sp lk t0 t1 va vr vs al sh by_ pr)] w fun e w'=>e=.returned (Zhi (Jn r sp lk t0 t1 ag rs ss al sh by_))∧Below w.heap.size w w':=by
 have HA0:=Ze ha;have HR0:=Ze hr;have HS0:=Ze hs;have HAC:=Ze ca;have HRC:=Ze cr;have HSC:=Ze cs;have SA:=Ze ha.shape;have SR:=Ze hr.shape;have SS:=Ze hs.shape;clear ha hr hs ca cr cs;have HB0:=Ze (fun X:Obj=>(Below.refl w.heap.size w).alloc (Nat.le_refl _) X);have HD:=Ze (fun(u:World) (X:Obj) (cs:Array Value) (h:Below (w.alloc X).heap.size (w.alloc X) u) (hX:X=.cells cs 25 (0,0))=>(h.block w.heap.size (by simp)).trans ((heap_alloc_new w X).trans (congrArg some hX)));unfold Zu;go_enter Tryz.func47,Tryz.ntmps47
 go_wp2_with fail
 refine(Zhd r sp lk t0 t1 va vr vs al sh by_ pr _).mono ?_;rintro e w1 ⟨rfl,hb1⟩;have q1:=Yk (Zb HD _ _ _ hb1 rfl);have HB1:=Ze hb1;have hz1:=hb1.size;simp only [World.size_alloc] at hz1;have b1:=Zb HD _ _ _ hb1 rfl;clear hb1;cases y1:Ig r al sh by_ with
 | false=>have HY:=Ze y1;clear y1 q1 b1;go_wp2;go_ret;exact⟨by rw [show Jn r sp lk t0 t1 ag rs ss al sh by_=false by simp [Jn,Zb HY]]; rfl,(Zb HB0 _).trans ((Zb HB1).mono (by simp))⟩
 | true =>
  have HY1:=Ze y1;clear y1;have k1:=q1.1;clear q1;go_wp2_with fail
  refine(Zne r sp lk t0 t1 va vr vs al sh by_ pr ag rs ss _ (Zb SA) (Zb SR) (Zb SS)).mono ?_;rintro e w2 ⟨rfl,hb2⟩;have hb2':=(Zb HB1).trans (hb2.mono (by simp; omega));have HB2:=Ze hb2';have hz2:=hb2.size;have k2:=(Yk (Zb HD _ _ _ hb2' rfl)).1;clear hb2 hb2' k1 b1;cases y2:Zea ag rs ss with
  | false=>have HY:=Ze y2;clear y2 k2;go_wp2;go_ret;exact⟨by rw [show Jn r sp lk t0 t1 ag rs ss al sh by_=false by simp [Jn,Zb HY]]; rfl,(Zb HB0 _).trans ((Zb HB2).mono (by simp))⟩
  | true =>
   have hl:ag.length≤8∧rs.length≤4∧ss.length≤12:=of_decide_eq_true y2;have HY2:=Ze y2;have HL:=Ze hl;have HB3:=Ze ((Zb HB0 _).trans ((Zb HB2).mono (by simp)));clear y2 hl;go_wp2_with fail
   refine(Zed r sp lk t0 t1 va vr vs al sh by_ pr ag rs ss _ ((Zb HA0).below (Zb HB3)) ((Zb HR0).below (Zb HB3)) ((Zb HS0).below (Zb HB3)) (Zb HAC) (Zb HRC) (Zb HSC) (Zb HL).1 (Zb HL).2.1 (Zb HL).2.2).mono ?_;rintro e w3 ⟨rfl,hb3⟩;have HB4:=Ze ((Zb HB3).trans (hb3.mono (by omega)));clear hb3 k2;cases y3:Ge r sp lk t0 t1 ag rs ss with
   | false=>have HY:=Ze y3;clear y3;go_wp2;go_ret;exact⟨by rw [show Jn r sp lk t0 t1 ag rs ss al sh by_=false by simp [Jn,Zb HY]]; rfl,Zb HB4⟩
   | true=>have HY:=Ze y3;clear y3;go_wp2;go_ret;exact⟨by rw [show Jn r sp lk t0 t1 ag rs ss al sh by_=true by simp [Jn,Zb HY,Zb HY1,Zb HY2]]; rfl,Zb HB4⟩
end Go.Proofs.YtkenknfgeoecbaaGreatDoor
namespace Go.Proofs.YtkenknfgeoecbaaGreatDoor
open Go.ChangeShapes Go.WideShapes Go.ChangeAt Go.RowKit Go.Deep
def Ybl (n:Int):Prop:=-9223372036854775808≤n∧n≤9223372036854775807
namespace bulkE
end bulkE
theorem Tryz.cellsIntE:Tryz.prog.cellsOf 3=1:=by kernel_rfl
theorem Zuf {α:Type}{l:List α}(h:l.length=2):∃ a0 a1,l=[a0,a1]:=by
 match l,h with
 | [a0,a1],_=>exact⟨_,_,rfl⟩
theorem Zgd {n:Nat}(h:n≤maxLen):n<Jy:=by unfold maxLen at h; unfold Jy; omega
section
variable {H:Type} {enc:TypeId×Value→H} {w:World} {held:Bool}
abbrev TrE (enc:TypeId×Value→H)(w:World)(held:Bool)(n:Nat)(t:TypeId)(cs:List Value)(y:DataW H×List MemPlace):Prop:=DataW.trod enc Tryz.prog w 0 (fun _=>true) held n t cs=some y
theorem Zqm {n:Nat}{v:Value}{y:DataW H×List MemPlace}(h:TrE enc w held n 3 [v] y):∃ x:Int,v=.int .i64 x∧Ybl x:=by obtain⟨x,e,-,hw⟩:=DataW.trod_int Tryz.underlying3 h;have hb:=bounds_i64 hw;exact⟨x,List.head_eq_of_cons_eq e,by unfold Ybl; omega⟩
end
end Go.Proofs.YtkenknfgeoecbaaGreatDoor
namespace Go.Proofs.YtkenknfgeoecbaaGreatDoor
open Go.ChangeShapes Go.WideShapes Go.ChangeAt Go.RowKit
theorem Tryz.ownE:ownKnob Tryz.prog.godebug=none:=by kernel_rfl
theorem Tryz.laidOutE:laidOutB Tryz.prog=true:=by kernel_rfl
theorem Tryz.etE : Tryz.prog.globalNamed "errors.errorType" = some 0 := by kernel_rfl
theorem Tryz.rtE : (Tryz.prog.cutTypes.find? (·.1 == "internal/reflectlite.rtype")).map (·.2) = some 215 := by kernel_rfl
theorem Tryz.oneRowE:((List.range 540).filter fun t=>Tryz.prog.rowNamed t [101,114,114,111,114])=[93]:=by kernel_rfl
theorem Tryz.sizeE:Tryz.prog.types.size=540:=by kernel_rfl
theorem Tryz.handE:typeHandle Tryz.prog 93=.pointer (some ⟨9,93,none⟩):=by kernel_rfl
theorem Tryz.gNeedE : Tryz.prog.globalNamed "prologue/program.needed" = some 2 := by kernel_rfl
theorem Tryz.gNeedTE:(Tryz.prog.globals[2]?).map (·.type)=some 377:=by kernel_rfl
theorem Tryz.cellsFieldsE:Tryz.prog.cellsOf 339=1:=by kernel_rfl
theorem Tryz.cellsNeedE:Tryz.prog.cellsOf 377=19:=by kernel_rfl
theorem Zql:(Rows.laid_prologue_program_needed:DataW Unit)=Lib.tabData .u8 Zcj:=by kernel_rfl
theorem Zcm {W : World} (h : Lib.VarReads Tryz.prog W "prologue/program.needed" Rows.laid_prologue_program_needed) : Zo W := by
 obtain⟨g,t,cs,fuel,p,hg,ht,hv,hd⟩:=h;obtain rfl:=Option.some.inj (Tryz.gNeedE.symm.trans hg);obtain rfl:=Option.some.inj (Tryz.gNeedTE.symm.trans ht);rw [Zql] at hd;have hc:=Lib.cells_of_tab Tryz.underlying377 Tryz.underlying339 Tryz.cellsFieldsE Tryz.cellsNeedE hd;intro k hk;rw [World.var?_cell Tryz.gNeedE hv k];have h1:cs[k]?=(Zcj.map fun z=>Value.int .u8 z)[k]?:=by rw [← hc]; simp
 rw [h1,List.getElem?_map];have h2:Zcj[k]?=some (Zcj.getD k 0):=by have:k<Zcj.length:=hk;simp [List.getD,this]
 rw [h2];rfl
theorem Zue {W : World} {l : List (String × DataW Unit)} (h : laidMetH Tryz.prog l W) (hm : ("errors.errorType", Rows.laid_errors_errorType) ∈ l.filter fun x => x.2.handleName?.isSome) : Ya W := by obtain ⟨-, h2⟩ := laidMetH_iff.1 h;obtain ⟨name, u, ty, e1, e2, e3, e4, e5⟩ := h2 ("errors.errorType", Rows.laid_errors_errorType) hm;have en : name = [101, 114, 114, 111, 114] := (Option.some.inj e1).symm;subst en;obtain rfl := Option.some.inj (Tryz.rtE.symm.trans e2);have hm : ty ∈ (List.range 540).filter fun t => Tryz.prog.rowNamed t [101, 114, 114, 111, 114] := List.mem_filter.2 ⟨List.mem_range.2 (by rw [← Tryz.sizeE]; exact e3), e4⟩;rw [Tryz.oneRowE] at hm;obtain rfl := List.mem_singleton.1 hm;rw [Tryz.handE] at e5;simpa using World.var?_cell Tryz.etE e5 0
def Zny (w:World):World :=
 { w with heap:=w.heap.modify 0 fun
  | .cells _ t frozen=>.cells #[.iface 215 (.agg #[.pointer (some ⟨9,93,none⟩)])] t frozen
  | o=>o }
abbrev Zox:List (String×DataW Unit):=Rows.placedRow.laid.filter fun x=>x.2.handleName?.isNone
theorem Zmm (os:Os)(args:Array Value):laidMetH Tryz.prog Rows.placedRow.laid ((Zny (World.laidAll Tryz.prog os Zox)).forCall (fun _ _=>0) ⟨#[],args,[]⟩).memory :=
 laidMetH_of_parts (laidMet_of_run' 16 (by kernel_rfl) (by kernel_rfl)) (by kernel_rfl)
theorem Zsd:(Rows.placedRow.inPlace==Tryz.pinned.checked.prog.inPlace 4)=true:=by kernel_rfl
theorem Zme:(Rows.placedRow.unfollowed==Tryz.pinned.checked.prog.unfollowed 4)=true:=by kernel_rfl
theorem Zmf:(Rows.placedRow.recurses==Tryz.pinned.checked.prog.recurses 4)=true:=by kernel_rfl
theorem Zmg:(Rows.placedRow.named==Tryz.pinned.checked.prog.varsNamed 4)=true:=by kernel_rfl
theorem Zmh:(Rows.placedRow.maps==(Tryz.f4.params.toList++Rows.placedSpec.plain.varTypes Tryz.pinned.checked.prog).any (Tryz.pinned.checked.prog.mapsRec ·))=true:=by kernel_rfl
theorem Zmi:(Rows.placedRow.ifaces==(Tryz.f4.params.toList++Rows.placedSpec.plain.varTypes Tryz.pinned.checked.prog).any (Tryz.pinned.checked.prog.ifacesRec ·))=true:=by kernel_rfl
theorem Zmj:(Rows.placedRow.mapsOut==Tryz.pinned.checked.prog.mapsAmong Tryz.f4.resultTypes.toList)=true:=by kernel_rfl
theorem Zmk:(Rows.placedRow.loops==(Tryz.f4.params.toList++Rows.placedSpec.plain.varTypes Tryz.pinned.checked.prog).any (Tryz.pinned.checked.prog.loopsFrom ·))=true:=by kernel_rfl
theorem Zml:(Rows.placedRow.wideKeys==(Tryz.f4.params.toList++Rows.placedSpec.plain.varTypes Tryz.pinned.checked.prog++Tryz.f4.resultTypes.toList).any (Tryz.pinned.checked.prog.wideKeysFrom ·))=true:=by kernel_rfl
end Go.Proofs.YtkenknfgeoecbaaGreatDoor
