import Derived.Test.YtkenknfgeoecbaaGreatDoorAs
import Derived.Test.YtkenknfgeoecbaaGreatDoorJ8
import Derived.Deep.OwnRows
import Derived.Test.YtkenknfgeoecbaaGreatDoorJ16
namespace Go.Proofs.YtkenknfgeoecbaaGreatDoor
open Go.RowKit Go.Extern.Stop Go.Stop Go.Extern
set_option maxHeartbeats 1000000
theorem Xe {w:World}{b o:Nat}{v:Value}(h:w.cell? ⟨b,o,none⟩=some v):b<w.heap.size:=by
 rcases Nat.lt_or_ge b w.heap.size with h' | h'
 ·exact h'
 ·simp [World.cell?,Array.getElem?_eq_none h'] at h
abbrev Dt (e f b a:Int):Value:=.agg #[.int .i64 e,.int .i64 f,.int .i64 b,.int .i64 a]
abbrev Zz (w:World):Prop:=w.cell? ⟨0,0,none⟩=some (.iface 215 (.agg #[.pointer (some ⟨9,93,none⟩)]))
theorem Ln (w:World):Calls Tryz.prog 26 #[.nilIface] w fun e w'=>e=.returned (Dt 0 (-1) (-1) (-1))∧Below w.heap.size w w':=by
 go_enter Tryz.func26,Tryz.ntmps26
 go_wp2;go_returns;exact⟨rfl,by go_grown⟩
theorem Zz.alloc {w:World}(h:Zz w)(o:Obj):Zz (w.alloc o):=by show(w.alloc o).cell? _=_;rw [World.cell?_alloc_lt _ _ ⟨0,0,none⟩ (Xe h)]; exact h
theorem Zz.setCell {w:World}(h:Zz w){a:Addr}(ha:0<a.block)(v:Value):Zz (w.setCell a v) :=
 ((Below.refl (min a.block w.heap.size) w).setCell (Nat.min_le_left _ _) v).cell (p:=⟨0,0,none⟩) (by show 0<min a.block w.heap.size; have:=Xe h; omega) |>.trans h
theorem Zz.below {w w':World}{B:Nat}(h:Zz w)(hb:Below B w w')(h0:0<B):Zz w':=(hb.cell (p:=⟨0,0,none⟩) h0).trans h
theorem Zz.drew {w:World}(h:Zz w):Zz w.drew:=h
theorem Lo (n:Int)(w:World)(hg:Zz w):Calls Tryz.prog 26 #[.iface 127 (.int .i64 n)] w fun e w'=>e=.returned (Dt n (-1) (-1) (-1))∧Below w.heap.size w w':=by
 have hlt:=Xe hg;have HG:Hid (Zz w):=hg;clear hg;go_enter Tryz.func26,Tryz.ntmps26
 go_wp2_with fail
 refine(Zwx n _ (.int .i64 0) _ ?s1 ?s2 ?s3).mono ?_;case s1=>repeat' (first | exact HG.out | apply Zz.alloc | (apply Zz.setCell) | (simp; done) | (simp; omega))
 case s2=>rw [World.cell?_alloc_at _ _ _ _ (by simp)]; rfl
 case s3=>rw [World.frozen?_alloc_at _ _ _ _ (by simp)]
 rintro e w' ⟨rfl,rfl⟩;go_wp2_with fail
 refine(Zsf n _ _ ?s1).mono ?_;case s1=>repeat' (first | exact HG.out | apply Zz.alloc | (apply Zz.setCell) | (simp; done) | (simp; omega))
 rintro e w' ⟨rfl,rfl⟩;go_wp2_with fail
 go_returns;refine⟨rfl,?_⟩;go_grown
set_option maxHeartbeats 4000000
theorem Zby {p:Prop}(h:p):Hid p:=h
theorem Du {p:Prop}(h:Hid p):p:=h
structure Gk (w:World)(q:Nat)(n f b a:Int):Prop where
 c0:w.cell? ⟨q,0,none⟩=some (.iface 127 (.int .i64 n))
 c1:w.cell? ⟨q,1,none⟩=some (.int .i64 f)
 c2:w.cell? ⟨q,2,none⟩=some (.int .i64 b)
 c3:w.cell? ⟨q,3,none⟩=some (.int .i64 a)
theorem Gk.below {w w':World}{q:Nat}{n f b a:Int}(h:Gk w q n f b a)(hb:Below w.heap.size w w'):Gk w' q n f b a :=
 have hq:=Xe h.c0;⟨(hb.cell (p:=⟨q,0,none⟩) hq).trans h.c0,(hb.cell (p:=⟨q,1,none⟩) hq).trans h.c1,(hb.cell (p:=⟨q,2,none⟩) hq).trans h.c2,(hb.cell (p:=⟨q,3,none⟩) hq).trans h.c3⟩
theorem Gk.alloc {w:World}{q:Nat}{n f b a:Int}(h:Gk w q n f b a)(o:Obj):Gk (w.alloc o) q n f b a:=h.below (((Below.refl _ _).alloc (Nat.le_refl _) _))
theorem Gk.setCell {w:World}{q:Nat}{n f b a:Int}(h:Gk w q n f b a){c:Addr}(hc:c.block≠q)(v:Value):Gk (w.setCell c v) q n f b a:=by have e:∀ o,(w.setCell c v).cell? ⟨q,o,none⟩=w.cell? ⟨q,o,none⟩:=fun o=>World.cell?_of_block (Below.heap_setCell w c v q (fun e=>hc e.symm));exact⟨(e _).trans h.c0,(e _).trans h.c1,(e _).trans h.c2,(e _).trans h.c3⟩
structure Kl (w w':World)(t:Addr)(v:Value):Prop where
 same:∀ x,x<w.heap.size->x≠t.block->w'.heap[x]?=w.heap[x]?
 cell:w'.cell? t=some v
 froz:w'.frozen? t=w.frozen? t
 size:w'.heap.size=w.heap.size+4
 os:w'.os=w.os
 tape:w'.tape=w.tape
 output:w'.output=w.output
theorem Ztk (w:World)(a b c d:Obj)(t:Addr)(old v:Value)(h:w.cell? t=some old):Kl w ((((w.alloc a).alloc b).alloc c).alloc d |>.setCell t v) t v:=by have ht:t.block<w.heap.size:=World.block_lt_of_cell? w _ h;have hb:Below w.heap.size w ((((w.alloc a).alloc b).alloc c).alloc d):=((((Below.refl _ _).alloc (Nat.le_refl _) _).alloc (by simp) _).alloc (by simp; try omega) _).alloc (by simp; try omega) _;refine⟨fun x hx hne=>(Below.heap_setCell _ _ _ _ hne).trans (hb.block x hx),World.cell?_setCell_same _ _ _ ((hb.cell (p:=t) ht).trans h),?_,by simp,rfl,rfl,rfl⟩;rw [World.frozen?_setCell];exact hb.frozen (p:=t) ht
theorem Gi (w:World)(o:Obj)(x:Nat)(h:x<w.heap.size):(w.alloc o).heap[x]?=w.heap[x]?:=((Below.refl w.heap.size w).alloc (Nat.le_refl _) o).block x h
theorem Yk {w:World}{T:Nat}{t:TypeId}{cs:Array Value}(h:w.heap[T]?=some (.cells cs t (0,0))):(∀ j,w.cell? ⟨T,j,none⟩=cs[j]?)∧∀ j,w.frozen? ⟨T,j,none⟩=false :=
 ⟨fun j=>by simp [World.cell?,h],fun j=>by simp [World.frozen?,h]⟩
theorem Kl.low {w w':World}{t:Addr}{v:Value}(h:Kl w w' t v){B:Nat}(hB:B<=t.block)(hs:B<=w.heap.size):Below B w w':=⟨h.os,h.tape,h.output,by have:=h.size; omega,fun x hx=>h.same x (by omega) (by omega)⟩
theorem Kl.bad {w w':World}{t:Addr}{v:Value}(h:Kl w w' t v){q:Nat}{n f b a:Int}(hq:q≠t.block)(hb:Gk w q n f b a):Gk w' q n f b a :=
 have e:=h.same q (Xe hb.c0) hq;⟨(World.cell?_of_block e).trans hb.c0,(World.cell?_of_block e).trans hb.c1,(World.cell?_of_block e).trans hb.c2,(World.cell?_of_block e).trans hb.c3⟩
theorem Kl.err {w w':World}{t:Addr}{v:Value}(h:Kl w w' t v)(ht:t.block≠0)(hb:Zz w):Zz w':=(World.cell?_of_block (h.same 0 (Xe hb) (Ne.symm ht))).trans hb
theorem Ztl {w:World}{T:Nat}{o:Obj}(h:w.heap[T]?=some o):w.drew.heap[T]?=some o:=h
theorem Ygf {w:World}{T:Nat}{t:TypeId}{z0 z1 z2 z3:Value}(h:w.heap[T]?=some (.cells #[z0,z1,z2,z3] t (0,0)))(a b c d:Value):((((w.setCell ⟨T,0,none⟩ a).setCell ⟨T,1,none⟩ b).setCell ⟨T,2,none⟩ c).setCell ⟨T,3,none⟩ d).heap[T]?=some (.cells #[a,b,c,d] t (0,0)) :=
 heap_setCell_same _ _ _ _ _ _ (heap_setCell_same _ _ _ _ _ _ (heap_setCell_same _ _ _ _ _ _ (heap_setCell_same _ _ _ _ _ _ h)))
theorem Ia (n f b a:Int)(q:Nat)(w:World)(hg:Zz w)(h:Gk w q n f b a):Calls Tryz.prog 26 #[.iface 130 (.pointer (some ⟨q,0,none⟩))] w fun e w'=>e=.returned (Dt n f b a)∧Below w.heap.size w w':=by
 have hlt:=Xe hg;have hq:=Xe h.c0;have HG:Hid (Zz w):=hg;have HB:Hid (Gk w q n f b a):=h;clear hg h;go_enter Tryz.func26,Tryz.ntmps26
 go_wp2_with fail
 refine(Zsg n q 0 _ (.int .i64 0) _ ?s1 ?s2 ?s3 ?s4).mono ?_;case s1=>repeat' (first | exact HG.out | apply Zz.alloc | (apply Zz.setCell) | (simp; done) | (simp; omega))
 case s2=>rw [World.cell?_alloc_at _ _ _ _ (by simp)]; rfl
 case s3=>rw [World.frozen?_alloc_at _ _ _ _ (by simp)]
 case s4=>refine Gk.c0 (n:=n) (f:=f) (b:=b) (a:=a) ?_;repeat' (first | exact HB.out | apply Gk.alloc | (apply Gk.setCell) | (simp; done) | (simp; omega))
 rintro e w1 ⟨rfl,hw1⟩;have K1:=hw1 ▸ Ztk _ _ _ _ _ _ (.int .i64 0) (.int .i64 n) (by rw [World.cell?_alloc_at _ _ _ _ (by simp)]; rfl);clear hw1;have rR:w1.heap[w.heap.size]?=some (.cells #[.int .i64 0,.int .i64 0,.int .i64 0,.int .i64 0] 29 (0,0)):=(K1.same _ (by simp; omega) (by simp; try omega)).trans ((Gi _ _ _ (by simp; omega)).trans ((Gi _ _ _ (by simp)).trans (heap_alloc_new _ _)));have rF:w1.heap[w.heap.size+1]?=some (.cells #[.int .i64 (-1),.int .i64 (-1),.int .i64 (-1),.int .i64 (-1)] 29 (0,0)):=(K1.same _ (by simp; try omega) (by simp; try omega)).trans ((Gi _ _ _ (by simp)).trans (by simpa using heap_alloc_new (w.alloc _) _));have B1:Gk w1 q n f b a:=K1.bad (by simp; omega) (((HB.out.alloc _).alloc _).alloc _);have E1:Zz w1:=K1.err (by simp) (((HG.out.alloc _).alloc _).alloc _);have L1:Below w.heap.size w w1:=((((Below.refl _ _).alloc (Nat.le_refl _) _).alloc (by simp) _).alloc (by simp; try omega) _).trans (K1.low (by simp; try omega) (by simp; try omega));have z1:w1.heap.size=w.heap.size+7:=by have:=K1.size; simp at this; omega
 have cn:w1.cell? ⟨w.heap.size+1+1,0,none⟩=some (.int .i64 n):=K1.cell;clear K1;have f0:=(Yk rF).1 0;have f1:=(Yk rF).1 1;have f2:=(Yk rF).1 2;have f3:=(Yk rF).1 3;have fz:=(Yk rF).2;simp at f0 f1 f2 f3;have HB1:=Zby B1;have HE1:=Zby E1;have HL1:=Zby L1;have HR1:=Zby rR;have HF1:=Zby rF;clear B1 E1 L1 rR rF;go_wp2_with fail
 refine(Zwy ⟨q,0,none⟩ _ (.pointer none) _ ?s1 ?s2 ?s3).mono ?_;case s1=>exact((Du HE1).setCell (by simp) _).alloc _
 case s2=>rw [World.cell?_alloc_at _ _ _ _ (by simp [z1])]; rfl
 case s3=>rw [World.frozen?_alloc_at _ _ _ _ (by simp [z1])]
 rintro e w2 ⟨rfl,hw2⟩;have K2:=hw2 ▸ Ztk _ _ _ _ _ _ (.pointer none) (.pointer (some ⟨q,0,none⟩)) (by rw [World.cell?_alloc_at _ _ _ _ (by simp [z1])]; rfl);clear hw2;have gR:w2.heap[w.heap.size]?=some (.cells #[.int .i64 0,.int .i64 0,.int .i64 0,.int .i64 0] 29 (0,0)):=(K2.same _ (by simp; omega) (by simp)).trans ((Gi _ _ _ (by simp; omega)).trans ((Below.heap_setCell _ _ _ _ (by simp)).trans (Du HR1)));have gF:w2.heap[w.heap.size+1]?=some (.cells #[.int .i64 n,.int .i64 (-1),.int .i64 (-1),.int .i64 (-1)] 29 (0,0)):=(K2.same _ (by simp; omega) (by simp)).trans ((Gi _ _ _ (by simp; omega)).trans (heap_setCell_same _ _ _ _ _ _ (Du HF1)));have B2:Gk w2 q n f b a:=K2.bad (by simp; omega) (((Du HB1).setCell (by simp; omega) _).alloc _);have L2:Below w.heap.size w w2:=(((Du HL1).setCell (by simp) _).alloc (by simp; omega) _).trans (K2.low (by simp) (by simp; omega));have cb:w2.cell? ⟨w.heap.size+7,0,none⟩=some (.pointer (some ⟨q,0,none⟩)):=K2.cell;clear K2 f0 f1 f2 f3 fz cn;have f0:=(Yk gF).1 0;have f1:=(Yk gF).1 1;have f2:=(Yk gF).1 2;have f3:=(Yk gF).1 3;have fz:=(Yk gF).2;have r0:=(Yk gR).1 0;have r1:=(Yk gR).1 1;have r2:=(Yk gR).1 2;have r3:=(Yk gR).1 3;have rz:=(Yk gR).2;simp at f0 f1 f2 f3 r0 r1 r2 r3;have d1:=B2.c1;have d2:=B2.c2;have d3:=B2.c3;have HL2:=Zby L2;have HR2:=Zby gR;clear B2 L2 gR gF HB1 HE1 HL1 HR1 HF1 HG HB;generalize hT:w.heap.size=T at *;go_wp2_with fail
 go_region
 all_goals go_wp2
 all_goals have hblk:=Ygf ((Below.heap_setCell _ ⟨T+1,3,none⟩ (.int .i64 a) T (by simp)).trans ((Below.heap_setCell _ ⟨T+1,2,none⟩ (.int .i64 b) T (by simp)).trans ((Below.heap_setCell _ ⟨T+1,1,none⟩ (.int .i64 f) T (by simp)).trans (Du HR2)))) (.int .i64 n) (.int .i64 f) (.int .i64 b) (.int .i64 a)
 all_goals have hinf:(Tryz.prog.info? 29).map (·.size)=some 4:=by kernel_rfl
 all_goals refine bodyPost_ret (results_cell_row (fn:=Tryz.f26) (p:=2) (ty:=29) rfl _ _ T 29 #[.int .i64 n,.int .i64 f,.int .i64 b,.int .i64 a] (0,0) _ rfl (Ztl hblk) Tryz.underlying29 rfl hinf) rfl ?_
 all_goals refine⟨rfl,?_⟩
 all_goals rw [hT]
 all_goals have L:=Du HL2
 all_goals exact(((((((L.setCell (by show T<=T+1; omega) _).setCell (by show T<=T+1; omega) _).setCell (by show T<=T+1; omega) _).setCell (Nat.le_refl _) _).setCell (Nat.le_refl _) _).setCell (Nat.le_refl _) _).setCell (Nat.le_refl _) _).drew
end Go.Proofs.YtkenknfgeoecbaaGreatDoor
namespace Go.Proofs.YtkenknfgeoecbaaGreatDoor
open Go.RowKit
set_option maxHeartbeats 4000000
set_option maxRecDepth 100000
def Gb (r sp lk t0 t1:Int)(ag rs ss:List Int):Bool:=Nf (Yn sp lk t0 t1) r&&(Nf ag r&&!Mg ag (Yn sp lk t0 t1))&&(Nf rs r&&!Mg rs (Yn sp lk t0 t1))&&(Nf ss r&&!Mg ss (Yn sp lk t0 t1))&&!Mg ss ag&&!Mg ss rs
theorem Zdi (r sp lk t0 t1:Int)(va vr vs:Value)(al sh by_:Int)(pr:Bool)(ag rs ss:List Int)(w:World)(ha:Rs w va ag)(hr:Rs w vr rs)(hs:Rs w vs ss)(ca:∀ a n cap,va=.slice a n cap->n<=cap)(cr:∀ a n cap,vr=.slice a n cap->n<=cap)(cs:∀ a n cap,vs=.slice a n cap->n<=cap)(la:ag.length<=8)(lr:rs.length<=4)(ls:ss.length<=12):Calls Tryz.prog 76 #[.agg (Zt r sp lk t0 t1 va vr vs al sh by_ pr)] w fun e w'=>e=.returned (.bool (Gb r sp lk t0 t1 ag rs ss))∧Below w.heap.size w w':=by
 obtain⟨pa,xa,rfl⟩:=ha.shape;obtain⟨pq,xr,rfl⟩:=hr.shape;obtain⟨ps,xs,rfl⟩:=hs.shape;have HA0:=Ze ha;have HR0:=Ze hr;have HS0:=Ze hs;have HAC:=Ze ca;have HRC:=Ze cr;have HSC:=Ze cs;clear ha hr hs ca cr cs;unfold Zt;go_enter Tryz.func76,Tryz.ntmps76
 go_wp2_with fail
 refine(Zdf r sp lk t0 t1 _ _ _ al sh by_ pr _).mono ?_;rintro e w1 ⟨vo,rfl,hRo,hco,hb1⟩;have hz1:=hb1.size;simp only [World.size_alloc] at hz1;have q0:=(Yk ((hb1.block w.heap.size (by simp)).trans (heap_alloc_new w _))).1;have HB:=Ze (((Below.refl w.heap.size w).alloc (Nat.le_refl _) _).trans (hb1.mono (by simp)));have HO:=Ze (fun X:Obj=>hRo.below ((Below.refl w1.heap.size w1).alloc (Nat.le_refl _) X));have HA:=Ze (fun X:Obj=>((Zb HA0).below (Zb HB)).below ((Below.refl w1.heap.size w1).alloc (Nat.le_refl _) X));have HR:=Ze (fun X:Obj=>((Zb HR0).below (Zb HB)).below ((Below.refl w1.heap.size w1).alloc (Nat.le_refl _) X));have HS:=Ze (fun X:Obj=>((Zb HS0).below (Zb HB)).below ((Below.refl w1.heap.size w1).alloc (Nat.le_refl _) X));have hol:=Zvz sp lk t0 t1;have c0:=q0 0;have c5:=q0 5;have c6:=q0 6;have c7:=q0 7;simp at c0 c5 c6 c7;have d0:=fun X:Obj=>(World.cell?_alloc_lt w1 X ⟨w.heap.size,0,none⟩ (show w.heap.size<w1.heap.size by omega)).trans c0;have d5:=fun X:Obj=>(World.cell?_alloc_lt w1 X ⟨w.heap.size,5,none⟩ (show w.heap.size<w1.heap.size by omega)).trans c5;have d6:=fun X:Obj=>(World.cell?_alloc_lt w1 X ⟨w.heap.size,6,none⟩ (show w.heap.size<w1.heap.size by omega)).trans c6;have d7:=fun X:Obj=>(World.cell?_alloc_lt w1 X ⟨w.heap.size,7,none⟩ (show w.heap.size<w1.heap.size by omega)).trans c7;have HRO:=Ze hRo;have HCO:=Ze hco;clear hb1 q0 hRo hco HA0 HR0 HS0;go_wp2_with fail
 refine(Mh (Yn sp lk t0 t1) r vo w1 (Zb HRO) (by omega) (Zb HCO)).mono ?_;rintro e w2 ⟨rfl,h2⟩;subst w2;cases y0:Nf (Yn sp lk t0 t1) r with
 | false=>have HY:=Ze y0;clear y0;go_wp2;go_ret;exact⟨by simp [Gb,Zb HY],Zb HB⟩
 | true =>
  have HY0:=Ze y0;clear y0;go_wp2_with fail
  refine wp_loop_rounds 4 ?_;rw [rounds_succ];go_wp2_with fail
  refine(Mh ag r _ _ (Zb HA _) (by omega) (Zb HAC)).mono ?_;rintro e w2 ⟨rfl,h2⟩;subst w2;cases y1:Nf ag r with
  | false=>have HY:=Ze y1;clear y1;go_wp2;go_ret;exact⟨by simp [Gb,Zb HY],(Zb HB).alloc (by omega) _⟩
  | true =>
   have HY1:=Ze y1;clear y1;go_wp2_with fail
   refine(Zdg ag (Yn sp lk t0 t1) _ vo _ (Zb HA _) (Zb HO _) (by omega) (by omega)).mono ?_;rintro e w2 ⟨rfl,h2⟩;subst w2;cases z1:Mg ag (Yn sp lk t0 t1) with
   | true=>have HY:=Ze z1;clear z1;go_wp2;go_ret;exact⟨by simp [Gb,Zb HY],(Zb HB).alloc (by omega) _⟩
   | false =>
    have HZ1:=Ze z1;clear z1;go_wp2_with fail
    rw [rounds_succ];go_wp2_with fail
    refine(Mh rs r _ _ (Zb HR _) (by omega) (Zb HRC)).mono ?_;rintro e w2 ⟨rfl,h2⟩;subst w2;cases y2:Nf rs r with
    | false=>have HY:=Ze y2;clear y2;go_wp2;go_ret;exact⟨by simp [Gb,Zb HY],(Zb HB).alloc (by omega) _⟩
    | true =>
     have HY2:=Ze y2;clear y2;go_wp2_with fail
     refine(Zdg rs (Yn sp lk t0 t1) _ vo _ (Zb HR _) (Zb HO _) (by omega) (by omega)).mono ?_;rintro e w2 ⟨rfl,h2⟩;subst w2;cases z2:Mg rs (Yn sp lk t0 t1) with
     | true=>have HY:=Ze z2;clear z2;go_wp2;go_ret;exact⟨by simp [Gb,Zb HY],(Zb HB).alloc (by omega) _⟩
     | false =>
      have HZ2:=Ze z2;clear z2;go_wp2_with fail
      rw [rounds_succ];go_wp2_with fail
      refine(Mh ss r _ _ (Zb HS _) (by omega) (Zb HSC)).mono ?_;rintro e w2 ⟨rfl,h2⟩;subst w2;cases y3:Nf ss r with
      | false=>have HY:=Ze y3;clear y3;go_wp2;go_ret;exact⟨by simp [Gb,Zb HY],(Zb HB).alloc (by omega) _⟩
      | true =>
       have HY3:=Ze y3;clear y3;go_wp2_with fail
       refine(Zdg ss (Yn sp lk t0 t1) _ vo _ (Zb HS _) (Zb HO _) (by omega) (by omega)).mono ?_;rintro e w2 ⟨rfl,h2⟩;subst w2;cases z3:Mg ss (Yn sp lk t0 t1) with
       | true=>have HY:=Ze z3;clear z3;go_wp2;go_ret;exact⟨by simp [Gb,Zb HY],(Zb HB).alloc (by omega) _⟩
       | false =>
        have HZ3:=Ze z3;clear z3;go_wp2_with fail
        rw [rounds_succ];go_wp2_with fail
        refine(Zdg ss ag _ _ _ (Zb HS _) (Zb HA _) (by omega) (by omega)).mono ?_;rintro e w2 ⟨rfl,h2⟩;subst w2;cases x1:Mg ss ag with
        | true=>have HY:=Ze x1;clear x1;go_wp2;go_ret;exact⟨by simp [Gb,Zb HY],(Zb HB).alloc (by omega) _⟩
        | false =>
         have HX1:=Ze x1;clear x1;go_wp2_with fail
         refine(Zdg ss rs _ _ _ (Zb HS _) (Zb HR _) (by omega) (by omega)).mono ?_;rintro e w2 ⟨rfl,h2⟩;subst w2;cases x2:Mg ss rs with
         | true=>have HY:=Ze x2;clear x2;go_wp2;go_ret;exact⟨by simp [Gb,Zb HY,Zb HX1,Zb HZ1,Zb HZ2,Zb HZ3,Zb HY1,Zb HY2,Zb HY3,Zb HY0],(Zb HB).alloc (by omega) _⟩
         | false=>have HY:=Ze x2;clear x2;go_wp2;go_ret;exact⟨by simp [Gb,Zb HY,Zb HX1,Zb HZ1,Zb HZ2,Zb HZ3,Zb HY1,Zb HY2,Zb HY3,Zb HY0],(Zb HB).alloc (by omega) _⟩
def Zgw (b:Bool):Value:=match b with
 | true=>.nilIface
 | false=>.iface 127 (.int .i64 2)
def Jj (r sp lk t0 t1:Int)(ag rs ss:List Int)(al sh by_:Int):Bool:=Zar r al sh by_&&Zfi ag rs ss&&Gb r sp lk t0 t1 ag rs ss
theorem Zbh (r sp lk t0 t1:Int)(va vr vs:Value)(al sh by_:Int)(pr:Bool)(ag rs ss:List Int)(w:World)(ha:Rs w va ag)(hr:Rs w vr rs)(hs:Rs w vs ss)(ca:∀ a n cap,va=.slice a n cap->n<=cap)(cr:∀ a n cap,vr=.slice a n cap->n<=cap)(cs:∀ a n cap,vs=.slice a n cap->n<=cap):Calls Tryz.prog 47 #[.agg (Zt r sp lk t0 t1 va vr vs al sh by_ pr)] w fun e w'=>e=.returned (Zgw (Jj r sp lk t0 t1 ag rs ss al sh by_))∧Below w.heap.size w w':=by
 have HA0:=Ze ha;have HR0:=Ze hr;have HS0:=Ze hs;have HAC:=Ze ca;have HRC:=Ze cr;have HSC:=Ze cs;have SA:=Ze ha.shape;have SR:=Ze hr.shape;have SS:=Ze hs.shape;clear ha hr hs ca cr cs;have HB0:=Ze (fun X:Obj=>(Below.refl w.heap.size w).alloc (Nat.le_refl _) X);have HD:=Ze (fun(u:World) (X:Obj) (cs:Array Value) (h:Below (w.alloc X).heap.size (w.alloc X) u) (hX:X=.cells cs 25 (0,0))=>(h.block w.heap.size (by simp)).trans ((heap_alloc_new w X).trans (congrArg some hX)));unfold Zt;go_enter Tryz.func47,Tryz.ntmps47
 go_wp2_with fail
 refine(Zgr r sp lk t0 t1 va vr vs al sh by_ pr _).mono ?_;rintro e w1 ⟨rfl,hb1⟩;have q1:=Yk (Zb HD _ _ _ hb1 rfl);have HB1:=Ze hb1;have hz1:=hb1.size;simp only [World.size_alloc] at hz1;have b1:=Zb HD _ _ _ hb1 rfl;clear hb1;cases y1:Zar r al sh by_ with
 | false=>have HY:=Ze y1;clear y1 q1 b1;go_wp2;go_ret;exact⟨by rw [show Jj r sp lk t0 t1 ag rs ss al sh by_=false by simp [Jj,Zb HY]]; rfl,(Zb HB0 _).trans ((Zb HB1).mono (by simp))⟩
 | true =>
  have HY1:=Ze y1;clear y1;have k1:=q1.1;clear q1;go_wp2_with fail
  refine(Znd r sp lk t0 t1 va vr vs al sh by_ pr ag rs ss _ (Zb SA) (Zb SR) (Zb SS)).mono ?_;rintro e w2 ⟨rfl,hb2⟩;have hb2':=(Zb HB1).trans (hb2.mono (by simp; omega));have HB2:=Ze hb2';have hz2:=hb2.size;have k2:=(Yk (Zb HD _ _ _ hb2' rfl)).1;clear hb2 hb2' k1 b1;cases y2:Zfi ag rs ss with
  | false=>have HY:=Ze y2;clear y2 k2;go_wp2;go_ret;exact⟨by rw [show Jj r sp lk t0 t1 ag rs ss al sh by_=false by simp [Jj,Zb HY]]; rfl,(Zb HB0 _).trans ((Zb HB2).mono (by simp))⟩
  | true =>
   have hl:ag.length<=8∧rs.length<=4∧ss.length<=12:=of_decide_eq_true y2;have HY2:=Ze y2;have HL:=Ze hl;have HB3:=Ze ((Zb HB0 _).trans ((Zb HB2).mono (by simp)));clear y2 hl;go_wp2_with fail
   refine(Zdi r sp lk t0 t1 va vr vs al sh by_ pr ag rs ss _ ((Zb HA0).below (Zb HB3)) ((Zb HR0).below (Zb HB3)) ((Zb HS0).below (Zb HB3)) (Zb HAC) (Zb HRC) (Zb HSC) (Zb HL).1 (Zb HL).2.1 (Zb HL).2.2).mono ?_;rintro e w3 ⟨rfl,hb3⟩;have HB4:=Ze ((Zb HB3).trans (hb3.mono (by omega)));clear hb3 k2;cases y3:Gb r sp lk t0 t1 ag rs ss with
   | false=>have HY:=Ze y3;clear y3;go_wp2;go_ret;exact⟨by rw [show Jj r sp lk t0 t1 ag rs ss al sh by_=false by simp [Jj,Zb HY]]; rfl,Zb HB4⟩
   | true=>have HY:=Ze y3;clear y3;go_wp2;go_ret;exact⟨by rw [show Jj r sp lk t0 t1 ag rs ss al sh by_=true by simp [Jj,Zb HY,Zb HY1,Zb HY2]]; rfl,Zb HB4⟩
def ldv (m:Nat->Int):Nat->Nat->Int
 | _,0=>0
 | a,n+1=>m a+256*ldv m (a+1) n
def byt (v:Int)(k:Nat):Int:=v / 256 ^ k % 256
def upd (m:Nat->Int)(a:Nat)(v:Int)(n:Nat):Nat->Int:=fun i=>if a<=i∧i<a+n then byt v (i-a) else m i
structure Ol where
 fn:Zm
 b:Int
 i:Int
 v:List Int
 s:List (List Int)
 o:List Int
def ldB (bs:List Int)(a k:Nat):Int:=ldv (fun i=>bs.getD i 0) a k
def stB (bs:List Int)(a k:Nat)(v:Int):List Int:=(List.range bs.length).map (upd (fun i=>bs.getD i 0) a v k)
def Ygi (x:Ol)(a:Int×Int):List Int:=if a.1=0 then [x.v.getD a.2.toNat 0] else (List.range a.1.toNat).map fun k=>ldB (x.s.getD a.2.toNat []) (8*k) 8
def Zub (x:Ol)(l:List (Int×Int)):List Int:=l.flatMap (Ygi x)
def Lr (v:List Int)(l:List Int):List Int:=l.map fun k=>v.getD k.toNat 0
def Zga (v:List Int)(ds vals:List Int):List Int:=(ds.zip vals).foldl (fun v p=>v.set p.1.toNat p.2) v
def Zoh (bs:List Int)(ws:List Int):List Int:=(List.range ws.length).foldl (fun b k=>stB b (8*k) 8 (ws.getD k 0)) bs
def Se:List (Int×Int)->List Int->List (List Int)->List Int->List Int×List (List Int)
 | [],v,s,_=>(v,s)
 | p :: r,v,s,ws=>if p.1=0 then Se r (v.set p.2.toNat (ws.getD 0 0)) s (ws.drop 1) else Se r v (s.set p.2.toNat (Zoh (s.getD p.2.toNat []) (ws.take p.1.toNat))) (ws.drop p.1.toNat)
def Kw (f:Zm)(ws outs:List Int):Ol :=
 let q:=Se f.params (List.replicate f.homes.length 0) (f.slots.map fun n=>List.replicate (8*n).toNat 0) ws
 ⟨f,0,0,q.1,q.2,outs⟩
def Ii (op a b:Int):Int :=
 if op=3 then IntKind.u64.wrap (a+b) else if op=4 then IntKind.u64.wrap (a-b) else if op=5 then IntKind.u64.wrap (a*b) else if op=6 then bits .and .u64 a b else if op=7 then bits .xor .u64 a b else if op=8 then (if a<b then 1 else 0) else if op=9 then (if a=b then 1 else 0) else 0
def Zdw (y:Ol)(i:Yj):Ol :=
 if i.op=1 then { y with v:=y.v.set i.d.toNat i.n }
 else if i.op=2 then { y with v:=y.v.set i.d.toNat (y.v.getD i.a.toNat 0) }
 else if i.op=10 then { y with v:=y.v.set i.d.toNat (ldB (y.s.getD i.a.toNat []) i.bb.toNat i.n.toNat) }
 else if i.op=11 then { y with s:=y.s.set i.a.toNat (stB (y.s.getD i.a.toNat []) i.bb.toNat i.n.toNat (y.v.getD i.d.toNat 0)) }
 else if i.op=14 then { y with b:=i.a,i:=0 }
 else if i.op=15 then { y with b:=if y.v.getD i.d.toNat 0=0 then i.bb else i.a,i:=0 }
 else { y with v:=y.v.set i.d.toNat (Ii i.op (y.v.getD i.a.toNat 0) (y.v.getD i.bb.toNat 0)) }
def Dx:Type:=(List Int×Nat×List Int×List (Int×List Int)) ⊕ ((Int×Nat×List Int×List (Int×List Int)) ⊕ (List Int×List (Int×List Int)))
abbrev Dx.done (l:List Int)(left:Nat)(sc:List Int)(tr:List (Int×List Int)):Dx:=.inl (l,left,sc,tr)
abbrev Dx.trap (c:Int)(left:Nat)(sc:List Int)(tr:List (Int×List Int)):Dx:=.inr (.inl (c,left,sc,tr))
abbrev Dx.spent (sc:List Int)(tr:List (Int×List Int)):Dx:=.inr (.inr (sc,tr))
theorem Dx.el {motive:Dx->Prop}(r:Dx)(done:∀ l left sc tr,motive (.done l left sc tr))(trap:∀ c left sc tr,motive (.trap c left sc tr))(spent:∀ sc tr,motive (.spent sc tr)):motive r :=
 match r with
 | .inl (l,left,sc,tr)=>done l left sc tr
 | .inr (.inl (c,left,sc,tr))=>trap c left sc tr
 | .inr (.inr (sc,tr))=>spent sc tr
def Yf (x:Ol):Yj:=(x.fn.blocks.getD x.b.toNat []).getD x.i.toNat Lc
def Jh (x:Ol):Ol:={ x with i:=x.i+1 }
def Ybd (sc:List Int)(n:Nat):List Int:=(List.range n).map fun k=>sc.getD k 0
def Zgb (P:Zj)(y:Ol)(i:Yj)(outs:List Int):Ol:=Kw (P.funcs.getD i.f.toNat Zk) (Zub y i.args) outs
def ev (P:Zj):Nat->List Ol->List Int->List (Int×List Int)->Dx
 | 0,_,sc,tr=>.spent sc tr
 | _+1,[],sc,tr=>.spent sc tr
 | n+1,x :: R,sc,tr =>
  if (Yf x).op=12 then ev P n (Zgb P (Jh x) (Yf x) (Yf x).outs :: Jh x :: R) sc tr
  else if (Yf x).op=13 then ev P n ({ Jh x with v:=Zga x.v (Yf x).outs (Ybd sc (Yf x).outs.length) } :: R) (sc.drop (Yf x).outs.length) (tr++[((Yf x).f,Zub x (Yf x).args)])
  else if (Yf x).op=16 then
   match R with
   | []=>.done (Lr x.v (Yf x).outs) n sc tr
   | c :: R'=>ev P n ({ c with v:=Zga c.v x.o (Lr x.v (Yf x).outs) } :: R') sc tr
  else if (Yf x).op=17 then ev P n (Zgb P (Jh x) (Yf x) x.o :: R) sc tr
  else if (Yf x).op=18 then .trap (Yf x).n n sc tr
  else ev P n (Zdw (Jh x) (Yf x) :: R) sc tr
theorem Ycv (y:Ol)(i:Yj):(Zdw y i).o=y.o:=by
 unfold Zdw;repeat' split
 all_goals rfl
end Go.Proofs.YtkenknfgeoecbaaGreatDoor
