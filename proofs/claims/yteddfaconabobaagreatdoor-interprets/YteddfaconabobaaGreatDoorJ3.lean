import Derived.Test.YteddfaconabobaaGreatDoorAs
import Derived.Test.YteddfaconabobaaGreatDoorJ0
import Derived.Orders
import Derived.Laws.CopyRow
import Derived.Laws.CopyOwn
import Derived.Laws.ResultCell
import Derived.Test.YteddfaconabobaaGreatDoorShelf
namespace Go.Proofs.YteddfaconabobaaGreatDoor
open Go.RowKit Go.Extern.Stop Go.Stop Go.Extern
theorem Gl {w:World}{b o:Nat}{v:Value}(h:w.cell? ⟨b,o,none⟩=some v):b<w.heap.size:=by
 rcases Nat.lt_or_ge b w.heap.size with h' | h'
 ·
  exact h'
 ·
  simp [World.cell?,Array.getElem?_eq_none h'] at h
abbrev Dc (e f b a:Int):Value:=.agg #[.int .i64 e,.int .i64 f,.int .i64 b,.int .i64 a]
abbrev Xx (w:World):Prop:=w.cell? ⟨0,0,none⟩=some (.iface 153 (.agg #[.pointer (some ⟨2,67,none⟩)]))
set_option maxHeartbeats 400000 in
theorem Zgk (w:World):Calls Tryz.prog 18 #[.nilIface] w fun e w'=>e=.returned (Dc 0 (-1) (-1) (-1))∧Below w.heap.size w w':=by
 go_enter Tryz.func18,Tryz.ntmps18
 go_wp2;go_returns;exact⟨rfl,by go_grown⟩
theorem Xx.alloc {w:World}(h:Xx w)(o:Obj):Xx (w.alloc o):=by
 show(w.alloc o).cell? _=_;rw [World.cell?_alloc_lt _ _ ⟨0,0,none⟩ (Gl h)]; exact h
theorem Xx.setCell {w:World}(h:Xx w){a:Addr}(ha:0<a.block)(v:Value):Xx (w.setCell a v) :=
 ((Below.refl (min a.block w.heap.size) w).setCell (Nat.min_le_left _ _) v).cell (p:=⟨0,0,none⟩) (by show 0<min a.block w.heap.size; have:=Gl h; omega) |>.trans h
theorem Xx.below {w w':World}{B:Nat}(h:Xx w)(hb:Below B w w')(h0:0<B):Xx w':=(hb.cell (p:=⟨0,0,none⟩) h0).trans h
theorem Xx.drew {w:World}(h:Xx w):Xx w.drew:=h
set_option maxHeartbeats 1000000 in
theorem Zcl (n:Int)(w:World)(hg:Xx w):Calls Tryz.prog 18 #[.iface 87 (.int .i64 n)] w fun e w'=>e=.returned (Dc n (-1) (-1) (-1))∧Below w.heap.size w w':=by
 have hlt:=Gl hg;have HG:Hid (Xx w):=hg;clear hg;go_enter Tryz.func18,Tryz.ntmps18
 go_wp2_with fail
 refine(Zke n _ (.int .i64 0) _ ?s1 ?s2 ?s3).mono ?_;case s1=>repeat' (first | exact HG.out | apply Xx.alloc | (apply Xx.setCell) | (simp; done) | (simp; omega))
 case s2=>rw [World.cell?_alloc_at _ _ _ _ (by simp)]; rfl
 case s3=>rw [World.frozen?_alloc_at _ _ _ _ (by simp)]
 rintro e w' ⟨rfl,rfl⟩;go_wp2_with fail
 refine(Zhl n _ _ ?s1).mono ?_;case s1=>repeat' (first | exact HG.out | apply Xx.alloc | (apply Xx.setCell) | (simp; done) | (simp; omega))
 rintro e w' ⟨rfl,rfl⟩;go_wp2_with fail
 go_returns;refine⟨rfl,?_⟩;go_grown
theorem Ku {p:Prop}(h:p):Hid p:=h
theorem Oo {p:Prop}(h:Hid p):p:=h
structure Gu (w:World)(q:Nat)(n f b a:Int):Prop where
 c0:w.cell? ⟨q,0,none⟩=some (.iface 87 (.int .i64 n))
 c1:w.cell? ⟨q,1,none⟩=some (.int .i64 f)
 c2:w.cell? ⟨q,2,none⟩=some (.int .i64 b)
 c3:w.cell? ⟨q,3,none⟩=some (.int .i64 a)
theorem Gu.below {w w':World}{q:Nat}{n f b a:Int}(h:Gu w q n f b a)(hb:Below w.heap.size w w'):Gu w' q n f b a :=
 have hq:=Gl h.c0;⟨(hb.cell (p:=⟨q,0,none⟩) hq).trans h.c0,(hb.cell (p:=⟨q,1,none⟩) hq).trans h.c1,(hb.cell (p:=⟨q,2,none⟩) hq).trans h.c2,(hb.cell (p:=⟨q,3,none⟩) hq).trans h.c3⟩
theorem Gu.alloc {w:World}{q:Nat}{n f b a:Int}(h:Gu w q n f b a)(o:Obj):Gu (w.alloc o) q n f b a:=h.below (((Below.refl _ _).alloc (Nat.le_refl _) _))
theorem Gu.setCell {w:World}{q:Nat}{n f b a:Int}(h:Gu w q n f b a){c:Addr}(hc:c.block≠q)(v:Value):Gu (w.setCell c v) q n f b a:=by
 have e:∀ o,(w.setCell c v).cell? ⟨q,o,none⟩=w.cell? ⟨q,o,none⟩:=fun o=>World.cell?_of_block (Below.heap_setCell w c v q (fun e=>hc e.symm));exact⟨(e _).trans h.c0,(e _).trans h.c1,(e _).trans h.c2,(e _).trans h.c3⟩
structure Dp (w w':World)(t:Addr)(v:Value):Prop where
 same:∀ x,x<w.heap.size→x≠t.block→w'.heap[x]?=w.heap[x]?
 cell:w'.cell? t=some v
 froz:w'.frozen? t=w.frozen? t
 size:w'.heap.size=w.heap.size+4
 os:w'.os=w.os
 tape:w'.tape=w.tape
 output:w'.output=w.output
theorem Zig (w:World)(a b c d:Obj)(t:Addr)(old v:Value)(h:w.cell? t=some old):Dp w ((((w.alloc a).alloc b).alloc c).alloc d |>.setCell t v) t v:=by
 have ht:t.block<w.heap.size:=World.block_lt_of_cell? w _ h;have hb:Below w.heap.size w ((((w.alloc a).alloc b).alloc c).alloc d):=((((Below.refl _ _).alloc (Nat.le_refl _) _).alloc (by simp) _).alloc (by simp; try omega) _).alloc (by simp; try omega) _;refine⟨fun x hx hne=>(Below.heap_setCell _ _ _ _ hne).trans (hb.block x hx),World.cell?_setCell_same _ _ _ ((hb.cell (p:=t) ht).trans h),?_,by simp,rfl,rfl,rfl⟩;rw [World.frozen?_setCell];exact hb.frozen (p:=t) ht
theorem Kv (w:World)(o:Obj)(x:Nat)(h:x<w.heap.size):(w.alloc o).heap[x]?=w.heap[x]?:=((Below.refl w.heap.size w).alloc (Nat.le_refl _) o).block x h
theorem Xh {w:World}{T:Nat}{t:TypeId}{cs:Array Value}(h:w.heap[T]?=some (.cells cs t (0,0))):(∀ j,w.cell? ⟨T,j,none⟩=cs[j]?)∧∀ j,w.frozen? ⟨T,j,none⟩=false :=
 ⟨fun j=>by simp [World.cell?,h],fun j=>by simp [World.frozen?,h]⟩
theorem Dp.low {w w':World}{t:Addr}{v:Value}(h:Dp w w' t v){B:Nat}(hB:B≤t.block)(hs:B≤w.heap.size):Below B w w':=⟨h.os,h.tape,h.output,by have:=h.size; omega,fun x hx=>h.same x (by omega) (by omega)⟩
theorem Dp.bad {w w':World}{t:Addr}{v:Value}(h:Dp w w' t v){q:Nat}{n f b a:Int}(hq:q≠t.block)(hb:Gu w q n f b a):Gu w' q n f b a :=
 have e:=h.same q (Gl hb.c0) hq;⟨(World.cell?_of_block e).trans hb.c0,(World.cell?_of_block e).trans hb.c1,(World.cell?_of_block e).trans hb.c2,(World.cell?_of_block e).trans hb.c3⟩
theorem Dp.err {w w':World}{t:Addr}{v:Value}(h:Dp w w' t v)(ht:t.block≠0)(hb:Xx w):Xx w':=(World.cell?_of_block (h.same 0 (Gl hb) (Ne.symm ht))).trans hb
theorem Zih {w:World}{T:Nat}{o:Obj}(h:w.heap[T]?=some o):w.drew.heap[T]?=some o:=h
theorem Zpz {w:World}{T:Nat}{t:TypeId}{z0 z1 z2 z3:Value}(h:w.heap[T]?=some (.cells #[z0,z1,z2,z3] t (0,0)))(a b c d:Value):((((w.setCell ⟨T,0,none⟩ a).setCell ⟨T,1,none⟩ b).setCell ⟨T,2,none⟩ c).setCell ⟨T,3,none⟩ d).heap[T]?=some (.cells #[a,b,c,d] t (0,0)) :=
 heap_setCell_same _ _ _ _ _ _ (heap_setCell_same _ _ _ _ _ _ (heap_setCell_same _ _ _ _ _ _ (heap_setCell_same _ _ _ _ _ _ h)))
set_option maxHeartbeats 4000000 in
theorem Zgl (n f b a:Int)(q:Nat)(w:World)(hg:Xx w)(h:Gu w q n f b a):Calls Tryz.prog 18 #[.iface 90 (.pointer (some ⟨q,0,none⟩))] w fun e w'=>e=.returned (Dc n f b a)∧Below w.heap.size w w':=by
 have hlt:=Gl hg;have hq:=Gl h.c0;have HG:Hid (Xx w):=hg;have HB:Hid (Gu w q n f b a):=h;clear hg h;go_enter Tryz.func18,Tryz.ntmps18
 go_wp2_with fail
 refine(Zhm n q 0 _ (.int .i64 0) _ ?s1 ?s2 ?s3 ?s4).mono ?_;case s1=>repeat' (first | exact HG.out | apply Xx.alloc | (apply Xx.setCell) | (simp; done) | (simp; omega))
 case s2=>rw [World.cell?_alloc_at _ _ _ _ (by simp)]; rfl
 case s3=>rw [World.frozen?_alloc_at _ _ _ _ (by simp)]
 case s4 =>
  refine Gu.c0 (n:=n) (f:=f) (b:=b) (a:=a) ?_;repeat' (first | exact HB.out | apply Gu.alloc | (apply Gu.setCell) | (simp; done) | (simp; omega))
 rintro e w1 ⟨rfl,hw1⟩;have K1:=hw1 ▸ Zig _ _ _ _ _ _ (.int .i64 0) (.int .i64 n) (by rw [World.cell?_alloc_at _ _ _ _ (by simp)]; rfl);clear hw1;have rR:w1.heap[w.heap.size]?=some (.cells #[.int .i64 0,.int .i64 0,.int .i64 0,.int .i64 0] 40 (0,0)):=(K1.same _ (by simp; omega) (by simp; try omega)).trans ((Kv _ _ _ (by simp; omega)).trans ((Kv _ _ _ (by simp)).trans (heap_alloc_new _ _)));have rF:w1.heap[w.heap.size+1]?=some (.cells #[.int .i64 (-1),.int .i64 (-1),.int .i64 (-1),.int .i64 (-1)] 40 (0,0)):=(K1.same _ (by simp; try omega) (by simp; try omega)).trans ((Kv _ _ _ (by simp)).trans (by simpa using heap_alloc_new (w.alloc _) _));have B1:Gu w1 q n f b a:=K1.bad (by simp; omega) (((HB.out.alloc _).alloc _).alloc _);have E1:Xx w1:=K1.err (by simp) (((HG.out.alloc _).alloc _).alloc _);have L1:Below w.heap.size w w1:=((((Below.refl _ _).alloc (Nat.le_refl _) _).alloc (by simp) _).alloc (by simp; try omega) _).trans (K1.low (by simp; try omega) (by simp; try omega));have z1:w1.heap.size=w.heap.size+7:=by have:=K1.size; simp at this; omega
 have cn:w1.cell? ⟨w.heap.size+1+1,0,none⟩=some (.int .i64 n):=K1.cell;clear K1;have f0:=(Xh rF).1 0;have f1:=(Xh rF).1 1;have f2:=(Xh rF).1 2;have f3:=(Xh rF).1 3;have fz:=(Xh rF).2;simp at f0 f1 f2 f3;have HB1:=Ku B1;have HE1:=Ku E1;have HL1:=Ku L1;have HR1:=Ku rR;have HF1:=Ku rF;clear B1 E1 L1 rR rF;go_wp2_with fail
 refine(Zkf ⟨q,0,none⟩ _ (.pointer none) _ ?s1 ?s2 ?s3).mono ?_;case s1=>exact((Oo HE1).setCell (by simp) _).alloc _
 case s2=>rw [World.cell?_alloc_at _ _ _ _ (by simp [z1])]; rfl
 case s3=>rw [World.frozen?_alloc_at _ _ _ _ (by simp [z1])]
 rintro e w2 ⟨rfl,hw2⟩;have K2:=hw2 ▸ Zig _ _ _ _ _ _ (.pointer none) (.pointer (some ⟨q,0,none⟩)) (by rw [World.cell?_alloc_at _ _ _ _ (by simp [z1])]; rfl);clear hw2;have gR:w2.heap[w.heap.size]?=some (.cells #[.int .i64 0,.int .i64 0,.int .i64 0,.int .i64 0] 40 (0,0)):=(K2.same _ (by simp; omega) (by simp)).trans ((Kv _ _ _ (by simp; omega)).trans ((Below.heap_setCell _ _ _ _ (by simp)).trans (Oo HR1)));have gF:w2.heap[w.heap.size+1]?=some (.cells #[.int .i64 n,.int .i64 (-1),.int .i64 (-1),.int .i64 (-1)] 40 (0,0)):=(K2.same _ (by simp; omega) (by simp)).trans ((Kv _ _ _ (by simp; omega)).trans (heap_setCell_same _ _ _ _ _ _ (Oo HF1)));have B2:Gu w2 q n f b a:=K2.bad (by simp; omega) (((Oo HB1).setCell (by simp; omega) _).alloc _);have L2:Below w.heap.size w w2:=(((Oo HL1).setCell (by simp) _).alloc (by simp; omega) _).trans (K2.low (by simp) (by simp; omega));have cb:w2.cell? ⟨w.heap.size+7,0,none⟩=some (.pointer (some ⟨q,0,none⟩)):=K2.cell;clear K2 f0 f1 f2 f3 fz cn;have f0:=(Xh gF).1 0;have f1:=(Xh gF).1 1;have f2:=(Xh gF).1 2;have f3:=(Xh gF).1 3;have fz:=(Xh gF).2;have r0:=(Xh gR).1 0;have r1:=(Xh gR).1 1;have r2:=(Xh gR).1 2;have r3:=(Xh gR).1 3;have rz:=(Xh gR).2;simp at f0 f1 f2 f3 r0 r1 r2 r3;have d1:=B2.c1;have d2:=B2.c2;have d3:=B2.c3;have HL2:=Ku L2;have HR2:=Ku gR;clear B2 L2 gR gF HB1 HE1 HL1 HR1 HF1 HG HB;generalize hT:w.heap.size=T at *;go_wp2_with fail
 go_region
 all_goals go_wp2
 all_goals have hblk:=Zpz ((Below.heap_setCell _ ⟨T+1,3,none⟩ (.int .i64 a) T (by simp)).trans ((Below.heap_setCell _ ⟨T+1,2,none⟩ (.int .i64 b) T (by simp)).trans ((Below.heap_setCell _ ⟨T+1,1,none⟩ (.int .i64 f) T (by simp)).trans (Oo HR2)))) (.int .i64 n) (.int .i64 f) (.int .i64 b) (.int .i64 a)
 all_goals have hinf:(Tryz.prog.info? 40).map (·.size)=some 4:=by kernel_rfl
 all_goals refine bodyPost_ret (results_cell_row (fn:=Tryz.f18) (p:=2) (ty:=40) rfl _ _ T 40 #[.int .i64 n,.int .i64 f,.int .i64 b,.int .i64 a] (0,0) _ rfl (Zih hblk) Tryz.underlying40 rfl hinf) rfl ?_
 all_goals refine⟨rfl,?_⟩
 all_goals rw [hT]
 all_goals have L:=Oo HL2
 all_goals exact(((((((L.setCell (by show T≤T+1; omega) _).setCell (by show T≤T+1; omega) _).setCell (by show T≤T+1; omega) _).setCell (Nat.le_refl _) _).setCell (Nat.le_refl _) _).setCell (Nat.le_refl _) _).setCell (Nat.le_refl _) _).drew
end Go.Proofs.YteddfaconabobaaGreatDoor
namespace Go.Proofs.YteddfaconabobaaGreatDoor
open Go.RowKit
theorem Gu.setRow {w:World}{q T:Nat}{n f b a:Int}(h:Gu w q n f b a)(hq:q≠T)(cs:Array Value):Gu (w.setRow T cs) q n f b a :=
 have e:=setRow_other w T q cs hq;⟨(World.cell?_of_block e).trans h.c0,(World.cell?_of_block e).trans h.c1,(World.cell?_of_block e).trans h.c2,(World.cell?_of_block e).trans h.c3⟩
def Rs (w:World)(v:Value)(ns:List Int):Prop:=(ns=[]∧∃ p cap,v=.slice p 0 cap)∨∃ sb so cap,v=.slice (some ⟨sb,so,none⟩) ns.length cap∧∀ i,i<ns.length→w.cell? ⟨sb,so+i,none⟩=some (.int .i64 (ns.getD i 0))
theorem Rs.below {w w':World}{v:Value}{ns:List Int}(h:Rs w v ns)(hb:Below w.heap.size w w'):Rs w' v ns:=by
 rcases h with h | ⟨sb,so,cap,e,hc⟩
 ·
  exact Or.inl h
 ·
  exact Or.inr ⟨sb,so,cap,e,fun i hi=>(hb.cell (p:=⟨sb,so+i,none⟩) (ltc (hc i hi))).trans (hc i hi)⟩
def Zqc (r sp lk t0 t1:Int)(ag rs ss:List Int)(al sh by_:Int)(k:Nat):List Int:=[[r],[sp],[lk],[t0,t1],ag,rs,ss,[al],[sh],[by_]].getD k []
def pre (r sp lk t0 t1:Int)(ag rs ss:List Int)(al sh by_:Int):Nat→List UInt8
 | 0=>[]
 | k+1=>pre r sp lk t0 t1 ag rs ss al sh by_ k++Zjl k (Zqc r sp lk t0 t1 ag rs ss al sh by_ k)
set_option maxHeartbeats 1000000 in
theorem Zfv (n lo hi:Int)(w:World):Calls Tryz.prog 20 #[.int .i64 n,.int .i64 lo,.int .i64 hi] w fun e w'=>e=.returned (.bool (decide (lo≤n∧n≤hi)))∧w'=w:=by
 by_cases h1:lo≤n
 ·
  by_cases h2:n≤hi
  ·
   have hd:decide (lo≤n∧n≤hi)=true:=by simp; omega
   rw [hd];clear hd;go_enter Tryz.func20,Tryz.ntmps20
   go_wp2;go_ret;exact⟨rfl,rfl⟩
  ·
   have hd:decide (lo≤n∧n≤hi)=false:=by simp; omega
   rw [hd];clear hd;go_enter Tryz.func20,Tryz.ntmps20
   go_wp2;go_ret;exact⟨rfl,rfl⟩
 ·
  have hd:decide (lo≤n∧n≤hi)=false:=by simp; omega
  rw [hd];clear hd;go_enter Tryz.func20,Tryz.ntmps20
  go_wp2;go_ret;exact⟨rfl,rfl⟩
theorem Rs.get {w:World}{v:Value}{ns:List Int}(h:Rs w v ns)(hn:ns≠[]):∃ sb so cap,v=.slice (some ⟨sb,so,none⟩) ns.length cap∧∀ i,i<ns.length→w.cell? ⟨sb,so+i,none⟩=some (.int .i64 (ns.getD i 0)):=by
 rcases h with⟨e,_⟩ | h
 ·
  exact absurd e hn
 ·
  exact h
theorem Rt {ns:List Int}{x:Int}{k:Nat}(hk:k<ns.length)(h:¬ x ∈ ns.take k)(hx:ns.getD k 0≠x):¬ x ∈ ns.take (k+1):=by
 rw [List.take_succ_eq_append_getElem hk];intro hm;rcases List.mem_append.1 hm with h' | h'
 ·
  exact h h'
 ·
  simp at h';exact hx (by simp [List.getD,hk,h'])
theorem Su {ns:List Int}{x:Int}{k:Nat}(hk:k<ns.length)(hx:ns.getD k 0=x):x ∈ ns:=by
 have:ns[k]=x:=by simpa [List.getD,hk] using hx
 exact this ▸ List.getElem_mem hk
set_option maxHeartbeats 1000000 in
set_option maxRecDepth 100000 in
theorem Nr (ns:List Int)(x:Int)(v:Value)(w:World)(h:Rs w v ns)(hn:ns.length≤1000000):Calls Tryz.prog 48 #[v,.int .i64 x] w fun e w'=>e=.returned (.bool (decide (x ∈ ns)))∧w'=w:=by
 by_cases hne:ns=[]
 ·
  obtain⟨p,cap,rfl⟩:∃ p cap,v=.slice p 0 cap:=by
   rcases h with⟨_,p,cap,e⟩ | ⟨sb,so,cap,e,_⟩
   ·
    exact⟨p,cap,e⟩
   ·
    rw [hne] at e; exact⟨_,_,e⟩
  subst hne;clear h;go_enter Tryz.func48,Tryz.ntmps48
  go_wp2_with fail
  refine wp_loop_rounds 1 ?_;rw [rounds_succ];go_wp2;go_ret;exact⟨by simp,rfl⟩
 ·
  obtain⟨sb,so,cap,rfl,hc⟩:=h.get hne;have HC:=Zj hc;clear h hc;go_enter Tryz.func48,Tryz.ntmps48
  go_wp2_with fail
  go_loopw [9] (fun j w'=>∃ k:Nat,j=.int .i64 k∧k≤ns.length∧w'=w∧¬ x ∈ ns.take k) (fun j _=>ns.length-(intOf j).toNat)
  case atStart=>exact⟨0,rfl,by omega,rfl,by simp⟩
  case round =>
   obtain⟨k,rfl,hk,rfl,hno⟩:=hrel;have HN:=Zj hno;clear hno;by_cases hlt:k<ns.length
   ·
    have c:=Zc HC k hlt;by_cases hx:ns.getD k 0=x
    ·
     rw [hx] at c;have hm:=Zj (Su hlt hx);clear hx;go_wp2;go_ret;exact⟨by simp [Zc hm],rfl⟩
    ·
     have HT:=Zj (Rt hlt (Zc HN) hx);generalize hy:ns.getD k 0=y at c hx;have z:(y==x)=false:=by simpa using hx
     clear hy;go_wp2;go_roundw
     case rel=>exact⟨k+1,by go_num,by omega,trivial,Zc HT⟩
     case measure=>simp [intOf]; omega
   ·
    obtain rfl:k=ns.length:=by omega
    have HT:=Zj (show ¬ x ∈ ns by have:=Zc HN; rwa [List.take_length] at this);go_wp2;go_ret;exact⟨by simp [Zc HT],rfl⟩
theorem Nb (ns:List Int)(x:Int)(v:Value)(w:World)(h:Rs w v ns)(hn:ns.length≤1000000):Calls Tryz.prog 97 #[v,.int .i64 x] w fun e w'=>e=.returned (.bool (decide (x ∈ ns)))∧w'=w:=by
 by_cases hne:ns=[]
 ·
  obtain⟨p,cap,rfl⟩:∃ p cap,v=.slice p 0 cap:=by
   rcases h with⟨_,p,cap,e⟩ | ⟨sb,so,cap,e,_⟩
   ·
    exact⟨p,cap,e⟩
   ·
    rw [hne] at e; exact⟨_,_,e⟩
  refine(Tryz.slices_Contains_int_empty p cap x w).mono ?_;rintro e w' ⟨rfl,rfl⟩;exact⟨by rw [hne]; simp,rfl⟩
 ·
  obtain⟨sb,so,cap,rfl,hc⟩:=h.get hne;refine(Tryz.slices_Contains_int sb so ns.length cap ns x w (Nat.le_refl _) (by omega) hc).mono ?_;rintro e w' ⟨rfl,rfl⟩;exact⟨by rw [List.take_length]; simp,rfl⟩
def Xz (al bs:List Int):Bool:=al.any fun r=>decide (r ∈ bs)
set_option maxHeartbeats 1000000 in
set_option maxRecDepth 100000 in
theorem Cx (al bs:List Int)(va vb:Value)(w:World)(ha:Rs w va al)(hb:Rs w vb bs)(hna:al.length≤1000000)(hnb:bs.length≤1000000):Calls Tryz.prog 96 #[va,vb] w fun e w'=>e=.returned (.bool (Xz al bs))∧w'=w:=by
 have HB:=Zj hb;clear hb;by_cases hne:al=[]
 ·
  obtain⟨p,cap,rfl⟩:∃ p cap,va=.slice p 0 cap:=by
   rcases ha with⟨_,p,cap,e⟩ | ⟨sb,so,cap,e,_⟩
   ·
    exact⟨p,cap,e⟩
   ·
    rw [hne] at e; exact⟨_,_,e⟩
  subst hne;clear ha;go_enter Tryz.func96,Tryz.ntmps96
  go_wp2_with fail
  refine wp_loop_rounds 1 ?_;rw [rounds_succ];go_wp2;go_ret;exact⟨rfl,rfl⟩
 ·
  obtain⟨sb,so,cap,rfl,hc⟩:=ha.get hne;have HC:=Zj hc;clear ha hc;go_enter Tryz.func96,Tryz.ntmps96
  go_wp2_with fail
  go_loopw [9] (fun j w'=>∃ k:Nat,j=.int .i64 k∧k≤al.length∧w'=w∧Xz (al.take k) bs=false) (fun j _=>al.length-(intOf j).toNat)
  case atStart=>exact⟨0,rfl,by omega,rfl,by simp [Xz]⟩
  case round =>
   obtain⟨k,rfl,hk,rfl,hno⟩:=hrel;have HN:=Zj hno;clear hno;by_cases hlt:k<al.length
   ·
    have c:=Zc HC k hlt;have HD:=Zj (Nb bs (al.getD k 0) vb wr (Zc HB) hnb);have hg:al.getD k 0=al[k]:=by simp [List.getD,hlt]
    have hst:Xz (al.take (k+1)) bs=decide (al.getD k 0 ∈ bs):=by
     rw [List.take_succ_eq_append_getElem hlt];unfold Xz;rw [List.any_append];have:=Zc HN;unfold Xz at this;rw [this,hg];simp
    have hall:decide (al.getD k 0 ∈ bs)=true→Xz al bs=true:=fun h=>by
     unfold Xz;rw [List.any_eq_true];exact⟨al[k],List.getElem_mem hlt,by rw [← hg]; exact h⟩
    have HS:=Zj hst;have HA:=Zj hall;clear hst hall hg;generalize decide (al.getD k 0 ∈ bs)=yes at *;generalize al.getD k 0=y at *;go_wp2_with fail
    refine(Zc HD).mono ?_;rintro e w2 ⟨rfl,h2⟩;subst w2;cases yes with
    | true =>
     go_wp2;go_ret;exact⟨by simp [Zc HA trivial],rfl⟩
    | false =>
     go_wp2;go_roundw
     case rel=>exact⟨k+1,by go_num,by omega,trivial,Zc HS⟩
     case measure=>simp [intOf]; omega
   ·
    obtain rfl:k=al.length:=by omega
    have HT:=Zj (show Xz al bs=false by have:=Zc HN; rwa [List.take_length] at this);go_wp2;go_ret;exact⟨by simp [Zc HT],rfl⟩
def Sj (l:List Int)(c:Int)(i:Nat):Bool:=decide (0≤l.getD i 0∧l.getD i 0<c∧¬ l.getD i 0 ∈ l.take i)
def Lj (l:List Int)(c:Int):Bool:=(List.range l.length).all (Sj l c)
theorem Rs.take {w:World}{sb so:Nat}{ns:List Int}(hc:∀ i,i<ns.length→w.cell? ⟨sb,so+i,none⟩=some (.int .i64 (ns.getD i 0)))(k cap':Nat)(hk:k≤ns.length):Rs w (.slice (some ⟨sb,so,none⟩) k cap') (ns.take k):=by
 have hl:(ns.take k).length=k:=by simp; omega
 refine Or.inr ⟨sb,so,cap',by rw [hl],fun i hi=>?_⟩;rw [hl] at hi;rw [hc i (by omega)];simp [List.getD,hi]
set_option maxHeartbeats 2000000 in
set_option maxRecDepth 100000 in
theorem Lo (ns:List Int)(c:Int)(v:Value)(w:World)(h:Rs w v ns)(hn:ns.length≤1000000)(hcap:∀ a n cap,v=.slice a n cap→n≤cap):Calls Tryz.prog 95 #[v,.int .i64 c] w fun e w'=>e=.returned (.bool (Lj ns c))∧w'=w:=by
 by_cases hne:ns=[]
 ·
  obtain⟨p,cap,rfl⟩:∃ p cap,v=.slice p 0 cap:=by
   rcases h with⟨_,p,cap,e⟩ | ⟨sb,so,cap,e,_⟩
   ·
    exact⟨p,cap,e⟩
   ·
    rw [hne] at e; exact⟨_,_,e⟩
  subst hne;clear h hcap;go_enter Tryz.func95,Tryz.ntmps95
  go_wp2_with fail
  refine wp_loop_rounds 1 ?_;rw [rounds_succ];go_wp2;go_ret;exact⟨rfl,rfl⟩
 ·
  obtain⟨sb,so,cap,rfl,hc⟩:=h.get hne;have hcp:=hcap _ _ _ rfl;have HC:=Zj hc;clear h hc hcap;go_enter Tryz.func95,Tryz.ntmps95
  go_wp2_with fail
  go_loopw [9] (fun j w'=>∃ k:Nat,j=.int .i64 k∧k≤ns.length∧w'=w∧∀ q,q<k→Sj ns c q=true) (fun j _=>ns.length-(intOf j).toNat)
  case atStart=>exact⟨0,rfl,by omega,rfl,fun q hq=>by omega⟩
  case round =>
   obtain⟨k,rfl,hk,rfl,hno⟩:=hrel;have HN:=Zj hno;clear hno;by_cases hlt:k<ns.length
   ·
    have cc:=Zc HC k hlt;have bad:Sj ns c k=false→Lj ns c=false:=fun hb=>by
     unfold Lj;rw [List.all_eq_false];exact⟨k,List.mem_range.2 hlt,by simp [hb]⟩
    have HBAD:=Zj bad;have hrd:Sj ns c k=decide (0≤ns.getD k 0∧ns.getD k 0<c∧¬ ns.getD k 0 ∈ ns.take k):=rfl;have HRD:=Zj hrd;have HCT:=Zj (fun cap'=>Nb (ns.take k) (ns.getD k 0) _ wr (Rs.take (Zc HC) k cap' (by omega)) (by simp; omega));have next:Sj ns c k=true→∀ q,q<k+1→Sj ns c q=true:=fun hb q hq=>by
     rcases Nat.lt_succ_iff_lt_or_eq.1 hq with h' | h'
     ·
      exact Zc HN q h'
     ·
      subst h'; exact hb
    have HNX:=Zj next;clear bad hrd next;generalize hy:ns.getD k 0=y at cc HRD HCT;clear hy;by_cases h0:0≤y
    ·
     by_cases h1:y<c
     ·
      generalize hm:decide (y ∈ ns.take k)=yes at HCT;have hrr:Sj ns c k=!yes:=by rw [Zc HRD,← hm]; simp [h0,h1]
      have HRR:=Zj hrr;clear hrr hm;go_wp2_with fail
      refine(Zc HCT _).mono ?_;rintro e w2 ⟨rfl,h2⟩;subst w2;cases yes with
      | true =>
       have hrr:=Zj (Zc HBAD (Zc HRR));go_wp2;go_ret;exact⟨by simp [Zc hrr],rfl⟩
      | false =>
       have hrr:=Zj (Zc HNX (Zc HRR));go_wp2;go_roundw
       case rel=>exact⟨k+1,by go_num,by omega,trivial,Zc hrr⟩
       case measure=>simp [intOf]; omega
     ·
      have hrr:=Zj (Zc HBAD (by rw [Zc HRD]; simp; omega));go_wp2;go_ret;exact⟨by simp [Zc hrr],rfl⟩
    ·
     have hrr:=Zj (Zc HBAD (by rw [Zc HRD]; simp; omega));go_wp2;go_ret;exact⟨by simp [Zc hrr],rfl⟩
   ·
    obtain rfl:k=ns.length:=by omega
    have HT:=Zj (show Lj ns c=true by unfold Lj; rw [List.all_eq_true]; exact fun q hq=>Zc HN q (List.mem_range.1 hq));go_wp2;go_ret;exact⟨by simp [Zc HT],rfl⟩
def Ss (r al sh by_:Int):Bool:=decide (4≤r∧r≤16∧(al=8∨al=16∨al=32)∧0≤sh∧sh≤32∧sh % 8=0∧0≤by_∧by_≤4)
set_option maxHeartbeats 2000000 in
theorem Zbt (r sp lk t0 t1:Int)(va vr vs:Value)(al sh by_:Int)(pr:Bool)(w:World):Calls Tryz.prog 71 #[.agg (Yv r sp lk t0 t1 va vr vs al sh by_ pr)] w fun e w'=>e=.returned (.bool (Ss r al sh by_))∧Below w.heap.size w w':=by
 unfold Yv;have no:∀ p:Prop,¬ (4≤r∧r≤16∧(al=8∨al=16∨al=32)∧0≤sh∧sh≤32∧sh % 8=0∧0≤by_∧by_≤4)→Ss r al sh by_=false:=fun _ h=>decide_eq_false h;have NO:=Zj no;clear no;by_cases h1:4≤r
 ·
  by_cases h2:r≤16
  ·
   by_cases h3:al=8∨al=16∨al=32
   ·
    by_cases h4:0≤sh
    ·
     by_cases h5:sh≤32
     ·
      by_cases h6:sh % 8=0
      ·
       have z6:(sh % 8==0)=true:=by simp [h6]
       by_cases h7:0≤by_
       ·
        by_cases h8:by_≤4
        ·
         have hy:Ss r al sh by_=true:=decide_eq_true ⟨h1,h2,h3,h4,h5,h6,h7,h8⟩;rw [hy];clear hy h6;rcases h3 with rfl | rfl | rfl;all_goals
          go_enter Tryz.func71,Tryz.ntmps71
          go_wp2;go_ret;exact⟨rfl,by go_grown⟩
        ·
         rw [Zc NO True (by omega)];clear h6;rcases h3 with rfl | rfl | rfl;all_goals
          go_enter Tryz.func71,Tryz.ntmps71
          go_wp2;go_ret;exact⟨rfl,by go_grown⟩
       ·
        rw [Zc NO True (by omega)];clear h6;rcases h3 with rfl | rfl | rfl;all_goals
         go_enter Tryz.func71,Tryz.ntmps71
         go_wp2;go_ret;exact⟨rfl,by go_grown⟩
      ·
       have z6:(sh % 8==0)=false:=by simp [h6]
       rw [Zc NO True (by omega)];clear h6;rcases h3 with rfl | rfl | rfl;all_goals
        go_enter Tryz.func71,Tryz.ntmps71
        go_wp2;go_ret;exact⟨rfl,by go_grown⟩
     ·
      rw [Zc NO True (by omega)];rcases h3 with rfl | rfl | rfl;all_goals
       go_enter Tryz.func71,Tryz.ntmps71
       go_wp2;go_ret;exact⟨rfl,by go_grown⟩
    ·
     rw [Zc NO True (by omega)];rcases h3 with rfl | rfl | rfl;all_goals
      go_enter Tryz.func71,Tryz.ntmps71
      go_wp2;go_ret;exact⟨rfl,by go_grown⟩
   ·
    rw [Zc NO True (by omega)];have z1:(al==8)=false:=by simp; omega
    have z2:(al==16)=false:=by simp; omega
    have z3:(al==32)=false:=by simp; omega
    clear h3;go_enter Tryz.func71,Tryz.ntmps71
    go_wp2;go_ret;exact⟨rfl,by go_grown⟩
  ·
   rw [Zc NO True (by omega)];go_enter Tryz.func71,Tryz.ntmps71
   go_wp2;go_ret;exact⟨rfl,by go_grown⟩
 ·
  rw [Zc NO True (by omega)];go_enter Tryz.func71,Tryz.ntmps71
  go_wp2;go_ret;exact⟨rfl,by go_grown⟩
theorem Rs.shape {w:World}{v:Value}{ns:List Int}(h:Rs w v ns):∃ p cap,v=.slice p ns.length cap:=by
 rcases h with⟨rfl,p,cap,e⟩ | ⟨sb,so,cap,e,_⟩
 ·
  exact⟨p,cap,e⟩
 ·
  exact⟨_,_,e⟩
def St (ag rs ss:List Int):Bool:=decide (ag.length≤8∧rs.length≤4∧ss.length≤12)
set_option maxHeartbeats 2000000 in
theorem Zep (r sp lk t0 t1:Int)(va vr vs:Value)(al sh by_:Int)(pr:Bool)(ag rs ss:List Int)(w:World)(ha:∃ p cap,va=.slice p ag.length cap)(hr:∃ p cap,vr=.slice p rs.length cap)(hs:∃ p cap,vs=.slice p ss.length cap):Calls Tryz.prog 72 #[.agg (Yv r sp lk t0 t1 va vr vs al sh by_ pr)] w fun e w'=>e=.returned (.bool (St ag rs ss))∧Below w.heap.size w w':=by
 unfold Yv;obtain⟨pa,ca,rfl⟩:=ha;obtain⟨pr',cr,rfl⟩:=hr;obtain⟨ps,cs,rfl⟩:=hs;unfold St;generalize ag.length=na;generalize rs.length=nr;generalize ss.length=ns;by_cases h1:na≤8
 ·
  by_cases h2:nr≤4
  ·
   by_cases h3:ns≤12
   ·
    rw [decide_eq_true ⟨h1,h2,h3⟩];go_enter Tryz.func72,Tryz.ntmps72
    go_wp2;go_ret;exact⟨by show Ending.returned (.bool (decide ((ns:Int)≤12)))=_; rw [decide_eq_true (by omega)],by go_grown⟩
   ·
    rw [decide_eq_false (fun h=>h3 h.2.2)];go_enter Tryz.func72,Tryz.ntmps72
    go_wp2;go_ret;exact⟨by show Ending.returned (.bool (decide ((ns:Int)≤12)))=_; rw [decide_eq_false (by omega)],by go_grown⟩
  ·
   rw [decide_eq_false (fun h=>h2 h.2.1)];go_enter Tryz.func72,Tryz.ntmps72
   go_wp2;go_ret;exact⟨rfl,by go_grown⟩
 ·
  rw [decide_eq_false (fun h=>h1 h.1)];go_enter Tryz.func72,Tryz.ntmps72
  go_wp2;go_ret;exact⟨rfl,by go_grown⟩
def Zt (sp lk t0 t1:Int):List Int:=if lk=-1 then [sp,t0,t1] else [sp,t0,t1,lk]
theorem Zdi (sp lk t0 t1:Int):(Zt sp lk t0 t1).length≤4:=by unfold Zt; split <;> simp
theorem Da {w:World}{base:Nat}{v:Value}{ns:List Int}(h:w.ownsRow base 3 1 v ns.length (Se ns)):Rs w v ns:=by
 rcases h.2 with⟨e,e0⟩ | ⟨g,cap,cur,e,-⟩
 ·
  exact Or.inl ⟨List.eq_nil_of_length_eq_zero e0,none,0,by rw [e]⟩
 ·
  refine Or.inr ⟨g,0,cap,e,fun i hi=>?_⟩;subst e;have:=h.cellAt i (by omega);simp only [Nat.zero_add] at this ⊢;rw [this];simp [Se,hi]
theorem Dv {w:World}{base n:Nat}{v:Value}{xs:List Value}(h:w.ownsRow base 3 1 v n xs):∀ a n cap,v=.slice a n cap→n≤cap:=by
 intro a m cap e;rcases h.2 with⟨e1,e0⟩ | ⟨g,cap',cur,e1,_,_,hc,_⟩
 ·
  rw [e1] at e; injection e with _ h2 h3; omega
 ·
  rw [e1] at e; injection e with _ h2 h3; omega
set_option maxHeartbeats 2000000 in
set_option maxRecDepth 100000 in
theorem Cv (r sp lk t0 t1:Int)(va vr vs:Value)(al sh by_:Int)(pr:Bool)(w:World):Calls Tryz.prog 94 #[.agg (Yv r sp lk t0 t1 va vr vs al sh by_ pr)] w fun e w'=>∃ v,e=.returned v∧Rs w' v (Zt sp lk t0 t1)∧(∀ a n cap,v=.slice a n cap→n≤cap)∧Below w.heap.size w w':=by
 obtain⟨ti,hti,hz0,hz1,hz2⟩:=Sp Tryz.infoI;unfold Yv;have HOW:=Zj (fun X:Obj=>show((w.alloc X).alloc (.cells #[.int .i64 sp,.int .i64 t0,.int .i64 t1] 3)).ownsRow w.heap.size 3 1 (.slice (some ⟨w.heap.size+1,0,none⟩) 3 3) ([sp,t0,t1]:List Int).length (Se [sp,t0,t1]) from
  ⟨rfl,Or.inr ⟨w.heap.size+1,3,#[.int .i64 sp,.int .i64 t0,.int .i64 t1],rfl,by omega,by have:=heap_alloc_new (w.alloc X) (.cells #[.int .i64 sp,.int .i64 t0,.int .i64 t1] 3); simpa using this,by simp,by unfold maxLen; omega,rfl,rfl⟩⟩)
 by_cases hk:lk=-1
 ·
  have hO:Zt sp lk t0 t1=[sp,t0,t1]:=by unfold Zt; rw [if_pos hk]
  rw [hO];clear hO;subst hk;go_enter Tryz.func94,Tryz.ntmps94
  go_wp2;go_ret;exact⟨_,rfl,Da (Zc HOW _),Dv (Zc HOW (.cells #[] 3)),by go_grown⟩
 ·
  have hO:Zt sp lk t0 t1=[sp,t0,t1]++[lk]:=by unfold Zt; rw [if_neg hk]; rfl
  rw [hO];clear hO;have zk:(lk==-1)=false:=by simpa using hk
  go_enter Tryz.func94,Tryz.ntmps94
  go_wp2_with (at_builtin; refine wpList_append_own _ rfl _ _ 23 rfl w.heap.size 3 ti _ 1 8 Tryz.underlying23 hti hz0 hz1 hz2 rfl (by decide) _ _ _ rfl ((Zc HOW _).alloc _) ⟨w.heap.size+2,0,none⟩ 1 1 [.int .i64 lk] rfl rfl (by intro j u hj; match j,hj with | 0,hj=>(simp at hj; subst hj; exact(World.cell?_alloc_at _ _ _ _ (by simp)).trans rfl)) (by intro u hu; simp at hu; subst hu; rfl) ?c3 ?c4 ?c5 ?_)
  case c3=>unfold maxLen; simp
  case c4=>simp
  case c5=>simp; omega
  intro v' w7 hown hgr _;have HOWN:=Zj hown;have HB:=Zj (show Below w.heap.size w w7 from((((Below.refl w.heap.size w).alloc (Nat.le_refl _) _).alloc (by simp) _).alloc (by simp; omega) _).trans ⟨hgr.os,hgr.tape,hgr.output,hgr.size,fun q hq=>hgr.block q (by simp; omega) (fun e=>by simp [Value.ownBlock] at e; omega)⟩);clear hown hgr;go_wp2;go_ret;have h1:w7.ownsRow w.heap.size 3 1 v' ([sp,t0,t1]++[lk]:List Int).length (Se ([sp,t0,t1]++[lk])):=Zc HOWN;exact⟨_,rfl,Da h1,Dv h1,Zc HB⟩
def Xv (r sp lk t0 t1:Int)(ag rs ss:List Int):Bool:=Lj (Zt sp lk t0 t1) r&&(Lj ag r&&!Xz ag (Zt sp lk t0 t1))&&(Lj rs r&&!Xz rs (Zt sp lk t0 t1))&&(Lj ss r&&!Xz ss (Zt sp lk t0 t1))&&!Xz ss ag&&!Xz ss rs
set_option maxHeartbeats 4000000 in
set_option maxRecDepth 100000 in
theorem Cz (r sp lk t0 t1:Int)(va vr vs:Value)(al sh by_:Int)(pr:Bool)(ag rs ss:List Int)(w:World)(ha:Rs w va ag)(hr:Rs w vr rs)(hs:Rs w vs ss)(ca:∀ a n cap,va=.slice a n cap→n≤cap)(cr:∀ a n cap,vr=.slice a n cap→n≤cap)(cs:∀ a n cap,vs=.slice a n cap→n≤cap)(la:ag.length≤8)(lr:rs.length≤4)(ls:ss.length≤12):Calls Tryz.prog 73 #[.agg (Yv r sp lk t0 t1 va vr vs al sh by_ pr)] w fun e w'=>e=.returned (.bool (Xv r sp lk t0 t1 ag rs ss))∧Below w.heap.size w w':=by
 obtain⟨pa,xa,rfl⟩:=ha.shape;obtain⟨pq,xr,rfl⟩:=hr.shape;obtain⟨ps,xs,rfl⟩:=hs.shape;have HA0:=Zj ha;have HR0:=Zj hr;have HS0:=Zj hs;have HAC:=Zj ca;have HRC:=Zj cr;have HSC:=Zj cs;clear ha hr hs ca cr cs;unfold Yv;go_enter Tryz.func73,Tryz.ntmps73
 go_wp2_with fail
 refine(Cv r sp lk t0 t1 _ _ _ al sh by_ pr _).mono ?_;rintro e w1 ⟨vo,rfl,hRo,hco,hb1⟩;have hz1:=hb1.size;simp only [World.size_alloc] at hz1;have q0:=(Xh ((hb1.block w.heap.size (by simp)).trans (heap_alloc_new w _))).1;have HB:=Zj (((Below.refl w.heap.size w).alloc (Nat.le_refl _) _).trans (hb1.mono (by simp)));have HO:=Zj (fun X:Obj=>hRo.below ((Below.refl w1.heap.size w1).alloc (Nat.le_refl _) X));have HA:=Zj (fun X:Obj=>((Zc HA0).below (Zc HB)).below ((Below.refl w1.heap.size w1).alloc (Nat.le_refl _) X));have HR:=Zj (fun X:Obj=>((Zc HR0).below (Zc HB)).below ((Below.refl w1.heap.size w1).alloc (Nat.le_refl _) X));have HS:=Zj (fun X:Obj=>((Zc HS0).below (Zc HB)).below ((Below.refl w1.heap.size w1).alloc (Nat.le_refl _) X));have hol:=Zdi sp lk t0 t1;have c0:=q0 0;have c5:=q0 5;have c6:=q0 6;have c7:=q0 7;simp at c0 c5 c6 c7;have d0:=fun X:Obj=>(World.cell?_alloc_lt w1 X ⟨w.heap.size,0,none⟩ (show w.heap.size<w1.heap.size by omega)).trans c0;have d5:=fun X:Obj=>(World.cell?_alloc_lt w1 X ⟨w.heap.size,5,none⟩ (show w.heap.size<w1.heap.size by omega)).trans c5;have d6:=fun X:Obj=>(World.cell?_alloc_lt w1 X ⟨w.heap.size,6,none⟩ (show w.heap.size<w1.heap.size by omega)).trans c6;have d7:=fun X:Obj=>(World.cell?_alloc_lt w1 X ⟨w.heap.size,7,none⟩ (show w.heap.size<w1.heap.size by omega)).trans c7;have HRO:=Zj hRo;have HCO:=Zj hco;clear hb1 q0 hRo hco HA0 HR0 HS0;go_wp2_with fail
 refine(Lo (Zt sp lk t0 t1) r vo w1 (Zc HRO) (by omega) (Zc HCO)).mono ?_;rintro e w2 ⟨rfl,h2⟩;subst w2;cases y0:Lj (Zt sp lk t0 t1) r with
 | false =>
  have HY:=Zj y0;clear y0;go_wp2;go_ret;exact⟨by simp [Xv,Zc HY],Zc HB⟩
 | true =>
  have HY0:=Zj y0;clear y0;go_wp2_with fail
  refine wp_loop_rounds 4 ?_;rw [rounds_succ];go_wp2_with fail
  refine(Lo ag r _ _ (Zc HA _) (by omega) (Zc HAC)).mono ?_;rintro e w2 ⟨rfl,h2⟩;subst w2;cases y1:Lj ag r with
  | false =>
   have HY:=Zj y1;clear y1;go_wp2;go_ret;exact⟨by simp [Xv,Zc HY],(Zc HB).alloc (by omega) _⟩
  | true =>
   have HY1:=Zj y1;clear y1;go_wp2_with fail
   refine(Cx ag (Zt sp lk t0 t1) _ vo _ (Zc HA _) (Zc HO _) (by omega) (by omega)).mono ?_;rintro e w2 ⟨rfl,h2⟩;subst w2;cases z1:Xz ag (Zt sp lk t0 t1) with
   | true =>
    have HY:=Zj z1;clear z1;go_wp2;go_ret;exact⟨by simp [Xv,Zc HY],(Zc HB).alloc (by omega) _⟩
   | false =>
    have HZ1:=Zj z1;clear z1;go_wp2_with fail
    rw [rounds_succ];go_wp2_with fail
    refine(Lo rs r _ _ (Zc HR _) (by omega) (Zc HRC)).mono ?_;rintro e w2 ⟨rfl,h2⟩;subst w2;cases y2:Lj rs r with
    | false =>
     have HY:=Zj y2;clear y2;go_wp2;go_ret;exact⟨by simp [Xv,Zc HY],(Zc HB).alloc (by omega) _⟩
    | true =>
     have HY2:=Zj y2;clear y2;go_wp2_with fail
     refine(Cx rs (Zt sp lk t0 t1) _ vo _ (Zc HR _) (Zc HO _) (by omega) (by omega)).mono ?_;rintro e w2 ⟨rfl,h2⟩;subst w2;cases z2:Xz rs (Zt sp lk t0 t1) with
     | true =>
      have HY:=Zj z2;clear z2;go_wp2;go_ret;exact⟨by simp [Xv,Zc HY],(Zc HB).alloc (by omega) _⟩
     | false =>
      have HZ2:=Zj z2;clear z2;go_wp2_with fail
      rw [rounds_succ];go_wp2_with fail
      refine(Lo ss r _ _ (Zc HS _) (by omega) (Zc HSC)).mono ?_;rintro e w2 ⟨rfl,h2⟩;subst w2;cases y3:Lj ss r with
      | false =>
       have HY:=Zj y3;clear y3;go_wp2;go_ret;exact⟨by simp [Xv,Zc HY],(Zc HB).alloc (by omega) _⟩
      | true =>
       have HY3:=Zj y3;clear y3;go_wp2_with fail
       refine(Cx ss (Zt sp lk t0 t1) _ vo _ (Zc HS _) (Zc HO _) (by omega) (by omega)).mono ?_;rintro e w2 ⟨rfl,h2⟩;subst w2;cases z3:Xz ss (Zt sp lk t0 t1) with
       | true =>
        have HY:=Zj z3;clear z3;go_wp2;go_ret;exact⟨by simp [Xv,Zc HY],(Zc HB).alloc (by omega) _⟩
       | false =>
        have HZ3:=Zj z3;clear z3;go_wp2_with fail
        rw [rounds_succ];go_wp2_with fail
        refine(Cx ss ag _ _ _ (Zc HS _) (Zc HA _) (by omega) (by omega)).mono ?_;rintro e w2 ⟨rfl,h2⟩;subst w2;cases x1:Xz ss ag with
        | true =>
         have HY:=Zj x1;clear x1;go_wp2;go_ret;exact⟨by simp [Xv,Zc HY],(Zc HB).alloc (by omega) _⟩
        | false =>
         have HX1:=Zj x1;clear x1;go_wp2_with fail
         refine(Cx ss rs _ _ _ (Zc HS _) (Zc HR _) (by omega) (by omega)).mono ?_;rintro e w2 ⟨rfl,h2⟩;subst w2;cases x2:Xz ss rs with
         | true =>
          have HY:=Zj x2;clear x2;go_wp2;go_ret;exact⟨by simp [Xv,Zc HY,Zc HX1,Zc HZ1,Zc HZ2,Zc HZ3,Zc HY1,Zc HY2,Zc HY3,Zc HY0],(Zc HB).alloc (by omega) _⟩
         | false =>
          have HY:=Zj x2;clear x2;go_wp2;go_ret;exact⟨by simp [Xv,Zc HY,Zc HX1,Zc HZ1,Zc HZ2,Zc HZ3,Zc HY1,Zc HY2,Zc HY3,Zc HY0],(Zc HB).alloc (by omega) _⟩
def Zom (b:Bool):Value:=match b with
 | true=>.nilIface
 | false=>.iface 87 (.int .i64 2)
def Ja (r sp lk t0 t1:Int)(ag rs ss:List Int)(al sh by_:Int):Bool:=Ss r al sh by_&&St ag rs ss&&Xv r sp lk t0 t1 ag rs ss
set_option maxHeartbeats 4000000 in
theorem Zmp (r sp lk t0 t1:Int)(va vr vs:Value)(al sh by_:Int)(pr:Bool)(ag rs ss:List Int)(w:World)(ha:Rs w va ag)(hr:Rs w vr rs)(hs:Rs w vs ss)(ca:∀ a n cap,va=.slice a n cap→n≤cap)(cr:∀ a n cap,vr=.slice a n cap→n≤cap)(cs:∀ a n cap,vs=.slice a n cap→n≤cap):Calls Tryz.prog 59 #[.agg (Yv r sp lk t0 t1 va vr vs al sh by_ pr)] w fun e w'=>e=.returned (Zom (Ja r sp lk t0 t1 ag rs ss al sh by_))∧Below w.heap.size w w':=by
 have HA0:=Zj ha;have HR0:=Zj hr;have HS0:=Zj hs;have HAC:=Zj ca;have HRC:=Zj cr;have HSC:=Zj cs;have SA:=Zj ha.shape;have SR:=Zj hr.shape;have SS:=Zj hs.shape;clear ha hr hs ca cr cs;have HB0:=Zj (fun X:Obj=>(Below.refl w.heap.size w).alloc (Nat.le_refl _) X);have HD:=Zj (fun(u:World) (X:Obj) (cs:Array Value) (h:Below (w.alloc X).heap.size (w.alloc X) u) (hX:X=.cells cs 25 (0,0))=>(h.block w.heap.size (by simp)).trans ((heap_alloc_new w X).trans (congrArg some hX)));unfold Yv;go_enter Tryz.func59,Tryz.ntmps59
 go_wp2_with fail
 refine(Zbt r sp lk t0 t1 va vr vs al sh by_ pr _).mono ?_;rintro e w1 ⟨rfl,hb1⟩;have q1:=Xh (Zc HD _ _ _ hb1 rfl);have HB1:=Zj hb1;have hz1:=hb1.size;simp only [World.size_alloc] at hz1;have b1:=Zc HD _ _ _ hb1 rfl;clear hb1;cases y1:Ss r al sh by_ with
 | false =>
  have HY:=Zj y1;clear y1 q1 b1;go_wp2;go_ret;exact⟨by rw [show Ja r sp lk t0 t1 ag rs ss al sh by_=false by simp [Ja,Zc HY]]; rfl,(Zc HB0 _).trans ((Zc HB1).mono (by simp))⟩
 | true =>
  have HY1:=Zj y1;clear y1;have k1:=q1.1;clear q1;go_wp2_with fail
  refine(Zep r sp lk t0 t1 va vr vs al sh by_ pr ag rs ss _ (Zc SA) (Zc SR) (Zc SS)).mono ?_;rintro e w2 ⟨rfl,hb2⟩;have hb2':=(Zc HB1).trans (hb2.mono (by simp; omega));have HB2:=Zj hb2';have hz2:=hb2.size;have k2:=(Xh (Zc HD _ _ _ hb2' rfl)).1;clear hb2 hb2' k1 b1;cases y2:St ag rs ss with
  | false =>
   have HY:=Zj y2;clear y2 k2;go_wp2;go_ret;exact⟨by rw [show Ja r sp lk t0 t1 ag rs ss al sh by_=false by simp [Ja,Zc HY]]; rfl,(Zc HB0 _).trans ((Zc HB2).mono (by simp))⟩
  | true =>
   have hl:ag.length≤8∧rs.length≤4∧ss.length≤12:=of_decide_eq_true y2;have HY2:=Zj y2;have HL:=Zj hl;have HB3:=Zj ((Zc HB0 _).trans ((Zc HB2).mono (by simp)));clear y2 hl;go_wp2_with fail
   refine(Cz r sp lk t0 t1 va vr vs al sh by_ pr ag rs ss _ ((Zc HA0).below (Zc HB3)) ((Zc HR0).below (Zc HB3)) ((Zc HS0).below (Zc HB3)) (Zc HAC) (Zc HRC) (Zc HSC) (Zc HL).1 (Zc HL).2.1 (Zc HL).2.2).mono ?_;rintro e w3 ⟨rfl,hb3⟩;have HB4:=Zj ((Zc HB3).trans (hb3.mono (by omega)));clear hb3 k2;cases y3:Xv r sp lk t0 t1 ag rs ss with
   | false =>
    have HY:=Zj y3;clear y3;go_wp2;go_ret;exact⟨by rw [show Ja r sp lk t0 t1 ag rs ss al sh by_=false by simp [Ja,Zc HY]]; rfl,Zc HB4⟩
   | true =>
    have HY:=Zj y3;clear y3;go_wp2;go_ret;exact⟨by rw [show Ja r sp lk t0 t1 ag rs ss al sh by_=true by simp [Ja,Zc HY,Zc HY1,Zc HY2]]; rfl,Zc HB4⟩
end Go.Proofs.YteddfaconabobaaGreatDoor
