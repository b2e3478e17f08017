import Derived.Test.YtkenknfgeoecbaaGreatDoorJ14
import Derived.Test.YtkenknfgeoecbaaGreatDoorJ20
namespace Go.Proofs.YtkenknfgeoecbaaGreatDoor
open Go.RowKit
set_option maxHeartbeats 1000000
theorem Zaf {w:World}{v:Value}{ns:List Int}(h:Rs w v ns):∀ w' b,Below w.heap.size w w'→w.heap.size≤b→Lst w' b v ns:=by
 intro w' b hb hle;rcases h with h | ⟨sb,so,cap,e,hc⟩
 ·exact Or.inl h
 ·cases ns with
  | nil=>exact Or.inl ⟨rfl,_,_,e⟩
  | cons n r=>have h0:=ltc (hc 0 (by simp));exact Or.inr ⟨sb,so,cap,e,⟨fun i hi=>(hb.cell (p:=⟨sb,so+i,none⟩) h0).trans (hc i hi),Or.inl (Nat.lt_of_lt_of_le h0 hle)⟩⟩
structure Tb (w:World)(r sp lk t0 t1:Int)(va vr vs:Value)(al sh by_:Int)(ag rs ss:List Int):Prop where
 tabs:Kh w
 o:Ij r∧Ij sp∧Ij lk∧Ij t0∧Ij t1∧Ij al∧Ij sh∧Ij by_
 a:okI ag∧okI rs∧okI ss
 l:Rs w va ag∧Rs w vr rs∧Rs w vs ss
 n:ag.length+rs.length+ss.length≤4000000
theorem Tb.below {w w':World}{r sp lk t0 t1:Int}{va vr vs:Value}{al sh by_:Int}{ag rs ss:List Int}(h:Tb w r sp lk t0 t1 va vr vs al sh by_ ag rs ss)(hb:Below w.heap.size w w'):Tb w' r sp lk t0 t1 va vr vs al sh by_ ag rs ss :=
 ⟨h.tabs.below hb h.tabs.gb,h.o,h.a,⟨h.l.1.below hb,h.l.2.1.below hb,h.l.2.2.below hb⟩,h.n⟩
theorem Tb.alloc {w:World}{r sp lk t0 t1:Int}{va vr vs:Value}{al sh by_:Int}{ag rs ss:List Int}(h:Tb w r sp lk t0 t1 va vr vs al sh by_ ag rs ss)(o:Obj):Tb (w.alloc o) r sp lk t0 t1 va vr vs al sh by_ ag rs ss :=
 h.below ((Below.refl _ _).alloc (Nat.le_refl _) o)
theorem Yhj {w:World}{r sp lk t0 t1:Int}{va vr vs:Value}{al sh by_:Int}{ag rs ss:List Int}(pr:Bool)(h:Tb w r sp lk t0 t1 va vr vs al sh by_ ag rs ss) :
 Calls Tryz.prog 46 #[.agg (Zu r sp lk t0 t1 va vr vs al sh by_ pr)] w fun e w'=>e=.returned (.string ⟨(Ma r sp lk t0 t1 ag rs ss al sh by_ pr).toArray⟩)∧Below w.heap.size w w' :=
 Yej r sp lk t0 t1 va vr vs al sh by_ pr ag rs ss w h.tabs h.o.1 h.o.2.1 h.o.2.2.1 h.o.2.2.2.1 h.o.2.2.2.2.1 h.o.2.2.2.2.2.1 h.o.2.2.2.2.2.2.1 h.o.2.2.2.2.2.2.2 h.a.1 h.a.2.1 h.a.2.2 (Zaf h.l.1) (Zaf h.l.2.1) (Zaf h.l.2.2) h.n
theorem Yhk {w:World}{r sp lk t0 t1:Int}{va vr vs:Value}{al sh by_:Int}{ag rs ss:List Int}(pr:Bool)(h:Tb w r sp lk t0 t1 va vr vs al sh by_ ag rs ss) :
 Calls Tryz.prog 31 #[.agg (Zu r sp lk t0 t1 va vr vs al sh by_ pr)] w fun e w'=>e=.returned (.string ⟨(Ma r sp lk t0 t1 ag rs ss al sh by_ pr).toArray⟩)∧Below w.heap.size w w':=by
 have HH:=Zt h;clear h;have HC:=Zt (Yhj pr ((Zf HH).alloc (.cells (Zu r sp lk t0 t1 va vr vs al sh by_ pr) 25)));unfold Zu at HC ⊢;go_enter Tryz.func31,Tryz.ntmps31
 go_wp2_with fail
 refine(Zf HC).mono ?_;rintro e w' ⟨rfl,hb⟩;have HB:=Zt (((Below.refl w.heap.size w).alloc (Nat.le_refl _) _).trans (hb.mono (by simp)));clear hb;go_wp2;go_ret;exact⟨rfl,Zf HB⟩
theorem Yhl {w:World}{r sp lk t0 t1:Int}{va vr vs:Value}{al sh by_:Int}{ag rs ss:List Int}(pr:Bool)(h:Tb w r sp lk t0 t1 va vr vs al sh by_ ag rs ss) :
 Calls Tryz.prog 17 #[.agg (Zu r sp lk t0 t1 va vr vs al sh by_ pr)] w fun e w'=>e=.returned (.string ⟨(Ma r sp lk t0 t1 ag rs ss al sh by_ pr).toArray⟩)∧Below w.heap.size w w':=by
 have HH:=Zt h;clear h;have HC:=Zt (Yhk pr ((Zf HH).alloc (.cells (Zu r sp lk t0 t1 va vr vs al sh by_ pr) 25)));unfold Zu at HC ⊢;go_enter Tryz.func17,Tryz.ntmps17
 go_wp2_with fail
 refine(Zf HC).mono ?_;rintro e w' ⟨rfl,hb⟩;have HB:=Zt (((Below.refl w.heap.size w).alloc (Nat.le_refl _) _).trans (hb.mono (by simp)));clear hb;go_wp2;go_ret;exact⟨rfl,Zf HB⟩
set_option maxRecDepth 1000000
structure Env (w:World):Prop where
 u8:U8 w
 it:Ia w
 er:Ya w
 tb:Kh w
theorem Env.below {w w':World}(h:Env w)(hb:Below w.heap.size w w'):Env w' :=
 ⟨h.u8.below hb h.u8.lt,h.it.grown (Zn (row:=some w.heap.size) hb) (Nat.ne_of_lt h.it.lt),h.er.below hb (Xg h.er),h.tb.below hb h.tb.gb⟩
structure L3 (w:World)(va vr vs:Value)(ag rs ss:List Int):Prop where
 a:Rs w va ag
 r:Rs w vr rs
 s:Rs w vs ss
 ca:∀ a n cap,va=.slice a n cap→n≤cap
 cr:∀ a n cap,vr=.slice a n cap→n≤cap
 cs:∀ a n cap,vs=.slice a n cap→n≤cap
theorem L3.below {w w':World}{va vr vs:Value}{ag rs ss:List Int}(h:L3 w va vr vs ag rs ss)(hb:Below w.heap.size w w'):L3 w' va vr vs ag rs ss:=⟨h.a.below hb,h.r.below hb,h.s.below hb,h.ca,h.cr,h.cs⟩
theorem Znk {r sp lk t0 t1:Int}{ag rs ss:List Int}{al sh by_:Int}(h:Jn r sp lk t0 t1 ag rs ss al sh by_=true):(Ij r∧Ij sp∧Ij lk∧Ij t0∧Ij t1∧Ij al∧Ij sh∧Ij by_)∧(okI ag∧okI rs∧okI ss)∧ag.length+rs.length+ss.length≤4000000:=by
 unfold Jn at h;simp only [Bool.and_eq_true] at h;obtain⟨⟨h1,h2⟩,h3⟩:=h;have n1:=of_decide_eq_true h1;have n2:=of_decide_eq_true h2;unfold Ge at h3;simp only [Bool.and_eq_true] at h3;obtain⟨⟨⟨⟨⟨k0,k1,-⟩,k2,-⟩,k3,-⟩,-⟩,-⟩:=h3;have m0:=Ih k0;have own:(0≤sp∧sp<r)∧(0≤t0∧t0<r)∧(0≤t1∧t1<r)∧(lk=-1∨(0≤lk∧lk<r)):=by
  unfold Yu at m0;by_cases hk:lk=-1
  ·rw [if_pos hk] at m0;exact⟨m0 sp (by simp),m0 t0 (by simp),m0 t1 (by simp),Or.inl hk⟩
  ·rw [if_neg hk] at m0;exact⟨m0 sp (by simp),m0 t0 (by simp),m0 t1 (by simp),Or.inr (m0 lk (by simp))⟩
 have each:∀ l:List Int,(∀ n ∈ l,0≤n∧n<r)→okI l:=fun l hl n hn=>by have:=hl n hn; omega
 unfold Ij;refine⟨⟨by omega,by omega,by omega,by omega,by omega,by omega,by omega,by omega⟩,⟨each _ (Ih k1),each _ (Ih k2),each _ (Ih k3)⟩,by omega⟩
theorem Ygy {w:World}{r sp lk t0 t1:Int}{va vr vs:Value}{al sh by_:Int}{ag rs ss:List Int}(hE:Env w)(h:Jn r sp lk t0 t1 ag rs ss al sh by_=true)(hl:L3 w va vr vs ag rs ss):Tb w r sp lk t0 t1 va vr vs al sh by_ ag rs ss :=
 have b:=Znk h;⟨hE.tb,b.1,b.2.1,⟨hl.a,hl.r,hl.s⟩,b.2.2⟩
theorem Zxo:Zkj (Xk ⟨(Ma 12 11 (-1) 9 10 [0,1,2,3] [0,1] [5,6,7] 16 0 2 false).toArray⟩) [[12],[11],[-1],[9,10],[0,1,2,3],[0,1],[5,6,7],[16],[0],[2]] false=true:=by kernel_rfl
theorem Znl (w:World)(hE:Env w) :
 Calls Tryz.prog 16 #[.string ⟨(Ma 12 11 (-1) 9 10 [0,1,2,3] [0,1] [5,6,7] 16 0 2 false).toArray⟩] w fun e w'=>Below w.heap.size w w'∧∃ a4 n4 p4 a5 n5 p5 a6 n6 p6,e=.returned (.tuple #[.agg (Zu 12 11 (-1) 9 10 (.slice a4 n4 p4) (.slice a5 n5 p5) (.slice a6 n6 p6) 16 0 2 false),Dw 0 (-1) (-1) (-1)]):=by
 obtain⟨S,hS,v,v10⟩:=Zni Zxo;refine(Zfq _ w hE.u8 hE.it hE.er).mono ?_;rintro e w' ⟨hb,hm⟩;rw [hS] at hm;simp only at hm;obtain⟨u4,u5,u6,rfl,r4,r5,r6,-⟩:=hm;obtain⟨a4,n4,p4,rfl⟩:=Og r4;obtain⟨a5,n5,p5,rfl⟩:=Og r5;obtain⟨a6,n6,p6,rfl⟩:=Og r6;refine⟨hb,a4,n4,p4,a5,n5,p5,a6,n6,p6,?_⟩;unfold Zeq;rw [v 0 (by decide),v 1 (by decide),v 2 (by decide),v 3 (by decide),v 7 (by decide),v 8 (by decide),v 9 (by decide),v10];rfl
theorem Znm:Xk ⟨#[]⟩=.inl (1,0):=by rfl
theorem Zhk (w:World)(hE:Env w):Calls Tryz.prog 16 #[.string ⟨#[]⟩] w fun e w'=>e=.returned (.tuple #[Id,Dw 1 (-1) (-1) 0])∧Below w.heap.size w w':=by refine(Zfq _ w hE.u8 hE.it hE.er).mono ?_;rintro e w' ⟨hb,hm⟩;rw [Znm] at hm;exact⟨hm,hb⟩
theorem Ztb (w:World)(hE:Env w):Calls Tryz.prog 15 #[.int .i64 0] w fun e w'=>Below w.heap.size w w'∧∃ a4 n4 p4 a5 n5 p5 a6 n6 p6,e=.returned (.tuple #[.agg (Zu 12 11 (-1) 9 10 (.slice a4 n4 p4) (.slice a5 n5 p5) (.slice a6 n6 p6) 16 0 2 false),Dw 0 (-1) (-1) (-1)])∧L3 w' (.slice a4 n4 p4) (.slice a5 n5 p5) (.slice a6 n6 p6) [0,1,2,3] [0,1] [5,6,7]:=by refine(Zsp 0 (by omega) w hE.u8 hE.it hE.er).mono ?_;rintro e w' ⟨hb,v4,v5,v6,rfl,r4,r5,r6,-⟩;obtain⟨a4,n4,p4,rfl⟩:=Og r4;obtain⟨a5,n5,p5,rfl⟩:=Og r5;obtain⟨a6,n6,p6,rfl⟩:=Og r6;exact⟨hb,a4,n4,p4,a5,n5,p5,a6,n6,p6,rfl,Of (ns:=[0,1,2,3]) r4,Of (ns:=[0,1]) r5,Of (ns:=[5,6,7]) r6,Ow r4,Ow r5,Ow r6⟩
theorem Ybe:Jn 12 11 (-1) 9 10 [0,1,2,3] [0,1] [5,6,7] 16 0 2=true:=by kernel_rfl
theorem Ybf:Jn 0 0 0 0 0 [] [] [] 0 0 0=false:=by kernel_rfl
theorem Yhs (w:World):L3 w (.slice none 0 0) (.slice none 0 0) (.slice none 0 0) [] [] [] :=
 ⟨Or.inl ⟨rfl,_,_,rfl⟩,Or.inl ⟨rfl,_,_,rfl⟩,Or.inl ⟨rfl,_,_,rfl⟩,fun _ _ _ e=>by injection e with _ e2 e3; omega,fun _ _ _ e=>by injection e with _ e2 e3; omega,fun _ _ _ e=>by injection e with _ e2 e3; omega⟩
theorem Ygz {r sp lk t0 t1:Int}{va vr vs:Value}{al sh by_:Int}(pr:Bool){ag rs ss:List Int}(w:World)(hE:Env w)(hl:L3 w va vr vs ag rs ss):Calls Tryz.prog 18 #[.agg (Zu r sp lk t0 t1 va vr vs al sh by_ pr)] w fun e w'=>e=.returned (Dw (Zxa (Jn r sp lk t0 t1 ag rs ss al sh by_)) (-1) (-1) (-1))∧Below w.heap.size w w' :=
 Zst r sp lk t0 t1 va vr vs al sh by_ pr ag rs ss w hE.er hl.a hl.r hl.s hl.ca hl.cr hl.cs
set_option maxHeartbeats 4000000
set_option maxRecDepth 100000
def Znj:Zm:=⟨[(0,0),(0,1)],1,[5,-1],[],[[⟨3,1,0,1,0,0,[],[]⟩,⟨16,0,0,0,0,0,[],[1]⟩]]⟩
def Yl:Zj:=⟨[Znj],[]⟩
theorem Zxn:∀ f ∈ Yl.funcs,∀ l ∈ f.blocks,∀ i ∈ l,i.op=3∨i.op=16:=by decide
theorem alK (w:World)(o:Obj)(g:Nat)(h:g<w.heap.size):(w.alloc o).heap[g]?=w.heap[g]?:=Gl _ _ _ h
theorem Zap {w:World}{g so:Nat}{cs:Array Value}{t:TypeId}{fr:Nat×Nat}{l:List Value}(h:w.heap[g]?=some (.cells cs t fr))(hl:(cs.toList.drop so).take l.length=l):w.rangeAt g so l:=by
 intro j x hx;rw [Zh h (so+j),← Array.getElem?_toList];have hj:j<l.length:=by
  rcases Nat.lt_or_ge j l.length with h' | h'
  ·exact h'
  ·rw [List.getElem?_eq_none h'] at hx; cases hx
 rw [← hx];conv=>rhs; rw [← hl]
 rw [List.getElem?_take_of_lt hj,List.getElem?_drop]
theorem alN {A:World}{o:Obj}{k:Nat}(h:k=A.heap.size):(A.alloc o).heap[k]?=some o:=h ▸ heap_alloc_new A o
theorem Ygx (w:World)(o0 o1 o2 o3 o4 o5 o6:Obj)(V:World)(hV:V=((((((w.alloc o0).alloc o1).alloc o2).alloc o3).alloc o4).alloc o5).alloc o6):V.heap.size=w.heap.size+7∧V.heap[w.heap.size+1]?=some o1∧V.heap[w.heap.size+1+1]?=some o2∧V.heap[w.heap.size+1+1+1]?=some o3∧V.heap[w.heap.size+1+1+1+1]?=some o4∧V.heap[w.heap.size+1+1+1+1+1]?=some o5∧V.heap[w.heap.size+1+1+1+1+1+1]?=some o6:=by
 subst hV;refine⟨by simp,?_,?_,?_,?_,?_,?_⟩
 ·exact(alK _ _ _ (by simp <;> omega)).trans ((alK _ _ _ (by simp <;> omega)).trans ((alK _ _ _ (by simp <;> omega)).trans ((alK _ _ _ (by simp <;> omega)).trans ((alK _ _ _ (by simp <;> omega)).trans (alN (by simp))))))
 ·exact(alK _ _ _ (by simp <;> omega)).trans ((alK _ _ _ (by simp <;> omega)).trans ((alK _ _ _ (by simp <;> omega)).trans ((alK _ _ _ (by simp <;> omega)).trans (alN (by simp)))))
 ·exact(alK _ _ _ (by simp <;> omega)).trans ((alK _ _ _ (by simp <;> omega)).trans ((alK _ _ _ (by simp <;> omega)).trans (alN (by simp))))
 ·exact(alK _ _ _ (by simp <;> omega)).trans ((alK _ _ _ (by simp <;> omega)).trans (alN (by simp)))
 ·exact(alK _ _ _ (by simp <;> omega)).trans (alN (by simp))
 ·exact alN (by simp)
theorem ls0 (size:Nat)(w:World)(A:Nat→Array Value):LS size w (.slice none 0 0) 0 A:=⟨none,0,rfl,Nat.le_refl _,by decide,fun h=>absurd h (by decide)⟩
theorem Ybd (w:World):Calls Tryz.prog 19 #[] w fun e w'=>(∃ b A E,e=.returned (.agg #[.slice (some ⟨b,0,none⟩) 1 1,.slice none 0 0])∧Mm w' (.slice (some ⟨b,0,none⟩) 1 1) (.slice none 0 0) Yl A E)∧Below w.heap.size w w':=by
 go_enter Tryz.func19,Tryz.ntmps19
 go_wp2;go_returns;refine⟨⟨_,fun _=>#[.slice (some ⟨w.heap.size+1,0,none⟩) 2 2,.int .i64 1,.slice (some ⟨w.heap.size+1+1,0,none⟩) 2 2,.slice none 0 0,.slice (some ⟨w.heap.size+1+1+1+1+1,0,none⟩) 1 1],fun _=>#[],rfl,?_⟩,by go_grown⟩;obtain⟨hz,r1,r2,r3,r4,r5,r6⟩:=Ygx w _ _ _ _ _ _ _ _ rfl;generalize World.alloc _ _=V at hz r1 r2 r3 r4 r5 r6 ⊢;have k2:∀ i,i<2→i=0∨i=1:=fun i hi=>by omega
 have hblk:Zfw V (.slice (some ⟨w.heap.size+1+1+1+1,0,none⟩) 2 2) [⟨3,1,0,1,0,0,[],[]⟩,⟨16,0,0,0,0,0,[],[1]⟩]:=by
  refine⟨fun k=>if k=0 then #[.int .i64 3,.int .i64 1,.int .i64 0,.int .i64 1,.int .u64 0,.int .i64 0,.slice none 0 0,.slice none 0 0] else #[.int .i64 16,.int .i64 0,.int .i64 0,.int .i64 0,.int .u64 0,.int .i64 0,.slice none 0 0,.slice (some ⟨w.heap.size+1+1+1,0,none⟩) 1 1],⟨_,2,rfl,Nat.le_refl _,show(2:Nat)<Jy by decide,fun _=>⟨_,0,rfl,by omega,fun i hi=>?_⟩⟩,fun k hk=>?_⟩
  ·rcases k2 i hi with rfl | rfl
   ·exact Zap r4 rfl
   ·exact Zap r4 rfl
  ·rcases k2 k hk with rfl | rfl
   ·exact⟨_,_,rfl,ls0 _ _ _,Li.nil _⟩
   ·exact⟨_,_,rfl,ls0 _ _ _,Li.new (ns:=[1]) r3 (by decide)⟩
 refine⟨⟨_,1,rfl,Nat.le_refl _,show(1:Nat)<Jy by decide,fun _=>⟨_,0,rfl,by omega,fun i hi=>?_⟩⟩,fun k hk=>?_,ls0 _ _ _,fun k hk=>absurd hk (by simp [Yl])⟩
 ·obtain rfl:i=0:=by simp [Yl] at hi; exact hi
  exact Zap r6 rfl
 ·obtain rfl:k=0:=by simp [Yl] at hk; exact hk
  refine⟨_,_,_,_,fun _=>.slice (some ⟨w.heap.size+1+1+1+1,0,none⟩) 2 2,rfl,⟨_,2,rfl,Nat.le_refl _,show(2:Nat)<Jy by decide,fun _=>⟨_,0,rfl,by omega,fun i hi=>?_⟩⟩,Li.new (ns:=[5,-1]) r2 (by decide),Li.nil _,⟨_,1,rfl,Nat.le_refl _,show(1:Nat)<Jy by decide,fun _=>⟨_,0,rfl,by omega,fun i hi=>?_⟩⟩,fun k hk=>?_⟩
  ·rcases k2 i hi with rfl | rfl
   ·exact Zap r1 rfl
   ·exact Zap r1 rfl
  ·obtain rfl:i=0:=by simp [Yl,Znj] at hi; exact hi
   exact Zap r5 rfl
  ·obtain rfl:k=0:=by simp [Yl,Znj] at hk; exact hk
   exact hblk
theorem Yht (n f b a:Int)(W:World):(Instr.field 29 (.agg #[.int .i64 n,.int .i64 f,.int .i64 b,.int .i64 a]) 0).run Tryz.prog W=.ok (.int .i64 n) W:=by kernel_rfl
abbrev Lh:=Int×Int
abbrev Gj:=Lh×Lh
def Cd (p:Lh):Bool:=decide (p.1=-1)
def mvL (t0:Int)(p:Gj):List Gj:=if Cd p.1&&Cd p.2 then [((t0,0),p.2),(p.1,(t0,0))] else [p]
structure Kp where
 left:List Gj
 rd:Lh→Int
 made:List Gj
def Mu (f:Lh→Int)(p:Lh)(d:Int):Lh→Int:=fun q=>if q=p then f q+d else f q
def mfS (t0:Int)(s:List Gj×(Lh→Int)×List Gj)(p:Gj):List Gj×(Lh→Int)×List Gj :=
 if 0<s.2.1 p.1 then (s.1++[p],s.2.1,s.2.2) else (s.1,Mu s.2.1 p.2 (-1),s.2.2++mvL t0 p)
def Ul (t0:Int)(x:Kp)(k:Nat):List Gj×(Lh→Int)×List Gj:=(x.left.take k).foldl (mfS t0) ([],x.rd,x.made)
def mfF (t0:Int)(x:Kp):Kp:=⟨(Ul t0 x x.left.length).1,(Ul t0 x x.left.length).2.1,(Ul t0 x x.left.length).2.2⟩
def rgP (pl a:Lh)(p:Gj):Gj:=if p.2=pl then (p.1,a) else p
def rgR (pl a:Lh)(rd:Lh→Int)(p:Gj):Lh→Int:=if p.2=pl then Mu (Mu rd pl (-1)) a 1 else rd
def Dh (pl a:Lh)(x:Kp)(k:Nat):List Gj×(Lh→Int):=((x.left.take k).map (rgP pl a)++x.left.drop k,(x.left.take k).foldl (rgR pl a) x.rd)
def Zjh (t1:Int)(x:Kp):Kp:=⟨(Dh (x.left.getD 0 ((0,0),(0,0))).1 (t1,0) x x.left.length).1,(Dh (x.left.getD 0 ((0,0),(0,0))).1 (t1,0) x x.left.length).2,x.made++[((t1,0),(x.left.getD 0 ((0,0),(0,0))).1)]⟩
def Zad (t0 t1:Int)(x:Kp):Kp:=if (mfF t0 x).left.length<x.left.length then mfF t0 x else Zjh t1 (mfF t0 x)
def Jd (t0 t1:Int):Nat→Kp→Kp
 | 0,x=>x
 | k+1,x=>if x.left=[] then x else Jd t0 t1 k (Zad t0 t1 x)
def Mv (l:List Gj)(q:Lh):Int:=((l.filter fun p=>decide (p.2=q)).length:Int)
def Je (l:List Gj):Kp:=⟨l.filter fun p=>decide (p.1≠p.2),Mv (l.filter fun p=>decide (p.1≠p.2)),[]⟩
theorem Yaf (a b:List Gj)(q:Lh):Mv (a++b) q=Mv a q+Mv b q:=by unfold Mv;rw [List.filter_append,List.length_append];omega
theorem Yag (p:Gj)(q:Lh):Mv [p] q=if p.2=q then 1 else 0:=by unfold Mv;by_cases h:p.2=q <;> simp [h]
theorem Yeb (l:List Gj)(q:Lh):0≤Mv l q:=by unfold Mv; omega
def Rg:Gj:=((0,0),(0,0))
theorem Kb {α:Type}{l:List α}{i:Nat}(d:α)(h:i<l.length):l.getD i d=l[i]:=by simp [List.getD,h]
theorem Zow {α:Type}{l:List α}{i:Nat}(d:α)(h:i<l.length):l.getD i d ∈ l:=by rw [Kb d h]; exact List.getElem_mem h
section
variable {l:List Gj} {t0 t1:Int}
end
end Go.Proofs.YtkenknfgeoecbaaGreatDoor
namespace Go.Proofs.YtkenknfgeoecbaaGreatDoor
open Go.RowKit Go.MapKept
set_option maxRecDepth 100000
def kP (p:Lh):Value:=.agg #[.int .i64 p.1,.int .i64 p.2]
theorem Ybs (p q:Lh)(w:World):(Op.equal 34 (kP p) (kP q)).run Tryz.prog w=.ok (decide (p=q)) w:=by
 obtain⟨a,b⟩:=p;obtain⟨a',b'⟩:=q;have u3:=Tryz.underlying3;have a3:=Tryz.isAgg3;have z3:=Tryz.sizeOf3;have hS:Tryz.prog.underlying 34=some (.struct (Tryz.prog.fieldsOf 34)):=by kernel_rfl
 have hp:Tryz.prog.stoodInHeld 34=false:=by kernel_rfl
 show(Op.equalIn 10000 _ _ _).run _ _=_;unfold kP;rw [show(10000:Nat)=9999+1 from rfl,run_equalIn_agg w 9999 34 _ _ hS hp];simp only [Program.fieldsOf,Tryz.underlying34];go_simp;by_cases h1:a=a' <;> by_cases h2:b=b' <;> simp [h1,h2]
theorem Zmc (p:Lh)(e:Bool)(w:World):(Instr.checkKey e 10000 34 (kP p)).run Tryz.prog w=.ok () w:=by
 have u3:=Tryz.underlying3;have a3:=Tryz.isAgg3;have z3:=Tryz.sizeOf3;have hk:∀(v:Int) (n:Nat) (w:World),(Instr.checkKey e (n+1) 3 (.int .i64 v)).run Tryz.prog w=.ok () w:=fun v n w=>by
  unfold Instr.checkKey;simp only [Sem.run_bind,run_underlying u3,Result.andThen];rfl
 unfold kP;rw [show(10000:Nat)=9998+1+1 from rfl,Instr.checkKey];simp only [Sem.run_bind,run_underlying Tryz.underlying34,Result.andThen_ok];go_simp
section
variable {α:Type} (f:α→Value)
def Cc (m:List (Lh×α))(p:Lh):Option α:=match m with
 | []=>none
 | (q,v) :: r=>if q=p then some v else Cc r p
def So (m:List (Lh×α))(p:Lh)(v:α):List (Lh×α):=match m with
 | []=>[(p,v)]
 | (q,u) :: r=>if q=p then (q,v) :: r else (q,u) :: So r p v
theorem Yad (m:List (Lh×α))(p q:Lh)(v:α):Cc (So m p v) q=if q=p then some v else Cc m q:=by
 induction m with
 | nil =>
  unfold So Cc;by_cases h:q=p
  ·rw [if_pos h,if_pos h.symm]
  ·rw [if_neg h,if_neg (fun e=>h e.symm)];rfl
 | cons a r ih =>
  obtain⟨b,u⟩:=a;unfold So;by_cases hb:b=p
  ·rw [if_pos hb];unfold Cc;by_cases h:q=p
   ·rw [if_pos h,if_pos (hb.trans h.symm)]
   ·rw [if_neg h,if_neg (fun e=>h (e.symm.trans hb)),if_neg (fun e=>h (e.symm.trans hb))]
  ·rw [if_neg hb];unfold Cc;by_cases h2:b=q
   ·rw [if_pos h2,if_pos h2,if_neg (fun e=>hb (h2.trans e))]
   ·rw [if_neg h2,if_neg h2,ih]
def MpG:List (Lh×α)→List MapEntry→Prop
 | [],[]=>True
 | (q,v) :: m,e :: l=>e.key=kP q∧e.val=f v∧MpG m l
 | _,_=>False
theorem Zvs (p:Lh)(w:World):∀(m:List (Lh×α)) (l:List MapEntry) (i:Nat),MpG f m l→∃ o,(Instr.findAsking 34 (kP p) l i).run Tryz.prog w=.ok o w∧(o=none∧Cc m p=none∧(∀ v x,x.key=kP p→x.val=f v→MpG f (So m p v) (l++[x]))∨∃ j v,o=some (i+j,f v)∧Cc m p=some v∧j<l.length∧(∃ x,l[j]?=some x∧x.key=kP p∧x.val=f v)∧∀ u,MpG f (So m p u) (l.modify j fun e=>{ e with key:=kP p,val:=f u }))
 | [],[],i,_=>⟨none,by simp [Instr.findAsking],.inl ⟨rfl,rfl,fun v x h1 h2=>⟨h1,h2,trivial⟩⟩⟩
 | [],e :: l,i,h=>h.elim
 | (q,v) :: m,[],i,h=>h.elim
 | (q,v) :: m,e :: l,i,h=>by
  obtain⟨h1,h2,h3⟩:=h;by_cases hq:q=p
  ·refine⟨some (i,e.val),?_,.inr ⟨0,v,by rw [h2]; rfl,by unfold Cc; rw [if_pos hq],by simp,⟨e,rfl,by rw [h1,hq],h2⟩,fun u=>?_⟩⟩
   ·rw [Instr.findAsking];simp only [Sem.run_bind,h1,Ybs,Result.andThen_ok];rw [decide_eq_true hq.symm];simp
   ·unfold So;rw [if_pos hq,List.modify_zero_cons];exact⟨by rw [hq],rfl,h3⟩
  ·obtain⟨o,r1,r2⟩:=Zvs p w m l (i+1) h3;refine⟨o,?_,?_⟩
   ·rw [Instr.findAsking];simp only [Sem.run_bind,h1,Ybs,Result.andThen_ok];rw [decide_eq_false (fun e=>hq e.symm)];simpa using r1
   ·have eg:Cc ((q,v) :: m) p=Cc m p:=by rw [Cc,if_neg hq]
    rw [eg];rcases r2 with⟨a,b,c⟩ | ⟨j,u,a,b,c,d,g⟩
    ·refine .inl ⟨a,b,fun u x hx hy=>?_⟩;unfold So;rw [if_neg hq];exact⟨h1,h2,c u x hx hy⟩
    ·refine .inr ⟨j+1,u,by rw [a]; congr 2; omega,b,by simp; omega,by simpa using d,fun u=>?_⟩;unfold So;rw [if_neg hq,List.modify_succ_cons];exact⟨h1,h2,g u⟩
theorem Zou (p:Lh)(w:World)(m:List (Lh×α))(l:List MapEntry)(h:MpG f m l):∃ o,(Instr.findKey 34 (kP p) l).run Tryz.prog w=.ok o w∧(o=none∧Cc m p=none∧(∀ v x,x.key=kP p→x.val=f v→MpG f (So m p v) (l++[x]))∨∃ j v,o=some (j,f v)∧Cc m p=some v∧j<l.length∧(∃ x,l[j]?=some x∧x.key=kP p∧x.val=f v)∧∀ u,MpG f (So m p u) (l.modify j fun e=>{ e with key:=kP p,val:=f u })):=by
 obtain⟨o,h1,h2⟩:=Zvs f p w m l 0 h;simp only [Nat.zero_add] at h2;refine⟨o,?_,h2⟩;unfold Instr.findKey;simp only [Sem.run_bind,run_underlying Tryz.underlying34,Result.andThen_ok];cases l with
 | nil=>simp only [Instr.findNow];rw [Instr.findAsking] at h1;exact h1
 | cons e l =>
  have:Instr.sameNow (.struct (Tryz.prog.fieldsOf 34)) (kP p) e.key=none:=by unfold Instr.sameNow kP;rfl
  simp only [Instr.findNow];exact h1
end
def StE (es:Array MapEntry)(ck:Nat):Prop:=(∀ x ∈ es.toList,x.born<ck)∧(es.toList.map (·.born)).Nodup
def iV (n:Int):Value:=.int .i64 n
def MpO (o:Obj)(m:List (Lh×Int)):Prop:=∃ es ck,o=.map es ck∧MpG iV m es.toList∧StE es ck
def Sp (m:List (Lh×Int))(p:Lh):Int:=(Cc m p).getD 0
theorem Ni (m:List (Lh×Int))(p q:Lh)(v:Int):Sp (So m p v) q=if q=p then v else Sp m q:=by unfold Sp;rw [Yad];split <;> rfl
theorem MpO.new:MpO (.map #[] 0) []:=⟨#[],0,rfl,trivial,fun x hx=>(by simp at hx),by simp⟩
theorem Lq {w:World}{r:Nat}{o:Obj}{m:List (Lh×Int)}(hb:w.heap[r]?=some o)(h:MpO o m)(p:Lh) :
 (Instr.lookup 38 (.map (some r)) (kP p) false).run Tryz.prog w=.ok (.int .i64 (Sp m p)) w:=by
 obtain⟨es,ck,rfl,hm,-⟩:=h;obtain⟨o,h1,h2⟩:=Zou iV p w m es.toList hm;have hz:(zeroValue 3).run Tryz.prog w=.ok (.int .i64 0) w:=by kernel_rfl
 unfold Instr.lookup;simp only [Sem.run_bind,run_underlying Tryz.underlying38,Result.andThen_ok,Go.MapKept.run_getObj_map hb,Sem.run_pure,Zmc,h1];unfold Sp;rcases h2 with⟨rfl,e,-⟩ | ⟨j,v,rfl,e,-⟩
 ·simp only [Sem.run_bind,hz,Result.andThen_ok];rw [e];rfl
 ·rw [e];rfl
theorem Yae (p:Lh):Instr.sameBits 10000 (kP p) (kP p)=true:=by unfold kP;rw [show(10000:Nat)=9999+1 from rfl,Instr.sameBits];simp [Instr.sameBits]
theorem Zvt (p:Lh)(w:World):(Instr.keyThatStays (kP p) (kP p)).run Tryz.prog w=.ok (kP p) w:=by unfold Instr.keyThatStays;rw [Yae];rfl
theorem Zfk {es:Array MapEntry}(hn:(es.toList.map (·.born)).Nodup){j:Nat}{x:MapEntry}(hx:es[j]?=some x):es.findIdx? (fun e=>((e.born:Int)==(x.born:Int)))=some j:=by obtain⟨l⟩:=es;rw [List.findIdx?_toArray,List.findIdx?_eq_some_iff_getElem];rw [← Array.getElem?_toList] at hx;obtain⟨hj,e⟩:=List.getElem?_eq_some_iff.1 hx;refine⟨hj,by simp [e],fun i hi=>?_⟩;have:=List.pairwise_iff_getElem.1 hn i j (by rw [List.length_map]; exact Nat.lt_trans hi hj) (by simpa using hj) hi;simp only [List.getElem_map] at this;rw [e] at this;intro hc;have h2:=beq_iff_eq.1 hc;exact this (Int.ofNat_inj.1 h2)
theorem Rf {es:Array MapEntry}{ck:Nat}(h:StE es ck)(j:Nat)(f:MapEntry→MapEntry)(hf:∀ e,(f e).born=e.born):StE (es.modify j f) ck:=by
 have e:((es.modify j f).toList.map (·.born))=es.toList.map (·.born):=by
  rw [Array.toList_modify];apply List.ext_getElem
  ·simp
  ·intro i h1 h2;simp only [List.getElem_map,List.getElem_modify];split
   ·exact hf _
   ·rfl
 refine⟨fun x hx=>?_,by rw [e]; exact h.2⟩;have:x.born ∈ (es.modify j f).toList.map (·.born):=List.mem_map.2 ⟨x,hx,rfl⟩;rw [e] at this;obtain⟨y,hy,e2⟩:=List.mem_map.1 this;rw [← e2];exact h.1 y hy
theorem Zjg {es:Array MapEntry}{ck:Nat}(h:StE es ck)(k v:Value):StE (es.push { key:=k,val:=v,born:=ck }) (ck+1):=by
 refine⟨fun x hx=>?_,?_⟩
 ·rw [Array.toList_push] at hx;rcases List.mem_append.1 hx with hx | hx
  ·have:=h.1 x hx; omega
  ·rw [List.mem_singleton.1 hx]; exact Nat.lt_succ_self _
 ·rw [Array.toList_push,List.map_append,List.nodup_append];refine⟨h.2,by simp,fun a ha b hb=>?_⟩;obtain⟨x,hx,rfl⟩:=List.mem_map.1 ha;have:=h.1 x hx;simp at hb;omega
theorem Zvu {w:World}{r:Nat}{o:Obj}{m:List (Lh×Int)}(hb:w.heap[r]?=some o)(h:MpO o m)(p:Lh):∃(v:Value) (s:Int) (o1:Obj),(Instr.mapEntry 38 (.map (some r)) (kP p)).run Tryz.prog w=.ok (.tuple #[v,.int .i64 s]) { w with heap:=w.heap.setIfInBounds r o1 }∧(∃ m1,MpO o1 m1∧∀ q,Sp m1 q=Sp m q) ∧
 ∀(V:World) (n:Int),V.heap[r]?=some o1→∃ o2,(Instr.entryStore 38 (.map (some r)) (.int .i64 s) (.int .i64 n)).run Tryz.prog V=.ok () { V with heap:=V.heap.setIfInBounds r o2 }∧MpO o2 (So m p n):=by
 obtain⟨es,ck,rfl,hm,hs⟩:=h;obtain⟨o,h1,h2⟩:=Zou iV p w m es.toList hm;have hz:(zeroValue 3).run Tryz.prog w=.ok (.int .i64 0) w:=by kernel_rfl
 rcases h2 with⟨rfl,hgn,hput⟩ | ⟨j,v,rfl,hgv,hj,⟨x,hx,hk,hxv⟩,hput⟩
 ·refine⟨.int .i64 0,ck,.map (es.push { key:=kP p,val:=.int .i64 0,born:=ck }) (ck+1),?_,⟨So m p 0,⟨_,_,rfl,by rw [Array.toList_push]; exact hput 0 _ rfl rfl,Zjg hs _ _⟩,fun q=>?_⟩,fun V n hV=>?_⟩
  ·unfold Instr.mapEntry;simp only [Sem.run_bind,run_underlying Tryz.underlying38,Result.andThen_ok,Go.MapKept.run_getObj_map hb,Zmc,h1,hz,Go.MapKept.run_setObj_map _ hb];rfl
  ·rw [Ni];split
   ·rename_i e;unfold Sp;rw [e,hgn];rfl
   ·rfl
  ·have hp:=Zjg hs (kP p) (.int .i64 0);have hi:(es.push { key:=kP p,val:=.int .i64 0,born:=ck })[es.size]?=some { key:=kP p,val:=.int .i64 0,born:=ck }:=by simp
   have hf:(es.push { key:=kP p,val:=.int .i64 0,born:=ck }).findIdx? (fun e=>((e.born:Int)==(ck:Int)))=some es.size:=Zfk hp.2 hi;refine⟨.map ((es.push { key:=kP p,val:=.int .i64 0,born:=ck }).modify es.size fun e=>{ e with val:=.int .i64 n }) (ck+1),?_,_,_,rfl,?_,Rf hp _ _ (fun _=>rfl)⟩
   ·unfold Instr.entryStore;simp only [Sem.run_bind,Result.andThen_ok,Go.MapKept.run_getObj_map hV,asInt,asIntOf,Sem.run_pure];simp only [hf,Go.MapKept.run_setObj_map _ hV]
   ·have:=hput n { key:=kP p,val:=.int .i64 n,born:=ck } rfl rfl;have e:((es.push { key:=kP p,val:=.int .i64 0,born:=ck }).modify es.size fun e=>{ e with val:=.int .i64 n }).toList=es.toList++[{ key:=kP p,val:=.int .i64 n,born:=ck }]:=by
     rw [Array.toList_modify,Array.toList_push];apply List.ext_getElem
     ·simp
     ·intro i h1 h2;rw [List.getElem_modify];by_cases hi:es.size=i
      ·subst hi; simp
      ·have:i<es.size:=by simp at h2; omega
       simp [hi,List.getElem_append_left,this]
    rw [e];exact this
 ·have hx':es[j]?=some x:=by rw [← Array.getElem?_toList]; exact hx
  refine⟨iV v,x.born,.map (es.modify j fun e=>{ e with key:=kP p }) ck,?_,⟨So m p v,⟨_,_,rfl,?_,Rf hs _ _ (fun _=>rfl)⟩,fun q=>?_⟩,fun V n hV=>?_⟩
  ·unfold Instr.mapEntry;simp only [Sem.run_bind,run_underlying Tryz.underlying38,Result.andThen_ok,Go.MapKept.run_getObj_map hb,Zmc,h1,hx',Option.map_some,Option.getD_some,hk,Zvt,Go.MapKept.run_setObj_map _ hb];rfl
  ·have:=hput v;have e:(es.modify j fun e=>{ e with key:=kP p }).toList=es.toList.modify j fun e=>{ e with key:=kP p,val:=iV v }:=by
    rw [Array.toList_modify];apply List.ext_getElem
    ·simp
    ·intro i h1 h2;rw [List.getElem_modify,List.getElem_modify];by_cases hi:j=i
     ·subst hi;have hjl:j<es.toList.length:=hj;have hx2:=Option.some.inj ((List.getElem?_eq_getElem hjl).symm.trans hx);rw [if_pos rfl,if_pos rfl];show({ es.toList[j] with key:=kP p }:MapEntry)={ es.toList[j] with key:=kP p,val:=iV v };rw [show iV v=(es.toList[j]).val by rw [hx2,hxv]]
     ·simp [hi]
   rw [e];exact this
  ·rw [Ni];split
   ·rename_i e;unfold Sp;rw [e,hgv];rfl
   ·rfl
  ·have hp:=Rf hs j (fun e=>{ e with key:=kP p }) (fun _=>rfl);have hi:(es.modify j fun e=>{ e with key:=kP p })[j]?=some { x with key:=kP p }:=by rw [Array.getElem?_modify,if_pos rfl,hx'];rfl
   have hf:(es.modify j fun e=>{ e with key:=kP p }).findIdx? (fun e=>((e.born:Int)==(x.born:Int)))=some j:=by have h0:=Zfk hp.2 hi;exact h0
   refine⟨.map ((es.modify j fun e=>{ e with key:=kP p }).modify j fun e=>{ e with val:=.int .i64 n }) ck,?_,_,_,rfl,?_,Rf hp _ _ (fun _=>rfl)⟩
   ·unfold Instr.entryStore;simp only [Sem.run_bind,Result.andThen_ok,Go.MapKept.run_getObj_map hV,asInt,asIntOf,Sem.run_pure];simp only [hf,Go.MapKept.run_setObj_map _ hV]
   ·have:=hput n;have e:((es.modify j fun e=>{ e with key:=kP p }).modify j fun e=>{ e with val:=.int .i64 n }).toList=es.toList.modify j fun e=>{ e with key:=kP p,val:=iV n }:=by
     rw [Array.toList_modify,Array.toList_modify];apply List.ext_getElem
     ·simp
     ·intro i h1 h2;rw [List.getElem_modify,List.getElem_modify,List.getElem_modify];by_cases hi:j=i <;> simp [hi,iV]
    rw [e];exact this
def Yea (w V:World)(r:Nat)(o:Obj):Prop:=V.heap[r]?=some o∧(∀ g,g≠r→V.heap[g]?=w.heap[g]?)∧V.os=w.os∧V.tape=w.tape∧V.output=w.output∧V.heap.size=w.heap.size
theorem Zov {w:World}{r:Nat}{o o':Obj}(h:w.heap[r]?=some o'):Yea w { w with heap:=w.heap.setIfInBounds r o } r o :=
 ⟨(Go.MapKept.heap_set h).1,(Go.MapKept.heap_set h).2,rfl,rfl,rfl,by simp⟩
theorem Cw {w:World}{r:Nat}{o:Obj}{m:List (Lh×Int)}(hb:w.heap[r]?=some o)(h:MpO o m)(p:Lh):∃(v:Value) (s:Int) (V1:World) (o1:Obj),(Instr.mapEntry 38 (.map (some r)) (.agg #[.int .i64 p.1,.int .i64 p.2])).run Tryz.prog w=.ok (.tuple #[v,.int .i64 s]) V1∧Yea w V1 r o1∧(∃ m1,MpO o1 m1∧∀ q,Sp m1 q=Sp m q) ∧
 ∀(V:World) (n:Int),V.heap[r]?=some o1→∃ V2 o2,(Instr.entryStore 38 (.map (some r)) (.int .i64 s) (.int .i64 n)).run Tryz.prog V=.ok () V2∧Yea V V2 r o2∧MpO o2 (So m p n):=by
 obtain⟨v,s,o1,h1,h2,h3⟩:=Zvu hb h p;refine⟨v,s,_,o1,h1,Zov hb,h2,fun V n hV=>?_⟩;obtain⟨o2,h4,h5⟩:=h3 V n hV;exact⟨_,o2,h4,Zov hV,h5⟩
end Go.Proofs.YtkenknfgeoecbaaGreatDoor
