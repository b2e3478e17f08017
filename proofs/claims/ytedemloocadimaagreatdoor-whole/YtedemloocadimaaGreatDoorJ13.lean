import Derived.Test.YtedemloocadimaaGreatDoorJ23
import Derived.Deep.OwnRows
import Derived.Laws.BitsLemmas
import Derived.Laws.Bits64
import Derived.Test.YtedemloocadimaaGreatDoorJ22
import Derived.Test.YtedemloocadimaaGreatDoorJ24
import Derived.Test.YtedemloocadimaaGreatDoorChecked
namespace Go.Proofs.YtedemloocadimaaGreatDoor
open Go.RowKit Go.Extern.Stop Go.Stop Go.Extern
set_option maxHeartbeats 4000000
theorem Zdc {p:Prop}(h:p):Hid p:=h
theorem Sr {p:Prop}(h:Hid p):p:=h
structure Mq (w:World)(q:Nat)(n f b a:Int):Prop where
 c0:w.cell? ⟨q,0,none⟩=some (.iface 111 (.int .i64 n))
 c1:w.cell? ⟨q,1,none⟩=some (.int .i64 f)
 c2:w.cell? ⟨q,2,none⟩=some (.int .i64 b)
 c3:w.cell? ⟨q,3,none⟩=some (.int .i64 a)
theorem Mq.below {w w':World}{q:Nat}{n f b a:Int}(h:Mq w q n f b a)(hb:Below w.heap.size w w'):Mq w' q n f b a :=
 have hq:=Jx h.c0;⟨(hb.cell (p:=⟨q,0,none⟩) hq).trans h.c0,(hb.cell (p:=⟨q,1,none⟩) hq).trans h.c1,(hb.cell (p:=⟨q,2,none⟩) hq).trans h.c2,(hb.cell (p:=⟨q,3,none⟩) hq).trans h.c3⟩
theorem Mq.alloc {w:World}{q:Nat}{n f b a:Int}(h:Mq w q n f b a)(o:Obj):Mq (w.alloc o) q n f b a:=h.below (((Below.refl _ _).alloc (Nat.le_refl _) _))
theorem Mq.setCell {w:World}{q:Nat}{n f b a:Int}(h:Mq w q n f b a){c:Addr}(hc:c.block≠q)(v:Value):Mq (w.setCell c v) q n f b a:=by
 have e:∀ o,(w.setCell c v).cell? ⟨q,o,none⟩=w.cell? ⟨q,o,none⟩:=fun o=>World.cell?_of_block (Below.heap_setCell w c v q (fun e=>hc e.symm));exact⟨(e _).trans h.c0,(e _).trans h.c1,(e _).trans h.c2,(e _).trans h.c3⟩
structure Ig (w w':World)(t:Addr)(v:Value):Prop where
 same:∀ x,x<w.heap.size→x≠t.block→w'.heap[x]?=w.heap[x]?
 cell:w'.cell? t=some v
 froz:w'.frozen? t=w.frozen? t
 size:w'.heap.size=w.heap.size+4
 os:w'.os=w.os
 tape:w'.tape=w.tape
 output:w'.output=w.output
theorem Zuo (w:World)(a b c d:Obj)(t:Addr)(old v:Value)(h:w.cell? t=some old):Ig w ((((w.alloc a).alloc b).alloc c).alloc d |>.setCell t v) t v:=by
 have ht:t.block<w.heap.size:=World.block_lt_of_cell? w _ h;have hb:Below w.heap.size w ((((w.alloc a).alloc b).alloc c).alloc d):=((((Below.refl _ _).alloc (Nat.le_refl _) _).alloc (by simp) _).alloc (by simp; try omega) _).alloc (by simp; try omega) _;refine⟨fun x hx hne=>(Below.heap_setCell _ _ _ _ hne).trans (hb.block x hx),World.cell?_setCell_same _ _ _ ((hb.cell (p:=t) ht).trans h),?_,by simp,rfl,rfl,rfl⟩;rw [World.frozen?_setCell];exact hb.frozen (p:=t) ht
theorem Mn (w:World)(o:Obj)(x:Nat)(h:x<w.heap.size):(w.alloc o).heap[x]?=w.heap[x]?:=((Below.refl w.heap.size w).alloc (Nat.le_refl _) o).block x h
theorem Xv {w:World}{T:Nat}{t:TypeId}{cs:Array Value}(h:w.heap[T]?=some (.cells cs t (0,0))):(∀ j,w.cell? ⟨T,j,none⟩=cs[j]?)∧∀ j,w.frozen? ⟨T,j,none⟩=false :=
 ⟨fun j=>by simp [World.cell?,h],fun j=>by simp [World.frozen?,h]⟩
theorem Ig.low {w w':World}{t:Addr}{v:Value}(h:Ig w w' t v){B:Nat}(hB:B≤t.block)(hs:B≤w.heap.size):Below B w w':=⟨h.os,h.tape,h.output,by have:=h.size; omega,fun x hx=>h.same x (by omega) (by omega)⟩
theorem Ig.bad {w w':World}{t:Addr}{v:Value}(h:Ig w w' t v){q:Nat}{n f b a:Int}(hq:q≠t.block)(hb:Mq w q n f b a):Mq w' q n f b a :=
 have e:=h.same q (Jx hb.c0) hq;⟨(World.cell?_of_block e).trans hb.c0,(World.cell?_of_block e).trans hb.c1,(World.cell?_of_block e).trans hb.c2,(World.cell?_of_block e).trans hb.c3⟩
theorem Ig.err {w w':World}{t:Addr}{v:Value}(h:Ig w w' t v)(ht:t.block≠0)(hb:Xj w):Xj w':=(World.cell?_of_block (h.same 0 (Jx hb) (Ne.symm ht))).trans hb
theorem Zup {w:World}{T:Nat}{o:Obj}(h:w.heap[T]?=some o):w.drew.heap[T]?=some o:=h
theorem Yhg {w:World}{T:Nat}{t:TypeId}{z0 z1 z2 z3:Value}(h:w.heap[T]?=some (.cells #[z0,z1,z2,z3] t (0,0)))(a b c d:Value):((((w.setCell ⟨T,0,none⟩ a).setCell ⟨T,1,none⟩ b).setCell ⟨T,2,none⟩ c).setCell ⟨T,3,none⟩ d).heap[T]?=some (.cells #[a,b,c,d] t (0,0)) :=
 heap_setCell_same _ _ _ _ _ _ (heap_setCell_same _ _ _ _ _ _ (heap_setCell_same _ _ _ _ _ _ (heap_setCell_same _ _ _ _ _ _ h)))
theorem Zbb (n f b a:Int)(q:Nat)(w:World)(hg:Xj w)(h:Mq w q n f b a):Calls Tryz.prog 19 #[.iface 114 (.pointer (some ⟨q,0,none⟩))] w fun e w'=>e=.returned (Iw n f b a)∧Below w.heap.size w w':=by
 have hlt:=Jx hg;have hq:=Jx h.c0;have HG:Hid (Xj w):=hg;have HB:Hid (Mq w q n f b a):=h;clear hg h;go_enter Tryz.func19,Tryz.ntmps19
 go_wp2_with fail
 refine(Ztq n q 0 _ (.int .i64 0) _ ?s1 ?s2 ?s3 ?s4).mono ?_;case s1=>repeat' (first | exact HG.out | apply Xj.alloc | (apply Xj.setCell) | (simp; done) | (simp; omega))
 case s2=>rw [World.cell?_alloc_at _ _ _ _ (by simp)]; rfl
 case s3=>rw [World.frozen?_alloc_at _ _ _ _ (by simp)]
 case s4 =>
  refine Mq.c0 (n:=n) (f:=f) (b:=b) (a:=a) ?_;repeat' (first | exact HB.out | apply Mq.alloc | (apply Mq.setCell) | (simp; done) | (simp; omega))
 rintro e w1 ⟨rfl,hw1⟩;have K1:=hw1 ▸ Zuo _ _ _ _ _ _ (.int .i64 0) (.int .i64 n) (by rw [World.cell?_alloc_at _ _ _ _ (by simp)]; rfl);clear hw1;have rR:w1.heap[w.heap.size]?=some (.cells #[.int .i64 0,.int .i64 0,.int .i64 0,.int .i64 0] 28 (0,0)):=(K1.same _ (by simp; omega) (by simp; try omega)).trans ((Mn _ _ _ (by simp; omega)).trans ((Mn _ _ _ (by simp)).trans (heap_alloc_new _ _)));have rF:w1.heap[w.heap.size+1]?=some (.cells #[.int .i64 (-1),.int .i64 (-1),.int .i64 (-1),.int .i64 (-1)] 28 (0,0)):=(K1.same _ (by simp; try omega) (by simp; try omega)).trans ((Mn _ _ _ (by simp)).trans (by simpa using heap_alloc_new (w.alloc _) _));have B1:Mq w1 q n f b a:=K1.bad (by simp; omega) (((HB.out.alloc _).alloc _).alloc _);have E1:Xj w1:=K1.err (by simp) (((HG.out.alloc _).alloc _).alloc _);have L1:Below w.heap.size w w1:=((((Below.refl _ _).alloc (Nat.le_refl _) _).alloc (by simp) _).alloc (by simp; try omega) _).trans (K1.low (by simp; try omega) (by simp; try omega));have z1:w1.heap.size=w.heap.size+7:=by have:=K1.size; simp at this; omega
 have cn:w1.cell? ⟨w.heap.size+1+1,0,none⟩=some (.int .i64 n):=K1.cell;clear K1;have f0:=(Xv rF).1 0;have f1:=(Xv rF).1 1;have f2:=(Xv rF).1 2;have f3:=(Xv rF).1 3;have fz:=(Xv rF).2;simp at f0 f1 f2 f3;have HB1:=Zdc B1;have HE1:=Zdc E1;have HL1:=Zdc L1;have HR1:=Zdc rR;have HF1:=Zdc rF;clear B1 E1 L1 rR rF;go_wp2_with fail
 refine(Zyo ⟨q,0,none⟩ _ (.pointer none) _ ?s1 ?s2 ?s3).mono ?_;case s1=>exact((Sr HE1).setCell (by simp) _).alloc _
 case s2=>rw [World.cell?_alloc_at _ _ _ _ (by simp [z1])]; rfl
 case s3=>rw [World.frozen?_alloc_at _ _ _ _ (by simp [z1])]
 rintro e w2 ⟨rfl,hw2⟩;have K2:=hw2 ▸ Zuo _ _ _ _ _ _ (.pointer none) (.pointer (some ⟨q,0,none⟩)) (by rw [World.cell?_alloc_at _ _ _ _ (by simp [z1])]; rfl);clear hw2;have gR:w2.heap[w.heap.size]?=some (.cells #[.int .i64 0,.int .i64 0,.int .i64 0,.int .i64 0] 28 (0,0)):=(K2.same _ (by simp; omega) (by simp)).trans ((Mn _ _ _ (by simp; omega)).trans ((Below.heap_setCell _ _ _ _ (by simp)).trans (Sr HR1)));have gF:w2.heap[w.heap.size+1]?=some (.cells #[.int .i64 n,.int .i64 (-1),.int .i64 (-1),.int .i64 (-1)] 28 (0,0)):=(K2.same _ (by simp; omega) (by simp)).trans ((Mn _ _ _ (by simp; omega)).trans (heap_setCell_same _ _ _ _ _ _ (Sr HF1)));have B2:Mq w2 q n f b a:=K2.bad (by simp; omega) (((Sr HB1).setCell (by simp; omega) _).alloc _);have L2:Below w.heap.size w w2:=(((Sr HL1).setCell (by simp) _).alloc (by simp; omega) _).trans (K2.low (by simp) (by simp; omega));have cb:w2.cell? ⟨w.heap.size+7,0,none⟩=some (.pointer (some ⟨q,0,none⟩)):=K2.cell;clear K2 f0 f1 f2 f3 fz cn;have f0:=(Xv gF).1 0;have f1:=(Xv gF).1 1;have f2:=(Xv gF).1 2;have f3:=(Xv gF).1 3;have fz:=(Xv gF).2;have r0:=(Xv gR).1 0;have r1:=(Xv gR).1 1;have r2:=(Xv gR).1 2;have r3:=(Xv gR).1 3;have rz:=(Xv gR).2;simp at f0 f1 f2 f3 r0 r1 r2 r3;have d1:=B2.c1;have d2:=B2.c2;have d3:=B2.c3;have HL2:=Zdc L2;have HR2:=Zdc gR;clear B2 L2 gR gF HB1 HE1 HL1 HR1 HF1 HG HB;generalize hT:w.heap.size=T at *;go_wp2_with fail
 go_region
 all_goals go_wp2
 all_goals have hblk:=Yhg ((Below.heap_setCell _ ⟨T+1,3,none⟩ (.int .i64 a) T (by simp)).trans ((Below.heap_setCell _ ⟨T+1,2,none⟩ (.int .i64 b) T (by simp)).trans ((Below.heap_setCell _ ⟨T+1,1,none⟩ (.int .i64 f) T (by simp)).trans (Sr HR2)))) (.int .i64 n) (.int .i64 f) (.int .i64 b) (.int .i64 a)
 all_goals have hinf:(Tryz.prog.info? 28).map (·.size)=some 4:=by kernel_rfl
 all_goals refine bodyPost_ret (results_cell_row (fn:=Tryz.f19) (p:=2) (ty:=28) rfl _ _ T 28 #[.int .i64 n,.int .i64 f,.int .i64 b,.int .i64 a] (0,0) _ rfl (Zup hblk) Tryz.underlying28 rfl hinf) rfl ?_
 all_goals refine⟨rfl,?_⟩
 all_goals rw [hT]
 all_goals have L:=Sr HL2
 all_goals exact(((((((L.setCell (by show T≤T+1; omega) _).setCell (by show T≤T+1; omega) _).setCell (by show T≤T+1; omega) _).setCell (Nat.le_refl _) _).setCell (Nat.le_refl _) _).setCell (Nat.le_refl _) _).setCell (Nat.le_refl _) _).drew
end Go.Proofs.YtedemloocadimaaGreatDoor
namespace Go.Proofs.YtedemloocadimaaGreatDoor
open Go.RowKit
theorem Zkr {p:Prop}(h:p):Hid p:=h
theorem Kw {p:Prop}(h:Hid p):p:=h
def ldv (m:Nat→Int):Nat→Nat→Int
 | _,0=>0
 | a,n+1=>m a+256*ldv m (a+1) n
def byt (v:Int)(k:Nat):Int:=v / 256 ^ k % 256
theorem Yav (v:Int)(k:Nat):v / 2 ^ (8*k) % 256=byt v k:=by
 unfold byt; rw [Int.pow_mul]; rfl
theorem Znx {m:Nat→Int}(hm:∀ i,0≤m i∧m i<256):∀(n a:Nat),0≤ldv m a n∧ldv m a n<256 ^ n
 | 0,a=>by simp [ldv]
 | n+1,a=>by
  have h:=Znx hm n (a+1);have h0:=hm a;simp only [ldv,Int.pow_succ];omega
def upd (m:Nat→Int)(a:Nat)(v:Int)(n:Nat):Nat→Int:=fun i=>if a≤i∧i<a+n then byt v (i-a) else m i
theorem Zks (m:Nat→Int)(a:Nat)(v:Int):upd m a v 0=m:=by
 funext i; unfold upd; rw [if_neg (by omega)]
theorem Zed (m:Nat→Int)(a:Nat)(v:Int)(n i:Nat):upd m a v (n+1) i=if i=a+n then byt v n else upd m a v n i:=by
 unfold upd;by_cases h:i=a+n
 ·
  subst h; rw [if_pos (by omega),if_pos rfl]; congr 1; omega
 ·
  rw [if_neg h];by_cases h2:a≤i∧i<a+n
  ·
   rw [if_pos (by omega),if_pos h2]
  ·
   rw [if_neg (by omega),if_neg h2]
theorem Yaw (n:Int)(h₀:0≤n)(h₁:n<2 ^ 64):IntKind.u64.wrap n=n:=by rw [IntKind.wrap_u64]; omega
theorem or8 (x y:Int)(h0:0≤x)(h1:x<72057594037927936)(h2:0≤y)(h3:y<256):bits .or .u64 (x*256) y=y+256*x:=by
 rw [bits_join .u64 64 (by decide) Yaw 8 (x*256) y (by omega) (by omega) (by omega) h2 (by omega) (by omega)];omega
theorem Zsl (k:Nat)(hk:k≤7):(256:Int) ^ k≤72057594037927936:=by
 match k,hk with
 | 0,_ | 1,_ | 2,_ | 3,_ | 4,_ | 5,_ | 6,_ | 7,_=>decide
def stw (w:World)(d a:Nat)(v:Int):Nat→World
 | 0=>w
 | k+1=>(stw w d a v k).setCell ⟨d,a+k,none⟩ (.int .u8 (byt v k))
theorem Zaq (w:World)(d a:Nat)(v:Int):∀ k,(stw w d a v k).heap.size=w.heap.size
 | 0=>rfl
 | k+1=>by simp [stw,Zaq w d a v k]
theorem Zee (w:World)(d a:Nat)(v:Int)(x:Addr):∀ k,(stw w d a v k).frozen? x=w.frozen? x
 | 0=>rfl
 | k+1=>by simp only [stw,World.frozen?_setCell]; exact Zee w d a v x k
theorem Zar (w:World)(d a:Nat)(v:Int)(x:Nat)(h:x≠d):∀ k,(stw w d a v k).heap[x]?=w.heap[x]?
 | 0=>rfl
 | k+1=>by
  simp only [stw];rw [Below.heap_setCell _ _ _ _ h];exact Zar w d a v x h k
theorem Zkt (w:World)(d a:Nat)(v:Int)(n:Nat)(m:Nat→Int)(hc:∀ i,i<n→w.cell? ⟨d,i,none⟩=some (.int .u8 (m i))) :
 ∀ k,a+k≤n→∀ i,i<n→(stw w d a v k).cell? ⟨d,i,none⟩=some (.int .u8 (upd m a v k i))
 | 0,_,i,hi=>by rw [Zks]; exact hc i hi
 | k+1,hk,i,hi=>by
  simp only [stw];rw [Zed];have ih:=Zkt w d a v n m hc k (by omega);by_cases h:i=a+k
  ·
   subst h;rw [if_pos rfl,World.cell?_setCell_same _ _ _ (ih _ hi)]
  ·
   rw [if_neg h,World.cell?_setCell_other _ _ _ _ (by intro e; cases e; exact h rfl)];exact ih i hi
structure Nl where
 fn:Zy
 b:Int
 i:Int
 v:List Int
 s:List (List Int)
 o:List Int
def ldB (bs:List Int)(a k:Nat):Int:=ldv (fun i=>bs.getD i 0) a k
def stB (bs:List Int)(a k:Nat)(v:Int):List Int:=(List.range bs.length).map (upd (fun i=>bs.getD i 0) a v k)
def Zgv (x:Nl)(a:Int×Int):List Int:=if a.1=0 then [x.v.getD a.2.toNat 0] else (List.range a.1.toNat).map fun k=>ldB (x.s.getD a.2.toNat []) (8*k) 8
def Xw (x:Nl)(l:List (Int×Int)):List Int:=l.flatMap (Zgv x)
def Ll (v:List Int)(l:List Int):List Int:=l.map fun k=>v.getD k.toNat 0
def Ot (v:List Int)(ds vals:List Int):List Int:=(ds.zip vals).foldl (fun v p=>v.set p.1.toNat p.2) v
def Zby (bs:List Int)(ws:List Int):List Int:=(List.range ws.length).foldl (fun b k=>stB b (8*k) 8 (ws.getD k 0)) bs
def Ks:List (Int×Int)→List Int→List (List Int)→List Int→List Int×List (List Int)
 | [],v,s,_=>(v,s)
 | p :: r,v,s,ws=>if p.1=0 then Ks r (v.set p.2.toNat (ws.getD 0 0)) s (ws.drop 1) else Ks r v (s.set p.2.toNat (Zby (s.getD p.2.toNat []) (ws.take p.1.toNat))) (ws.drop p.1.toNat)
def Ka (f:Zy)(ws outs:List Int):Nl :=
 let q:=Ks f.params (List.replicate f.homes.length 0) (f.slots.map fun n=>List.replicate (8*n).toNat 0) ws
 ⟨f,0,0,q.1,q.2,outs⟩
def Zbe (op a b:Int):Int :=
 if op=3 then IntKind.u64.wrap (a+b) else if op=4 then IntKind.u64.wrap (a-b) else if op=5 then IntKind.u64.wrap (a*b) else if op=6 then bits .and .u64 a b else if op=7 then bits .xor .u64 a b else if op=8 then (if a<b then 1 else 0) else if op=9 then (if a=b then 1 else 0) else 0
def Sb (y:Nl)(i:Zq):Nl :=
 if i.op=1 then { y with v:=y.v.set i.d.toNat i.n }
 else if i.op=2 then { y with v:=y.v.set i.d.toNat (y.v.getD i.a.toNat 0) }
 else if i.op=10 then { y with v:=y.v.set i.d.toNat (ldB (y.s.getD i.a.toNat []) i.bb.toNat i.n.toNat) }
 else if i.op=11 then { y with s:=y.s.set i.a.toNat (stB (y.s.getD i.a.toNat []) i.bb.toNat i.n.toNat (y.v.getD i.d.toNat 0)) }
 else if i.op=14 then { y with b:=i.a,i:=0 }
 else if i.op=15 then { y with b:=if y.v.getD i.d.toNat 0=0 then i.bb else i.a,i:=0 }
 else { y with v:=y.v.set i.d.toNat (Zbe i.op (y.v.getD i.a.toNat 0) (y.v.getD i.bb.toNat 0)) }
def Ss:Type:=(List Int×Nat×List Int×List (Int×List Int)) ⊕ ((Int×Nat×List Int×List (Int×List Int)) ⊕ (List Int×List (Int×List Int)))
abbrev Ss.done (l:List Int)(left:Nat)(sc:List Int)(tr:List (Int×List Int)):Ss:=.inl (l,left,sc,tr)
abbrev Ss.trap (c:Int)(left:Nat)(sc:List Int)(tr:List (Int×List Int)):Ss:=.inr (.inl (c,left,sc,tr))
abbrev Ss.spent (sc:List Int)(tr:List (Int×List Int)):Ss:=.inr (.inr (sc,tr))
theorem Ss.el {motive:Ss→Prop}(r:Ss)(done:∀ l left sc tr,motive (.done l left sc tr))(trap:∀ c left sc tr,motive (.trap c left sc tr))(spent:∀ sc tr,motive (.spent sc tr)):motive r :=
 match r with
 | .inl (l,left,sc,tr)=>done l left sc tr
 | .inr (.inl (c,left,sc,tr))=>trap c left sc tr
 | .inr (.inr (sc,tr))=>spent sc tr
def Yg (x:Nl):Zq:=(x.fn.blocks.getD x.b.toNat []).getD x.i.toNat Dd
def Yd (x:Nl):Nl:={ x with i:=x.i+1 }
def Lm (sc:List Int)(n:Nat):List Int:=(List.range n).map fun k=>sc.getD k 0
def Zdj (P:Zw)(y:Nl)(i:Zq)(outs:List Int):Nl:=Ka (P.funcs.getD i.f.toNat Zp) (Xw y i.args) outs
def ev (P:Zw):Nat→List Nl→List Int→List (Int×List Int)→Ss
 | 0,_,sc,tr=>.spent sc tr
 | _+1,[],sc,tr=>.spent sc tr
 | n+1,x :: R,sc,tr =>
  if (Yg x).op=12 then ev P n (Zdj P (Yd x) (Yg x) (Yg x).outs :: Yd x :: R) sc tr
  else if (Yg x).op=13 then ev P n ({ Yd x with v:=Ot x.v (Yg x).outs (Lm sc (Yg x).outs.length) } :: R) (sc.drop (Yg x).outs.length) (tr++[((Yg x).f,Xw x (Yg x).args)])
  else if (Yg x).op=16 then
   match R with
   | []=>.done (Ll x.v (Yg x).outs) n sc tr
   | c :: R'=>ev P n ({ c with v:=Ot c.v x.o (Ll x.v (Yg x).outs) } :: R') sc tr
  else if (Yg x).op=17 then ev P n (Zdj P (Yd x) (Yg x) x.o :: R) sc tr
  else if (Yg x).op=18 then .trap (Yg x).n n sc tr
  else ev P n (Sb (Yd x) (Yg x) :: R) sc tr
theorem Ydx (y:Nl)(i:Zq):(Sb y i).o=y.o:=by
 unfold Sb;repeat' split
 all_goals rfl
structure OnB (lo hi:Nat)(w w':World):Prop where
 os:w'.os=w.os
 tape:w'.tape=w.tape
 output:w'.output=w.output
 size:w.heap.size≤w'.heap.size
 oth:∀ q:Nat,q<w.heap.size→q<lo∨hi≤q→w'.heap[q]?=w.heap[q]?
def uC (l:List Int):List Value:=l.map fun n=>.int .u64 n
def yC (l:List Int):List Value:=l.map fun n=>.int .u8 n
def slC (gs ns:List Nat):List Value:=(List.range ns.length).map fun k=>.slice (some ⟨gs.getD k 0,0,none⟩) (ns.getD k 0) (ns.getD k 0)
structure Na (w0 V:World)(x:Nl)(q lo hi lg:Nat)(bp sp op:Option Addr)(bc sc oc:Nat)(gs:List Nat)(B:Nat→Value):Prop where
 ql:lo≤q
 qh:q<hi
 gl:lo≤lg
 gh:lg<hi
 gq:lg≠q
 hs:hi≤V.heap.size
 row:V.heap[q]?=some (.cells #[.slice bp x.fn.blocks.length bc,.int .i64 x.b,.int .i64 x.i,.slice (some ⟨lg,0,none⟩) x.v.length x.v.length,.slice sp x.s.length sc,.slice op x.o.length oc] 309 (0,0))
 loc:V.heap[lg]?=some (.cells (uC x.v).toArray 50 (0,0))
 slo:V.ownsRow lo 286 1 (.slice sp x.s.length sc) x.s.length (slC gs (x.s.map List.length))
 sb:∀ g,(Value.slice sp x.s.length sc).ownBlock=some g→g<hi
 len:gs.length=x.s.length
 each:∀ k,k<x.s.length→V.heap[gs.getD k 0]?=some (.cells (yC (x.s.getD k [])).toArray 5 (0,0))∧lo≤gs.getD k 0∧gs.getD k 0<hi
 inj:∀ j k,j<k→k<gs.length→gs.getD j 0<gs.getD k 0
 bls:LS 1 w0 (.slice bp x.fn.blocks.length bc) x.fn.blocks.length (fun k=>#[B k])
 blk:∀ k (h:k<x.fn.blocks.length),Zat w0 (B k) x.fn.blocks[k]
 ous:Li w0 (.slice op x.o.length oc) x.o
structure IOk (x:Nl):Prop where
 v:∀ n ∈ x.v,0≤n∧n<18446744073709551616
 s:∀ l ∈ x.s,∀ n ∈ l,0≤n∧n<256
set_option maxHeartbeats 4000000
theorem Zck (b:Bool)(w:World):Calls Tryz.prog 230 #[.bool b] w fun e w'=>e=.returned (.int .u64 (if b=true then 1 else 0))∧w'=w:=by
 cases b with
 | true =>
  go_enter Tryz.func230,Tryz.ntmps230
  go_wp2;go_ret;exact⟨rfl,rfl⟩
 | false =>
  go_enter Tryz.func230,Tryz.ntmps230
  go_wp2;go_ret;exact⟨rfl,rfl⟩
theorem Zur (op a b:Int)(w:World):Calls Tryz.prog 176 #[.int .i64 op,.int .u64 a,.int .u64 b] w fun e w'=>e=.returned (.int .u64 (Zbe op a b))∧w'=w:=by
 by_cases h3:op=3
 ·
  subst h3;go_enter Tryz.func176,Tryz.ntmps176
  go_wp2;go_ret;exact⟨rfl,rfl⟩
 by_cases h4:op=4
 ·
  subst h4;go_enter Tryz.func176,Tryz.ntmps176
  go_wp2;go_ret;exact⟨rfl,rfl⟩
 by_cases h5:op=5
 ·
  subst h5;go_enter Tryz.func176,Tryz.ntmps176
  go_wp2;go_ret;exact⟨rfl,rfl⟩
 by_cases h6:op=6
 ·
  subst h6;go_enter Tryz.func176,Tryz.ntmps176
  go_wp2;go_ret;exact⟨rfl,rfl⟩
 by_cases h7:op=7
 ·
  subst h7;go_enter Tryz.func176,Tryz.ntmps176
  go_wp2;go_ret;exact⟨rfl,rfl⟩
 by_cases h8:op=8
 ·
  subst h8;by_cases hx:a<b
  ·
   skip
   have HX:=Za hx;go_enter Tryz.func176,Tryz.ntmps176
   go_wp2_with fail
   refine(Zck _ _).mono ?_;rintro e w1 ⟨rfl,hw⟩;subst w1;go_wp2;go_ret;exact⟨by unfold Zbe; simp [J HX],rfl⟩
  ·
   skip
   have HX:=Za hx;go_enter Tryz.func176,Tryz.ntmps176
   go_wp2_with fail
   refine(Zck _ _).mono ?_;rintro e w1 ⟨rfl,hw⟩;subst w1;go_wp2;go_ret;exact⟨by unfold Zbe; simp [J HX],rfl⟩
 by_cases h9:op=9
 ·
  subst h9;by_cases hx:a=b
  ·
   have hz:(a==b)=true:=by simp [hx]
   have HX:=Za hx;go_enter Tryz.func176,Tryz.ntmps176
   go_wp2_with fail
   refine(Zck _ _).mono ?_;rintro e w1 ⟨rfl,hw⟩;subst w1;go_wp2;go_ret;exact⟨by unfold Zbe; simp [J HX],rfl⟩
  ·
   have hz:(a==b)=false:=by simp [hx]
   have HX:=Za hx;go_enter Tryz.func176,Tryz.ntmps176
   go_wp2_with fail
   refine(Zck _ _).mono ?_;rintro e w1 ⟨rfl,hw⟩;subst w1;go_wp2;go_ret;exact⟨by unfold Zbe; simp [J HX],rfl⟩
 have z3:(op==3)=false:=by simp [h3]
 have z4:(op==4)=false:=by simp [h4]
 have z5:(op==5)=false:=by simp [h5]
 have z6:(op==6)=false:=by simp [h6]
 have z7:(op==7)=false:=by simp [h7]
 have z8:(op==8)=false:=by simp [h8]
 have z9:(op==9)=false:=by simp [h9]
 have HR:=Za (show Zbe op a b=0 by unfold Zbe; rw [if_neg h3,if_neg h4,if_neg h5,if_neg h6,if_neg h7,if_neg h8,if_neg h9]);clear h3 h4 h5 h6 h7 h8 h9;go_enter Tryz.func176,Tryz.ntmps176
 go_wp2;go_ret;exact⟨by rw [J HR]; rfl,rfl⟩
theorem Zri:∀ j:Nat,j≤8→(256:Int) ^ j≤18446744073709551616
 | 0,_=>by decide
 | 1,_=>by decide
 | 2,_=>by decide
 | 3,_=>by decide
 | 4,_=>by decide
 | 5,_=>by decide
 | 6,_=>by decide
 | 7,_=>by decide
 | 8,_=>by decide
 | n+9,h=>by omega
theorem Zuu {bs:List Int}{k:Nat}(h:k<bs.length):(yC bs).toArray[k]?=some (.int .u8 (bs.getD k 0)):=by
 simp [yC,List.getD,h]
theorem Zdd {l:List Int}{k:Nat}(h:k<l.length)(d:Int):l.getD k d ∈ l:=by
 simp [List.getD,h]
theorem Zgp {bs:List Int}(hb:∀ n ∈ bs,0≤n∧n<256)(i:Nat):0≤bs.getD i 0∧bs.getD i 0<256:=by
 by_cases h:i<bs.length
 ·
  exact hb _ (Zdd h 0)
 ·
  simp [List.getD,h]
theorem Zgq (bs:List Int)(a k:Nat)(v:Int):(stB bs a k v).length=bs.length:=by simp [stB]
theorem Zuv (bs:List Int)(a:Nat)(v:Int):stB bs a 0 v=bs:=by
 unfold stB;rw [Zks];apply List.ext_getElem?
 intro i;by_cases h:i<bs.length
 ·
  simp [List.getD,h]
 ·
  simp [h]
theorem Zuw (bs:List Int)(a k:Nat)(v:Int):stB bs a (k+1) v=(stB bs a k v).set (a+k) (byt v k):=by
 apply List.ext_getElem?
 intro i;rw [List.getElem?_set];unfold stB;by_cases h:i<bs.length
 ·
  by_cases he:a+k=i
  ·
   subst he;simp [h,Zed]
  ·
   rw [if_neg he];simp [h,Zed,Ne.symm he]
 ·
  by_cases he:a+k=i
  ·
   subst he;simp [h]
  ·
   rw [if_neg he];simp [h]
theorem Ydr (bs:List Int)(i:Nat)(x:Int):(yC bs).toArray.setIfInBounds i (.int .u8 x)=(yC (bs.set i x)).toArray:=by
 simp [yC,List.map_set]
theorem Yds (bs:List Int)(i:Nat)(x:Int):(uC bs).toArray.setIfInBounds i (.int .u64 x)=(uC (bs.set i x)).toArray:=by
 simp [uC,List.map_set]
theorem Zgr (w:World)(d a:Nat)(v:Int)(bs:List Int)(h:w.heap[d]?=some (.cells (yC bs).toArray 5 (0,0))):∀ k,(stw w d a v k).heap[d]?=some (.cells (yC (stB bs a k v)).toArray 5 (0,0))
 | 0=>by rw [Zuv]; exact h
 | k+1=>by
  have:=heap_setCell_same _ _ (a+k) _ _ (.int .u8 (byt v k)) (Zgr w d a v bs h k);rw [Ydr,← Zuw] at this;exact this
set_option maxHeartbeats 400000
def isW (n:Int):Bool:=n==1||n==2||n==4||n==8
theorem Zap (n:Int):isW n=true↔n=1∨n=2∨n=4∨n=8:=by unfold isW; simp; omega
theorem Zsk (n:Int)(w:World):Calls Tryz.prog 295 #[.int .i64 n] w fun e w'=>e=.returned (.bool (isW n))∧w'=w:=by
 by_cases h1:n=1
 ·
  subst h1; go_enter Tryz.func295,Tryz.ntmps295; go_wp2; go_ret; exact⟨rfl,rfl⟩
 by_cases h2:n=2
 ·
  subst h2; go_enter Tryz.func295,Tryz.ntmps295; go_wp2; go_ret; exact⟨rfl,rfl⟩
 by_cases h4:n=4
 ·
  subst h4; go_enter Tryz.func295,Tryz.ntmps295; go_wp2; go_ret; exact⟨rfl,rfl⟩
 by_cases h8:n=8
 ·
  subst h8; go_enter Tryz.func295,Tryz.ntmps295; go_wp2; go_ret; exact⟨rfl,rfl⟩
 have e1:(n==1)=false:=by simp [h1]
 have e2:(n==2)=false:=by simp [h2]
 have e4:(n==4)=false:=by simp [h4]
 have e8:(n==8)=false:=by simp [h8]
 have e:isW n=false:=by simp [isW,h1,h2,h4,h8]
 rw [e]; clear e;go_enter Tryz.func295,Tryz.ntmps295; go_wp2; go_ret; exact⟨rfl,rfl⟩
set_option maxHeartbeats 400000
theorem Zus (p:Option Addr)(n:Nat)(a k:Int)(w:World)(hn:n≤65536)(hw:isW k=true)(ha0:0≤a)(hak:a+k≤n):Calls Tryz.prog 293 #[.slice p n n,.int .i64 a,.int .i64 k] w fun e w'=>e=.returned .nilIface∧w'=w:=by
 have hk:=(Zap k).1 hw;have hk1:1≤k:=by omega
 have hk8:k≤8:=by omega
 clear hk;have ha:¬ a<0:=by omega
 have hs:¬ (n:Int)-k<a:=by omega
 go_enter Tryz.func293,Tryz.ntmps293
 go_wp2_with (go_at_call 295; refine(Zsk _ _).mono ?_; rintro e w' ⟨rfl,rfl⟩)
 go_ret;exact⟨rfl,rfl⟩
theorem Zzk (d n:Nat)(m:Nat→Int)(a k:Nat)(w:World)(hn:n≤65536)(hk8:k≤8)(hak:a+k≤n)(hww:isW k=true)(hc:∀ i,i<n→w.cell? ⟨d,i,none⟩=some (.int .u8 (m i)))(hm:∀ i,0≤m i∧m i<256) :
 Calls Tryz.prog 228 #[.slice (some ⟨d,0,none⟩) n n,.int .i64 a,.int .i64 k] w fun e w'=>e=.returned (.tuple #[.int .u64 (ldv m a k),.nilIface])∧w'=w:=by
 have hl:=Zus (some ⟨d,0,none⟩) n a k w hn hww (by omega) (by omega);have HL:=Zkr hl;have HM:=Zkr hm;have HC:=Zkr hc;clear hl hww hm hc;go_enter Tryz.func228,Tryz.ntmps228
 go_wp2_with (go_at_call 293; refine(Kw HL).mono ?_; rintro e w' ⟨rfl,rfl⟩)
 go_loop [9,10] (fun v i=>∃ j:Nat,j≤k∧i=.int .i64 ((j:Int)-1)∧v=.int .u64 (ldv m (a+j) (k-j))) (fun _ i=>(intOf i+1).toNat)
 case atStart=>exact⟨k,Nat.le_refl _,rfl,by simp [ldv]⟩
 case round =>
  obtain⟨j,hj,rfl,rfl⟩:=hrel;cases j with
  | zero =>
   have HE:=Zkr (show ldv m (a+0) (k-0)=ldv m a k from rfl);go_wp2;go_ret2;exact⟨rfl,rfl⟩
  | succ j =>
   have hcx:=Kw HC (a+j) (by omega);have hmx:=Kw HM (a+j);have hb:=Znx (Kw HM) (k-(j+1)) (a+(j+1));have hp:=Zsl (k-(j+1)) (by omega);have hb2:ldv m (a+(j+1)) (k-(j+1))<72057594037927936:=by omega
   clear hp;obtain⟨hb0,-⟩:=hb;have HO:=Zkr (or8 _ _ hb0 hb2 hmx.1 hmx.2);go_wp2;go_round
   case rel =>
    refine⟨j,by omega,rfl,?_⟩;rw [Kw HO,show k-j=(k-(j+1))+1 by omega];rfl
   case measure=>simp [intOf]
theorem Zut (d n:Nat)(m:Nat→Int)(a k:Nat)(v:Int)(w:World)(hn:n≤65536)(hk8:k≤8)(hak:a+k≤n)(hww:isW k=true)(hc:∀ i,i<n→w.cell? ⟨d,i,none⟩=some (.int .u8 (m i)))(hf:∀ i,i<n→w.frozen? ⟨d,i,none⟩=false) :
 Calls Tryz.prog 227 #[.slice (some ⟨d,0,none⟩) n n,.int .i64 a,.int .i64 k,.int .u64 v] w fun e w'=>e=.returned .nilIface∧w'=stw w d a v k:=by
 have hl:=Zus (some ⟨d,0,none⟩) n a k w hn hww (by omega) (by omega);have HL:=Zkr hl;have HF:=Zkr hf;have HC:=Zkr hc;clear hl hww hf hc;go_enter Tryz.func227,Tryz.ntmps227
 go_wp2_with (go_at_call 293; refine(Kw HL).mono ?_; rintro e w' ⟨rfl,hw'⟩; subst hw')
 go_loopw [19] (fun i wr=>∃ j:Nat,j≤k∧i=.int .i64 j∧wr=stw w' d a v j) (fun i _=>k-(intOf i).toNat)
 case atStart=>exact⟨0,by omega,rfl,rfl⟩
 case round =>
  obtain⟨j,hj,rfl,rfl⟩:=hrel;by_cases hlt:j<k
  ·
   have hcx:=Zkt w' d a v n m (Kw HC) j (by omega) (a+j) (by omega);have hfx:=(Zee w' d a v ⟨d,a+j,none⟩ j).trans (Kw HF (a+j) (by omega));go_wp2;go_roundw
   case rel=>exact⟨j+1,hlt,by go_num,by rw [Yav]; rfl⟩
   case measure=>simp [intOf]; omega
  ·
   obtain rfl:j=k:=by omega
   go_wp2;go_ret;exact⟨rfl,rfl⟩
theorem Zov (bs:List Int)(g a k:Nat)(w:World)(hr:w.heap[g]?=some (.cells (yC bs).toArray 5 (0,0)))(hb:∀ n ∈ bs,0≤n∧n<256)(hk:isW k=true)(hak:a+k≤bs.length)(hn:bs.length≤65536) :
 Calls Tryz.prog 228 #[.slice (some ⟨g,0,none⟩) bs.length bs.length,.int .i64 a,.int .i64 k] w fun e w'=>e=.returned (.tuple #[.int .u64 (ldB bs a k),.nilIface])∧w'=w :=
 Zzk g bs.length (fun i=>bs.getD i 0) a k w hn (by have:=(Zap k).1 hk; omega) hak hk (fun i hi=>(Zr hr i).trans (Zuu hi)) (Zgp hb)
theorem Zji (bs:List Int)(g a k:Nat)(v:Int)(w:World)(hr:w.heap[g]?=some (.cells (yC bs).toArray 5 (0,0)))(hk:isW k=true)(hak:a+k≤bs.length)(hn:bs.length≤65536) :
 Calls Tryz.prog 227 #[.slice (some ⟨g,0,none⟩) bs.length bs.length,.int .i64 a,.int .i64 k,.int .u64 v] w fun e w'=>e=.returned .nilIface∧w'=stw w g a v k :=
 Zut g bs.length (fun i=>bs.getD i 0) a k v w hn (by have:=(Zap k).1 hk; omega) hak hk (fun i hi=>(Zr hr i).trans (Zuu hi)) (fun i _=>frozen_of_row _ _ i _ _ hr)
end Go.Proofs.YtedemloocadimaaGreatDoor
