import Derived.Test.YtkenknfgeoecbaaGreatDoorProg
import Derived.Handy
import Derived.WalkLawsBesides
import Derived.Deep.MidRow
import Derived.Deep.Onto
import Derived.Deep.RegionLaw
namespace Go.Proofs.YtkenknfgeoecbaaGreatDoor
open Go.RowKit
set_option maxHeartbeats 2000000
set_option maxRecDepth 100000
theorem Zc {p:Prop}(h:p):Hid p:=h
theorem O {p:Prop}(h:Hid p):p:=h
def Oj (l:List UInt8):List Value:=l.map fun x=>.int .u8 x.toNat
structure Wt (w:World)(b:Nat)(v:Value)(l:List UInt8):Prop where
 cell:w.cell? ⟨b,0,none⟩=some v
 fz:w.frozen? ⟨b,0,none⟩=false
 row:w.ownsRow (b+1) 5 1 v l.length (Oj l)
structure Ws (w w':World)(b:Nat):Prop where
 low:Below b w w'
 oth:Lib.OthersKept 5 (some b) w w'
theorem Ws.refl (w:World)(b:Nat):Ws w w b:=⟨Below.refl _ _,Lib.OthersKept.refl _ _ _⟩
theorem Ws.trans {a c d:World}{b:Nat}(h:Ws a c b)(k:Ws c d b):Ws a d b:=⟨h.low.trans k.low,h.oth.trans k.oth⟩
def Ry:List PanicEntry:=[{ v:=.iface 189 (.agg #[.iface 127 (.int .i64 4)]),recovered:=false }]
def Xs (v:Int):UInt8:=UInt8.ofNat (v % 256).toNat
def Zl (lo hi v:Int):Option (List UInt8):=if lo<=v∧v<=hi then some [Xs v] else none
def Nj (b:Nat)(l:List UInt8)(r:Option (List UInt8))(w:World)(e:Ending)(w':World):Prop :=
 Ws w w' b∧match r with
  | some bs=>e=.returned (.tuple #[])∧∃ v,Wt w' b v (l++bs)
  | none=>e=.panicked Ry
theorem Rz (p:Value)(w:World):Calls Tryz.prog 79 #[p] w fun e w'=>e=.panicked Ry∧w'=w:=by
 go_enter Tryz.func79,Tryz.ntmps79
 go_wp2;exact⟨rfl,rfl,rfl⟩
theorem Jx {P:Program}{t:TypeId}{z:Value}{n b:Nat}(h:(P.info? t).map (fun i=>(i.zero,i.size,i.bytes))=some (some z,n,b)):∃ i,P.info? t=some i∧i.zero=some z∧i.size=n∧i.bytes=b:=by
 cases hi:P.info? t with
 | none=>simp [hi] at h
 | some i=>simp [hi] at h; exact⟨i,rfl,h.1,h.2.1,h.2.2⟩
theorem Tryz.infoU:(Tryz.prog.info? 5).map (fun i=>(i.zero,i.size,i.bytes))=some (some (.int .u8 0),1,1):=by kernel_rfl
theorem Zbw {w w':World}{b n:Nat}{v:Value}{xs:List Value}{B:Nat}(h:w.ownsRow B 5 1 v n xs)(hg:w.grownBy w' v.ownBlock):Lib.OthersKept 5 (some b) w w':=by
 intro k o hk _ hne;have hlt:k<w.heap.size:=by
  rcases Nat.lt_or_ge k w.heap.size with x | x
  ·exact x
  ·simp [Array.getElem?_eq_none x] at hk
 rw [hg.block k hlt ?_]
 ·exact hk
 ·intro e;rcases h.2 with⟨h1,_⟩ | ⟨g,cap,cur,h1,h2,h3,_⟩
  ·rw [h1] at e; simp [Value.ownBlock] at e
  ·rw [h1] at e;simp [Value.ownBlock] at e;subst e;rw [hk] at h3;exact hne _ _ (Option.some.inj h3)
theorem Zen (w:World)(o:Obj)(b:Nat):Lib.OthersKept 5 (some b) w (w.alloc o):=fun k x hk _ _=>by
 have hlt:k<w.heap.size:=by
  rcases Nat.lt_or_ge k w.heap.size with y | y
  ·exact y
  ·simp [Array.getElem?_eq_none y] at hk
 exact(((Below.refl w.heap.size w).alloc (Nat.le_refl _) o).block k hlt).trans hk
theorem Znz (w:World)(b j:Nat)(v:Value):Lib.OthersKept 5 (some b) w (w.setCell ⟨b,j,none⟩ v):=fun k x hk hne _=>by
 have hkb:k≠b:=fun e=>hne (by rw [e]);rw [← hk];exact heap_setCell_other w ⟨b,j,none⟩ k v hkb
theorem Zeo {w:World}{base n:Nat}{v:Value}{xs:List Value}(h:w.ownsRow base 5 1 v (n+1) xs):∃ g cap,v=.slice (some ⟨g,0,none⟩) (n+1) cap:=by
 rcases h.2 with⟨_,e0⟩ | ⟨g,cap,cur,e,-⟩
 ·omega
 ·exact⟨g,cap,e⟩
theorem Zep (w:World)(b j:Nat)(v:Value):Below b w (w.setCell ⟨b,j,none⟩ v):=⟨rfl,rfl,rfl,by simp,fun q hq=>heap_setCell_other w ⟨b,j,none⟩ q v (Nat.ne_of_lt hq)⟩
theorem Jg (b:Nat)(v:Value)(l:List UInt8)(x lo hi:Int)(w:World)(h:Wt w b v l)(hl:l.length<=100000000000) :
 Calls Tryz.prog 164 #[.pointer (some ⟨b,0,none⟩),.int .i64 x,.int .i64 lo,.int .i64 hi] w (Nj b l (Zl lo hi x) w):=by
 obtain⟨ti,hti,hz0,hz1,hz2⟩:=Jx Tryz.infoU;have hbl:=World.block_lt_of_cell? w _ h.cell;by_cases h1:lo<=x
 ·by_cases h2:x<=hi
  ·have hr:Zl lo hi x=some [Xs x]:=if_pos ⟨h1,h2⟩;have HR:=Zc hr;have HW:=Zc h;have cc:=h.cell;have cf:=h.fz;clear hr h;go_enter Tryz.func164,Tryz.ntmps164
   go_wp2_with (at_builtin; refine wpList_append_own _ rfl _ _ 182 rfl (b+1) 5 ti _ 1 1 Tryz.underlying182 hti hz0 hz1 hz2 rfl (by decide) _ _ _ rfl ((O HW).row.alloc _) ⟨w.heap.size,0,none⟩ 1 1 [.int .u8 (x % 256)] rfl rfl (by intro j u hj; match j,hj with | 0,hj=>(simp at hj; subst hj; exact(World.cell?_alloc_at _ _ _ _ (by simp)).trans rfl)) (by intro u hu; simp at hu; subst hu; rfl) ?c3 ?c4 ?c5 ?_)
   case c3=>unfold maxLen; omega
   case c4=>omega
   case c5=>first | omega | (simp; omega)
   intro v' w7 hown hgr _;obtain⟨g2,cap2,rfl⟩:=Zeo hown;have hb0:=hgr.block b (by simp; omega) (by intro e; have:=((O HW).row.lt b e.symm).1; omega);have hb1:w7.heap[b]?=w.heap[b]?:=hb0.trans (((Below.refl w.heap.size w).alloc (Nat.le_refl _) _).block b hbl);have c7:w7.cell? ⟨b,0,none⟩=some v:=(World.cell?_of_block hb1).trans (O HW).cell;have f7:w7.frozen? ⟨b,0,none⟩=false:=(World.frozen?_of_block (a:=⟨b,0,none⟩) hb1).trans (O HW).fz;have HC7:=Zc c7;have HOW:=Zc hown;have HWS:=Zc (show Ws w (w7.setCell ⟨b,0,none⟩ (.slice (some ⟨g2,0,none⟩) (l.length+1) cap2)) b from⟨(((Below.refl b w).alloc (by omega) _).trans ⟨hgr.os,hgr.tape,hgr.output,hgr.size,fun q hq=>hgr.block q (by simp; omega) (by intro e; have:=((O HW).row.lt q e.symm).1; omega)⟩).trans (Zep w7 b 0 _),((Zen w _ b).trans (Zbw ((O HW).row.alloc _) hgr)).trans (Znz w7 b 0 _)⟩);clear hown hgr hb0 hb1 cc cf;have HWT:=Zc (show Wt (w7.setCell ⟨b,0,none⟩ (.slice (some ⟨g2,0,none⟩) (l.length+1) cap2)) b (.slice (some ⟨g2,0,none⟩) (l.length+1) cap2) (l++[Xs x]) from by
    refine⟨World.cell?_setCell_same _ _ _ c7,by rw [World.frozen?_setCell]; exact f7,?_⟩;have h1:=ownsRow_setCell_below (O HOW) (a:=⟨b,0,none⟩) (show b<b+1 by omega) (.slice (some ⟨g2,0,none⟩) (l.length+1) cap2);have e1:Oj (l++[Xs x])=Oj l++[.int .u8 (x % 256)]:=by
     have:((Xs x).toNat:Int)=x % 256:=by unfold Xs; simp; omega
     simp [Oj,this]
    rw [e1,show(l++[Xs x]).length=l.length+1 by simp];exact h1)
   go_wp2;refine bodyPost_end (results_none (fn:=Tryz.f164) rfl _ _ _) rfl ?_;refine⟨O HWS,?_⟩;rw [O HR];exact⟨rfl,_,O HWT⟩
  ·have hr:Zl lo hi x=none:=if_neg (fun c=>h2 c.2);have HR:=Zc hr;clear hr h;go_enter Tryz.func164,Tryz.ntmps164
   go_wp2_with fail
   refine(Rz _ _).mono ?_;rintro e w' ⟨rfl,hw⟩;subst w';refine⟨rfl,Ws.refl _ _,?_⟩;rw [O HR]
 ·have hr:Zl lo hi x=none:=if_neg (fun c=>h1 c.1);have HR:=Zc hr;clear hr h;go_enter Tryz.func164,Tryz.ntmps164
  go_wp2_with fail
  refine(Rz _ _).mono ?_;rintro e w' ⟨rfl,hw⟩;subst w';refine⟨rfl,Ws.refl _ _,?_⟩;rw [O HR]
set_option maxHeartbeats 2000000
set_option maxRecDepth 100000
def Xr (a c:Option (List UInt8)):Option (List UInt8):=match a with
 | none=>none
 | some x=>match c with
  | none=>none
  | some y=>some (x++y)
def Xj {α:Type}(one:α->Option (List UInt8)):List α->Option (List UInt8)
 | []=>some []
 | x :: xs=>Xr (one x) (Xj one xs)
def Xz {α:Type}(lo hi:Int)(one:α->Option (List UInt8))(xs:List α):Option (List UInt8):=Xr (Zl lo hi xs.length) (Xj one xs)
theorem Gr {α:Type}(one:α->Option (List UInt8)):∀(xs:List α) (x:α),Xj one (xs++[x])=Xr (Xj one xs) (one x)
 | [],x=>by
  simp only [List.nil_append,Xj,Xr];cases one x <;> simp
 | y :: xs,x=>by
  simp only [List.cons_append,Xj,Gr one xs x];cases one y with
  | none=>rfl
  | some a =>
   cases Xj one xs with
   | none=>rfl
   | some c =>
    cases one x with
    | none=>rfl
    | some d=>simp [Xr]
theorem Gs {α:Type}(one:α->Option (List UInt8)):∀(xs ys:List α),Xj one xs=none->Xj one (xs++ys)=none
 | [],ys,h=>by cases h
 | x :: xs,ys,h=>by
  simp only [List.cons_append,Xj] at h ⊢;cases hx:one x with
  | none=>rfl
  | some a =>
   rw [hx] at h;simp only [Xr] at h ⊢;cases hxs:Xj one xs with
   | none=>rw [Gs one xs ys hxs]
   | some c=>rw [hxs] at h; cases h
def Sk (w:World)(b:Nat)(v:Value)(ns:List Int):Prop:=(ns=[]∧∃ p cap,v=.slice p 0 cap)∨∃ sb so cap,v=.slice (some ⟨sb,so,none⟩) ns.length cap∧sb<b∧∀ i,i<ns.length->w.cell? ⟨sb,so+i,none⟩=some (.int .i64 (ns.getD i 0))
theorem Sk.ws {w w':World}{b:Nat}{v:Value}{ns:List Int}(h:Sk w b v ns)(hw:Ws w w' b):Sk w' b v ns:=by
 rcases h with h | ⟨sb,so,cap,h1,h2,h3⟩
 ·exact Or.inl h
 ·exact Or.inr ⟨sb,so,cap,h1,h2,fun i hi=>(hw.low.cell (p:=⟨sb,so+i,none⟩) h2).trans (h3 i hi)⟩
theorem Sk.shape {w:World}{b:Nat}{v:Value}{ns:List Int}(h:Sk w b v ns):∃ p cap,v=.slice p ns.length cap:=by
 rcases h with⟨rfl,p,cap,e⟩ | ⟨sb,so,cap,e,_⟩
 ·exact⟨p,cap,e⟩
 ·exact⟨_,_,e⟩
theorem Zti {ns:List Int}{k:Nat}(hk:k<ns.length):ns.take (k+1)=ns.take k++[ns.getD k 0]:=by rw [List.take_succ_eq_append_getElem hk];simp [List.getD,hk]
theorem Zp {lo hi x:Int}{bs:List UInt8}(h:Zl lo hi x=some bs):bs.length=1:=by
 unfold Zl at h;split at h
 ·cases h; rfl
 ·cases h
theorem Gt {α:Type}(one:α->Option (List UInt8))(K:Nat)(hK:∀ x bs,one x=some bs->bs.length<=K):∀(xs:List α) (bs:List UInt8),Xj one xs=some bs->bs.length<=K*xs.length
 | [],bs,h=>by cases h; simp
 | x :: xs,bs,h=>by
  simp only [Xj] at h;cases hx:one x with
  | none=>rw [hx] at h; cases h
  | some a =>
   rw [hx] at h;cases hxs:Xj one xs with
   | none=>rw [hxs] at h; cases h
   | some c =>
    rw [hxs] at h;cases h
    have h1:=hK x a hx;have h2:=Gt one K hK xs c hxs;simp only [List.length_append,List.length_cons,Nat.mul_add,Nat.mul_one];omega
theorem Gf {a c:Option (List UInt8)}{bs:List UInt8}(h:Xr a c=some bs):∃ x y,a=some x∧c=some y∧bs=x++y:=by
 unfold Xr at h;split at h
 ·cases h
 ·split at h
  ·cases h
  ·injection h with h; exact⟨_,_,rfl,rfl,h.symm⟩
theorem Ma {a c:Option (List UInt8)}{bs:List UInt8}{A C:Nat}(ha:∀ x,a=some x->x.length<=A)(hc:∀ x,c=some x->x.length<=C)(h:Xr a c=some bs):bs.length<=A+C:=by obtain⟨x,y,h1,h2,rfl⟩:=Gf h;have:=ha x h1;have:=hc y h2;simp; omega
theorem Xc {α:Type}(one:α->Option (List UInt8))(K:Nat)(hK:∀ x bs,one x=some bs->bs.length<=K)(lo:Int)(hi:Nat)(xs:List α)(bs:List UInt8)(h:Xz lo hi one xs=some bs):bs.length<=1+K*hi:=by
 obtain⟨x,y,h1,h2,rfl⟩:=Gf h;have e1:=Zp h1;have e2:=Gt one K hK xs y h2;have h3:xs.length<=hi:=by
  unfold Zl at h1;split at h1
  ·omega
  ·cases h1
 have:=Nat.mul_le_mul_left K h3;simp; omega
theorem Uk (F:Nat)(hcf:∀ args w,(callFunc F args).run Tryz.prog w=.ok (.enter F args) w)(one:Int->Option (List UInt8))(K:Nat)(hK:∀ x bs,one x=some bs->bs.length<=K)(hK2:K<=1000000)(b:Nat)(M:Nat)(hM:M<=90000000000)
 (hone:∀ x v l w,Wt w b v l->l.length<=M+1000000001->Calls Tryz.prog F #[.pointer (some ⟨b,0,none⟩),.int .i64 x] w (Nj b l (one x) w))
 (lo hi:Int) (hhi:hi<=1000) (v:Value) (l:List UInt8) (lv:Value) (ns:List Int) (w:World) (h:Wt w b v l) (hl:l.length<=M) (hns:Sk w b lv ns) (hlen:ns.length<9223372036854775808) :
 Calls Tryz.prog 165 #[.pointer (some ⟨b,0,none⟩),lv,.int .i64 lo,.int .i64 hi,.func (.func F) #[.pointer (some ⟨b,0,none⟩)] #[]] w (Nj b l (Xz lo hi one ns) w):=by
 obtain⟨pp,cap,hlv⟩:=hns.shape;have HN:=Zc hns;subst hlv;have HNC:=Zc (Jg b v l ns.length lo hi w h (by omega));have HONE:=Zc hone;have HK:=Zc hK;clear hone hK h hns;go_enter Tryz.func165,Tryz.ntmps165
 go_wp2_with fail
 refine(O HNC).mono ?_;rintro e w1 ⟨hws,hm⟩;cases hr:Zl lo hi ns.length with
 | none=>rw [hr] at hm;subst hm;refine⟨rfl,hws,?_⟩;unfold Xz;rw [hr];rfl
 | some bs =>
  rw [hr] at hm;obtain⟨rfl,v1,hw1⟩:=hm;have hb1:=Zp hr;have hle:lo<=ns.length∧(ns.length:Int)<=hi:=by
   unfold Zl at hr;split at hr
   ·assumption
   ·cases hr
  have HWS:=Zc hws;have HW1:=Zc hw1;have HR:=Zc hr;clear hws hw1 hr HNC;go_wp2_with fail
  go_loopw [20] (fun j w'=>∃(k:Nat) (v':Value) (cs:List UInt8),j=.int .i64 k∧k<=ns.length∧Ws w w' b∧Xj one (ns.take k)=some cs∧Wt w' b v' (l++bs++cs)) (fun j _=>ns.length-(intOf j).toNat)
  case atStart=>exact⟨0,v1,[],rfl,by omega,O HWS,by simp [Xj],by simpa using O HW1⟩
  case round =>
   obtain⟨k,v',cs,rfl,hk,hws',hcs,hwt⟩:=hrel;have hcl:=Gt one K (O HK) _ _ hcs;have HWS':=Zc hws';have HCS:=Zc hcs;have HWT:=Zc hwt;clear hws' hcs hwt;by_cases hlt:k<ns.length
   ·obtain⟨sb,so,cap',hv,hsb,hc⟩:=((O HN).ws (O HWS')).resolve_left (fun c=>by rw [c.1] at hlt; simp at hlt);injection hv with e1 e2 e3;subst e1;have cc:=hc k hlt;have hkl:K*(ns.take k).length<=1000000*1000:=Nat.mul_le_mul hK2 (by simp; omega);have HCALL:=Zc (O HONE (ns.getD k 0) v' (l++bs++cs) wr (O HWT) (by simp [hb1]; omega));have hsn:=Gr one (ns.take k) (ns.getD k 0);rw [← Zti hlt,O HCS] at hsn;have HSN:=Zc hsn;have HAN:=Zc (fun hn=>Gs one (ns.take (k+1)) (ns.drop (k+1)) hn);clear hc hsn e2 e3;generalize ns.getD k 0=y at cc HCALL HSN;go_wp2_with fail
    refine(O HCALL).mono ?_;rintro e w2 ⟨hws2,hm⟩;cases hy:one y with
    | none=>rw [hy] at hm;subst hm;refine⟨rfl,(O HWS').trans hws2,?_⟩;have h1:=O HSN;rw [hy] at h1;have h2:=O HAN h1;rw [List.take_append_drop] at h2;unfold Xz;rw [O HR,h2];rfl
    | some ys =>
     rw [hy] at hm;obtain⟨rfl,v2,hw2⟩:=hm;have h1:=O HSN;rw [hy] at h1;have HS2:=Zc h1;have HW2:=Zc hw2;have HWS2:=Zc ((O HWS').trans hws2);clear hws2 hw2 h1 hy;go_wp2;go_roundw
     case rel=>exact⟨k+1,v2,cs++ys,by go_num,by omega,O HWS2,O HS2,by rw [← List.append_assoc]; exact O HW2⟩
     case measure=>simp [intOf]; omega
   ·obtain rfl:k=ns.length:=by omega
    have h1:=O HCS;rw [List.take_length] at h1;have HC1:=Zc h1;clear h1;go_wp2;refine bodyPost_end (results_none (fn:=Tryz.f165) rfl _ _ _) rfl ?_;refine⟨O HWS',?_⟩;unfold Xz;rw [O HR,O HC1];simp only [Xr];exact⟨trivial,v',by rw [← List.append_assoc]; exact O HWT⟩
set_option maxHeartbeats 4000000
set_option maxRecDepth 100000
def Cz {α:Type}(size:Nat)(w:World)(b:Nat)(v:Value)(ps:List (Array Value×α)):Prop:=(ps=[]∧∃ p cap,v=.slice p 0 cap)∨∃ sb so cap,v=.slice (some ⟨sb,so,none⟩) ps.length cap∧sb<b∧∀ i (hi:i<ps.length),w.rangeAt sb (so+i*size) ps[i].1.toList
theorem Cz.ws {α:Type}{size:Nat}{w w':World}{b:Nat}{v:Value}{ps:List (Array Value×α)}(h:Cz size w b v ps)(hw:Ws w w' b):Cz size w' b v ps:=by
 rcases h with h | ⟨sb,so,cap,h1,h2,h3⟩
 ·exact Or.inl h
 ·exact Or.inr ⟨sb,so,cap,h1,h2,fun i hi j x hx=>(hw.low.cell (p:=⟨sb,so+i*size+j,none⟩) h2).trans (h3 i hi j x hx)⟩
theorem Cz.shape {α:Type}{size:Nat}{w:World}{b:Nat}{v:Value}{ps:List (Array Value×α)}(h:Cz size w b v ps):∃ p cap,v=.slice p ps.length cap:=by
 rcases h with⟨rfl,p,cap,e⟩ | ⟨sb,so,cap,e,_⟩
 ·exact⟨p,cap,e⟩
 ·exact⟨_,_,e⟩
theorem Rx {α:Type}{ps:List α}{k:Nat}(hk:k<ps.length):ps.take (k+1)=ps.take k++[ps[k]]:=List.take_succ_eq_append_getElem hk
theorem Xp (w:World)(o:Obj)(b:Nat)(hb:b<=w.heap.size):Ws w (w.alloc o) b:=⟨(Below.refl b w).alloc hb o,Zen w o b⟩
theorem Wt.alloc {w:World}{b:Nat}{v:Value}{l:List UInt8}(h:Wt w b v l)(o:Obj):Wt (w.alloc o) b v l :=
 have hbl:=World.block_lt_of_cell? w _ h.cell;have e:=((Below.refl w.heap.size w).alloc (Nat.le_refl _) o).block b hbl;⟨(World.cell?_of_block e).trans h.cell,(World.frozen?_of_block (a:=⟨b,0,none⟩) e).trans h.fz,h.row.alloc o⟩
theorem Wt.lt {w:World}{b:Nat}{v:Value}{l:List UInt8}(h:Wt w b v l):b<w.heap.size:=World.block_lt_of_cell? w _ h.cell
theorem Nt (w:World)(z cs:Array Value)(t:TypeId)(fr:Nat×Nat):(w.alloc (.cells z t fr)).setRow w.heap.size cs=w.alloc (.cells cs t fr):=by
 unfold World.setRow World.alloc;simp only [World.mk.injEq,and_true];apply Array.ext
 ·simp
 ·intro k h1 h2;simp only [Array.getElem_modify,Array.getElem_push];split
  ·rename_i h; subst h; simp
  ·rename_i h;have:k<w.heap.size:=by simp at h1; omega
   simp [this]
theorem Tryz.infParams:(Tryz.prog.info? 107).map (·.size)=some 2:=by kernel_rfl
theorem Zdt {α:Type}(F:Nat)(hcf:∀ args w,(callFunc F args).run Tryz.prog w=.ok (.enter F args) w)(one:α->Option (List UInt8))(K:Nat)(hK:∀ x bs,one x=some bs->bs.length<=K)(hK2:K<=1000000)(b:Nat)(M:Nat)(hM:M<=90000000000)(ps:List (Array Value×α))(w:World)
 (hsz:∀ p ∈ ps,p.1.size=2∧p.1.all (·.oneCell')=true)
 (hone:∀ p ∈ ps,∀ v l w',Ws w w' b->Wt w' b v l->l.length<=M+1000000001->Calls Tryz.prog F #[.pointer (some ⟨b,0,none⟩),.agg p.1] w' (Nj b l (one p.2) w'))
 (lo hi:Int) (hhi:hi<=1000) (v:Value) (l:List UInt8) (lv:Value) (h:Wt w b v l) (hl:l.length<=M) (hns:Cz 2 w b lv ps) (hlen:ps.length<9223372036854775808) :
 Calls Tryz.prog 167 #[.pointer (some ⟨b,0,none⟩),lv,.int .i64 lo,.int .i64 hi,.func (.func F) #[.pointer (some ⟨b,0,none⟩)] #[]] w (Nj b l (Xz lo hi one (ps.map (·.2))) w):=by
 obtain⟨pp,cap,hlv⟩:=hns.shape;have HN:=Zc hns;subst hlv;have HNC:=Zc (Jg b v l ps.length lo hi w h (by omega));have HONE:=Zc hone;have HSZ:=Zc hsz;have HK:=Zc hK;clear hone hK h hns hsz;go_enter Tryz.func167,Tryz.ntmps167
 go_wp2_with fail
 refine(O HNC).mono ?_;rintro e w1 ⟨hws,hm⟩;cases hr:Zl lo hi ps.length with
 | none=>rw [hr] at hm;subst hm;refine⟨rfl,hws,?_⟩;unfold Xz;rw [List.length_map,hr];rfl
 | some bs =>
  rw [hr] at hm;obtain⟨rfl,v1,hw1⟩:=hm;have hb1:=Zp hr;have hle:lo<=ps.length∧(ps.length:Int)<=hi:=by
   unfold Zl at hr;split at hr
   ·assumption
   ·cases hr
  have HWS:=Zc hws;have HW1:=Zc hw1;have HR:=Zc hr;clear hws hw1 hr HNC;go_wp2_with fail
  go_loopw [20] (fun j w'=>∃(k:Nat) (v':Value) (cs:List UInt8),j=.int .i64 k∧k<=ps.length∧Ws w w' b∧Xj one ((ps.take k).map (·.2))=some cs∧Wt w' b v' (l++bs++cs)) (fun j _=>ps.length-(intOf j).toNat)
  case atStart=>exact⟨0,v1,[],rfl,by omega,O HWS,by simp [Xj],by simpa using O HW1⟩
  case round =>
   obtain⟨k,v',cs,rfl,hk,hws',hcs,hwt⟩:=hrel;have hcl:=Gt one K (O HK) _ _ hcs;have hbw:=hwt.lt;have HWS':=Zc hws';have HCS:=Zc hcs;have HWT:=Zc hwt;clear hws' hcs hwt;by_cases hlt:k<ps.length
   ·obtain⟨sb,so,cap',hv,hsb,hc⟩:=((O HN).ws (O HWS')).resolve_left (fun c=>by rw [c.1] at hlt; simp at hlt);injection hv with e1 e2 e3;subst e1;have hrg:=Zc (hc k hlt);have hkl:K*(ps.take k).length<=1000000*1000:=Nat.mul_le_mul hK2 (by simp; omega);simp only [List.length_map] at hcl;have hmem:ps[k] ∈ ps:=List.getElem_mem hlt;obtain⟨hs1,hs2⟩:=O HSZ ps[k] hmem;have HCALL:=Zc (fun X:Obj=>O HONE ps[k] hmem v' (l++bs++cs) (wr.alloc X) ((O HWS').trans (Xp wr X b (by omega))) ((O HWT).alloc X) (by simp [hb1]; omega));have hsn:=Gr one ((ps.take k).map (·.2)) ps[k].2;rw [show(ps.take k).map (·.2)++[ps[k].2]=(ps.take (k+1)).map (·.2) by rw [Rx hlt,List.map_append]; rfl,O HCS] at hsn;have HSN:=Zc hsn;have HAN:=Zc (fun hn=>Gs one ((ps.take (k+1)).map (·.2)) ((ps.drop (k+1)).map (·.2)) hn);clear hc hsn e2 e3 hmem;generalize ps[k]=y at hrg HCALL HSN hs1 hs2;obtain⟨arr,y⟩:=y;simp only at hrg HCALL HSN hs1 hs2;go_wp2_with (first | (refine wpList_load_mid rfl 107 (.tmp 22) rfl sb (so+k*2) rfl arr.toList _ (O hrg) Tryz.underlying107 rfl (Tryz.infParams.trans (congrArg some (by simp [hs1]))) ?_; simp only [Array.toArray_toList]) | (refine wpList_store_row rfl 107 (.tmp 11) (.tmp 23) rfl wr.heap.size arr rfl rfl 107 _ (heap_alloc_new _ _) (Tryz.infParams.trans (congrArg some hs1.symm)) hs1.symm hs2 ?_; rw [Nt]) | refine wpList_load_row rfl 107 (.tmp 11) rfl wr.heap.size rfl 107 arr (0,0) _ (heap_alloc_new _ _) Tryz.underlying107 rfl (Tryz.infParams.trans (congrArg some hs1.symm)) ?_)
    refine(O HCALL _).mono ?_;rintro e w2 ⟨hws2,hm⟩;have HWS2:=Zc (((O HWS').trans (Xp wr _ b (by omega))).trans hws2);clear hws2;cases hy:one y with
    | none=>rw [hy] at hm;subst hm;refine⟨rfl,O HWS2,?_⟩;have h1:=O HSN;rw [hy] at h1;have h2:=O HAN h1;rw [← List.map_append,List.take_append_drop] at h2;unfold Xz;rw [List.length_map,O HR,h2];rfl
    | some ys =>
     rw [hy] at hm;obtain⟨rfl,v2,hw2⟩:=hm;have h1:=O HSN;rw [hy] at h1;have HS2:=Zc h1;have HW2:=Zc hw2;clear hw2 h1 hy;go_wp2;go_roundw
     case rel=>exact⟨k+1,v2,cs++ys,by go_num,by omega,O HWS2,O HS2,by rw [← List.append_assoc]; exact O HW2⟩
     case measure=>simp [intOf]; omega
   ·obtain rfl:k=ps.length:=by omega
    have h1:=O HCS;rw [List.take_length] at h1;have HC1:=Zc h1;clear h1;go_wp2;refine bodyPost_end (results_none (fn:=Tryz.f167) rfl _ _ _) rfl ?_;refine⟨O HWS',?_⟩;unfold Xz;rw [List.length_map,O HR,O HC1];simp only [Xr];exact⟨trivial,v',by rw [← List.append_assoc]; exact O HWT⟩
theorem Tryz.infSigs:(Tryz.prog.info? 43).map (·.size)=some 2:=by kernel_rfl
theorem Zin {α:Type}(F:Nat)(hcf:∀ args w,(callFunc F args).run Tryz.prog w=.ok (.enter F args) w)(one:α->Option (List UInt8))(K:Nat)(hK:∀ x bs,one x=some bs->bs.length<=K)(hK2:K<=1000000)(b:Nat)(M:Nat)(hM:M<=90000000000)(ps:List (Array Value×α))(w:World)
 (hsz:∀ p ∈ ps,p.1.size=2∧p.1.all (·.oneCell')=true)
 (hone:∀ p ∈ ps,∀ v l w',Ws w w' b->Wt w' b v l->l.length<=M+1000000001->Calls Tryz.prog F #[.pointer (some ⟨b,0,none⟩),.agg p.1] w' (Nj b l (one p.2) w'))
 (lo hi:Int) (hhi:hi<=1000) (v:Value) (l:List UInt8) (lv:Value) (h:Wt w b v l) (hl:l.length<=M) (hns:Cz 2 w b lv ps) (hlen:ps.length<9223372036854775808) :
 Calls Tryz.prog 117 #[.pointer (some ⟨b,0,none⟩),lv,.int .i64 lo,.int .i64 hi,.func (.func F) #[.pointer (some ⟨b,0,none⟩)] #[]] w (Nj b l (Xz lo hi one (ps.map (·.2))) w):=by
 obtain⟨pp,cap,hlv⟩:=hns.shape;have HN:=Zc hns;subst hlv;have HNC:=Zc (Jg b v l ps.length lo hi w h (by omega));have HONE:=Zc hone;have HSZ:=Zc hsz;have HK:=Zc hK;clear hone hK h hns hsz;go_enter Tryz.func117,Tryz.ntmps117
 go_wp2_with fail
 refine(O HNC).mono ?_;rintro e w1 ⟨hws,hm⟩;cases hr:Zl lo hi ps.length with
 | none=>rw [hr] at hm;subst hm;refine⟨rfl,hws,?_⟩;unfold Xz;rw [List.length_map,hr];rfl
 | some bs =>
  rw [hr] at hm;obtain⟨rfl,v1,hw1⟩:=hm;have hb1:=Zp hr;have hle:lo<=ps.length∧(ps.length:Int)<=hi:=by
   unfold Zl at hr;split at hr
   ·assumption
   ·cases hr
  have HWS:=Zc hws;have HW1:=Zc hw1;have HR:=Zc hr;clear hws hw1 hr HNC;go_wp2_with fail
  go_loopw [20] (fun j w'=>∃(k:Nat) (v':Value) (cs:List UInt8),j=.int .i64 k∧k<=ps.length∧Ws w w' b∧Xj one ((ps.take k).map (·.2))=some cs∧Wt w' b v' (l++bs++cs)) (fun j _=>ps.length-(intOf j).toNat)
  case atStart=>exact⟨0,v1,[],rfl,by omega,O HWS,by simp [Xj],by simpa using O HW1⟩
  case round =>
   obtain⟨k,v',cs,rfl,hk,hws',hcs,hwt⟩:=hrel;have hcl:=Gt one K (O HK) _ _ hcs;have hbw:=hwt.lt;have HWS':=Zc hws';have HCS:=Zc hcs;have HWT:=Zc hwt;clear hws' hcs hwt;by_cases hlt:k<ps.length
   ·obtain⟨sb,so,cap',hv,hsb,hc⟩:=((O HN).ws (O HWS')).resolve_left (fun c=>by rw [c.1] at hlt; simp at hlt);injection hv with e1 e2 e3;subst e1;have hrg:=Zc (hc k hlt);have hkl:K*(ps.take k).length<=1000000*1000:=Nat.mul_le_mul hK2 (by simp; omega);simp only [List.length_map] at hcl;have hmem:ps[k] ∈ ps:=List.getElem_mem hlt;obtain⟨hs1,hs2⟩:=O HSZ ps[k] hmem;have HCALL:=Zc (fun X:Obj=>O HONE ps[k] hmem v' (l++bs++cs) (wr.alloc X) ((O HWS').trans (Xp wr X b (by omega))) ((O HWT).alloc X) (by simp [hb1]; omega));have hsn:=Gr one ((ps.take k).map (·.2)) ps[k].2;rw [show(ps.take k).map (·.2)++[ps[k].2]=(ps.take (k+1)).map (·.2) by rw [Rx hlt,List.map_append]; rfl,O HCS] at hsn;have HSN:=Zc hsn;have HAN:=Zc (fun hn=>Gs one ((ps.take (k+1)).map (·.2)) ((ps.drop (k+1)).map (·.2)) hn);clear hc hsn e2 e3 hmem;generalize ps[k]=y at hrg HCALL HSN hs1 hs2;obtain⟨arr,y⟩:=y;simp only at hrg HCALL HSN hs1 hs2;go_wp2_with (first | (refine wpList_load_mid rfl 43 (.tmp 22) rfl sb (so+k*2) rfl arr.toList _ (O hrg) Tryz.underlying43 rfl (Tryz.infSigs.trans (congrArg some (by simp [hs1]))) ?_; simp only [Array.toArray_toList]) | (refine wpList_store_row rfl 43 (.tmp 11) (.tmp 23) rfl wr.heap.size arr rfl rfl 43 _ (heap_alloc_new _ _) (Tryz.infSigs.trans (congrArg some hs1.symm)) hs1.symm hs2 ?_; rw [Nt]) | refine wpList_load_row rfl 43 (.tmp 11) rfl wr.heap.size rfl 43 arr (0,0) _ (heap_alloc_new _ _) Tryz.underlying43 rfl (Tryz.infSigs.trans (congrArg some hs1.symm)) ?_)
    refine(O HCALL _).mono ?_;rintro e w2 ⟨hws2,hm⟩;have HWS2:=Zc (((O HWS').trans (Xp wr _ b (by omega))).trans hws2);clear hws2;cases hy:one y with
    | none=>rw [hy] at hm;subst hm;refine⟨rfl,O HWS2,?_⟩;have h1:=O HSN;rw [hy] at h1;have h2:=O HAN h1;rw [← List.map_append,List.take_append_drop] at h2;unfold Xz;rw [List.length_map,O HR,h2];rfl
    | some ys =>
     rw [hy] at hm;obtain⟨rfl,v2,hw2⟩:=hm;have h1:=O HSN;rw [hy] at h1;have HS2:=Zc h1;have HW2:=Zc hw2;clear hw2 h1 hy;go_wp2;go_roundw
     case rel=>exact⟨k+1,v2,cs++ys,by go_num,by omega,O HWS2,O HS2,by rw [← List.append_assoc]; exact O HW2⟩
     case measure=>simp [intOf]; omega
   ·obtain rfl:k=ps.length:=by omega
    have h1:=O HCS;rw [List.take_length] at h1;have HC1:=Zc h1;clear h1;go_wp2;refine bodyPost_end (results_none (fn:=Tryz.f117) rfl _ _ _) rfl ?_;refine⟨O HWS',?_⟩;unfold Xz;rw [List.length_map,O HR,O HC1];simp only [Xr];exact⟨trivial,v',by rw [← List.append_assoc]; exact O HWT⟩
theorem Tryz.infInss:(Tryz.prog.info? 110).map (·.size)=some 8:=by kernel_rfl
theorem Zio {α:Type}(F:Nat)(hcf:∀ args w,(callFunc F args).run Tryz.prog w=.ok (.enter F args) w)(one:α->Option (List UInt8))(K:Nat)(hK:∀ x bs,one x=some bs->bs.length<=K)(hK2:K<=1000000)(b:Nat)(M:Nat)(hM:M<=90000000000)(ps:List (Array Value×α))(w:World)
 (hsz:∀ p ∈ ps,p.1.size=8∧p.1.all (·.oneCell')=true)
 (hone:∀ p ∈ ps,∀ v l w',Ws w w' b->Wt w' b v l->l.length<=M+1000000001->Calls Tryz.prog F #[.pointer (some ⟨b,0,none⟩),.agg p.1] w' (Nj b l (one p.2) w'))
 (lo hi:Int) (hhi:hi<=1000) (v:Value) (l:List UInt8) (lv:Value) (h:Wt w b v l) (hl:l.length<=M) (hns:Cz 8 w b lv ps) (hlen:ps.length<9223372036854775808) :
 Calls Tryz.prog 230 #[.pointer (some ⟨b,0,none⟩),lv,.int .i64 lo,.int .i64 hi,.func (.func F) #[.pointer (some ⟨b,0,none⟩)] #[]] w (Nj b l (Xz lo hi one (ps.map (·.2))) w):=by
 obtain⟨pp,cap,hlv⟩:=hns.shape;have HN:=Zc hns;subst hlv;have HNC:=Zc (Jg b v l ps.length lo hi w h (by omega));have HONE:=Zc hone;have HSZ:=Zc hsz;have HK:=Zc hK;clear hone hK h hns hsz;go_enter Tryz.func230,Tryz.ntmps230
 go_wp2_with fail
 refine(O HNC).mono ?_;rintro e w1 ⟨hws,hm⟩;cases hr:Zl lo hi ps.length with
 | none=>rw [hr] at hm;subst hm;refine⟨rfl,hws,?_⟩;unfold Xz;rw [List.length_map,hr];rfl
 | some bs =>
  rw [hr] at hm;obtain⟨rfl,v1,hw1⟩:=hm;have hb1:=Zp hr;have hle:lo<=ps.length∧(ps.length:Int)<=hi:=by
   unfold Zl at hr;split at hr
   ·assumption
   ·cases hr
  have HWS:=Zc hws;have HW1:=Zc hw1;have HR:=Zc hr;clear hws hw1 hr HNC;go_wp2_with fail
  go_loopw [20] (fun j w'=>∃(k:Nat) (v':Value) (cs:List UInt8),j=.int .i64 k∧k<=ps.length∧Ws w w' b∧Xj one ((ps.take k).map (·.2))=some cs∧Wt w' b v' (l++bs++cs)) (fun j _=>ps.length-(intOf j).toNat)
  case atStart=>exact⟨0,v1,[],rfl,by omega,O HWS,by simp [Xj],by simpa using O HW1⟩
  case round =>
   obtain⟨k,v',cs,rfl,hk,hws',hcs,hwt⟩:=hrel;have hcl:=Gt one K (O HK) _ _ hcs;have hbw:=hwt.lt;have HWS':=Zc hws';have HCS:=Zc hcs;have HWT:=Zc hwt;clear hws' hcs hwt;by_cases hlt:k<ps.length
   ·obtain⟨sb,so,cap',hv,hsb,hc⟩:=((O HN).ws (O HWS')).resolve_left (fun c=>by rw [c.1] at hlt; simp at hlt);injection hv with e1 e2 e3;subst e1;have hrg:=Zc (hc k hlt);have hkl:K*(ps.take k).length<=1000000*1000:=Nat.mul_le_mul hK2 (by simp; omega);simp only [List.length_map] at hcl;have hmem:ps[k] ∈ ps:=List.getElem_mem hlt;obtain⟨hs1,hs2⟩:=O HSZ ps[k] hmem;have HCALL:=Zc (fun X:Obj=>O HONE ps[k] hmem v' (l++bs++cs) (wr.alloc X) ((O HWS').trans (Xp wr X b (by omega))) ((O HWT).alloc X) (by simp [hb1]; omega));have hsn:=Gr one ((ps.take k).map (·.2)) ps[k].2;rw [show(ps.take k).map (·.2)++[ps[k].2]=(ps.take (k+1)).map (·.2) by rw [Rx hlt,List.map_append]; rfl,O HCS] at hsn;have HSN:=Zc hsn;have HAN:=Zc (fun hn=>Gs one ((ps.take (k+1)).map (·.2)) ((ps.drop (k+1)).map (·.2)) hn);clear hc hsn e2 e3 hmem;generalize ps[k]=y at hrg HCALL HSN hs1 hs2;obtain⟨arr,y⟩:=y;simp only at hrg HCALL HSN hs1 hs2;go_wp2_with (first | (refine wpList_load_mid rfl 110 (.tmp 22) rfl sb (so+k*8) rfl arr.toList _ (O hrg) Tryz.underlying110 rfl (Tryz.infInss.trans (congrArg some (by simp [hs1]))) ?_; simp only [Array.toArray_toList]) | (refine wpList_store_row rfl 110 (.tmp 11) (.tmp 23) rfl wr.heap.size arr rfl rfl 110 _ (heap_alloc_new _ _) (Tryz.infInss.trans (congrArg some hs1.symm)) hs1.symm hs2 ?_; rw [Nt]) | refine wpList_load_row rfl 110 (.tmp 11) rfl wr.heap.size rfl 110 arr (0,0) _ (heap_alloc_new _ _) Tryz.underlying110 rfl (Tryz.infInss.trans (congrArg some hs1.symm)) ?_)
    refine(O HCALL _).mono ?_;rintro e w2 ⟨hws2,hm⟩;have HWS2:=Zc (((O HWS').trans (Xp wr _ b (by omega))).trans hws2);clear hws2;cases hy:one y with
    | none=>rw [hy] at hm;subst hm;refine⟨rfl,O HWS2,?_⟩;have h1:=O HSN;rw [hy] at h1;have h2:=O HAN h1;rw [← List.map_append,List.take_append_drop] at h2;unfold Xz;rw [List.length_map,O HR,h2];rfl
    | some ys =>
     rw [hy] at hm;obtain⟨rfl,v2,hw2⟩:=hm;have h1:=O HSN;rw [hy] at h1;have HS2:=Zc h1;have HW2:=Zc hw2;clear hw2 h1 hy;go_wp2;go_roundw
     case rel=>exact⟨k+1,v2,cs++ys,by go_num,by omega,O HWS2,O HS2,by rw [← List.append_assoc]; exact O HW2⟩
     case measure=>simp [intOf]; omega
   ·obtain rfl:k=ps.length:=by omega
    have h1:=O HCS;rw [List.take_length] at h1;have HC1:=Zc h1;clear h1;go_wp2;refine bodyPost_end (results_none (fn:=Tryz.f230) rfl _ _ _) rfl ?_;refine⟨O HWS',?_⟩;unfold Xz;rw [List.length_map,O HR,O HC1];simp only [Xr];exact⟨trivial,v',by rw [← List.append_assoc]; exact O HWT⟩
theorem Tryz.infFuncs:(Tryz.prog.info? 71).map (·.size)=some 5:=by kernel_rfl
theorem Zfv {α:Type}(F:Nat)(hcf:∀ args w,(callFunc F args).run Tryz.prog w=.ok (.enter F args) w)(one:α->Option (List UInt8))(K:Nat)(hK:∀ x bs,one x=some bs->bs.length<=K)(hK2:K<=1000000)(b:Nat)(M:Nat)(hM:M<=90000000000)(ps:List (Array Value×α))(w:World)
 (hsz:∀ p ∈ ps,p.1.size=5∧p.1.all (·.oneCell')=true)
 (hone:∀ p ∈ ps,∀ v l w',Ws w w' b->Wt w' b v l->l.length<=M+1000000001->Calls Tryz.prog F #[.pointer (some ⟨b,0,none⟩),.agg p.1] w' (Nj b l (one p.2) w'))
 (lo hi:Int) (hhi:hi<=1000) (v:Value) (l:List UInt8) (lv:Value) (h:Wt w b v l) (hl:l.length<=M) (hns:Cz 5 w b lv ps) (hlen:ps.length<9223372036854775808) :
 Calls Tryz.prog 119 #[.pointer (some ⟨b,0,none⟩),lv,.int .i64 lo,.int .i64 hi,.func (.func F) #[.pointer (some ⟨b,0,none⟩)] #[]] w (Nj b l (Xz lo hi one (ps.map (·.2))) w):=by
 obtain⟨pp,cap,hlv⟩:=hns.shape;have HN:=Zc hns;subst hlv;have HNC:=Zc (Jg b v l ps.length lo hi w h (by omega));have HONE:=Zc hone;have HSZ:=Zc hsz;have HK:=Zc hK;clear hone hK h hns hsz;go_enter Tryz.func119,Tryz.ntmps119
 go_wp2_with fail
 refine(O HNC).mono ?_;rintro e w1 ⟨hws,hm⟩;cases hr:Zl lo hi ps.length with
 | none=>rw [hr] at hm;subst hm;refine⟨rfl,hws,?_⟩;unfold Xz;rw [List.length_map,hr];rfl
 | some bs =>
  rw [hr] at hm;obtain⟨rfl,v1,hw1⟩:=hm;have hb1:=Zp hr;have hle:lo<=ps.length∧(ps.length:Int)<=hi:=by
   unfold Zl at hr;split at hr
   ·assumption
   ·cases hr
  have HWS:=Zc hws;have HW1:=Zc hw1;have HR:=Zc hr;clear hws hw1 hr HNC;go_wp2_with fail
  go_loopw [20] (fun j w'=>∃(k:Nat) (v':Value) (cs:List UInt8),j=.int .i64 k∧k<=ps.length∧Ws w w' b∧Xj one ((ps.take k).map (·.2))=some cs∧Wt w' b v' (l++bs++cs)) (fun j _=>ps.length-(intOf j).toNat)
  case atStart=>exact⟨0,v1,[],rfl,by omega,O HWS,by simp [Xj],by simpa using O HW1⟩
  case round =>
   obtain⟨k,v',cs,rfl,hk,hws',hcs,hwt⟩:=hrel;have hcl:=Gt one K (O HK) _ _ hcs;have hbw:=hwt.lt;have HWS':=Zc hws';have HCS:=Zc hcs;have HWT:=Zc hwt;clear hws' hcs hwt;by_cases hlt:k<ps.length
   ·obtain⟨sb,so,cap',hv,hsb,hc⟩:=((O HN).ws (O HWS')).resolve_left (fun c=>by rw [c.1] at hlt; simp at hlt);injection hv with e1 e2 e3;subst e1;have hrg:=Zc (hc k hlt);have hkl:K*(ps.take k).length<=1000000*1000:=Nat.mul_le_mul hK2 (by simp; omega);simp only [List.length_map] at hcl;have hmem:ps[k] ∈ ps:=List.getElem_mem hlt;obtain⟨hs1,hs2⟩:=O HSZ ps[k] hmem;have HCALL:=Zc (fun X:Obj=>O HONE ps[k] hmem v' (l++bs++cs) (wr.alloc X) ((O HWS').trans (Xp wr X b (by omega))) ((O HWT).alloc X) (by simp [hb1]; omega));have hsn:=Gr one ((ps.take k).map (·.2)) ps[k].2;rw [show(ps.take k).map (·.2)++[ps[k].2]=(ps.take (k+1)).map (·.2) by rw [Rx hlt,List.map_append]; rfl,O HCS] at hsn;have HSN:=Zc hsn;have HAN:=Zc (fun hn=>Gs one ((ps.take (k+1)).map (·.2)) ((ps.drop (k+1)).map (·.2)) hn);clear hc hsn e2 e3 hmem;generalize ps[k]=y at hrg HCALL HSN hs1 hs2;obtain⟨arr,y⟩:=y;simp only at hrg HCALL HSN hs1 hs2;go_wp2_with (first | (refine wpList_load_mid rfl 71 (.tmp 22) rfl sb (so+k*5) rfl arr.toList _ (O hrg) Tryz.underlying71 rfl (Tryz.infFuncs.trans (congrArg some (by simp [hs1]))) ?_; simp only [Array.toArray_toList]) | (refine wpList_store_row rfl 71 (.tmp 11) (.tmp 23) rfl wr.heap.size arr rfl rfl 71 _ (heap_alloc_new _ _) (Tryz.infFuncs.trans (congrArg some hs1.symm)) hs1.symm hs2 ?_; rw [Nt]) | refine wpList_load_row rfl 71 (.tmp 11) rfl wr.heap.size rfl 71 arr (0,0) _ (heap_alloc_new _ _) Tryz.underlying71 rfl (Tryz.infFuncs.trans (congrArg some hs1.symm)) ?_)
    refine(O HCALL _).mono ?_;rintro e w2 ⟨hws2,hm⟩;have HWS2:=Zc (((O HWS').trans (Xp wr _ b (by omega))).trans hws2);clear hws2;cases hy:one y with
    | none=>rw [hy] at hm;subst hm;refine⟨rfl,O HWS2,?_⟩;have h1:=O HSN;rw [hy] at h1;have h2:=O HAN h1;rw [← List.map_append,List.take_append_drop] at h2;unfold Xz;rw [List.length_map,O HR,h2];rfl
    | some ys =>
     rw [hy] at hm;obtain⟨rfl,v2,hw2⟩:=hm;have h1:=O HSN;rw [hy] at h1;have HS2:=Zc h1;have HW2:=Zc hw2;clear hw2 h1 hy;go_wp2;go_roundw
     case rel=>exact⟨k+1,v2,cs++ys,by go_num,by omega,O HWS2,O HS2,by rw [← List.append_assoc]; exact O HW2⟩
     case measure=>simp [intOf]; omega
   ·obtain rfl:k=ps.length:=by omega
    have h1:=O HCS;rw [List.take_length] at h1;have HC1:=Zc h1;clear h1;go_wp2;refine bodyPost_end (results_none (fn:=Tryz.f119) rfl _ _ _) rfl ?_;refine⟨O HWS',?_⟩;unfold Xz;rw [List.length_map,O HR,O HC1];simp only [Xr];exact⟨trivial,v',by rw [← List.append_assoc]; exact O HWT⟩
set_option maxHeartbeats 1000000
set_option maxRecDepth 100000
theorem Zi {w:World}{T:Nat}{t:TypeId}{cs:Array Value}{fr:Nat×Nat}(h:w.heap[T]?=some (.cells cs t fr))(j:Nat):w.cell? ⟨T,j,none⟩=cs[j]?:=cell_of_row w T j cs t fr h
theorem Zil (b:Nat)(v:Value)(l:List UInt8)(x:Int)(w:World)(h:Wt w b v l)(hl:l.length<=100000000000):Calls Tryz.prog 166 #[.pointer (some ⟨b,0,none⟩),.int .i64 x] w (Nj b l (Zl 0 8 x) w):=by
 have HN:=Zc (Jg b v l x 0 8 w h hl);clear h;go_enter Tryz.func166,Tryz.ntmps166
 go_wp2_with fail
 refine(O HN).mono ?_;rintro e w1 ⟨hws,hm⟩;cases hr:Zl 0 8 x with
 | none=>rw [hr] at hm;subst hm;exact⟨rfl,hws,rfl⟩
 | some bs=>rw [hr] at hm;obtain⟨rfl,v1,hw1⟩:=hm;have HR:=Zc hr;clear hr;go_wp2;refine bodyPost_end (results_none (fn:=Tryz.f166) rfl _ _ _) rfl ?_;exact⟨hws,by rw [O HR]; exact⟨rfl,v1,hw1⟩⟩
theorem Uz (b:Nat)(v:Value)(l:List UInt8)(x:Int)(w:World)(h:Wt w b v l)(hl:l.length<=100000000000):Calls Tryz.prog 229 #[.pointer (some ⟨b,0,none⟩),.int .i64 x] w (Nj b l (Zl 0 255 x) w):=by
 have HN:=Zc (Jg b v l x 0 255 w h hl);clear h;go_enter Tryz.func229,Tryz.ntmps229
 go_wp2_with fail
 refine(O HN).mono ?_;rintro e w1 ⟨hws,hm⟩;cases hr:Zl 0 255 x with
 | none=>rw [hr] at hm;subst hm;exact⟨rfl,hws,rfl⟩
 | some bs=>rw [hr] at hm;obtain⟨rfl,v1,hw1⟩:=hm;have HR:=Zc hr;clear hr;go_wp2;refine bodyPost_end (results_none (fn:=Tryz.f229) rfl _ _ _) rfl ?_;exact⟨hws,by rw [O HR]; exact⟨rfl,v1,hw1⟩⟩
theorem Ycg (b:Nat)(v:Value)(l:List UInt8)(x:Int)(w:World)(h:Wt w b v l)(hl:l.length<=100000000000):Calls Tryz.prog 169 #[.pointer (some ⟨b,0,none⟩),.int .i64 x] w (Nj b l (Zl (-1) 15 x) w):=by
 have HN:=Zc (Jg b v l x (-1) 15 w h hl);clear h;go_enter Tryz.func169,Tryz.ntmps169
 go_wp2_with fail
 refine(O HN).mono ?_;rintro e w1 ⟨hws,hm⟩;cases hr:Zl (-1) 15 x with
 | none=>rw [hr] at hm;subst hm;exact⟨rfl,hws,rfl⟩
 | some bs=>rw [hr] at hm;obtain⟨rfl,v1,hw1⟩:=hm;have HR:=Zc hr;clear hr;go_wp2;refine bodyPost_end (results_none (fn:=Tryz.f169) rfl _ _ _) rfl ?_;exact⟨hws,by rw [O HR]; exact⟨rfl,v1,hw1⟩⟩
theorem Ych (b:Nat)(v:Value)(l:List UInt8)(x:Int)(w:World)(h:Wt w b v l)(hl:l.length<=100000000000):Calls Tryz.prog 170 #[.pointer (some ⟨b,0,none⟩),.int .i64 x] w (Nj b l (Zl 1 8 x) w):=by
 have HN:=Zc (Jg b v l x 1 8 w h hl);clear h;go_enter Tryz.func170,Tryz.ntmps170
 go_wp2_with fail
 refine(O HN).mono ?_;rintro e w1 ⟨hws,hm⟩;cases hr:Zl 1 8 x with
 | none=>rw [hr] at hm;subst hm;exact⟨rfl,hws,rfl⟩
 | some bs=>rw [hr] at hm;obtain⟨rfl,v1,hw1⟩:=hm;have HR:=Zc hr;clear hr;go_wp2;refine bodyPost_end (results_none (fn:=Tryz.f170) rfl _ _ _) rfl ?_;exact⟨hws,by rw [O HR]; exact⟨rfl,v1,hw1⟩⟩
def Lf (p:Int×Int):Option (List UInt8):=Xr (Zl 0 8 p.1) (Zl 0 255 p.2)
theorem Zxw (b:Nat)(v:Value)(l:List UInt8)(x y:Int)(w:World)(h:Wt w b v l)(hl:l.length<=99000000000):Calls Tryz.prog 168 #[.pointer (some ⟨b,0,none⟩),.agg #[.int .i64 x,.int .i64 y]] w (Nj b l (Lf (x,y)) w):=by
 have hbl:=h.lt;have HN:=Zc (fun X:Obj=>Zil b v l x (w.alloc X) (h.alloc X) (by omega));have HA:=Zc (fun X:Obj=>Xp w X b (by omega));clear h;go_enter Tryz.func168,Tryz.ntmps168
 go_wp2_with fail
 refine(O HN _).mono ?_;rintro e w1 ⟨hws,hm⟩;have hoth:=hws.oth w.heap.size _ (heap_alloc_new w _) (by intro e; injection e with e; omega) (by intro c fz e; injection e with e1 e2 e3; cases e2);have q:=(Zi hoth);have c1:=q 1;simp at c1;have HWS:=Zc ((O HA _).trans hws);clear hws hoth q;cases hr:Zl 0 8 x with
 | none=>rw [hr] at hm;subst hm;exact⟨rfl,O HWS,by unfold Lf; simp only [hr,Xr]⟩
 | some bs =>
  rw [hr] at hm;obtain⟨rfl,v1,hw1⟩:=hm;have hb1:=Zp hr;have HR:=Zc hr;have HM:=Zc (Uz b v1 (l++bs) y w1 hw1 (by simp; omega));clear hr hw1;go_wp2_with fail
  refine(O HM).mono ?_;rintro e w2 ⟨hws2,hm⟩;cases hr2:Zl 0 255 y with
  | none=>rw [hr2] at hm;subst hm;exact⟨rfl,(O HWS).trans hws2,by unfold Lf; simp only [O HR,hr2,Xr]⟩
  | some cs=>rw [hr2] at hm;obtain⟨rfl,v2,hw2⟩:=hm;have HR2:=Zc hr2;clear hr2;go_wp2;refine bodyPost_end (results_none (fn:=Tryz.f168) rfl _ _ _) rfl ?_;refine⟨(O HWS).trans hws2,?_⟩;unfold Lf;simp only [O HR,O HR2,Xr];exact⟨trivial,v2,by rw [← List.append_assoc]; exact hw2⟩
def Zlm (p:Int×Int):Option (List UInt8):=Xr (Zl 0 8 p.1) (Zl 0 255 p.2)
set_option maxHeartbeats 4000000
set_option maxRecDepth 100000
def Un (s:List Int×Int):Option (List UInt8):=Xr (Xz 0 8 (Zl 0 8) s.1) (Zl 0 4 s.2)
theorem Kj (s:List Int×Int)(bs:List UInt8)(h:Un s=some bs):bs.length<=1000:=by have:=Ma (A:=1+1*8) (C:=1) (fun x hx=>Xc (Zl 0 8) 1 (fun _ _ h=>Nat.le_of_eq (Zp h)) 0 8 s.1 x hx) (fun x hx=>Nat.le_of_eq (Zp hx)) h;omega
theorem Zln {w w1:World}{b:Nat}{z:Array Value}{t:TypeId}{fr:Nat×Nat}(hb:b<w.heap.size)(ht:t≠5)(hws:Ws (w.alloc (.cells z t fr)) w1 b):w1.heap[w.heap.size]?=some (.cells z t fr) :=
 hws.oth w.heap.size _ (heap_alloc_new w _) (by intro e; injection e with e; omega) (by intro c fz e; injection e with e1 e2 e3; exact ht e2)
theorem Yes (b:Nat)(v:Value)(l:List UInt8)(lv:Value)(ns:List Int)(r:Int)(w:World)(h:Wt w b v l)(hl:l.length<=89000000000)(hns:Sk w b lv ns)(hlen:ns.length<9223372036854775808):Calls Tryz.prog 118 #[.pointer (some ⟨b,0,none⟩),.agg #[lv,.int .i64 r]] w (Nj b l (Un (ns,r)) w):=by
 have hbl:=h.lt;have HN:=Zc (fun X:Obj=>Uk 166 (fun _ _=>rfl) (Zl 0 8) 1 (fun _ _ h=>Nat.le_of_eq (Zp h)) (by omega) b 89000000000 (by omega) (fun x v l w hw hl=>Zil b v l x w hw (by omega)) 0 8 (by omega) v l lv ns (w.alloc X) (h.alloc X) hl (hns.ws (Xp w X b (by omega))) hlen);have HA:=Zc (fun X:Obj=>Xp w X b (by omega));obtain⟨pp,cap,hlv⟩:=hns.shape;subst hlv;clear h hns;go_enter Tryz.func118,Tryz.ntmps118
 go_wp2_with fail
 refine(O HN _).mono ?_;rintro e w1 ⟨hws,hm⟩;have q:=(Zi (Zln hbl (by decide) hws));have c1:=q 1;simp at c1;have HWS:=Zc ((O HA _).trans hws);clear hws q;cases hr:Xz 0 8 (Zl 0 8) ns with
 | none=>rw [hr] at hm;subst hm;exact⟨rfl,O HWS,by unfold Un; simp only [hr,Xr]⟩
 | some bs =>
  rw [hr] at hm;obtain⟨rfl,v1,hw1⟩:=hm;have hb1:=Xc (Zl 0 8) 1 (fun _ _ h=>Nat.le_of_eq (Zp h)) 0 8 _ _ hr;have HR:=Zc hr;have HM:=Zc (Jg b v1 (l++bs) r 0 4 w1 hw1 (by simp; omega));clear hr hw1;go_wp2_with fail
  refine(O HM).mono ?_;rintro e w2 ⟨hws2,hm⟩;cases hr2:Zl 0 4 r with
  | none=>rw [hr2] at hm;subst hm;exact⟨rfl,(O HWS).trans hws2,by unfold Un; simp only [O HR,hr2,Xr]⟩
  | some cs=>rw [hr2] at hm;obtain⟨rfl,v2,hw2⟩:=hm;have HR2:=Zc hr2;clear hr2;go_wp2;refine bodyPost_end (results_none (fn:=Tryz.f118) rfl _ _ _) rfl ?_;refine⟨(O HWS).trans hws2,?_⟩;unfold Un;simp only [O HR,O HR2,Xr];exact⟨trivial,v2,by rw [← List.append_assoc]; exact hw2⟩
def Gq (op:Int):Nat:=if op=10∨op=11 then 1 else 8
theorem Zqh (op:Int)(w:World):Calls Tryz.prog 348 #[.int .i64 op] w fun e w'=>e=.returned (.int .i64 (Gq op))∧w'=w:=by
 by_cases h1:op=10
 ·subst h1;go_enter Tryz.func348,Tryz.ntmps348
  go_wp2;go_ret;exact⟨rfl,rfl⟩
 ·by_cases h2:op=11
  ·subst h2;go_enter Tryz.func348,Tryz.ntmps348
   go_wp2;go_ret;exact⟨rfl,rfl⟩
  ·have HR:=Zc (show Gq op=8 by unfold Gq; simp [h1,h2]);have e1:(op==10)=false:=by simp [h1]
   have e2:(op==11)=false:=by simp [h2]
   go_enter Tryz.func348,Tryz.ntmps348
   go_wp2;all_goals first | (rename_i hh; rw [e1,e2] at hh; simp at hh; done) | (go_ret; exact⟨by rw [O HR]; rfl,rfl⟩)
theorem Yv (s one:Int)(w:World):Calls Tryz.prog 293 #[.int .u8 s,.int .u8 one] w fun e w'=>e=.returned (.bool (bits .and .u8 s one != 0))∧w'=w:=by
 go_enter Tryz.func293,Tryz.ntmps293
 go_wp2;go_ret;exact⟨rfl,rfl⟩
def Zbs:List Int:=[0,9,3,7,7,7,7,7,7,7,15,15,112,112,2,7,64,48,8]
def Nh (op:Int):Int:=Zbs.getD op.toNat 0
def Zo (w:World):Prop:=∀ k:Nat,k<19->w.cell? ⟨2,k,none⟩=some (.int .u8 (Zbs.getD k 0))
theorem Zo.ws {w w':World}{b:Nat}(h:Zo w)(hb:2<b)(hw:Ws w w' b):Zo w':=fun k hk=>(hw.low.cell (p:=⟨2,k,none⟩) hb).trans (h k hk)
theorem Ui (op:Int)(h:1<=op)(h2:op<=18)(w:World)(hg:Zo w):Calls Tryz.prog 197 #[.int .i64 op] w fun e w'=>e=.returned (.int .u8 (Nh op))∧w'=w:=by
 have cc:w.cell? ⟨2,op.toNat,none⟩=some (.int .u8 (Nh op)):=hg op.toNat (by omega);clear hg;go_enter Tryz.func197,Tryz.ntmps197
 go_wp2;go_ret;exact⟨rfl,rfl⟩
def Jv (bs:List Bool):Nat->Int
 | 0=>0
 | k+1=>if bs.getD k false then bits .or .u8 (Jv bs k) ((2:Int) ^ k) else Jv bs k
theorem Tryz.idx0 (v0 v1 v2 v3 v4 v5 v6:Value)(w:World):Sem.run Tryz.prog (Instr.index 420 (.agg #[v0,v1,v2,v3,v4,v5,v6]) (.int .i64 0)) w=.ok v0 w:=by kernel_rfl
theorem Tryz.idx1 (v0 v1 v2 v3 v4 v5 v6:Value)(w:World):Sem.run Tryz.prog (Instr.index 420 (.agg #[v0,v1,v2,v3,v4,v5,v6]) (.int .i64 1)) w=.ok v1 w:=by kernel_rfl
theorem Tryz.idx2 (v0 v1 v2 v3 v4 v5 v6:Value)(w:World):Sem.run Tryz.prog (Instr.index 420 (.agg #[v0,v1,v2,v3,v4,v5,v6]) (.int .i64 2)) w=.ok v2 w:=by kernel_rfl
theorem Tryz.idx3 (v0 v1 v2 v3 v4 v5 v6:Value)(w:World):Sem.run Tryz.prog (Instr.index 420 (.agg #[v0,v1,v2,v3,v4,v5,v6]) (.int .i64 3)) w=.ok v3 w:=by kernel_rfl
theorem Tryz.idx4 (v0 v1 v2 v3 v4 v5 v6:Value)(w:World):Sem.run Tryz.prog (Instr.index 420 (.agg #[v0,v1,v2,v3,v4,v5,v6]) (.int .i64 4)) w=.ok v4 w:=by kernel_rfl
theorem Tryz.idx5 (v0 v1 v2 v3 v4 v5 v6:Value)(w:World):Sem.run Tryz.prog (Instr.index 420 (.agg #[v0,v1,v2,v3,v4,v5,v6]) (.int .i64 5)) w=.ok v5 w:=by kernel_rfl
theorem Tryz.idx6 (v0 v1 v2 v3 v4 v5 v6:Value)(w:World):Sem.run Tryz.prog (Instr.index 420 (.agg #[v0,v1,v2,v3,v4,v5,v6]) (.int .i64 6)) w=.ok v6 w:=by kernel_rfl
theorem Ztd (op d a bb n f:Int)(pa po:Option Addr)(na no ca co:Nat)(w:World)(b0 b1 b2 b3 b4 b5 b6:Bool)(h0:(d != 0)=b0)(h1:(a != 0)=b1)(h2:(bb != 0)=b2)(h3:(n != 0)=b3)(h4:(f != 0)=b4)(h5:((na:Int) != 0)=b5)(h6:((no:Int) != 0)=b6):Calls Tryz.prog 239 #[.agg #[.int .i64 op,.int .i64 d,.int .i64 a,.int .i64 bb,.int .u64 n,.int .i64 f,.slice pa na ca,.slice po no co]] w fun e w'=>e=.returned (.int .u8 (Jv [b0,b1,b2,b3,b4,b5,b6] 7))∧∃ X Y,w'=(w.alloc X).alloc Y:=by
 go_enter Tryz.func239,Tryz.ntmps239
 go_wp2;generalize hW:(w.alloc _).alloc _=W;have HW:=Zc (show ∃ X Y,W=(w.alloc X).alloc Y from⟨_,_,hW.symm⟩);clear hW;try simp only [h0,h1,h2,h3,h4,h5,h6]
 clear h0 h1 h2 h3 h4 h5 h6;go_loopw [32,4] (fun j s w'=>∃ k:Nat,j=.int .i64 k∧k<=7∧s=.int .u8 (Jv [b0,b1,b2,b3,b4,b5,b6] k)∧w'=W) (fun j _ _=>7-(intOf j).toNat)
 case atStart=>exact⟨0,rfl,by omega,rfl,rfl⟩
 case round =>
  obtain⟨k,rfl,hk,rfl,rfl⟩:=hrel;match k,hk with
  | 0,_ =>
   cases h0:b0 with
   | true =>
    have HF:=Zc (show Jv [b0,b1,b2,b3,b4,b5,b6] 1=bits .or .u8 (Jv [b0,b1,b2,b3,b4,b5,b6] 0) 1 from by rw [h0]; rfl);rw [h0] at HF;generalize Jv [b0,b1,b2,b3,b4,b5,b6] 0=z at HF;go_wp2;rw [Tryz.idx0];go_wp2;go_roundw
    case rel=>exact⟨1,rfl,by omega,by rw [O HF],trivial⟩
    case measure=>simp [intOf]
   | false =>
    go_wp2;rw [Tryz.idx0];go_wp2;go_roundw
    case rel=>exact⟨1,rfl,by omega,rfl,trivial⟩
    case measure=>simp [intOf]
  | 1,_ =>
   cases h1:b1 with
   | true =>
    have HF:=Zc (show Jv [b0,b1,b2,b3,b4,b5,b6] 2=bits .or .u8 (Jv [b0,b1,b2,b3,b4,b5,b6] 1) 2 from by rw [h1]; rfl);rw [h1] at HF;generalize Jv [b0,b1,b2,b3,b4,b5,b6] 1=z at HF;go_wp2;rw [Tryz.idx1];go_wp2;go_roundw
    case rel=>exact⟨2,rfl,by omega,by rw [O HF],trivial⟩
    case measure=>simp [intOf]
   | false =>
    go_wp2;rw [Tryz.idx1];go_wp2;go_roundw
    case rel=>exact⟨2,rfl,by omega,rfl,trivial⟩
    case measure=>simp [intOf]
  | 2,_ =>
   cases h2:b2 with
   | true =>
    have HF:=Zc (show Jv [b0,b1,b2,b3,b4,b5,b6] 3=bits .or .u8 (Jv [b0,b1,b2,b3,b4,b5,b6] 2) 4 from by rw [h2]; rfl);rw [h2] at HF;generalize Jv [b0,b1,b2,b3,b4,b5,b6] 2=z at HF;go_wp2;rw [Tryz.idx2];go_wp2;go_roundw
    case rel=>exact⟨3,rfl,by omega,by rw [O HF],trivial⟩
    case measure=>simp [intOf]
   | false =>
    go_wp2;rw [Tryz.idx2];go_wp2;go_roundw
    case rel=>exact⟨3,rfl,by omega,rfl,trivial⟩
    case measure=>simp [intOf]
  | 3,_ =>
   cases h3:b3 with
   | true =>
    have HF:=Zc (show Jv [b0,b1,b2,b3,b4,b5,b6] 4=bits .or .u8 (Jv [b0,b1,b2,b3,b4,b5,b6] 3) 8 from by rw [h3]; rfl);rw [h3] at HF;generalize Jv [b0,b1,b2,b3,b4,b5,b6] 3=z at HF;go_wp2;rw [Tryz.idx3];go_wp2;go_roundw
    case rel=>exact⟨4,rfl,by omega,by rw [O HF],trivial⟩
    case measure=>simp [intOf]
   | false =>
    go_wp2;rw [Tryz.idx3];go_wp2;go_roundw
    case rel=>exact⟨4,rfl,by omega,rfl,trivial⟩
    case measure=>simp [intOf]
  | 4,_ =>
   cases h4:b4 with
   | true =>
    have HF:=Zc (show Jv [b0,b1,b2,b3,b4,b5,b6] 5=bits .or .u8 (Jv [b0,b1,b2,b3,b4,b5,b6] 4) 16 from by rw [h4]; rfl);rw [h4] at HF;generalize Jv [b0,b1,b2,b3,b4,b5,b6] 4=z at HF;go_wp2;rw [Tryz.idx4];go_wp2;go_roundw
    case rel=>exact⟨5,rfl,by omega,by rw [O HF],trivial⟩
    case measure=>simp [intOf]
   | false =>
    go_wp2;rw [Tryz.idx4];go_wp2;go_roundw
    case rel=>exact⟨5,rfl,by omega,rfl,trivial⟩
    case measure=>simp [intOf]
  | 5,_ =>
   cases h5:b5 with
   | true =>
    have HF:=Zc (show Jv [b0,b1,b2,b3,b4,b5,b6] 6=bits .or .u8 (Jv [b0,b1,b2,b3,b4,b5,b6] 5) 32 from by rw [h5]; rfl);rw [h5] at HF;generalize Jv [b0,b1,b2,b3,b4,b5,b6] 5=z at HF;go_wp2;rw [Tryz.idx5];go_wp2;go_roundw
    case rel=>exact⟨6,rfl,by omega,by rw [O HF],trivial⟩
    case measure=>simp [intOf]
   | false =>
    go_wp2;rw [Tryz.idx5];go_wp2;go_roundw
    case rel=>exact⟨6,rfl,by omega,rfl,trivial⟩
    case measure=>simp [intOf]
  | 6,_ =>
   cases h6:b6 with
   | true =>
    have HF:=Zc (show Jv [b0,b1,b2,b3,b4,b5,b6] 7=bits .or .u8 (Jv [b0,b1,b2,b3,b4,b5,b6] 6) 64 from by rw [h6]; rfl);rw [h6] at HF;generalize Jv [b0,b1,b2,b3,b4,b5,b6] 6=z at HF;go_wp2;rw [Tryz.idx6];go_wp2;go_roundw
    case rel=>exact⟨7,rfl,by omega,by rw [O HF],trivial⟩
    case measure=>simp [intOf]
   | false =>
    go_wp2;rw [Tryz.idx6];go_wp2;go_roundw
    case rel=>exact⟨7,rfl,by omega,rfl,trivial⟩
    case measure=>simp [intOf]
  | 7,_=>go_wp2;go_ret;exact⟨rfl,O HW⟩
  | k+8,hk=>omega
def Dp (op d a bb n f:Int)(na no:Nat):Bool:=bits .andNot .u8 (Jv [d != 0,a != 0,bb != 0,n != 0,f != 0,(na:Int) != 0,(no:Int) != 0] 7) (Nh op) != 0
theorem Zo.below {w w':World}(h:Zo w)(hb:2<w.heap.size)(hw:Below w.heap.size w w'):Zo w':=fun k hk=>(hw.cell (p:=⟨2,k,none⟩) hb).trans (h k hk)
theorem Kk (op d a bb n f:Int)(pa po:Option Addr)(na no ca co:Nat)(w:World)(h:1<=op)(h2:op<=18)(hg:Zo w)(hb:2<w.heap.size):Calls Tryz.prog 199 #[.agg #[.int .i64 op,.int .i64 d,.int .i64 a,.int .i64 bb,.int .u64 n,.int .i64 f,.slice pa na ca,.slice po no co]] w fun e w'=>e=.returned (.bool (Dp op d a bb n f na no))∧Below w.heap.size w w':=by
 have HG:=Zc hg;clear hg;unfold Dp;go_enter Tryz.func199,Tryz.ntmps199
 go_wp2_with fail
 go_region_with (first
  | (go_at_call 239; refine(Ztd _ _ _ _ _ _ _ _ _ _ _ _ _ _ _ _ _ _ _ _ rfl rfl rfl rfl rfl rfl rfl).mono ?_; rintro e w' ⟨rfl,X,Y,rfl⟩)
  | (go_at_call 197; refine(Ui op h h2 _ ((O HG).below hb (by go_grown))).mono ?_; rintro e w' ⟨rfl,rfl⟩))
 all_goals go_wp2
 all_goals go_ret
 all_goals exact⟨rfl,by go_grown⟩
def opB (n:Int):Nat->List UInt8
 | 0=>[]
 | c+1=>Xs (n / 2 ^ (8*c)) :: opB n c
theorem Znw (n:Int):∀ c,(opB n c).length=c
 | 0=>rfl
 | c+1=>by simp [opB,Znw n c]
def Zte (op n:Int):Option (List UInt8):=if Gq op=1∧n > 255 then none else some (opB n (Gq op))
end Go.Proofs.YtkenknfgeoecbaaGreatDoor
