import Derived.Test.YteddfaconabobaaGreatDoorJ3
import Derived.Deep.OwnRows
import Derived.Laws.BitsLemmas
import Derived.Laws.Bits64
import Derived.Test.YteddfaconabobaaGreatDoorJ7
import Derived.Test.YteddfaconabobaaGreatDoorChecked
import Derived.Test.YteddfaconabobaaGreatDoorEncX
import Derived.Test.YteddfaconabobaaGreatDoorJ15
import Derived.Test.YteddfaconabobaaGreatDoorPk
import Derived.Deep.RegionHeld3
namespace Go.Proofs.YteddfaconabobaaGreatDoor
open Go.RowKit
theorem Zde {p:Prop}(h:p):Hid p:=h
theorem Uo {p:Prop}(h:Hid p):p:=h
def ldv (m:Nat→Int):Nat→Nat→Int
 | _,0=>0
 | a,n+1=>m a+256*ldv m (a+1) n
def byt (v:Int)(k:Nat):Int:=v / 256 ^ k % 256
theorem Zml (v:Int)(k:Nat):v / 2 ^ (8*k) % 256=byt v k:=by
 unfold byt; rw [Int.pow_mul]; rfl
theorem Zbr {m:Nat→Int}(hm:∀ i,0≤m i∧m i<256):∀(n a:Nat),0≤ldv m a n∧ldv m a n<256 ^ n
 | 0,a=>by simp [ldv]
 | n+1,a=>by
  have h:=Zbr hm n (a+1);have h0:=hm a;simp only [ldv,Int.pow_succ];omega
def upd (m:Nat→Int)(a:Nat)(v:Int)(n:Nat):Nat→Int:=fun i=>if a≤i∧i<a+n then byt v (i-a) else m i
theorem Zdf (m:Nat→Int)(a:Nat)(v:Int):upd m a v 0=m:=by
 funext i; unfold upd; rw [if_neg (by omega)]
theorem Cs (m:Nat→Int)(a:Nat)(v:Int)(n i:Nat):upd m a v (n+1) i=if i=a+n then byt v n else upd m a v n i:=by
 unfold upd;by_cases h:i=a+n
 ·
  subst h; rw [if_pos (by omega),if_pos rfl]; congr 1; omega
 ·
  rw [if_neg h];by_cases h2:a≤i∧i<a+n
  ·
   rw [if_pos (by omega),if_pos h2]
  ·
   rw [if_neg (by omega),if_neg h2]
theorem Zmm (n:Int)(h₀:0≤n)(h₁:n<2 ^ 64):IntKind.u64.wrap n=n:=by rw [IntKind.wrap_u64]; omega
theorem or8 (x y:Int)(h0:0≤x)(h1:x<72057594037927936)(h2:0≤y)(h3:y<256):bits .or .u64 (x*256) y=y+256*x:=by
 rw [bits_join .u64 64 (by decide) Zmm 8 (x*256) y (by omega) (by omega) (by omega) h2 (by omega) (by omega)];omega
theorem Zhh (k:Nat)(hk:k≤7):(256:Int) ^ k≤72057594037927936:=by
 match k,hk with
 | 0,_ | 1,_ | 2,_ | 3,_ | 4,_ | 5,_ | 6,_ | 7,_=>decide
def Ux (w:World)(d a:Nat)(v:Int):Nat→World
 | 0=>w
 | k+1=>(Ux w d a v k).setCell ⟨d,a+k,none⟩ (.int .u8 (byt v k))
theorem Oi (w:World)(d a:Nat)(v:Int):∀ k,(Ux w d a v k).heap.size=w.heap.size
 | 0=>rfl
 | k+1=>by simp [Ux,Oi w d a v k]
theorem Ct (w:World)(d a:Nat)(v:Int)(x:Addr):∀ k,(Ux w d a v k).frozen? x=w.frozen? x
 | 0=>rfl
 | k+1=>by simp only [Ux,World.frozen?_setCell]; exact Ct w d a v x k
theorem Jc (w:World)(d a:Nat)(v:Int)(x:Nat)(h:x≠d):∀ k,(Ux w d a v k).heap[x]?=w.heap[x]?
 | 0=>rfl
 | k+1=>by
  simp only [Ux];rw [Below.heap_setCell _ _ _ _ h];exact Jc w d a v x h k
theorem Zdg (w:World)(d a:Nat)(v:Int)(n:Nat)(m:Nat→Int)(hc:∀ i,i<n→w.cell? ⟨d,i,none⟩=some (.int .u8 (m i))) :
 ∀ k,a+k≤n→∀ i,i<n→(Ux w d a v k).cell? ⟨d,i,none⟩=some (.int .u8 (upd m a v k i))
 | 0,_,i,hi=>by rw [Zdf]; exact hc i hi
 | k+1,hk,i,hi=>by
  simp only [Ux];rw [Cs];have ih:=Zdg w d a v n m hc k (by omega);by_cases h:i=a+k
  ·
   subst h;rw [if_pos rfl,World.cell?_setCell_same _ _ _ (ih _ hi)]
  ·
   rw [if_neg h,World.cell?_setCell_other _ _ _ _ (by intro e; cases e; exact h rfl)];exact ih i hi
structure Xl where
 fn:Zn
 b:Int
 i:Int
 v:List Int
 s:List (List Int)
 o:List Int
def Ns (bs:List Int)(a k:Nat):Int:=ldv (fun i=>bs.getD i 0) a k
def Sb (bs:List Int)(a k:Nat)(v:Int):List Int:=(List.range bs.length).map (upd (fun i=>bs.getD i 0) a v k)
def Ia (x:Xl)(a:Int×Int):List Int:=if a.1=0 then [x.v.getD a.2.toNat 0] else (List.range a.1.toNat).map fun k=>Ns (x.s.getD a.2.toNat []) (8*k) 8
def Zv (x:Xl)(l:List (Int×Int)):List Int:=l.flatMap (Ia x)
def Xf (v:List Int)(l:List Int):List Int:=l.map fun k=>v.getD k.toNat 0
def Xp (v:List Int)(ds vals:List Int):List Int:=(ds.zip vals).foldl (fun v p=>v.set p.1.toNat p.2) v
def Rh (bs:List Int)(ws:List Int):List Int:=(List.range ws.length).foldl (fun b k=>Sb b (8*k) 8 (ws.getD k 0)) bs
def Lz:List (Int×Int)→List Int→List (List Int)→List Int→List Int×List (List Int)
 | [],v,s,_=>(v,s)
 | p :: r,v,s,ws=>if p.1=0 then Lz r (v.set p.2.toNat (ws.getD 0 0)) s (ws.drop 1) else Lz r v (s.set p.2.toNat (Rh (s.getD p.2.toNat []) (ws.take p.1.toNat))) (ws.drop p.1.toNat)
def Jj (f:Zn)(ws outs:List Int):Xl :=
 let q:=Lz f.params (List.replicate f.homes.length 0) (f.slots.map fun n=>List.replicate (8*n).toNat 0) ws
 ⟨f,0,0,q.1,q.2,outs⟩
def Mv (op a b:Int):Int :=
 if op=3 then IntKind.u64.wrap (a+b) else if op=4 then IntKind.u64.wrap (a-b) else if op=5 then IntKind.u64.wrap (a*b) else if op=6 then bits .and .u64 a b else if op=7 then bits .xor .u64 a b else if op=8 then (if a<b then 1 else 0) else if op=9 then (if a=b then 1 else 0) else 0
def Ld (y:Xl)(i:Zw):Xl :=
 if i.op=1 then { y with v:=y.v.set i.d.toNat i.n }
 else if i.op=2 then { y with v:=y.v.set i.d.toNat (y.v.getD i.a.toNat 0) }
 else if i.op=10 then { y with v:=y.v.set i.d.toNat (Ns (y.s.getD i.a.toNat []) i.bb.toNat i.n.toNat) }
 else if i.op=11 then { y with s:=y.s.set i.a.toNat (Sb (y.s.getD i.a.toNat []) i.bb.toNat i.n.toNat (y.v.getD i.d.toNat 0)) }
 else if i.op=14 then { y with b:=i.a,i:=0 }
 else if i.op=15 then { y with b:=if y.v.getD i.d.toNat 0=0 then i.bb else i.a,i:=0 }
 else { y with v:=y.v.set i.d.toNat (Mv i.op (y.v.getD i.a.toNat 0) (y.v.getD i.bb.toNat 0)) }
inductive Ye where
 | done (l:List Int) (left:Nat) (sc:List Int) (tr:List (Int×List Int))
 | trap (c:Int) (left:Nat) (sc:List Int) (tr:List (Int×List Int))
 | spent (sc:List Int) (tr:List (Int×List Int))
def Zo (x:Xl):Zw:=(x.fn.blocks.getD x.b.toNat []).getD x.i.toNat Lt
def Zp (x:Xl):Xl:={ x with i:=x.i+1 }
def Yt (sc:List Int)(n:Nat):List Int:=(List.range n).map fun k=>sc.getD k 0
def Ma (P:Zl)(y:Xl)(i:Zw)(outs:List Int):Xl:=Jj (P.funcs.getD i.f.toNat Ze) (Zv y i.args) outs
def ev (P:Zl):Nat→List Xl→List Int→List (Int×List Int)→Ye
 | 0,_,sc,tr=>.spent sc tr
 | _+1,[],sc,tr=>.spent sc tr
 | n+1,x :: R,sc,tr =>
  if (Zo x).op=12 then ev P n (Ma P (Zp x) (Zo x) (Zo x).outs :: Zp x :: R) sc tr
  else if (Zo x).op=13 then ev P n ({ Zp x with v:=Xp x.v (Zo x).outs (Yt sc (Zo x).outs.length) } :: R) (sc.drop (Zo x).outs.length) (tr++[((Zo x).f,Zv x (Zo x).args)])
  else if (Zo x).op=16 then
   match R with
   | []=>.done (Xf x.v (Zo x).outs) n sc tr
   | c :: R'=>ev P n ({ c with v:=Xp c.v x.o (Xf x.v (Zo x).outs) } :: R') sc tr
  else if (Zo x).op=17 then ev P n (Ma P (Zp x) (Zo x) x.o :: R) sc tr
  else if (Zo x).op=18 then .trap (Zo x).n n sc tr
  else ev P n (Ld (Zp x) (Zo x) :: R) sc tr
def Ye.bind (r:Ye)(k:List Int→Nat→List Int→List (Int×List Int)→Ye):Ye :=
 match r with
 | .done l m sc tr=>k l m sc tr
 | .trap c m sc tr=>.trap c m sc tr
 | .spent sc tr=>.spent sc tr
def Zms (P:Zl)(o:List Int)(R:List Xl)(l:List Int)(m:Nat)(sc:List Int)(tr:List (Int×List Int)):Ye :=
 match R with
 | []=>.done l m sc tr
 | c :: R'=>ev P m ({ c with v:=Xp c.v o l } :: R') sc tr
def Nn:List Xl→List Int
 | []=>[]
 | [x]=>x.o
 | _ :: y :: r=>Nn (y :: r)
theorem Oe (x y:Xl)(r:List Xl)(h:x.o=y.o):Nn (x :: r)=Nn (y :: r):=by
 cases r with
 | nil=>exact h
 | cons z r=>rfl
theorem Zdy (y:Xl)(i:Zw):(Ld y i).o=y.o:=by
 unfold Ld;repeat' split
 all_goals rfl
theorem Uu (P:Zl):∀ n (x:Xl) (F R:List Xl) (sc:List Int) (tr:List (Int×List Int)),ev P n (x :: F++R) sc tr=(ev P n (x :: F) sc tr).bind (Zms P (Nn (x :: F)) R)
 | 0,_,_,_,_,_=>rfl
 | n+1,x,F,R,sc,tr=>by
  show ev P (n+1) (x :: (F++R)) sc tr=_;unfold ev;by_cases h12:(Zo x).op=12
  ·
   rw [if_pos h12,if_pos h12];have:=Uu P n (Ma P (Zp x) (Zo x) (Zo x).outs) (Zp x :: F) R sc tr;rw [show Ma P (Zp x) (Zo x) (Zo x).outs :: Zp x :: (F++R)=Ma P (Zp x) (Zo x) (Zo x).outs :: (Zp x :: F)++R from rfl,this];rw [show Nn (Ma P (Zp x) (Zo x) (Zo x).outs :: Zp x :: F)=Nn (x :: F) from Oe (Zp x) x F rfl]
  rw [if_neg h12,if_neg h12];by_cases h13:(Zo x).op=13
  ·
   rw [if_pos h13,if_pos h13];have:=Uu P n { Zp x with v:=Xp x.v (Zo x).outs (Yt sc (Zo x).outs.length) } F R (sc.drop (Zo x).outs.length) (tr++[((Zo x).f,Zv x (Zo x).args)]);rw [show Nn ({ Zp x with v:=Xp x.v (Zo x).outs (Yt sc (Zo x).outs.length) } :: F)=Nn (x :: F) from Oe _ _ _ rfl] at this;exact this
  rw [if_neg h13,if_neg h13];by_cases h16:(Zo x).op=16
  ·
   rw [if_pos h16,if_pos h16];cases F with
   | nil =>
    cases R with
    | nil=>rfl
    | cons c R'=>rfl
   | cons c F' =>
    have:=Uu P n { c with v:=Xp c.v x.o (Xf x.v (Zo x).outs) } F' R sc tr;rw [show Nn ({ c with v:=Xp c.v x.o (Xf x.v (Zo x).outs) } :: F')=Nn (x :: c :: F') from Oe _ _ _ rfl] at this;exact this
  rw [if_neg h16,if_neg h16];by_cases h17:(Zo x).op=17
  ·
   rw [if_pos h17,if_pos h17];have:=Uu P n (Ma P (Zp x) (Zo x) x.o) F R sc tr;rw [show Nn (Ma P (Zp x) (Zo x) x.o :: F)=Nn (x :: F) from Oe _ _ _ rfl] at this;exact this
  rw [if_neg h17,if_neg h17];by_cases h18:(Zo x).op=18
  ·
   rw [if_pos h18,if_pos h18];rfl
  rw [if_neg h18,if_neg h18];have:=Uu P n (Ld (Zp x) (Zo x)) F R sc tr;rw [show Nn (Ld (Zp x) (Zo x) :: F)=Nn (x :: F) from Oe _ _ _ (Zdy _ _)] at this;exact this
structure Sv (lo hi:Nat)(w w':World):Prop where
 os:w'.os=w.os
 tape:w'.tape=w.tape
 output:w'.output=w.output
 size:w.heap.size≤w'.heap.size
 oth:∀ q:Nat,q<w.heap.size→q<lo∨hi≤q→w'.heap[q]?=w.heap[q]?
def uC (l:List Int):List Value:=l.map fun n=>.int .u64 n
def yC (l:List Int):List Value:=l.map fun n=>.int .u8 n
def Ib (gs ns:List Nat):List Value:=(List.range ns.length).map fun k=>.slice (some ⟨gs.getD k 0,0,none⟩) (ns.getD k 0) (ns.getD k 0)
structure Gn (w0 V:World)(x:Xl)(q lo hi lg:Nat)(bp sp op:Option Addr)(bc sc oc:Nat)(gs:List Nat)(B:Nat→Value):Prop where
 ql:lo≤q
 qh:q<hi
 gl:lo≤lg
 gh:lg<hi
 gq:lg≠q
 hs:hi≤V.heap.size
 row:V.heap[q]?=some (.cells #[.slice bp x.fn.blocks.length bc,.int .i64 x.b,.int .i64 x.i,.slice (some ⟨lg,0,none⟩) x.v.length x.v.length,.slice sp x.s.length sc,.slice op x.o.length oc] 177 (0,0))
 loc:V.heap[lg]?=some (.cells (uC x.v).toArray 62 (0,0))
 slo:V.ownsRow lo 178 1 (.slice sp x.s.length sc) x.s.length (Ib gs (x.s.map List.length))
 sb:∀ g,(Value.slice sp x.s.length sc).ownBlock=some g→g<hi
 len:gs.length=x.s.length
 each:∀ k,k<x.s.length→V.heap[gs.getD k 0]?=some (.cells (yC (x.s.getD k [])).toArray 5 (0,0))∧lo≤gs.getD k 0∧gs.getD k 0<hi
 inj:∀ j k,j<k→k<gs.length→gs.getD j 0<gs.getD k 0
 bls:LS 1 w0 (.slice bp x.fn.blocks.length bc) x.fn.blocks.length (fun k=>#[B k])
 blk:∀ k (h:k<x.fn.blocks.length),Di w0 (B k) x.fn.blocks[k]
 ous:Li w0 (.slice op x.o.length oc) x.o
structure IOk (x:Xl):Prop where
 v:∀ n ∈ x.v,0≤n∧n<18446744073709551616
 s:∀ l ∈ x.s,∀ n ∈ l,0≤n∧n<256
set_option maxHeartbeats 1000000 in
theorem Sz (b:Bool)(w:World):Calls Tryz.prog 106 #[.bool b] w fun e w'=>e=.returned (.int .u64 (if b=true then 1 else 0))∧w'=w:=by
 cases b with
 | true =>
  go_enter Tryz.func106,Tryz.ntmps106
  go_wp2;go_ret;exact⟨rfl,rfl⟩
 | false =>
  go_enter Tryz.func106,Tryz.ntmps106
  go_wp2;go_ret;exact⟨rfl,rfl⟩
set_option maxHeartbeats 4000000 in
theorem Zij (op a b:Int)(w:World):Calls Tryz.prog 93 #[.int .i64 op,.int .u64 a,.int .u64 b] w fun e w'=>e=.returned (.int .u64 (Mv op a b))∧w'=w:=by
 by_cases h3:op=3
 ·
  subst h3;go_enter Tryz.func93,Tryz.ntmps93
  go_wp2;go_ret;exact⟨rfl,rfl⟩
 by_cases h4:op=4
 ·
  subst h4;go_enter Tryz.func93,Tryz.ntmps93
  go_wp2;go_ret;exact⟨rfl,rfl⟩
 by_cases h5:op=5
 ·
  subst h5;go_enter Tryz.func93,Tryz.ntmps93
  go_wp2;go_ret;exact⟨rfl,rfl⟩
 by_cases h6:op=6
 ·
  subst h6;go_enter Tryz.func93,Tryz.ntmps93
  go_wp2;go_ret;exact⟨rfl,rfl⟩
 by_cases h7:op=7
 ·
  subst h7;go_enter Tryz.func93,Tryz.ntmps93
  go_wp2;go_ret;exact⟨rfl,rfl⟩
 by_cases h8:op=8
 ·
  subst h8;by_cases hx:a<b
  ·
   skip
   have HX:=J hx;go_enter Tryz.func93,Tryz.ntmps93
   go_wp2_with fail
   refine(Sz _ _).mono ?_;rintro e w1 ⟨rfl,hw⟩;subst w1;go_wp2;go_ret;exact⟨by unfold Mv; simp [G HX],rfl⟩
  ·
   skip
   have HX:=J hx;go_enter Tryz.func93,Tryz.ntmps93
   go_wp2_with fail
   refine(Sz _ _).mono ?_;rintro e w1 ⟨rfl,hw⟩;subst w1;go_wp2;go_ret;exact⟨by unfold Mv; simp [G HX],rfl⟩
 by_cases h9:op=9
 ·
  subst h9;by_cases hx:a=b
  ·
   have hz:(a==b)=true:=by simp [hx]
   have HX:=J hx;go_enter Tryz.func93,Tryz.ntmps93
   go_wp2_with fail
   refine(Sz _ _).mono ?_;rintro e w1 ⟨rfl,hw⟩;subst w1;go_wp2;go_ret;exact⟨by unfold Mv; simp [G HX],rfl⟩
  ·
   have hz:(a==b)=false:=by simp [hx]
   have HX:=J hx;go_enter Tryz.func93,Tryz.ntmps93
   go_wp2_with fail
   refine(Sz _ _).mono ?_;rintro e w1 ⟨rfl,hw⟩;subst w1;go_wp2;go_ret;exact⟨by unfold Mv; simp [G HX],rfl⟩
 have z3:(op==3)=false:=by simp [h3]
 have z4:(op==4)=false:=by simp [h4]
 have z5:(op==5)=false:=by simp [h5]
 have z6:(op==6)=false:=by simp [h6]
 have z7:(op==7)=false:=by simp [h7]
 have z8:(op==8)=false:=by simp [h8]
 have z9:(op==9)=false:=by simp [h9]
 have HR:=J (show Mv op a b=0 by unfold Mv; rw [if_neg h3,if_neg h4,if_neg h5,if_neg h6,if_neg h7,if_neg h8,if_neg h9]);clear h3 h4 h5 h6 h7 h8 h9;go_enter Tryz.func93,Tryz.ntmps93
 go_wp2;go_ret;exact⟨by rw [G HR]; rfl,rfl⟩
set_option maxHeartbeats 4000000 in
theorem Zpb (op a b:Int)(w:World):Calls Tryz.prog 58 #[.int .i64 op,.int .u64 a,.int .u64 b] w fun e w'=>e=.returned (.int .u64 (Mv op a b))∧w'=w:=by
 by_cases h3:op=3
 ·
  subst h3;go_enter Tryz.func58,Tryz.ntmps58
  go_wp2;go_ret;exact⟨rfl,rfl⟩
 by_cases h4:op=4
 ·
  subst h4;go_enter Tryz.func58,Tryz.ntmps58
  go_wp2;go_ret;exact⟨rfl,rfl⟩
 by_cases h5:op=5
 ·
  subst h5;go_enter Tryz.func58,Tryz.ntmps58
  go_wp2;go_ret;exact⟨rfl,rfl⟩
 by_cases h6:op=6
 ·
  subst h6;go_enter Tryz.func58,Tryz.ntmps58
  go_wp2;go_ret;exact⟨rfl,rfl⟩
 by_cases h7:op=7
 ·
  subst h7;go_enter Tryz.func58,Tryz.ntmps58
  go_wp2;go_ret;exact⟨rfl,rfl⟩
 by_cases h8:op=8
 ·
  subst h8;by_cases hx:a<b
  ·
   skip
   go_enter Tryz.func58,Tryz.ntmps58
   go_wp2;go_ret;exact⟨by unfold Mv; simp [hx],rfl⟩
  ·
   skip
   go_enter Tryz.func58,Tryz.ntmps58
   go_wp2;go_ret;exact⟨by unfold Mv; simp [hx],rfl⟩
 by_cases h9:op=9
 ·
  subst h9;by_cases hx:a=b
  ·
   have hz:(a==b)=true:=by simp [hx]
   go_enter Tryz.func58,Tryz.ntmps58
   go_wp2;go_ret;exact⟨by unfold Mv; simp [hx],rfl⟩
  ·
   have hz:(a==b)=false:=by simp [hx]
   go_enter Tryz.func58,Tryz.ntmps58
   go_wp2;go_ret;exact⟨by unfold Mv; simp [hx],rfl⟩
 have z3:(op==3)=false:=by simp [h3]
 have z4:(op==4)=false:=by simp [h4]
 have z5:(op==5)=false:=by simp [h5]
 have z6:(op==6)=false:=by simp [h6]
 have z7:(op==7)=false:=by simp [h7]
 have z8:(op==8)=false:=by simp [h8]
 have z9:(op==9)=false:=by simp [h9]
 have HR:=J (show Mv op a b=0 by unfold Mv; rw [if_neg h3,if_neg h4,if_neg h5,if_neg h6,if_neg h7,if_neg h8,if_neg h9]);clear h3 h4 h5 h6 h7 h8 h9;go_enter Tryz.func58,Tryz.ntmps58
 go_wp2;go_ret;exact⟨by rw [G HR]; rfl,rfl⟩
theorem Zcn (m:Nat→Int):∀(n a:Nat),ldv m a (n+1)=ldv m a n+256 ^ n*m (a+n)
 | 0,a=>by simp [ldv]
 | n+1,a=>by
  have h:=Zcn m n (a+1);rw [show ldv m a (n+1+1)=m a+256*ldv m (a+1) (n+1) from rfl,h,show ldv m a (n+1)=m a+256*ldv m (a+1) n from rfl,Int.pow_succ,show a+1+n=a+(n+1) by omega,Int.mul_add,← Int.mul_assoc,Int.mul_comm (256 ^ n) 256];omega
theorem Ry:∀ j:Nat,j≤8→(256:Int) ^ j≤18446744073709551616
 | 0,_=>by decide
 | 1,_=>by decide
 | 2,_=>by decide
 | 3,_=>by decide
 | 4,_=>by decide
 | 5,_=>by decide
 | 6,_=>by decide
 | 7,_=>by decide
 | 8,_=>by decide
 | n+9,h=>by omega
theorem Zaw {bs:List Int}{k:Nat}(h:k<bs.length):(yC bs).toArray[k]?=some (.int .u8 (bs.getD k 0)):=by
 simp [yC,List.getD,h]
theorem Ku {l:List Int}{k:Nat}(h:k<l.length)(d:Int):l.getD k d ∈ l:=by
 simp [List.getD,h]
theorem Dz {bs:List Int}(hb:∀ n ∈ bs,0≤n∧n<256)(i:Nat):0≤bs.getD i 0∧bs.getD i 0<256:=by
 by_cases h:i<bs.length
 ·
  exact hb _ (Ku h 0)
 ·
  simp [List.getD,h]
set_option maxHeartbeats 2000000 in
theorem Zim (bs:List Int)(g a k:Nat)(w:World)(hr:w.heap[g]?=some (.cells (yC bs).toArray 5 (0,0)))(hb:∀ n ∈ bs,0≤n∧n<256)(hk:k≤8)(hak:a+k≤bs.length)(hl:bs.length≤65536) :
 Calls Tryz.prog 55 #[.slice (some ⟨g,0,none⟩) bs.length bs.length,.int .i64 a,.int .i64 k] w fun e w'=>e=.returned (.int .u64 (Ns bs a k))∧w'=w:=by
 have HR:=J hr;have HBD:=J (Dz hb);have HLB:=J (Zbr (m:=fun i=>bs.getD i 0) (Dz hb));clear hr hb;go_enter Tryz.func55,Tryz.ntmps55
 go_wp2;go_loop [9,7,8] (fun si sv sb=>∃ j:Nat,j≤k∧si=.int .i64 j∧sv=.int .u64 (Ns bs a j)∧sb=.int .u64 ((256:Int) ^ j % 18446744073709551616)) (fun si _ _=>k-(intOf si).toNat)
 case atStart=>exact⟨0,by omega,rfl,rfl,rfl⟩
 case round =>
  obtain⟨j,hj,rfl,rfl,rfl⟩:=hrel;by_cases hj2:j<k
  ·
   have c:w.cell? ⟨g,a+j,none⟩=some (.int .u8 (bs.getD (a+j) 0)):=(Zi (G HR) (a+j)).trans (Zaw (by omega));obtain⟨hx0,hx1⟩:=G HBD (a+j);have h1:=G HLB j a;have h2:=G HLB (j+1) a;have h3:=Ry (j+1) (by omega);have h4:(256:Int) ^ j<18446744073709551616:=by have:=Ry (j+1) (by omega); rw [Int.pow_succ] at this; have h0:(0:Int)<256 ^ j:=Int.pow_pos (by decide); omega
   have h5:(0:Int)<256 ^ j:=Int.pow_pos (by decide);have hs:=Zcn (fun i=>bs.getD i 0) j a;have hm:(256:Int) ^ j % 18446744073709551616=256 ^ j:=Int.emod_eq_of_lt (by omega) h4;have HN:=J (show Ns bs a (j+1)=Ns bs a j+256 ^ j*bs.getD (a+j) 0 from hs);change 0≤Ns bs a j∧_ at h1
   change 0≤Ns bs a (j+1)∧Ns bs a (j+1)<_ at h2
   rw [G HN] at h2;have HP:=J (show(256:Int) ^ (j+1) % 18446744073709551616=IntKind.u64.wrap (256 ^ j*256) by rw [IntKind.wrap_u64,Int.pow_succ]);rw [hm];generalize bs.getD (a+j) 0=x at c hx0 hx1 h2 HN;generalize Ns bs a j=v at h1 h2 HN ⊢;generalize (256:Int) ^ j=y at h2 h4 h5 HN HP ⊢;have hp0:0≤y*x:=Int.mul_nonneg (by omega) hx0;have hw1:IntKind.u64.wrap (y*x)=y*x:=by rw [IntKind.wrap_u64]; omega
   have hw2:IntKind.u64.wrap (v+y*x)=v+y*x:=by rw [IntKind.wrap_u64]; omega
   clear h1 h2 h3 hs hm hp0;go_wp2;go_round
   case rel=>exact⟨j+1,by omega,by go_num,by rw [G HN],by rw [G HP]⟩
   case measure=>simp [intOf]; omega
  ·
   have hjk:j=k:=by omega
   subst hjk;go_wp2;go_ret;exact⟨rfl,rfl⟩
theorem Ra (bs:List Int)(a k:Nat)(v:Int):(Sb bs a k v).length=bs.length:=by simp [Sb]
theorem Zin (bs:List Int)(a:Nat)(v:Int):Sb bs a 0 v=bs:=by
 unfold Sb;rw [Zdf];apply List.ext_getElem?
 intro i;by_cases h:i<bs.length
 ·
  simp [List.getD,h]
 ·
  simp [h]
theorem Zio (bs:List Int)(a k:Nat)(v:Int):Sb bs a (k+1) v=(Sb bs a k v).set (a+k) (byt v k):=by
 apply List.ext_getElem?
 intro i;rw [List.getElem?_set];unfold Sb;by_cases h:i<bs.length
 ·
  by_cases he:a+k=i
  ·
   subst he;simp [h,Cs]
  ·
   rw [if_neg he];simp [h,Cs,Ne.symm he]
 ·
  by_cases he:a+k=i
  ·
   subst he;simp [h]
  ·
   rw [if_neg he];simp [h]
theorem Znl (bs:List Int)(i:Nat)(x:Int):(yC bs).toArray.setIfInBounds i (.int .u8 x)=(yC (bs.set i x)).toArray:=by
 simp [yC,List.map_set]
theorem Zip (bs:List Int)(i:Nat)(x:Int):(uC bs).toArray.setIfInBounds i (.int .u64 x)=(uC (bs.set i x)).toArray:=by
 simp [uC,List.map_set]
theorem Rb (w:World)(d a:Nat)(v:Int)(bs:List Int)(h:w.heap[d]?=some (.cells (yC bs).toArray 5 (0,0))):∀ k,(Ux w d a v k).heap[d]?=some (.cells (yC (Sb bs a k v)).toArray 5 (0,0))
 | 0=>by rw [Zin]; exact h
 | k+1=>by
  have:=heap_setCell_same _ _ (a+k) _ _ (.int .u8 (byt v k)) (Rb w d a v bs h k);rw [Znl,← Zio] at this;exact this
theorem Ziq (v:Int)(k:Nat):v / 256 ^ k / 256=v / 256 ^ (k+1):=by
 rw [Int.pow_succ,Int.ediv_ediv,if_neg (fun h=>absurd h.1 (by have:(0:Int)<256 ^ k:=Int.pow_pos (by decide); omega)),Int.sub_zero]
set_option maxHeartbeats 2000000 in
theorem Zir (bs:List Int)(g a k:Nat)(v:Int)(w:World)(hr:w.heap[g]?=some (.cells (yC bs).toArray 5 (0,0)))(hak:a+k≤bs.length)(hl:bs.length≤65536)(hv:0≤v)(hv1:v<18446744073709551616) :
 Calls Tryz.prog 36 #[.slice (some ⟨g,0,none⟩) bs.length bs.length,.int .i64 a,.int .i64 k,.int .u64 v] w fun e w'=>(∃ x,e=.returned x)∧w'=Ux w g a v k:=by
 have HR:=J hr;clear hr;go_enter Tryz.func36,Tryz.ntmps36
 go_wp2;go_loopw [8,3] (fun si sv w'=>∃ j:Nat,j≤k∧si=.int .i64 j∧sv=.int .u64 (v / 256 ^ j)∧w'=Ux w g a v j) (fun si _ _=>k-(intOf si).toNat)
 case atStart=>exact⟨0,by omega,rfl,by simp,rfl⟩
 case round =>
  obtain⟨j,hj,rfl,rfl,hw⟩:=hrel;subst hw;by_cases hj2:j<k
  ·
   have hrow:=Rb w g a v bs (G HR) j;have c:(Ux w g a v j).cell? ⟨g,a+j,none⟩=some (.int .u8 ((Sb bs a j v).getD (a+j) 0)):=(Zi hrow (a+j)).trans (Zaw (by rw [Ra]; omega));have z:=frozen_of_row _ _ (a+j) _ _ hrow;obtain⟨y,hy⟩:∃ y,y=v / 256 ^ j:=⟨_,rfl⟩;have hy0:0≤y:=by rw [hy]; exact Int.ediv_nonneg hv (Int.le_of_lt (Int.pow_pos (by decide)))
   have HB:=J (show byt v j=y % 256 by rw [hy]; rfl);have HD:=J (show v / 256 ^ (j+1)=y / 256 by rw [← Ziq,hy]);rw [← hy];have h1:Int.tmod y 256=y % 256:=Int.tmod_eq_emod_of_nonneg hy0;have h2:Int.tdiv y 256=y / 256:=Int.tdiv_eq_ediv_of_nonneg hy0;have hy1:y≤v:=by rw [hy]; exact Int.ediv_le_self _ hv
   have h4:IntKind.u64.wrap (y / 256)=y / 256:=by rw [IntKind.wrap_u64]; omega
   have h3:IntKind.u8.wrap (y % 256)=y % 256:=by rw [show IntKind.u8.wrap (y % 256)=(y % 256) % 256 from rfl]; omega
   have HW:=J (show Ux w g a v (j+1)=(Ux w g a v j).setCell ⟨g,a+j,none⟩ (.int .u8 (y % 256)) by rw [← G HB]; rfl);clear hy hrow;generalize Ux w g a v j=V at c z HW ⊢;go_wp2;go_roundw
   case rel=>exact⟨j+1,by omega,by go_num,by rw [G HD],by rw [G HW]⟩
   case measure=>simp [intOf]; omega
  ·
   have hjk:j=k:=by omega
   subst hjk;go_wp2;go_returns;exact⟨⟨_,rfl⟩,rfl⟩
theorem Xu {V:World}{B n size g:Nat}{e t:TypeId}{v:Value}{xs:List Value}{cs:Array Value}{fr:Nat×Nat}(h:V.ownsRow B e size v n xs)(hr:V.heap[g]?=some (.cells cs t fr))(hne:e≠t):v.ownBlock≠some g:=fun hv=>by
 rcases h.2 with⟨e1,-⟩ | ⟨g1,c1,cur1,e1,-,r1,-⟩
 ·
  rw [e1] at hv; cases hv
 ·
  rw [e1] at hv;injection hv with hv;simp only at hv;rw [hv,hr] at r1;injection r1 with r1;injection r1 with _ r1 _;exact hne r1.symm
theorem Yq {V V':World}{B n size:Nat}{e:TypeId}{v:Value}{xs:List Value}(h:V.ownsRow B e size v n xs)(hk:∀ g,v.ownBlock=some g→V'.heap[g]?=V.heap[g]?):V'.ownsRow B e size v n xs:=by
 obtain⟨h1,h2 | ⟨g,cap,cur,e1,e2,e3,e4⟩⟩:=h
 ·
  exact⟨h1,Or.inl h2⟩
 ·
  exact⟨h1,Or.inr ⟨g,cap,cur,e1,e2,(hk g (by rw [e1]; rfl)).trans e3,e4⟩⟩
theorem Kv (lo hi:Nat)(w:World):Sv lo hi w w:=⟨rfl,rfl,rfl,Nat.le_refl _,fun _ _ _=>rfl⟩
theorem Xi {lo hi:Nat}{a b c:World}(h:Sv lo hi a b)(k:Sv lo hi b c):Sv lo hi a c:=⟨k.os.trans h.os,k.tape.trans h.tape,k.output.trans h.output,Nat.le_trans h.size k.size,fun q hq hd=>(k.oth q (Nat.lt_of_lt_of_le hq h.size) hd).trans (h.oth q hq hd)⟩
theorem Ur {lo hi g:Nat}(w:World)(j:Nat)(v:Value)(h1:lo≤g)(h2:g<hi):Sv lo hi w (w.setCell ⟨g,j,none⟩ v):=⟨rfl,rfl,rfl,by simp,fun q _ hd=>heap_setCell_other _ _ _ _ (by show q≠g; omega)⟩
theorem Jr {lo hi:Nat}{w w':World}(h:Below w.heap.size w w'):Sv lo hi w w':=⟨h.os,h.tape,h.output,h.size,fun q hq _=>h.block q hq⟩
theorem Mt (w:World)(d a:Nat)(v:Int):∀ k,(Ux w d a v k).os=w.os∧(Ux w d a v k).tape=w.tape∧(Ux w d a v k).output=w.output
 | 0=>⟨rfl,rfl,rfl⟩
 | k+1=>Mt w d a v k
theorem Zlb {lo hi d:Nat}(w:World)(a k:Nat)(v:Int)(h1:lo≤d)(h2:d<hi):Sv lo hi w (Ux w d a v k):=⟨(Mt w d a v k).1,(Mt w d a v k).2.1,(Mt w d a v k).2.2,Nat.le_of_eq (Oi w d a v k).symm,fun q _ hd=>Jc w d a v q (by omega) k⟩
section
variable {w0 V V':World} {x:Xl} {q lo hi lg bc sc oc:Nat} {bp sp op:Option Addr} {gs:List Nat} {B:Nat→Value}
theorem Mu (h:Gn w0 V x q lo hi lg bp sp op bc sc oc gs B)(hk:∀ g,lo≤g→g<hi→V'.heap[g]?=V.heap[g]?)(hz:V.heap.size≤V'.heap.size):Gn w0 V' x q lo hi lg bp sp op bc sc oc gs B :=
 ⟨h.ql,h.qh,h.gl,h.gh,h.gq,Nat.le_trans h.hs hz,(hk q h.ql h.qh).trans h.row,(hk lg h.gl h.gh).trans h.loc,Yq h.slo (fun g e=>hk g (World.ownsRow.lt h.slo g e).1 (h.sb g e)),h.sb,h.len,fun k hk2=>⟨(hk _ (h.each k hk2).2.1 (h.each k hk2).2.2).trans (h.each k hk2).1,(h.each k hk2).2⟩,h.inj,h.bls,h.blk,h.ous⟩
theorem Ji (h:Gn w0 V x q lo hi lg bp sp op bc sc oc gs B){g:Nat}{t:TypeId}{cs:Array Value}(hr:V.heap[g]?=some (.cells cs t (0,0)))(ht:178≠t):∀ b,(Value.slice sp x.s.length sc).ownBlock=some b→b≠g:=fun b e hb=>Xu h.slo hr ht (by rw [e,hb])
theorem Zs {V:World}{a b:Nat}{s t:TypeId}{c d:Array Value}(h:V.heap[a]?=some (.cells c s (0,0)))(k:V.heap[b]?=some (.cells d t (0,0)))(hne:s≠t):a≠b:=fun e=>by
 subst e;rw [h] at k;injection k with k;injection k with _ k _;exact hne k
theorem Zmp (h:Gn w0 V x q lo hi lg bp sp op bc sc oc gs B){j:Nat}{v:Value}{y:Xl}(hv:y.v=x.v)(hs:y.s=x.s)(ho:y.o=x.o)(hf:y.fn=x.fn)
 (hrow:(V.setCell ⟨q,j,none⟩ v).heap[q]?=some (.cells #[.slice bp x.fn.blocks.length bc,.int .i64 y.b,.int .i64 y.i,.slice (some ⟨lg,0,none⟩) x.v.length x.v.length,.slice sp x.s.length sc,.slice op x.o.length oc] 177 (0,0))):Gn w0 (V.setCell ⟨q,j,none⟩ v) y q lo hi lg bp sp op bc sc oc gs B:=by
 obtain⟨yf,yb,yi,yv,ys,yo⟩:=y;simp only at hv hs ho hf;subst hv hs ho hf;have ot:∀ g,g≠q→(V.setCell ⟨q,j,none⟩ v).heap[g]?=V.heap[g]?:=fun g hg=>heap_setCell_other _ _ _ _ hg;exact⟨h.ql,h.qh,h.gl,h.gh,h.gq,by simpa using h.hs,hrow,(ot _ h.gq).trans h.loc,Yq h.slo (fun g e=>ot g (Ji h h.row (by decide) g e)),h.sb,h.len,fun k hk=>⟨(ot _ (Zs (h.each k hk).1 h.row (by decide))).trans (h.each k hk).1,(h.each k hk).2⟩,h.inj,h.bls,h.blk,h.ous⟩
theorem Zpc (h:Gn w0 V x q lo hi lg bp sp op bc sc oc gs B)(n:Int):Gn w0 (V.setCell ⟨q,1,none⟩ (.int .i64 n)) { x with b:=n } q lo hi lg bp sp op bc sc oc gs B:=Zmp h rfl rfl rfl rfl (heap_setCell_same _ _ 1 _ _ _ h.row)
theorem Zmq (h:Gn w0 V x q lo hi lg bp sp op bc sc oc gs B)(n:Int):Gn w0 (V.setCell ⟨q,2,none⟩ (.int .i64 n)) { x with i:=n } q lo hi lg bp sp op bc sc oc gs B:=Zmp h rfl rfl rfl rfl (heap_setCell_same _ _ 2 _ _ _ h.row)
theorem Zac (h:Gn w0 V x q lo hi lg bp sp op bc sc oc gs B)(d:Nat)(n:Int):Gn w0 (V.setCell ⟨lg,d,none⟩ (.int .u64 n)) { x with v:=x.v.set d n } q lo hi lg bp sp op bc sc oc gs B:=by
 have ot:∀ g,g≠lg→(V.setCell ⟨lg,d,none⟩ (.int .u64 n)).heap[g]?=V.heap[g]?:=fun g hg=>heap_setCell_other _ _ _ _ hg;refine⟨h.ql,h.qh,h.gl,h.gh,h.gq,by simpa using h.hs,?_,?_,Yq h.slo (fun g e=>ot g (Ji h h.loc (by decide) g e)),h.sb,h.len,fun k hk=>⟨(ot _ (Zs (h.each k hk).1 h.loc (by decide))).trans (h.each k hk).1,(h.each k hk).2⟩,h.inj,h.bls,h.blk,h.ous⟩
 ·
  rw [show({ x with v:=x.v.set d n }:Xl).v.length=x.v.length by simp];exact(ot _ (Ne.symm h.gq)).trans h.row
 ·
  have:=heap_setCell_same _ _ d _ _ (.int .u64 n) h.loc;rw [Zip] at this;exact this
theorem Oo (ss:List (List Int))(k:Nat)(l:List Int)(h:l.length=(ss.getD k []).length):(ss.set k l).map List.length=ss.map List.length:=by
 apply List.ext_getElem?
 intro j;rw [List.getElem?_map,List.getElem?_map,List.getElem?_set];by_cases hj:k=j
 ·
  subst hj;rw [if_pos rfl];by_cases hk:k<ss.length
  ·
   rw [if_pos hk,List.getElem?_eq_getElem hk];simp only [Option.map_some,h,List.getD,List.getElem?_eq_getElem hk,Option.getD_some]
  ·
   rw [if_neg hk,List.getElem?_eq_none (by omega)]
 ·
  rw [if_neg hj]
theorem Rc (ss:List (List Int))(k j:Nat)(l:List Int)(hk:k<ss.length):(ss.set k l).getD j []=if j=k then l else ss.getD j []:=by
 by_cases hj:j=k
 ·
  subst hj;simp [List.getD,hk]
 ·
  simp [List.getD,Ne.symm hj,hj]
theorem Zmr (h:Gn w0 V x q lo hi lg bp sp op bc sc oc gs B){j k:Nat}(hj:j<gs.length)(hk:k<gs.length)(hne:j≠k):gs.getD j 0≠gs.getD k 0:=by
 rcases Nat.lt_or_gt_of_ne hne with h1 | h1
 ·
  have:=h.inj j k h1 hk; omega
 ·
  have:=h.inj k j h1 hj; omega
theorem Znm (h:Gn w0 V x q lo hi lg bp sp op bc sc oc gs B)(k:Nat)(hk:k<x.s.length)(a kk:Nat)(v:Int):Gn w0 (Ux V (gs.getD k 0) a v kk) { x with s:=x.s.set k (Sb (x.s.getD k []) a kk v) } q lo hi lg bp sp op bc sc oc gs B:=by
 have hr:=(h.each k hk).1;have ot:∀ g,g≠gs.getD k 0→(Ux V (gs.getD k 0) a v kk).heap[g]?=V.heap[g]?:=fun g hg=>Jc V _ a v g hg kk;have hl:({ x with s:=x.s.set k (Sb (x.s.getD k []) a kk v) }:Xl).s.length=x.s.length:=by simp
 refine⟨h.ql,h.qh,h.gl,h.gh,h.gq,by rw [Oi]; exact h.hs,?_,(ot _ (Zs h.loc hr (by decide))).trans h.loc,?_,by rw [hl]; exact h.sb,by rw [hl]; exact h.len,fun j hj=>?_,h.inj,h.bls,h.blk,h.ous⟩
 ·
  rw [hl];exact(ot _ (Zs h.row hr (by decide))).trans h.row
 ·
  rw [hl,show({ x with s:=x.s.set k (Sb (x.s.getD k []) a kk v) }:Xl).s.map List.length=x.s.map List.length from Oo _ _ _ (Ra _ _ _ _)];exact Yq h.slo (fun g e=>ot g (Ji h hr (by decide) g e))
 ·
  rw [hl] at hj;show(Ux V (gs.getD k 0) a v kk).heap[gs.getD j 0]?=some (.cells (yC ((x.s.set k (Sb (x.s.getD k []) a kk v)).getD j [])).toArray _ _)∧_;rw [Rc _ _ _ _ hk];by_cases he:j=k
  ·
   subst he;rw [if_pos rfl];exact⟨Rb V _ a v _ hr kk,(h.each j hj).2⟩
  ·
   rw [if_neg he];exact⟨(ot _ (Zmr h (by rw [h.len]; exact hj) (by rw [h.len]; exact hk) he)).trans (h.each j hj).1,(h.each j hj).2⟩
theorem Yk (h:Gn w0 V x q lo hi lg bp sp op bc sc oc gs B)(hb:Below V.heap.size V V'):Gn w0 V' x q lo hi lg bp sp op bc sc oc gs B :=
 ⟨h.ql,h.qh,h.gl,h.gh,h.gq,Nat.le_trans h.hs hb.size,(hb.block q (Zd h.row)).trans h.row,(hb.block lg (Zd h.loc)).trans h.loc,Yq h.slo (fun g e=>hb.block g (World.ownsRow.lt h.slo g e).2),h.sb,h.len,fun k hk=>⟨(hb.block _ (Zd (h.each k hk).1)).trans (h.each k hk).1,(h.each k hk).2⟩,h.inj,h.bls,h.blk,h.ous⟩
end
theorem Zlc {w0 V:World}{x:Xl}{q lo hi lg bc sc oc:Nat}{bp sp op:Option Addr}{gs:List Nat}{B:Nat→Value}(h:Gn w0 V x q lo hi lg bp sp op bc sc oc gs B){g:Nat}(hg:hi≤g)(cs:Array Value):Gn w0 (V.setRow g cs) x q lo hi lg bp sp op bc sc oc gs B :=
 Mu h (fun b _ h2=>setRow_other _ _ _ _ (by omega)) (by simp [World.setRow])
set_option maxHeartbeats 2000000 in
theorem Zdw (w0:World)(x:Xl)(q lo hi lg:Nat)(bp sp op:Option Addr)(bc sc oc:Nat)(gs:List Nat)(B:Nat→Value)(n:Int)(w:World)(h:Gn w0 w x q lo hi lg bp sp op bc sc oc gs B) :
 Calls Tryz.prog 87 #[.pointer (some ⟨q,0,none⟩),.int .i64 n] w fun e w'=>(∃ v,e=.returned v)∧Gn w0 w' { x with b:=n,i:=0 } q lo hi lg bp sp op bc sc oc gs B∧Sv lo hi w w':=by
 have c1:=cR h.row 1;have z1:=frozen_of_row _ _ 1 _ _ h.row;have h1:=Zpc h n;have c2:=cR h1.row 2;have z2:=frozen_of_row _ _ 2 _ _ h1.row;have HX:=J (show Gn w0 ((w.setCell ⟨q,1,none⟩ (.int .i64 n)).setCell ⟨q,2,none⟩ (.int .i64 0)) { x with b:=n,i:=0 } q lo hi lg bp sp op bc sc oc gs B from Zmq h1 0);have HO:=J (Xi (Ur (lo:=lo) (hi:=hi) w 1 (.int .i64 n) h.ql h.qh) (Ur _ 2 (.int .i64 0) h.ql h.qh));clear h h1;go_enter Tryz.func87,Tryz.ntmps87
 go_wp2;go_returns;exact⟨⟨_,rfl⟩,G HX,G HO⟩
set_option maxHeartbeats 4000000 in
set_option maxRecDepth 100000 in
theorem Znn (w0:World)(x:Xl)(q lo hi lg:Nat)(bp sp op:Option Addr)(bc sc oc:Nat)(gs:List Nat)(B:Nat→Value)(i:Zw)(xap xop:Option Addr)(xan xac xon xoc:Nat)(d:Nat)(t:Int)(w:World)(h:Gn w0 w x q lo hi lg bp sp op bc sc oc gs B)(hd:i.d=d)(hdl:d<x.v.length)(ht:t=if x.v.getD d 0=0 then i.bb else i.a) :
 Calls Tryz.prog 88 #[.pointer (some ⟨q,0,none⟩),.agg #[.int .i64 i.op,.int .i64 i.d,.int .i64 i.a,.int .i64 i.bb,.int .u64 i.n,.int .i64 i.f,.slice xap xan xac,.slice xop xon xoc]] w fun e w'=>(∃ v,e=.returned v)∧Gn w0 w' { x with b:=t,i:=0 } q lo hi lg bp sp op bc sc oc gs B∧Sv lo hi w w':=by
 obtain⟨r0,hb,hz⟩:=Yj w (.cells #[.int .i64 i.op,.int .i64 i.d,.int .i64 i.a,.int .i64 i.bb,.int .u64 i.n,.int .i64 i.f,.slice xap xan xac,.slice xop xon xoc] 65 (0,0));have hW:=Yk h hb;have HO:=J (Jr (lo:=lo) (hi:=hi) hb);have HR:=J r0;have hlt:=Zd r0;have HW:=J hW;have HD:=J hd;have HTT:=J ht;clear h r0 hb hW hd ht;go_enter Tryz.func88,Tryz.ntmps88
 go_upto_region 1 with fail
 generalize World.alloc w _=W at HW HO HR hlt hz ⊢;have c3:=cR (G HW).row 3;have i1:W.cell? ⟨w.heap.size,1,none⟩=some (.int .i64 (d:Int)):=by rw [← G HD]; exact(cR (G HR) 1)
 have v0:W.cell? ⟨lg,d,none⟩=some (.int .u64 (x.v.getD d 0)):=(Zi (G HW).loc d).trans (by simp [uC,List.getD,hdl]);by_cases hv:x.v.getD d 0=0
 ·
  have HIF:=J (show t=i.bb by rw [G HTT,if_pos hv]);rw [hv] at v0;go_quiet (fail)
  generalize hX:World.drewN W _=U;have hBU:Below W.heap.size W U:=by rw [← hX]; exact Zk (Below.refl _ _) _
  have i3:=cR ((hBU.block _ hlt).trans (G HR)) 3;have HC:=J (Zdw w0 x q lo hi lg bp sp op bc sc oc gs B i.bb U (Yk (G HW) hBU));have HO2:=J (Xi (G HO) (Jr hBU));clear hX hBU c3 i1 v0 hv;go_wp2_with fail
  refine(G HC).mono ?_;rintro e w2 ⟨⟨v,rfl⟩,hF,ho⟩;have HF:=J hF;have HO3:=J (Xi (G HO2) ho);clear hF ho HC;go_wp2;go_returns;exact⟨⟨_,rfl⟩,by rw [G HIF]; exact G HF,G HO3⟩
 ·
  have hz0:(x.v.getD d 0 != 0)=true:=by simpa using hv
  have HIF:=J (show t=i.a by rw [G HTT,if_neg hv]);obtain⟨y,hy⟩:∃ y,y=x.v.getD d 0:=⟨_,rfl⟩;rw [← hy] at v0 hz0;clear hy;clear hv;go_quiet (fail)
  generalize hX:World.drewN W _=U;have hBU:Below W.heap.size W U:=by rw [← hX]; exact Zk (Below.refl _ _) _
  have i2:=cR ((hBU.block _ hlt).trans (G HR)) 2;have HC:=J (Zdw w0 x q lo hi lg bp sp op bc sc oc gs B i.a U (Yk (G HW) hBU));have HO2:=J (Xi (G HO) (Jr hBU));clear hX hBU c3 i1 v0;go_wp2_with fail
  refine(G HC).mono ?_;rintro e w2 ⟨⟨v,rfl⟩,hF,ho⟩;have HF:=J hF;have HO3:=J (Xi (G HO2) ho);clear hF ho HC;go_wp2;go_returns;exact⟨⟨_,rfl⟩,by rw [G HIF]; exact G HF,G HO3⟩
theorem Yu {α:Type}(l:List α)(d:α)(k:Nat)(h:k<l.length):l.getD k d=l[k]:=by simp [List.getD,h]
theorem Tryz.infInsI:(Tryz.prog.info? 65).map (·.size)=some 8:=by kernel_rfl
def FtS (q bb bo ib io:Nat)(R:Array Value)(bv:Value)(I:Array Value)(V:World):Prop :=
 V.heap[q]?=some (.cells R 177 (0,0))∧V.cell? ⟨bb,bo,none⟩=some bv∧∀ j y,I[j]?=some y→V.cell? ⟨ib,io+j,none⟩=some y
theorem Ny {q bb bo ib io:Nat}{R I:Array Value}{bv:Value}{V V':World}(h:FtS q bb bo ib io R bv I V)(hb:Below V.heap.size V V'):FtS q bb bo ib io R bv I V':=by
 obtain⟨h0,h1,h2⟩:=h;exact⟨(hb.block _ (Zd h0)).trans h0,(hb.cell (World.block_lt_of_cell? V _ h1)).trans h1,fun j y hy=>(hb.cell (World.block_lt_of_cell? V _ (h2 j y hy))).trans (h2 j y hy)⟩
set_option maxHeartbeats 4000000 in
set_option maxRecDepth 100000 in
theorem Zld (w0:World)(x:Xl)(q lo hi lg:Nat)(bp sp op:Option Addr)(bc sc oc:Nat)(gs:List Nat)(B:Nat→Value)(bn nx:Nat)(w:World)(h:Gn w0 w x q lo hi lg bp sp op bc sc oc gs B)(hbw:Below w0.heap.size w0 w)(hb:x.b=bn)(hi_:x.i=nx)(hbl:bn<x.fn.blocks.length)(hnl:nx<(x.fn.blocks.getD bn []).length)(hsm:x.fn.blocks.length≤12)(hsk:(x.fn.blocks.getD bn []).length≤24) :
 Calls Tryz.prog 82 #[.pointer (some ⟨q,0,none⟩)] w fun e w'=>∃ xap xac xop xoc,e=.returned (.agg #[.int .i64 (Zo x).op,.int .i64 (Zo x).d,.int .i64 (Zo x).a,.int .i64 (Zo x).bb,.int .u64 (Zo x).n,.int .i64 (Zo x).f,.slice xap (Zo x).args.length xac,.slice xop (Zo x).outs.length xoc])∧LS 2 w0 (.slice xap (Zo x).args.length xac) (Zo x).args.length (fun k=>Yz ((Zo x).args.getD k (0,0)))∧Li w0 (.slice xop (Zo x).outs.length xoc) (Zo x).outs∧Gn w0 w' (Zp x) q lo hi lg bp sp op bc sc oc gs B∧Sv lo hi w w':=by
 have hins:Zo x=(x.fn.blocks.getD bn []).getD nx Lt:=by unfold Zo; rw [hb,hi_]; rfl
 have hnxt:Zp x={ x with i:=(nx:Int)+1 }:=by unfold Zp; rw [hi_]
 obtain⟨bp',bcap,hbe,-,-,hbc⟩:=h.bls.ones;injection hbe with e1 e2 e3;subst e1 e3;obtain⟨bb,bo,hbp,hbcell⟩:=hbc (by omega);subst hbp;obtain⟨IA,hIL,hIE⟩:=h.blk bn hbl;have hge:x.fn.blocks.getD bn []=x.fn.blocks[bn]:=Yu _ _ _ hbl;rw [hge] at hnl hins hsk;obtain⟨ip,ic,hBk⟩:=hIL.shape;rw [hBk] at hIL;obtain⟨ip',ic',hie,-,-,hicell⟩:=hIL;injection hie with f1 f2 f3;subst f1 f3;obtain⟨isb,iso,hip,-,hic2⟩:=hicell (by omega);subst hip;have hrg:=hic2 nx hnl;obtain⟨av,ov,hIA,hxa,hxo⟩:=hIE nx hnl;have hgi:(x.fn.blocks[bn]).getD nx Lt=(x.fn.blocks[bn])[nx]:=Yu _ _ _ hnl;rw [hgi] at hins;have hc1:=hbcell bn hbl;rw [hBk] at hc1;generalize hbk:x.fn.blocks[bn]=bk at *;generalize hii:bk[nx]=i at *;obtain⟨xap,xac,rfl⟩:=hxa.shape;obtain⟨xop,xoc,rfl⟩:=hxo.shape;rw [hIA] at hrg;have hrow:=h.row;rw [hb,hi_] at hrow;have HS0:=J (show FtS q bb (bo+bn) isb (iso+nx*8) #[.slice (some ⟨bb,bo,none⟩) x.fn.blocks.length bc,.int .i64 (bn:Int),.int .i64 (nx:Int),.slice (some ⟨lg,0,none⟩) x.v.length x.v.length,.slice sp x.s.length sc,.slice op x.o.length oc] (.slice (some ⟨isb,iso,none⟩) bk.length ic) #[.int .i64 i.op,.int .i64 i.d,.int .i64 i.a,.int .i64 i.bb,.int .u64 i.n,.int .i64 i.f,.slice xap i.args.length xac,.slice xop i.outs.length xoc] w from⟨hrow,(hbw.cell (World.block_lt_of_cell? _ _ hc1)).trans hc1,fun j y hy=>by
  have:=hrg j y (by simpa using hy);exact(hbw.cell (World.block_lt_of_cell? _ _ this)).trans this⟩)
 have HXA:=J hxa;have HXO:=J hxo;have H:=J h;have HNX:=J hnxt;have hqw:=Zd h.row;rw [hins];obtain⟨r0,hb0,hz0⟩:=Yj w (.cells #[.int .i64 0,.int .i64 0,.int .i64 0,.int .i64 0,.int .u64 0,.int .i64 0,.slice none 0 0,.slice none 0 0] 65 (0,0));have HR0:=J r0;have HB0:=J hb0;clear h hbw hb hi_ hins hnxt hbc hbcell hIE hge hBk hicell hic2 hrg hIA hxa hxo hgi hc1 hrow hbk hii r0 hb0 e2 f2;go_enter Tryz.func82,Tryz.ntmps82
 go_upto_region 1 with fail
 generalize World.alloc w _=W at HR0 HB0 hz0 ⊢;have HZ0:=J hz0;clear hz0;have HSW:=J (Ny (Ny (G HS0) (G HB0)) (Below.refl _ _).drew);refine wp_region_held_drew (S:=FtS q bb (bo+bn) isb (iso+nx*8) #[.slice (some ⟨bb,bo,none⟩) x.fn.blocks.length bc,.int .i64 (bn:Int),.int .i64 (nx:Int),.slice (some ⟨lg,0,none⟩) x.v.length x.v.length,.slice sp x.s.length sc,.slice op x.o.length oc] (.slice (some ⟨isb,iso,none⟩) bk.length ic) #[.int .i64 i.op,.int .i64 i.d,.int .i64 i.a,.int .i64 i.bb,.int .u64 i.n,.int .i64 i.f,.slice xap i.args.length xac,.slice xop i.outs.length xoc]) (by kernel_rfl) (G HSW) (fun hHeld=>?_);refine wpAnyH_take (i:=0) (v:=?v0) rfl (by kernel_rfl) (by kernel_rfl) (by kernel_rfl) (fun _ _ _ h=>h) (Or.inl ⟨by rfl,?hy0⟩) (by assumption) ?_;case hy0 =>
  intro V hV;obtain⟨g0,g1,g2⟩:=hV;clear g0 g1 g2;go_simp;all_goals (with_reducible rfl)
 simp only [Act.put,zA,zB,zC,zD,zE];refine wpAnyH_take (i:=1) (v:=?v1) rfl (by kernel_rfl) (by kernel_rfl) (by kernel_rfl) (fun _ _ _ h=>h) (Or.inl ⟨by rfl,?hy1⟩) (by assumption) ?_;case hy1 =>
  intro V hV;obtain⟨g0,g1,g2⟩:=hV;clear g0 g1 g2;go_simp;all_goals (with_reducible rfl)
 simp only [Act.put,zA,zB,zC,zD,zE,zF];refine wpAnyH_take (i:=2) (v:=?v2) rfl (by kernel_rfl) (by kernel_rfl) (by kernel_rfl) (fun _ _ _ h=>h) (Or.inl ⟨by rfl,?hy2⟩) (by assumption) ?_;case hy2 =>
  intro V hV;obtain⟨g0,g1,g2⟩:=hV;clear g0 g1 g2;go_simp;all_goals (with_reducible rfl)
 simp only [Act.put,zA,zB,zC,zD,zE,zF];refine wpAnyH_take (i:=3) (v:=?v3) rfl (by kernel_rfl) (by kernel_rfl) (by kernel_rfl) (fun _ _ _ h=>h) (Or.inl ⟨by rfl,?hy3⟩) (by assumption) ?_;case hy3 =>
  intro V hV;obtain⟨g0,g1,g2⟩:=hV;have c0:=cR g0 0;clear g0 g1 g2;go_simp;all_goals (with_reducible rfl)
 simp only [Act.put,zA,zB,zC,zD,zE,zF];refine wpAnyH_take (i:=4) (v:=?v4) rfl (by kernel_rfl) (by kernel_rfl) (by kernel_rfl) (fun _ _ _ h=>h) (Or.inl ⟨by rfl,?hy4⟩) (by assumption) ?_;case hy4 =>
  intro V hV;obtain⟨g0,g1,g2⟩:=hV;clear g0 g1 g2;go_simp;all_goals (with_reducible rfl)
 simp only [Act.put,zA,zB,zC,zD,zE,zF];refine wpAnyH_take (i:=5) (v:=?v5) rfl (by kernel_rfl) (by kernel_rfl) (by kernel_rfl) (fun _ _ _ h=>h) (Or.inl ⟨by rfl,?hy5⟩) (by assumption) ?_;case hy5 =>
  intro V hV;obtain⟨g0,g1,g2⟩:=hV;clear g0 g1 g2;go_simp;all_goals (with_reducible rfl)
 simp only [Act.put,zA,zB,zC,zD,zE,zF];refine wpAnyH_take (i:=6) (v:=?v6) rfl (by kernel_rfl) (by kernel_rfl) (by kernel_rfl) (fun _ _ _ h=>h) (Or.inl ⟨by rfl,?hy6⟩) (by assumption) ?_;case hy6 =>
  intro V hV;obtain⟨g0,g1,g2⟩:=hV;clear g0 g1 g2;go_simp;all_goals (with_reducible rfl)
 simp only [Act.put,zA,zB,zC,zD,zE,zF];refine wpAnyH_take (i:=7) (v:=?v7) rfl (by kernel_rfl) (by kernel_rfl) (by kernel_rfl) (fun _ _ _ h=>h) (Or.inl ⟨by rfl,?hy7⟩) (by assumption) ?_;case hy7 =>
  intro V hV;obtain⟨g0,g1,g2⟩:=hV;have c1:=cR g0 1;clear g0 g1 g2;go_simp;all_goals (with_reducible rfl)
 simp only [Act.put,zA,zB,zC,zD,zE,zF];refine wpAnyH_take (i:=8) (v:=?v8) rfl (by kernel_rfl) (by kernel_rfl) (by kernel_rfl) (fun _ _ _ h=>h) (Or.inl ⟨by rfl,?hy8⟩) (by assumption) ?_;case hy8 =>
  intro V hV;obtain⟨g0,g1,g2⟩:=hV;clear g0 g1 g2;go_simp;all_goals (with_reducible rfl)
 simp only [Act.put,zA,zB,zC,zD,zE,zF];refine wpAnyH_take (i:=9) (v:=?v9) rfl (by kernel_rfl) (by kernel_rfl) (by kernel_rfl) (fun _ _ _ h=>h) (Or.inl ⟨by rfl,?hy9⟩) (by assumption) ?_;case hy9 =>
  intro V hV;obtain⟨g0,g1,g2⟩:=hV;have d:=g1;clear g0 g1 g2;go_simp;all_goals (with_reducible rfl)
 simp only [Act.put,zA,zB,zC,zD,zE,zF];refine wpAnyH_take (i:=10) (v:=?v10) rfl (by kernel_rfl) (by kernel_rfl) (by kernel_rfl) (fun _ _ _ h=>h) (Or.inl ⟨by rfl,?hy10⟩) (by assumption) ?_;case hy10 =>
  intro V hV;obtain⟨g0,g1,g2⟩:=hV;clear g0 g1 g2;go_simp;all_goals (with_reducible rfl)
 simp only [Act.put,zA,zB,zC,zD,zE,zF];refine wpAnyH_take (i:=11) (v:=?v11) rfl (by kernel_rfl) (by kernel_rfl) (by kernel_rfl) (fun _ _ _ h=>h) (Or.inl ⟨by rfl,?hy11⟩) (by assumption) ?_;case hy11 =>
  intro V hV;obtain⟨g0,g1,g2⟩:=hV;clear g0 g1 g2;go_simp;all_goals (with_reducible rfl)
 simp only [Act.put,zA,zB,zC,zD,zE,zF];refine wpAnyH_take (i:=12) (v:=?v12) rfl (by kernel_rfl) (by kernel_rfl) (by kernel_rfl) (fun _ _ _ h=>h) (Or.inl ⟨by rfl,?hy12⟩) (by assumption) ?_;case hy12 =>
  intro V hV;obtain⟨g0,g1,g2⟩:=hV;clear g0 g1 g2;go_simp;all_goals (with_reducible rfl)
 simp only [Act.put,zA,zB,zC,zD,zE,zF];refine wpAnyH_take (i:=13) (v:=?v13) rfl (by kernel_rfl) (by kernel_rfl) (by kernel_rfl) (fun _ _ _ h=>h) (Or.inl ⟨by rfl,?hy13⟩) (by assumption) ?_;case hy13 =>
  intro V hV;obtain⟨g0,g1,g2⟩:=hV;have c2:=cR g0 2;clear g0 g1 g2;go_simp;all_goals (with_reducible rfl)
 simp only [Act.put,zA,zB,zC,zD,zE,zF];refine wpAnyH_take (i:=14) (v:=?v14) rfl (by kernel_rfl) (by kernel_rfl) (by kernel_rfl) (fun _ _ _ h=>h) (Or.inl ⟨by rfl,?hy14⟩) (by assumption) ?_;case hy14 =>
  intro V hV;obtain⟨g0,g1,g2⟩:=hV;clear g0 g1 g2;go_simp;all_goals (with_reducible rfl)
 simp only [Act.put,zA,zB,zC,zD,zE,zF];refine wpAnyH_take (i:=15) (v:=?v15) rfl (by kernel_rfl) (by kernel_rfl) (by kernel_rfl) (fun _ _ _ h=>h) (Or.inl ⟨by rfl,?hy15⟩) (by assumption) ?_;case hy15 =>
  intro V hV;obtain⟨g0,g1,g2⟩:=hV;have c0:=g2 0 _ rfl;have c1:=g2 1 _ rfl;have c2:=g2 2 _ rfl;have c3:=g2 3 _ rfl;have c4:=g2 4 _ rfl;have c5:=g2 5 _ rfl;have c6:=g2 6 _ rfl;have c7:=g2 7 _ rfl;rw [Nat.add_zero] at c0;clear g0 g1 g2;go_simp;all_goals (with_reducible rfl)
 simp only [Act.put,zA,zB,zC,zD,zE,zF];refine tO 16 fun K hK=>?_;go_simp;obtain⟨r1,hb1,hz1⟩:=Yj W.drew (.cells #[.int .i64 0,.int .i64 0,.int .i64 0,.int .i64 0,.int .u64 0,.int .i64 0,.slice none 0 0,.slice none 0 0] 65 (0,0));have HR1:=J r1;have HB1:=J hb1;have hz1':(W.drew.alloc (.cells #[.int .i64 0,.int .i64 0,.int .i64 0,.int .i64 0,.int .u64 0,.int .i64 0,.slice none 0 0,.slice none 0 0] 65 (0,0))).heap.size=W.heap.size+1:=hz1;clear r1 hb1 hz1;refine hK.out _ _ (Ny (G HSW) (G HB1)) (fun hHeld2=>?_);clear hK K;try simp only [Act.put,zA,zB,zC,zD,zE,zF]
 refine tO 17 fun K hK=>?_;rw [if_pos (by rfl)];refine wp_store_row 65 _ _ rfl W.heap.size #[.int .i64 i.op,.int .i64 i.d,.int .i64 i.a,.int .i64 i.bb,.int .u64 i.n,.int .i64 i.f,.slice xap i.args.length xac,.slice xop i.outs.length xoc] rfl rfl 65 _ (G HR1) (Tryz.infInsI.trans rfl) rfl (by simp [Value.oneCell']) ?_;have HR2:=J (show((W.alloc (.cells #[.int .i64 0,.int .i64 0,.int .i64 0,.int .i64 0,.int .u64 0,.int .i64 0,.slice none 0 0,.slice none 0 0] 65 (0,0))).drew.setRow W.heap.size #[.int .i64 i.op,.int .i64 i.d,.int .i64 i.a,.int .i64 i.bb,.int .u64 i.n,.int .i64 i.f,.slice xap i.args.length xac,.slice xop i.outs.length xoc]).heap[W.heap.size]?=some (.cells #[.int .i64 i.op,.int .i64 i.d,.int .i64 i.a,.int .i64 i.bb,.int .u64 i.n,.int .i64 i.f,.slice xap i.args.length xac,.slice xop i.outs.length xoc] 65 (0,0)) from setRow_heap _ _ _ #[.int .i64 i.op,.int .i64 i.d,.int .i64 i.a,.int .i64 i.bb,.int .u64 i.n,.int .i64 i.f,.slice xap i.args.length xac,.slice xop i.outs.length xoc] _ _ (G HR1));have HB2:=J (show Below W.drew.heap.size W.drew ((W.alloc (.cells #[.int .i64 0,.int .i64 0,.int .i64 0,.int .i64 0,.int .u64 0,.int .i64 0,.slice none 0 0,.slice none 0 0] 65 (0,0))).drew.setRow W.heap.size #[.int .i64 i.op,.int .i64 i.d,.int .i64 i.a,.int .i64 i.bb,.int .u64 i.n,.int .i64 i.f,.slice xap i.args.length xac,.slice xop i.outs.length xoc]) from Zh (T:=W.drew.heap.size) (cs:=#[.int .i64 i.op,.int .i64 i.d,.int .i64 i.a,.int .i64 i.bb,.int .u64 i.n,.int .i64 i.f,.slice xap i.args.length xac,.slice xop i.outs.length xoc]) (G HB1) (Nat.le_refl _))
 refine hK.out _ _ (Ny (G HSW) (G HB2)) (fun hHeld2=>?_);clear hK K hHeld hHeld2;try simp only [Act.put]
 refine wpAnyH_done (by kernel_rfl) ?_ _;generalize World.setRow (World.drew (World.alloc W _)) _ _=V3 at HR2 HB2 ⊢;have hBW:Below W.heap.size W V3:=Za (Below.refl W.heap.size W).drew (G HB2) (Nat.le_refl _);have hz0:=G HZ0;have hBw3:=Za (G HB0) hBW (by omega);have hF3:=Yk (G H) hBw3;have c2:V3.cell? ⟨q,2,none⟩=some (.int .i64 (nx:Int)):=by have:=(Ny (G HSW) (G HB2)).1; exact(cR this 2)
 have z2:=frozen_of_row _ _ 2 _ _ hF3.row;have hRT:V3.heap[w.heap.size]?=some (.cells #[.int .i64 0,.int .i64 0,.int .i64 0,.int .i64 0,.int .u64 0,.int .i64 0,.slice none 0 0,.slice none 0 0] 65 (0,0)):=(hBW.block _ (by omega)).trans (G HR0);have hF4:=Zmq hF3 ((nx:Int)+1);rw [← G HNX] at hF4;have HF4:=J hF4;have hqne:W.heap.size≠q:=by omega
 have hqn2:w.heap.size≠q:=by omega
 have hR4:=(heap_setCell_other V3 ⟨q,2,none⟩ W.heap.size (.int .i64 ((nx:Int)+1)) hqne).trans (G HR2);have hT4:=(heap_setCell_other V3 ⟨q,2,none⟩ w.heap.size (.int .i64 ((nx:Int)+1)) hqn2).trans hRT;have HO4:=J (Xi (Jr (lo:=lo) (hi:=hi) hBw3) (Ur V3 2 (.int .i64 ((nx:Int)+1)) (G H).ql (G H).qh));have HT4:=J hT4;clear hz0;clear hBW hBw3 hF3 hF4 HR2 HB2 hRT HSW HS0 HR1 HB1;go_upto_region 3 with fail
 clear c2 z2;generalize World.setCell V3 _ _=V4 at HF4 hR4 HT4 HO4 ⊢;have i0:=cR hR4 0;have i1:=cR hR4 1;have i2:=cR hR4 2;have i3:=cR hR4 3;have i4:=cR hR4 4;have i5:=cR hR4 5;have i6:=cR hR4 6;have i7:=cR hR4 7;have hlt4:=Zd (G HT4);go_wp2_with (refine wpList_store_row rfl 65 _ _ rfl w.heap.size #[.int .i64 i.op,.int .i64 i.d,.int .i64 i.a,.int .i64 i.bb,.int .u64 i.n,.int .i64 i.f,.slice xap i.args.length xac,.slice xop i.outs.length xoc] rfl rfl 65 _ (G HT4) (Tryz.infInsI.trans rfl) rfl (by simp [Value.oneCell']) ?_)
 refine bodyPost_ret (Jp (fn:=Tryz.f82) (q:=2) (uy:=65) rfl _ _ w.heap.size 65 #[.int .i64 i.op,.int .i64 i.d,.int .i64 i.a,.int .i64 i.bb,.int .u64 i.n,.int .i64 i.f,.slice xap i.args.length xac,.slice xop i.outs.length xoc] (0,0) _ rfl (setRow_heap _ _ _ _ _ _ (G HT4)) Tryz.underlying65 rfl (Tryz.infInsI.trans rfl)) rfl ?_;have hF:=G HF4;have hO:=G HO4;have hz0:=G HZ0;refine⟨xap,xac,xop,xoc,rfl,G HXA,G HXO,Zlc hF (by have:=(G H).hs; omega) _,⟨hO.os,hO.tape,hO.output,by have:=hO.size; simpa [World.setRow] using this,fun g hg hd=>(setRow_other _ _ _ _ (by omega)).trans (hO.oth g hg hd)⟩⟩
def isW (n:Int):Bool:=n==1||n==2||n==4||n==8
theorem Rp (n:Int):isW n=true↔n=1∨n=2∨n=4∨n=8:=by unfold isW; simp; omega
set_option maxHeartbeats 400000 in
theorem Zhg (n:Int)(w:World):Calls Tryz.prog 117 #[.int .i64 n] w fun e w'=>e=.returned (.bool (isW n))∧w'=w:=by
 by_cases h1:n=1
 ·
  subst h1; go_enter Tryz.func117,Tryz.ntmps117; go_wp2; go_ret; exact⟨rfl,rfl⟩
 by_cases h2:n=2
 ·
  subst h2; go_enter Tryz.func117,Tryz.ntmps117; go_wp2; go_ret; exact⟨rfl,rfl⟩
 by_cases h4:n=4
 ·
  subst h4; go_enter Tryz.func117,Tryz.ntmps117; go_wp2; go_ret; exact⟨rfl,rfl⟩
 by_cases h8:n=8
 ·
  subst h8; go_enter Tryz.func117,Tryz.ntmps117; go_wp2; go_ret; exact⟨rfl,rfl⟩
 have e1:(n==1)=false:=by simp [h1]
 have e2:(n==2)=false:=by simp [h2]
 have e4:(n==4)=false:=by simp [h4]
 have e8:(n==8)=false:=by simp [h8]
 have e:isW n=false:=by simp [isW,h1,h2,h4,h8]
 rw [e]; clear e;go_enter Tryz.func117,Tryz.ntmps117; go_wp2; go_ret; exact⟨rfl,rfl⟩
set_option maxHeartbeats 400000 in
theorem Zik (p:Option Addr)(n:Nat)(a k:Int)(w:World)(hn:n≤65536)(hw:isW k=true)(ha0:0≤a)(hak:a+k≤n):Calls Tryz.prog 115 #[.slice p n n,.int .i64 a,.int .i64 k] w fun e w'=>e=.returned .nilIface∧w'=w:=by
 have hk:=(Rp k).1 hw;have hk1:1≤k:=by omega
 have hk8:k≤8:=by omega
 clear hk;have ha:¬ a<0:=by omega
 have hs:¬ (n:Int)-k<a:=by omega
 go_enter Tryz.func115,Tryz.ntmps115
 go_wp2_with (go_at_call 117; refine(Zhg _ _).mono ?_; rintro e w' ⟨rfl,rfl⟩)
 go_ret;exact⟨rfl,rfl⟩
set_option maxHeartbeats 400000 in
theorem Zla (d n:Nat)(m:Nat→Int)(a k:Nat)(w:World)(hn:n≤65536)(hk8:k≤8)(hak:a+k≤n)(hww:isW k=true)(hc:∀ i,i<n→w.cell? ⟨d,i,none⟩=some (.int .u8 (m i)))(hm:∀ i,0≤m i∧m i<256) :
 Calls Tryz.prog 104 #[.slice (some ⟨d,0,none⟩) n n,.int .i64 a,.int .i64 k] w fun e w'=>e=.returned (.tuple #[.int .u64 (ldv m a k),.nilIface])∧w'=w:=by
 have hl:=Zik (some ⟨d,0,none⟩) n a k w hn hww (by omega) (by omega);have HL:=Zde hl;have HM:=Zde hm;have HC:=Zde hc;clear hl hww hm hc;go_enter Tryz.func104,Tryz.ntmps104
 go_wp2_with (go_at_call 115; refine(Uo HL).mono ?_; rintro e w' ⟨rfl,rfl⟩)
 go_loop [9,10] (fun v i=>∃ j:Nat,j≤k∧i=.int .i64 ((j:Int)-1)∧v=.int .u64 (ldv m (a+j) (k-j))) (fun _ i=>(intOf i+1).toNat)
 case atStart=>exact⟨k,Nat.le_refl _,rfl,by simp [ldv]⟩
 case round =>
  obtain⟨j,hj,rfl,rfl⟩:=hrel;cases j with
  | zero =>
   have HE:=Zde (show ldv m (a+0) (k-0)=ldv m a k from rfl);go_wp2;go_ret2;exact⟨rfl,rfl⟩
  | succ j =>
   have hcx:=Uo HC (a+j) (by omega);have hmx:=Uo HM (a+j);have hb:=Zbr (Uo HM) (k-(j+1)) (a+(j+1));have hp:=Zhh (k-(j+1)) (by omega);have hb2:ldv m (a+(j+1)) (k-(j+1))<72057594037927936:=by omega
   clear hp;obtain⟨hb0,-⟩:=hb;have HO:=Zde (or8 _ _ hb0 hb2 hmx.1 hmx.2);go_wp2;go_round
   case rel =>
    refine⟨j,by omega,rfl,?_⟩;rw [Uo HO,show k-j=(k-(j+1))+1 by omega];rfl
   case measure=>simp [intOf]
set_option maxHeartbeats 400000 in
theorem Zil (d n:Nat)(m:Nat→Int)(a k:Nat)(v:Int)(w:World)(hn:n≤65536)(hk8:k≤8)(hak:a+k≤n)(hww:isW k=true)(hc:∀ i,i<n→w.cell? ⟨d,i,none⟩=some (.int .u8 (m i)))(hf:∀ i,i<n→w.frozen? ⟨d,i,none⟩=false) :
 Calls Tryz.prog 103 #[.slice (some ⟨d,0,none⟩) n n,.int .i64 a,.int .i64 k,.int .u64 v] w fun e w'=>e=.returned .nilIface∧w'=Ux w d a v k:=by
 have hl:=Zik (some ⟨d,0,none⟩) n a k w hn hww (by omega) (by omega);have HL:=Zde hl;have HF:=Zde hf;have HC:=Zde hc;clear hl hww hf hc;go_enter Tryz.func103,Tryz.ntmps103
 go_wp2_with (go_at_call 115; refine(Uo HL).mono ?_; rintro e w' ⟨rfl,hw'⟩; subst hw')
 go_loopw [19] (fun i wr=>∃ j:Nat,j≤k∧i=.int .i64 j∧wr=Ux w' d a v j) (fun i _=>k-(intOf i).toNat)
 case atStart=>exact⟨0,by omega,rfl,rfl⟩
 case round =>
  obtain⟨j,hj,rfl,rfl⟩:=hrel;by_cases hlt:j<k
  ·
   have hcx:=Zdg w' d a v n m (Uo HC) j (by omega) (a+j) (by omega);have hfx:=(Ct w' d a v ⟨d,a+j,none⟩ j).trans (Uo HF (a+j) (by omega));go_wp2;go_roundw
   case rel=>exact⟨j+1,hlt,by go_num,by rw [Zml]; rfl⟩
   case measure=>simp [intOf]; omega
  ·
   obtain rfl:j=k:=by omega
   go_wp2;go_ret;exact⟨rfl,rfl⟩
theorem Zfi (bs:List Int)(g a k:Nat)(w:World)(hr:w.heap[g]?=some (.cells (yC bs).toArray 5 (0,0)))(hb:∀ n ∈ bs,0≤n∧n<256)(hk:isW k=true)(hak:a+k≤bs.length)(hn:bs.length≤65536) :
 Calls Tryz.prog 104 #[.slice (some ⟨g,0,none⟩) bs.length bs.length,.int .i64 a,.int .i64 k] w fun e w'=>e=.returned (.tuple #[.int .u64 (Ns bs a k),.nilIface])∧w'=w :=
 Zla g bs.length (fun i=>bs.getD i 0) a k w hn (by have:=(Rp k).1 hk; omega) hak hk (fun i hi=>(Zi hr i).trans (Zaw hi)) (Dz hb)
theorem Zcm (bs:List Int)(g a k:Nat)(v:Int)(w:World)(hr:w.heap[g]?=some (.cells (yC bs).toArray 5 (0,0)))(hk:isW k=true)(hak:a+k≤bs.length)(hn:bs.length≤65536) :
 Calls Tryz.prog 103 #[.slice (some ⟨g,0,none⟩) bs.length bs.length,.int .i64 a,.int .i64 k,.int .u64 v] w fun e w'=>e=.returned .nilIface∧w'=Ux w g a v k :=
 Zil g bs.length (fun i=>bs.getD i 0) a k v w hn (by have:=(Rp k).1 hk; omega) hak hk (fun i hi=>(Zi hr i).trans (Zaw hi)) (fun i _=>frozen_of_row _ _ i _ _ hr)
end Go.Proofs.YteddfaconabobaaGreatDoor
