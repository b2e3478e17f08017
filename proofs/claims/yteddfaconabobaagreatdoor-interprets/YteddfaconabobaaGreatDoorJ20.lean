import Derived.Test.YteddfaconabobaaGreatDoorJ3
import Derived.Deep.OwnRows
import Derived.Laws.BitsLemmas
import Derived.Laws.Bits64
import Derived.Test.YteddfaconabobaaGreatDoorJ7
import Derived.Test.YteddfaconabobaaGreatDoorChecked
import Derived.Test.YteddfaconabobaaGreatDoorEncX
import Derived.Test.YteddfaconabobaaGreatDoorJ14
import Derived.Test.YteddfaconabobaaGreatDoorPk
import Derived.Deep.RegionHeld3
import Derived.Test.YteddfaconabobaaGreatDoorJ0
import Derived.Laws.MakeOwn
namespace Go.Proofs.YteddfaconabobaaGreatDoor
open Go.RowKit
theorem Zdf {p:Prop}(h:p):Hid p:=h
theorem Uq {p:Prop}(h:Hid p):p:=h
def ldv (m:Nat→Int):Nat→Nat→Int
 | _,0=>0
 | a,n+1=>m a+256*ldv m (a+1) n
def byt (v:Int)(k:Nat):Int:=v / 256 ^ k % 256
theorem Zmm (v:Int)(k:Nat):v / 2 ^ (8*k) % 256=byt v k:=by
 unfold byt; rw [Int.pow_mul]; rfl
theorem Zbs {m:Nat→Int}(hm:∀ i,0≤m i∧m i<256):∀(n a:Nat),0≤ldv m a n∧ldv m a n<256 ^ n
 | 0,a=>by simp [ldv]
 | n+1,a=>by
  have h:=Zbs hm n (a+1);have h0:=hm a;simp only [ldv,Int.pow_succ];omega
def upd (m:Nat→Int)(a:Nat)(v:Int)(n:Nat):Nat→Int:=fun i=>if a≤i∧i<a+n then byt v (i-a) else m i
theorem Zdg (m:Nat→Int)(a:Nat)(v:Int):upd m a v 0=m:=by
 funext i; unfold upd; rw [if_neg (by omega)]
theorem Ct (m:Nat→Int)(a:Nat)(v:Int)(n i:Nat):upd m a v (n+1) i=if i=a+n then byt v n else upd m a v n i:=by
 unfold upd;by_cases h:i=a+n
 ·
  subst h; rw [if_pos (by omega),if_pos rfl]; congr 1; omega
 ·
  rw [if_neg h];by_cases h2:a≤i∧i<a+n
  ·
   rw [if_pos (by omega),if_pos h2]
  ·
   rw [if_neg (by omega),if_neg h2]
theorem Zmn (n:Int)(h₀:0≤n)(h₁:n<2 ^ 64):IntKind.u64.wrap n=n:=by rw [IntKind.wrap_u64]; omega
theorem or8 (x y:Int)(h0:0≤x)(h1:x<72057594037927936)(h2:0≤y)(h3:y<256):bits .or .u64 (x*256) y=y+256*x:=by
 rw [bits_join .u64 64 (by decide) Zmn 8 (x*256) y (by omega) (by omega) (by omega) h2 (by omega) (by omega)];omega
theorem Zhi (k:Nat)(hk:k≤7):(256:Int) ^ k≤72057594037927936:=by
 match k,hk with
 | 0,_ | 1,_ | 2,_ | 3,_ | 4,_ | 5,_ | 6,_ | 7,_=>decide
def Uz (w:World)(d a:Nat)(v:Int):Nat→World
 | 0=>w
 | k+1=>(Uz w d a v k).setCell ⟨d,a+k,none⟩ (.int .u8 (byt v k))
theorem Oj (w:World)(d a:Nat)(v:Int):∀ k,(Uz w d a v k).heap.size=w.heap.size
 | 0=>rfl
 | k+1=>by simp [Uz,Oj w d a v k]
theorem Cu (w:World)(d a:Nat)(v:Int)(x:Addr):∀ k,(Uz w d a v k).frozen? x=w.frozen? x
 | 0=>rfl
 | k+1=>by simp only [Uz,World.frozen?_setCell]; exact Cu w d a v x k
theorem Jc (w:World)(d a:Nat)(v:Int)(x:Nat)(h:x≠d):∀ k,(Uz w d a v k).heap[x]?=w.heap[x]?
 | 0=>rfl
 | k+1=>by
  simp only [Uz];rw [Below.heap_setCell _ _ _ _ h];exact Jc w d a v x h k
theorem Zdh (w:World)(d a:Nat)(v:Int)(n:Nat)(m:Nat→Int)(hc:∀ i,i<n→w.cell? ⟨d,i,none⟩=some (.int .u8 (m i))) :
 ∀ k,a+k≤n→∀ i,i<n→(Uz w d a v k).cell? ⟨d,i,none⟩=some (.int .u8 (upd m a v k i))
 | 0,_,i,hi=>by rw [Zdg]; exact hc i hi
 | k+1,hk,i,hi=>by
  simp only [Uz];rw [Ct];have ih:=Zdh w d a v n m hc k (by omega);by_cases h:i=a+k
  ·
   subst h;rw [if_pos rfl,World.cell?_setCell_same _ _ _ (ih _ hi)]
  ·
   rw [if_neg h,World.cell?_setCell_other _ _ _ _ (by intro e; cases e; exact h rfl)];exact ih i hi
structure Xk where
 fn:Zn
 b:Int
 i:Int
 v:List Int
 s:List (List Int)
 o:List Int
def Ns (bs:List Int)(a k:Nat):Int:=ldv (fun i=>bs.getD i 0) a k
def Sd (bs:List Int)(a k:Nat)(v:Int):List Int:=(List.range bs.length).map (upd (fun i=>bs.getD i 0) a v k)
def Ib (x:Xk)(a:Int×Int):List Int:=if a.1=0 then [x.v.getD a.2.toNat 0] else (List.range a.1.toNat).map fun k=>Ns (x.s.getD a.2.toNat []) (8*k) 8
def Zv (x:Xk)(l:List (Int×Int)):List Int:=l.flatMap (Ib x)
def Xf (v:List Int)(l:List Int):List Int:=l.map fun k=>v.getD k.toNat 0
def Xp (v:List Int)(ds vals:List Int):List Int:=(ds.zip vals).foldl (fun v p=>v.set p.1.toNat p.2) v
def Rj (bs:List Int)(ws:List Int):List Int:=(List.range ws.length).foldl (fun b k=>Sd b (8*k) 8 (ws.getD k 0)) bs
def Lz:List (Int×Int)→List Int→List (List Int)→List Int→List Int×List (List Int)
 | [],v,s,_=>(v,s)
 | p :: r,v,s,ws=>if p.1=0 then Lz r (v.set p.2.toNat (ws.getD 0 0)) s (ws.drop 1) else Lz r v (s.set p.2.toNat (Rj (s.getD p.2.toNat []) (ws.take p.1.toNat))) (ws.drop p.1.toNat)
def Jj (f:Zn)(ws outs:List Int):Xk :=
 let q:=Lz f.params (List.replicate f.homes.length 0) (f.slots.map fun n=>List.replicate (8*n).toNat 0) ws
 ⟨f,0,0,q.1,q.2,outs⟩
def Mv (op a b:Int):Int :=
 if op=3 then IntKind.u64.wrap (a+b) else if op=4 then IntKind.u64.wrap (a-b) else if op=5 then IntKind.u64.wrap (a*b) else if op=6 then bits .and .u64 a b else if op=7 then bits .xor .u64 a b else if op=8 then (if a<b then 1 else 0) else if op=9 then (if a=b then 1 else 0) else 0
def Ld (y:Xk)(i:Zw):Xk :=
 if i.op=1 then { y with v:=y.v.set i.d.toNat i.n }
 else if i.op=2 then { y with v:=y.v.set i.d.toNat (y.v.getD i.a.toNat 0) }
 else if i.op=10 then { y with v:=y.v.set i.d.toNat (Ns (y.s.getD i.a.toNat []) i.bb.toNat i.n.toNat) }
 else if i.op=11 then { y with s:=y.s.set i.a.toNat (Sd (y.s.getD i.a.toNat []) i.bb.toNat i.n.toNat (y.v.getD i.d.toNat 0)) }
 else if i.op=14 then { y with b:=i.a,i:=0 }
 else if i.op=15 then { y with b:=if y.v.getD i.d.toNat 0=0 then i.bb else i.a,i:=0 }
 else { y with v:=y.v.set i.d.toNat (Mv i.op (y.v.getD i.a.toNat 0) (y.v.getD i.bb.toNat 0)) }
def Zy:Type:=(List Int×Nat×List Int×List (Int×List Int)) ⊕ ((Int×Nat×List Int×List (Int×List Int)) ⊕ (List Int×List (Int×List Int)))
abbrev Zy.done (l:List Int)(left:Nat)(sc:List Int)(tr:List (Int×List Int)):Zy:=.inl (l,left,sc,tr)
abbrev Zy.trap (c:Int)(left:Nat)(sc:List Int)(tr:List (Int×List Int)):Zy:=.inr (.inl (c,left,sc,tr))
abbrev Zy.spent (sc:List Int)(tr:List (Int×List Int)):Zy:=.inr (.inr (sc,tr))
theorem Zy.el {motive:Zy→Prop}(r:Zy)(done:∀ l left sc tr,motive (.done l left sc tr))(trap:∀ c left sc tr,motive (.trap c left sc tr))(spent:∀ sc tr,motive (.spent sc tr)):motive r :=
 match r with
 | .inl (l,left,sc,tr)=>done l left sc tr
 | .inr (.inl (c,left,sc,tr))=>trap c left sc tr
 | .inr (.inr (sc,tr))=>spent sc tr
def Zo (x:Xk):Zw:=(x.fn.blocks.getD x.b.toNat []).getD x.i.toNat Lt
def Zp (x:Xk):Xk:={ x with i:=x.i+1 }
def Yt (sc:List Int)(n:Nat):List Int:=(List.range n).map fun k=>sc.getD k 0
def Ma (P:Zl)(y:Xk)(i:Zw)(outs:List Int):Xk:=Jj (P.funcs.getD i.f.toNat Ze) (Zv y i.args) outs
def ev (P:Zl):Nat→List Xk→List Int→List (Int×List Int)→Zy
 | 0,_,sc,tr=>.spent sc tr
 | _+1,[],sc,tr=>.spent sc tr
 | n+1,x :: R,sc,tr =>
  if (Zo x).op=12 then ev P n (Ma P (Zp x) (Zo x) (Zo x).outs :: Zp x :: R) sc tr
  else if (Zo x).op=13 then ev P n ({ Zp x with v:=Xp x.v (Zo x).outs (Yt sc (Zo x).outs.length) } :: R) (sc.drop (Zo x).outs.length) (tr++[((Zo x).f,Zv x (Zo x).args)])
  else if (Zo x).op=16 then
   match R with
   | []=>.done (Xf x.v (Zo x).outs) n sc tr
   | c :: R'=>ev P n ({ c with v:=Xp c.v x.o (Xf x.v (Zo x).outs) } :: R') sc tr
  else if (Zo x).op=17 then ev P n (Ma P (Zp x) (Zo x) x.o :: R) sc tr
  else if (Zo x).op=18 then .trap (Zo x).n n sc tr
  else ev P n (Ld (Zp x) (Zo x) :: R) sc tr
def Zy.bind (r:Zy)(k:List Int→Nat→List Int→List (Int×List Int)→Zy):Zy :=
 match r with
 | .inl (l,m,sc,tr)=>k l m sc tr
 | .inr (.inl (c,m,sc,tr))=>.trap c m sc tr
 | .inr (.inr (sc,tr))=>.spent sc tr
def Zmt (P:Zl)(o:List Int)(R:List Xk)(l:List Int)(m:Nat)(sc:List Int)(tr:List (Int×List Int)):Zy :=
 match R with
 | []=>.done l m sc tr
 | c :: R'=>ev P m ({ c with v:=Xp c.v o l } :: R') sc tr
def Nm:List Xk→List Int
 | []=>[]
 | [x]=>x.o
 | _ :: y :: r=>Nm (y :: r)
theorem Oe (x y:Xk)(r:List Xk)(h:x.o=y.o):Nm (x :: r)=Nm (y :: r):=by
 cases r with
 | nil=>exact h
 | cons z r=>rfl
theorem Zdz (y:Xk)(i:Zw):(Ld y i).o=y.o:=by
 unfold Ld;repeat' split
 all_goals rfl
theorem Uw (P:Zl):∀ n (x:Xk) (F R:List Xk) (sc:List Int) (tr:List (Int×List Int)),ev P n (x :: F++R) sc tr=(ev P n (x :: F) sc tr).bind (Zmt P (Nm (x :: F)) R)
 | 0,_,_,_,_,_=>rfl
 | n+1,x,F,R,sc,tr=>by
  show ev P (n+1) (x :: (F++R)) sc tr=_;unfold ev;by_cases h12:(Zo x).op=12
  ·
   rw [if_pos h12,if_pos h12];have:=Uw P n (Ma P (Zp x) (Zo x) (Zo x).outs) (Zp x :: F) R sc tr;rw [show Ma P (Zp x) (Zo x) (Zo x).outs :: Zp x :: (F++R)=Ma P (Zp x) (Zo x) (Zo x).outs :: (Zp x :: F)++R from rfl,this];rw [show Nm (Ma P (Zp x) (Zo x) (Zo x).outs :: Zp x :: F)=Nm (x :: F) from Oe (Zp x) x F rfl]
  rw [if_neg h12,if_neg h12];by_cases h13:(Zo x).op=13
  ·
   rw [if_pos h13,if_pos h13];have:=Uw P n { Zp x with v:=Xp x.v (Zo x).outs (Yt sc (Zo x).outs.length) } F R (sc.drop (Zo x).outs.length) (tr++[((Zo x).f,Zv x (Zo x).args)]);rw [show Nm ({ Zp x with v:=Xp x.v (Zo x).outs (Yt sc (Zo x).outs.length) } :: F)=Nm (x :: F) from Oe _ _ _ rfl] at this;exact this
  rw [if_neg h13,if_neg h13];by_cases h16:(Zo x).op=16
  ·
   rw [if_pos h16,if_pos h16];cases F with
   | nil =>
    cases R with
    | nil=>rfl
    | cons c R'=>rfl
   | cons c F' =>
    have:=Uw P n { c with v:=Xp c.v x.o (Xf x.v (Zo x).outs) } F' R sc tr;rw [show Nm ({ c with v:=Xp c.v x.o (Xf x.v (Zo x).outs) } :: F')=Nm (x :: c :: F') from Oe _ _ _ rfl] at this;exact this
  rw [if_neg h16,if_neg h16];by_cases h17:(Zo x).op=17
  ·
   rw [if_pos h17,if_pos h17];have:=Uw P n (Ma P (Zp x) (Zo x) x.o) F R sc tr;rw [show Nm (Ma P (Zp x) (Zo x) x.o :: F)=Nm (x :: F) from Oe _ _ _ rfl] at this;exact this
  rw [if_neg h17,if_neg h17];by_cases h18:(Zo x).op=18
  ·
   rw [if_pos h18,if_pos h18];rfl
  rw [if_neg h18,if_neg h18];have:=Uw P n (Ld (Zp x) (Zo x)) F R sc tr;rw [show Nm (Ld (Zp x) (Zo x) :: F)=Nm (x :: F) from Oe _ _ _ (Zdz _ _)] at this;exact this
structure Sx (lo hi:Nat)(w w':World):Prop where
 os:w'.os=w.os
 tape:w'.tape=w.tape
 output:w'.output=w.output
 size:w.heap.size≤w'.heap.size
 oth:∀ q:Nat,q<w.heap.size→q<lo∨hi≤q→w'.heap[q]?=w.heap[q]?
def uC (l:List Int):List Value:=l.map fun n=>.int .u64 n
def yC (l:List Int):List Value:=l.map fun n=>.int .u8 n
def Ic (gs ns:List Nat):List Value:=(List.range ns.length).map fun k=>.slice (some ⟨gs.getD k 0,0,none⟩) (ns.getD k 0) (ns.getD k 0)
structure Gn (w0 V:World)(x:Xk)(q lo hi lg:Nat)(bp sp op:Option Addr)(bc sc oc:Nat)(gs:List Nat)(B:Nat→Value):Prop where
 ql:lo≤q
 qh:q<hi
 gl:lo≤lg
 gh:lg<hi
 gq:lg≠q
 hs:hi≤V.heap.size
 row:V.heap[q]?=some (.cells #[.slice bp x.fn.blocks.length bc,.int .i64 x.b,.int .i64 x.i,.slice (some ⟨lg,0,none⟩) x.v.length x.v.length,.slice sp x.s.length sc,.slice op x.o.length oc] 177 (0,0))
 loc:V.heap[lg]?=some (.cells (uC x.v).toArray 62 (0,0))
 slo:V.ownsRow lo 178 1 (.slice sp x.s.length sc) x.s.length (Ic gs (x.s.map List.length))
 sb:∀ g,(Value.slice sp x.s.length sc).ownBlock=some g→g<hi
 len:gs.length=x.s.length
 each:∀ k,k<x.s.length→V.heap[gs.getD k 0]?=some (.cells (yC (x.s.getD k [])).toArray 5 (0,0))∧lo≤gs.getD k 0∧gs.getD k 0<hi
 inj:∀ j k,j<k→k<gs.length→gs.getD j 0<gs.getD k 0
 bls:LS 1 w0 (.slice bp x.fn.blocks.length bc) x.fn.blocks.length (fun k=>#[B k])
 blk:∀ k (h:k<x.fn.blocks.length),Dk w0 (B k) x.fn.blocks[k]
 ous:Li w0 (.slice op x.o.length oc) x.o
structure IOk (x:Xk):Prop where
 v:∀ n ∈ x.v,0≤n∧n<18446744073709551616
 s:∀ l ∈ x.s,∀ n ∈ l,0≤n∧n<256
set_option maxHeartbeats 1000000 in
theorem Kb (b:Bool)(w:World):Calls Tryz.prog 106 #[.bool b] w fun e w'=>e=.returned (.int .u64 (if b=true then 1 else 0))∧w'=w:=by
 cases b with
 | true =>
  go_enter Tryz.func106,Tryz.ntmps106
  go_wp2;go_ret;exact⟨rfl,rfl⟩
 | false =>
  go_enter Tryz.func106,Tryz.ntmps106
  go_wp2;go_ret;exact⟨rfl,rfl⟩
set_option maxHeartbeats 4000000 in
theorem Zik (op a b:Int)(w:World):Calls Tryz.prog 93 #[.int .i64 op,.int .u64 a,.int .u64 b] w fun e w'=>e=.returned (.int .u64 (Mv op a b))∧w'=w:=by
 by_cases h3:op=3
 ·
  subst h3;go_enter Tryz.func93,Tryz.ntmps93
  go_wp2;go_ret;exact⟨rfl,rfl⟩
 by_cases h4:op=4
 ·
  subst h4;go_enter Tryz.func93,Tryz.ntmps93
  go_wp2;go_ret;exact⟨rfl,rfl⟩
 by_cases h5:op=5
 ·
  subst h5;go_enter Tryz.func93,Tryz.ntmps93
  go_wp2;go_ret;exact⟨rfl,rfl⟩
 by_cases h6:op=6
 ·
  subst h6;go_enter Tryz.func93,Tryz.ntmps93
  go_wp2;go_ret;exact⟨rfl,rfl⟩
 by_cases h7:op=7
 ·
  subst h7;go_enter Tryz.func93,Tryz.ntmps93
  go_wp2;go_ret;exact⟨rfl,rfl⟩
 by_cases h8:op=8
 ·
  subst h8;by_cases hx:a<b
  ·
   skip
   have HX:=J hx;go_enter Tryz.func93,Tryz.ntmps93
   go_wp2_with fail
   refine(Kb _ _).mono ?_;rintro e w1 ⟨rfl,hw⟩;subst w1;go_wp2;go_ret;exact⟨by unfold Mv; simp [G HX],rfl⟩
  ·
   skip
   have HX:=J hx;go_enter Tryz.func93,Tryz.ntmps93
   go_wp2_with fail
   refine(Kb _ _).mono ?_;rintro e w1 ⟨rfl,hw⟩;subst w1;go_wp2;go_ret;exact⟨by unfold Mv; simp [G HX],rfl⟩
 by_cases h9:op=9
 ·
  subst h9;by_cases hx:a=b
  ·
   have hz:(a==b)=true:=by simp [hx]
   have HX:=J hx;go_enter Tryz.func93,Tryz.ntmps93
   go_wp2_with fail
   refine(Kb _ _).mono ?_;rintro e w1 ⟨rfl,hw⟩;subst w1;go_wp2;go_ret;exact⟨by unfold Mv; simp [G HX],rfl⟩
  ·
   have hz:(a==b)=false:=by simp [hx]
   have HX:=J hx;go_enter Tryz.func93,Tryz.ntmps93
   go_wp2_with fail
   refine(Kb _ _).mono ?_;rintro e w1 ⟨rfl,hw⟩;subst w1;go_wp2;go_ret;exact⟨by unfold Mv; simp [G HX],rfl⟩
 have z3:(op==3)=false:=by simp [h3]
 have z4:(op==4)=false:=by simp [h4]
 have z5:(op==5)=false:=by simp [h5]
 have z6:(op==6)=false:=by simp [h6]
 have z7:(op==7)=false:=by simp [h7]
 have z8:(op==8)=false:=by simp [h8]
 have z9:(op==9)=false:=by simp [h9]
 have HR:=J (show Mv op a b=0 by unfold Mv; rw [if_neg h3,if_neg h4,if_neg h5,if_neg h6,if_neg h7,if_neg h8,if_neg h9]);clear h3 h4 h5 h6 h7 h8 h9;go_enter Tryz.func93,Tryz.ntmps93
 go_wp2;go_ret;exact⟨by rw [G HR]; rfl,rfl⟩
set_option maxHeartbeats 4000000 in
theorem Zpc (op a b:Int)(w:World):Calls Tryz.prog 58 #[.int .i64 op,.int .u64 a,.int .u64 b] w fun e w'=>e=.returned (.int .u64 (Mv op a b))∧w'=w:=by
 by_cases h3:op=3
 ·
  subst h3;go_enter Tryz.func58,Tryz.ntmps58
  go_wp2;go_ret;exact⟨rfl,rfl⟩
 by_cases h4:op=4
 ·
  subst h4;go_enter Tryz.func58,Tryz.ntmps58
  go_wp2;go_ret;exact⟨rfl,rfl⟩
 by_cases h5:op=5
 ·
  subst h5;go_enter Tryz.func58,Tryz.ntmps58
  go_wp2;go_ret;exact⟨rfl,rfl⟩
 by_cases h6:op=6
 ·
  subst h6;go_enter Tryz.func58,Tryz.ntmps58
  go_wp2;go_ret;exact⟨rfl,rfl⟩
 by_cases h7:op=7
 ·
  subst h7;go_enter Tryz.func58,Tryz.ntmps58
  go_wp2;go_ret;exact⟨rfl,rfl⟩
 by_cases h8:op=8
 ·
  subst h8;by_cases hx:a<b
  ·
   skip
   go_enter Tryz.func58,Tryz.ntmps58
   go_wp2;go_ret;exact⟨by unfold Mv; simp [hx],rfl⟩
  ·
   skip
   go_enter Tryz.func58,Tryz.ntmps58
   go_wp2;go_ret;exact⟨by unfold Mv; simp [hx],rfl⟩
 by_cases h9:op=9
 ·
  subst h9;by_cases hx:a=b
  ·
   have hz:(a==b)=true:=by simp [hx]
   go_enter Tryz.func58,Tryz.ntmps58
   go_wp2;go_ret;exact⟨by unfold Mv; simp [hx],rfl⟩
  ·
   have hz:(a==b)=false:=by simp [hx]
   go_enter Tryz.func58,Tryz.ntmps58
   go_wp2;go_ret;exact⟨by unfold Mv; simp [hx],rfl⟩
 have z3:(op==3)=false:=by simp [h3]
 have z4:(op==4)=false:=by simp [h4]
 have z5:(op==5)=false:=by simp [h5]
 have z6:(op==6)=false:=by simp [h6]
 have z7:(op==7)=false:=by simp [h7]
 have z8:(op==8)=false:=by simp [h8]
 have z9:(op==9)=false:=by simp [h9]
 have HR:=J (show Mv op a b=0 by unfold Mv; rw [if_neg h3,if_neg h4,if_neg h5,if_neg h6,if_neg h7,if_neg h8,if_neg h9]);clear h3 h4 h5 h6 h7 h8 h9;go_enter Tryz.func58,Tryz.ntmps58
 go_wp2;go_ret;exact⟨by rw [G HR]; rfl,rfl⟩
theorem Zco (m:Nat→Int):∀(n a:Nat),ldv m a (n+1)=ldv m a n+256 ^ n*m (a+n)
 | 0,a=>by simp [ldv]
 | n+1,a=>by
  have h:=Zco m n (a+1);rw [show ldv m a (n+1+1)=m a+256*ldv m (a+1) (n+1) from rfl,h,show ldv m a (n+1)=m a+256*ldv m (a+1) n from rfl,Int.pow_succ,show a+1+n=a+(n+1) by omega,Int.mul_add,← Int.mul_assoc,Int.mul_comm (256 ^ n) 256];omega
theorem Sa:∀ j:Nat,j≤8→(256:Int) ^ j≤18446744073709551616
 | 0,_=>by decide
 | 1,_=>by decide
 | 2,_=>by decide
 | 3,_=>by decide
 | 4,_=>by decide
 | 5,_=>by decide
 | 6,_=>by decide
 | 7,_=>by decide
 | 8,_=>by decide
 | n+9,h=>by omega
theorem Zax {bs:List Int}{k:Nat}(h:k<bs.length):(yC bs).toArray[k]?=some (.int .u8 (bs.getD k 0)):=by
 simp [yC,List.getD,h]
theorem Kw {l:List Int}{k:Nat}(h:k<l.length)(d:Int):l.getD k d ∈ l:=by
 simp [List.getD,h]
theorem Rb {bs:List Int}(hb:∀ n ∈ bs,0≤n∧n<256)(i:Nat):0≤bs.getD i 0∧bs.getD i 0<256:=by
 by_cases h:i<bs.length
 ·
  exact hb _ (Kw h 0)
 ·
  simp [List.getD,h]
set_option maxHeartbeats 2000000 in
theorem Zin (bs:List Int)(g a k:Nat)(w:World)(hr:w.heap[g]?=some (.cells (yC bs).toArray 5 (0,0)))(hb:∀ n ∈ bs,0≤n∧n<256)(hk:k≤8)(hak:a+k≤bs.length)(hl:bs.length≤65536) :
 Calls Tryz.prog 55 #[.slice (some ⟨g,0,none⟩) bs.length bs.length,.int .i64 a,.int .i64 k] w fun e w'=>e=.returned (.int .u64 (Ns bs a k))∧w'=w:=by
 have HR:=J hr;have HBD:=J (Rb hb);have HLB:=J (Zbs (m:=fun i=>bs.getD i 0) (Rb hb));clear hr hb;go_enter Tryz.func55,Tryz.ntmps55
 go_wp2;go_loop [9,7,8] (fun si sv sb=>∃ j:Nat,j≤k∧si=.int .i64 j∧sv=.int .u64 (Ns bs a j)∧sb=.int .u64 ((256:Int) ^ j % 18446744073709551616)) (fun si _ _=>k-(intOf si).toNat)
 case atStart=>exact⟨0,by omega,rfl,rfl,rfl⟩
 case round =>
  obtain⟨j,hj,rfl,rfl,rfl⟩:=hrel;by_cases hj2:j<k
  ·
   have c:w.cell? ⟨g,a+j,none⟩=some (.int .u8 (bs.getD (a+j) 0)):=(Zi (G HR) (a+j)).trans (Zax (by omega));obtain⟨hx0,hx1⟩:=G HBD (a+j);have h1:=G HLB j a;have h2:=G HLB (j+1) a;have h3:=Sa (j+1) (by omega);have h4:(256:Int) ^ j<18446744073709551616:=by have:=Sa (j+1) (by omega); rw [Int.pow_succ] at this; have h0:(0:Int)<256 ^ j:=Int.pow_pos (by decide); omega
   have h5:(0:Int)<256 ^ j:=Int.pow_pos (by decide);have hs:=Zco (fun i=>bs.getD i 0) j a;have hm:(256:Int) ^ j % 18446744073709551616=256 ^ j:=Int.emod_eq_of_lt (by omega) h4;have HN:=J (show Ns bs a (j+1)=Ns bs a j+256 ^ j*bs.getD (a+j) 0 from hs);change 0≤Ns bs a j∧_ at h1
   change 0≤Ns bs a (j+1)∧Ns bs a (j+1)<_ at h2
   rw [G HN] at h2;have HP:=J (show(256:Int) ^ (j+1) % 18446744073709551616=IntKind.u64.wrap (256 ^ j*256) by rw [IntKind.wrap_u64,Int.pow_succ]);rw [hm];generalize bs.getD (a+j) 0=x at c hx0 hx1 h2 HN;generalize Ns bs a j=v at h1 h2 HN ⊢;generalize (256:Int) ^ j=y at h2 h4 h5 HN HP ⊢;have hp0:0≤y*x:=Int.mul_nonneg (by omega) hx0;have hw1:IntKind.u64.wrap (y*x)=y*x:=by rw [IntKind.wrap_u64]; omega
   have hw2:IntKind.u64.wrap (v+y*x)=v+y*x:=by rw [IntKind.wrap_u64]; omega
   clear h1 h2 h3 hs hm hp0;go_wp2;go_round
   case rel=>exact⟨j+1,by omega,by go_num,by rw [G HN],by rw [G HP]⟩
   case measure=>simp [intOf]; omega
  ·
   have hjk:j=k:=by omega
   subst hjk;go_wp2;go_ret;exact⟨rfl,rfl⟩
theorem Rc (bs:List Int)(a k:Nat)(v:Int):(Sd bs a k v).length=bs.length:=by simp [Sd]
theorem Zio (bs:List Int)(a:Nat)(v:Int):Sd bs a 0 v=bs:=by
 unfold Sd;rw [Zdg];apply List.ext_getElem?
 intro i;by_cases h:i<bs.length
 ·
  simp [List.getD,h]
 ·
  simp [h]
theorem Zip (bs:List Int)(a k:Nat)(v:Int):Sd bs a (k+1) v=(Sd bs a k v).set (a+k) (byt v k):=by
 apply List.ext_getElem?
 intro i;rw [List.getElem?_set];unfold Sd;by_cases h:i<bs.length
 ·
  by_cases he:a+k=i
  ·
   subst he;simp [h,Ct]
  ·
   rw [if_neg he];simp [h,Ct,Ne.symm he]
 ·
  by_cases he:a+k=i
  ·
   subst he;simp [h]
  ·
   rw [if_neg he];simp [h]
theorem Znm (bs:List Int)(i:Nat)(x:Int):(yC bs).toArray.setIfInBounds i (.int .u8 x)=(yC (bs.set i x)).toArray:=by
 simp [yC,List.map_set]
theorem Ziq (bs:List Int)(i:Nat)(x:Int):(uC bs).toArray.setIfInBounds i (.int .u64 x)=(uC (bs.set i x)).toArray:=by
 simp [uC,List.map_set]
theorem Rd (w:World)(d a:Nat)(v:Int)(bs:List Int)(h:w.heap[d]?=some (.cells (yC bs).toArray 5 (0,0))):∀ k,(Uz w d a v k).heap[d]?=some (.cells (yC (Sd bs a k v)).toArray 5 (0,0))
 | 0=>by rw [Zio]; exact h
 | k+1=>by
  have:=heap_setCell_same _ _ (a+k) _ _ (.int .u8 (byt v k)) (Rd w d a v bs h k);rw [Znm,← Zip] at this;exact this
theorem Zir (v:Int)(k:Nat):v / 256 ^ k / 256=v / 256 ^ (k+1):=by
 rw [Int.pow_succ,Int.ediv_ediv,if_neg (fun h=>absurd h.1 (by have:(0:Int)<256 ^ k:=Int.pow_pos (by decide); omega)),Int.sub_zero]
set_option maxHeartbeats 2000000 in
theorem Zis (bs:List Int)(g a k:Nat)(v:Int)(w:World)(hr:w.heap[g]?=some (.cells (yC bs).toArray 5 (0,0)))(hak:a+k≤bs.length)(hl:bs.length≤65536)(hv:0≤v)(hv1:v<18446744073709551616) :
 Calls Tryz.prog 36 #[.slice (some ⟨g,0,none⟩) bs.length bs.length,.int .i64 a,.int .i64 k,.int .u64 v] w fun e w'=>(∃ x,e=.returned x)∧w'=Uz w g a v k:=by
 have HR:=J hr;clear hr;go_enter Tryz.func36,Tryz.ntmps36
 go_wp2;go_loopw [8,3] (fun si sv w'=>∃ j:Nat,j≤k∧si=.int .i64 j∧sv=.int .u64 (v / 256 ^ j)∧w'=Uz w g a v j) (fun si _ _=>k-(intOf si).toNat)
 case atStart=>exact⟨0,by omega,rfl,by simp,rfl⟩
 case round =>
  obtain⟨j,hj,rfl,rfl,hw⟩:=hrel;subst hw;by_cases hj2:j<k
  ·
   have hrow:=Rd w g a v bs (G HR) j;have c:(Uz w g a v j).cell? ⟨g,a+j,none⟩=some (.int .u8 ((Sd bs a j v).getD (a+j) 0)):=(Zi hrow (a+j)).trans (Zax (by rw [Rc]; omega));have z:=frozen_of_row _ _ (a+j) _ _ hrow;obtain⟨y,hy⟩:∃ y,y=v / 256 ^ j:=⟨_,rfl⟩;have hy0:0≤y:=by rw [hy]; exact Int.ediv_nonneg hv (Int.le_of_lt (Int.pow_pos (by decide)))
   have HB:=J (show byt v j=y % 256 by rw [hy]; rfl);have HD:=J (show v / 256 ^ (j+1)=y / 256 by rw [← Zir,hy]);rw [← hy];have h1:Int.tmod y 256=y % 256:=Int.tmod_eq_emod_of_nonneg hy0;have h2:Int.tdiv y 256=y / 256:=Int.tdiv_eq_ediv_of_nonneg hy0;have hy1:y≤v:=by rw [hy]; exact Int.ediv_le_self _ hv
   have h4:IntKind.u64.wrap (y / 256)=y / 256:=by rw [IntKind.wrap_u64]; omega
   have h3:IntKind.u8.wrap (y % 256)=y % 256:=by rw [show IntKind.u8.wrap (y % 256)=(y % 256) % 256 from rfl]; omega
   have HW:=J (show Uz w g a v (j+1)=(Uz w g a v j).setCell ⟨g,a+j,none⟩ (.int .u8 (y % 256)) by rw [← G HB]; rfl);clear hy hrow;generalize Uz w g a v j=V at c z HW ⊢;go_wp2;go_roundw
   case rel=>exact⟨j+1,by omega,by go_num,by rw [G HD],by rw [G HW]⟩
   case measure=>simp [intOf]; omega
  ·
   have hjk:j=k:=by omega
   subst hjk;go_wp2;go_returns;exact⟨⟨_,rfl⟩,rfl⟩
theorem Xu {V:World}{B n size g:Nat}{e t:TypeId}{v:Value}{xs:List Value}{cs:Array Value}{fr:Nat×Nat}(h:V.ownsRow B e size v n xs)(hr:V.heap[g]?=some (.cells cs t fr))(hne:e≠t):v.ownBlock≠some g:=fun hv=>by
 rcases h.2 with⟨e1,-⟩ | ⟨g1,c1,cur1,e1,-,r1,-⟩
 ·
  rw [e1] at hv; cases hv
 ·
  rw [e1] at hv;injection hv with hv;simp only at hv;rw [hv,hr] at r1;injection r1 with r1;injection r1 with _ r1 _;exact hne r1.symm
theorem Yq {V V':World}{B n size:Nat}{e:TypeId}{v:Value}{xs:List Value}(h:V.ownsRow B e size v n xs)(hk:∀ g,v.ownBlock=some g→V'.heap[g]?=V.heap[g]?):V'.ownsRow B e size v n xs:=by
 obtain⟨h1,h2 | ⟨g,cap,cur,e1,e2,e3,e4⟩⟩:=h
 ·
  exact⟨h1,Or.inl h2⟩
 ·
  exact⟨h1,Or.inr ⟨g,cap,cur,e1,e2,(hk g (by rw [e1]; rfl)).trans e3,e4⟩⟩
theorem Kx (lo hi:Nat)(w:World):Sx lo hi w w:=⟨rfl,rfl,rfl,Nat.le_refl _,fun _ _ _=>rfl⟩
theorem Xi {lo hi:Nat}{a b c:World}(h:Sx lo hi a b)(k:Sx lo hi b c):Sx lo hi a c:=⟨k.os.trans h.os,k.tape.trans h.tape,k.output.trans h.output,Nat.le_trans h.size k.size,fun q hq hd=>(k.oth q (Nat.lt_of_lt_of_le hq h.size) hd).trans (h.oth q hq hd)⟩
theorem Ut {lo hi g:Nat}(w:World)(j:Nat)(v:Value)(h1:lo≤g)(h2:g<hi):Sx lo hi w (w.setCell ⟨g,j,none⟩ v):=⟨rfl,rfl,rfl,by simp,fun q _ hd=>heap_setCell_other _ _ _ _ (by show q≠g; omega)⟩
theorem Jr {lo hi:Nat}{w w':World}(h:Below w.heap.size w w'):Sx lo hi w w':=⟨h.os,h.tape,h.output,h.size,fun q hq _=>h.block q hq⟩
theorem Mt (w:World)(d a:Nat)(v:Int):∀ k,(Uz w d a v k).os=w.os∧(Uz w d a v k).tape=w.tape∧(Uz w d a v k).output=w.output
 | 0=>⟨rfl,rfl,rfl⟩
 | k+1=>Mt w d a v k
theorem Zlc {lo hi d:Nat}(w:World)(a k:Nat)(v:Int)(h1:lo≤d)(h2:d<hi):Sx lo hi w (Uz w d a v k):=⟨(Mt w d a v k).1,(Mt w d a v k).2.1,(Mt w d a v k).2.2,Nat.le_of_eq (Oj w d a v k).symm,fun q _ hd=>Jc w d a v q (by omega) k⟩
section
variable {w0 V V':World} {x:Xk} {q lo hi lg bc sc oc:Nat} {bp sp op:Option Addr} {gs:List Nat} {B:Nat→Value}
theorem Mu (h:Gn w0 V x q lo hi lg bp sp op bc sc oc gs B)(hk:∀ g,lo≤g→g<hi→V'.heap[g]?=V.heap[g]?)(hz:V.heap.size≤V'.heap.size):Gn w0 V' x q lo hi lg bp sp op bc sc oc gs B :=
 ⟨h.ql,h.qh,h.gl,h.gh,h.gq,Nat.le_trans h.hs hz,(hk q h.ql h.qh).trans h.row,(hk lg h.gl h.gh).trans h.loc,Yq h.slo (fun g e=>hk g (World.ownsRow.lt h.slo g e).1 (h.sb g e)),h.sb,h.len,fun k hk2=>⟨(hk _ (h.each k hk2).2.1 (h.each k hk2).2.2).trans (h.each k hk2).1,(h.each k hk2).2⟩,h.inj,h.bls,h.blk,h.ous⟩
theorem Ji (h:Gn w0 V x q lo hi lg bp sp op bc sc oc gs B){g:Nat}{t:TypeId}{cs:Array Value}(hr:V.heap[g]?=some (.cells cs t (0,0)))(ht:178≠t):∀ b,(Value.slice sp x.s.length sc).ownBlock=some b→b≠g:=fun b e hb=>Xu h.slo hr ht (by rw [e,hb])
theorem Zs {V:World}{a b:Nat}{s t:TypeId}{c d:Array Value}(h:V.heap[a]?=some (.cells c s (0,0)))(k:V.heap[b]?=some (.cells d t (0,0)))(hne:s≠t):a≠b:=fun e=>by
 subst e;rw [h] at k;injection k with k;injection k with _ k _;exact hne k
theorem Zmq (h:Gn w0 V x q lo hi lg bp sp op bc sc oc gs B){j:Nat}{v:Value}{y:Xk}(hv:y.v=x.v)(hs:y.s=x.s)(ho:y.o=x.o)(hf:y.fn=x.fn)
 (hrow:(V.setCell ⟨q,j,none⟩ v).heap[q]?=some (.cells #[.slice bp x.fn.blocks.length bc,.int .i64 y.b,.int .i64 y.i,.slice (some ⟨lg,0,none⟩) x.v.length x.v.length,.slice sp x.s.length sc,.slice op x.o.length oc] 177 (0,0))):Gn w0 (V.setCell ⟨q,j,none⟩ v) y q lo hi lg bp sp op bc sc oc gs B:=by
 obtain⟨yf,yb,yi,yv,ys,yo⟩:=y;simp only at hv hs ho hf;subst hv hs ho hf;have ot:∀ g,g≠q→(V.setCell ⟨q,j,none⟩ v).heap[g]?=V.heap[g]?:=fun g hg=>heap_setCell_other _ _ _ _ hg;exact⟨h.ql,h.qh,h.gl,h.gh,h.gq,by simpa using h.hs,hrow,(ot _ h.gq).trans h.loc,Yq h.slo (fun g e=>ot g (Ji h h.row (by decide) g e)),h.sb,h.len,fun k hk=>⟨(ot _ (Zs (h.each k hk).1 h.row (by decide))).trans (h.each k hk).1,(h.each k hk).2⟩,h.inj,h.bls,h.blk,h.ous⟩
theorem Zpd (h:Gn w0 V x q lo hi lg bp sp op bc sc oc gs B)(n:Int):Gn w0 (V.setCell ⟨q,1,none⟩ (.int .i64 n)) { x with b:=n } q lo hi lg bp sp op bc sc oc gs B:=Zmq h rfl rfl rfl rfl (heap_setCell_same _ _ 1 _ _ _ h.row)
theorem Zmr (h:Gn w0 V x q lo hi lg bp sp op bc sc oc gs B)(n:Int):Gn w0 (V.setCell ⟨q,2,none⟩ (.int .i64 n)) { x with i:=n } q lo hi lg bp sp op bc sc oc gs B:=Zmq h rfl rfl rfl rfl (heap_setCell_same _ _ 2 _ _ _ h.row)
theorem Zad (h:Gn w0 V x q lo hi lg bp sp op bc sc oc gs B)(d:Nat)(n:Int):Gn w0 (V.setCell ⟨lg,d,none⟩ (.int .u64 n)) { x with v:=x.v.set d n } q lo hi lg bp sp op bc sc oc gs B:=by
 have ot:∀ g,g≠lg→(V.setCell ⟨lg,d,none⟩ (.int .u64 n)).heap[g]?=V.heap[g]?:=fun g hg=>heap_setCell_other _ _ _ _ hg;refine⟨h.ql,h.qh,h.gl,h.gh,h.gq,by simpa using h.hs,?_,?_,Yq h.slo (fun g e=>ot g (Ji h h.loc (by decide) g e)),h.sb,h.len,fun k hk=>⟨(ot _ (Zs (h.each k hk).1 h.loc (by decide))).trans (h.each k hk).1,(h.each k hk).2⟩,h.inj,h.bls,h.blk,h.ous⟩
 ·
  rw [show({ x with v:=x.v.set d n }:Xk).v.length=x.v.length by simp];exact(ot _ (Ne.symm h.gq)).trans h.row
 ·
  have:=heap_setCell_same _ _ d _ _ (.int .u64 n) h.loc;rw [Ziq] at this;exact this
theorem Oq (ss:List (List Int))(k:Nat)(l:List Int)(h:l.length=(ss.getD k []).length):(ss.set k l).map List.length=ss.map List.length:=by
 apply List.ext_getElem?
 intro j;rw [List.getElem?_map,List.getElem?_map,List.getElem?_set];by_cases hj:k=j
 ·
  subst hj;rw [if_pos rfl];by_cases hk:k<ss.length
  ·
   rw [if_pos hk,List.getElem?_eq_getElem hk];simp only [Option.map_some,h,List.getD,List.getElem?_eq_getElem hk,Option.getD_some]
  ·
   rw [if_neg hk,List.getElem?_eq_none (by omega)]
 ·
  rw [if_neg hj]
theorem Re (ss:List (List Int))(k j:Nat)(l:List Int)(hk:k<ss.length):(ss.set k l).getD j []=if j=k then l else ss.getD j []:=by
 by_cases hj:j=k
 ·
  subst hj;simp [List.getD,hk]
 ·
  simp [List.getD,Ne.symm hj,hj]
theorem Zms (h:Gn w0 V x q lo hi lg bp sp op bc sc oc gs B){j k:Nat}(hj:j<gs.length)(hk:k<gs.length)(hne:j≠k):gs.getD j 0≠gs.getD k 0:=by
 rcases Nat.lt_or_gt_of_ne hne with h1 | h1
 ·
  have:=h.inj j k h1 hk; omega
 ·
  have:=h.inj k j h1 hj; omega
theorem Znn (h:Gn w0 V x q lo hi lg bp sp op bc sc oc gs B)(k:Nat)(hk:k<x.s.length)(a kk:Nat)(v:Int):Gn w0 (Uz V (gs.getD k 0) a v kk) { x with s:=x.s.set k (Sd (x.s.getD k []) a kk v) } q lo hi lg bp sp op bc sc oc gs B:=by
 have hr:=(h.each k hk).1;have ot:∀ g,g≠gs.getD k 0→(Uz V (gs.getD k 0) a v kk).heap[g]?=V.heap[g]?:=fun g hg=>Jc V _ a v g hg kk;have hl:({ x with s:=x.s.set k (Sd (x.s.getD k []) a kk v) }:Xk).s.length=x.s.length:=by simp
 refine⟨h.ql,h.qh,h.gl,h.gh,h.gq,by rw [Oj]; exact h.hs,?_,(ot _ (Zs h.loc hr (by decide))).trans h.loc,?_,by rw [hl]; exact h.sb,by rw [hl]; exact h.len,fun j hj=>?_,h.inj,h.bls,h.blk,h.ous⟩
 ·
  rw [hl];exact(ot _ (Zs h.row hr (by decide))).trans h.row
 ·
  rw [hl,show({ x with s:=x.s.set k (Sd (x.s.getD k []) a kk v) }:Xk).s.map List.length=x.s.map List.length from Oq _ _ _ (Rc _ _ _ _)];exact Yq h.slo (fun g e=>ot g (Ji h hr (by decide) g e))
 ·
  rw [hl] at hj;show(Uz V (gs.getD k 0) a v kk).heap[gs.getD j 0]?=some (.cells (yC ((x.s.set k (Sd (x.s.getD k []) a kk v)).getD j [])).toArray _ _)∧_;rw [Re _ _ _ _ hk];by_cases he:j=k
  ·
   subst he;rw [if_pos rfl];exact⟨Rd V _ a v _ hr kk,(h.each j hj).2⟩
  ·
   rw [if_neg he];exact⟨(ot _ (Zms h (by rw [h.len]; exact hj) (by rw [h.len]; exact hk) he)).trans (h.each j hj).1,(h.each j hj).2⟩
theorem Yk (h:Gn w0 V x q lo hi lg bp sp op bc sc oc gs B)(hb:Below V.heap.size V V'):Gn w0 V' x q lo hi lg bp sp op bc sc oc gs B :=
 ⟨h.ql,h.qh,h.gl,h.gh,h.gq,Nat.le_trans h.hs hb.size,(hb.block q (Zd h.row)).trans h.row,(hb.block lg (Zd h.loc)).trans h.loc,Yq h.slo (fun g e=>hb.block g (World.ownsRow.lt h.slo g e).2),h.sb,h.len,fun k hk=>⟨(hb.block _ (Zd (h.each k hk).1)).trans (h.each k hk).1,(h.each k hk).2⟩,h.inj,h.bls,h.blk,h.ous⟩
end
theorem Zld {w0 V:World}{x:Xk}{q lo hi lg bc sc oc:Nat}{bp sp op:Option Addr}{gs:List Nat}{B:Nat→Value}(h:Gn w0 V x q lo hi lg bp sp op bc sc oc gs B){g:Nat}(hg:hi≤g)(cs:Array Value):Gn w0 (V.setRow g cs) x q lo hi lg bp sp op bc sc oc gs B :=
 Mu h (fun b _ h2=>setRow_other _ _ _ _ (by omega)) (by simp [World.setRow])
set_option maxHeartbeats 2000000 in
theorem Zdx (w0:World)(x:Xk)(q lo hi lg:Nat)(bp sp op:Option Addr)(bc sc oc:Nat)(gs:List Nat)(B:Nat→Value)(n:Int)(w:World)(h:Gn w0 w x q lo hi lg bp sp op bc sc oc gs B) :
 Calls Tryz.prog 87 #[.pointer (some ⟨q,0,none⟩),.int .i64 n] w fun e w'=>(∃ v,e=.returned v)∧Gn w0 w' { x with b:=n,i:=0 } q lo hi lg bp sp op bc sc oc gs B∧Sx lo hi w w':=by
 have c1:=cR h.row 1;have z1:=frozen_of_row _ _ 1 _ _ h.row;have h1:=Zpd h n;have c2:=cR h1.row 2;have z2:=frozen_of_row _ _ 2 _ _ h1.row;have HX:=J (show Gn w0 ((w.setCell ⟨q,1,none⟩ (.int .i64 n)).setCell ⟨q,2,none⟩ (.int .i64 0)) { x with b:=n,i:=0 } q lo hi lg bp sp op bc sc oc gs B from Zmr h1 0);have HO:=J (Xi (Ut (lo:=lo) (hi:=hi) w 1 (.int .i64 n) h.ql h.qh) (Ut _ 2 (.int .i64 0) h.ql h.qh));clear h h1;go_enter Tryz.func87,Tryz.ntmps87
 go_wp2;go_returns;exact⟨⟨_,rfl⟩,G HX,G HO⟩
set_option maxHeartbeats 4000000 in
set_option maxRecDepth 100000 in
theorem Zno (w0:World)(x:Xk)(q lo hi lg:Nat)(bp sp op:Option Addr)(bc sc oc:Nat)(gs:List Nat)(B:Nat→Value)(i:Zw)(xap xop:Option Addr)(xan xac xon xoc:Nat)(d:Nat)(t:Int)(w:World)(h:Gn w0 w x q lo hi lg bp sp op bc sc oc gs B)(hd:i.d=d)(hdl:d<x.v.length)(ht:t=if x.v.getD d 0=0 then i.bb else i.a) :
 Calls Tryz.prog 88 #[.pointer (some ⟨q,0,none⟩),.agg #[.int .i64 i.op,.int .i64 i.d,.int .i64 i.a,.int .i64 i.bb,.int .u64 i.n,.int .i64 i.f,.slice xap xan xac,.slice xop xon xoc]] w fun e w'=>(∃ v,e=.returned v)∧Gn w0 w' { x with b:=t,i:=0 } q lo hi lg bp sp op bc sc oc gs B∧Sx lo hi w w':=by
 obtain⟨r0,hb,hz⟩:=Yj w (.cells #[.int .i64 i.op,.int .i64 i.d,.int .i64 i.a,.int .i64 i.bb,.int .u64 i.n,.int .i64 i.f,.slice xap xan xac,.slice xop xon xoc] 65 (0,0));have hW:=Yk h hb;have HO:=J (Jr (lo:=lo) (hi:=hi) hb);have HR:=J r0;have hlt:=Zd r0;have HW:=J hW;have HD:=J hd;have HTT:=J ht;clear h r0 hb hW hd ht;go_enter Tryz.func88,Tryz.ntmps88
 go_upto_region 1 with fail
 generalize World.alloc w _=W at HW HO HR hlt hz ⊢;have c3:=cR (G HW).row 3;have i1:W.cell? ⟨w.heap.size,1,none⟩=some (.int .i64 (d:Int)):=by rw [← G HD]; exact(cR (G HR) 1)
 have v0:W.cell? ⟨lg,d,none⟩=some (.int .u64 (x.v.getD d 0)):=(Zi (G HW).loc d).trans (by simp [uC,List.getD,hdl]);by_cases hv:x.v.getD d 0=0
 ·
  have HIF:=J (show t=i.bb by rw [G HTT,if_pos hv]);rw [hv] at v0;go_quiet (fail)
  generalize hX:World.drewN W _=U;have hBU:Below W.heap.size W U:=by rw [← hX]; exact Zk (Below.refl _ _) _
  have i3:=cR ((hBU.block _ hlt).trans (G HR)) 3;have HC:=J (Zdx w0 x q lo hi lg bp sp op bc sc oc gs B i.bb U (Yk (G HW) hBU));have HO2:=J (Xi (G HO) (Jr hBU));clear hX hBU c3 i1 v0 hv;go_wp2_with fail
  refine(G HC).mono ?_;rintro e w2 ⟨⟨v,rfl⟩,hF,ho⟩;have HF:=J hF;have HO3:=J (Xi (G HO2) ho);clear hF ho HC;go_wp2;go_returns;exact⟨⟨_,rfl⟩,by rw [G HIF]; exact G HF,G HO3⟩
 ·
  have hz0:(x.v.getD d 0 != 0)=true:=by simpa using hv
  have HIF:=J (show t=i.a by rw [G HTT,if_neg hv]);obtain⟨y,hy⟩:∃ y,y=x.v.getD d 0:=⟨_,rfl⟩;rw [← hy] at v0 hz0;clear hy;clear hv;go_quiet (fail)
  generalize hX:World.drewN W _=U;have hBU:Below W.heap.size W U:=by rw [← hX]; exact Zk (Below.refl _ _) _
  have i2:=cR ((hBU.block _ hlt).trans (G HR)) 2;have HC:=J (Zdx w0 x q lo hi lg bp sp op bc sc oc gs B i.a U (Yk (G HW) hBU));have HO2:=J (Xi (G HO) (Jr hBU));clear hX hBU c3 i1 v0;go_wp2_with fail
  refine(G HC).mono ?_;rintro e w2 ⟨⟨v,rfl⟩,hF,ho⟩;have HF:=J hF;have HO3:=J (Xi (G HO2) ho);clear hF ho HC;go_wp2;go_returns;exact⟨⟨_,rfl⟩,by rw [G HIF]; exact G HF,G HO3⟩
theorem Yu {α:Type}(l:List α)(d:α)(k:Nat)(h:k<l.length):l.getD k d=l[k]:=by simp [List.getD,h]
theorem Tryz.infInsI:(Tryz.prog.info? 65).map (·.size)=some 8:=by kernel_rfl
def FtS (q bb bo ib io:Nat)(R:Array Value)(bv:Value)(I:Array Value)(V:World):Prop :=
 V.heap[q]?=some (.cells R 177 (0,0))∧V.cell? ⟨bb,bo,none⟩=some bv∧∀ j y,I[j]?=some y→V.cell? ⟨ib,io+j,none⟩=some y
theorem Ny {q bb bo ib io:Nat}{R I:Array Value}{bv:Value}{V V':World}(h:FtS q bb bo ib io R bv I V)(hb:Below V.heap.size V V'):FtS q bb bo ib io R bv I V':=by
 obtain⟨h0,h1,h2⟩:=h;exact⟨(hb.block _ (Zd h0)).trans h0,(hb.cell (World.block_lt_of_cell? V _ h1)).trans h1,fun j y hy=>(hb.cell (World.block_lt_of_cell? V _ (h2 j y hy))).trans (h2 j y hy)⟩
set_option maxHeartbeats 4000000 in
set_option maxRecDepth 100000 in
theorem Zle (w0:World)(x:Xk)(q lo hi lg:Nat)(bp sp op:Option Addr)(bc sc oc:Nat)(gs:List Nat)(B:Nat→Value)(bn nx:Nat)(w:World)(h:Gn w0 w x q lo hi lg bp sp op bc sc oc gs B)(hbw:Below w0.heap.size w0 w)(hb:x.b=bn)(hi_:x.i=nx)(hbl:bn<x.fn.blocks.length)(hnl:nx<(x.fn.blocks.getD bn []).length)(hsm:x.fn.blocks.length≤12)(hsk:(x.fn.blocks.getD bn []).length≤24) :
 Calls Tryz.prog 82 #[.pointer (some ⟨q,0,none⟩)] w fun e w'=>∃ xap xac xop xoc,e=.returned (.agg #[.int .i64 (Zo x).op,.int .i64 (Zo x).d,.int .i64 (Zo x).a,.int .i64 (Zo x).bb,.int .u64 (Zo x).n,.int .i64 (Zo x).f,.slice xap (Zo x).args.length xac,.slice xop (Zo x).outs.length xoc])∧LS 2 w0 (.slice xap (Zo x).args.length xac) (Zo x).args.length (fun k=>Yz ((Zo x).args.getD k (0,0)))∧Li w0 (.slice xop (Zo x).outs.length xoc) (Zo x).outs∧Gn w0 w' (Zp x) q lo hi lg bp sp op bc sc oc gs B∧Sx lo hi w w':=by
 have hins:Zo x=(x.fn.blocks.getD bn []).getD nx Lt:=by unfold Zo; rw [hb,hi_]; rfl
 have hnxt:Zp x={ x with i:=(nx:Int)+1 }:=by unfold Zp; rw [hi_]
 obtain⟨bp',bcap,hbe,-,-,hbc⟩:=h.bls.ones;injection hbe with e1 e2 e3;subst e1 e3;obtain⟨bb,bo,hbp,hbcell⟩:=hbc (by omega);subst hbp;obtain⟨IA,hIL,hIE⟩:=h.blk bn hbl;have hge:x.fn.blocks.getD bn []=x.fn.blocks[bn]:=Yu _ _ _ hbl;rw [hge] at hnl hins hsk;obtain⟨ip,ic,hBk⟩:=hIL.shape;rw [hBk] at hIL;obtain⟨ip',ic',hie,-,-,hicell⟩:=hIL;injection hie with f1 f2 f3;subst f1 f3;obtain⟨isb,iso,hip,-,hic2⟩:=hicell (by omega);subst hip;have hrg:=hic2 nx hnl;obtain⟨av,ov,hIA,hxa,hxo⟩:=hIE nx hnl;have hgi:(x.fn.blocks[bn]).getD nx Lt=(x.fn.blocks[bn])[nx]:=Yu _ _ _ hnl;rw [hgi] at hins;have hc1:=hbcell bn hbl;rw [hBk] at hc1;generalize hbk:x.fn.blocks[bn]=bk at *;generalize hii:bk[nx]=i at *;obtain⟨xap,xac,rfl⟩:=hxa.shape;obtain⟨xop,xoc,rfl⟩:=hxo.shape;rw [hIA] at hrg;have hrow:=h.row;rw [hb,hi_] at hrow;have HS0:=J (show FtS q bb (bo+bn) isb (iso+nx*8) #[.slice (some ⟨bb,bo,none⟩) x.fn.blocks.length bc,.int .i64 (bn:Int),.int .i64 (nx:Int),.slice (some ⟨lg,0,none⟩) x.v.length x.v.length,.slice sp x.s.length sc,.slice op x.o.length oc] (.slice (some ⟨isb,iso,none⟩) bk.length ic) #[.int .i64 i.op,.int .i64 i.d,.int .i64 i.a,.int .i64 i.bb,.int .u64 i.n,.int .i64 i.f,.slice xap i.args.length xac,.slice xop i.outs.length xoc] w from⟨hrow,(hbw.cell (World.block_lt_of_cell? _ _ hc1)).trans hc1,fun j y hy=>by
  have:=hrg j y (by simpa using hy);exact(hbw.cell (World.block_lt_of_cell? _ _ this)).trans this⟩)
 have HXA:=J hxa;have HXO:=J hxo;have H:=J h;have HNX:=J hnxt;have hqw:=Zd h.row;rw [hins];obtain⟨r0,hb0,hz0⟩:=Yj w (.cells #[.int .i64 0,.int .i64 0,.int .i64 0,.int .i64 0,.int .u64 0,.int .i64 0,.slice none 0 0,.slice none 0 0] 65 (0,0));have HR0:=J r0;have HB0:=J hb0;clear h hbw hb hi_ hins hnxt hbc hbcell hIE hge hBk hicell hic2 hrg hIA hxa hxo hgi hc1 hrow hbk hii r0 hb0 e2 f2;go_enter Tryz.func82,Tryz.ntmps82
 go_upto_region 1 with fail
 generalize World.alloc w _=W at HR0 HB0 hz0 ⊢;have HZ0:=J hz0;clear hz0;have HSW:=J (Ny (Ny (G HS0) (G HB0)) (Below.refl _ _).drew);refine wp_region_held_drew (S:=FtS q bb (bo+bn) isb (iso+nx*8) #[.slice (some ⟨bb,bo,none⟩) x.fn.blocks.length bc,.int .i64 (bn:Int),.int .i64 (nx:Int),.slice (some ⟨lg,0,none⟩) x.v.length x.v.length,.slice sp x.s.length sc,.slice op x.o.length oc] (.slice (some ⟨isb,iso,none⟩) bk.length ic) #[.int .i64 i.op,.int .i64 i.d,.int .i64 i.a,.int .i64 i.bb,.int .u64 i.n,.int .i64 i.f,.slice xap i.args.length xac,.slice xop i.outs.length xoc]) (by kernel_rfl) (G HSW) (fun hHeld=>?_);refine wpAnyH_take (i:=0) (v:=?v0) rfl (by kernel_rfl) (by kernel_rfl) (by kernel_rfl) (fun _ _ _ h=>h) (Or.inl ⟨by rfl,?hy0⟩) (by assumption) ?_;case hy0 =>
  intro V hV;obtain⟨g0,g1,g2⟩:=hV;clear g0 g1 g2;go_simp;all_goals (with_reducible rfl)
 simp only [Act.put,zA,zB,zC,zD,zE];refine wpAnyH_take (i:=1) (v:=?v1) rfl (by kernel_rfl) (by kernel_rfl) (by kernel_rfl) (fun _ _ _ h=>h) (Or.inl ⟨by rfl,?hy1⟩) (by assumption) ?_;case hy1 =>
  intro V hV;obtain⟨g0,g1,g2⟩:=hV;clear g0 g1 g2;go_simp;all_goals (with_reducible rfl)
 simp only [Act.put,zA,zB,zC,zD,zE,zF];refine wpAnyH_take (i:=2) (v:=?v2) rfl (by kernel_rfl) (by kernel_rfl) (by kernel_rfl) (fun _ _ _ h=>h) (Or.inl ⟨by rfl,?hy2⟩) (by assumption) ?_;case hy2 =>
  intro V hV;obtain⟨g0,g1,g2⟩:=hV;clear g0 g1 g2;go_simp;all_goals (with_reducible rfl)
 simp only [Act.put,zA,zB,zC,zD,zE,zF];refine wpAnyH_take (i:=3) (v:=?v3) rfl (by kernel_rfl) (by kernel_rfl) (by kernel_rfl) (fun _ _ _ h=>h) (Or.inl ⟨by rfl,?hy3⟩) (by assumption) ?_;case hy3 =>
  intro V hV;obtain⟨g0,g1,g2⟩:=hV;have c0:=cR g0 0;clear g0 g1 g2;go_simp;all_goals (with_reducible rfl)
 simp only [Act.put,zA,zB,zC,zD,zE,zF];refine wpAnyH_take (i:=4) (v:=?v4) rfl (by kernel_rfl) (by kernel_rfl) (by kernel_rfl) (fun _ _ _ h=>h) (Or.inl ⟨by rfl,?hy4⟩) (by assumption) ?_;case hy4 =>
  intro V hV;obtain⟨g0,g1,g2⟩:=hV;clear g0 g1 g2;go_simp;all_goals (with_reducible rfl)
 simp only [Act.put,zA,zB,zC,zD,zE,zF];refine wpAnyH_take (i:=5) (v:=?v5) rfl (by kernel_rfl) (by kernel_rfl) (by kernel_rfl) (fun _ _ _ h=>h) (Or.inl ⟨by rfl,?hy5⟩) (by assumption) ?_;case hy5 =>
  intro V hV;obtain⟨g0,g1,g2⟩:=hV;clear g0 g1 g2;go_simp;all_goals (with_reducible rfl)
 simp only [Act.put,zA,zB,zC,zD,zE,zF];refine wpAnyH_take (i:=6) (v:=?v6) rfl (by kernel_rfl) (by kernel_rfl) (by kernel_rfl) (fun _ _ _ h=>h) (Or.inl ⟨by rfl,?hy6⟩) (by assumption) ?_;case hy6 =>
  intro V hV;obtain⟨g0,g1,g2⟩:=hV;clear g0 g1 g2;go_simp;all_goals (with_reducible rfl)
 simp only [Act.put,zA,zB,zC,zD,zE,zF];refine wpAnyH_take (i:=7) (v:=?v7) rfl (by kernel_rfl) (by kernel_rfl) (by kernel_rfl) (fun _ _ _ h=>h) (Or.inl ⟨by rfl,?hy7⟩) (by assumption) ?_;case hy7 =>
  intro V hV;obtain⟨g0,g1,g2⟩:=hV;have c1:=cR g0 1;clear g0 g1 g2;go_simp;all_goals (with_reducible rfl)
 simp only [Act.put,zA,zB,zC,zD,zE,zF];refine wpAnyH_take (i:=8) (v:=?v8) rfl (by kernel_rfl) (by kernel_rfl) (by kernel_rfl) (fun _ _ _ h=>h) (Or.inl ⟨by rfl,?hy8⟩) (by assumption) ?_;case hy8 =>
  intro V hV;obtain⟨g0,g1,g2⟩:=hV;clear g0 g1 g2;go_simp;all_goals (with_reducible rfl)
 simp only [Act.put,zA,zB,zC,zD,zE,zF];refine wpAnyH_take (i:=9) (v:=?v9) rfl (by kernel_rfl) (by kernel_rfl) (by kernel_rfl) (fun _ _ _ h=>h) (Or.inl ⟨by rfl,?hy9⟩) (by assumption) ?_;case hy9 =>
  intro V hV;obtain⟨g0,g1,g2⟩:=hV;have d:=g1;clear g0 g1 g2;go_simp;all_goals (with_reducible rfl)
 simp only [Act.put,zA,zB,zC,zD,zE,zF];refine wpAnyH_take (i:=10) (v:=?v10) rfl (by kernel_rfl) (by kernel_rfl) (by kernel_rfl) (fun _ _ _ h=>h) (Or.inl ⟨by rfl,?hy10⟩) (by assumption) ?_;case hy10 =>
  intro V hV;obtain⟨g0,g1,g2⟩:=hV;clear g0 g1 g2;go_simp;all_goals (with_reducible rfl)
 simp only [Act.put,zA,zB,zC,zD,zE,zF];refine wpAnyH_take (i:=11) (v:=?v11) rfl (by kernel_rfl) (by kernel_rfl) (by kernel_rfl) (fun _ _ _ h=>h) (Or.inl ⟨by rfl,?hy11⟩) (by assumption) ?_;case hy11 =>
  intro V hV;obtain⟨g0,g1,g2⟩:=hV;clear g0 g1 g2;go_simp;all_goals (with_reducible rfl)
 simp only [Act.put,zA,zB,zC,zD,zE,zF];refine wpAnyH_take (i:=12) (v:=?v12) rfl (by kernel_rfl) (by kernel_rfl) (by kernel_rfl) (fun _ _ _ h=>h) (Or.inl ⟨by rfl,?hy12⟩) (by assumption) ?_;case hy12 =>
  intro V hV;obtain⟨g0,g1,g2⟩:=hV;clear g0 g1 g2;go_simp;all_goals (with_reducible rfl)
 simp only [Act.put,zA,zB,zC,zD,zE,zF];refine wpAnyH_take (i:=13) (v:=?v13) rfl (by kernel_rfl) (by kernel_rfl) (by kernel_rfl) (fun _ _ _ h=>h) (Or.inl ⟨by rfl,?hy13⟩) (by assumption) ?_;case hy13 =>
  intro V hV;obtain⟨g0,g1,g2⟩:=hV;have c2:=cR g0 2;clear g0 g1 g2;go_simp;all_goals (with_reducible rfl)
 simp only [Act.put,zA,zB,zC,zD,zE,zF];refine wpAnyH_take (i:=14) (v:=?v14) rfl (by kernel_rfl) (by kernel_rfl) (by kernel_rfl) (fun _ _ _ h=>h) (Or.inl ⟨by rfl,?hy14⟩) (by assumption) ?_;case hy14 =>
  intro V hV;obtain⟨g0,g1,g2⟩:=hV;clear g0 g1 g2;go_simp;all_goals (with_reducible rfl)
 simp only [Act.put,zA,zB,zC,zD,zE,zF];refine wpAnyH_take (i:=15) (v:=?v15) rfl (by kernel_rfl) (by kernel_rfl) (by kernel_rfl) (fun _ _ _ h=>h) (Or.inl ⟨by rfl,?hy15⟩) (by assumption) ?_;case hy15 =>
  intro V hV;obtain⟨g0,g1,g2⟩:=hV;have c0:=g2 0 _ rfl;have c1:=g2 1 _ rfl;have c2:=g2 2 _ rfl;have c3:=g2 3 _ rfl;have c4:=g2 4 _ rfl;have c5:=g2 5 _ rfl;have c6:=g2 6 _ rfl;have c7:=g2 7 _ rfl;rw [Nat.add_zero] at c0;clear g0 g1 g2;go_simp;all_goals (with_reducible rfl)
 simp only [Act.put,zA,zB,zC,zD,zE,zF];refine tO 16 fun K hK=>?_;go_simp;obtain⟨r1,hb1,hz1⟩:=Yj W.drew (.cells #[.int .i64 0,.int .i64 0,.int .i64 0,.int .i64 0,.int .u64 0,.int .i64 0,.slice none 0 0,.slice none 0 0] 65 (0,0));have HR1:=J r1;have HB1:=J hb1;have hz1':(W.drew.alloc (.cells #[.int .i64 0,.int .i64 0,.int .i64 0,.int .i64 0,.int .u64 0,.int .i64 0,.slice none 0 0,.slice none 0 0] 65 (0,0))).heap.size=W.heap.size+1:=hz1;clear r1 hb1 hz1;refine hK.out _ _ (Ny (G HSW) (G HB1)) (fun hHeld2=>?_);clear hK K;try simp only [Act.put,zA,zB,zC,zD,zE,zF]
 refine tO 17 fun K hK=>?_;rw [if_pos (by rfl)];refine wp_store_row 65 _ _ rfl W.heap.size #[.int .i64 i.op,.int .i64 i.d,.int .i64 i.a,.int .i64 i.bb,.int .u64 i.n,.int .i64 i.f,.slice xap i.args.length xac,.slice xop i.outs.length xoc] rfl rfl 65 _ (G HR1) (Tryz.infInsI.trans rfl) rfl (by simp [Value.oneCell']) ?_;have HR2:=J (show((W.alloc (.cells #[.int .i64 0,.int .i64 0,.int .i64 0,.int .i64 0,.int .u64 0,.int .i64 0,.slice none 0 0,.slice none 0 0] 65 (0,0))).drew.setRow W.heap.size #[.int .i64 i.op,.int .i64 i.d,.int .i64 i.a,.int .i64 i.bb,.int .u64 i.n,.int .i64 i.f,.slice xap i.args.length xac,.slice xop i.outs.length xoc]).heap[W.heap.size]?=some (.cells #[.int .i64 i.op,.int .i64 i.d,.int .i64 i.a,.int .i64 i.bb,.int .u64 i.n,.int .i64 i.f,.slice xap i.args.length xac,.slice xop i.outs.length xoc] 65 (0,0)) from setRow_heap _ _ _ #[.int .i64 i.op,.int .i64 i.d,.int .i64 i.a,.int .i64 i.bb,.int .u64 i.n,.int .i64 i.f,.slice xap i.args.length xac,.slice xop i.outs.length xoc] _ _ (G HR1));have HB2:=J (show Below W.drew.heap.size W.drew ((W.alloc (.cells #[.int .i64 0,.int .i64 0,.int .i64 0,.int .i64 0,.int .u64 0,.int .i64 0,.slice none 0 0,.slice none 0 0] 65 (0,0))).drew.setRow W.heap.size #[.int .i64 i.op,.int .i64 i.d,.int .i64 i.a,.int .i64 i.bb,.int .u64 i.n,.int .i64 i.f,.slice xap i.args.length xac,.slice xop i.outs.length xoc]) from Zh (T:=W.drew.heap.size) (cs:=#[.int .i64 i.op,.int .i64 i.d,.int .i64 i.a,.int .i64 i.bb,.int .u64 i.n,.int .i64 i.f,.slice xap i.args.length xac,.slice xop i.outs.length xoc]) (G HB1) (Nat.le_refl _))
 refine hK.out _ _ (Ny (G HSW) (G HB2)) (fun hHeld2=>?_);clear hK K hHeld hHeld2;try simp only [Act.put]
 refine wpAnyH_done (by kernel_rfl) ?_ _;generalize World.setRow (World.drew (World.alloc W _)) _ _=V3 at HR2 HB2 ⊢;have hBW:Below W.heap.size W V3:=Za (Below.refl W.heap.size W).drew (G HB2) (Nat.le_refl _);have hz0:=G HZ0;have hBw3:=Za (G HB0) hBW (by omega);have hF3:=Yk (G H) hBw3;have c2:V3.cell? ⟨q,2,none⟩=some (.int .i64 (nx:Int)):=by have:=(Ny (G HSW) (G HB2)).1; exact(cR this 2)
 have z2:=frozen_of_row _ _ 2 _ _ hF3.row;have hRT:V3.heap[w.heap.size]?=some (.cells #[.int .i64 0,.int .i64 0,.int .i64 0,.int .i64 0,.int .u64 0,.int .i64 0,.slice none 0 0,.slice none 0 0] 65 (0,0)):=(hBW.block _ (by omega)).trans (G HR0);have hF4:=Zmr hF3 ((nx:Int)+1);rw [← G HNX] at hF4;have HF4:=J hF4;have hqne:W.heap.size≠q:=by omega
 have hqn2:w.heap.size≠q:=by omega
 have hR4:=(heap_setCell_other V3 ⟨q,2,none⟩ W.heap.size (.int .i64 ((nx:Int)+1)) hqne).trans (G HR2);have hT4:=(heap_setCell_other V3 ⟨q,2,none⟩ w.heap.size (.int .i64 ((nx:Int)+1)) hqn2).trans hRT;have HO4:=J (Xi (Jr (lo:=lo) (hi:=hi) hBw3) (Ut V3 2 (.int .i64 ((nx:Int)+1)) (G H).ql (G H).qh));have HT4:=J hT4;clear hz0;clear hBW hBw3 hF3 hF4 HR2 HB2 hRT HSW HS0 HR1 HB1;go_upto_region 3 with fail
 clear c2 z2;generalize World.setCell V3 _ _=V4 at HF4 hR4 HT4 HO4 ⊢;have i0:=cR hR4 0;have i1:=cR hR4 1;have i2:=cR hR4 2;have i3:=cR hR4 3;have i4:=cR hR4 4;have i5:=cR hR4 5;have i6:=cR hR4 6;have i7:=cR hR4 7;have hlt4:=Zd (G HT4);go_wp2_with (refine wpList_store_row rfl 65 _ _ rfl w.heap.size #[.int .i64 i.op,.int .i64 i.d,.int .i64 i.a,.int .i64 i.bb,.int .u64 i.n,.int .i64 i.f,.slice xap i.args.length xac,.slice xop i.outs.length xoc] rfl rfl 65 _ (G HT4) (Tryz.infInsI.trans rfl) rfl (by simp [Value.oneCell']) ?_)
 refine bodyPost_ret (Jp (fn:=Tryz.f82) (q:=2) (uy:=65) rfl _ _ w.heap.size 65 #[.int .i64 i.op,.int .i64 i.d,.int .i64 i.a,.int .i64 i.bb,.int .u64 i.n,.int .i64 i.f,.slice xap i.args.length xac,.slice xop i.outs.length xoc] (0,0) _ rfl (setRow_heap _ _ _ _ _ _ (G HT4)) Tryz.underlying65 rfl (Tryz.infInsI.trans rfl)) rfl ?_;have hF:=G HF4;have hO:=G HO4;have hz0:=G HZ0;refine⟨xap,xac,xop,xoc,rfl,G HXA,G HXO,Zld hF (by have:=(G H).hs; omega) _,⟨hO.os,hO.tape,hO.output,by have:=hO.size; simpa [World.setRow] using this,fun g hg hd=>(setRow_other _ _ _ _ (by omega)).trans (hO.oth g hg hd)⟩⟩
def isW (n:Int):Bool:=n==1||n==2||n==4||n==8
theorem Rr (n:Int):isW n=true↔n=1∨n=2∨n=4∨n=8:=by unfold isW; simp; omega
set_option maxHeartbeats 400000 in
theorem Zhh (n:Int)(w:World):Calls Tryz.prog 117 #[.int .i64 n] w fun e w'=>e=.returned (.bool (isW n))∧w'=w:=by
 by_cases h1:n=1
 ·
  subst h1; go_enter Tryz.func117,Tryz.ntmps117; go_wp2; go_ret; exact⟨rfl,rfl⟩
 by_cases h2:n=2
 ·
  subst h2; go_enter Tryz.func117,Tryz.ntmps117; go_wp2; go_ret; exact⟨rfl,rfl⟩
 by_cases h4:n=4
 ·
  subst h4; go_enter Tryz.func117,Tryz.ntmps117; go_wp2; go_ret; exact⟨rfl,rfl⟩
 by_cases h8:n=8
 ·
  subst h8; go_enter Tryz.func117,Tryz.ntmps117; go_wp2; go_ret; exact⟨rfl,rfl⟩
 have e1:(n==1)=false:=by simp [h1]
 have e2:(n==2)=false:=by simp [h2]
 have e4:(n==4)=false:=by simp [h4]
 have e8:(n==8)=false:=by simp [h8]
 have e:isW n=false:=by simp [isW,h1,h2,h4,h8]
 rw [e]; clear e;go_enter Tryz.func117,Tryz.ntmps117; go_wp2; go_ret; exact⟨rfl,rfl⟩
set_option maxHeartbeats 400000 in
theorem Zil (p:Option Addr)(n:Nat)(a k:Int)(w:World)(hn:n≤65536)(hw:isW k=true)(ha0:0≤a)(hak:a+k≤n):Calls Tryz.prog 115 #[.slice p n n,.int .i64 a,.int .i64 k] w fun e w'=>e=.returned .nilIface∧w'=w:=by
 have hk:=(Rr k).1 hw;have hk1:1≤k:=by omega
 have hk8:k≤8:=by omega
 clear hk;have ha:¬ a<0:=by omega
 have hs:¬ (n:Int)-k<a:=by omega
 go_enter Tryz.func115,Tryz.ntmps115
 go_wp2_with (go_at_call 117; refine(Zhh _ _).mono ?_; rintro e w' ⟨rfl,rfl⟩)
 go_ret;exact⟨rfl,rfl⟩
set_option maxHeartbeats 400000 in
theorem Zlb (d n:Nat)(m:Nat→Int)(a k:Nat)(w:World)(hn:n≤65536)(hk8:k≤8)(hak:a+k≤n)(hww:isW k=true)(hc:∀ i,i<n→w.cell? ⟨d,i,none⟩=some (.int .u8 (m i)))(hm:∀ i,0≤m i∧m i<256) :
 Calls Tryz.prog 104 #[.slice (some ⟨d,0,none⟩) n n,.int .i64 a,.int .i64 k] w fun e w'=>e=.returned (.tuple #[.int .u64 (ldv m a k),.nilIface])∧w'=w:=by
 have hl:=Zil (some ⟨d,0,none⟩) n a k w hn hww (by omega) (by omega);have HL:=Zdf hl;have HM:=Zdf hm;have HC:=Zdf hc;clear hl hww hm hc;go_enter Tryz.func104,Tryz.ntmps104
 go_wp2_with (go_at_call 115; refine(Uq HL).mono ?_; rintro e w' ⟨rfl,rfl⟩)
 go_loop [9,10] (fun v i=>∃ j:Nat,j≤k∧i=.int .i64 ((j:Int)-1)∧v=.int .u64 (ldv m (a+j) (k-j))) (fun _ i=>(intOf i+1).toNat)
 case atStart=>exact⟨k,Nat.le_refl _,rfl,by simp [ldv]⟩
 case round =>
  obtain⟨j,hj,rfl,rfl⟩:=hrel;cases j with
  | zero =>
   have HE:=Zdf (show ldv m (a+0) (k-0)=ldv m a k from rfl);go_wp2;go_ret2;exact⟨rfl,rfl⟩
  | succ j =>
   have hcx:=Uq HC (a+j) (by omega);have hmx:=Uq HM (a+j);have hb:=Zbs (Uq HM) (k-(j+1)) (a+(j+1));have hp:=Zhi (k-(j+1)) (by omega);have hb2:ldv m (a+(j+1)) (k-(j+1))<72057594037927936:=by omega
   clear hp;obtain⟨hb0,-⟩:=hb;have HO:=Zdf (or8 _ _ hb0 hb2 hmx.1 hmx.2);go_wp2;go_round
   case rel =>
    refine⟨j,by omega,rfl,?_⟩;rw [Uq HO,show k-j=(k-(j+1))+1 by omega];rfl
   case measure=>simp [intOf]
set_option maxHeartbeats 400000 in
theorem Zim (d n:Nat)(m:Nat→Int)(a k:Nat)(v:Int)(w:World)(hn:n≤65536)(hk8:k≤8)(hak:a+k≤n)(hww:isW k=true)(hc:∀ i,i<n→w.cell? ⟨d,i,none⟩=some (.int .u8 (m i)))(hf:∀ i,i<n→w.frozen? ⟨d,i,none⟩=false) :
 Calls Tryz.prog 103 #[.slice (some ⟨d,0,none⟩) n n,.int .i64 a,.int .i64 k,.int .u64 v] w fun e w'=>e=.returned .nilIface∧w'=Uz w d a v k:=by
 have hl:=Zil (some ⟨d,0,none⟩) n a k w hn hww (by omega) (by omega);have HL:=Zdf hl;have HF:=Zdf hf;have HC:=Zdf hc;clear hl hww hf hc;go_enter Tryz.func103,Tryz.ntmps103
 go_wp2_with (go_at_call 115; refine(Uq HL).mono ?_; rintro e w' ⟨rfl,hw'⟩; subst hw')
 go_loopw [19] (fun i wr=>∃ j:Nat,j≤k∧i=.int .i64 j∧wr=Uz w' d a v j) (fun i _=>k-(intOf i).toNat)
 case atStart=>exact⟨0,by omega,rfl,rfl⟩
 case round =>
  obtain⟨j,hj,rfl,rfl⟩:=hrel;by_cases hlt:j<k
  ·
   have hcx:=Zdh w' d a v n m (Uq HC) j (by omega) (a+j) (by omega);have hfx:=(Cu w' d a v ⟨d,a+j,none⟩ j).trans (Uq HF (a+j) (by omega));go_wp2;go_roundw
   case rel=>exact⟨j+1,hlt,by go_num,by rw [Zmm]; rfl⟩
   case measure=>simp [intOf]; omega
  ·
   obtain rfl:j=k:=by omega
   go_wp2;go_ret;exact⟨rfl,rfl⟩
theorem Zfj (bs:List Int)(g a k:Nat)(w:World)(hr:w.heap[g]?=some (.cells (yC bs).toArray 5 (0,0)))(hb:∀ n ∈ bs,0≤n∧n<256)(hk:isW k=true)(hak:a+k≤bs.length)(hn:bs.length≤65536) :
 Calls Tryz.prog 104 #[.slice (some ⟨g,0,none⟩) bs.length bs.length,.int .i64 a,.int .i64 k] w fun e w'=>e=.returned (.tuple #[.int .u64 (Ns bs a k),.nilIface])∧w'=w :=
 Zlb g bs.length (fun i=>bs.getD i 0) a k w hn (by have:=(Rr k).1 hk; omega) hak hk (fun i hi=>(Zi hr i).trans (Zax hi)) (Rb hb)
theorem Zcn (bs:List Int)(g a k:Nat)(v:Int)(w:World)(hr:w.heap[g]?=some (.cells (yC bs).toArray 5 (0,0)))(hk:isW k=true)(hak:a+k≤bs.length)(hn:bs.length≤65536) :
 Calls Tryz.prog 103 #[.slice (some ⟨g,0,none⟩) bs.length bs.length,.int .i64 a,.int .i64 k,.int .u64 v] w fun e w'=>e=.returned .nilIface∧w'=Uz w g a v k :=
 Zim g bs.length (fun i=>bs.getD i 0) a k v w hn (by have:=(Rr k).1 hk; omega) hak hk (fun i hi=>(Zi hr i).trans (Zax hi)) (fun i _=>frozen_of_row _ _ i _ _ hr)
theorem Mm {w0 V:World}{x:Xk}{q lo hi lg bc sc oc:Nat}{bp sp op:Option Addr}{gs:List Nat}{B:Nat→Value}(h:Gn w0 V x q lo hi lg bp sp op bc sc oc gs B){k:Nat}(hk:k<x.s.length):∃ s0,sp=some ⟨s0,0,none⟩∧V.cell? ⟨s0,k,none⟩=some (.slice (some ⟨gs.getD k 0,0,none⟩) (x.s.getD k []).length (x.s.getD k []).length):=by
 rcases h.slo.2 with⟨-,e0⟩ | ⟨g,cap,cur,e1,h2,h3,h4,-,h6,h7⟩
 ·
  omega
 ·
  injection e1 with e1 _ _;refine⟨g,e1,(Zi h3 k).trans ?_⟩;have h8:(cur.toList.take (x.s.length*1))[k]?=(Ic gs (x.s.map List.length))[k]?:=by rw [h7]
  rw [List.getElem?_take,if_pos (by omega)] at h8;rw [show cur[k]?=cur.toList[k]? by simp,h8];simp [Ic,hk,List.getD]
def LdS (q ib s0 a:Nat)(R I:Array Value)(sv:Value)(V:World):Prop :=
 V.heap[q]?=some (.cells R 177 (0,0))∧V.heap[ib]?=some (.cells I 65 (0,0))∧V.cell? ⟨s0,a,none⟩=some sv
theorem Zae {q ib s0 a:Nat}{R I:Array Value}{sv:Value}{V V':World}(h:LdS q ib s0 a R I sv V)(hb:Below V.heap.size V V'):LdS q ib s0 a R I sv V':=by
 obtain⟨h0,h1,h2⟩:=h;exact⟨(hb.block _ (Zd h0)).trans h0,(hb.block _ (Zd h1)).trans h1,(hb.cell (World.block_lt_of_cell? V _ h2)).trans h2⟩
theorem Zaf {q ib s0 a:Nat}{R I:Array Value}{sv:Value}{V V':World}(h:LdS q ib s0 a R I sv V)(h0:V'.heap[q]?=V.heap[q]?)(h1:V'.heap[ib]?=V.heap[ib]?)(h2:V'.heap[s0]?=V.heap[s0]?):LdS q ib s0 a R I sv V':=⟨h0.trans h.1,h1.trans h.2.1,(World.cell?_of_block h2).trans h.2.2⟩
set_option maxHeartbeats 4000000 in
set_option maxRecDepth 100000 in
theorem Znp (w0:World)(x:Xk)(q lo hi lg:Nat)(bp sp op:Option Addr)(bc sc oc:Nat)(gs:List Nat)(B:Nat→Value)(op_ f_:Int)(d a b n:Nat)(xap xop:Option Addr)(xan xac xon xoc:Nat)(w:World)(h:Gn w0 w x q lo hi lg bp sp op bc sc oc gs B)(hok:IOk x)(hd:d<x.v.length)(ha:a<x.s.length)(hw:isW n=true)(hbn:b+n≤(x.s.getD a []).length)(hsl:(x.s.getD a []).length≤65536) :
 Calls Tryz.prog 83 #[.pointer (some ⟨q,0,none⟩),.agg #[.int .i64 (op_:Int),.int .i64 (d:Int),.int .i64 (a:Int),.int .i64 (b:Int),.int .u64 (n:Int),.int .i64 (f_:Int),.slice xap xan xac,.slice xop xon xoc]] w fun e w'=>(∃ v,e=.returned v)∧Gn w0 w' { x with v:=x.v.set d (Ns (x.s.getD a []) b n) } q lo hi lg bp sp op bc sc oc gs B∧Sx lo hi w w':=by
 obtain⟨s0,hsp,hsc⟩:=Mm h ha;subst hsp;obtain⟨r0,hb0,hz⟩:=Yj w (.cells #[.int .i64 (op_:Int),.int .i64 (d:Int),.int .i64 (a:Int),.int .i64 (b:Int),.int .u64 (n:Int),.int .i64 (f_:Int),.slice xap xan xac,.slice xop xon xoc] 65 (0,0));have v0:w.cell? ⟨lg,d,none⟩=some (.int .u64 (x.v.getD d 0)):=(Zi h.loc d).trans (by simp [uC,List.getD,hd]);obtain⟨ga,hga⟩:∃ g,g=gs.getD a 0:=⟨_,rfl⟩;obtain⟨bs,hbs⟩:∃ l,l=x.s.getD a []:=⟨_,rfl⟩;obtain⟨vd,hvd⟩:∃ v,v=x.v.getD d 0:=⟨_,rfl⟩;have hgr:=(h.each a ha).1;rw [← hga,← hbs] at hsc hgr;rw [← hbs] at hbn hsl;rw [← hvd] at v0;have HGA:=J hga;have HBS:=J hbs;have HVD:=J hvd;have hn8:=(Rr n).1 hw;have hwn:IntKind.i64.wrap (n:Int)=(n:Int):=by rw [IntKind.wrap_i64]; omega
 have HS:=J (show LdS q w.heap.size s0 a #[.slice bp x.fn.blocks.length bc,.int .i64 x.b,.int .i64 x.i,.slice (some ⟨lg,0,none⟩) x.v.length x.v.length,.slice (some ⟨s0,0,none⟩) x.s.length sc,.slice op x.o.length oc] #[.int .i64 (op_:Int),.int .i64 (d:Int),.int .i64 (a:Int),.int .i64 (b:Int),.int .u64 (n:Int),.int .i64 (f_:Int),.slice xap xan xac,.slice xop xon xoc] (.slice (some ⟨ga,0,none⟩) bs.length bs.length) (w.alloc (.cells #[.int .i64 (op_:Int),.int .i64 (d:Int),.int .i64 (a:Int),.int .i64 (b:Int),.int .u64 (n:Int),.int .i64 (f_:Int),.slice xap xan xac,.slice xop xon xoc] 65 (0,0))) from⟨(hb0.block _ (Zd h.row)).trans h.row,r0,(hb0.cell (World.block_lt_of_cell? _ _ hsc)).trans hsc⟩);have HF:=J (Yk h hb0);have HO:=J (Jr (lo:=lo) (hi:=hi) hb0);have HBY:=J (fun n hn=>hok.s bs (by rw [hbs]; simp [List.getD,ha]) n hn);have HVV:=J (hok.v vd (by rw [hvd]; simp [List.getD,hd]));have HWI:=J hw;have HL:=J (show lo≤ga∧ga<hi by rw [hga]; exact(h.each a ha).2);have HGL:=J (show lo≤lg∧lg<hi∧lg≠q∧hi≤w.heap.size from⟨h.gl,h.gh,h.gq,h.hs⟩);have HNE:=J (show s0≠lg∧s0≠ga∧q≠ga∧lg≠ga from⟨Ji h h.loc (by decide) s0 rfl,Ji h hgr (by decide) s0 rfl,Zs h.row hgr (by decide),Zs h.loc hgr (by decide)⟩);have HGR:=J ((hb0.block _ (Zd hgr)).trans hgr);clear h hok hsc r0 hb0 v0 hn8 hw hga hbs hvd hgr;go_enter Tryz.func83,Tryz.ntmps83
 go_upto_region 1 with fail
 generalize World.alloc w _=W at HS HF HO HGR hz ⊢;have HSD:=J (Zae (G HS) (Below.refl W.heap.size W).drew);have HFD:=J (Yk (G HF) (Below.refl W.heap.size W).drew);have HOD:=J (Xi (G HO) (Jr (lo:=lo) (hi:=hi) (Below.refl W.heap.size W).drew));clear hz;have HC:=J (Zfj bs ga b n W.drew (G HGR) (G HBY) (G HWI) hbn hsl);refine wp_region_held_drew (S:=LdS q w.heap.size s0 a #[.slice bp x.fn.blocks.length bc,.int .i64 x.b,.int .i64 x.i,.slice (some ⟨lg,0,none⟩) x.v.length x.v.length,.slice (some ⟨s0,0,none⟩) x.s.length sc,.slice op x.o.length oc] #[.int .i64 (op_:Int),.int .i64 (d:Int),.int .i64 (a:Int),.int .i64 (b:Int),.int .u64 (n:Int),.int .i64 (f_:Int),.slice xap xan xac,.slice xop xon xoc] (.slice (some ⟨ga,0,none⟩) bs.length bs.length)) (by kernel_rfl) (G HSD) (fun hHeld=>?_);refine tX 0 ?_;simp only [Act.put,zA,zB,zC,zD,zE];refine tX 1 ?_;simp only [Act.put,zA,zB,zC,zD,zE,zF];refine tX 2 ?_;simp only [Act.put,zA,zB,zC,zD,zE,zF];refine wpAnyH_take (i:=3) (v:=?v3) rfl (by kernel_rfl) (by kernel_rfl) (by kernel_rfl) (fun _ _ _ h=>h) (Or.inl ⟨by rfl,?hy3⟩) (by assumption) ?_;case hy3 =>
  intro V hV;obtain⟨g0,g1,g2⟩:=hV;have c:=cR g0 3;clear g0 g1;go_simp;all_goals (with_reducible rfl)
 simp only [Act.put,zA,zB,zC,zD,zE,zF];refine tX 4 ?_;simp only [Act.put,zA,zB,zC,zD,zE,zF];refine wpAnyH_take (i:=5) (v:=?v5) rfl (by kernel_rfl) (by kernel_rfl) (by kernel_rfl) (fun _ _ _ h=>h) (Or.inl ⟨by rfl,?hy5⟩) (by assumption) ?_;case hy5 =>
  intro V hV;obtain⟨g0,g1,g2⟩:=hV;have c:=cR g1 1;clear g0 g1;go_simp;all_goals (with_reducible rfl)
 simp only [Act.put,zA,zB,zC,zD,zE,zF];refine tX 6 ?_;simp only [Act.put,zA,zB,zC,zD,zE,zF];refine tX 7 ?_;simp only [Act.put,zA,zB,zC,zD,zE,zF];refine tX 8 ?_;simp only [Act.put,zA,zB,zC,zD,zE,zF];refine wpAnyH_take (i:=9) (v:=?v9) rfl (by kernel_rfl) (by kernel_rfl) (by kernel_rfl) (fun _ _ _ h=>h) (Or.inl ⟨by rfl,?hy9⟩) (by assumption) ?_;case hy9 =>
  intro V hV;obtain⟨g0,g1,g2⟩:=hV;have c:=cR g0 4;clear g0 g1;go_simp;all_goals (with_reducible rfl)
 simp only [Act.put,zA,zB,zC,zD,zE,zF];refine tX 10 ?_;simp only [Act.put,zA,zB,zC,zD,zE,zF];refine wpAnyH_take (i:=11) (v:=?v11) rfl (by kernel_rfl) (by kernel_rfl) (by kernel_rfl) (fun _ _ _ h=>h) (Or.inl ⟨by rfl,?hy11⟩) (by assumption) ?_;case hy11 =>
  intro V hV;obtain⟨g0,g1,g2⟩:=hV;have c:=cR g1 2;clear g0 g1;go_simp;all_goals (with_reducible rfl)
 simp only [Act.put,zA,zB,zC,zD,zE,zF];refine tX 12 ?_;simp only [Act.put,zA,zB,zC,zD,zE,zF];refine tX 13 ?_;simp only [Act.put,zA,zB,zC,zD,zE,zF];refine tX 14 ?_;simp only [Act.put,zA,zB,zC,zD,zE,zF];refine wpAnyH_take (i:=15) (v:=?v15) rfl (by kernel_rfl) (by kernel_rfl) (by kernel_rfl) (fun _ _ _ h=>h) (Or.inl ⟨by rfl,?hy15⟩) (by assumption) ?_;case hy15 =>
  intro V hV;obtain⟨g0,g1,g2⟩:=hV;have c:=cR g1 3;clear g0 g1;go_simp;all_goals (with_reducible rfl)
 simp only [Act.put,zA,zB,zC,zD,zE,zF];refine tX 16 ?_;simp only [Act.put,zA,zB,zC,zD,zE,zF];refine wpAnyH_take (i:=17) (v:=?v17) rfl (by kernel_rfl) (by kernel_rfl) (by kernel_rfl) (fun _ _ _ h=>h) (Or.inl ⟨by rfl,?hy17⟩) (by assumption) ?_;case hy17 =>
  intro V hV;obtain⟨g0,g1,g2⟩:=hV;have c:=cR g1 4;clear g0 g1;go_simp;all_goals (with_reducible rfl)
 simp only [Act.put,zA,zB,zC,zD,zE,zF];refine tX 18 ?_;simp only [Act.put,zA,zB,zC,zD,zE,zF];refine tO 19 fun K hK=>?_;go_simp;refine(G HC).mono ?_;rintro e w5 ⟨rfl,hw5⟩;subst w5;refine hK.out _ _ (G HSD) (fun hHeld2=>?_);clear hK K;try simp only [Act.put,zA,zB,zC,zD,zE,zF]
 refine tX 20 ?_;simp only [Act.put,zA,zB,zC,zD,zE,zF];refine tX 21 ?_;simp only [Act.put,zA,zB,zC,zD,zE,zF];refine tX 22 ?_;simp only [Act.put,zA,zB,zC,zD,zE,zF];refine tX 23 ?_;simp only [Act.put,zA,zB,zC,zD,zE,zF];have hF:=G HFD;have c9:W.drew.cell? ⟨lg,d,none⟩=some (.int .u64 vd):=(Zi hF.loc d).trans (by rw [G HVD]; simp [uC,List.getD,hd]);have z9:=frozen_of_row _ _ d _ _ hF.loc;have HX:=J (Zad hF d (Ns bs b n));have HO9:=J (Xi (G HOD) (Ut W.drew d (.int .u64 (Ns bs b n)) (G HGL).1 (G HGL).2.1));clear hF;refine tO 24 fun K hK=>?_;go_simp;refine hK.out _ _ (Zaf (G HSD) (heap_setCell_other _ _ _ _ (Ne.symm (G HGL).2.2.1)) (heap_setCell_other _ _ _ _ (by have:=G HGL; show w.heap.size≠lg; omega)) (heap_setCell_other _ _ _ _ (G HNE).1)) (fun hHeld3=>?_);clear hK K;try simp only [Act.put]
 refine wpAnyH_done (by kernel_rfl) ?_ _;go_wp2;go_returns;exact⟨⟨_,rfl⟩,by rw [← G HBS]; exact G HX,G HO9⟩
set_option maxHeartbeats 4000000 in
set_option maxRecDepth 100000 in
theorem Zlf (w0:World)(x:Xk)(q lo hi lg:Nat)(bp sp op:Option Addr)(bc sc oc:Nat)(gs:List Nat)(B:Nat→Value)(op_ f_:Int)(d a b n:Nat)(xap xop:Option Addr)(xan xac xon xoc:Nat)(w:World)(h:Gn w0 w x q lo hi lg bp sp op bc sc oc gs B)(hok:IOk x)(hd:d<x.v.length)(ha:a<x.s.length)(hw:isW n=true)(hbn:b+n≤(x.s.getD a []).length)(hsl:(x.s.getD a []).length≤65536) :
 Calls Tryz.prog 84 #[.pointer (some ⟨q,0,none⟩),.agg #[.int .i64 (op_:Int),.int .i64 (d:Int),.int .i64 (a:Int),.int .i64 (b:Int),.int .u64 (n:Int),.int .i64 (f_:Int),.slice xap xan xac,.slice xop xon xoc]] w fun e w'=>(∃ v,e=.returned v)∧Gn w0 w' { x with s:=x.s.set a (Sd (x.s.getD a []) b n (x.v.getD d 0)) } q lo hi lg bp sp op bc sc oc gs B∧Sx lo hi w w':=by
 obtain⟨s0,hsp,hsc⟩:=Mm h ha;subst hsp;obtain⟨r0,hb0,hz⟩:=Yj w (.cells #[.int .i64 (op_:Int),.int .i64 (d:Int),.int .i64 (a:Int),.int .i64 (b:Int),.int .u64 (n:Int),.int .i64 (f_:Int),.slice xap xan xac,.slice xop xon xoc] 65 (0,0));have v0:w.cell? ⟨lg,d,none⟩=some (.int .u64 (x.v.getD d 0)):=(Zi h.loc d).trans (by simp [uC,List.getD,hd]);obtain⟨ga,hga⟩:∃ g,g=gs.getD a 0:=⟨_,rfl⟩;obtain⟨bs,hbs⟩:∃ l,l=x.s.getD a []:=⟨_,rfl⟩;obtain⟨vd,hvd⟩:∃ v,v=x.v.getD d 0:=⟨_,rfl⟩;have hgr:=(h.each a ha).1;rw [← hga,← hbs] at hsc hgr;rw [← hbs] at hbn hsl;rw [← hvd] at v0;have HGA:=J hga;have HBS:=J hbs;have HVD:=J hvd;have hn8:=(Rr n).1 hw;have hwn:IntKind.i64.wrap (n:Int)=(n:Int):=by rw [IntKind.wrap_i64]; omega
 have HS:=J (show LdS q w.heap.size s0 a #[.slice bp x.fn.blocks.length bc,.int .i64 x.b,.int .i64 x.i,.slice (some ⟨lg,0,none⟩) x.v.length x.v.length,.slice (some ⟨s0,0,none⟩) x.s.length sc,.slice op x.o.length oc] #[.int .i64 (op_:Int),.int .i64 (d:Int),.int .i64 (a:Int),.int .i64 (b:Int),.int .u64 (n:Int),.int .i64 (f_:Int),.slice xap xan xac,.slice xop xon xoc] (.slice (some ⟨ga,0,none⟩) bs.length bs.length) (w.alloc (.cells #[.int .i64 (op_:Int),.int .i64 (d:Int),.int .i64 (a:Int),.int .i64 (b:Int),.int .u64 (n:Int),.int .i64 (f_:Int),.slice xap xan xac,.slice xop xon xoc] 65 (0,0))) from⟨(hb0.block _ (Zd h.row)).trans h.row,r0,(hb0.cell (World.block_lt_of_cell? _ _ hsc)).trans hsc⟩);have HF:=J (Yk h hb0);have HO:=J (Jr (lo:=lo) (hi:=hi) hb0);have HBY:=J (fun n hn=>hok.s bs (by rw [hbs]; simp [List.getD,ha]) n hn);have HVV:=J (hok.v vd (by rw [hvd]; simp [List.getD,hd]));have HWI:=J hw;have HL:=J (show lo≤ga∧ga<hi by rw [hga]; exact(h.each a ha).2);have HGL:=J (show lo≤lg∧lg<hi∧lg≠q∧hi≤w.heap.size from⟨h.gl,h.gh,h.gq,h.hs⟩);have HNE:=J (show s0≠lg∧s0≠ga∧q≠ga∧lg≠ga from⟨Ji h h.loc (by decide) s0 rfl,Ji h hgr (by decide) s0 rfl,Zs h.row hgr (by decide),Zs h.loc hgr (by decide)⟩);have HGR:=J ((hb0.block _ (Zd hgr)).trans hgr);clear h hok hsc r0 hb0 v0 hn8 hw hga hbs hvd hgr;go_enter Tryz.func84,Tryz.ntmps84
 go_upto_region 1 with fail
 generalize World.alloc w _=W at HS HF HO HGR hz ⊢;have HSD:=J (Zae (G HS) (Below.refl W.heap.size W).drew);have HFD:=J (Yk (G HF) (Below.refl W.heap.size W).drew);have HOD:=J (Xi (G HO) (Jr (lo:=lo) (hi:=hi) (Below.refl W.heap.size W).drew));have HV0:=J (show W.drew.cell? ⟨lg,d,none⟩=some (.int .u64 vd) from(Zi (G HFD).loc d).trans (by rw [G HVD]; simp [uC,List.getD,hd]));clear hz;have HC:=J (Zcn bs ga b n vd W.drew (G HGR) (G HWI) hbn hsl);refine wp_region_held_drew (S:=fun V=>LdS q w.heap.size s0 a #[.slice bp x.fn.blocks.length bc,.int .i64 x.b,.int .i64 x.i,.slice (some ⟨lg,0,none⟩) x.v.length x.v.length,.slice (some ⟨s0,0,none⟩) x.s.length sc,.slice op x.o.length oc] #[.int .i64 (op_:Int),.int .i64 (d:Int),.int .i64 (a:Int),.int .i64 (b:Int),.int .u64 (n:Int),.int .i64 (f_:Int),.slice xap xan xac,.slice xop xon xoc] (.slice (some ⟨ga,0,none⟩) bs.length bs.length) V∧V.cell? ⟨lg,d,none⟩=some (.int .u64 vd)) (by kernel_rfl) (⟨G HSD,G HV0⟩) (fun hHeld=>?_);refine wpAnyH_take (i:=0) (v:=?v0) rfl (by kernel_rfl) (by kernel_rfl) (by kernel_rfl) (fun _ _ _ h=>h) (Or.inl ⟨by rfl,?hy0⟩) (by assumption) ?_;case hy0 =>
  intro V hV;obtain⟨⟨g0,g1,g2⟩,g3⟩:=hV;clear g0 g1;go_simp;all_goals (with_reducible rfl)
 simp only [Act.put,zA,zB,zC,zD,zE];refine wpAnyH_take (i:=1) (v:=?v1) rfl (by kernel_rfl) (by kernel_rfl) (by kernel_rfl) (fun _ _ _ h=>h) (Or.inl ⟨by rfl,?hy1⟩) (by assumption) ?_;case hy1 =>
  intro V hV;obtain⟨⟨g0,g1,g2⟩,g3⟩:=hV;clear g0 g1;go_simp;all_goals (with_reducible rfl)
 simp only [Act.put,zA,zB,zC,zD,zE,zF];refine wpAnyH_take (i:=2) (v:=?v2) rfl (by kernel_rfl) (by kernel_rfl) (by kernel_rfl) (fun _ _ _ h=>h) (Or.inl ⟨by rfl,?hy2⟩) (by assumption) ?_;case hy2 =>
  intro V hV;obtain⟨⟨g0,g1,g2⟩,g3⟩:=hV;clear g0 g1;go_simp;all_goals (with_reducible rfl)
 simp only [Act.put,zA,zB,zC,zD,zE,zF];refine wpAnyH_take (i:=3) (v:=?v3) rfl (by kernel_rfl) (by kernel_rfl) (by kernel_rfl) (fun _ _ _ h=>h) (Or.inl ⟨by rfl,?hy3⟩) (by assumption) ?_;case hy3 =>
  intro V hV;obtain⟨⟨g0,g1,g2⟩,g3⟩:=hV;have c:=cR g0 4;clear g0 g1;go_simp;all_goals (with_reducible rfl)
 simp only [Act.put,zA,zB,zC,zD,zE,zF];refine wpAnyH_take (i:=4) (v:=?v4) rfl (by kernel_rfl) (by kernel_rfl) (by kernel_rfl) (fun _ _ _ h=>h) (Or.inl ⟨by rfl,?hy4⟩) (by assumption) ?_;case hy4 =>
  intro V hV;obtain⟨⟨g0,g1,g2⟩,g3⟩:=hV;clear g0 g1;go_simp;all_goals (with_reducible rfl)
 simp only [Act.put,zA,zB,zC,zD,zE,zF];refine wpAnyH_take (i:=5) (v:=?v5) rfl (by kernel_rfl) (by kernel_rfl) (by kernel_rfl) (fun _ _ _ h=>h) (Or.inl ⟨by rfl,?hy5⟩) (by assumption) ?_;case hy5 =>
  intro V hV;obtain⟨⟨g0,g1,g2⟩,g3⟩:=hV;have c:=cR g1 2;clear g0 g1;go_simp;all_goals (with_reducible rfl)
 simp only [Act.put,zA,zB,zC,zD,zE,zF];refine wpAnyH_take (i:=6) (v:=?v6) rfl (by kernel_rfl) (by kernel_rfl) (by kernel_rfl) (fun _ _ _ h=>h) (Or.inl ⟨by rfl,?hy6⟩) (by assumption) ?_;case hy6 =>
  intro V hV;obtain⟨⟨g0,g1,g2⟩,g3⟩:=hV;clear g0 g1;go_simp;all_goals (with_reducible rfl)
 simp only [Act.put,zA,zB,zC,zD,zE,zF];refine wpAnyH_take (i:=7) (v:=?v7) rfl (by kernel_rfl) (by kernel_rfl) (by kernel_rfl) (fun _ _ _ h=>h) (Or.inl ⟨by rfl,?hy7⟩) (by assumption) ?_;case hy7 =>
  intro V hV;obtain⟨⟨g0,g1,g2⟩,g3⟩:=hV;clear g0 g1;go_simp;all_goals (with_reducible rfl)
 simp only [Act.put,zA,zB,zC,zD,zE,zF];refine wpAnyH_take (i:=8) (v:=?v8) rfl (by kernel_rfl) (by kernel_rfl) (by kernel_rfl) (fun _ _ _ h=>h) (Or.inl ⟨by rfl,?hy8⟩) (by assumption) ?_;case hy8 =>
  intro V hV;obtain⟨⟨g0,g1,g2⟩,g3⟩:=hV;clear g0 g1;go_simp;all_goals (with_reducible rfl)
 simp only [Act.put,zA,zB,zC,zD,zE,zF];refine wpAnyH_take (i:=9) (v:=?v9) rfl (by kernel_rfl) (by kernel_rfl) (by kernel_rfl) (fun _ _ _ h=>h) (Or.inl ⟨by rfl,?hy9⟩) (by assumption) ?_;case hy9 =>
  intro V hV;obtain⟨⟨g0,g1,g2⟩,g3⟩:=hV;have c:=cR g1 3;clear g0 g1;go_simp;all_goals (with_reducible rfl)
 simp only [Act.put,zA,zB,zC,zD,zE,zF];refine wpAnyH_take (i:=10) (v:=?v10) rfl (by kernel_rfl) (by kernel_rfl) (by kernel_rfl) (fun _ _ _ h=>h) (Or.inl ⟨by rfl,?hy10⟩) (by assumption) ?_;case hy10 =>
  intro V hV;obtain⟨⟨g0,g1,g2⟩,g3⟩:=hV;clear g0 g1;go_simp;all_goals (with_reducible rfl)
 simp only [Act.put,zA,zB,zC,zD,zE,zF];refine wpAnyH_take (i:=11) (v:=?v11) rfl (by kernel_rfl) (by kernel_rfl) (by kernel_rfl) (fun _ _ _ h=>h) (Or.inl ⟨by rfl,?hy11⟩) (by assumption) ?_;case hy11 =>
  intro V hV;obtain⟨⟨g0,g1,g2⟩,g3⟩:=hV;have c:=cR g1 4;clear g0 g1;go_simp;all_goals (with_reducible rfl)
 simp only [Act.put,zA,zB,zC,zD,zE,zF];refine wpAnyH_take (i:=12) (v:=?v12) rfl (by kernel_rfl) (by kernel_rfl) (by kernel_rfl) (fun _ _ _ h=>h) (Or.inl ⟨by rfl,?hy12⟩) (by assumption) ?_;case hy12 =>
  intro V hV;obtain⟨⟨g0,g1,g2⟩,g3⟩:=hV;clear g0 g1;go_simp;all_goals (with_reducible rfl)
 simp only [Act.put,zA,zB,zC,zD,zE,zF];refine wpAnyH_take (i:=13) (v:=?v13) rfl (by kernel_rfl) (by kernel_rfl) (by kernel_rfl) (fun _ _ _ h=>h) (Or.inl ⟨by rfl,?hy13⟩) (by assumption) ?_;case hy13 =>
  intro V hV;obtain⟨⟨g0,g1,g2⟩,g3⟩:=hV;clear g0 g1;go_simp;all_goals (with_reducible rfl)
 simp only [Act.put,zA,zB,zC,zD,zE,zF];refine wpAnyH_take (i:=14) (v:=?v14) rfl (by kernel_rfl) (by kernel_rfl) (by kernel_rfl) (fun _ _ _ h=>h) (Or.inl ⟨by rfl,?hy14⟩) (by assumption) ?_;case hy14 =>
  intro V hV;obtain⟨⟨g0,g1,g2⟩,g3⟩:=hV;clear g0 g1;go_simp;all_goals (with_reducible rfl)
 simp only [Act.put,zA,zB,zC,zD,zE,zF];refine wpAnyH_take (i:=15) (v:=?v15) rfl (by kernel_rfl) (by kernel_rfl) (by kernel_rfl) (fun _ _ _ h=>h) (Or.inl ⟨by rfl,?hy15⟩) (by assumption) ?_;case hy15 =>
  intro V hV;obtain⟨⟨g0,g1,g2⟩,g3⟩:=hV;clear g0 g1;go_simp;all_goals (with_reducible rfl)
 simp only [Act.put,zA,zB,zC,zD,zE,zF];refine wpAnyH_take (i:=16) (v:=?v16) rfl (by kernel_rfl) (by kernel_rfl) (by kernel_rfl) (fun _ _ _ h=>h) (Or.inl ⟨by rfl,?hy16⟩) (by assumption) ?_;case hy16 =>
  intro V hV;obtain⟨⟨g0,g1,g2⟩,g3⟩:=hV;have c:=cR g0 3;clear g0 g1;go_simp;all_goals (with_reducible rfl)
 simp only [Act.put,zA,zB,zC,zD,zE,zF];refine wpAnyH_take (i:=17) (v:=?v17) rfl (by kernel_rfl) (by kernel_rfl) (by kernel_rfl) (fun _ _ _ h=>h) (Or.inl ⟨by rfl,?hy17⟩) (by assumption) ?_;case hy17 =>
  intro V hV;obtain⟨⟨g0,g1,g2⟩,g3⟩:=hV;clear g0 g1;go_simp;all_goals (with_reducible rfl)
 simp only [Act.put,zA,zB,zC,zD,zE,zF];refine wpAnyH_take (i:=18) (v:=?v18) rfl (by kernel_rfl) (by kernel_rfl) (by kernel_rfl) (fun _ _ _ h=>h) (Or.inl ⟨by rfl,?hy18⟩) (by assumption) ?_;case hy18 =>
  intro V hV;obtain⟨⟨g0,g1,g2⟩,g3⟩:=hV;have c:=cR g1 1;clear g0 g1;go_simp;all_goals (with_reducible rfl)
 simp only [Act.put,zA,zB,zC,zD,zE,zF];refine wpAnyH_take (i:=19) (v:=?v19) rfl (by kernel_rfl) (by kernel_rfl) (by kernel_rfl) (fun _ _ _ h=>h) (Or.inl ⟨by rfl,?hy19⟩) (by assumption) ?_;case hy19 =>
  intro V hV;obtain⟨⟨g0,g1,g2⟩,g3⟩:=hV;clear g0 g1;go_simp;all_goals (with_reducible rfl)
 simp only [Act.put,zA,zB,zC,zD,zE,zF];refine wpAnyH_take (i:=20) (v:=?v20) rfl (by kernel_rfl) (by kernel_rfl) (by kernel_rfl) (fun _ _ _ h=>h) (Or.inl ⟨by rfl,?hy20⟩) (by assumption) ?_;case hy20 =>
  intro V hV;obtain⟨⟨g0,g1,g2⟩,g3⟩:=hV;clear g0 g1;go_simp;all_goals (with_reducible rfl)
 simp only [Act.put,zA,zB,zC,zD,zE,zF];refine tO 21 fun K hK=>?_;go_simp;refine(G HC).mono ?_;rintro e w5 ⟨rfl,hw5⟩;have hne:=G HNE;have hgl:=G HGL;have hLL:=G HL;have hst:=fun g (hg:g≠ga)=>Jc W.drew ga b vd g hg n;have HX:=J (show Gn w0 w5 { x with s:=x.s.set a (Sd (x.s.getD a []) b n (x.v.getD d 0)) } q lo hi lg bp (some ⟨s0,0,none⟩) op bc sc oc gs B by rw [hw5,G HGA,G HVD]; exact Znn (G HFD) a ha b n (x.v.getD d 0));have HO9:=J (show Sx lo hi w w5 by rw [hw5]; exact Xi (G HOD) (Zlc W.drew b n vd hLL.1 hLL.2));have hS5:LdS q w.heap.size s0 a #[.slice bp x.fn.blocks.length bc,.int .i64 x.b,.int .i64 x.i,.slice (some ⟨lg,0,none⟩) x.v.length x.v.length,.slice (some ⟨s0,0,none⟩) x.s.length sc,.slice op x.o.length oc] #[.int .i64 (op_:Int),.int .i64 (d:Int),.int .i64 (a:Int),.int .i64 (b:Int),.int .u64 (n:Int),.int .i64 (f_:Int),.slice xap xan xac,.slice xop xon xoc] (.slice (some ⟨ga,0,none⟩) bs.length bs.length) w5:=by rw [hw5]; exact Zaf (G HSD) (hst q hne.2.2.1) (hst w.heap.size (by omega)) (hst s0 hne.2.1)
 have hV5:w5.cell? ⟨lg,d,none⟩=some (.int .u64 vd):=by rw [hw5]; exact(World.cell?_of_block (hst lg hne.2.2.2)).trans (G HV0)
 clear hw5 hne hgl hLL hst;refine hK.out _ _ ⟨hS5,hV5⟩ (fun hHeld2=>?_);clear hK K hS5 hV5;try simp only [Act.put,zA,zB,zC,zD,zE,zF]
 refine wpAnyH_done (by kernel_rfl) ?_ _;go_wp2;go_returns;exact⟨⟨_,rfl⟩,G HX,G HO9⟩
theorem Tryz.infoU64:(Tryz.prog.info? 62).map (fun i=>(i.zero,i.size,i.bytes))=some (some (.int .u64 0),1,8):=by kernel_rfl
theorem Uu (l:List Int)(n:Int):uC (l++[n])=uC l++[.int .u64 n]:=by simp [uC]
theorem Zay (l:List Int):(uC l).length=l.length:=by simp [uC]
theorem Zm {w:World}{B e size n:Nat}{v:Value}{xs:List Value}(h:w.ownsRow B e size v n xs):∃ p c,v=.slice p n c:=by
 rcases h.2 with⟨e,e0⟩ | ⟨g,cap,cur,e,-⟩
 ·
  exact⟨none,0,by rw [e0]; exact e⟩
 ·
  exact⟨_,_,e⟩
theorem Ky (v ls:List Int)(k:Nat)(h:k<ls.length):Xf v (ls.take (k+1))=Xf v (ls.take k)++[v.getD (ls.getD k 0).toNat 0]:=by
 unfold Xf;rw [List.take_add_one,List.getElem?_eq_getElem h,List.map_append,Yu ls 0 k h];rfl
theorem Sb (v ds vs:List Int)(k:Nat)(h1:k<ds.length)(h2:k<vs.length):Xp v (ds.take (k+1)) (vs.take (k+1))=(Xp v (ds.take k) (vs.take k)).set (ds.getD k 0).toNat (vs.getD k 0):=by
 unfold Xp;have hz:∀ n,(ds.take n).zip (vs.take n)=(ds.zip vs).take n:=fun n=>by rw [List.zip_eq_zipWith,List.zip_eq_zipWith,List.take_zipWith]
 rw [hz,hz,List.take_add_one,List.foldl_append,List.getElem?_eq_getElem (by simp; omega),Yu ds 0 k h1,Yu vs 0 k h2];simp
theorem Rf (v ds vs:List Int):(Xp v ds vs).length=v.length:=by
 unfold Xp;generalize ds.zip vs=l;induction l generalizing v with
 | nil=>rfl
 | cons a l ih=>rw [List.foldl_cons,ih]; simp
theorem Nz {w:World}{B e n k:Nat}{p:Option Addr}{c:Nat}{xs:List Value}(h:w.ownsRow B e 1 (.slice p n c) n xs)(hk:k<n):∃ g,p=some ⟨g,0,none⟩∧B≤g∧w.cell? ⟨g,k,none⟩=xs[k]?:=by
 rcases h.2 with⟨-,e0⟩ | ⟨g,cap,cur,e1,h2,h3,h4,-,h6,h7⟩
 ·
  omega
 ·
  injection e1 with e1 _ _;refine⟨g,e1,h2,(Zi h3 k).trans ?_⟩;rw [← h7,List.getElem?_take,if_pos (by omega)];simp
theorem Zit {w:World}{B e n:Nat}{v:Value}{xs:List Value}(h:w.ownsRow B e 1 v n xs):n≤maxLen:=by
 rcases h.2 with⟨-,e0⟩ | ⟨g,cap,cur,e1,h2,h3,h4,h5,h6,h7⟩
 ·
  omega
 ·
  omega
theorem Zgo {v ds vs:List Int}{k:Nat}(h:ds.length≤k):Xp v ds (vs.take k)=Xp v ds vs:=by
 unfold Xp;have:ds.zip (vs.take k)=ds.zip vs:=by
  rw [show ds.zip (vs.take k)=(ds.take k).zip (vs.take k) by rw [List.take_of_length_le h],List.zip_eq_zipWith,List.zip_eq_zipWith,← List.take_zipWith,List.take_of_length_le (by simp; omega)]
 rw [this]
set_option maxHeartbeats 4000000 in
set_option maxRecDepth 100000 in
theorem Zcp (w0:World)(x:Xk)(q lo hi lg:Nat)(bp sp op:Option Addr)(bc sc oc:Nat)(gs:List Nat)(B:Nat→Value)(ls:List Int)(lp:Option Addr)(lc:Nat)(w:World)(h:Gn w0 w x q lo hi lg bp sp op bc sc oc gs B)(hl:Li w (.slice lp ls.length lc) ls)(hln:ls.length≤1000)(hin:∀ k,k<ls.length→0≤ls.getD k 0∧ls.getD k 0<x.v.length) :
 Calls Tryz.prog 90 #[.pointer (some ⟨q,0,none⟩),.slice lp ls.length lc] w fun e w'=>∃ v,e=.returned v∧w'.ownsRow w.heap.size 62 1 v ls.length (uC (Xf x.v ls))∧Below w.heap.size w w':=by
 obtain⟨ti,hti,hty0,hty1,hty2⟩:=Xs Tryz.infoU64;have H:=J h;have HL:=J hl;have HIN:=J hin;clear h hl hin;go_enter Tryz.func90,Tryz.ntmps90
 go_wp2;go_loopw [10,5] (fun sk sv w'=>∃(k:Nat) (v:Value),sk=.int .i64 k∧sv=v∧k≤ls.length∧w'.ownsRow w.heap.size 62 1 v k (uC (Xf x.v (ls.take k)))∧Below w.heap.size w w') (fun sk _ _=>ls.length-(intOf sk).toNat)
 case atStart=>exact⟨0,_,rfl,rfl,by omega,World.ownsRow_nil _ _ _ _,Below.refl _ _⟩
 case round =>
  obtain⟨k,v0,rfl,rfl,hk,how,hbw⟩:=hrel;obtain⟨vp,vc,rfl⟩:=Zm how;by_cases hk2:k<ls.length
  ·
   obtain⟨p',c',e1,-,-,hcc⟩:=(G HL).below hbw;injection e1 with f1 f2 f3;obtain⟨sb,so,hsp,hcell⟩:=hcc (by omega);rw [← f1] at hsp;subst hsp;have d:=hcell k hk2;obtain⟨hx0,hx1⟩:=G HIN k hk2;obtain⟨m,hm⟩:∃ m:Nat,ls.getD k 0=m:=⟨(ls.getD k 0).toNat,by omega⟩;have HNX:=J (show Xf x.v (ls.take (k+1))=Xf x.v (ls.take k)++[x.v.getD m 0] by rw [Ky _ _ _ hk2,hm,Int.toNat_natCast]);rw [hm] at d hx1;have hF:=Yk (G H) hbw;have c3:=cR hF.row 3;have hml:m<x.v.length:=by omega
   have v0:wr.cell? ⟨lg,m,none⟩=some (.int .u64 (x.v.getD m 0)):=(Zi hF.loc m).trans (by simp [uC,List.getD,hml]);have hwz:=hbw.size;have HOW:=J how;have HBW:=J hbw;clear f1 f2 f3 hcc hcell hx0 hx1 hm hF how hbw;obtain⟨y,hy⟩:∃ y,y=x.v.getD m 0:=⟨_,rfl⟩;rw [← hy] at v0 HNX;clear hy;go_wp2_with (at_builtin; refine wpList_append_own _ rfl _ _ 30 rfl w.heap.size 62 ti _ 1 8 Tryz.underlying30 hti hty0 hty1 hty2 rfl (by decide) _ _ _ rfl (World.ownsRow.alloc (G HOW) _) ⟨wr.heap.size,0,none⟩ 1 1 [.int .u64 y] rfl rfl (by intro j u hj; match j,hj with | 0,hj=>(simp at hj; subst hj; simp [Addr.add])) (by intro u hu; simp at hu; subst hu; rfl) ?c3 ?c4 ?c5 ?_)
   case c3=>unfold maxLen; omega
   case c4=>omega
   case c5=>first | omega | (simp; omega)
   intro v7 w7 hown7 hgr7 _;have hb7:Below w.heap.size w w7:=by
    have ha:=(Yj wr (.cells #[.int .u64 y] 62 (0,0)));have hzz:=(G HBW).size;refine⟨hgr7.os.trans (ha.2.1.os.trans (G HBW).os),hgr7.tape.trans (ha.2.1.tape.trans (G HBW).tape),hgr7.output.trans (ha.2.1.output.trans (G HBW).output),by have:=hgr7.size; rw [ha.2.2] at this; omega,fun q hq=>?_⟩;exact(hgr7.block q (by rw [ha.2.2]; omega) (fun e=>by have:=(World.ownsRow.lt (G HOW) q e.symm).1; omega)).trans ((ha.2.1.block q (by omega)).trans ((G HBW).block q hq))
   have HX:=J (show w7.ownsRow w.heap.size 62 1 v7 (k+1) (uC (Xf x.v (ls.take (k+1)))) by rw [G HNX,Uu]; exact hown7);have HB7:=J hb7;clear hown7 hgr7 hb7 d c3 v0 HOW HBW HNX;go_wp2;go_roundw
   case rel=>exact⟨k+1,_,by go_num,rfl,by omega,G HX,G HB7⟩
   case measure=>simp [intOf]; omega
  ·
   have hkn:k=ls.length:=by omega
   subst hkn;rw [List.take_length] at how;have HOW:=J how;have HBW:=J hbw;clear how hbw;go_wp2;go_ret;exact⟨_,rfl,G HOW,G HBW⟩
set_option maxHeartbeats 4000000 in
set_option maxRecDepth 100000 in
theorem Ziu (w0:World)(x:Xk)(q lo hi lg:Nat)(bp sp op:Option Addr)(bc sc oc:Nat)(gs:List Nat)(B:Nat→Value)(ls vals:List Int)(lp vp:Option Addr)(lc vc hv:Nat)(w:World)(h:Gn w0 w x q lo hi lg bp sp op bc sc oc gs B)(hbw0:Below w0.heap.size w0 w)(hw0:w0.heap.size≤lo)(hl:Li w0 (.slice lp ls.length lc) ls)(hln:ls.length≤1000)(hin:∀ k,k<ls.length→0≤ls.getD k 0∧ls.getD k 0<x.v.length)(hvo:w.ownsRow hv 62 1 (.slice vp vals.length vc) vals.length (uC vals))(hhv:hi≤hv)(hle:ls.length≤vals.length) :
 Calls Tryz.prog 105 #[.pointer (some ⟨q,0,none⟩),.slice lp ls.length lc,.slice vp vals.length vc] w fun e w'=>(∃ v,e=.returned v)∧Gn w0 w' { x with v:=Xp x.v ls vals } q lo hi lg bp sp op bc sc oc gs B∧Sx lo hi w w':=by
 have H:=J h;have HL:=J hl;have HIN:=J hin;have HVO:=J hvo;have HBW:=J hbw0;have hvlen:vals.length<9223372036854775808:=by have:=Zit hvo; unfold maxLen at this; omega
 clear h hl hin hvo hbw0;go_enter Tryz.func105,Tryz.ntmps105
 go_wp2;go_loopw [10] (fun sk w'=>∃(k:Nat),sk=.int .i64 k∧k≤ls.length∧Gn w0 w' { x with v:=Xp x.v (ls.take k) (vals.take k) } q lo hi lg bp sp op bc sc oc gs B∧Sx lo hi w w') (fun sk _=>ls.length-(intOf sk).toNat)
 case atStart=>exact⟨0,rfl,by omega,G H,Kx _ _ _⟩
 case round =>
  obtain⟨k,rfl,hk,hF,hO⟩:=hrel;by_cases hk2:k<ls.length
  ·
   obtain⟨p',c',e1,-,-,hcc⟩:=G HL;injection e1 with f1 f2 f3;obtain⟨sb,so,hsp,hcell⟩:=hcc (by omega);rw [← f1] at hsp;subst hsp;have hd0:=hcell k hk2;have hsb:sb<w0.heap.size:=World.block_lt_of_cell? _ _ hd0;have d:wr.cell? ⟨sb,so+k,none⟩=some (.int .i64 (ls.getD k 0)):=(World.cell?_of_block (hO.oth sb (Nat.lt_of_lt_of_le hsb (G HBW).size) (Or.inl (by omega)))).trans (((G HBW).cell (p:=⟨sb,so+k,none⟩) hsb).trans hd0);obtain⟨hx0,hx1⟩:=G HIN k hk2;obtain⟨m,hm⟩:∃ m:Nat,ls.getD k 0=m:=⟨(ls.getD k 0).toNat,by omega⟩;have HNX:=J (show Xp x.v (ls.take (k+1)) (vals.take (k+1))=(Xp x.v (ls.take k) (vals.take k)).set m (vals.getD k 0) by rw [Sb _ _ _ _ hk2 (by omega),hm,Int.toNat_natCast]);rw [hm] at d hx1;have hml:m<(Xp x.v (ls.take k) (vals.take k)).length:=by rw [Rf]; omega
   obtain⟨gv,hvp,hgv,hvc⟩:=Nz (G HVO) (show k<vals.length by omega);subst hvp;have hv9:w.cell? ⟨gv,k,none⟩=some (.int .u64 (vals.getD k 0)):=hvc.trans (by simp [uC,List.getD,show k<vals.length by omega]);have hg9:gv<w.heap.size:=World.block_lt_of_cell? w _ hv9;have e9:wr.cell? ⟨gv,k,none⟩=some (.int .u64 (vals.getD k 0)):=(World.cell?_of_block (hO.oth gv hg9 (Or.inr (by omega)))).trans hv9;obtain⟨y,hy⟩:∃ y,y=vals.getD k 0:=⟨_,rfl⟩;rw [← hy] at e9 HNX;clear hy hv9 hg9 hd0 hsb f1 f2 f3 hcc hcell hx0 hx1 hm hvc;generalize hxs:Xp x.v (ls.take k) (vals.take k)=xs at hF HNX hml;clear hxs;obtain⟨old,hold⟩:∃ o,wr.drew.cell? ⟨lg,m,none⟩=some o:=⟨.int .u64 (xs.getD m 0),(Zi hF.loc m).trans (by simp [uC,List.getD,hml])⟩;have zl:=frozen_of_row _ _ m _ _ hF.loc;have HX:=J (Zad (Yk hF (Below.refl wr.heap.size wr).drew) m y);have HOX:=J (Xi hO (Xi (Jr (lo:=lo) (hi:=hi) (Below.refl wr.heap.size wr).drew) (Ut wr.drew m (.int .u64 y) hF.gl hF.gh)));have HS:=J (show wr.drew.heap[q]?=some (.cells #[.slice bp x.fn.blocks.length bc,.int .i64 x.b,.int .i64 x.i,.slice (some ⟨lg,0,none⟩) xs.length xs.length,.slice sp x.s.length sc,.slice op x.o.length oc] 177 (0,0))∧wr.drew.cell? ⟨gv,k,none⟩=some (.int .u64 y) from⟨hF.row,e9⟩);have hkv:k<vals.length:=by omega
   have hqg:=hF.gq;have hgl:=hF.gh;clear hF hO;go_upto_region 3 with fail
   refine wp_region_held_drew (S:=fun V=>V.heap[q]?=some (.cells #[.slice bp x.fn.blocks.length bc,.int .i64 x.b,.int .i64 x.i,.slice (some ⟨lg,0,none⟩) xs.length xs.length,.slice sp x.s.length sc,.slice op x.o.length oc] 177 (0,0))∧V.cell? ⟨gv,k,none⟩=some (.int .u64 y)) (by kernel_rfl) (G HS) (fun hHeld=>?_);refine wpAnyH_take (i:=0) (v:=?v0) rfl (by kernel_rfl) (by kernel_rfl) (by kernel_rfl) (fun _ _ _ h=>h) (Or.inl ⟨by rfl,?hy0⟩) (by assumption) ?_;case hy0 =>
    intro V hV;obtain⟨g0,g1⟩:=hV;clear g0;go_simp;all_goals (with_reducible rfl)
   simp only [Act.put,zA,zB,zC,zD,zE];refine wpAnyH_take (i:=1) (v:=?v1) rfl (by kernel_rfl) (by kernel_rfl) (by kernel_rfl) (fun _ _ _ h=>h) (Or.inl ⟨by rfl,?hy1⟩) (by assumption) ?_;case hy1 =>
    intro V hV;obtain⟨g0,g1⟩:=hV;clear g0;go_simp;all_goals (with_reducible rfl)
   simp only [Act.put,zA,zB,zC,zD,zE,zF];refine wpAnyH_take (i:=2) (v:=?v2) rfl (by kernel_rfl) (by kernel_rfl) (by kernel_rfl) (fun _ _ _ h=>h) (Or.inl ⟨by rfl,?hy2⟩) (by assumption) ?_;case hy2 =>
    intro V hV;obtain⟨g0,g1⟩:=hV;clear g0;go_simp;all_goals (with_reducible rfl)
   simp only [Act.put,zA,zB,zC,zD,zE,zF];refine wpAnyH_take (i:=3) (v:=?v3) rfl (by kernel_rfl) (by kernel_rfl) (by kernel_rfl) (fun _ _ _ h=>h) (Or.inl ⟨by rfl,?hy3⟩) (by assumption) ?_;case hy3 =>
    intro V hV;obtain⟨g0,g1⟩:=hV;have c:=cR g0 3;clear g0;go_simp;all_goals (with_reducible rfl)
   simp only [Act.put,zA,zB,zC,zD,zE,zF];refine wpAnyH_take (i:=4) (v:=?v4) rfl (by kernel_rfl) (by kernel_rfl) (by kernel_rfl) (fun _ _ _ h=>h) (Or.inl ⟨by rfl,?hy4⟩) (by assumption) ?_;case hy4 =>
    intro V hV;obtain⟨g0,g1⟩:=hV;clear g0;go_simp;all_goals (with_reducible rfl)
   simp only [Act.put,zA,zB,zC,zD,zE,zF];refine wpAnyH_take (i:=5) (v:=?v5) rfl (by kernel_rfl) (by kernel_rfl) (by kernel_rfl) (fun _ _ _ h=>h) (Or.inl ⟨by rfl,?hy5⟩) (by assumption) ?_;case hy5 =>
    intro V hV;obtain⟨g0,g1⟩:=hV;clear g0;go_simp;all_goals (with_reducible rfl)
   simp only [Act.put,zA,zB,zC,zD,zE,zF];refine wpAnyH_take (i:=6) (v:=?v6) rfl (by kernel_rfl) (by kernel_rfl) (by kernel_rfl) (fun _ _ _ h=>h) (Or.inl ⟨by rfl,?hy6⟩) (by assumption) ?_;case hy6 =>
    intro V hV;obtain⟨g0,g1⟩:=hV;clear g0;go_simp;all_goals (with_reducible rfl)
   simp only [Act.put,zA,zB,zC,zD,zE,zF];refine wpAnyH_take (i:=7) (v:=?v7) rfl (by kernel_rfl) (by kernel_rfl) (by kernel_rfl) (fun _ _ _ h=>h) (Or.inl ⟨by rfl,?hy7⟩) (by assumption) ?_;case hy7 =>
    intro V hV;obtain⟨g0,g1⟩:=hV;clear g0;go_simp;all_goals (with_reducible rfl)
   simp only [Act.put,zA,zB,zC,zD,zE,zF];refine wpAnyH_take (i:=8) (v:=?v8) rfl (by kernel_rfl) (by kernel_rfl) (by kernel_rfl) (fun _ _ _ h=>h) (Or.inl ⟨by rfl,?hy8⟩) (by assumption) ?_;case hy8 =>
    intro V hV;obtain⟨g0,g1⟩:=hV;clear g0;go_simp;all_goals (with_reducible rfl)
   simp only [Act.put,zA,zB,zC,zD,zE,zF];refine wpAnyH_take (i:=9) (v:=?v9) rfl (by kernel_rfl) (by kernel_rfl) (by kernel_rfl) (fun _ _ _ h=>h) (Or.inl ⟨by rfl,?hy9⟩) (by assumption) ?_;case hy9 =>
    intro V hV;obtain⟨g0,g1⟩:=hV;clear g0;go_simp;all_goals (with_reducible rfl)
   simp only [Act.put,zA,zB,zC,zD,zE,zF];refine tO 10 fun K hK=>?_;go_simp;refine hK.out _ _ ⟨(heap_setCell_other _ _ _ _ (Ne.symm hqg)).trans (G HS).1,(World.cell?_of_block (heap_setCell_other _ _ _ _ (by show gv≠lg; omega))).trans (G HS).2⟩ (fun hHeld2=>?_);clear hK K hHeld hHeld2;try simp only [Act.put]
   refine wpAnyH_done (by kernel_rfl) ?_ _;go_wp2;go_roundw
   case rel=>exact⟨k+1,by go_num,by omega,by rw [G HNX]; exact G HX,G HOX⟩
   case measure=>simp [intOf]; omega
  ·
   have hkn:k=ls.length:=by omega
   subst hkn;have HF:=J (show Gn w0 wr { x with v:=Xp x.v ls vals } q lo hi lg bp sp op bc sc oc gs B by rw [List.take_length,Zgo (Nat.le_refl _)] at hF; exact hF);have HO:=J hO;clear hF hO;go_wp2;go_returns;exact⟨⟨_,rfl⟩,G HF,G HO⟩
theorem Rg {w wr w7:World}{n size:Nat}{e:TypeId}{v:Value}{xs:List Value}{X:Obj}(hb:Below w.heap.size w wr)(ho:wr.ownsRow w.heap.size e size v n xs)(hg:(wr.alloc X).grownBy w7 v.ownBlock):Below w.heap.size w w7:=by
 have ha:=Yj wr X;have hzz:=hb.size;refine⟨hg.os.trans (ha.2.1.os.trans hb.os),hg.tape.trans (ha.2.1.tape.trans hb.tape),hg.output.trans (ha.2.1.output.trans hb.output),by have:=hg.size; rw [ha.2.2] at this; omega,fun q hq=>?_⟩;exact(hg.block q (by rw [ha.2.2]; omega) (fun e=>by have:=(World.ownsRow.lt ho q e.symm).1; omega)).trans ((ha.2.1.block q (by omega)).trans (hb.block q hq))
theorem Dq (x:Xk)(l:List (Int×Int))(k:Nat)(h:k<l.length):Zv x (l.take (k+1))=Zv x (l.take k)++Ib x (l.getD k (0,0)):=by
 unfold Zv;rw [List.take_add_one,List.getElem?_eq_getElem h,List.flatMap_append,Yu l (0,0) k h];simp
structure Rh (x:Xk)(a:Int×Int):Prop where
 w0:0≤a.1
 w8:a.1≤8
 f0:0≤a.2
 v:a.1=0→a.2<x.v.length
 s:a.1≠0→a.2<x.s.length∧8*a.1≤(x.s.getD a.2.toNat []).length
theorem Uv (x:Xk)(l:List (Int×Int))(h:∀ k,k<l.length→Rh x (l.getD k (0,0))):∀ k,k≤l.length→(Zv x (l.take k)).length≤8*k
 | 0,_=>by simp [Zv]
 | k+1,hk=>by
  have ih:=Uv x l h k (by omega);rw [Dq x l k (by omega),List.length_append];have ho:=h k (by omega);have h1:=ho.w0;have h2:=ho.w8;generalize l.getD k (0,0)=a at ho h1 h2 ⊢;have:(Ib x a).length≤8:=by
   unfold Ib;split
   ·
    simp
   ·
    simp; omega
  omega
set_option maxHeartbeats 8000000 in
set_option maxRecDepth 100000 in
theorem Zaz (w0:World)(x:Xk)(q lo hi lg:Nat)(bp sp op:Option Addr)(bc sc oc:Nat)(gs:List Nat)(B:Nat→Value)(args:List (Int×Int))(ap:Option Addr)(ac:Nat)(w:World)(h:Gn w0 w x q lo hi lg bp sp op bc sc oc gs B)(hok:IOk x)(hbw0:Below w0.heap.size w0 w)(hl:LS 2 w0 (.slice ap args.length ac) args.length (fun k=>Yz (args.getD k (0,0))))(han:args.length≤100)(hA:∀ k,k<args.length→Rh x (args.getD k (0,0)))(hsl:∀ l ∈ x.s,l.length≤65536) :
 Calls Tryz.prog 85 #[.pointer (some ⟨q,0,none⟩),.slice ap args.length ac] w fun e w'=>∃ v,e=.returned v∧w'.ownsRow w.heap.size 62 1 v (Zv x args).length (uC (Zv x args))∧Below w.heap.size w w':=by
 obtain⟨ti,hti,hty0,hty1,hty2⟩:=Xs Tryz.infoU64;have H:=J h;have HL:=J (hl.below hbw0);have HA:=J hA;have HOK:=J hok;have HSL:=J hsl;have HLEN:=J (Uv x args hA);clear h hl hA hok hsl hbw0;go_enter Tryz.func85,Tryz.ntmps85
 go_wp2;go_loopw [13,5] (fun sk sv w'=>∃(k:Nat) (v:Value),sk=.int .i64 k∧sv=v∧k≤args.length∧w'.ownsRow w.heap.size 62 1 v (Zv x (args.take k)).length (uC (Zv x (args.take k)))∧Below w.heap.size w w') (fun sk _ _=>args.length-(intOf sk).toNat)
 case atStart=>exact⟨0,_,rfl,rfl,by omega,World.ownsRow_nil _ _ _ _,Below.refl _ _⟩
 case round =>
  obtain⟨k,v0,rfl,rfl,hk,how,hbw⟩:=hrel;obtain⟨vp,vc,rfl⟩:=Zm how;by_cases hk2:k<args.length
  ·
   obtain⟨p',c',e1,-,-,hcc⟩:=(G HL).below hbw;injection e1 with f1 f2 f3;obtain⟨sb,so,hsp,hsb,hcell⟩:=hcc (by omega);rw [← f1] at hsp;subst hsp;have hrg:=hcell k hk2;dsimp only at hrg;have ho:=G HA k hk2;have HNX:=J (Dq x args k hk2);have hln:=G HLEN k hk;generalize args.getD k (0,0)=a at hrg ho HNX;obtain⟨a1,a2⟩:=a;obtain⟨hw0,hw8,hf0,hov,hos⟩:=ho;simp only at hw0 hw8 hf0 hov hos;obtain⟨nw,rfl⟩:=Int.eq_ofNat_of_zero_le hw0;obtain⟨m,rfl⟩:=Int.eq_ofNat_of_zero_le hf0;have d0:=hrg 0 _ rfl;have d1:=hrg 1 _ rfl;rw [Nat.add_zero] at d0;obtain⟨acc,hacc⟩:∃ l,l=Zv x (args.take k):=⟨_,rfl⟩;rw [← hacc] at how HNX hln ⊢;have HOWR:=J how;have HBR:=J hbw;have hzr:=hbw.size;clear how hbw hcc hcell hrg f1 f2 f3 hacc;obtain⟨hra,hba,-⟩:=Yj wr (.cells #[.int .i64 (nw:Int),.int .i64 (m:Int)] 139 (0,0));go_upto_region 5 with fail
   clear d0 d1;generalize World.alloc wr _=V1 at hra hba ⊢;have HOW:=J (Yq (G HOWR) (fun g e=>hba.block g (World.ownsRow.lt (G HOWR) g e).2));have HBV:=J (Za (G HBR) hba hzr);have HFV:=J (Yk (G H) (G HBV));have HRA:=J hra;generalize wr.heap.size=ba at hra HRA hzr ⊢;clear hba HOWR HBR;by_cases hz:nw=0
   ·
    subst hz;have hml:m<x.v.length:=by have:=hov rfl; omega
    obtain⟨y,hy⟩:∃ y,y=x.v.getD m 0:=⟨_,rfl⟩;have HNX:=J (show Zv x (args.take (k+1))=acc++[y] by rw [G HNX,hy]; rfl);have a0:=cR hra 0;have HSA:=J (show(fun V=>V.heap[q]?=some (.cells #[.slice bp x.fn.blocks.length bc,.int .i64 x.b,.int .i64 x.i,.slice (some ⟨lg,0,none⟩) x.v.length x.v.length,.slice sp x.s.length sc,.slice op x.o.length oc] 177 (0,0))∧V.heap[ba]?=some (.cells #[.int .i64 0,.int .i64 (m:Int)] 139 (0,0))∧V.cell? ⟨lg,m,none⟩=some (.int .u64 y)) V1.drew from⟨(G HFV).row,hra,(Zi (G HFV).loc m).trans (by rw [hy]; simp [uC,List.getD,hml])⟩);clear hra hov hos hy;go_upto_region 6 with fail
    clear a0;refine wp_region_held_drew (S:=fun V=>V.heap[q]?=some (.cells #[.slice bp x.fn.blocks.length bc,.int .i64 x.b,.int .i64 x.i,.slice (some ⟨lg,0,none⟩) x.v.length x.v.length,.slice sp x.s.length sc,.slice op x.o.length oc] 177 (0,0))∧V.heap[ba]?=some (.cells #[.int .i64 0,.int .i64 (m:Int)] 139 (0,0))∧V.cell? ⟨lg,m,none⟩=some (.int .u64 y)) (by kernel_rfl) (G HSA) (fun hHeld=>?_);refine tX 0 ?_;simp only [Act.put,zA,zB,zC,zD,zE];refine tX 1 ?_;simp only [Act.put,zA,zB,zC,zD,zE,zF];refine tX 2 ?_;simp only [Act.put,zA,zB,zC,zD,zE,zF];refine tX 3 ?_;simp only [Act.put,zA,zB,zC,zD,zE,zF];refine wpAnyH_take (i:=4) (v:=?va4) rfl (by kernel_rfl) (by kernel_rfl) (by kernel_rfl) (fun _ _ _ h=>h) (Or.inl ⟨by rfl,?hya4⟩) (by assumption) ?_;case hya4 =>
     intro V hV;obtain⟨g0,g1,g2⟩:=hV;have c:=cR g0 3;clear g0 g1;go_simp;all_goals (with_reducible rfl)
    simp only [Act.put,zA,zB,zC,zD,zE,zF];refine tX 5 ?_;simp only [Act.put,zA,zB,zC,zD,zE,zF];refine wpAnyH_take (i:=6) (v:=?va6) rfl (by kernel_rfl) (by kernel_rfl) (by kernel_rfl) (fun _ _ _ h=>h) (Or.inl ⟨by rfl,?hya6⟩) (by assumption) ?_;case hya6 =>
     intro V hV;obtain⟨g0,g1,g2⟩:=hV;have c:=cR g1 1;clear g0 g1;go_simp;all_goals (with_reducible rfl)
    simp only [Act.put,zA,zB,zC,zD,zE,zF];refine tX 7 ?_;simp only [Act.put,zA,zB,zC,zD,zE,zF];refine tX 8 ?_;simp only [Act.put,zA,zB,zC,zD,zE,zF];refine tO 9 fun K hK=>?_;go_simp;obtain⟨r1,hb1,hz1⟩:=Yj V1.drew (.cells #[.int .u64 y] 62 (0,0));have HB1:=J hb1;have HOW1:=J (World.ownsRow.alloc (w:=V1.drew) (G HOW) (.cells #[.int .u64 y] 62 (0,0)));have c9:=cR r1 0;clear r1 hb1 hz1;refine hK.out _ _ (show _ from⟨((G HB1).block _ (Zd (G HSA).1)).trans (G HSA).1,((G HB1).block _ (Zd (G HSA).2.1)).trans (G HSA).2.1,((G HB1).cell (World.block_lt_of_cell? _ _ (G HSA).2.2)).trans (G HSA).2.2⟩) (fun hHeld2=>?_);clear hK K;try simp only [Act.put,zA,zB,zC,zD,zE,zF]
    refine tO 10 fun K hK=>?_;refine Ua rfl (.tmp 20) (.tmp 29) 30 rfl w.heap.size 62 ti _ 1 8 Tryz.underlying30 hti hty0 hty1 hty2 rfl (by decide) (.slice vp acc.length vc) acc.length (uC acc) rfl (G HOW1) ⟨V1.heap.size,0,none⟩ 1 1 [.int .u64 y] rfl rfl (by intro j u hj; match j,hj with | 0,hj=>(simp at hj; subst hj; exact c9)) (by intro u hu; simp at hu; subst hu; rfl) (by unfold maxLen; omega) (by omega) (by have:=(G HBV).size; simp; omega) ?_;intro v7 w7 hown7 hgr7;have hFd:=G HFV;have hH1:=(G H).hs;have hH2:=(G H).qh;have hH3:=(G H).gh;have hS7:(fun V=>V.heap[q]?=some (.cells #[.slice bp x.fn.blocks.length bc,.int .i64 x.b,.int .i64 x.i,.slice (some ⟨lg,0,none⟩) x.v.length x.v.length,.slice sp x.s.length sc,.slice op x.o.length oc] 177 (0,0))∧V.heap[ba]?=some (.cells #[.int .i64 0,.int .i64 (m:Int)] 139 (0,0))∧V.cell? ⟨lg,m,none⟩=some (.int .u64 y)) w7:=⟨(hgr7.block q (by have:=Zd (G HSA).1; simp; exact Nat.lt_succ_of_lt this) (fun e=>by have:=(World.ownsRow.lt (G HOW) q e.symm).1; omega)).trans (((G HB1).block _ (Zd (G HSA).1)).trans (G HSA).1),(hgr7.block ba (by have:=Zd (G HSA).2.1; simp; exact Nat.lt_succ_of_lt this) (fun e=>Xu (G HOW) (show V1.heap[ba]?=_ from(G HSA).2.1) (by decide) e.symm)).trans (((G HB1).block _ (Zd (G HSA).2.1)).trans (G HSA).2.1),(World.cell?_of_block (hgr7.block lg (by have:=Zd hFd.loc; simp; exact Nat.lt_succ_of_lt this) (fun e=>by have:=(World.ownsRow.lt (G HOW) lg e.symm).1; omega))).trans (((G HB1).cell (World.block_lt_of_cell? _ _ (G HSA).2.2)).trans (G HSA).2.2)⟩
    have HX:=J (show w7.ownsRow w.heap.size 62 1 v7 (acc++[y]).length (uC (acc++[y])) by rw [Uu,List.length_append]; exact hown7);have HB7:=J (Rg (G HBV).drew (G HOW) hgr7);clear hown7 hgr7 hFd hH1 hH2 hH3 c9;refine hK.out _ _ hS7 (fun hHeld3=>?_);clear hK K hS7;try simp only [Act.put,zA,zB,zC,zD,zE,zF]
    refine tX 11 ?_;simp only [Act.put,zA,zB,zC,zD,zE,zF];refine wpAnyH_done (by kernel_rfl) ?_ _;clear hHeld hHeld2 hHeld3 HSA HB1 HOW1 HOW;go_wp2;go_roundw
    case rel=>exact⟨k+1,_,by go_num,rfl,by omega,by rw [G HNX]; exact G HX,G HB7⟩
    case measure=>simp [intOf]; omega
   ·
    have hzz:¬ ((nw:Int)=0):=by omega
    obtain⟨hsl,hs8⟩:=hos hzz;have hml:m<x.s.length:=by omega
    have zz:((nw:Int)==0)=false:=by simp; omega
    obtain⟨s0,hsp,hsc⟩:=Mm (G HFV) hml;subst hsp;obtain⟨ga,hga⟩:∃ g,g=gs.getD m 0:=⟨_,rfl⟩;obtain⟨bs,hbs⟩:∃ l,l=x.s.getD m []:=⟨_,rfl⟩;have hgr:=((G HFV).each m hml).1;have hmem:bs ∈ x.s:=by rw [hbs]; simp [List.getD,hml]
    have HBL:=J (G HSL bs hmem);have HBY:=J (fun n hn=>(G HOK).s bs hmem n hn);rw [← hga,← hbs] at hsc hgr;rw [Int.toNat_natCast,← hbs] at hs8;have HNX:=J (show Zv x (args.take (k+1))=acc++(List.range nw).map (fun j=>Ns bs (8*j) 8) by rw [G HNX,hbs]; unfold Ib; rw [if_neg hzz]; rfl);have a0:=cR hra 0;have HGA:=J hga;have HBS:=J hbs;have HSC:=J hsc;clear hra hov hos hgr hsc hga hbs hmem hsl;have hnw8:nw≤8:=by omega
    go_wp2;clear a0;go_loopw [33,5] (fun sj sv w'=>∃(j:Nat) (v:Value),sj=.int .i64 j∧sv=v∧j≤nw∧w'.ownsRow w.heap.size 62 1 v (acc++(List.range j).map (fun j=>Ns bs (8*j) 8)).length (uC (acc++(List.range j).map (fun j=>Ns bs (8*j) 8)))∧Below w.heap.size w w'∧w'.heap[ba]?=some (.cells #[.int .i64 (nw:Int),.int .i64 (m:Int)] 139 (0,0))) (fun sj _ _=>nw-(intOf sj).toNat)
    case atStart=>exact⟨0,_,rfl,rfl,by omega,by simpa using G HOW,G HBV,G HRA⟩
    case round =>
     obtain⟨j,vj,rfl,rfl,hj,how,hbw,hbar⟩:=hrel;by_cases hj2:j<nw
     ·
      have HNJ:=J (show acc++(List.range (j+1)).map (fun j=>Ns bs (8*j) 8)=(acc++(List.range j).map (fun j=>Ns bs (8*j) 8))++[Ns bs (8*j) 8] by rw [List.range_succ,List.map_append,← List.append_assoc]; rfl);have hlj:(acc++(List.range j).map (fun j=>Ns bs (8*j) 8)).length≤8*k+8:=by simp; omega
      generalize acc++(List.range j).map (fun j=>Ns bs (8*j) 8)=acc at how HNJ hlj ⊢;obtain⟨vp,vc,rfl⟩:=Zm how;have hF:=Yk (G H) hbw;have hsc2:wr.cell? ⟨s0,m,none⟩=some (.slice (some ⟨ga,0,none⟩) bs.length bs.length):=by
       obtain⟨s1,e1,hc⟩:=Mm hF hml;injection e1 with e1;injection e1 with e1;subst e1;obtain⟨s2,e2,hc2⟩:=Mm (G HFV) hml;injection e2 with e2;injection e2 with e2;subst e2;exact hc.trans (hc2.symm.trans (G HSC))
      have hgr2:wr.heap[ga]?=some (.cells (yC bs).toArray 5 (0,0)):=by rw [G HGA,G HBS]; exact(hF.each m hml).1
      have HSB:=J (show(fun V=>V.heap[q]?=some (.cells #[.slice bp x.fn.blocks.length bc,.int .i64 x.b,.int .i64 x.i,.slice (some ⟨lg,0,none⟩) x.v.length x.v.length,.slice (some ⟨s0,0,none⟩) x.s.length sc,.slice op x.o.length oc] 177 (0,0))∧V.heap[ba]?=some (.cells #[.int .i64 (nw:Int),.int .i64 (m:Int)] 139 (0,0))∧V.cell? ⟨s0,m,none⟩=some (.slice (some ⟨ga,0,none⟩) bs.length bs.length)) wr.drew from⟨hF.row,hbar,hsc2⟩);have HLC:=J (show Calls Tryz.prog 104 #[.slice (some ⟨ga,0,none⟩) bs.length bs.length,.int .i64 (8*(j:Int)),.int .i64 8] wr.drew (fun e w'=>e=.returned (.tuple #[.int .u64 (Ns bs (8*j) 8),.nilIface])∧w'=wr.drew) from Zfj bs ga (8*j) 8 wr.drew hgr2 (G HBY) rfl (by omega) (G HBL));have hwj:IntKind.i64.wrap (8*(j:Int))=8*(j:Int):=by rw [IntKind.wrap_i64]; omega
      obtain⟨y,hy⟩:∃ y,y=Ns bs (8*j) 8:=⟨_,rfl⟩;rw [← hy] at HLC HNJ;clear hy;have HOW:=J how;have HBV:=J hbw;clear how hbw hbar hF hsc2 hgr2;go_upto_region 10 with fail
      refine wp_region_held_drew (S:=fun V=>V.heap[q]?=some (.cells #[.slice bp x.fn.blocks.length bc,.int .i64 x.b,.int .i64 x.i,.slice (some ⟨lg,0,none⟩) x.v.length x.v.length,.slice (some ⟨s0,0,none⟩) x.s.length sc,.slice op x.o.length oc] 177 (0,0))∧V.heap[ba]?=some (.cells #[.int .i64 (nw:Int),.int .i64 (m:Int)] 139 (0,0))∧V.cell? ⟨s0,m,none⟩=some (.slice (some ⟨ga,0,none⟩) bs.length bs.length)) (by kernel_rfl) (G HSB) (fun hHeld=>?_);refine tX 0 ?_;simp only [Act.put,zA,zB,zC,zD,zE];refine tX 1 ?_;simp only [Act.put,zA,zB,zC,zD,zE,zF];refine tX 2 ?_;simp only [Act.put,zA,zB,zC,zD,zE,zF];refine wpAnyH_take (i:=3) (v:=?vb3) rfl (by kernel_rfl) (by kernel_rfl) (by kernel_rfl) (fun _ _ _ h=>h) (Or.inl ⟨by rfl,?hyb3⟩) (by assumption) ?_;case hyb3 =>
       intro V hV;obtain⟨g0,g1,g2⟩:=hV;have c:=cR g0 4;clear g0 g1;go_simp;all_goals (with_reducible rfl)
      simp only [Act.put,zA,zB,zC,zD,zE,zF];refine tX 4 ?_;simp only [Act.put,zA,zB,zC,zD,zE,zF];refine wpAnyH_take (i:=5) (v:=?vb5) rfl (by kernel_rfl) (by kernel_rfl) (by kernel_rfl) (fun _ _ _ h=>h) (Or.inl ⟨by rfl,?hyb5⟩) (by assumption) ?_;case hyb5 =>
       intro V hV;obtain⟨g0,g1,g2⟩:=hV;have c:=cR g1 1;clear g0 g1;go_simp;all_goals (with_reducible rfl)
      simp only [Act.put,zA,zB,zC,zD,zE,zF];refine tX 6 ?_;simp only [Act.put,zA,zB,zC,zD,zE,zF];refine tX 7 ?_;simp only [Act.put,zA,zB,zC,zD,zE,zF];refine tX 8 ?_;simp only [Act.put,zA,zB,zC,zD,zE,zF];refine tX 9 ?_;simp only [Act.put,zA,zB,zC,zD,zE,zF];refine tO 10 fun K hK=>?_;go_simp;refine(G HLC).mono ?_;rintro e w5 ⟨rfl,hw5⟩;subst w5;refine hK.out _ _ (G HSB) (fun hHeld2=>?_);clear hK K;try simp only [Act.put,zA,zB,zC,zD,zE,zF]
      refine tX 11 ?_;simp only [Act.put,zA,zB,zC,zD,zE,zF];refine tX 12 ?_;simp only [Act.put,zA,zB,zC,zD,zE,zF];refine tX 13 ?_;simp only [Act.put,zA,zB,zC,zD,zE,zF];refine tX 14 ?_;simp only [Act.put,zA,zB,zC,zD,zE,zF];refine tX 15 ?_;simp only [Act.put,zA,zB,zC,zD,zE,zF];refine wpAnyH_done (by kernel_rfl) ?_ _;clear hHeld hHeld2;go_wp2_with (at_builtin; refine wpList_append_own _ rfl _ _ 30 rfl w.heap.size 62 ti _ 1 8 Tryz.underlying30 hti hty0 hty1 hty2 rfl (by decide) _ _ _ rfl (World.ownsRow.alloc (w:=wr.drew) (G HOW) _) ⟨wr.heap.size,0,none⟩ 1 1 [.int .u64 y] rfl rfl (by intro j u hj; match j,hj with | 0,hj=>(simp at hj; subst hj; simp [Addr.add])) (by intro u hu; simp at hu; subst hu; rfl) ?c3 ?c4 ?c5 ?_)
      case c3=>unfold maxLen; omega
      case c4=>omega
      case c5=>have:=(G HBV).size; first | omega | (simp; omega)
      intro v7 w7 hown7 hgr7 _;have HX:=J (show w7.ownsRow w.heap.size 62 1 v7 (acc++[y]).length (uC (acc++[y])) by rw [Uu,List.length_append]; exact hown7);have HB7:=J (Rg (G HBV).drew (G HOW) hgr7);have hba:=hgr7.block ba (by have:=Zd (G HSB).2.1; simp; exact Nat.lt_succ_of_lt this) (fun e=>Xu (G HOW) (show wr.heap[ba]?=_ from(G HSB).2.1) (by decide) e.symm);have HBA:=J (show w7.heap[ba]?=some (.cells #[.int .i64 (nw:Int),.int .i64 (m:Int)] 139 (0,0)) from hba.trans (((Yj wr.drew (.cells #[.int .u64 y] 62 (0,0))).2.1.block ba (Zd (G HSB).2.1)).trans (G HSB).2.1));clear hown7 hgr7 hba HOW HSB HLC;go_wp2;go_roundw
      case rel=>exact⟨j+1,_,by go_num,rfl,by omega,by rw [G HNJ]; exact G HX,G HB7,G HBA⟩
      case measure=>simp [intOf]; omega
     ·
      have hjn:j=nw:=by omega
      subst hjn;rw [← G HNX] at how;have HOX:=J how;have HBX:=J hbw;clear how hbw hbar;go_wp2;go_roundw
      case rel=>exact⟨k+1,_,by go_num,rfl,by omega,G HOX,G HBX⟩
      case measure=>simp [intOf]; omega
  ·
   have hkn:k=args.length:=by omega
   subst hkn;rw [List.take_length] at how ⊢;have HOW:=J how;have HBW:=J hbw;clear how hbw;go_wp2;go_ret;exact⟨_,rfl,G HOW,G HBW⟩
def Lv (w:World)(v:Value)(ws:List Int):Prop:=∃ p cap,v=.slice p ws.length cap∧ws.length≤cap∧ws.length<4611686018427387904∧(0<ws.length→∃ sb so,p=some ⟨sb,so,none⟩∧∀ i,i<ws.length→w.cell? ⟨sb,so+i,none⟩=some (.int .u64 (ws.getD i 0)))
theorem Yx {w w':World}{v:Value}{ws:List Int}(h:Lv w v ws)(hb:Below w.heap.size w w'):Lv w' v ws:=by
 obtain⟨p,cap,h1,h2,h3,h4⟩:=h;refine⟨p,cap,h1,h2,h3,fun h0=>?_⟩;obtain⟨sb,so,e,hc⟩:=h4 h0;exact⟨sb,so,e,fun i hi=>(hb.cell (p:=⟨sb,so+i,none⟩) (World.block_lt_of_cell? w _ (hc i hi))).trans (hc i hi)⟩
def Jz (bs ws:List Int)(k:Nat):List Int:=(List.range k).foldl (fun b k=>Sd b (8*k) 8 (ws.getD k 0)) bs
theorem Ly (bs ws:List Int)(k:Nat):Jz bs ws (k+1)=Sd (Jz bs ws k) (8*k) 8 (ws.getD k 0):=by
 unfold Jz;rw [List.range_succ,List.foldl_append];rfl
theorem Oa (bs ws:List Int):∀ k,(Jz bs ws k).length=bs.length
 | 0=>rfl
 | k+1=>by rw [Ly,Rc,Oa bs ws k]
structure Ok (g:Nat)(w w':World):Prop where
 os:w'.os=w.os
 tape:w'.tape=w.tape
 output:w'.output=w.output
 size:w'.heap.size=w.heap.size
 oth:∀ q:Nat,q≠g→w'.heap[q]?=w.heap[q]?
set_option maxHeartbeats 4000000 in
set_option maxRecDepth 100000 in
theorem Znq (q g:Nat)(bs ws:List Int)(wp:Option Addr)(wc:Nat)(w:World)(hr:w.heap[g]?=some (.cells (yC bs).toArray 5 (0,0)))(hw:Lv w (.slice wp ws.length wc) ws)(hle:8*ws.length≤bs.length)(hbl:bs.length≤65536) :
 Calls Tryz.prog 81 #[.pointer (some ⟨q,0,none⟩),.slice (some ⟨g,0,none⟩) bs.length bs.length,.slice wp ws.length wc] w fun e w'=>(∃ v,e=.returned v)∧w'.heap[g]?=some (.cells (yC (Rj bs ws)).toArray 5 (0,0))∧Ok g w w':=by
 have HR:=J hr;have HW:=J hw;clear hr hw;go_enter Tryz.func81,Tryz.ntmps81
 go_wp2;go_loopw [10] (fun sk w'=>∃(k:Nat),sk=.int .i64 k∧k≤ws.length∧w'.heap[g]?=some (.cells (yC (Jz bs ws k)).toArray 5 (0,0))∧Ok g w w') (fun sk _=>ws.length-(intOf sk).toNat)
 case atStart=>exact⟨0,rfl,by omega,G HR,⟨rfl,rfl,rfl,rfl,fun _ _=>rfl⟩⟩
 case round =>
  obtain⟨k,rfl,hk,hg,hO⟩:=hrel;by_cases hk2:k<ws.length
  ·
   obtain⟨p',c',e1,-,-,hcc⟩:=G HW;injection e1 with f1 f2 f3;obtain⟨sb,so,hsp,hcell⟩:=hcc (by omega);rw [← f1] at hsp;subst hsp;have hd:=hcell k hk2;have hsg:sb≠g:=fun e=>by
    subst e;have h0:=(Zi (G HR) (so+k)).symm.trans hd;simp [yC] at h0
   have d:wr.cell? ⟨sb,so+k,none⟩=some (.int .u64 (ws.getD k 0)):=(World.cell?_of_block (hO.oth sb hsg)).trans hd;obtain⟨y,hy⟩:∃ y,y=ws.getD k 0:=⟨_,rfl⟩;have hl:=Oa bs ws k;have HNX:=J (show Jz bs ws (k+1)=Sd (Jz bs ws k) (8*k) 8 y by rw [Ly,hy]);rw [← hy] at d;clear hy hd f1 f2 f3 hcc hcell hsg;generalize Jz bs ws k=cs at hg hl HNX;have HC:=J (show Calls Tryz.prog 103 #[.slice (some ⟨g,0,none⟩) bs.length bs.length,.int .i64 (8*(k:Int)),.int .i64 8,.int .u64 y] wr (fun e w'=>e=.returned .nilIface∧w'=Uz wr g (8*k) y 8) from by rw [← hl]; exact Zcn cs g (8*k) 8 y wr hg rfl (by omega) (by omega));have hwk:IntKind.i64.wrap (8*(k:Int))=8*(k:Int):=by rw [IntKind.wrap_i64]; omega
   have HG:=J hg;have HO:=J hO;clear hg hO hl;go_wp2_with fail
   refine(G HC).mono ?_;rintro e w5 ⟨rfl,hw5⟩;have HX:=J (show w5.heap[g]?=some (.cells (yC (Jz bs ws (k+1))).toArray 5 (0,0)) by rw [hw5,G HNX]; exact Rd wr g (8*k) y cs (G HG) 8);have HO5:=J (show Ok g w w5 by
    have h:=G HO;have hs:=Mt wr g (8*k) y 8;rw [hw5];exact⟨hs.1.trans h.os,hs.2.1.trans h.tape,hs.2.2.trans h.output,(Oj wr g (8*k) y 8).trans h.size,fun b hb=>(Jc wr g (8*k) y b hb 8).trans (h.oth b hb)⟩)
   clear hw5 HC HG HO d;go_wp2;go_roundw
   case rel=>exact⟨k+1,by go_num,by omega,G HX,G HO5⟩
   case measure=>simp [intOf]; omega
  ·
   have hkn:k=ws.length:=by omega
   subst hkn;have HG:=J hg;have HO:=J hO;clear hg hO;go_wp2;go_returns;exact⟨⟨_,rfl⟩,G HG,G HO⟩
theorem Tryz.infoU8:(Tryz.prog.info? 5).map (fun i=>(i.zero,i.size,i.bytes))=some (some (.int .u8 0),1,1):=by kernel_rfl
theorem Ri (z:Value)(n:Nat):madeCells #[z] n=(List.replicate n z).toArray:=by
 apply Array.ext'
 apply List.ext_getElem?
 intro i;by_cases h:i<n
 ·
  simp [madeCells,h,Nat.mod_one]
 ·
  simp [madeCells,h]
theorem mkU (n:Nat)(hn:n≤1000000)(w:World):(Instr.makeSlice 30 (.int .i64 (n:Int)) (.int .i64 (n:Int))).run Tryz.prog w=.ok (.slice (some ⟨w.heap.size,0,none⟩) n n) (w.alloc (.cells (uC (List.replicate n 0)).toArray 62)):=by
 obtain⟨ti,hti,hz0,hz1,hz2⟩:=Xs Tryz.infoU64;have h:=run_make (P:=Tryz.prog) w 30 62 ti _ Tryz.underlying30 hti hz0 .i64 .i64 (n:Int) (n:Int) (by omega) (Int.le_refl _) (by rw [hz2]; omega) (by omega);rw [hz1,Int.toNat_natCast,Nat.mul_one,show(Value.int IntKind.u64 0).cells=#[.int .u64 0] from rfl,Ri,show List.replicate n (Value.int IntKind.u64 0)=uC (List.replicate n 0) by simp [uC]] at h;exact h
theorem mkY (n:Nat)(hn:n≤1000000)(w:World):(Instr.makeSlice 178 (.int .i64 (n:Int)) (.int .i64 (n:Int))).run Tryz.prog w=.ok (.slice (some ⟨w.heap.size,0,none⟩) n n) (w.alloc (.cells (yC (List.replicate n 0)).toArray 5)):=by
 obtain⟨ti,hti,hz0,hz1,hz2⟩:=Xs Tryz.infoU8;have h:=run_make (P:=Tryz.prog) w 178 5 ti _ Tryz.underlying178 hti hz0 .i64 .i64 (n:Int) (n:Int) (by omega) (Int.le_refl _) (by rw [hz2]; omega) (by omega);rw [hz1,Int.toNat_natCast,Nat.mul_one,show(Value.int IntKind.u8 0).cells=#[.int .u8 0] from rfl,Ri,show List.replicate n (Value.int IntKind.u8 0)=yC (List.replicate n 0) by simp [yC]] at h;exact h
theorem Tryz.infoBy:(Tryz.prog.info? 178).map (fun i=>(i.zero,i.size,i.bytes))=some (some (.slice none 0 0),1,24):=by kernel_rfl
theorem Ob {w:World}{B e size n:Nat}{v:Value}{xs:List Value}(h:w.ownsRow B e size v (n+1) xs):∃ g c,v=.slice (some ⟨g,0,none⟩) (n+1) c:=by
 rcases h.2 with⟨-,e0⟩ | ⟨g,cap,cur,e,-⟩
 ·
  omega
 ·
  exact⟨g,cap,e⟩
theorem Zcq (gs:List Nat)(ns:List Nat)(g n:Nat)(h:gs.length=ns.length):Ic (gs++[g]) (ns++[n])=Ic gs ns++[.slice (some ⟨g,0,none⟩) n n]:=by
 unfold Ic;rw [List.length_append,List.length_singleton,List.range_succ,List.map_append];congr 1
 ·
  apply List.map_congr_left
  intro k hk;have hk:=List.mem_range.1 hk;have e1:(gs++[g]).getD k 0=gs.getD k 0:=by simp only [List.getD,List.getElem?_append_left (show k<gs.length by omega)]
  have e2:(ns++[n]).getD k 0=ns.getD k 0:=by simp only [List.getD,List.getElem?_append_left hk]
  rw [e1,e2]
 ·
  simp [List.getD,← h]
theorem Zcr (ss:List (List Int))(l:List Int)(k:Nat):(ss++[l]).getD k []=if k=ss.length then l else ss.getD k []:=by
 by_cases h:k=ss.length
 ·
  subst h;simp [List.getD]
 ·
  rw [if_neg h];by_cases h2:k<ss.length
  ·
   simp only [List.getD,List.getElem?_append_left h2]
  ·
   simp [List.getD,show ¬ k<ss.length+1 by omega,h2]
theorem Oc (gs:List Nat)(g k:Nat):(gs++[g]).getD k 0=if k=gs.length then g else gs.getD k 0:=by
 by_cases h:k=gs.length
 ·
  subst h;simp [List.getD]
 ·
  rw [if_neg h];by_cases h2:k<gs.length
  ·
   simp only [List.getD,List.getElem?_append_left h2]
  ·
   simp [List.getD,show ¬ k<gs.length+1 by omega,h2]
theorem Zlg {w0 wr w7:World}{x:Xk}{q lo lg bc sc oc g7 c7:Nat}{bp sp op:Option Addr}{gs:List Nat}{B:Nat→Value}{l:List Int}{Z:Obj}(h:Gn w0 wr x q lo wr.heap.size lg bp sp op bc sc oc gs B)
 (hg:((wr.alloc (.cells (yC l).toArray 5 (0,0))).alloc Z).grownBy w7 (Value.slice sp x.s.length sc).ownBlock) (ho:w7.ownsRow lo 178 1 (.slice (some ⟨g7,0,none⟩) (x.s.length+1) c7) (x.s.length+1) (Ic gs (x.s.map List.length)++[.slice (some ⟨wr.heap.size,0,none⟩) l.length l.length])) :
 Gn w0 (w7.setCell ⟨q,4,none⟩ (.slice (some ⟨g7,0,none⟩) (x.s.length+1) c7)) { x with s:=x.s++[l] } q lo w7.heap.size lg bp (some ⟨g7,0,none⟩) op bc c7 oc (gs++[wr.heap.size]) B:=by
 obtain⟨r1,b1,z1⟩:=Yj wr (.cells (yC l).toArray 5 (0,0));obtain⟨-,b2,z2⟩:=Yj (wr.alloc (.cells (yC l).toArray 5 (0,0))) Z;have hz:=hg.size;have hold:∀ g,g<wr.heap.size→(Value.slice sp x.s.length sc).ownBlock≠some g→w7.heap[g]?=wr.heap[g]?:=fun g h1 h2=>(hg.block g (by omega) (fun e=>h2 e.symm)).trans ((b2.block g (by omega)).trans (b1.block g h1));have nq:(Value.slice sp x.s.length sc).ownBlock≠some q:=Xu h.slo h.row (by decide);have nl:(Value.slice sp x.s.length sc).ownBlock≠some lg:=Xu h.slo h.loc (by decide);have hq7:=(hold q h.qh nq).trans h.row;have hl7:=(hold lg h.gh nl).trans h.loc;have hn7:w7.heap[wr.heap.size]?=some (.cells (yC l).toArray 5 (0,0)):=by
  refine(hg.block wr.heap.size (by omega) (fun e=>?_)).trans ((b2.block _ (by omega)).trans r1);have:=(World.ownsRow.lt h.slo wr.heap.size e.symm).2;omega
 have ot:∀ g,g≠q→(w7.setCell ⟨q,4,none⟩ (.slice (some ⟨g7,0,none⟩) (x.s.length+1) c7)).heap[g]?=w7.heap[g]?:=fun g hg=>heap_setCell_other _ _ _ _ hg;have hlen:({ x with s:=x.s++[l] }:Xk).s.length=x.s.length+1:=by simp
 have hq:=h.qh;have hgl:=h.gh;refine⟨h.ql,by omega,h.gl,by omega,h.gq,by simp,?_,(ot _ h.gq).trans hl7,?_,?_,by rw [hlen]; simp [h.len],fun k hk=>?_,fun j k hjk hkl=>?_,h.bls,h.blk,h.ous⟩
 ·
  rw [hlen];exact heap_setCell_same _ _ 4 _ _ _ hq7
 ·
  rw [hlen,show({ x with s:=x.s++[l] }:Xk).s.map List.length=x.s.map List.length++[l.length] by simp,Zcq _ _ _ _ (by rw [h.len]; simp)];exact Yq ho (fun g e=>ot g (fun e2=>Xu ho hq7 (by decide) (by rw [e,e2])))
 ·
  rw [hlen];intro g e;exact(World.ownsRow.lt ho g e).2
 ·
  rw [hlen] at hk;show(w7.setCell _ _).heap[(gs++[wr.heap.size]).getD k 0]?=some (.cells (yC ((x.s++[l]).getD k [])).toArray _ _)∧lo≤(gs++[wr.heap.size]).getD k 0∧(gs++[wr.heap.size]).getD k 0<w7.heap.size;rw [Zcr,Oc,h.len];by_cases he:k=x.s.length
  ·
   rw [if_pos he,if_pos he];exact⟨(ot _ (by omega)).trans hn7,by have:=h.ql; omega,by omega⟩
  ·
   rw [if_neg he,if_neg he];have hk2:k<x.s.length:=by omega
   obtain⟨h1,h2,h3⟩:=h.each k hk2;exact⟨(ot _ (Zs h1 h.row (by decide))).trans ((hold _ h3 (Xu h.slo h1 (by decide))).trans h1),h2,by omega⟩
 ·
  rw [List.length_append,List.length_singleton] at hkl;rw [Oc,Oc];have hj:j≠gs.length:=by omega
  rw [if_neg hj];by_cases he:k=gs.length
  ·
   rw [if_pos he];exact(h.each j (by have:=h.len; omega)).2.2
  ·
   rw [if_neg he];exact h.inj j k hjk (by omega)
end Go.Proofs.YteddfaconabobaaGreatDoor
