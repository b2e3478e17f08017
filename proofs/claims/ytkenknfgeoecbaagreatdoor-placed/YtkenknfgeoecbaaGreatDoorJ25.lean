import Derived.Test.YtkenknfgeoecbaaGreatDoorJ20
import Derived.Test.YtkenknfgeoecbaaGreatDoorJ27
namespace Go.Proofs.YtkenknfgeoecbaaGreatDoor
open Go.RowKit
structure Jq where
 u:Nat
 c:Int
 p:Int
structure Zfx where
 pl:List (Int×Int)
 ref:Bool
 at_:Int
structure Zce where
 args:List Zfx
 res:List (Int×Int)
 size:Int
 copies:Int
def Oj (br n:Int):Nat:=if n=0∨br<n then 1 else n.toNat
def Rz (pr:Bool)(w u:Nat):Nat:=if (decide (1<w)&&(pr&&decide (u % 2=1)))=true then u+1 else u
def rgS (L w u1:Nat):Bool:=decide (u1+w≤L)
def plS (ag:List Int)(rg:Bool)(u1:Nat)(c:Int)(i:Nat):Int×Int:=if rg=true then (ag.getD (u1+i) 0,0) else (-1,c+8*i)
def Md (L:Nat)(br:Int)(pr:Bool)(n:Int)(s:Jq):Jq :=
 ⟨if rgS L (Oj br n) (Rz pr (Oj br n) s.u)=true then Rz pr (Oj br n) s.u+Oj br n else if 1<Oj br n then L else Rz pr (Oj br n) s.u,
  if rgS L (Oj br n) (Rz pr (Oj br n) s.u)=true then s.c else s.c+8*Oj br n,if br<n then s.p+8*n else s.p⟩
def Ch (ag:List Int)(br:Int)(pr:Bool)(n:Int)(s:Jq):Zfx :=
 ⟨(List.range (Oj br n)).map (plS ag (rgS ag.length (Oj br n) (Rz pr (Oj br n) s.u)) (Rz pr (Oj br n) s.u) s.c),decide (br<n),if br<n then s.p else 0⟩
def Ml (L:Nat)(br:Int)(pr:Bool)(ps:List Int)(sh:Int):Nat→Jq
 | 0=>⟨0,sh,0⟩
 | k+1=>Md L br pr (ps.getD k 0) (Ml L br pr ps sh k)
def Gb (ag:List Int)(br:Int)(pr:Bool)(ps:List Int)(sh:Int)(k:Nat):Zfx:=Ch ag br pr (ps.getD k 0) (Ml ag.length br pr ps sh k)
def Kd (rs:List Int)(c:Int)(k:Nat):Int×Int:=if k<rs.length then (rs.getD k 0,0) else (-1,c+8*((k-rs.length:Nat):Int))
def Xd (rs:List Int)(c:Int)(k:Nat):Int:=c+8*((k-rs.length:Nat):Int)
def Nf (ag rs:List Int)(br:Int)(pr:Bool)(sh:Int)(ps:List Int)(n:Int):Zce :=
 ⟨(List.range ps.length).map (Gb ag br pr ps sh),(List.range n.toNat).map (Kd rs (Ml ag.length br pr ps sh ps.length).c),Xd rs (Ml ag.length br pr ps sh ps.length).c n.toNat,(Ml ag.length br pr ps sh ps.length).p⟩
theorem Znt (br n:Int)(h:0≤n):1≤Oj br n:=by unfold Oj; split <;> omega
theorem Zku (br n:Int)(h:n≤8):Oj br n≤8:=by unfold Oj; split <;> omega
theorem Zfy (pr:Bool)(u:Nat):Rz pr 1 u=u:=by unfold Rz; simp
theorem Zya {L:Nat}{br:Int}{pr:Bool}{n:Int}{s:Jq}(hn:0≤n)(hu:s.u≤L):(Md L br pr n s).u≤L:=by
 unfold Md;simp only;split
 ·rename_i h;unfold rgS at h;exact of_decide_eq_true h
 ·split
  ·exact Nat.le_refl _
  ·have h1:Oj br n=1:=by have:=Znt br n hn; omega
   rw [h1,Zfy];exact hu
theorem Zyb {L:Nat}{br:Int}{pr:Bool}{n:Int}{s:Jq}(hn:n≤8):s.c≤(Md L br pr n s).c∧(Md L br pr n s).c≤s.c+64:=by have:=Zku br n hn;unfold Md;simp only;split <;> omega
theorem Zyc {L:Nat}{br:Int}{pr:Bool}{n:Int}{s:Jq}(h0:0≤n)(hn:n≤8):s.p≤(Md L br pr n s).p∧(Md L br pr n s).p≤s.p+64:=by unfold Md;simp only;split <;> omega
structure Yha (L:Nat)(sh:Int)(k:Nat)(s:Jq):Prop where
 u:s.u≤L
 c0:sh≤s.c
 c1:s.c≤sh+64*k
 p0:0≤s.p
 p1:s.p≤64*k
theorem Kv {L:Nat}{br:Int}{pr:Bool}{ps:List Int}{sh:Int}(hps:Xc ps 0 8=true):∀ k,k≤ps.length→Yha L sh k (Ml L br pr ps sh k)
 | 0,_=>⟨Nat.zero_le _,Int.le_refl _,by show sh≤sh+64*((0:Nat):Int); omega,Int.le_refl _,by show(0:Int)≤64*((0:Nat):Int); omega⟩
 | k+1,h=>by
  have ih:=Kv (L:=L) (br:=br) (pr:=pr) (sh:=sh) hps k (by omega);have hk:=Ga hps (k:=k) (by omega);unfold Gq at hk;obtain⟨h0,h8⟩:=of_decide_eq_true hk;have hc:=Zyb (L:=L) (br:=br) (pr:=pr) (s:=Ml L br pr ps sh k) h8;have hp:=Zyc (L:=L) (br:=br) (pr:=pr) (s:=Ml L br pr ps sh k) h0 h8;have i1:=ih.c0;have i2:=ih.c1;have i3:=ih.p0;have i4:=ih.p1;refine⟨Zya h0 ih.u,?_,?_,?_,?_⟩ <;> simp only [Ml] <;> omega
theorem Sa {α:Type}(f:Nat→α)(k:Nat):(List.range (k+1)).map f=(List.range k).map f++[f k]:=by rw [List.range_succ,List.map_append]; rfl
def Rr (xs:List (Int×Int)):List Value:=xs.flatMap fun x=>[.int .i64 x.1,.int .i64 x.2]
theorem Zcf (xs:List (Int×Int))(x:Int×Int):Rr (xs++[x])=Rr xs++[.int .i64 x.1,.int .i64 x.2]:=by simp [Rr]
theorem Dm (xs:List (Int×Int)):(Rr xs).length=xs.length*2:=by
 induction xs with
 | nil=>rfl
 | cons a r ih=>simp only [Rr,List.flatMap_cons,List.length_append,List.length_cons,List.length_nil] at ih ⊢; omega
theorem Zbi:∀(xs:List (Int×Int)) (k:Nat),k<xs.length→(Rr xs)[k*2]?=some (.int .i64 (xs.getD k (0,0)).1)∧(Rr xs)[k*2+1]?=some (.int .i64 (xs.getD k (0,0)).2)
 | a :: r,0,_=>⟨rfl,rfl⟩
 | a :: r,k+1,h=>by
  have ih:=Zbi r k (by simpa using h);have e:Rr (a :: r)=[.int .i64 a.1,.int .i64 a.2]++Rr r:=rfl;rw [e];refine⟨?_,?_⟩
  ·rw [List.getElem?_append_right (by simp; omega)];rw [show(k+1)*2-[Value.int .i64 a.1,.int .i64 a.2].length=k*2 by simp; omega,ih.1];simp [List.getD]
  ·rw [List.getElem?_append_right (by simp; omega)];rw [show(k+1)*2+1-[Value.int .i64 a.1,.int .i64 a.2].length=k*2+1 by simp; omega,ih.2];simp [List.getD]
structure Ms where
 fn:Zm
 b:Int
 i:Int
 v:List Int
 s:List (List Int)
 o:List Int
def ldB (bs:List Int)(a k:Nat):Int:=ldv (fun i=>bs.getD i 0) a k
def stB (bs:List Int)(a k:Nat)(v:Int):List Int:=(List.range bs.length).map (upd (fun i=>bs.getD i 0) a v k)
def Yhf (x:Ms)(a:Int×Int):List Int:=if a.1=0 then [x.v.getD a.2.toNat 0] else (List.range a.1.toNat).map fun k=>ldB (x.s.getD a.2.toNat []) (8*k) 8
def Zvb (x:Ms)(l:List (Int×Int)):List Int:=l.flatMap (Yhf x)
def Jm (v:List Int)(l:List Int):List Int:=l.map fun k=>v.getD k.toNat 0
def Nt (v:List Int)(ds vals:List Int):List Int:=(ds.zip vals).foldl (fun v p=>v.set p.1.toNat p.2) v
def Zaz (bs:List Int)(ws:List Int):List Int:=(List.range ws.length).foldl (fun b k=>stB b (8*k) 8 (ws.getD k 0)) bs
def Sm:List (Int×Int)→List Int→List (List Int)→List Int→List Int×List (List Int)
 | [],v,s,_=>(v,s)
 | p :: r,v,s,ws=>if p.1=0 then Sm r (v.set p.2.toNat (ws.getD 0 0)) s (ws.drop 1) else Sm r v (s.set p.2.toNat (Zaz (s.getD p.2.toNat []) (ws.take p.1.toNat))) (ws.drop p.1.toNat)
def Cn (f:Zm)(ws outs:List Int):Ms :=
 let q:=Sm f.params (List.replicate f.homes.length 0) (f.slots.map fun n=>List.replicate (8*n).toNat 0) ws
 ⟨f,0,0,q.1,q.2,outs⟩
def Zac (op a b:Int):Int :=
 if op=3 then IntKind.u64.wrap (a+b) else if op=4 then IntKind.u64.wrap (a-b) else if op=5 then IntKind.u64.wrap (a*b) else if op=6 then bits .and .u64 a b else if op=7 then bits .xor .u64 a b else if op=8 then (if a<b then 1 else 0) else if op=9 then (if a=b then 1 else 0) else 0
def Zem (y:Ms)(i:Yj):Ms :=
 if i.op=1 then { y with v:=y.v.set i.d.toNat i.n }
 else if i.op=2 then { y with v:=y.v.set i.d.toNat (y.v.getD i.a.toNat 0) }
 else if i.op=10 then { y with v:=y.v.set i.d.toNat (ldB (y.s.getD i.a.toNat []) i.bb.toNat i.n.toNat) }
 else if i.op=11 then { y with s:=y.s.set i.a.toNat (stB (y.s.getD i.a.toNat []) i.bb.toNat i.n.toNat (y.v.getD i.d.toNat 0)) }
 else if i.op=14 then { y with b:=i.a,i:=0 }
 else if i.op=15 then { y with b:=if y.v.getD i.d.toNat 0=0 then i.bb else i.a,i:=0 }
 else { y with v:=y.v.set i.d.toNat (Zac i.op (y.v.getD i.a.toNat 0) (y.v.getD i.bb.toNat 0)) }
def Rb:Type:=(List Int×Nat×List Int×List (Int×List Int)) ⊕ ((Int×Nat×List Int×List (Int×List Int)) ⊕ (List Int×List (Int×List Int)))
abbrev Rb.done (l:List Int)(left:Nat)(sc:List Int)(tr:List (Int×List Int)):Rb:=.inl (l,left,sc,tr)
abbrev Rb.trap (c:Int)(left:Nat)(sc:List Int)(tr:List (Int×List Int)):Rb:=.inr (.inl (c,left,sc,tr))
abbrev Rb.spent (sc:List Int)(tr:List (Int×List Int)):Rb:=.inr (.inr (sc,tr))
theorem Rb.el {motive:Rb→Prop}(r:Rb)(done:∀ l left sc tr,motive (.done l left sc tr))(trap:∀ c left sc tr,motive (.trap c left sc tr))(spent:∀ sc tr,motive (.spent sc tr)):motive r :=
 match r with
 | .inl (l,left,sc,tr)=>done l left sc tr
 | .inr (.inl (c,left,sc,tr))=>trap c left sc tr
 | .inr (.inr (sc,tr))=>spent sc tr
def Yf (x:Ms):Yj:=(x.fn.blocks.getD x.b.toNat []).getD x.i.toNat Lj
def Xu (x:Ms):Ms:={ x with i:=x.i+1 }
def Ybm (sc:List Int)(n:Nat):List Int:=(List.range n).map fun k=>sc.getD k 0
def Zgl (P:Zj)(y:Ms)(i:Yj)(outs:List Int):Ms:=Cn (P.funcs.getD i.f.toNat Zl) (Zvb y i.args) outs
def ev (P:Zj):Nat→List Ms→List Int→List (Int×List Int)→Rb
 | 0,_,sc,tr=>.spent sc tr
 | _+1,[],sc,tr=>.spent sc tr
 | n+1,x :: R,sc,tr =>
  if (Yf x).op=12 then ev P n (Zgl P (Xu x) (Yf x) (Yf x).outs :: Xu x :: R) sc tr
  else if (Yf x).op=13 then ev P n ({ Xu x with v:=Nt x.v (Yf x).outs (Ybm sc (Yf x).outs.length) } :: R) (sc.drop (Yf x).outs.length) (tr++[((Yf x).f,Zvb x (Yf x).args)])
  else if (Yf x).op=16 then
   match R with
   | []=>.done (Jm x.v (Yf x).outs) n sc tr
   | c :: R'=>ev P n ({ c with v:=Nt c.v x.o (Jm x.v (Yf x).outs) } :: R') sc tr
  else if (Yf x).op=17 then ev P n (Zgl P (Xu x) (Yf x) x.o :: R) sc tr
  else if (Yf x).op=18 then .trap (Yf x).n n sc tr
  else ev P n (Zem (Xu x) (Yf x) :: R) sc tr
theorem Ydl (y:Ms)(i:Yj):(Zem y i).o=y.o:=by
 unfold Zem;repeat' split
 all_goals rfl
structure OnB (lo hi:Nat)(w w':World):Prop where
 os:w'.os=w.os
 tape:w'.tape=w.tape
 output:w'.output=w.output
 size:w.heap.size≤w'.heap.size
 oth:∀ q:Nat,q<w.heap.size→q<lo∨hi≤q→w'.heap[q]?=w.heap[q]?
def uC (l:List Int):List Value:=l.map fun n=>.int .u64 n
def yC (l:List Int):List Value:=l.map fun n=>.int .u8 n
def slC (gs ns:List Nat):List Value:=(List.range ns.length).map fun k=>.slice (some ⟨gs.getD k 0,0,none⟩) (ns.getD k 0) (ns.getD k 0)
structure Uo (w0 V:World)(x:Ms)(q lo hi lg:Nat)(bp sp op:Option Addr)(bc sc oc:Nat)(gs:List Nat)(B:Nat→Value):Prop where
 ql:lo≤q
 qh:q<hi
 gl:lo≤lg
 gh:lg<hi
 gq:lg≠q
 hs:hi≤V.heap.size
 row:V.heap[q]?=some (.cells #[.slice bp x.fn.blocks.length bc,.int .i64 x.b,.int .i64 x.i,.slice (some ⟨lg,0,none⟩) x.v.length x.v.length,.slice sp x.s.length sc,.slice op x.o.length oc] 328 (0,0))
 loc:V.heap[lg]?=some (.cells (uC x.v).toArray 90 (0,0))
 slo:V.ownsRow lo 297 1 (.slice sp x.s.length sc) x.s.length (slC gs (x.s.map List.length))
 sb:∀ g,(Value.slice sp x.s.length sc).ownBlock=some g→g<hi
 len:gs.length=x.s.length
 each:∀ k,k<x.s.length→V.heap[gs.getD k 0]?=some (.cells (yC (x.s.getD k [])).toArray 5 (0,0))∧lo≤gs.getD k 0∧gs.getD k 0<hi
 inj:∀ j k,j<k→k<gs.length→gs.getD j 0<gs.getD k 0
 bls:LS 1 w0 (.slice bp x.fn.blocks.length bc) x.fn.blocks.length (fun k=>#[B k])
 blk:∀ k (h:k<x.fn.blocks.length),Zfw w0 (B k) x.fn.blocks[k]
 ous:Li w0 (.slice op x.o.length oc) x.o
structure IOk (x:Ms):Prop where
 v:∀ n ∈ x.v,0≤n∧n<18446744073709551616
 s:∀ l ∈ x.s,∀ n ∈ l,0≤n∧n<256
set_option maxHeartbeats 4000000
theorem Zbn (b:Bool)(w:World):Calls Tryz.prog 238 #[.bool b] w fun e w'=>e=.returned (.int .u64 (if b=true then 1 else 0))∧w'=w:=by
 cases b with
 | true =>
  go_enter Tryz.func238,Tryz.ntmps238
  go_wp2;go_ret;exact⟨rfl,rfl⟩
 | false =>
  go_enter Tryz.func238,Tryz.ntmps238
  go_wp2;go_ret;exact⟨rfl,rfl⟩
theorem Zuo (op a b:Int)(w:World):Calls Tryz.prog 195 #[.int .i64 op,.int .u64 a,.int .u64 b] w fun e w'=>e=.returned (.int .u64 (Zac op a b))∧w'=w:=by
 by_cases h3:op=3
 ·subst h3;go_enter Tryz.func195,Tryz.ntmps195
  go_wp2;go_ret;exact⟨rfl,rfl⟩
 by_cases h4:op=4
 ·subst h4;go_enter Tryz.func195,Tryz.ntmps195
  go_wp2;go_ret;exact⟨rfl,rfl⟩
 by_cases h5:op=5
 ·subst h5;go_enter Tryz.func195,Tryz.ntmps195
  go_wp2;go_ret;exact⟨rfl,rfl⟩
 by_cases h6:op=6
 ·subst h6;go_enter Tryz.func195,Tryz.ntmps195
  go_wp2;go_ret;exact⟨rfl,rfl⟩
 by_cases h7:op=7
 ·subst h7;go_enter Tryz.func195,Tryz.ntmps195
  go_wp2;go_ret;exact⟨rfl,rfl⟩
 by_cases h8:op=8
 ·subst h8;by_cases hx:a<b
  ·skip
   have HX:=Za hx;go_enter Tryz.func195,Tryz.ntmps195
   go_wp2_with fail
   refine(Zbn _ _).mono ?_;rintro e w1 ⟨rfl,hw⟩;subst w1;go_wp2;go_ret;exact⟨by unfold Zac; simp [J HX],rfl⟩
  ·skip
   have HX:=Za hx;go_enter Tryz.func195,Tryz.ntmps195
   go_wp2_with fail
   refine(Zbn _ _).mono ?_;rintro e w1 ⟨rfl,hw⟩;subst w1;go_wp2;go_ret;exact⟨by unfold Zac; simp [J HX],rfl⟩
 by_cases h9:op=9
 ·subst h9;by_cases hx:a=b
  ·have hz:(a==b)=true:=by simp [hx]
   have HX:=Za hx;go_enter Tryz.func195,Tryz.ntmps195
   go_wp2_with fail
   refine(Zbn _ _).mono ?_;rintro e w1 ⟨rfl,hw⟩;subst w1;go_wp2;go_ret;exact⟨by unfold Zac; simp [J HX],rfl⟩
  ·have hz:(a==b)=false:=by simp [hx]
   have HX:=Za hx;go_enter Tryz.func195,Tryz.ntmps195
   go_wp2_with fail
   refine(Zbn _ _).mono ?_;rintro e w1 ⟨rfl,hw⟩;subst w1;go_wp2;go_ret;exact⟨by unfold Zac; simp [J HX],rfl⟩
 have z3:(op==3)=false:=by simp [h3]
 have z4:(op==4)=false:=by simp [h4]
 have z5:(op==5)=false:=by simp [h5]
 have z6:(op==6)=false:=by simp [h6]
 have z7:(op==7)=false:=by simp [h7]
 have z8:(op==8)=false:=by simp [h8]
 have z9:(op==9)=false:=by simp [h9]
 have HR:=Za (show Zac op a b=0 by unfold Zac; rw [if_neg h3,if_neg h4,if_neg h5,if_neg h6,if_neg h7,if_neg h8,if_neg h9]);clear h3 h4 h5 h6 h7 h8 h9;go_enter Tryz.func195,Tryz.ntmps195
 go_wp2;go_ret;exact⟨by rw [J HR]; rfl,rfl⟩
theorem Ydg {bs:List Int}{k:Nat}(h:k<bs.length):(yC bs).toArray[k]?=some (.int .u8 (bs.getD k 0)):=by simp [yC,List.getD,h]
theorem Zcw {l:List Int}{k:Nat}(h:k<l.length)(d:Int):l.getD k d ∈ l:=by simp [List.getD,h]
theorem Zyx {bs:List Int}(hb:∀ n ∈ bs,0≤n∧n<256)(i:Nat):0≤bs.getD i 0∧bs.getD i 0<256:=by
 by_cases h:i<bs.length
 ·exact hb _ (Zcw h 0)
 ·simp [List.getD,h]
theorem Zyy (bs:List Int)(a k:Nat)(v:Int):(stB bs a k v).length=bs.length:=by simp [stB]
theorem Zur (bs:List Int)(a:Nat)(v:Int):stB bs a 0 v=bs:=by
 unfold stB;rw [Zke];apply List.ext_getElem?
 intro i;by_cases h:i<bs.length
 ·simp [List.getD,h]
 ·simp [h]
theorem Zus (bs:List Int)(a k:Nat)(v:Int):stB bs a (k+1) v=(stB bs a k v).set (a+k) (byt v k):=by
 apply List.ext_getElem?
 intro i;rw [List.getElem?_set];unfold stB;by_cases h:i<bs.length
 ·by_cases he:a+k=i
  ·subst he;simp [h,Zdx]
  ·rw [if_neg he];simp [h,Zdx,Ne.symm he]
 ·by_cases he:a+k=i
  ·subst he;simp [h]
  ·rw [if_neg he];simp [h]
theorem Ydh (bs:List Int)(i:Nat)(x:Int):(yC bs).toArray.setIfInBounds i (.int .u8 x)=(yC (bs.set i x)).toArray:=by simp [yC,List.map_set]
theorem Ydi (bs:List Int)(i:Nat)(x:Int):(uC bs).toArray.setIfInBounds i (.int .u64 x)=(uC (bs.set i x)).toArray:=by simp [uC,List.map_set]
theorem Zoi (w:World)(d a:Nat)(v:Int)(bs:List Int)(h:w.heap[d]?=some (.cells (yC bs).toArray 5 (0,0))):∀ k,(stw w d a v k).heap[d]?=some (.cells (yC (stB bs a k v)).toArray 5 (0,0))
 | 0=>by rw [Zur]; exact h
 | k+1=>by
  have:=heap_setCell_same _ _ (a+k) _ _ (.int .u8 (byt v k)) (Zoi w d a v bs h k);rw [Ydh,← Zus] at this;exact this
set_option maxHeartbeats 400000
theorem Ydf (p:Option Addr)(n:Nat)(a k:Int)(w:World)(hn:n≤65536)(hw:isW k=true)(ha0:0≤a)(hak:a+k≤n):Calls Tryz.prog 300 #[.slice p n n,.int .i64 a,.int .i64 k] w fun e w'=>e=.returned .nilIface∧w'=w:=by
 have hk:=(Zpl k).1 hw;have hk1:1≤k:=by omega
 have hk8:k≤8:=by omega
 clear hk;have ha:¬ a<0:=by omega
 have hs:¬ (n:Int)-k<a:=by omega
 go_enter Tryz.func300,Tryz.ntmps300
 go_wp2_with (go_at_call 302; refine(Zso _ _).mono ?_; rintro e w' ⟨rfl,rfl⟩)
 go_ret;exact⟨rfl,rfl⟩
theorem Zup (d n:Nat)(m:Nat→Int)(a k:Nat)(v:Int)(w:World)(hn:n≤65536)(hk8:k≤8)(hak:a+k≤n)(hww:isW k=true)(hc:∀ i,i<n→w.cell? ⟨d,i,none⟩=some (.int .u8 (m i)))(hf:∀ i,i<n→w.frozen? ⟨d,i,none⟩=false) :
 Calls Tryz.prog 235 #[.slice (some ⟨d,0,none⟩) n n,.int .i64 a,.int .i64 k,.int .u64 v] w fun e w'=>e=.returned .nilIface∧w'=stw w d a v k:=by
 have hl:=Ydf (some ⟨d,0,none⟩) n a k w hn hww (by omega) (by omega);have HL:=Yes hl;have HF:=Yes hf;have HC:=Yes hc;clear hl hww hf hc;go_enter Tryz.func235,Tryz.ntmps235
 go_wp2_with (go_at_call 300; refine(Znd HL).mono ?_; rintro e w' ⟨rfl,hw'⟩; subst hw')
 go_loopw [19] (fun i wr=>∃ j:Nat,j≤k∧i=.int .i64 j∧wr=stw w' d a v j) (fun i _=>k-(intOf i).toNat)
 case atStart=>exact⟨0,by omega,rfl,rfl⟩
 case round =>
  obtain⟨j,hj,rfl,rfl⟩:=hrel;by_cases hlt:j<k
  ·have hcx:=Zkg w' d a v n m (Znd HC) j (by omega) (a+j) (by omega);have hfx:=(Zdy w' d a v ⟨d,a+j,none⟩ j).trans (Znd HF (a+j) (by omega));go_wp2;go_roundw
   case rel=>exact⟨j+1,hlt,by go_num,by rw [Yay]; rfl⟩
   case measure=>simp [intOf]; omega
  ·obtain rfl:j=k:=by omega
   go_wp2;go_ret;exact⟨rfl,rfl⟩
theorem Zuq (bs:List Int)(g a k:Nat)(v:Int)(w:World)(hr:w.heap[g]?=some (.cells (yC bs).toArray 5 (0,0)))(hk:isW k=true)(hak:a+k≤bs.length)(hn:bs.length≤65536) :
 Calls Tryz.prog 235 #[.slice (some ⟨g,0,none⟩) bs.length bs.length,.int .i64 a,.int .i64 k,.int .u64 v] w fun e w'=>e=.returned .nilIface∧w'=stw w g a v k :=
 Zup g bs.length (fun i=>bs.getD i 0) a k v w hn (by have:=(Zpl k).1 hk; omega) hak hk (fun i hi=>(Zh hr i).trans (Ydg hi)) (fun i _=>frozen_of_row _ _ i _ _ hr)
end Go.Proofs.YtkenknfgeoecbaaGreatDoor
