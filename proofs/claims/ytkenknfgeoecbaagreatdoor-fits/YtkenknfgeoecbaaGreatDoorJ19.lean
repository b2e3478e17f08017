import Derived.Test.YtkenknfgeoecbaaGreatDoorJ20
import Derived.Deep.Upon
namespace Go.Proofs.YtkenknfgeoecbaaGreatDoor
open Go.RowKit
structure Jy where
 u:Nat
 c:Int
 p:Int
structure Zir where
 pl:List (Int×Int)
 ref:Bool
 at_:Int
structure Cp where
 args:List Zir
 res:List (Int×Int)
 size:Int
 copies:Int
def Dd (br n:Int):Nat:=if n=0∨br<n then 1 else n.toNat
def Sh (pr:Bool)(w u:Nat):Nat:=if (decide (1<w)&&(pr&&decide (u % 2=1)))=true then u+1 else u
def rgS (L w u1:Nat):Bool:=decide (u1+w<=L)
def plS (ag:List Int)(rg:Bool)(u1:Nat)(c:Int)(i:Nat):Int×Int:=if rg=true then (ag.getD (u1+i) 0,0) else (-1,c+8*i)
def Mp (L:Nat)(br:Int)(pr:Bool)(n:Int)(s:Jy):Jy :=
 ⟨if rgS L (Dd br n) (Sh pr (Dd br n) s.u)=true then Sh pr (Dd br n) s.u+Dd br n else if 1<Dd br n then L else Sh pr (Dd br n) s.u,
  if rgS L (Dd br n) (Sh pr (Dd br n) s.u)=true then s.c else s.c+8*Dd br n,if br<n then s.p+8*n else s.p⟩
def Ie (ag:List Int)(br:Int)(pr:Bool)(n:Int)(s:Jy):Zir :=
 ⟨(List.range (Dd br n)).map (plS ag (rgS ag.length (Dd br n) (Sh pr (Dd br n) s.u)) (Sh pr (Dd br n) s.u) s.c),decide (br<n),if br<n then s.p else 0⟩
def Nm (L:Nat)(br:Int)(pr:Bool)(ps:List Int)(sh:Int):Nat->Jy
 | 0=>⟨0,sh,0⟩
 | k+1=>Mp L br pr (ps.getD k 0) (Nm L br pr ps sh k)
def Mw (ag:List Int)(br:Int)(pr:Bool)(ps:List Int)(sh:Int)(k:Nat):Zir:=Ie ag br pr (ps.getD k 0) (Nm ag.length br pr ps sh k)
def Kt (rs:List Int)(c:Int)(k:Nat):Int×Int:=if k<rs.length then (rs.getD k 0,0) else (-1,c+8*((k-rs.length:Nat):Int))
def Xg (rs:List Int)(c:Int)(k:Nat):Int:=c+8*((k-rs.length:Nat):Int)
def Zel (ag rs:List Int)(br:Int)(pr:Bool)(sh:Int)(ps:List Int)(n:Int):Cp :=
 ⟨(List.range ps.length).map (Mw ag br pr ps sh),(List.range n.toNat).map (Kt rs (Nm ag.length br pr ps sh ps.length).c),Xg rs (Nm ag.length br pr ps sh ps.length).c n.toNat,(Nm ag.length br pr ps sh ps.length).p⟩
theorem Zyg (br n:Int)(h:0<=n):1<=Dd br n:=by unfold Dd; split <;> omega
theorem Ydk (br n:Int)(h:n<=8):Dd br n<=8:=by unfold Dd; split <;> omega
theorem Zgn (pr:Bool)(u:Nat):Sh pr 1 u=u:=by unfold Sh; simp
theorem Zyh {L:Nat}{br:Int}{pr:Bool}{n:Int}{s:Jy}(hn:0<=n)(hu:s.u<=L):(Mp L br pr n s).u<=L:=by
 unfold Mp;simp only;split
 ·rename_i h;unfold rgS at h;exact of_decide_eq_true h
 ·split
  ·exact Nat.le_refl _
  ·have h1:Dd br n=1:=by have:=Zyg br n hn; omega
   rw [h1,Zgn];exact hu
theorem Zyi {L:Nat}{br:Int}{pr:Bool}{n:Int}{s:Jy}(hn:n<=8):s.c<=(Mp L br pr n s).c∧(Mp L br pr n s).c<=s.c+64:=by have:=Ydk br n hn;unfold Mp;simp only;split <;> omega
theorem Zyj {L:Nat}{br:Int}{pr:Bool}{n:Int}{s:Jy}(h0:0<=n)(hn:n<=8):s.p<=(Mp L br pr n s).p∧(Mp L br pr n s).p<=s.p+64:=by unfold Mp;simp only;split <;> omega
structure Yht (L:Nat)(sh:Int)(k:Nat)(s:Jy):Prop where
 u:s.u<=L
 c0:sh<=s.c
 c1:s.c<=sh+64*k
 p0:0<=s.p
 p1:s.p<=64*k
theorem Zgo {L:Nat}{br:Int}{pr:Bool}{ps:List Int}{sh:Int}(hps:Jv ps 0 8=true):∀ k,k<=ps.length->Yht L sh k (Nm L br pr ps sh k)
 | 0,_=>⟨Nat.zero_le _,Int.le_refl _,by show sh<=sh+64*((0:Nat):Int); omega,Int.le_refl _,by show(0:Int)<=64*((0:Nat):Int); omega⟩
 | k+1,h=>by
  have ih:=Zgo (L:=L) (br:=br) (pr:=pr) (sh:=sh) hps k (by omega);have hk:=Je hps (k:=k) (by omega);unfold Xl at hk;obtain⟨h0,h8⟩:=of_decide_eq_true hk;have hc:=Zyi (L:=L) (br:=br) (pr:=pr) (s:=Nm L br pr ps sh k) h8;have hp:=Zyj (L:=L) (br:=br) (pr:=pr) (s:=Nm L br pr ps sh k) h0 h8;have i1:=ih.c0;have i2:=ih.c1;have i3:=ih.p0;have i4:=ih.p1;refine⟨Zyh h0 ih.u,?_,?_,?_,?_⟩ <;> simp only [Nm] <;> omega
theorem Oo {α:Type}(f:Nat->α)(k:Nat):(List.range (k+1)).map f=(List.range k).map f++[f k]:=by rw [List.range_succ,List.map_append]; rfl
def plC (xs:List (Int×Int)):List Value:=xs.flatMap fun x=>[.int .i64 x.1,.int .i64 x.2]
theorem Ig (xs:List (Int×Int))(x:Int×Int):plC (xs++[x])=plC xs++[.int .i64 x.1,.int .i64 x.2]:=by simp [plC]
theorem Kj (xs:List (Int×Int)):(plC xs).length=xs.length*2:=by
 induction xs with
 | nil=>rfl
 | cons a r ih=>simp only [plC,List.flatMap_cons,List.length_append,List.length_cons,List.length_nil] at ih ⊢; omega
theorem Zca:∀(xs:List (Int×Int)) (k:Nat),k<xs.length->(plC xs)[k*2]?=some (.int .i64 (xs.getD k (0,0)).1)∧(plC xs)[k*2+1]?=some (.int .i64 (xs.getD k (0,0)).2)
 | a :: r,0,_=>⟨rfl,rfl⟩
 | a :: r,k+1,h=>by
  have ih:=Zca r k (by simpa using h);have e:plC (a :: r)=[.int .i64 a.1,.int .i64 a.2]++plC r:=rfl;rw [e];refine⟨?_,?_⟩
  ·rw [List.getElem?_append_right (by simp; omega)];rw [show(k+1)*2-[Value.int .i64 a.1,.int .i64 a.2].length=k*2 by simp; omega,ih.1];simp [List.getD]
  ·rw [List.getElem?_append_right (by simp; omega)];rw [show(k+1)*2+1-[Value.int .i64 a.1,.int .i64 a.2].length=k*2+1 by simp; omega,ih.2];simp [List.getD]
theorem Kl.gb {w w':World}{b:Nat}{v:Value}{ns:List Int}(h:Kl w b v ns)(hw:w.grownBy w' (some b))(hb:b<w.heap.size):Kl w' b v ns:=by
 rcases h with h | ⟨sb,so,cap,h1,h2,h3⟩
 ·exact Or.inl h
 ·exact Or.inr ⟨sb,so,cap,h1,h2,fun i hi=>(World.cell?_of_block (hw.block sb (by omega) (by intro e; injection e with e; omega))).trans (h3 i hi)⟩
theorem Jx {a c d:World}{row:Option Nat}(h:a.grownBy c row)(k:c.grownBy d row):a.grownBy d row :=
 ⟨k.os.trans h.os,k.tape.trans h.tape,k.output.trans h.output,Nat.le_trans h.size k.size,fun q hq hr=>(k.block q (Nat.lt_of_lt_of_le hq h.size) hr).trans (h.block q hq hr)⟩
theorem Yf (w:World)(o:Obj)(row:Option Nat):w.grownBy (w.alloc o) row :=
 have q:=(Below.refl w.heap.size w).alloc (Nat.le_refl _) o;⟨q.os,q.tape,q.output,q.size,fun k hk _=>q.block k hk⟩
def Ydz:List (Array UInt8):=[#[63],#[68,78],#[68,65],#[68,65,66],#[68,65,66],#[68,65,66],#[68,65,66],#[68,65,66],#[68,65,66],#[68,65,66],#[68,65,66,110],#[68,65,66,110],#[70,82,79],#[70,82,79],#[65],#[68,65,66],#[79],#[70,82],#[78]]
def Yea (op:Int):ByteArray:=if 0<=op then ⟨Ydz.getD op.toNat #[63]⟩ else ⟨#[63]⟩
def Og (op:Int):List UInt8:=(Yea op).data.toList
theorem LsB.gb {α:Type}{size:Nat}{w w':World}{b:Nat}{v:Value}{ps:List (Array Value×α)}(h:LsB size w b v ps)(hw:w.grownBy w' (some b))(hb:b<w.heap.size):LsB size w' b v ps:=by
 rcases h with h | ⟨sb,so,cap,h1,h2,h3⟩
 ·exact Or.inl h
 ·exact Or.inr ⟨sb,so,cap,h1,h2,fun i hi j x hx=>(World.cell?_of_block (a:=⟨sb,so+i*size+j,none⟩) (hw.block sb (by omega) (by intro e; injection e with e; omega))).trans (h3 i hi j x hx)⟩
theorem Zi {w:World}{T:Nat}{o:Obj}(h:w.heap[T]?=some o):T<w.heap.size:=(Array.getElem?_eq_some_iff.1 h).1
theorem Zcy {w u:World}{b k j:Nat}{v:Value}(h:w.grownBy u (some b))(hk:w.heap.size<=k∨k=b):w.grownBy (u.setCell ⟨k,j,none⟩ v) (some b) :=
 ⟨h.os,h.tape,h.output,by simp; exact h.size,fun q hq hr=>(heap_setCell_other u ⟨k,j,none⟩ q v (by show q≠k; rintro rfl; exact hk.elim (fun x=>by omega) (fun x=>hr (by rw [x])))).trans (h.block q hq hr)⟩
section
variable {w u:World} {b T1 T2:Nat} {A1 A2:Array Value} {s:ByteArray} {q:Nat} {l:List UInt8} {bad:Bool}
end
section
variable {w w':World} {b:Nat}
abbrev Oh (b:Nat)(w w':World):Prop:=∀ k,k<b->w'.heap[k]?=w.heap[k]?
theorem Kl.same {v:Value}{ns:List Int}(h:Kl w b v ns)(hw:Oh b w w'):Kl w' b v ns:=by
 rcases h with h | ⟨sb,so,cap,h1,h2,h3⟩
 ·exact Or.inl h
 ·exact Or.inr ⟨sb,so,cap,h1,h2,fun i hi=>(World.cell?_of_block (a:=⟨sb,so+i,none⟩) (hw sb h2)).trans (h3 i hi)⟩
theorem LsB.same {α:Type}{size:Nat}{v:Value}{ps:List (Array Value×α)}(h:LsB size w b v ps)(hw:Oh b w w'):LsB size w' b v ps:=by
 rcases h with h | ⟨sb,so,cap,h1,h2,h3⟩
 ·exact Or.inl h
 ·exact Or.inr ⟨sb,so,cap,h1,h2,fun i hi j x hx=>(World.cell?_of_block (a:=⟨sb,so+i*size+j,none⟩) (hw sb h2)).trans (h3 i hi j x hx)⟩
theorem VsB.same {α:Type}{v:Value}{ps:List (Value×α)}(h:VsB w b v ps)(hw:Oh b w w'):VsB w' b v ps:=by
 rcases h with h | ⟨sb,so,cap,h1,h2,h3⟩
 ·exact Or.inl h
 ·exact Or.inr ⟨sb,so,cap,h1,h2,fun i hi=>(World.cell?_of_block (a:=⟨sb,so+i,none⟩) (hw sb h2)).trans (h3 i hi)⟩
theorem Dp.same {p:Array Value×Yb}(h:Dp w b p)(hw:Oh b w w'):Dp w' b p:=by obtain⟨av,ov,pa,h1,h2,h3,h4,h5,h6⟩:=h;exact⟨av,ov,pa,h1,h2,h3,h4.same hw,h5.same hw,h6⟩
theorem Uu.same {p:Value×List Yb}(h:Uu w b p)(hw:Oh b w w'):Uu w' b p:=by obtain⟨ps,h1,h2,h3,h4⟩:=h;exact⟨ps,h1,h2.same hw,fun q hq=>(h3 q hq).same hw,h4⟩
theorem Sm.same {f:Zj}{pv hv sv bv:Value}{pp:List (Array Value×(Int×Int))}{pb:List (Value×List Yb)}(h:Sm w b f pv hv sv bv pp pb)(hw:Oh b w w'):Sm w' b f pv hv sv bv pp pb :=
 ⟨h.params,h.vals,h.pls.same hw,h.hls.same hw,h.sls.same hw,h.bls.same hw,h.blocks,fun q hq=>(h.each q hq).same hw,h.lens⟩
theorem Rz.same {p:Array Value×(List Int×Int)}(h:Rz w b p)(hw:Oh b w w'):Rz w' b p:=by obtain⟨lv,h1,h2,h3⟩:=h;exact⟨lv,h1,h2.same hw,h3⟩
theorem Nc.same {p:Array Value×Zj}(h:Nc w b p)(hw:Oh b w w'):Nc w' b p:=by obtain⟨pv,hv,sv,bv,pp,pb,h1,h2⟩:=h;exact⟨pv,hv,sv,bv,pp,pb,h1,h2.same hw⟩
theorem Ow.same {p:Zk}{fv ev:Value}{pf:List (Array Value×Zj)}{pe:List (Array Value×(List Int×Int))}(h:Ow w b p fv ev pf pe)(hw:Oh b w w'):Ow w' b p fv ev pf pe :=
 ⟨h.fls.same hw,h.els.same hw,h.funcs,h.externs,fun q hq=>(h.feach q hq).same hw,fun q hq=>(h.eeach q hq).same hw,h.lens⟩
end
structure OnB (lo hi:Nat)(w w':World):Prop where
 os:w'.os=w.os
 tape:w'.tape=w.tape
 output:w'.output=w.output
 size:w.heap.size<=w'.heap.size
 oth:∀ q:Nat,q<w.heap.size->q<lo∨hi<=q->w'.heap[q]?=w.heap[q]?
def uC (l:List Int):List Value:=l.map fun n=>.int .u64 n
def yC (l:List Int):List Value:=l.map fun n=>.int .u8 n
def slC (gs ns:List Nat):List Value:=(List.range ns.length).map fun k=>.slice (some ⟨gs.getD k 0,0,none⟩) (ns.getD k 0) (ns.getD k 0)
structure Ia (w0 V:World)(x:Ud)(q lo hi lg:Nat)(bp sp op:Option Addr)(bc sc oc:Nat)(gs:List Nat)(B:Nat->Value):Prop where
 ql:lo<=q
 qh:q<hi
 gl:lo<=lg
 gh:lg<hi
 gq:lg≠q
 hs:hi<=V.heap.size
 row:V.heap[q]?=some (.cells #[.slice bp x.fn.blocks.length bc,.int .i64 x.b,.int .i64 x.i,.slice (some ⟨lg,0,none⟩) x.v.length x.v.length,.slice sp x.s.length sc,.slice op x.o.length oc] 328 (0,0))
 loc:V.heap[lg]?=some (.cells (uC x.v).toArray 90 (0,0))
 slo:V.ownsRow lo 297 1 (.slice sp x.s.length sc) x.s.length (slC gs (x.s.map List.length))
 sb:∀ g,(Value.slice sp x.s.length sc).ownBlock=some g->g<hi
 len:gs.length=x.s.length
 each:∀ k,k<x.s.length->V.heap[gs.getD k 0]?=some (.cells (yC (x.s.getD k [])).toArray 5 (0,0))∧lo<=gs.getD k 0∧gs.getD k 0<hi
 inj:∀ j k,j<k->k<gs.length->gs.getD j 0<gs.getD k 0
 bls:LS 1 w0 (.slice bp x.fn.blocks.length bc) x.fn.blocks.length (fun k=>#[B k])
 blk:∀ k (h:k<x.fn.blocks.length),Zaj w0 (B k) x.fn.blocks[k]
 ous:Li w0 (.slice op x.o.length oc) x.o
structure IOk (x:Ud):Prop where
 v:∀ n ∈ x.v,0<=n∧n<18446744073709551616
 s:∀ l ∈ x.s,∀ n ∈ l,0<=n∧n<256
set_option maxHeartbeats 4000000
theorem Zce (b:Bool)(w:World):Calls Tryz.prog 238 #[.bool b] w fun e w'=>e=.returned (.int .u64 (if b=true then 1 else 0))∧w'=w:=by
 cases b with
 | true =>
  go_enter Tryz.func238,Tryz.ntmps238
  go_wp2;go_ret;exact⟨rfl,rfl⟩
 | false =>
  go_enter Tryz.func238,Tryz.ntmps238
  go_wp2;go_ret;exact⟨rfl,rfl⟩
theorem Zvb (op a b:Int)(w:World):Calls Tryz.prog 195 #[.int .i64 op,.int .u64 a,.int .u64 b] w fun e w'=>e=.returned (.int .u64 (Zau op a b))∧w'=w:=by
 by_cases h3:op=3
 ·subst h3;go_enter Tryz.func195,Tryz.ntmps195
  go_wp2;go_ret;exact⟨rfl,rfl⟩
 by_cases h4:op=4
 ·subst h4;go_enter Tryz.func195,Tryz.ntmps195
  go_wp2;go_ret;exact⟨rfl,rfl⟩
 by_cases h5:op=5
 ·subst h5;go_enter Tryz.func195,Tryz.ntmps195
  go_wp2;go_ret;exact⟨rfl,rfl⟩
 by_cases h6:op=6
 ·subst h6;go_enter Tryz.func195,Tryz.ntmps195
  go_wp2;go_ret;exact⟨rfl,rfl⟩
 by_cases h7:op=7
 ·subst h7;go_enter Tryz.func195,Tryz.ntmps195
  go_wp2;go_ret;exact⟨rfl,rfl⟩
 by_cases h8:op=8
 ·subst h8;by_cases hx:a<b
  ·skip
   have HX:=O hx;go_enter Tryz.func195,Tryz.ntmps195
   go_wp2_with fail
   refine(Zce _ _).mono ?_;rintro e w1 ⟨rfl,hw⟩;subst w1;go_wp2;go_ret;exact⟨by unfold Zau; simp [J HX],rfl⟩
  ·skip
   have HX:=O hx;go_enter Tryz.func195,Tryz.ntmps195
   go_wp2_with fail
   refine(Zce _ _).mono ?_;rintro e w1 ⟨rfl,hw⟩;subst w1;go_wp2;go_ret;exact⟨by unfold Zau; simp [J HX],rfl⟩
 by_cases h9:op=9
 ·subst h9;by_cases hx:a=b
  ·have hz:(a==b)=true:=by simp [hx]
   have HX:=O hx;go_enter Tryz.func195,Tryz.ntmps195
   go_wp2_with fail
   refine(Zce _ _).mono ?_;rintro e w1 ⟨rfl,hw⟩;subst w1;go_wp2;go_ret;exact⟨by unfold Zau; simp [J HX],rfl⟩
  ·have hz:(a==b)=false:=by simp [hx]
   have HX:=O hx;go_enter Tryz.func195,Tryz.ntmps195
   go_wp2_with fail
   refine(Zce _ _).mono ?_;rintro e w1 ⟨rfl,hw⟩;subst w1;go_wp2;go_ret;exact⟨by unfold Zau; simp [J HX],rfl⟩
 have z3:(op==3)=false:=by simp [h3]
 have z4:(op==4)=false:=by simp [h4]
 have z5:(op==5)=false:=by simp [h5]
 have z6:(op==6)=false:=by simp [h6]
 have z7:(op==7)=false:=by simp [h7]
 have z8:(op==8)=false:=by simp [h8]
 have z9:(op==9)=false:=by simp [h9]
 have HR:=O (show Zau op a b=0 by unfold Zau; rw [if_neg h3,if_neg h4,if_neg h5,if_neg h6,if_neg h7,if_neg h8,if_neg h9]);clear h3 h4 h5 h6 h7 h8 h9;go_enter Tryz.func195,Tryz.ntmps195
 go_wp2;go_ret;exact⟨by rw [J HR]; rfl,rfl⟩
theorem Zdj {l:List Int}{k:Nat}(h:k<l.length)(d:Int):l.getD k d ∈ l:=by simp [List.getD,h]
theorem Zzy {bs:List Int}(hb:∀ n ∈ bs,0<=n∧n<256)(i:Nat):0<=bs.getD i 0∧bs.getD i 0<256:=by
 by_cases h:i<bs.length
 ·exact hb _ (Zdj h 0)
 ·simp [List.getD,h]
theorem Zzz (bs:List Int)(a k:Nat)(v:Int):(stB bs a k v).length=bs.length:=by simp [stB]
theorem Yef (bs:List Int)(i:Nat)(x:Int):(uC bs).toArray.setIfInBounds i (.int .u64 x)=(uC (bs.set i x)).toArray:=by simp [uC,List.map_set]
theorem Zhs {w:World}{v:Value}{ns:List Int}(h:Li w v ns):Kl w w.heap.size v ns:=by
 obtain⟨p,cap,e,h2,h3,h4⟩:=h;rcases Nat.eq_zero_or_pos ns.length with h0 | h0
 ·have:ns=[]:=List.eq_nil_of_length_eq_zero h0;subst this;exact Or.inl ⟨rfl,p,cap,e⟩
 ·obtain⟨sb,so,e1,hc⟩:=h4 h0;subst e1;refine Or.inr ⟨sb,so,cap,e,World.block_lt_of_cell? w _ (hc 0 h0),fun i hi=>?_⟩;exact hc i hi
theorem Zef {α:Type}{size:Nat}{w:World}{v:Value}{xs:List α}{A:Nat->Array Value}(h:LS size w v xs.length A):LsB size w w.heap.size v (xs.mapIdx fun k x=>(A k,x)):=by
 obtain⟨p,cap,e,h2,h3,h4⟩:=h;rcases Nat.eq_zero_or_pos xs.length with h0 | h0
 ·have:xs=[]:=List.eq_nil_of_length_eq_zero h0;subst this;exact Or.inl ⟨rfl,p,cap,e⟩
 ·obtain⟨sb,so,e1,hl,hc⟩:=h4 h0;subst e1;refine Or.inr ⟨sb,so,cap,by rw [List.length_mapIdx]; exact e,hl,fun i hi=>?_⟩;rw [List.length_mapIdx] at hi;rw [List.getElem_mapIdx];exact hc i hi
theorem Yfk {α:Type}{w:World}{v:Value}{xs:List α}{B:Nat->Value}(h:LS 1 w v xs.length (fun k=>#[B k])):VsB w w.heap.size v (xs.mapIdx fun k x=>(B k,x)):=by
 obtain⟨p,cap,e,h2,h3,h4⟩:=h;rcases Nat.eq_zero_or_pos xs.length with h0 | h0
 ·have:xs=[]:=List.eq_nil_of_length_eq_zero h0;subst this;exact Or.inl ⟨rfl,p,cap,e⟩
 ·obtain⟨sb,so,e1,hl,hc⟩:=h4 h0;subst e1;refine Or.inr ⟨sb,so,cap,by rw [List.length_mapIdx]; exact e,hl,fun i hi=>?_⟩;rw [List.length_mapIdx] at hi;rw [List.getElem_mapIdx];have:=hc i hi 0 _ rfl;simpa using this
theorem Ni {α β:Type}(xs:List α)(f:Nat->β):(xs.mapIdx fun k x=>(f k,x)).map (·.2)=xs:=List.ext_getElem (by simp) (by intro i h1 h2; simp)
theorem Dt {size:Nat}{w:World}{v:Value}{n:Nat}{A:Nat->Array Value}(h:LS size w v n A):n<Xe:=by obtain⟨_,_,_,_,h,_⟩:=h;exact h
theorem Zxf {w:World}{A:Array Value}{i:Yb}(hon:i.op=3∨i.op=16)(h:Zle w A i):Dp w w.heap.size (A,i):=by
 obtain⟨av,ov,e,hl,ho⟩:=h;exact⟨av,ov,_,e,Ni _ _,fun q hq=>by
  obtain⟨k,hk,rfl⟩:=List.mem_mapIdx.1 hq;simp [La,List.getD,hk],Zef hl,Zhs ho,Dt hl,ho.lt,hon⟩
theorem Zxg {w:World}{v:Value}{l:List Yb}(hon:∀ i ∈ l,i.op=3∨i.op=16)(h:Zaj w v l):Uu w w.heap.size (v,l):=by
 obtain⟨A,hl,he⟩:=h;exact⟨_,Ni _ _,Zef hl,fun q hq=>by
  obtain⟨k,hk,rfl⟩:=List.mem_mapIdx.1 hq;exact Zxf (hon _ (List.getElem_mem hk)) (he k hk),by rw [List.length_mapIdx]; exact Dt hl⟩
theorem Zsb {w:World}{A:Array Value}{f:Zj}(hon:∀ l ∈ f.blocks,∀ i ∈ l,i.op=3∨i.op=16)(h:Sd w A f):Nc w w.heap.size (A,f):=by
 obtain⟨pv,hv,sv,bv,B,e,h⟩:=h;exact⟨pv,hv,sv,bv,_,_,e,⟨Ni _ _,fun q hq=>by
  obtain⟨k,hk,rfl⟩:=List.mem_mapIdx.1 hq;simp [La,List.getD,hk],Zef h.ps,Zhs h.hs,Zhs h.ss,Yfk h.bs,Ni _ _,fun q hq=>by
  obtain⟨k,hk,rfl⟩:=List.mem_mapIdx.1 hq;exact Zxg (hon _ (List.getElem_mem hk)) (h.each k hk),⟨by rw [List.length_mapIdx]; exact Dt h.ps,h.hs.lt,h.ss.lt,by rw [List.length_mapIdx]; exact Dt h.bs⟩⟩⟩
theorem Zxh {w:World}{fv ev:Value}{P:Zk}{A E:Nat->Array Value}(hon:∀ f ∈ P.funcs,∀ l ∈ f.blocks,∀ i ∈ l,i.op=3∨i.op=16)(h:Mo w fv ev P A E):Ow w w.heap.size P fv ev (P.funcs.mapIdx fun k x=>(A k,x)) (P.externs.mapIdx fun k x=>(E k,x)) :=
 ⟨Zef h.fs,Zef h.es,Ni _ _,Ni _ _,fun q hq=>by
  obtain⟨k,hk,rfl⟩:=List.mem_mapIdx.1 hq;exact Zsb (hon _ (List.getElem_mem hk)) (h.feach k hk),fun q hq=>by
  obtain⟨k,hk,rfl⟩:=List.mem_mapIdx.1 hq;obtain⟨lv,e1,e2⟩:=h.eeach k hk;exact⟨lv,e1,Zhs e2,e2.lt⟩,⟨by rw [List.length_mapIdx]; exact Dt h.fs,by rw [List.length_mapIdx]; exact Dt h.es⟩⟩
set_option maxHeartbeats 2000000
set_option maxRecDepth 100000
abbrev Dec (α:Type):=Nat->Except Nat (α×Nat)
def Yk {α β:Type}(m:Except Nat (α×Nat))(k:α->Nat->Except Nat (β×Nat)):Except Nat (β×Nat):=match m with
 | .ok (x,a)=>k x a
 | .error q=>.error q
def bAt (s:ByteArray)(a:Nat):Int:=((s.data[a]?.getD 0).toNat:Int)
theorem Zta (s:ByteArray)(a:Nat):0<=bAt s a∧bAt s a<=255:=by unfold bAt;have:=(s.data[a]?.getD 0).toNat_lt;omega
def signed (lo n:Int):Int:=if lo=-1∧n=255 then -1 else n
def Mc (lo hi v:Int)(a:Nat):Except Nat (Int×Nat):=if lo<=v∧v<=hi then .ok (v,a+1) else .error a
section
variable (s:ByteArray)
def Zz (lo hi:Int):Dec Int:=fun a=>if a<s.size then Mc lo hi (signed lo (bAt s a)) a else .error a
def Nn {α:Type}(one:Dec α):Nat->Dec (List α)
 | 0=>fun a=>.ok ([],a)
 | n+1=>fun a=>Yk (Nn one n a) fun xs a1=>Yk (one a1) fun x a2=>.ok (xs++[x],a2)
def Yh {α:Type}(lo hi:Int)(one:Dec α):Dec (List α):=fun a=>Yk (Zz s lo hi a) fun n a1=>Nn one n.toNat a1
def Ih:Dec (Int×Int):=fun a=>Yk (Zz s 0 8 a) fun x a1=>Yk (Zz s 0 255 a1) fun y a2=>.ok ((x,y),a2)
def Ziv:Dec (List Int×Int):=fun a=>Yk (Yh s 0 8 (Zz s 0 8) a) fun l a1=>Yk (Zz s 0 4 a1) fun r a2=>.ok ((l,r),a2)
def dOp:Nat->Dec Int
 | 0=>fun a=>.ok (0,a)
 | n+1=>fun a=>Yk (dOp n a) fun x a1=>Yk (Zz s 0 255 a1) fun y a2=>.ok (256*x+y,a2)
def Ziw (c:UInt8)(i:Yb):Dec Yb:=fun a =>
 if c=68 then Yk (Zz s 0 255 a) fun x a1=>.ok ({ i with d:=x },a1)
 else if c=65 then Yk (Zz s 0 255 a) fun x a1=>.ok ({ i with a:=x },a1)
 else if c=66 then Yk (Zz s 0 255 a) fun x a1=>.ok ({ i with bb:=x },a1)
 else if c=110 then Yk (dOp s 1 a) fun x a1=>.ok ({ i with n:=x },a1)
 else if c=78 then Yk (dOp s 8 a) fun x a1=>.ok ({ i with n:=x },a1)
 else if c=70 then Yk (Zz s 0 255 a) fun x a1=>.ok ({ i with f:=x },a1)
 else if c=82 then Yk (Yh s 0 8 (Ih s) a) fun x a1=>.ok ({ i with args:=x },a1)
 else if c=79 then Yk (Yh s 0 4 (Zz s 0 255) a) fun x a1=>.ok ({ i with outs:=x },a1)
 else .ok (i,a)
def Zak:List UInt8->Yb->Dec Yb
 | [],i=>fun a=>.ok (i,a)
 | c :: cs,i=>fun a=>Yk (Ziw s c i a) fun j a1=>Zak cs j a1
def Ztb (op:Int):Yb:=⟨op,0,0,0,0,0,[],[]⟩
def Sb:Dec Yb:=fun a=>Yk (Zz s 1 18 a) fun op a1=>Zak s (Og op) (Ztb op) a1
def Zal:Dec (List Yb):=Yh s 1 24 (Sb s)
def Zbj:Dec Zj:=fun a=>Yk (Yh s 0 8 (Ih s) a) fun ps a1=>Yk (Zz s 0 4 a1) fun r a2=>Yk (Yh s 0 12 (Zz s (-1) 15) a2) fun hs a3=>Yk (Yh s 0 6 (Zz s 1 8) a3) fun ss a4=>Yk (Yh s 1 12 (Zal s) a4) fun bs a5=>.ok (⟨ps,r,hs,ss,bs⟩,a5)
def Zbk:Dec Zk:=fun a=>Yk (Zz s 70 70 a) fun _ a1=>Yk (Zz s 49 49 a1) fun _ a2=>Yk (Yh s 0 4 (Ziv s) a2) fun es a3=>Yk (Yh s 1 8 (Zbj s) a3) fun fs a4=>.ok (⟨fs,es⟩,a4)
def Ns:Except (Int×Nat) Zk:=if s.size<=4000 then (match Zbk s 0 with
 | .error q=>.error (3,q)
 | .ok (p,a)=>if a<s.size then .error (3,a) else .ok p) else .error (4,0)
end
def OnD (s:ByteArray):Prop:=∀ q op q1,Zz s 1 18 q=.ok (op,q1)->op=1∨op=2∨op=3∨op=5∨op=16
structure Lv (w:World)(b:Nat)(s:ByteArray)(a:Nat):Prop where
 c0:w.cell? ⟨b,0,none⟩=some (.string s)
 c1:w.cell? ⟨b,1,none⟩=some (.int .i64 a)
 f1:w.frozen? ⟨b,1,none⟩=false
 bd:a<=s.size
 small:s.size<=4000
 on:OnD s
section
variable {w w':World} {b:Nat} {s:ByteArray} {a:Nat}
theorem Lv.lt (h:Lv w b s a):b<w.heap.size:=World.block_lt_of_cell? w _ h.c0
theorem Lv.blk (h:Lv w b s a)(e:w'.heap[b]?=w.heap[b]?):Lv w' b s a:=⟨(World.cell?_of_block e).trans h.c0,(World.cell?_of_block e).trans h.c1,(World.frozen?_of_block (a:=⟨b,1,none⟩) e).trans h.f1,h.bd,h.small,h.on⟩
theorem Lv.alloc (h:Lv w b s a)(o:Obj):Lv (w.alloc o) b s a:=h.blk (((Below.refl w.heap.size w).alloc (Nat.le_refl _) o).block b h.lt)
theorem Lv.drew (h:Lv w b s a):Lv w.drew b s a:=h.blk rfl
theorem Lv.next (h:Lv w b s a)(hb:a<s.size):Lv (w.setCell ⟨b,1,none⟩ (.int .i64 ((a+1:Nat):Int))) b s (a+1) :=
 ⟨(World.cell?_setCell_other _ _ _ _ (by simp)).trans h.c0,World.cell?_setCell_same _ _ _ h.c1,by rw [World.frozen?_setCell]; exact h.f1,hb,h.small,h.on⟩
theorem Xm (w:World)(r:Option Nat):w.grownBy w r:=⟨rfl,rfl,rfl,Nat.le_refl _,fun _ _ _=>rfl⟩
theorem Zcq (w:World)(r:Option Nat):w.grownBy w.drew r:=⟨rfl,rfl,rfl,Nat.le_refl _,fun _ _ _=>rfl⟩
theorem Zyl (w:World)(b j:Nat)(v:Value):w.grownBy (w.setCell ⟨b,j,none⟩ v) (some b):=Zcy (Xm w (some b)) (Or.inr rfl)
end
def Ztc (q:Int):Array Value:=#[.iface 127 (.int .i64 3),.int .i64 (-1),.int .i64 (-1),.int .i64 q]
def Ou (g:Nat):List PanicEntry:=[{ v:=.iface 189 (.agg #[.iface 130 (.pointer (some ⟨g,0,none⟩))]),recovered:=false }]
def Ye {α:Type}(b:Nat)(s:ByteArray)(RV:World->Nat->Value->α->Prop)(r:Except Nat (α×Nat))(w:World)(e:Ending)(w':World):Prop :=
 w.grownBy w' (some b)∧match r with
  | .ok (x,a)=>∃ v,e=.returned v∧RV w' w.heap.size v x∧Lv w' b s a
  | .error q=>∃ g,e=.panicked (Ou g)∧w'.heap[g]?=some (.cells (Ztc q) 133 (0,0))∧w.heap.size<=g
def Si (_:World)(_:Nat)(v:Value)(x:Int):Prop:=v=.int .i64 x
theorem Ye.err {α β:Type}{b:Nat}{s:ByteArray}{RV:World->Nat->Value->α->Prop}{RW:World->Nat->Value->β->Prop}{q:Nat}{w w1 w2:World}{e:Ending}(h:Ye b s RV (.error q) w1 e w2)(hg:w.grownBy w1 (some b)):Ye b s RW (.error q) w e w2:=by obtain⟨g1,g,he,hr,hl⟩:=h;exact⟨Jx hg g1,g,he,hr,Nat.le_trans hg.size hl⟩
theorem Zym (n q:Int)(w:World):Calls Tryz.prog 80 #[.int .i64 n,.int .i64 q] w fun e w'=>e=.returned (.iface 130 (.pointer (some ⟨w.heap.size,0,none⟩)))∧w'=w.alloc (.cells #[.iface 127 (.int .i64 n),.int .i64 (-1),.int .i64 (-1),.int .i64 q] 133 (0,0)):=by
 go_enter Tryz.func80,Tryz.ntmps80
 go_wp2;go_ret;exact⟨rfl,rfl⟩
theorem Zcr {α:Type}(RV:World->Nat->Value->α->Prop)(b:Nat)(s:ByteArray)(a:Nat)(w:World)(h:Lv w b s a):Calls Tryz.prog 83 #[.pointer (some ⟨b,0,none⟩)] w (Ye b s RV (.error a) w):=by
 have c1:=h.c1;clear h;go_enter Tryz.func83,Tryz.ntmps83
 go_wp2_with fail
 refine(Zym 3 a w).mono ?_;rintro e w1 ⟨rfl,hw⟩;subst w1;go_wp2;exact⟨rfl,Yf _ _ _,w.heap.size,rfl,heap_alloc_new _ _,Nat.le_refl _⟩
theorem Ydl (s:ByteArray)(a:Nat)(h:a<s.size):((s[a].toNat:Nat):Int)=bAt s a:=by unfold bAt;rw [Array.getElem?_eq_getElem (show a<s.data.size from h)];rfl
theorem Zod (b:Nat)(s:ByteArray)(a:Nat)(w:World)(h:Lv w b s a)(hlt:a<s.size):Calls Tryz.prog 174 #[.pointer (some ⟨b,0,none⟩)] w fun e w'=>e=.returned (.int .u8 (bAt s a))∧w.grownBy w' (some b)∧Lv w' b s a:=by
 have c0:=h.c0;have c1:=h.c1;have hsm:=h.small;have HR:=Zd h;have HB:=Zd (Ydl s a hlt);clear h;have hlt':¬ ((s.size:Int)<=a):=by omega
 go_enter Tryz.func174,Tryz.ntmps174
 go_wp2;go_region
 go_wp2;go_region
 go_wp2;go_ret;refine⟨by rw [← Za HB]; rfl,?_,?_⟩
 ·exact Jx (Zcq _ _) (Zcq _ _)
 ·exact(Za HR).drew.drew
theorem Zoe {α:Type}(RV:World->Nat->Value->α->Prop)(b:Nat)(s:ByteArray)(a:Nat)(w:World)(h:Lv w b s a)(hlt:s.size<=a):Calls Tryz.prog 174 #[.pointer (some ⟨b,0,none⟩)] w (Ye b s RV (.error a) w):=by
 have c0:=h.c0;have c1:=h.c1;have hsm:=h.small;have hbd:=h.bd;have hle:(s.size:Int)<=a:=by omega
 have HC:=Zd (Zcr RV b s a w.drew h.drew);clear h;go_enter Tryz.func174,Tryz.ntmps174
 go_wp2;go_region
 go_wp2_with fail
 refine(Za HC).mono ?_;intro e w2 h2;have h3:=Ye.err (RW:=RV) h2 (Zcq w (some b));obtain⟨g1,g,rfl,g2,g3⟩:=h2;exact⟨rfl,h3⟩
theorem Ztd (b:Nat)(s:ByteArray)(a:Nat)(x lo hi:Int)(w:World)(h:Lv w b s a)(hlt:a<s.size):Calls Tryz.prog 173 #[.pointer (some ⟨b,0,none⟩),.int .i64 x,.int .i64 lo,.int .i64 hi] w (Ye b s Si (Mc lo hi x a) w):=by
 have c1:=h.c1;have f1:=h.f1;have hsm:=h.small;have HC:=Zd (Zcr Si b s a w h);have HR:=Zd h;clear h;by_cases h1:lo<=x
 ·by_cases h2:x<=hi
  ·have HD:=Zd (show Mc lo hi x a=.ok (x,a+1) from if_pos ⟨h1,h2⟩);go_enter Tryz.func173,Tryz.ntmps173
   go_wp2;go_ret;rw [Za HD];exact⟨Zyl w b 1 _,_,rfl,rfl,(Za HR).next hlt⟩
  ·have HD:=Zd (show Mc lo hi x a=.error a from if_neg (fun c=>h2 c.2));go_enter Tryz.func173,Tryz.ntmps173
   go_wp2_with fail
   refine(Za HC).mono ?_;intro e w2 h2;have h3:=h2;obtain⟨g1,g,rfl,g2,g3⟩:=h2;refine⟨rfl,?_⟩;rw [Za HD];exact h3
 ·have HD:=Zd (show Mc lo hi x a=.error a from if_neg (fun c=>h1 c.1));go_enter Tryz.func173,Tryz.ntmps173
  go_wp2_with fail
  refine(Za HC).mono ?_;intro e w2 h2;have h3:=h2;obtain⟨g1,g,rfl,g2,g3⟩:=h2;refine⟨rfl,?_⟩;rw [Za HD];exact h3
set_option maxHeartbeats 1000000
set_option maxRecDepth 100000
theorem Xd (b:Nat)(s:ByteArray)(a:Nat)(lo hi:Int)(w:World)(h:Lv w b s a)(hlo:lo≠-1):Calls Tryz.prog 121 #[.pointer (some ⟨b,0,none⟩),.int .i64 lo,.int .i64 hi] w (Ye b s Si (Zz s lo hi a) w):=by
 by_cases hlt:a<s.size
 ·have HD:=Zd (show Zz s lo hi a=Mc lo hi (bAt s a) a by unfold Zz signed; rw [if_pos hlt,if_neg (fun c=>hlo c.1)]);obtain⟨b0,b1⟩:=Zta s a;have HP:=Zd (Zod b s a w h hlt);generalize bAt s a=n at HD HP b0 b1;clear h hlo;go_enter Tryz.func121,Tryz.ntmps121
  go_wp2_with fail
  refine(Za HP).mono ?_;rintro e w1 ⟨rfl,hg1,hR1⟩;have HT:=Zd (Ztd b s a n lo hi w1 hR1 hlt);have HG1:=Zd hg1;clear hg1 hR1;go_wp2_with fail
  refine(Za HT).mono ?_;intro e w2 h2;cases hr:Mc lo hi n a with
  | ok p=>obtain⟨x,a'⟩:=p;rw [hr] at h2;obtain⟨g1,v,rfl,hv,hR⟩:=h2;have HV:=Zd hv;have HR2:=Zd hR;have HG2:=Zd (Jx (Za HG1) g1);have HE:=Zd hr;clear hv hR g1 hr;go_wp2;go_ret;rw [Za HD,Za HE];exact⟨Za HG2,v,rfl,Za HV,Za HR2⟩
  | error q=>rw [hr] at h2;have h3:=Ye.err (RW:=Si) h2 (Za HG1);obtain⟨g1,g,rfl,g2,g3⟩:=h2;refine⟨rfl,?_⟩;rw [Za HD,hr];exact h3
 ·have HD:=Zd (show Zz s lo hi a=.error a from if_neg hlt);have HP:=Zd (Zoe Si b s a w h (by omega));clear h;go_enter Tryz.func121,Tryz.ntmps121
  go_wp2_with fail
  refine(Za HP).mono ?_;intro e w2 h2;have h3:=Ye.err (RW:=Si) h2 (Xm w (some b));obtain⟨g1,g,rfl,g2,g3⟩:=h2;refine⟨rfl,?_⟩;rw [Za HD];exact h3
theorem Zof (b:Nat)(s:ByteArray)(a:Nat)(w:World)(h:Lv w b s a):Calls Tryz.prog 176 #[.pointer (some ⟨b,0,none⟩)] w (Ye b s Si (Zz s 0 8 a) w):=by
 have HN:=Zd (Xd b s a 0 8 w h (by decide));clear h;go_enter Tryz.func176,Tryz.ntmps176
 go_wp2_with fail
 refine(Za HN).mono ?_;intro e w2 h2;cases hr:Zz s 0 8 a with
 | ok p=>obtain⟨x,a'⟩:=p;rw [hr] at h2;obtain⟨g1,v,rfl,hv,hR⟩:=h2;have HV:=Zd hv;have HR2:=Zd hR;have HG2:=Zd (Jx (Xm w (some b)) g1);have HE:=Zd hr;clear hv hR g1 hr;go_wp2;go_ret;rw [Za HE];exact⟨Za HG2,v,rfl,Za HV,Za HR2⟩
 | error q=>rw [hr] at h2;have h3:=Ye.err (RW:=Si) h2 (Xm w (some b));obtain⟨g1,g,rfl,g2,g3⟩:=h2;refine⟨rfl,?_⟩;exact h3
theorem Lh (b:Nat)(s:ByteArray)(a:Nat)(w:World)(h:Lv w b s a):Calls Tryz.prog 232 #[.pointer (some ⟨b,0,none⟩)] w (Ye b s Si (Zz s 0 255 a) w):=by
 have HN:=Zd (Xd b s a 0 255 w h (by decide));clear h;go_enter Tryz.func232,Tryz.ntmps232
 go_wp2_with fail
 refine(Za HN).mono ?_;intro e w2 h2;cases hr:Zz s 0 255 a with
 | ok p=>obtain⟨x,a'⟩:=p;rw [hr] at h2;obtain⟨g1,v,rfl,hv,hR⟩:=h2;have HV:=Zd hv;have HR2:=Zd hR;have HG2:=Zd (Jx (Xm w (some b)) g1);have HE:=Zd hr;clear hv hR g1 hr;go_wp2;go_ret;rw [Za HE];exact⟨Za HG2,v,rfl,Za HV,Za HR2⟩
 | error q=>rw [hr] at h2;have h3:=Ye.err (RW:=Si) h2 (Xm w (some b));obtain⟨g1,g,rfl,g2,g3⟩:=h2;refine⟨rfl,?_⟩;exact h3
theorem Ydm (b:Nat)(s:ByteArray)(a:Nat)(w:World)(h:Lv w b s a):Calls Tryz.prog 180 #[.pointer (some ⟨b,0,none⟩)] w (Ye b s Si (Zz s 1 8 a) w):=by
 have HN:=Zd (Xd b s a 1 8 w h (by decide));clear h;go_enter Tryz.func180,Tryz.ntmps180
 go_wp2_with fail
 refine(Za HN).mono ?_;intro e w2 h2;cases hr:Zz s 1 8 a with
 | ok p=>obtain⟨x,a'⟩:=p;rw [hr] at h2;obtain⟨g1,v,rfl,hv,hR⟩:=h2;have HV:=Zd hv;have HR2:=Zd hR;have HG2:=Zd (Jx (Xm w (some b)) g1);have HE:=Zd hr;clear hv hR g1 hr;go_wp2;go_ret;rw [Za HE];exact⟨Za HG2,v,rfl,Za HV,Za HR2⟩
 | error q=>rw [hr] at h2;have h3:=Ye.err (RW:=Si) h2 (Xm w (some b));obtain⟨g1,g,rfl,g2,g3⟩:=h2;refine⟨rfl,?_⟩;exact h3
theorem Zyn (n:Int)(a:Nat)(h0:0<=n)(h1:n<=255):Mc (-1) 15 (if n<=127 then n else n-256) a=Mc (-1) 15 (signed (-1) n) a:=by
 by_cases h2:n=255
 ·subst h2; rfl
 ·have e1:signed (-1) n=n:=if_neg (fun c=>h2 c.2);rw [e1];by_cases h3:n<=127
  ·rw [if_pos h3]
  ·rw [if_neg h3];unfold Mc;rw [if_neg (by omega),if_neg (by omega)]
theorem Ydn (b:Nat)(s:ByteArray)(a:Nat)(w:World)(h:Lv w b s a):Calls Tryz.prog 179 #[.pointer (some ⟨b,0,none⟩)] w (Ye b s Si (Zz s (-1) 15 a) w):=by
 by_cases hlt:a<s.size
 ·obtain⟨b0,b1⟩:=Zta s a;have HD:=Zd (show Zz s (-1) 15 a=Mc (-1) 15 (if bAt s a<=127 then bAt s a else bAt s a-256) a by unfold Zz; rw [if_pos hlt,Zyn _ _ b0 b1]);have HP:=Zd (Zod b s a w h hlt);generalize bAt s a=n at HD HP b0 b1;have hi8:IntKind.i8.wrap n=(if n<=127 then n else n-256):=by unfold IntKind.wrap;simp [IntKind.bits,IntKind.signed];split <;> split <;> omega
  have hi64:wrap64 (if n<=127 then n else n-256)=(if n<=127 then n else n-256):=by unfold wrap64;split <;> omega
  have HI:=Zd hi8;have HJ:=Zd hi64;clear h hi8 hi64;go_enter Tryz.func179,Tryz.ntmps179
  go_wp2_with fail
  refine(Za HP).mono ?_;rintro e w1 ⟨rfl,hg1,hR1⟩;generalize hm:(if n<=127 then n else n-256)=m at HD HI HJ;have HT:=Zd (Ztd b s a m (-1) 15 w1 hR1 hlt);have HG1:=Zd hg1;clear hg1 hR1 hm;go_wp2_with fail
  rw [show wrap64 (IntKind.i8.wrap n)=m by rw [Za HI]; exact Za HJ];refine(Za HT).mono ?_;intro e w2 h2;cases hr:Mc (-1) 15 m a with
  | ok p=>obtain⟨x,a'⟩:=p;rw [hr] at h2;obtain⟨g1,v,rfl,hv,hR⟩:=h2;have HV:=Zd hv;have HR2:=Zd hR;have HG2:=Zd (Jx (Za HG1) g1);have HE:=Zd hr;clear hv hR g1 hr;go_wp2;go_ret;rw [Za HD,Za HE];exact⟨Za HG2,v,rfl,Za HV,Za HR2⟩
  | error q=>rw [hr] at h2;have h3:=Ye.err (RW:=Si) h2 (Za HG1);obtain⟨g1,g,rfl,g2,g3⟩:=h2;refine⟨rfl,?_⟩;rw [Za HD,hr];exact h3
 ·have HD:=Zd (show Zz s (-1) 15 a=.error a from if_neg hlt);have HP:=Zd (Zoe Si b s a w h (by omega));clear h;go_enter Tryz.func179,Tryz.ntmps179
  go_wp2_with fail
  refine(Za HP).mono ?_;intro e w2 h2;have h3:=Ye.err (RW:=Si) h2 (Xm w (some b));obtain⟨g1,g,rfl,g2,g3⟩:=h2;refine⟨rfl,?_⟩;rw [Za HD];exact h3
set_option maxHeartbeats 4000000
set_option maxRecDepth 100000
def Gj {α β:Type}(R:α->β->Prop):List α->List β->Prop
 | [],[]=>True
 | a :: l,b :: m=>R a b∧Gj R l m
 | [],_ :: _=>False
 | _ :: _,[]=>False
section
variable {α β:Type} {R S:α->β->Prop}
theorem Gj.nil {R:α->β->Prop}:Gj R [] []:=trivial
theorem Gj.cons {a:α}{b:β}{l:List α}{m:List β}(h:R a b)(t:Gj R l m):Gj R (a :: l) (b :: m):=⟨h,t⟩
theorem Gj.ind {P:List α->List β->Prop}(h0:P [] [])(h1:∀ a b l m,R a b->P l m->P (a :: l) (b :: m)):∀(l:List α) (m:List β),Gj R l m->P l m
 | [],[],_=>h0
 | a :: l,b :: m,h=>h1 a b l m (show R a b∧Gj R l m from h).1 (Gj.ind h0 h1 l m (show R a b∧Gj R l m from h).2)
 | [],_ :: _,h=>(show False from h).elim
 | _ :: _,[],h=>(show False from h).elim
theorem Gj.len {l:List α}{m:List β}(h:Gj R l m):l.length=m.length:=by refine Gj.ind (R:=R) (P:=fun l m=>l.length=m.length) (by rfl) (fun a b l m _ ih=>?_) l m h;simp [ih]
theorem Gj.imp {l:List α}{m:List β}(h:Gj R l m)(hi:∀ a b,R a b->S a b):Gj S l m:=Gj.ind (R:=R) (P:=fun l m=>Gj S l m) Gj.nil (fun _ _ _ _ h ih=>Gj.cons (hi _ _ h) ih) l m h
theorem Gj.snoc {l:List α}{m:List β}{a:α}{b:β}(h:Gj R l m)(hr:R a b):Gj R (l++[a]) (m++[b]):=Gj.ind (R:=R) (P:=fun l m=>Gj R (l++[a]) (m++[b])) (Gj.cons hr Gj.nil) (fun _ _ _ _ h ih=>Gj.cons h ih) l m h
end
def Zcs (cs:List (Array Value)):List Value:=cs.flatMap (·.toList)
theorem Zqd (cs:List (Array Value))(c:Array Value):Zcs (cs++[c])=Zcs cs++c.toList:=by simp [Zcs]
theorem Zix {size:Nat}:∀(cs:List (Array Value)),(∀ c ∈ cs,c.size=size)->(Zcs cs).length=cs.length*size
 | [],_=>by simp [Zcs]
 | c :: cs,h=>by
  have h1:=h c (by simp);have h2:=Zix cs (fun d hd=>h d (by simp [hd]));have h3:Zcs (c :: cs)=c.toList++Zcs cs:=by simp [Zcs]
  rw [h3,List.length_append,h2,List.length_cons,Nat.succ_mul];simp [h1];omega
def Zte (w:World)(B T size:Nat)(v:Value)(cs:List (Array Value)):Prop:=w.ownsRow B T size v cs.length (Zcs cs)∧∀ c ∈ cs,c.size=size
def Xh {α:Type}(w:World)(B T size:Nat)(R:Array Value->α->Prop)(v:Value)(xs:List α):Prop:=∃ cs,Zte w B T size v cs∧Gj R cs xs
abbrev Ja (B:Nat)(w w':World):Prop:=∀ k,B<=k->k<w.heap.size->w'.heap[k]?=w.heap[k]?
theorem Ja.of_gb {w w':World}{b B:Nat}(h:w.grownBy w' (some b))(hb:b<B):Ja B w w':=fun k h1 h2=>h.block k h2 (by intro e; injection e with e; omega)
theorem Zte.keep {w w':World}{B B' T size:Nat}{v:Value}{cs:List (Array Value)}(h:Zte w B T size v cs)(hB:B'<=B)(hk:Ja B w w'):Zte w' B' T size v cs:=by
 refine⟨⟨h.1.1,?_⟩,h.2⟩;rcases h.1.2 with h0 | ⟨g,cap,cur,e,h1,h2,h3⟩
 ·exact Or.inl h0
 ·exact Or.inr ⟨g,cap,cur,e,by omega,(hk g h1 (Zi h2)).trans h2,h3⟩
theorem Xh.keep {α:Type}{w w':World}{B B' T size:Nat}{R R':Array Value->α->Prop}{v:Value}{xs:List α}(h:Xh w B T size R v xs)(hB:B'<=B)(hk:Ja B w w')(hR:∀ c x,R c x->R' c x):Xh w' B' T size R' v xs:=by obtain⟨cs,h1,h2⟩:=h;exact⟨cs,h1.keep hB hk,h2.imp hR⟩
theorem Xh.shape {α:Type}{w:World}{B T size:Nat}{R:Array Value->α->Prop}{v:Value}{xs:List α}(h:Xh w B T size R v xs):∃ a c,v=.slice a xs.length c:=by
 obtain⟨cs,h1,h2⟩:=h;rw [← h2.len];rcases h1.1.2 with⟨e,e0⟩ | ⟨g,cap,cur,e,-⟩
 ·exact⟨none,0,by rw [e0]; exact e⟩
 ·exact⟨_,_,e⟩
theorem Xh.nil {α:Type}(w:World)(B T size:Nat)(R:Array Value->α->Prop):Xh w B T size R (.slice none 0 0) []:=⟨[],⟨World.ownsRow_nil _ _ _ _,fun c hc=>by cases hc⟩,.nil⟩
def Gf (w:World)(T size g n:Nat)(cs:List (Array Value)):Prop:=(∃ cur,w.heap[g]?=some (.cells cur T (0,0))∧cur.size=n*size∧cur.toList.take (cs.length*size)=Zcs cs)∧∀ c ∈ cs,c.size=size
def Sj (cur:Array Value)(o:Nat):List Value->Array Value
 | []=>cur
 | v :: vs=>Sj (cur.setIfInBounds o v) (o+1) vs
theorem Zbl:∀(vs:List Value) (cur:Array Value) (o:Nat),(Sj cur o vs).size=cur.size
 | [],_,_=>rfl
 | v :: vs,cur,o=>by rw [Sj,Zbl vs]; simp
theorem Zbm:∀(vs:List Value) (cur:Array Value) (o:Nat),o+vs.length<=cur.size->(Sj cur o vs).toList.take (o+vs.length)=cur.toList.take o++vs
 | [],cur,o,_=>by simp [Sj]
 | v :: vs,cur,o,h=>by
  simp only [List.length_cons] at h;have h1:=Zbm vs (cur.setIfInBounds o v) (o+1) (by simp; omega);rw [Sj,show o+(v :: vs).length=o+1+vs.length by simp; omega,h1];have h2:(cur.setIfInBounds o v).toList.take (o+1)=cur.toList.take o++[v]:=by rw [Array.toList_setIfInBounds,List.take_succ_eq_append_getElem (by simp; omega)];simp [List.take_set_of_le]
  rw [h2];simp
theorem Kx (g T:Nat):∀(vs:List Value) (o:Nat) (w:World) (cur:Array Value),w.heap[g]?=some (.cells cur T (0,0))->(w.setCells g o vs).heap[g]?=some (.cells (Sj cur o vs) T (0,0))
 | [],_,_,_,h=>h
 | v :: vs,o,w,cur,h=>Kx g T vs (o+1) _ _ (heap_setCell_same w g o cur T v h)
theorem Gf.store {w:World}{T size g n:Nat}{cs:List (Array Value)}(h:Gf w T size g n cs)(hn:cs.length<n)(c:Array Value)(hc:c.size=size):Gf (w.setCells g (cs.length*size) c.toList) T size g n (cs++[c]):=by
 obtain⟨⟨cur,h1,h2,h3⟩,h4⟩:=h;have hle:cs.length*size+c.toList.length<=cur.size:=by have:(cs.length+1)*size<=n*size:=Nat.mul_le_mul_right _ hn;rw [h2];simp [hc];rw [Nat.succ_mul] at this;omega
 refine⟨⟨Sj cur (cs.length*size) c.toList,Kx g T _ _ _ _ h1,by rw [Zbl]; exact h2,?_⟩,fun d hd=>?_⟩
 ·have h5:=Zbm c.toList cur (cs.length*size) hle;have h6:(cs++[c]).length*size=cs.length*size+c.toList.length:=by simp [hc,Nat.succ_mul]
  rw [h6,h5,h3,Zqd]
 ·rcases List.mem_append.1 hd with hd | hd
  ·exact h4 d hd
  ·simp at hd; subst hd; exact hc
theorem Gf.blk {w w':World}{T size g n:Nat}{cs:List (Array Value)}(h:Gf w T size g n cs)(e:w'.heap[g]?=w.heap[g]?):Gf w' T size g n cs:=by obtain⟨⟨cur,h1,h2⟩,h4⟩:=h;exact⟨⟨cur,e.trans h1,h2⟩,h4⟩
theorem Gf.there {w:World}{T size g n:Nat}{cs:List (Array Value)}(h:Gf w T size g n cs)(k:Nat)(hk:k<n):w.there g (k*size) size:=by
 obtain⟨⟨cur,h1,h2,-⟩,-⟩:=h;intro j hj;have:k*size+j<cur.size:=by have:(k+1)*size<=n*size:=Nat.mul_le_mul_right _ hk;rw [Nat.succ_mul] at this;omega
 refine⟨?_,frozen_of_row _ _ _ _ _ h1⟩;rw [Zl h1];simp [this]
theorem Gf.own {w:World}{T size g n B:Nat}{cs:List (Array Value)}(h:Gf w T size g n cs)(hn:cs.length=n)(hm:n<=1000)(hB:B<=g):Zte w B T size (.slice (some ⟨g,0,none⟩) n n) cs:=by obtain⟨⟨cur,h1,h2,h3⟩,h4⟩:=h;refine⟨⟨Zix cs h4,Or.inr ⟨g,n,cur,by rw [hn],hB,h1,by omega,?_,h2,h3⟩⟩,h4⟩;unfold maxLen;omega
theorem Gf.start (w:World)(T size n:Nat)(z:Array Value):Gf (w.alloc (.cells (madeCells z (n*size)) T)) T size w.heap.size n []:=⟨⟨_,heap_alloc_new _ _,size_madeCells _ _,by simp [Zcs]⟩,fun c hc=>by cases hc⟩
theorem Di {α:Type}{one:Dec α}{k n a q:Nat}(h:Nn one k a=.error q)(hn:k<=n):Nn one n a=.error q:=by
 induction n with
 | zero =>
  obtain rfl:k=0:=by omega
  exact h
 | succ n ih =>
  rcases Nat.lt_or_ge k (n+1) with x | x
  ·show Yk (Nn one n a) _=_;rw [ih (by omega)];rfl
  ·obtain rfl:k=n+1:=by omega
   exact h
theorem Ol {α:Type}{one:Dec α}{k a a1:Nat}{xs:List α}(h:Nn one k a=.ok (xs,a1)):Nn one (k+1) a=Yk (one a1) fun x a2=>.ok (xs++[x],a2):=by show Yk (Nn one k a) _=_;rw [h];rfl
theorem Ii {w:World}{b g:Nat}(hg:w.heap.size<=g):∀(vs:List Value) (o:Nat) (u:World),w.grownBy u (some b)->w.grownBy (u.setCells g o vs) (some b)
 | [],_,_,h=>h
 | _ :: vs,o,_,h=>Ii hg vs (o+1) _ (Zcy h (Or.inl hg))
def Mn {α:Type}(size:Nat)(R:World->Nat->Array Value->α->Prop)(w:World)(B:Nat)(v:Value)(x:α):Prop:=∃ c:Array Value,v=.agg c∧c.size=size∧c.all (·.oneCell')=true∧R w B c x
def Ycg {α:Type}(R:World->Nat->Array Value->α->Prop)(w:World)(B:Nat)(v:Value)(x:α):Prop:=R w B #[v] x∧∃ n,v=.int .i64 n
def Ztf {α:Type}(R:World->Nat->Array Value->α->Prop)(w:World)(B:Nat)(v:Value)(x:α):Prop:=R w B #[v] x∧∃ p n c,v=.slice p n c
def Up {α:Type}(R:World->Nat->Array Value->α->Prop):Prop:=∀ w w' B B' c x,B'<=B->Ja B w w'->R w B c x->R w' B' c x
theorem Dj (w:World)(g o:Nat)(vs:List Value){i:Nat}(hne:i≠g):(w.setCells g o vs).heap[i]?=w.heap[i]?:=by
 induction vs generalizing o w with
 | nil=>rfl
 | cons v vs ih=>exact(ih _ _).trans (heap_setCell_other w ⟨g,o,none⟩ i v hne)
theorem Kk {α:Type}{R:World->Nat->Array Value->α->Prop}{w wr w2:World}{b g n k T S a2:Nat}{s:ByteArray}{cs:List (Array Value)}{xs:List α}{x:α}{c:Array Value}(hM:Up R)(hpt:Gf wr T S g n cs)(hall:Gj (R wr (g+1)) cs xs)(hgb:w.grownBy wr (some b))(hcl:cs.length=k)(hg2:wr.grownBy w2 (some b))(hR2:Lv w2 b s a2)(hrr:R w2 wr.heap.size c x)(hgl:g<wr.heap.size)(hbw:b<w.heap.size)(hs1:w.heap.size<=g)(hlt:k<n)(hc:c.size=S) :
 w2.there g (k*S) S∧Lv (w2.setCells g (k*S) c.toList) b s a2∧w.grownBy (w2.setCells g (k*S) c.toList) (some b)∧Gf (w2.setCells g (k*S) c.toList) T S g n (cs++[c])∧(cs++[c]).length=k+1∧Gj (R (w2.setCells g (k*S) c.toList) (g+1)) (cs++[c]) (xs++[x])∧g<(w2.setCells g (k*S) c.toList).heap.size:=by
 have hpt2:=hpt.blk (hg2.block g hgl (by intro e; injection e with e; omega));have hth:=hpt2.there k hlt;have hs2:=hg2.size;have hpt3:=hpt2.store (by rw [hcl]; exact hlt) c hc;rw [hcl] at hpt3;have hko:Ja (g+1) w2 (w2.setCells g (k*S) c.toList):=fun i h1 h2=>Dj _ _ _ _ (by omega);refine⟨hth,hR2.blk (Dj _ _ _ _ (by omega)),Ii (b:=b) (g:=g) (w:=w) (by omega) c.toList (k*S) w2 (Jx hgb hg2),hpt3,by rw [List.length_append,hcl]; rfl,Gj.snoc (hall.imp fun c y hy=>?_) ?_,hpt3.1.elim fun cur hc=>Zi hc.1⟩
 ·exact hM _ _ _ _ _ _ (Nat.le_refl _) hko (hM _ _ _ _ _ _ (Nat.le_refl _) (Ja.of_gb hg2 (by omega)) hy)
 ·exact hM _ _ _ _ _ _ (by omega) (fun i h1 h2=>hko i (by omega) h2) hrr
theorem Tryz.infoDInts:(Tryz.prog.info? 3).map (fun i=>(i.zero,i.size,i.bytes))=some (some (.int .i64 0),1,8):=by kernel_rfl
theorem Ztg (n:Nat)(hn:n<=1000):∃ z:Array Value,∀ w:World,(Instr.makeSlice 23 (.int .i64 (n:Int)) (.int .i64 (n:Int))).run Tryz.prog w=.ok (.slice (some ⟨w.heap.size,0,none⟩) n n) (w.alloc (.cells (madeCells z n) 3)):=by obtain⟨i,hi,hz,hs,hby⟩:=Gi Tryz.infoDInts;refine⟨(.int .i64 0:Value).cells,fun w=>?_⟩;have h:=run_make (P:=Tryz.prog) w 23 3 i _ Tryz.underlying23 hi hz .i64 .i64 n n (by omega) (Int.le_refl _) (by rw [hby]; omega) (by omega);simpa [hs] using h
theorem Re {α:Type}(F:Nat)(hcf:∀ args w,(callFunc F args).run Tryz.prog w=.ok (.enter F args) w)(R:World->Nat->Array Value->α->Prop)(hR:Up R)(one:Dec α)(b:Nat)(s:ByteArray)(a:Nat)(lo hi:Int)(w:World)(h:Lv w b s a)(hlo:0<=lo)(hhi:hi<=1000)
 (hone:∀ a' w',Lv w' b s a'->w.grownBy w' (some b)->Calls Tryz.prog F #[.pointer (some ⟨b,0,none⟩)] w' (Ye b s (Ycg R) (one a') w')) :
 Calls Tryz.prog 175 #[.pointer (some ⟨b,0,none⟩),.int .i64 lo,.int .i64 hi,.func (.func F) #[.pointer (some ⟨b,0,none⟩)] #[]] w (Ye b s (fun w B v xs=>Xh w B 3 1 (R w B) v xs) (Yh s lo hi one a) w):=by
 have HN:=Zd (Xd b s a lo hi w h (by omega));have HONE:=Zd hone;have HMON:=Zd hR;have hbw:=h.lt;clear hone h hR;cases hd:Zz s lo hi a with
 | error q =>
  have HD:=Zd (show Yh s lo hi one a=.error q by unfold Yh; rw [hd]; rfl);rw [hd] at HN;go_enter Tryz.func175,Tryz.ntmps175
  go_wp2_with fail
  refine(Za HN).mono ?_;intro e w2 h2;have h3:=Ye.err (RW:=fun w B v (xs:List α)=>Xh w B 3 1 (R w B) v xs) h2 (Xm w (some b));obtain⟨g1,g,rfl,g2,g3⟩:=h2;refine⟨rfl,?_⟩;rw [Za HD];exact h3
 | ok p =>
  obtain⟨nv,a1⟩:=p;have hnv:lo<=nv∧nv<=hi:=by
   unfold Zz Mc at hd;split at hd
   ·split at hd
    ·injection hd with hd; injection hd with h1 h2; rw [← h1]; assumption
    ·cases hd
   ·cases hd
  obtain⟨n,rfl⟩:=Int.eq_ofNat_of_zero_le (show 0<=nv by omega);have hn:n<=1000:=by omega
  have HD:=Zd (show Yh s lo hi one a=Nn one n a1 by unfold Yh; rw [hd]; rfl);rw [hd] at HN;obtain⟨z,hmk⟩:=Ztg n hn;clear hnv hd;go_enter Tryz.func175,Tryz.ntmps175
  go_wp2_with fail
  refine(Za HN).mono ?_;rintro e w1 ⟨hg1,v,rfl,hv,hR1⟩;have hv':v=.int .i64 (n:Int):=hv;subst hv';have hs1:=hg1.size;have hst:=Gf.start w1 3 1 n z;rw [Nat.mul_one] at hst;have HG1:=Zd (Jx hg1 (Yf w1 (.cells (madeCells z n) 3) (some b)));have HR1:=Zd (hR1.alloc (.cells (madeCells z n) 3));have HST:=Zd hst;have HMK:=Zd hmk;clear hg1 hv hR1 hst HN;go_wp2_with fail
  clear hmk;generalize hW:w1.alloc (.cells (madeCells z n) 3)=W at HG1 HR1 HST ⊢;have hWs:W.heap.size=w1.heap.size+1:=by rw [← hW]; simp
  obtain⟨g,hg⟩:∃ g,g=w1.heap.size:=⟨_,rfl⟩;rw [← hg] at HST hs1 hWs ⊢;clear hW hg HMK;go_loopw [18] (fun j w'=>∃(k:Nat) (xs:List α) (ak:Nat) (cs:List (Array Value)),j=.int .i64 k∧k<=n∧Nn one k a1=.ok (xs,ak)∧Lv w' b s ak∧w.grownBy w' (some b)∧Gf w' 3 1 g n cs∧cs.length=k∧Gj (R w' (g+1)) cs xs∧g<w'.heap.size) (fun j _=>n-(intOf j).toNat)
  case atStart=>exact⟨0,[],a1,[],rfl,by omega,rfl,Za HR1,Za HG1,Za HST,rfl,.nil,by omega⟩
  case round =>
   obtain⟨k,xs,ak,cs,rfl,hk,hrep,hRd,hgb,hpt,hcl,hall,hgl⟩:=hrel;by_cases hlt:k<n
   ·have HCALL:=Zd (Za HONE ak wr hRd hgb);have HNX:=Zd (Ol hrep);have HPT:=Zd hpt;have HALL:=Zd hall;have HGB:=Zd hgb;have HCL:=Zd hcl;clear hrep hRd hgb hpt hall hcl;go_wp2_with fail
    refine(Za HCALL).mono ?_;intro e w2 h2;cases ho:one ak with
    | error q=>rw [ho] at h2;have h3:=Ye.err (RW:=fun w B v (xs:List α)=>Xh w B 3 1 (R w B) v xs) h2 (Za HGB);obtain⟨g1,g',rfl,g2,g3⟩:=h2;refine⟨rfl,?_⟩;have h4:=Za HNX;rw [ho] at h4;rw [Za HD,Di h4 (by omega)];exact h3
    | ok p =>
     obtain⟨x,a2⟩:=p;rw [ho] at h2;obtain⟨hg2,v,rfl,hvr,hR2⟩:=h2;obtain⟨hrr,vn,rfl⟩:=hvr;obtain⟨hth,z1,z2,z3,z4,z5,hsz⟩:=Kk (Za HMON) (Za HPT) (Za HALL) (Za HGB) (Za HCL) hg2 hR2 hrr hgl hbw hs1 hlt (show((#[.int .i64 vn]:Array Value)).size=1 from rfl);have HNX2:=Zd (show Nn one (k+1) a1=.ok (xs++[x],a2) by rw [Za HNX,ho]; rfl);have HRZ:=Zd z1;have HGZ:=Zd z2;have HPZ:=Zd z3;have HLZ:=Zd z4;have HAZ:=Zd z5;have hs2:=hg2.size;clear hg2 hrr hR2 ho HNX HPT HALL HGB HCALL z1 z2 z3 z4 z5;have e1:w2.setCells g (k*1) (#[.int .i64 vn]:Array Value).toList=w2.setCell ⟨g,k,none⟩ (.int .i64 vn):=by rw [Nat.mul_one]; rfl
     rw [e1] at HRZ HGZ HPZ HAZ hsz;obtain⟨hq1,hq2⟩:=hth 0 (by decide);rw [Nat.mul_one,Nat.add_zero] at hq1 hq2;obtain⟨uu,hq3⟩:=Option.isSome_iff_exists.1 hq1;clear e1 hth hq1;go_wp2;go_roundw
     case rel=>exact⟨k+1,xs++[x],a2,cs++[(#[.int .i64 vn]:Array Value)],by go_num,by omega,Za HNX2,Za HRZ,Za HGZ,Za HPZ,Za HLZ,Za HAZ,hsz⟩
     case measure=>simp [intOf]; omega
   ·obtain rfl:k=n:=by omega
    have HREP:=Zd hrep;have HOWN:=Zd (show Xh wr w.heap.size 3 1 (R wr w.heap.size) (.slice (some ⟨g,0,none⟩) k k) xs from⟨cs,hpt.own hcl hn (by omega),hall.imp fun c y hy=>Za HMON _ _ _ _ _ _ (by omega) (fun _ _ _=>rfl) hy⟩);have HRZ:=Zd hRd;have HGZ:=Zd hgb;clear hrep hRd hgb hpt hall hcl;go_wp2;go_ret;rw [Za HD,Za HREP];exact⟨Za HGZ,_,rfl,Za HOWN,Za HRZ⟩
theorem Tryz.infoDParams:(Tryz.prog.info? 107).map (fun i=>(i.zero,i.size,i.bytes))=some (some (.agg #[.int .i64 0,.int .i64 0]),2,16):=by kernel_rfl
theorem Zlm (n:Nat)(hn:n<=1000):∃ z:Array Value,∀ w:World,(Instr.makeSlice 68 (.int .i64 (n:Int)) (.int .i64 (n:Int))).run Tryz.prog w=.ok (.slice (some ⟨w.heap.size,0,none⟩) n n) (w.alloc (.cells (madeCells z (n*2)) 107)):=by obtain⟨i,hi,hz,hs,hby⟩:=Gi Tryz.infoDParams;refine⟨(.agg #[.int .i64 0,.int .i64 0]:Value).cells,fun w=>?_⟩;have h:=run_make (P:=Tryz.prog) w 68 107 i _ Tryz.underlying68 hi hz .i64 .i64 n n (by omega) (Int.le_refl _) (by rw [hby]; omega) (by omega);simpa [hs] using h
theorem Zgp {α:Type}(F:Nat)(hcf:∀ args w,(callFunc F args).run Tryz.prog w=.ok (.enter F args) w)(R:World->Nat->Array Value->α->Prop)(hR:Up R)(one:Dec α)(b:Nat)(s:ByteArray)(a:Nat)(lo hi:Int)(w:World)(h:Lv w b s a)(hlo:0<=lo)(hhi:hi<=1000)
 (hone:∀ a' w',Lv w' b s a'->w.grownBy w' (some b)->Calls Tryz.prog F #[.pointer (some ⟨b,0,none⟩)] w' (Ye b s (Mn 2 R) (one a') w')) :
 Calls Tryz.prog 177 #[.pointer (some ⟨b,0,none⟩),.int .i64 lo,.int .i64 hi,.func (.func F) #[.pointer (some ⟨b,0,none⟩)] #[]] w (Ye b s (fun w B v xs=>Xh w B 107 2 (R w B) v xs) (Yh s lo hi one a) w):=by
 have HN:=Zd (Xd b s a lo hi w h (by omega));have HONE:=Zd hone;have HMON:=Zd hR;have hbw:=h.lt;clear hone h hR;cases hd:Zz s lo hi a with
 | error q =>
  have HD:=Zd (show Yh s lo hi one a=.error q by unfold Yh; rw [hd]; rfl);rw [hd] at HN;go_enter Tryz.func177,Tryz.ntmps177
  go_wp2_with fail
  refine(Za HN).mono ?_;intro e w2 h2;have h3:=Ye.err (RW:=fun w B v (xs:List α)=>Xh w B 107 2 (R w B) v xs) h2 (Xm w (some b));obtain⟨g1,g,rfl,g2,g3⟩:=h2;refine⟨rfl,?_⟩;rw [Za HD];exact h3
 | ok p =>
  obtain⟨nv,a1⟩:=p;have hnv:lo<=nv∧nv<=hi:=by
   unfold Zz Mc at hd;split at hd
   ·split at hd
    ·injection hd with hd; injection hd with h1 h2; rw [← h1]; assumption
    ·cases hd
   ·cases hd
  obtain⟨n,rfl⟩:=Int.eq_ofNat_of_zero_le (show 0<=nv by omega);have hn:n<=1000:=by omega
  have HD:=Zd (show Yh s lo hi one a=Nn one n a1 by unfold Yh; rw [hd]; rfl);rw [hd] at HN;obtain⟨z,hmk⟩:=Zlm n hn;clear hnv hd;go_enter Tryz.func177,Tryz.ntmps177
  go_wp2_with fail
  refine(Za HN).mono ?_;rintro e w1 ⟨hg1,v,rfl,hv,hR1⟩;have hv':v=.int .i64 (n:Int):=hv;subst hv';have hs1:=hg1.size;have hst:=Gf.start w1 107 2 n z;have HG1:=Zd (Jx hg1 (Yf w1 (.cells (madeCells z (n*2)) 107) (some b)));have HR1:=Zd (hR1.alloc (.cells (madeCells z (n*2)) 107));have HST:=Zd hst;have HMK:=Zd hmk;clear hg1 hv hR1 hst HN;go_wp2_with fail
  clear hmk;generalize hW:w1.alloc (.cells (madeCells z (n*2)) 107)=W at HG1 HR1 HST ⊢;have hWs:W.heap.size=w1.heap.size+1:=by rw [← hW]; simp
  obtain⟨g,hg⟩:∃ g,g=w1.heap.size:=⟨_,rfl⟩;rw [← hg] at HST hs1 hWs ⊢;clear hW hg HMK;go_loopw [18] (fun j w'=>∃(k:Nat) (xs:List α) (ak:Nat) (cs:List (Array Value)),j=.int .i64 k∧k<=n∧Nn one k a1=.ok (xs,ak)∧Lv w' b s ak∧w.grownBy w' (some b)∧Gf w' 107 2 g n cs∧cs.length=k∧Gj (R w' (g+1)) cs xs∧g<w'.heap.size) (fun j _=>n-(intOf j).toNat)
  case atStart=>exact⟨0,[],a1,[],rfl,by omega,rfl,Za HR1,Za HG1,Za HST,rfl,.nil,by omega⟩
  case round =>
   obtain⟨k,xs,ak,cs,rfl,hk,hrep,hRd,hgb,hpt,hcl,hall,hgl⟩:=hrel;by_cases hlt:k<n
   ·have HCALL:=Zd (Za HONE ak wr hRd hgb);have HNX:=Zd (Ol hrep);have HPT:=Zd hpt;have HALL:=Zd hall;have HGB:=Zd hgb;have HCL:=Zd hcl;clear hrep hRd hgb hpt hall hcl;go_wp2_with fail
    refine(Za HCALL).mono ?_;intro e w2 h2;cases ho:one ak with
    | error q=>rw [ho] at h2;have h3:=Ye.err (RW:=fun w B v (xs:List α)=>Xh w B 107 2 (R w B) v xs) h2 (Za HGB);obtain⟨g1,g',rfl,g2,g3⟩:=h2;refine⟨rfl,?_⟩;have h4:=Za HNX;rw [ho] at h4;rw [Za HD,Di h4 (by omega)];exact h3
    | ok p =>
     obtain⟨x,a2⟩:=p;rw [ho] at h2;obtain⟨hg2,v,rfl,hvr,hR2⟩:=h2;obtain⟨c,rfl,hc1,hc2,hrr⟩:=hvr;obtain⟨hth,z1,z2,z3,z4,z5,hsz⟩:=Kk (Za HMON) (Za HPT) (Za HALL) (Za HGB) (Za HCL) hg2 hR2 hrr hgl hbw hs1 hlt hc1;have HNX2:=Zd (show Nn one (k+1) a1=.ok (xs++[x],a2) by rw [Za HNX,ho]; rfl);have HRZ:=Zd z1;have HGZ:=Zd z2;have HPZ:=Zd z3;have HLZ:=Zd z4;have HAZ:=Zd z5;have hs2:=hg2.size;clear hg2 hrr hR2 ho HNX HPT HALL HGB HCALL z1 z2 z3 z4 z5;go_wp2_with (refine wpList_store_mid rfl 107 (.tmp 25) (.tmp 24) rfl g (k*2) c rfl rfl (by rw [hc1]; exact hth) (Tryz.infParams.trans (congrArg some hc1.symm)) hc2 ?_)
     go_roundw
     case rel=>exact⟨k+1,xs++[x],a2,cs++[c],by go_num,by omega,Za HNX2,Za HRZ,Za HGZ,Za HPZ,Za HLZ,Za HAZ,hsz⟩
     case measure=>simp [intOf]; omega
   ·obtain rfl:k=n:=by omega
    have HREP:=Zd hrep;have HOWN:=Zd (show Xh wr w.heap.size 107 2 (R wr w.heap.size) (.slice (some ⟨g,0,none⟩) k k) xs from⟨cs,hpt.own hcl hn (by omega),hall.imp fun c y hy=>Za HMON _ _ _ _ _ _ (by omega) (fun _ _ _=>rfl) hy⟩);have HRZ:=Zd hRd;have HGZ:=Zd hgb;clear hrep hRd hgb hpt hall hcl;go_wp2;go_ret;rw [Za HD,Za HREP];exact⟨Za HGZ,_,rfl,Za HOWN,Za HRZ⟩
theorem Tryz.infoDSigs:(Tryz.prog.info? 43).map (fun i=>(i.zero,i.size,i.bytes))=some (some (.agg #[.slice none 0 0,.int .i64 0]),2,32):=by kernel_rfl
theorem Zth (n:Nat)(hn:n<=1000):∃ z:Array Value,∀ w:World,(Instr.makeSlice 60 (.int .i64 (n:Int)) (.int .i64 (n:Int))).run Tryz.prog w=.ok (.slice (some ⟨w.heap.size,0,none⟩) n n) (w.alloc (.cells (madeCells z (n*2)) 43)):=by obtain⟨i,hi,hz,hs,hby⟩:=Gi Tryz.infoDSigs;refine⟨(.agg #[.slice none 0 0,.int .i64 0]:Value).cells,fun w=>?_⟩;have h:=run_make (P:=Tryz.prog) w 60 43 i _ Tryz.underlying60 hi hz .i64 .i64 n n (by omega) (Int.le_refl _) (by rw [hby]; omega) (by omega);simpa [hs] using h
theorem Zln {α:Type}(F:Nat)(hcf:∀ args w,(callFunc F args).run Tryz.prog w=.ok (.enter F args) w)(R:World->Nat->Array Value->α->Prop)(hR:Up R)(one:Dec α)(b:Nat)(s:ByteArray)(a:Nat)(lo hi:Int)(w:World)(h:Lv w b s a)(hlo:0<=lo)(hhi:hi<=1000)
 (hone:∀ a' w',Lv w' b s a'->w.grownBy w' (some b)->Calls Tryz.prog F #[.pointer (some ⟨b,0,none⟩)] w' (Ye b s (Mn 2 R) (one a') w')) :
 Calls Tryz.prog 122 #[.pointer (some ⟨b,0,none⟩),.int .i64 lo,.int .i64 hi,.func (.func F) #[.pointer (some ⟨b,0,none⟩)] #[]] w (Ye b s (fun w B v xs=>Xh w B 43 2 (R w B) v xs) (Yh s lo hi one a) w):=by
 have HN:=Zd (Xd b s a lo hi w h (by omega));have HONE:=Zd hone;have HMON:=Zd hR;have hbw:=h.lt;clear hone h hR;cases hd:Zz s lo hi a with
 | error q =>
  have HD:=Zd (show Yh s lo hi one a=.error q by unfold Yh; rw [hd]; rfl);rw [hd] at HN;go_enter Tryz.func122,Tryz.ntmps122
  go_wp2_with fail
  refine(Za HN).mono ?_;intro e w2 h2;have h3:=Ye.err (RW:=fun w B v (xs:List α)=>Xh w B 43 2 (R w B) v xs) h2 (Xm w (some b));obtain⟨g1,g,rfl,g2,g3⟩:=h2;refine⟨rfl,?_⟩;rw [Za HD];exact h3
 | ok p =>
  obtain⟨nv,a1⟩:=p;have hnv:lo<=nv∧nv<=hi:=by
   unfold Zz Mc at hd;split at hd
   ·split at hd
    ·injection hd with hd; injection hd with h1 h2; rw [← h1]; assumption
    ·cases hd
   ·cases hd
  obtain⟨n,rfl⟩:=Int.eq_ofNat_of_zero_le (show 0<=nv by omega);have hn:n<=1000:=by omega
  have HD:=Zd (show Yh s lo hi one a=Nn one n a1 by unfold Yh; rw [hd]; rfl);rw [hd] at HN;obtain⟨z,hmk⟩:=Zth n hn;clear hnv hd;go_enter Tryz.func122,Tryz.ntmps122
  go_wp2_with fail
  refine(Za HN).mono ?_;rintro e w1 ⟨hg1,v,rfl,hv,hR1⟩;have hv':v=.int .i64 (n:Int):=hv;subst hv';have hs1:=hg1.size;have hst:=Gf.start w1 43 2 n z;have HG1:=Zd (Jx hg1 (Yf w1 (.cells (madeCells z (n*2)) 43) (some b)));have HR1:=Zd (hR1.alloc (.cells (madeCells z (n*2)) 43));have HST:=Zd hst;have HMK:=Zd hmk;clear hg1 hv hR1 hst HN;go_wp2_with fail
  clear hmk;generalize hW:w1.alloc (.cells (madeCells z (n*2)) 43)=W at HG1 HR1 HST ⊢;have hWs:W.heap.size=w1.heap.size+1:=by rw [← hW]; simp
  obtain⟨g,hg⟩:∃ g,g=w1.heap.size:=⟨_,rfl⟩;rw [← hg] at HST hs1 hWs ⊢;clear hW hg HMK;go_loopw [18] (fun j w'=>∃(k:Nat) (xs:List α) (ak:Nat) (cs:List (Array Value)),j=.int .i64 k∧k<=n∧Nn one k a1=.ok (xs,ak)∧Lv w' b s ak∧w.grownBy w' (some b)∧Gf w' 43 2 g n cs∧cs.length=k∧Gj (R w' (g+1)) cs xs∧g<w'.heap.size) (fun j _=>n-(intOf j).toNat)
  case atStart=>exact⟨0,[],a1,[],rfl,by omega,rfl,Za HR1,Za HG1,Za HST,rfl,.nil,by omega⟩
  case round =>
   obtain⟨k,xs,ak,cs,rfl,hk,hrep,hRd,hgb,hpt,hcl,hall,hgl⟩:=hrel;by_cases hlt:k<n
   ·have HCALL:=Zd (Za HONE ak wr hRd hgb);have HNX:=Zd (Ol hrep);have HPT:=Zd hpt;have HALL:=Zd hall;have HGB:=Zd hgb;have HCL:=Zd hcl;clear hrep hRd hgb hpt hall hcl;go_wp2_with fail
    refine(Za HCALL).mono ?_;intro e w2 h2;cases ho:one ak with
    | error q=>rw [ho] at h2;have h3:=Ye.err (RW:=fun w B v (xs:List α)=>Xh w B 43 2 (R w B) v xs) h2 (Za HGB);obtain⟨g1,g',rfl,g2,g3⟩:=h2;refine⟨rfl,?_⟩;have h4:=Za HNX;rw [ho] at h4;rw [Za HD,Di h4 (by omega)];exact h3
    | ok p =>
     obtain⟨x,a2⟩:=p;rw [ho] at h2;obtain⟨hg2,v,rfl,hvr,hR2⟩:=h2;obtain⟨c,rfl,hc1,hc2,hrr⟩:=hvr;obtain⟨hth,z1,z2,z3,z4,z5,hsz⟩:=Kk (Za HMON) (Za HPT) (Za HALL) (Za HGB) (Za HCL) hg2 hR2 hrr hgl hbw hs1 hlt hc1;have HNX2:=Zd (show Nn one (k+1) a1=.ok (xs++[x],a2) by rw [Za HNX,ho]; rfl);have HRZ:=Zd z1;have HGZ:=Zd z2;have HPZ:=Zd z3;have HLZ:=Zd z4;have HAZ:=Zd z5;have hs2:=hg2.size;clear hg2 hrr hR2 ho HNX HPT HALL HGB HCALL z1 z2 z3 z4 z5;go_wp2_with (refine wpList_store_mid rfl 43 (.tmp 25) (.tmp 24) rfl g (k*2) c rfl rfl (by rw [hc1]; exact hth) (Tryz.infSigs.trans (congrArg some hc1.symm)) hc2 ?_)
     go_roundw
     case rel=>exact⟨k+1,xs++[x],a2,cs++[c],by go_num,by omega,Za HNX2,Za HRZ,Za HGZ,Za HPZ,Za HLZ,Za HAZ,hsz⟩
     case measure=>simp [intOf]; omega
   ·obtain rfl:k=n:=by omega
    have HREP:=Zd hrep;have HOWN:=Zd (show Xh wr w.heap.size 43 2 (R wr w.heap.size) (.slice (some ⟨g,0,none⟩) k k) xs from⟨cs,hpt.own hcl hn (by omega),hall.imp fun c y hy=>Za HMON _ _ _ _ _ _ (by omega) (fun _ _ _=>rfl) hy⟩);have HRZ:=Zd hRd;have HGZ:=Zd hgb;clear hrep hRd hgb hpt hall hcl;go_wp2;go_ret;rw [Za HD,Za HREP];exact⟨Za HGZ,_,rfl,Za HOWN,Za HRZ⟩
theorem Tryz.infoDInss:(Tryz.prog.info? 110).map (fun i=>(i.zero,i.size,i.bytes))=some (some (.agg #[.int .i64 0,.int .i64 0,.int .i64 0,.int .i64 0,.int .u64 0,.int .i64 0,.slice none 0 0,.slice none 0 0]),8,96):=by kernel_rfl
theorem Zti (n:Nat)(hn:n<=1000):∃ z:Array Value,∀ w:World,(Instr.makeSlice 111 (.int .i64 (n:Int)) (.int .i64 (n:Int))).run Tryz.prog w=.ok (.slice (some ⟨w.heap.size,0,none⟩) n n) (w.alloc (.cells (madeCells z (n*8)) 110)):=by obtain⟨i,hi,hz,hs,hby⟩:=Gi Tryz.infoDInss;refine⟨(.agg #[.int .i64 0,.int .i64 0,.int .i64 0,.int .i64 0,.int .u64 0,.int .i64 0,.slice none 0 0,.slice none 0 0]:Value).cells,fun w=>?_⟩;have h:=run_make (P:=Tryz.prog) w 111 110 i _ Tryz.underlying111 hi hz .i64 .i64 n n (by omega) (Int.le_refl _) (by rw [hby]; omega) (by omega);simpa [hs] using h
theorem Zlo {α:Type}(F:Nat)(hcf:∀ args w,(callFunc F args).run Tryz.prog w=.ok (.enter F args) w)(R:World->Nat->Array Value->α->Prop)(hR:Up R)(one:Dec α)(b:Nat)(s:ByteArray)(a:Nat)(lo hi:Int)(w:World)(h:Lv w b s a)(hlo:0<=lo)(hhi:hi<=1000)
 (hone:∀ a' w',Lv w' b s a'->w.grownBy w' (some b)->Calls Tryz.prog F #[.pointer (some ⟨b,0,none⟩)] w' (Ye b s (Mn 8 R) (one a') w')) :
 Calls Tryz.prog 233 #[.pointer (some ⟨b,0,none⟩),.int .i64 lo,.int .i64 hi,.func (.func F) #[.pointer (some ⟨b,0,none⟩)] #[]] w (Ye b s (fun w B v xs=>Xh w B 110 8 (R w B) v xs) (Yh s lo hi one a) w):=by
 have HN:=Zd (Xd b s a lo hi w h (by omega));have HONE:=Zd hone;have HMON:=Zd hR;have hbw:=h.lt;clear hone h hR;cases hd:Zz s lo hi a with
 | error q =>
  have HD:=Zd (show Yh s lo hi one a=.error q by unfold Yh; rw [hd]; rfl);rw [hd] at HN;go_enter Tryz.func233,Tryz.ntmps233
  go_wp2_with fail
  refine(Za HN).mono ?_;intro e w2 h2;have h3:=Ye.err (RW:=fun w B v (xs:List α)=>Xh w B 110 8 (R w B) v xs) h2 (Xm w (some b));obtain⟨g1,g,rfl,g2,g3⟩:=h2;refine⟨rfl,?_⟩;rw [Za HD];exact h3
 | ok p =>
  obtain⟨nv,a1⟩:=p;have hnv:lo<=nv∧nv<=hi:=by
   unfold Zz Mc at hd;split at hd
   ·split at hd
    ·injection hd with hd; injection hd with h1 h2; rw [← h1]; assumption
    ·cases hd
   ·cases hd
  obtain⟨n,rfl⟩:=Int.eq_ofNat_of_zero_le (show 0<=nv by omega);have hn:n<=1000:=by omega
  have HD:=Zd (show Yh s lo hi one a=Nn one n a1 by unfold Yh; rw [hd]; rfl);rw [hd] at HN;obtain⟨z,hmk⟩:=Zti n hn;clear hnv hd;go_enter Tryz.func233,Tryz.ntmps233
  go_wp2_with fail
  refine(Za HN).mono ?_;rintro e w1 ⟨hg1,v,rfl,hv,hR1⟩;have hv':v=.int .i64 (n:Int):=hv;subst hv';have hs1:=hg1.size;have hst:=Gf.start w1 110 8 n z;have HG1:=Zd (Jx hg1 (Yf w1 (.cells (madeCells z (n*8)) 110) (some b)));have HR1:=Zd (hR1.alloc (.cells (madeCells z (n*8)) 110));have HST:=Zd hst;have HMK:=Zd hmk;clear hg1 hv hR1 hst HN;go_wp2_with fail
  clear hmk;generalize hW:w1.alloc (.cells (madeCells z (n*8)) 110)=W at HG1 HR1 HST ⊢;have hWs:W.heap.size=w1.heap.size+1:=by rw [← hW]; simp
  obtain⟨g,hg⟩:∃ g,g=w1.heap.size:=⟨_,rfl⟩;rw [← hg] at HST hs1 hWs ⊢;clear hW hg HMK;go_loopw [18] (fun j w'=>∃(k:Nat) (xs:List α) (ak:Nat) (cs:List (Array Value)),j=.int .i64 k∧k<=n∧Nn one k a1=.ok (xs,ak)∧Lv w' b s ak∧w.grownBy w' (some b)∧Gf w' 110 8 g n cs∧cs.length=k∧Gj (R w' (g+1)) cs xs∧g<w'.heap.size) (fun j _=>n-(intOf j).toNat)
  case atStart=>exact⟨0,[],a1,[],rfl,by omega,rfl,Za HR1,Za HG1,Za HST,rfl,.nil,by omega⟩
  case round =>
   obtain⟨k,xs,ak,cs,rfl,hk,hrep,hRd,hgb,hpt,hcl,hall,hgl⟩:=hrel;by_cases hlt:k<n
   ·have HCALL:=Zd (Za HONE ak wr hRd hgb);have HNX:=Zd (Ol hrep);have HPT:=Zd hpt;have HALL:=Zd hall;have HGB:=Zd hgb;have HCL:=Zd hcl;clear hrep hRd hgb hpt hall hcl;go_wp2_with fail
    refine(Za HCALL).mono ?_;intro e w2 h2;cases ho:one ak with
    | error q=>rw [ho] at h2;have h3:=Ye.err (RW:=fun w B v (xs:List α)=>Xh w B 110 8 (R w B) v xs) h2 (Za HGB);obtain⟨g1,g',rfl,g2,g3⟩:=h2;refine⟨rfl,?_⟩;have h4:=Za HNX;rw [ho] at h4;rw [Za HD,Di h4 (by omega)];exact h3
    | ok p =>
     obtain⟨x,a2⟩:=p;rw [ho] at h2;obtain⟨hg2,v,rfl,hvr,hR2⟩:=h2;obtain⟨c,rfl,hc1,hc2,hrr⟩:=hvr;obtain⟨hth,z1,z2,z3,z4,z5,hsz⟩:=Kk (Za HMON) (Za HPT) (Za HALL) (Za HGB) (Za HCL) hg2 hR2 hrr hgl hbw hs1 hlt hc1;have HNX2:=Zd (show Nn one (k+1) a1=.ok (xs++[x],a2) by rw [Za HNX,ho]; rfl);have HRZ:=Zd z1;have HGZ:=Zd z2;have HPZ:=Zd z3;have HLZ:=Zd z4;have HAZ:=Zd z5;have hs2:=hg2.size;clear hg2 hrr hR2 ho HNX HPT HALL HGB HCALL z1 z2 z3 z4 z5;go_wp2_with (refine wpList_store_mid rfl 110 (.tmp 25) (.tmp 24) rfl g (k*8) c rfl rfl (by rw [hc1]; exact hth) (Tryz.infInss.trans (congrArg some hc1.symm)) hc2 ?_)
     go_roundw
     case rel=>exact⟨k+1,xs++[x],a2,cs++[c],by go_num,by omega,Za HNX2,Za HRZ,Za HGZ,Za HPZ,Za HLZ,Za HAZ,hsz⟩
     case measure=>simp [intOf]; omega
   ·obtain rfl:k=n:=by omega
    have HREP:=Zd hrep;have HOWN:=Zd (show Xh wr w.heap.size 110 8 (R wr w.heap.size) (.slice (some ⟨g,0,none⟩) k k) xs from⟨cs,hpt.own hcl hn (by omega),hall.imp fun c y hy=>Za HMON _ _ _ _ _ _ (by omega) (fun _ _ _=>rfl) hy⟩);have HRZ:=Zd hRd;have HGZ:=Zd hgb;clear hrep hRd hgb hpt hall hcl;go_wp2;go_ret;rw [Za HD,Za HREP];exact⟨Za HGZ,_,rfl,Za HOWN,Za HRZ⟩
theorem Tryz.infoDBlocks:(Tryz.prog.info? 111).map (fun i=>(i.zero,i.size,i.bytes))=some (some (.slice none 0 0),1,24):=by kernel_rfl
theorem Zlp (n:Nat)(hn:n<=1000):∃ z:Array Value,∀ w:World,(Instr.makeSlice 69 (.int .i64 (n:Int)) (.int .i64 (n:Int))).run Tryz.prog w=.ok (.slice (some ⟨w.heap.size,0,none⟩) n n) (w.alloc (.cells (madeCells z n) 111)):=by obtain⟨i,hi,hz,hs,hby⟩:=Gi Tryz.infoDBlocks;refine⟨(.slice none 0 0:Value).cells,fun w=>?_⟩;have h:=run_make (P:=Tryz.prog) w 69 111 i _ Tryz.underlying69 hi hz .i64 .i64 n n (by omega) (Int.le_refl _) (by rw [hby]; omega) (by omega);simpa [hs] using h
theorem Zgq {α:Type}(F:Nat)(hcf:∀ args w,(callFunc F args).run Tryz.prog w=.ok (.enter F args) w)(R:World->Nat->Array Value->α->Prop)(hR:Up R)(one:Dec α)(b:Nat)(s:ByteArray)(a:Nat)(lo hi:Int)(w:World)(h:Lv w b s a)(hlo:0<=lo)(hhi:hi<=1000)
 (hone:∀ a' w',Lv w' b s a'->w.grownBy w' (some b)->Calls Tryz.prog F #[.pointer (some ⟨b,0,none⟩)] w' (Ye b s (Ztf R) (one a') w')) :
 Calls Tryz.prog 181 #[.pointer (some ⟨b,0,none⟩),.int .i64 lo,.int .i64 hi,.func (.func F) #[.pointer (some ⟨b,0,none⟩)] #[]] w (Ye b s (fun w B v xs=>Xh w B 111 1 (R w B) v xs) (Yh s lo hi one a) w):=by
 have HN:=Zd (Xd b s a lo hi w h (by omega));have HONE:=Zd hone;have HMON:=Zd hR;have hbw:=h.lt;clear hone h hR;cases hd:Zz s lo hi a with
 | error q =>
  have HD:=Zd (show Yh s lo hi one a=.error q by unfold Yh; rw [hd]; rfl);rw [hd] at HN;go_enter Tryz.func181,Tryz.ntmps181
  go_wp2_with fail
  refine(Za HN).mono ?_;intro e w2 h2;have h3:=Ye.err (RW:=fun w B v (xs:List α)=>Xh w B 111 1 (R w B) v xs) h2 (Xm w (some b));obtain⟨g1,g,rfl,g2,g3⟩:=h2;refine⟨rfl,?_⟩;rw [Za HD];exact h3
 | ok p =>
  obtain⟨nv,a1⟩:=p;have hnv:lo<=nv∧nv<=hi:=by
   unfold Zz Mc at hd;split at hd
   ·split at hd
    ·injection hd with hd; injection hd with h1 h2; rw [← h1]; assumption
    ·cases hd
   ·cases hd
  obtain⟨n,rfl⟩:=Int.eq_ofNat_of_zero_le (show 0<=nv by omega);have hn:n<=1000:=by omega
  have HD:=Zd (show Yh s lo hi one a=Nn one n a1 by unfold Yh; rw [hd]; rfl);rw [hd] at HN;obtain⟨z,hmk⟩:=Zlp n hn;clear hnv hd;go_enter Tryz.func181,Tryz.ntmps181
  go_wp2_with fail
  refine(Za HN).mono ?_;rintro e w1 ⟨hg1,v,rfl,hv,hR1⟩;have hv':v=.int .i64 (n:Int):=hv;subst hv';have hs1:=hg1.size;have hst:=Gf.start w1 111 1 n z;rw [Nat.mul_one] at hst;have HG1:=Zd (Jx hg1 (Yf w1 (.cells (madeCells z n) 111) (some b)));have HR1:=Zd (hR1.alloc (.cells (madeCells z n) 111));have HST:=Zd hst;have HMK:=Zd hmk;clear hg1 hv hR1 hst HN;go_wp2_with fail
  clear hmk;generalize hW:w1.alloc (.cells (madeCells z n) 111)=W at HG1 HR1 HST ⊢;have hWs:W.heap.size=w1.heap.size+1:=by rw [← hW]; simp
  obtain⟨g,hg⟩:∃ g,g=w1.heap.size:=⟨_,rfl⟩;rw [← hg] at HST hs1 hWs ⊢;clear hW hg HMK;go_loopw [18] (fun j w'=>∃(k:Nat) (xs:List α) (ak:Nat) (cs:List (Array Value)),j=.int .i64 k∧k<=n∧Nn one k a1=.ok (xs,ak)∧Lv w' b s ak∧w.grownBy w' (some b)∧Gf w' 111 1 g n cs∧cs.length=k∧Gj (R w' (g+1)) cs xs∧g<w'.heap.size) (fun j _=>n-(intOf j).toNat)
  case atStart=>exact⟨0,[],a1,[],rfl,by omega,rfl,Za HR1,Za HG1,Za HST,rfl,.nil,by omega⟩
  case round =>
   obtain⟨k,xs,ak,cs,rfl,hk,hrep,hRd,hgb,hpt,hcl,hall,hgl⟩:=hrel;by_cases hlt:k<n
   ·have HCALL:=Zd (Za HONE ak wr hRd hgb);have HNX:=Zd (Ol hrep);have HPT:=Zd hpt;have HALL:=Zd hall;have HGB:=Zd hgb;have HCL:=Zd hcl;clear hrep hRd hgb hpt hall hcl;go_wp2_with fail
    refine(Za HCALL).mono ?_;intro e w2 h2;cases ho:one ak with
    | error q=>rw [ho] at h2;have h3:=Ye.err (RW:=fun w B v (xs:List α)=>Xh w B 111 1 (R w B) v xs) h2 (Za HGB);obtain⟨g1,g',rfl,g2,g3⟩:=h2;refine⟨rfl,?_⟩;have h4:=Za HNX;rw [ho] at h4;rw [Za HD,Di h4 (by omega)];exact h3
    | ok p =>
     obtain⟨x,a2⟩:=p;rw [ho] at h2;obtain⟨hg2,v,rfl,hvr,hR2⟩:=h2;obtain⟨hrr,vp,vn,vc,rfl⟩:=hvr;obtain⟨hth,z1,z2,z3,z4,z5,hsz⟩:=Kk (Za HMON) (Za HPT) (Za HALL) (Za HGB) (Za HCL) hg2 hR2 hrr hgl hbw hs1 hlt (show((#[.slice vp vn vc]:Array Value)).size=1 from rfl);have HNX2:=Zd (show Nn one (k+1) a1=.ok (xs++[x],a2) by rw [Za HNX,ho]; rfl);have HRZ:=Zd z1;have HGZ:=Zd z2;have HPZ:=Zd z3;have HLZ:=Zd z4;have HAZ:=Zd z5;have hs2:=hg2.size;clear hg2 hrr hR2 ho HNX HPT HALL HGB HCALL z1 z2 z3 z4 z5;have e1:w2.setCells g (k*1) (#[.slice vp vn vc]:Array Value).toList=w2.setCell ⟨g,k,none⟩ (.slice vp vn vc):=by rw [Nat.mul_one]; rfl
     rw [e1] at HRZ HGZ HPZ HAZ hsz;obtain⟨hq1,hq2⟩:=hth 0 (by decide);rw [Nat.mul_one,Nat.add_zero] at hq1 hq2;obtain⟨uu,hq3⟩:=Option.isSome_iff_exists.1 hq1;clear e1 hth hq1;go_wp2;go_roundw
     case rel=>exact⟨k+1,xs++[x],a2,cs++[(#[.slice vp vn vc]:Array Value)],by go_num,by omega,Za HNX2,Za HRZ,Za HGZ,Za HPZ,Za HLZ,Za HAZ,hsz⟩
     case measure=>simp [intOf]; omega
   ·obtain rfl:k=n:=by omega
    have HREP:=Zd hrep;have HOWN:=Zd (show Xh wr w.heap.size 111 1 (R wr w.heap.size) (.slice (some ⟨g,0,none⟩) k k) xs from⟨cs,hpt.own hcl hn (by omega),hall.imp fun c y hy=>Za HMON _ _ _ _ _ _ (by omega) (fun _ _ _=>rfl) hy⟩);have HRZ:=Zd hRd;have HGZ:=Zd hgb;clear hrep hRd hgb hpt hall hcl;go_wp2;go_ret;rw [Za HD,Za HREP];exact⟨Za HGZ,_,rfl,Za HOWN,Za HRZ⟩
theorem Tryz.infoDFuncs:(Tryz.prog.info? 71).map (fun i=>(i.zero,i.size,i.bytes))=some (some (.agg #[.slice none 0 0,.int .i64 0,.slice none 0 0,.slice none 0 0,.slice none 0 0]),5,104):=by kernel_rfl
theorem Zqe (n:Nat)(hn:n<=1000):∃ z:Array Value,∀ w:World,(Instr.makeSlice 59 (.int .i64 (n:Int)) (.int .i64 (n:Int))).run Tryz.prog w=.ok (.slice (some ⟨w.heap.size,0,none⟩) n n) (w.alloc (.cells (madeCells z (n*5)) 71)):=by obtain⟨i,hi,hz,hs,hby⟩:=Gi Tryz.infoDFuncs;refine⟨(.agg #[.slice none 0 0,.int .i64 0,.slice none 0 0,.slice none 0 0,.slice none 0 0]:Value).cells,fun w=>?_⟩;have h:=run_make (P:=Tryz.prog) w 59 71 i _ Tryz.underlying59 hi hz .i64 .i64 n n (by omega) (Int.le_refl _) (by rw [hby]; omega) (by omega);simpa [hs] using h
theorem Ziy {α:Type}(F:Nat)(hcf:∀ args w,(callFunc F args).run Tryz.prog w=.ok (.enter F args) w)(R:World->Nat->Array Value->α->Prop)(hR:Up R)(one:Dec α)(b:Nat)(s:ByteArray)(a:Nat)(lo hi:Int)(w:World)(h:Lv w b s a)(hlo:0<=lo)(hhi:hi<=1000)
 (hone:∀ a' w',Lv w' b s a'->w.grownBy w' (some b)->Calls Tryz.prog F #[.pointer (some ⟨b,0,none⟩)] w' (Ye b s (Mn 5 R) (one a') w')) :
 Calls Tryz.prog 124 #[.pointer (some ⟨b,0,none⟩),.int .i64 lo,.int .i64 hi,.func (.func F) #[.pointer (some ⟨b,0,none⟩)] #[]] w (Ye b s (fun w B v xs=>Xh w B 71 5 (R w B) v xs) (Yh s lo hi one a) w):=by
 have HN:=Zd (Xd b s a lo hi w h (by omega));have HONE:=Zd hone;have HMON:=Zd hR;have hbw:=h.lt;clear hone h hR;cases hd:Zz s lo hi a with
 | error q =>
  have HD:=Zd (show Yh s lo hi one a=.error q by unfold Yh; rw [hd]; rfl);rw [hd] at HN;go_enter Tryz.func124,Tryz.ntmps124
  go_wp2_with fail
  refine(Za HN).mono ?_;intro e w2 h2;have h3:=Ye.err (RW:=fun w B v (xs:List α)=>Xh w B 71 5 (R w B) v xs) h2 (Xm w (some b));obtain⟨g1,g,rfl,g2,g3⟩:=h2;refine⟨rfl,?_⟩;rw [Za HD];exact h3
 | ok p =>
  obtain⟨nv,a1⟩:=p;have hnv:lo<=nv∧nv<=hi:=by
   unfold Zz Mc at hd;split at hd
   ·split at hd
    ·injection hd with hd; injection hd with h1 h2; rw [← h1]; assumption
    ·cases hd
   ·cases hd
  obtain⟨n,rfl⟩:=Int.eq_ofNat_of_zero_le (show 0<=nv by omega);have hn:n<=1000:=by omega
  have HD:=Zd (show Yh s lo hi one a=Nn one n a1 by unfold Yh; rw [hd]; rfl);rw [hd] at HN;obtain⟨z,hmk⟩:=Zqe n hn;clear hnv hd;go_enter Tryz.func124,Tryz.ntmps124
  go_wp2_with fail
  refine(Za HN).mono ?_;rintro e w1 ⟨hg1,v,rfl,hv,hR1⟩;have hv':v=.int .i64 (n:Int):=hv;subst hv';have hs1:=hg1.size;have hst:=Gf.start w1 71 5 n z;have HG1:=Zd (Jx hg1 (Yf w1 (.cells (madeCells z (n*5)) 71) (some b)));have HR1:=Zd (hR1.alloc (.cells (madeCells z (n*5)) 71));have HST:=Zd hst;have HMK:=Zd hmk;clear hg1 hv hR1 hst HN;go_wp2_with fail
  clear hmk;generalize hW:w1.alloc (.cells (madeCells z (n*5)) 71)=W at HG1 HR1 HST ⊢;have hWs:W.heap.size=w1.heap.size+1:=by rw [← hW]; simp
  obtain⟨g,hg⟩:∃ g,g=w1.heap.size:=⟨_,rfl⟩;rw [← hg] at HST hs1 hWs ⊢;clear hW hg HMK;go_loopw [18] (fun j w'=>∃(k:Nat) (xs:List α) (ak:Nat) (cs:List (Array Value)),j=.int .i64 k∧k<=n∧Nn one k a1=.ok (xs,ak)∧Lv w' b s ak∧w.grownBy w' (some b)∧Gf w' 71 5 g n cs∧cs.length=k∧Gj (R w' (g+1)) cs xs∧g<w'.heap.size) (fun j _=>n-(intOf j).toNat)
  case atStart=>exact⟨0,[],a1,[],rfl,by omega,rfl,Za HR1,Za HG1,Za HST,rfl,.nil,by omega⟩
  case round =>
   obtain⟨k,xs,ak,cs,rfl,hk,hrep,hRd,hgb,hpt,hcl,hall,hgl⟩:=hrel;by_cases hlt:k<n
   ·have HCALL:=Zd (Za HONE ak wr hRd hgb);have HNX:=Zd (Ol hrep);have HPT:=Zd hpt;have HALL:=Zd hall;have HGB:=Zd hgb;have HCL:=Zd hcl;clear hrep hRd hgb hpt hall hcl;go_wp2_with fail
    refine(Za HCALL).mono ?_;intro e w2 h2;cases ho:one ak with
    | error q=>rw [ho] at h2;have h3:=Ye.err (RW:=fun w B v (xs:List α)=>Xh w B 71 5 (R w B) v xs) h2 (Za HGB);obtain⟨g1,g',rfl,g2,g3⟩:=h2;refine⟨rfl,?_⟩;have h4:=Za HNX;rw [ho] at h4;rw [Za HD,Di h4 (by omega)];exact h3
    | ok p =>
     obtain⟨x,a2⟩:=p;rw [ho] at h2;obtain⟨hg2,v,rfl,hvr,hR2⟩:=h2;obtain⟨c,rfl,hc1,hc2,hrr⟩:=hvr;obtain⟨hth,z1,z2,z3,z4,z5,hsz⟩:=Kk (Za HMON) (Za HPT) (Za HALL) (Za HGB) (Za HCL) hg2 hR2 hrr hgl hbw hs1 hlt hc1;have HNX2:=Zd (show Nn one (k+1) a1=.ok (xs++[x],a2) by rw [Za HNX,ho]; rfl);have HRZ:=Zd z1;have HGZ:=Zd z2;have HPZ:=Zd z3;have HLZ:=Zd z4;have HAZ:=Zd z5;have hs2:=hg2.size;clear hg2 hrr hR2 ho HNX HPT HALL HGB HCALL z1 z2 z3 z4 z5;go_wp2_with (refine wpList_store_mid rfl 71 (.tmp 25) (.tmp 24) rfl g (k*5) c rfl rfl (by rw [hc1]; exact hth) (Tryz.infFuncs.trans (congrArg some hc1.symm)) hc2 ?_)
     go_roundw
     case rel=>exact⟨k+1,xs++[x],a2,cs++[c],by go_num,by omega,Za HNX2,Za HRZ,Za HGZ,Za HPZ,Za HLZ,Za HAZ,hsz⟩
     case measure=>simp [intOf]; omega
   ·obtain rfl:k=n:=by omega
    have HREP:=Zd hrep;have HOWN:=Zd (show Xh wr w.heap.size 71 5 (R wr w.heap.size) (.slice (some ⟨g,0,none⟩) k k) xs from⟨cs,hpt.own hcl hn (by omega),hall.imp fun c y hy=>Za HMON _ _ _ _ _ _ (by omega) (fun _ _ _=>rfl) hy⟩);have HRZ:=Zd hRd;have HGZ:=Zd hgb;clear hrep hRd hgb hpt hall hcl;go_wp2;go_ret;rw [Za HD,Za HREP];exact⟨Za HGZ,_,rfl,Za HOWN,Za HRZ⟩
end Go.Proofs.YtkenknfgeoecbaaGreatDoor
