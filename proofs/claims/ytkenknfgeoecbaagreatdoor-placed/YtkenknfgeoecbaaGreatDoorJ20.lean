import Derived.Test.YtkenknfgeoecbaaGreatDoorJ19
import Derived.BigQuiet
import Derived.Test.YtkenknfgeoecbaaGreatDoorJ3
import Derived.Test.YtkenknfgeoecbaaGreatDoorJ9
namespace Go.Proofs.YtkenknfgeoecbaaGreatDoor
open Go.RowKit
def Li (w:World)(v:Value)(ns:List Int):Prop:=∃ p cap,v=.slice p ns.length cap∧ns.length≤cap∧ns.length<Jy∧(0<ns.length→∃ sb so,p=some ⟨sb,so,none⟩∧∀ i,i<ns.length→w.cell? ⟨sb,so+i,none⟩=some (.int .i64 (ns.getD i 0)))
def LS (size:Nat)(w:World)(v:Value)(n:Nat)(A:Nat→Array Value):Prop:=∃ p cap,v=.slice p n cap∧n≤cap∧n<Jy∧(0<n→∃ sb so,p=some ⟨sb,so,none⟩∧sb<w.heap.size∧∀ i,i<n→w.rangeAt sb (so+i*size) (A i).toList)
theorem Li.below {w w':World}{v:Value}{ns:List Int}(h:Li w v ns)(hb:Below w.heap.size w w'):Li w' v ns:=by obtain⟨p,cap,h1,h2,h3,h4⟩:=h;refine⟨p,cap,h1,h2,h3,fun h0=>?_⟩;obtain⟨sb,so,e,hc⟩:=h4 h0;exact⟨sb,so,e,fun i hi=>(hb.cell (p:=⟨sb,so+i,none⟩) (World.block_lt_of_cell? w _ (hc i hi))).trans (hc i hi)⟩
theorem LS.below {size:Nat}{w w':World}{v:Value}{n:Nat}{A:Nat→Array Value}(h:LS size w v n A)(hb:Below w.heap.size w w'):LS size w' v n A:=by obtain⟨p,cap,h1,h2,h3,h4⟩:=h;refine⟨p,cap,h1,h2,h3,fun h0=>?_⟩;obtain⟨sb,so,e,hlt,hc⟩:=h4 h0;exact⟨sb,so,e,Nat.lt_of_lt_of_le hlt hb.size,fun i hi j x hx=>(hb.cell (p:=⟨sb,so+i*size+j,none⟩) hlt).trans (hc i hi j x hx)⟩
def Nx (x:Int×Int):Array Value:=#[.int .i64 x.1,.int .i64 x.2]
def Ztg (w:World)(A:Array Value)(i:Yj):Prop:=∃ av ov,A=#[.int .i64 i.op,.int .i64 i.d,.int .i64 i.a,.int .i64 i.bb,.int .u64 i.n,.int .i64 i.f,av,ov]∧LS 2 w av i.args.length (fun k=>Nx (i.args.getD k (0,0)))∧Li w ov i.outs
def Zfw (w:World)(v:Value)(l:List Yj):Prop:=∃ A:Nat→Array Value,LS 8 w v l.length A∧∀ k (h:k<l.length),Ztg w (A k) l[k]
structure Cg (w:World)(f:Zm)(pv hv sv bv:Value)(B:Nat→Value):Prop where
 ps:LS 2 w pv f.params.length (fun k=>Nx (f.params.getD k (0,0)))
 hs:Li w hv f.homes
 ss:Li w sv f.slots
 bs:LS 1 w bv f.blocks.length (fun k=>#[B k])
 each:∀ k (h:k<f.blocks.length),Zfw w (B k) f.blocks[k]
def Zaq (w:World)(A:Array Value)(f:Zm):Prop:=∃ pv hv sv bv B,A=#[pv,.int .i64 f.results,hv,sv,bv]∧Cg w f pv hv sv bv B
def Zxu (w:World)(A:Array Value)(s:List Int×Int):Prop:=∃ lv,A=#[lv,.int .i64 s.2]∧Li w lv s.1
structure Mm (w:World)(fv ev:Value)(p:Zj)(A E:Nat→Array Value):Prop where
 fs:LS 5 w fv p.funcs.length A
 feach:∀ k (h:k<p.funcs.length),Zaq w (A k) p.funcs[k]
 es:LS 2 w ev p.externs.length E
 eeach:∀ k (h:k<p.externs.length),Zxu w (E k) p.externs[k]
theorem Ztg.below {w w':World}{A:Array Value}{i:Yj}(h:Ztg w A i)(hb:Below w.heap.size w w'):Ztg w' A i:=by obtain⟨av,ov,h1,h2,h3⟩:=h;exact⟨av,ov,h1,h2.below hb,h3.below hb⟩
theorem Zfw.below {w w':World}{v:Value}{l:List Yj}(h:Zfw w v l)(hb:Below w.heap.size w w'):Zfw w' v l:=by obtain⟨A,h1,h2⟩:=h;exact⟨A,h1.below hb,fun k hk=>(h2 k hk).below hb⟩
theorem Cg.below {w w':World}{f:Zm}{pv hv sv bv:Value}{B:Nat→Value}(h:Cg w f pv hv sv bv B)(hb:Below w.heap.size w w'):Cg w' f pv hv sv bv B :=
 ⟨h.ps.below hb,h.hs.below hb,h.ss.below hb,h.bs.below hb,fun k hk=>(h.each k hk).below hb⟩
theorem Zaq.below {w w':World}{A:Array Value}{f:Zm}(h:Zaq w A f)(hb:Below w.heap.size w w'):Zaq w' A f:=by obtain⟨pv,hv,sv,bv,B,h1,h2⟩:=h;exact⟨pv,hv,sv,bv,B,h1,h2.below hb⟩
theorem Zxu.below {w w':World}{A:Array Value}{s:List Int×Int}(h:Zxu w A s)(hb:Below w.heap.size w w'):Zxu w' A s:=by obtain⟨lv,h1,h2⟩:=h;exact⟨lv,h1,h2.below hb⟩
theorem Mm.below {w w':World}{fv ev:Value}{p:Zj}{A E:Nat→Array Value}(h:Mm w fv ev p A E)(hb:Below w.heap.size w w'):Mm w' fv ev p A E :=
 ⟨h.fs.below hb,fun k hk=>(h.feach k hk).below hb,h.es.below hb,fun k hk=>(h.eeach k hk).below hb⟩
theorem Li.nil (w:World):Li w (.slice none 0 0) []:=⟨none,0,rfl,Nat.le_refl _,by decide,fun h=>absurd h (by decide)⟩
theorem Li.take {w:World}{p:Option Addr}{cap:Nat}{ns:List Int}(h:Li w (.slice p ns.length cap) ns)(k:Nat)(hk:k≤ns.length):Li w (.slice p k cap) (ns.take k):=by
 obtain⟨p',cap',h1,h2,h3,h4⟩:=h;injection h1 with e1 e2 e3;subst e1 e3;have hl:(ns.take k).length=k:=by simp; omega
 refine⟨p,cap,by rw [hl],by omega,by omega,fun h0=>?_⟩;obtain⟨sb,so,e,hc⟩:=h4 (by omega);refine⟨sb,so,e,fun i hi=>?_⟩;rw [hl] at hi;rw [hc i (by omega)];simp [List.getD,hi]
theorem Li.new {w:World}{g:Nat}{ns:List Int}{t:TypeId}{fr:Nat×Nat}(h:w.heap[g]?=some (.cells (ns.map fun n=>Value.int .i64 n).toArray t fr))(hs:ns.length<Jy):Li w (.slice (some ⟨g,0,none⟩) ns.length ns.length) ns :=
 ⟨_,_,rfl,Nat.le_refl _,hs,fun _=>⟨g,0,rfl,fun i hi=>by
  rw [Nat.zero_add,Zh h i];simp [List.getD,hi]⟩⟩
theorem Li.shape {w:World}{v:Value}{ns:List Int}(h:Li w v ns):∃ p cap,v=.slice p ns.length cap:=by obtain⟨p,cap,h1,-⟩:=h;exact⟨p,cap,h1⟩
theorem LS.shape {size:Nat}{w:World}{v:Value}{n:Nat}{A:Nat→Array Value}(h:LS size w v n A):∃ p cap,v=.slice p n cap:=by obtain⟨p,cap,h1,-⟩:=h;exact⟨p,cap,h1⟩
theorem Li.lt {w:World}{v:Value}{ns:List Int}(h:Li w v ns):ns.length<Jy:=by obtain⟨p,cap,-,-,h,-⟩:=h;exact h
def Zl:Zm:=⟨[],0,[],[],[]⟩
def Lj:Yj:=⟨0,0,0,0,0,0,[],[]⟩
def Gq (n lo hi:Int):Bool:=decide (lo≤n∧n≤hi)
def upB (n:Nat)(q:Nat→Bool):Bool:=(List.range n).all q
theorem Lk {n:Nat}{q:Nat→Bool}(h:∀ k,k<n→q k=true):upB n q=true:=by unfold upB;rw [List.all_eq_true];exact fun k hk=>h k (List.mem_range.1 hk)
theorem Gg {n:Nat}{q:Nat→Bool}{k:Nat}(hk:k<n)(h:q k=false):upB n q=false:=by unfold upB;rw [List.all_eq_false];exact⟨k,List.mem_range.2 hk,by simp [h]⟩
theorem Ga {n:Nat}{q:Nat→Bool}(h:upB n q=true){k:Nat}(hk:k<n):q k=true:=by unfold upB at h;rw [List.all_eq_true] at h;exact h k (List.mem_range.2 hk)
theorem Jf {q:Nat→Bool}{k:Nat}(h:∀ j,j<k→q j=true)(hk:q k=true):∀ j,j<k+1→q j=true:=fun j hj=>by
 rcases Nat.lt_succ_iff_lt_or_eq.1 hj with h' | h'
 ·exact h j h'
 ·subst h'; exact hk
def Xc (ns:List Int)(lo hi:Int):Bool:=upB ns.length fun k=>Gq (ns.getD k 0) lo hi
def Nl (s:List Int×Int):Bool:=decide (s.1.length≤8)&&(Gq s.2 0 4&&Xc s.1 0 8)
def Ll (f:Zm):List Int×Int:=(f.params.map (·.1),f.results)
def Zet (regs:Int)(own hs:List Int)(k:Nat):Bool:=decide (hs.getD k 0=-1)||(Gq (hs.getD k 0) 0 (regs-1)&&(!decide (hs.getD k 0 ∈ own)&&!decide (hs.getD k 0 ∈ hs.take k)))
def Ks (regs:Int)(own hs:List Int):Bool:=upB hs.length (Zet regs own hs)
def Ua (bs:List (List Yj)):Bool:=upB bs.length fun k=>Gq ((bs.getD k []).length) 1 24
def Rv (f:Zm)(x:Int×Int):Bool:=if x.1=0 then Gq x.2 0 (f.homes.length-1) else Gq x.2 0 (f.slots.length-1)&&decide (f.slots.getD x.2.toNat 0=x.1)
def Zby (x y:Int×Int):Bool:=decide (x.2=y.2)&&(decide (x.1=0)==decide (y.1=0))
def Kt (f:Zm)(k:Nat):Bool:=Rv f (f.params.getD k (0,0))&&upB k fun j=>!Zby (f.params.getD k (0,0)) (f.params.getD j (0,0))
def Ub (f:Zm):Bool:=upB f.params.length (Kt f)
def Yv (regs:Int)(own:List Int)(f:Zm):Bool :=
 decide (f.params.length≤8)&&(Nl (Ll f)&&(decide (f.homes.length≤12)&&(Ks regs own f.homes&&(decide (f.slots.length≤6)&&(Xc f.slots 1 8&&(Gq f.blocks.length 1 12&&(Ua f.blocks&&Ub f)))))))
def Jr (p:Zj):Bool:=Gq p.funcs.length 1 8&&(decide (p.externs.length≤4)&&upB p.externs.length fun k=>Nl (p.externs.getD k ([],0)))
def Jt (f:Zm)(n:Int):Bool:=Gq n 0 (f.homes.length-1)
def My (f:Zm)(l:List Int):Bool:=upB l.length fun k=>Jt f (l.getD k 0)
def Ybh (f:Zm)(gs:List (Int×Int))(ps:List Int):Bool:=decide (gs.length=ps.length)&&upB gs.length fun k=>decide ((gs.getD k (0,0)).1=ps.getD k 0)&&Rv f (gs.getD k (0,0))
def Ybz (l:List Int):Bool:=upB l.length fun k=>!decide (l.getD k 0 ∈ l.take k)
def Ybi (f:Zm)(i:Yj)(s:List Int×Int):Bool:=Ybh f i.args s.1&&(decide ((i.outs.length:Int)=s.2)&&(My f i.outs&&Ybz i.outs))
def Yfa (f:Zm)(i:Yj)(s:List Int×Int):Bool:=Ybh f i.args s.1&&decide (s.2=f.results)
def Yca (n:Int):Bool:=decide (n=1∨n=2∨n=4∨n=8)
def Yfb (f:Zm)(i:Yj):Bool:=Gq i.a 0 (f.slots.length-1)&&(Yca i.n&&(Gq i.bb 0 (8*f.slots.getD i.a.toNat 0-i.n)&&decide (i.bb % i.n=0)))
def Xr (p:Zj)(f:Zm)(i:Yj):Bool :=
 if i.op=1 then Jt f i.d
 else if i.op=2 then Jt f i.d&&Jt f i.a
 else if i.op=10∨i.op=11 then Jt f i.d&&Yfb f i
 else if i.op=12 then Gq i.f 0 (p.funcs.length-1)&&Ybi f i (Ll (p.funcs.getD i.f.toNat Zl))
 else if i.op=13 then Gq i.f 0 (p.externs.length-1)&&Ybi f i (p.externs.getD i.f.toNat ([],0))
 else if i.op=14 then Gq i.a 0 (f.blocks.length-1)
 else if i.op=15 then Jt f i.d&&(Gq i.a 0 (f.blocks.length-1)&&Gq i.bb 0 (f.blocks.length-1))
 else if i.op=16 then decide ((i.outs.length:Int)=f.results)&&My f i.outs
 else if i.op=17 then Gq i.f 0 (p.funcs.length-1)&&Yfa f i (Ll (p.funcs.getD i.f.toNat Zl))
 else if i.op=18 then true
 else Jt f i.d&&(Jt f i.a&&Jt f i.bb)
def Zbd (p:Zj)(f:Zm)(i:Yj)(last:Bool):Bool:=Gq i.op 1 18&&((decide (14≤i.op)==last)&&(!i.spare&&Xr p f i))
def Lf (n:Nat)(ok:Nat→Bool):Option Nat:=(List.range n).find? fun k=>!ok k
theorem Uc {n:Nat}{ok:Nat→Bool}{k:Nat}(h:∀ j,j<k→ok j=true)(hk:k<n)(hb:ok k=false):Lf n ok=some k:=by unfold Lf;rw [List.find?_range_eq_some];exact⟨by simp [hb],List.mem_range.2 hk,fun j hj=>by simp [h j hj]⟩
theorem Nb {n:Nat}{ok:Nat→Bool}(h:∀ j,j<n→ok j=true):Lf n ok=none:=by unfold Lf;rw [List.find?_eq_none];intro j hj;simp [h j (List.mem_range.1 hj)]
def Zko (p:Zj)(f:Zm)(k j:Nat):Bool:=Zbd p f ((f.blocks.getD k []).getD j Lj) (decide (j+1=(f.blocks.getD k []).length))
def Zhq (p:Zj)(f:Zm)(k:Nat):Bool:=upB (f.blocks.getD k []).length (Zko p f k)
def Oh (p:Zj)(f:Zm):Bool:=upB f.blocks.length (Zhq p f)
def Gk (p:Zj)(f:Zm):Int×Int:=match Lf f.blocks.length (Zhq p f) with
 | none=>(-1,-1)
 | some k=>(k,((Lf (f.blocks.getD k []).length (Zko p f k)).getD 0:Nat))
structure Zbz where
 e:Int
 f:Int
 b:Int
 a:Int
def Oi (tab:Bool)(regs:Int)(own:List Int)(p:Zj):Zbz :=
 if tab=false then ⟨2,-1,-1,-1⟩ else if Jr p=false then ⟨5,-1,-1,-1⟩ else match Lf p.funcs.length (fun k=>Yv regs own (p.funcs.getD k Zl)) with
  | some k=>⟨5,k,-1,-1⟩
  | none=>match Lf p.funcs.length (fun k=>Oh p (p.funcs.getD k Zl)) with
   | some k=>⟨5,k,(Gk p (p.funcs.getD k Zl)).1,(Gk p (p.funcs.getD k Zl)).2⟩
   | none=>⟨0,-1,-1,-1⟩
set_option maxHeartbeats 1000000
set_option maxRecDepth 100000
theorem Jo (n lo hi:Int)(w:World):Calls Tryz.prog 100 #[.int .i64 n,.int .i64 lo,.int .i64 hi] w fun e w'=>e=.returned (.bool (Gq n lo hi))∧w'=w:=by
 unfold Gq;by_cases h1:lo≤n
 ·by_cases h2:n≤hi
  ·have hd:decide (lo≤n∧n≤hi)=true:=by simp; omega
   rw [hd];clear hd;go_enter Tryz.func100,Tryz.ntmps100
   go_wp2;go_ret;exact⟨rfl,rfl⟩
  ·have hd:decide (lo≤n∧n≤hi)=false:=by simp; omega
   rw [hd];clear hd;go_enter Tryz.func100,Tryz.ntmps100
   go_wp2;go_ret;exact⟨rfl,rfl⟩
 ·have hd:decide (lo≤n∧n≤hi)=false:=by simp; omega
  rw [hd];clear hd;go_enter Tryz.func100,Tryz.ntmps100
  go_wp2;go_ret;exact⟨rfl,rfl⟩
theorem Zkl (v:Value)(ns:List Int)(w:World)(h:Li w v ns):Calls Tryz.prog 129 #[v] w fun e w'=>e=.returned (.bool (Xc ns 1 8))∧w'=w:=by
 obtain⟨p,cap,rfl,hcap,hlt,hc⟩:=h;have hlt:ns.length<9223372036854775808:=hlt;have HC:=Za hc;clear hc;go_enter Tryz.func129,Tryz.ntmps129
 go_wp2_with fail
 go_loopw [7] (fun j w'=>∃ k:Nat,j=.int .i64 k∧k≤ns.length∧w'=w∧∀ q,q<k→Gq (ns.getD q 0) 1 8=true) (fun j _=>ns.length-(intOf j).toNat)
 case atStart=>exact⟨0,rfl,by omega,rfl,fun q hq=>by omega⟩
 case round =>
  obtain⟨k,rfl,hk,rfl,hno⟩:=hrel;have HN:=Za hno;clear hno;by_cases hk2:k<ns.length
  ·obtain⟨sb,so,rfl,hcc⟩:=J HC (by omega);have c:=hcc k hk2;have HW:=Za (Jo (ns.getD k 0) 1 8 wr);have HBAD:=Za (fun hb:Gq (ns.getD k 0) 1 8=false=>show Xc ns 1 8=false from Gg hk2 hb);have HNX:=Za (fun hb:Gq (ns.getD k 0) 1 8=true=>Jf (q:=fun q=>Gq (ns.getD q 0) 1 8) (J HN) hb);clear hcc HC;generalize Gq (ns.getD k 0) 1 8=yes at HW HBAD HNX;generalize ns.getD k 0=y at c HW;go_wp2_with fail
   refine(J HW).mono ?_;rintro e w2 ⟨rfl,h2⟩;subst w2;cases yes with
   | false=>have hx:=Za (J HBAD rfl);go_wp2;go_ret;exact⟨by rw [J hx]; rfl,rfl⟩
   | true =>
    have hx:=Za (J HNX rfl);go_wp2;go_roundw
    case rel=>exact⟨k+1,by go_num,by omega,trivial,J hx⟩
    case measure=>simp [intOf]; omega
  ·have HT:=Za (show Xc ns 1 8=true from Lk (fun q hq=>J HN q (by omega)));obtain rfl:k=ns.length:=by omega
   go_wp2;go_ret;exact⟨by rw [J HT]; rfl,rfl⟩
theorem al0 (w:World)(X:Obj):(w.alloc X).heap[w.heap.size]?=some X∧Below w.heap.size w (w.alloc X)∧(w.alloc X).heap.size=w.heap.size+1 :=
 ⟨heap_alloc_new w _,(Below.refl w.heap.size w).alloc (Nat.le_refl _) _,by simp⟩
theorem Oz {a w:World}{n:Nat}(h:Below n a w)(m:Nat):Below n a (w.drewN m):=⟨h.os,h.tape,h.output,h.size,h.block⟩
theorem Zd {a c d:World}{n:Nat}(h:Below n a c)(k:Below c.heap.size c d)(hn:n≤c.heap.size):Below n a d:=h.trans (k.mono hn)
theorem LS.pairs {w:World}{v:Value}{xs:List (Int×Int)}(h:LS 2 w v xs.length (fun k=>Nx (xs.getD k (0,0)))):∃ p cap,v=.slice p xs.length cap∧xs.length≤cap∧xs.length<9223372036854775808∧(0<xs.length→∃ sb so,p=some ⟨sb,so,none⟩∧∀ k,k<xs.length→w.cell? ⟨sb,so+k*2,none⟩=some (.int .i64 (xs.getD k (0,0)).1)∧w.cell? ⟨sb,so+k*2+1,none⟩=some (.int .i64 (xs.getD k (0,0)).2)):=by obtain⟨p,cap,h1,h2,h3,h4⟩:=h;refine⟨p,cap,h1,h2,h3,fun h0=>?_⟩;obtain⟨sb,so,e,-,hc⟩:=h4 h0;exact⟨sb,so,e,fun k hk=>⟨hc k hk 0 _ rfl,hc k hk 1 _ rfl⟩⟩
theorem Ik (v:Value)(ns:List Int)(r:Int)(w:World)(h:Li w v ns):Calls Tryz.prog 62 #[.agg #[v,.int .i64 r]] w fun e w'=>e=.returned (.bool (Nl (ns,r)))∧Below w.heap.size w w':=by
 have hx:=al0 w (.cells #[v,.int .i64 r] 43 (0,0));have h':=h.below hx.2.1;obtain⟨p,cap,rfl,hcap,hlt,hc⟩:=h';have hlt:ns.length<9223372036854775808:=hlt;have HC:=Za hc;have HX:=Za hx;clear hc hx h;by_cases h8:ns.length≤8
 ·have HS:=Za (show Nl (ns,r)=(Gq r 0 4&&Xc ns 0 8) by unfold Nl; simp [h8]);go_enter Tryz.func62,Tryz.ntmps62
  go_wp2_with fail
  refine(Jo r 0 4 _).mono ?_;rintro e w2 ⟨rfl,h2⟩;subst w2;cases hr:Gq r 0 4 with
  | false=>have HR:=Za hr;clear hr;go_wp2;go_ret;exact⟨by rw [J HS,J HR]; rfl,(J HX).2.1⟩
  | true =>
   have HR:=Za hr;clear hr;go_wp2_with fail
   generalize World.alloc w _=W at HC HX ⊢;go_loopw [18] (fun j w'=>∃ k:Nat,j=.int .i64 k∧k≤ns.length∧w'=W∧∀ q,q<k→Gq (ns.getD q 0) 0 8=true) (fun j _=>ns.length-(intOf j).toNat)
   case atStart=>exact⟨0,rfl,by omega,rfl,fun q hq=>by omega⟩
   case round =>
    obtain⟨k,rfl,hk,rfl,hno⟩:=hrel;have HN:=Za hno;clear hno;by_cases hk2:k<ns.length
    ·obtain⟨sb,so,rfl,hcc⟩:=J HC (by omega);have c:=hcc k hk2;have HW:=Za (Jo (ns.getD k 0) 0 8 wr);have HBAD:=Za (fun hb:Gq (ns.getD k 0) 0 8=false=>show Xc ns 0 8=false from Gg hk2 hb);have HNX:=Za (fun hb:Gq (ns.getD k 0) 0 8=true=>Jf (q:=fun q=>Gq (ns.getD q 0) 0 8) (J HN) hb);clear hcc HC;generalize Gq (ns.getD k 0) 0 8=yes at HW HBAD HNX;generalize ns.getD k 0=y at c HW;go_wp2_with fail
     refine(J HW).mono ?_;rintro e w2 ⟨rfl,h2⟩;subst w2;cases yes with
     | false=>have hx:=Za (J HBAD rfl);go_wp2;go_ret;exact⟨by rw [J HS,J HR,J hx]; rfl,(J HX).2.1⟩
     | true =>
      have hx:=Za (J HNX rfl);go_wp2;go_roundw
      case rel=>exact⟨k+1,by go_num,by omega,trivial,J hx⟩
      case measure=>simp [intOf]; omega
    ·have HT:=Za (show Xc ns 0 8=true from Lk (fun q hq=>J HN q (by omega)));obtain rfl:k=ns.length:=by omega
     go_wp2;go_ret;exact⟨by rw [J HS,J HR,J HT]; rfl,(J HX).2.1⟩
 ·have HS:=Za (show Nl (ns,r)=false by unfold Nl; simp [h8]);go_enter Tryz.func62,Tryz.ntmps62
  go_wp2;go_ret;exact⟨by rw [J HS]; rfl,(J HX).2.1⟩
theorem Zhl (f:Zm)(a v u c:Value)(r:Int)(x:Int×Int)(w:World)(hh:Li w v f.homes)(hs:Li w u f.slots):Calls Tryz.prog 196 #[.agg #[a,.int .i64 r,v,u,c],.agg #[.int .i64 x.1,.int .i64 x.2]] w fun e w'=>e=.returned (.bool (Rv f x))∧Below w.heap.size w w':=by
 obtain⟨x,y⟩:=x;obtain⟨p,cap,rfl,hcap,hlt,hc⟩:=hh;have hlt:f.homes.length<9223372036854775808:=hlt;have hx:=al0 w (.cells #[a,.int .i64 r,.slice p f.homes.length cap,u,c] 71 (0,0));have hs':=hs.below hx.2.1;have hs1:=hx.2.2;have HX:=Za hx.2.1;generalize hW:World.alloc w (.cells #[a,.int .i64 r,.slice p f.homes.length cap,u,c] 71 (0,0))=W at hs' HX hs1;have hy:=al0 W (.cells #[.int .i64 x,.int .i64 y] 107 (0,0));have hs'':=hs'.below hy.2.1;have HB:=Za (Zd (J HX) hy.2.1 (by omega));obtain⟨p2,cap2,rfl,hcap2,hlt2,hc2⟩:=hs'';have hlt2:f.slots.length<9223372036854775808:=hlt2;have HC2:=Za hc2;clear hc hc2 hs hs' hx hy;subst hW;by_cases h0:x=0
 ·have HS:=Za (show Rv f (x,y)=Gq y 0 (f.homes.length-1) by unfold Rv; simp [h0]);have HW:=Za (fun V=>Jo y 0 (f.homes.length-1) V);generalize Gq y 0 (f.homes.length-1)=yes at HS HW;subst h0;go_enter Tryz.func196,Tryz.ntmps196
  go_wp2_with fail
  refine(J HW _).mono ?_;rintro e w2 ⟨rfl,h2⟩;subst w2;go_wp2;go_ret;exact⟨by rw [J HS]; rfl,J HB⟩
 ·have hz:(x==0)=false:=by simpa using h0
  have HS:=Za (show Rv f (x,y)=(Gq y 0 (f.slots.length-1)&&decide (f.slots.getD y.toNat 0=x)) by unfold Rv; simp [h0]);have HW:=Za (fun V=>Jo y 0 (f.slots.length-1) V);go_enter Tryz.func196,Tryz.ntmps196
  go_wp2_with fail
  cases hr:Gq y 0 (f.slots.length-1) with
  | false =>
   rw [hr] at HW HS;go_quiet ((go_at_call 100; exact Calls.quiet_of_same (J HW _)))
   go_wp2;go_ret;exact⟨by rw [J HS]; rfl,Oz (J HB) _⟩
  | true =>
   rw [hr] at HW HS;have hr2:=hr;unfold Gq at hr2;have hr3:=of_decide_eq_true hr2;obtain⟨g0,g1⟩:=hr3;obtain⟨sb,so,rfl,hcc⟩:=J HC2 (by omega);obtain⟨n,rfl⟩:∃ n:Nat,y=n:=⟨y.toNat,by omega⟩;have hn:n<f.slots.length:=by omega
   have cc:=hcc n hn;rw [Int.toNat_natCast] at HS;clear hr hr2 hcc HC2 g0 g1;generalize f.slots.getD n 0=z at cc HS;go_quiet ((go_at_call 100; exact Calls.quiet_of_same (J HW _)))
   go_wp2;go_ret;exact⟨by rw [J HS]; rfl,Oz (J HB) _⟩
set_option maxHeartbeats 4000000
set_option maxRecDepth 100000
theorem LS.ones {w:World}{v:Value}{n:Nat}{B:Nat→Value}(h:LS 1 w v n (fun k=>#[B k])):∃ p cap,v=.slice p n cap∧n≤cap∧n<9223372036854775808∧(0<n→∃ sb so,p=some ⟨sb,so,none⟩∧∀ k,k<n→w.cell? ⟨sb,so+k,none⟩=some (B k)):=by obtain⟨p,cap,h1,h2,h3,h4⟩:=h;refine⟨p,cap,h1,h2,h3,fun h0=>?_⟩;obtain⟨sb,so,e,-,hc⟩:=h4 h0;refine⟨sb,so,e,fun k hk=>?_⟩;have:=hc k hk 0 _ rfl;rwa [Nat.mul_one,Nat.add_zero] at this
theorem Gr {w:World}{T:Nat}{cs:Array Value}{t:TypeId}{fr:Nat×Nat}(h:w.heap[T]?=some (.cells cs t fr))(j:Nat)(X:Obj):(w.alloc X).cell? ⟨T,j,none⟩=cs[j]?:=by
 have hlt:T<w.heap.size:=by
  rcases Nat.lt_or_ge T w.heap.size with y | y
  ·exact y
  ·simp [Array.getElem?_eq_none y] at h
 exact(World.cell?_of_block (a:=⟨T,j,none⟩) ((al0 w X).2.1.block T hlt)).trans (Zh h j)
theorem Li.rs {w:World}{v:Value}{ns:List Int}(h:Li w v ns):Rs w v ns:=by
 obtain⟨p,cap,h1,h2,h3,h4⟩:=h;rcases Nat.eq_zero_or_pos ns.length with h0 | h0
 ·exact Or.inl ⟨List.eq_nil_of_length_eq_zero h0,p,cap,by rw [h1,h0]⟩
 ·obtain⟨sb,so,e,hc⟩:=h4 h0;exact Or.inr ⟨sb,so,cap,by rw [h1,e],hc⟩
theorem Zhm (v:Value)(bs:List (List Yj))(B:Nat→Value)(w:World)(h:LS 1 w v bs.length (fun k=>#[B k]))(hB:∀ k,k<bs.length→∃ q c,B k=.slice q (bs.getD k []).length c∧(bs.getD k []).length<9223372036854775808):Calls Tryz.prog 130 #[v] w fun e w'=>e=.returned (.bool (Ua bs))∧w'=w:=by
 obtain⟨p,cap,rfl,hcap,hlt,hc⟩:=h.ones;have HC:=Za hc;have HB:=Za hB;clear hc h hB;go_enter Tryz.func130,Tryz.ntmps130
 go_wp2_with fail
 go_loopw [7] (fun j w'=>∃ k:Nat,j=.int .i64 k∧k≤bs.length∧w'=w∧∀ q,q<k→Gq ((bs.getD q []).length) 1 24=true) (fun j _=>bs.length-(intOf j).toNat)
 case atStart=>exact⟨0,rfl,by omega,rfl,fun q hq=>by omega⟩
 case round =>
  obtain⟨k,rfl,hk,rfl,hno⟩:=hrel;have HN:=Za hno;clear hno;by_cases hk2:k<bs.length
  ·obtain⟨sb,so,rfl,hcc⟩:=J HC (by omega);have c:=hcc k hk2;obtain⟨q,cp,hq,hql⟩:=J HB k hk2;rw [hq] at c;have HW:=Za (Jo ((bs.getD k []).length) 1 24 wr);have HBAD:=Za (fun hb:Gq ((bs.getD k []).length) 1 24=false=>show Ua bs=false from Gg hk2 hb);have HNX:=Za (fun hb:Gq ((bs.getD k []).length) 1 24=true=>Jf (q:=fun q=>Gq ((bs.getD q []).length) 1 24) (J HN) hb);clear hcc HC hq HB;generalize Gq ((bs.getD k []).length) 1 24=yes at HW HBAD HNX;generalize (bs.getD k []).length=y at c HW hql;go_wp2_with fail
   refine(J HW).mono ?_;rintro e w2 ⟨rfl,h2⟩;subst w2;cases yes with
   | false=>have hx:=Za (J HBAD rfl);go_wp2;go_ret;exact⟨by rw [J hx]; rfl,rfl⟩
   | true =>
    have hx:=Za (J HNX rfl);go_wp2;go_roundw
    case rel=>exact⟨k+1,by go_num,by omega,trivial,J hx⟩
    case measure=>simp [intOf]; omega
  ·have HT:=Za (show Ua bs=true from Lk (fun q hq=>J HN q (by omega)));obtain rfl:k=bs.length:=by omega
   go_wp2;go_ret;exact⟨by rw [J HT]; rfl,rfl⟩
theorem Zhn (f:Zm)(pv hv sv bv:Value)(w:World)(hp:LS 2 w pv f.params.length (fun k=>Nx (f.params.getD k (0,0))))(hh:Li w hv f.homes)(hs:Li w sv f.slots):Calls Tryz.prog 131 #[.agg #[pv,.int .i64 f.results,hv,sv,bv]] w fun e w'=>e=.returned (.bool (Ub f))∧Below w.heap.size w w':=by
 have hx:=al0 w (.cells #[pv,.int .i64 f.results,hv,sv,bv] 71 (0,0));have HH:=Za (hh.below hx.2.1);have HS:=Za (hs.below hx.2.1);obtain⟨p,cap,rfl,hcap,hlt,hc⟩:=(hp.below hx.2.1).pairs;obtain⟨ph,ch,rfl⟩:=hh.shape;obtain⟨ps,cs,rfl⟩:=hs.shape;have HC:=Za hc;have HX:=Za hx;clear hc hx hp hh hs;go_enter Tryz.func131,Tryz.ntmps131
 go_wp2_with fail
 generalize World.alloc w _=W at HH HS HC HX ⊢;go_loopw [10] (fun j w'=>∃ k:Nat,j=.int .i64 k∧k≤f.params.length∧Below W.heap.size W w'∧∀ q,q<k→Kt f q=true) (fun j _=>f.params.length-(intOf j).toNat)
 case atStart=>exact⟨0,rfl,by omega,Below.refl _ _,fun q hq=>by omega⟩
 case round =>
  obtain⟨k,rfl,hk,hbw,hno⟩:=hrel;have HN:=Za hno;clear hno;by_cases hk2:k<f.params.length
  ·obtain⟨sb,so,rfl,hcc⟩:=J HC (by omega);have hWs:=(J HX).2.2;have hws:=hbw.size;have hsb:sb<W.heap.size:=World.block_lt_of_cell? W _ (hcc k hk2).1;have c1:=(hbw.cell (p:=⟨sb,so+k*2,none⟩) hsb).trans (hcc k hk2).1;have c2:=(hbw.cell (p:=⟨sb,so+k*2+1,none⟩) hsb).trans (hcc k hk2).2;have hrow:=(hbw.block w.heap.size (by omega)).trans (J HX).1;have HROW:=Za hrow;have r0:=fun X:Obj=>(Gr hrow 0 X).trans rfl;have r1:=fun X:Obj=>(Gr hrow 1 X).trans rfl;have r2:=fun X:Obj=>(Gr hrow 2 X).trans rfl;have r3:=fun X:Obj=>(Gr hrow 3 X).trans rfl;have r4:=fun X:Obj=>(Gr hrow 4 X).trans rfl;have HCC:=Za hcc;have HBW:=Za hbw;clear hcc hrow;generalize hxy:f.params.getD k (0,0)=xy at c1 c2;have HXY:=Za hxy;clear hxy;obtain⟨x,y⟩:=xy;simp only at c1 c2;go_wp2_with fail
   have hy:=al0 wr (.cells #[.int .i64 x,.int .i64 y] 107 (0,0));have hbY:Below W.heap.size W (wr.alloc (.cells #[.int .i64 x,.int .i64 y] 107 (0,0))):=Zd hbw hy.2.1 hws;refine(Zhl f _ _ _ _ _ (x,y) _ ((J HH).below hbY) ((J HS).below hbY)).mono ?_;rintro e w2 ⟨rfl,hb2⟩;have hb2s:=hb2.size;have hrx:=(hb2.block wr.heap.size (by omega)).trans hy.1;have hrf:=(hb2.block w.heap.size (by omega)).trans ((hy.2.1.block w.heap.size (by omega)).trans (J HROW));have hys:=hy.2.2;have hbZ:Below W.heap.size W w2:=Zd hbY hb2 (by omega);have HBZ:=Za hbZ;have HRX:=Za hrx;have HB2:=Za hb2;clear hb2 hy hbY r0 r1 r2 r3 r4 c1 c2 hbw hbZ;have f0:=(cR hrf 0);clear hrf hrx;cases hsp:Rv f (x,y) with
   | false=>have HT:=Za (show Ub f=false from Gg hk2 (by unfold Kt; rw [J HXY,hsp]; rfl));clear hsp;go_wp2;go_ret;exact⟨by rw [J HT]; rfl,Zd (J HX).2.1 (J HBZ) (by omega)⟩
   | true =>
    have HSP:=Za hsp;clear hsp;go_wp2_with fail
    clear f0;generalize hg:wr.heap.size=Tx at HRX hys hws ⊢;have hTx:Tx<w2.heap.size:=by omega
    clear hg hb2s hys;go_loopw [24] (fun j w'=>∃ m:Nat,j=.int .i64 m∧m≤k∧Below w2.heap.size w2 w'∧∀ q,q<m→(!Zby (x,y) (f.params.getD q (0,0)))=true) (fun j _=>k-(intOf j).toNat)
    case atStart=>exact⟨0,rfl,by omega,Below.refl _ _,fun q hq=>by omega⟩
    case round =>
     obtain⟨m,rfl,hm,hbm,hmo⟩:=hrel;have HM:=Za hmo;clear hmo;have hms:=hbm.size;by_cases hm2:m<k
     ·have hq:=(J HCC) m (by omega);have hwm:Below W.heap.size W wr:=Zd (J HBZ) hbm (by have:=(J HBZ).size; omega);have c1:=(hwm.cell (p:=⟨sb,so+m*2,none⟩) hsb).trans hq.1;have c2:=(hwm.cell (p:=⟨sb,so+m*2+1,none⟩) hsb).trans hq.2;have hrow:=(hbm.block Tx hTx).trans (J HRX);have r0:=fun X:Obj=>(Gr hrow 0 X).trans rfl;have r1:=fun X:Obj=>(Gr hrow 1 X).trans rfl;have HBM:=Za hbm;clear hrow hq hwm hbm;generalize hxy:f.params.getD m (0,0)=xy at c1 c2;have HXZ:=Za hxy;clear hxy;obtain⟨x2,y2⟩:=xy;simp only at c1 c2;have hme:Zby (x,y) (x2,y2)=(decide (y=y2)&&(decide (x=0)==decide (x2=0))):=rfl;have HBAD:=Za (fun hb:(decide (y=y2)&&(decide (x=0)==decide (x2=0)))=true=>show Ub f=false from Gg hk2 (by unfold Kt; rw [J HXY]; simp only [Bool.and_eq_false_iff]; exact Or.inr (Gg hm2 (by rw [J HXZ,hme,hb]; rfl))));have HNX:=Za (fun hb:(decide (y=y2)&&(decide (x=0)==decide (x2=0)))=false=>Jf (q:=fun q=>!Zby (x,y) (f.params.getD q (0,0))) (J HM) (by show(!Zby (x,y) (f.params.getD m (0,0)))=true; rw [J HXZ,hme,hb]; rfl));have HBA:=Za (Zd (J HBM) (al0 wr (.cells #[.int .i64 x2,.int .i64 y2] 107 (0,0))).2.1 hms);clear hme;by_cases e1:y=y2
      ·subst e1;by_cases e2:x=0
       ·by_cases e3:x2=0
        ·subst e2 e3;have hx:=Za (J HBAD (by simp));go_wp2;go_ret;exact⟨by rw [J hx]; rfl,Zd (J HX).2.1 (Zd (J HBZ) (J HBA) (by have:=(J HBZ).size; omega)) (by omega)⟩
        ·subst e2;have z3:(x2==0)=false:=by simpa using e3
         have hx:=Za (J HNX (by simp [e3]));go_wp2;go_roundw
         case rel=>exact⟨m+1,by go_num,by omega,J HBA,J hx⟩
         case measure=>simp [intOf]; omega
       ·have z2:(x==0)=false:=by simpa using e2
        by_cases e3:x2=0
        ·subst e3;have hx:=Za (J HNX (by simp [e2]));go_wp2;go_roundw
         case rel=>exact⟨m+1,by go_num,by omega,J HBA,J hx⟩
         case measure=>simp [intOf]; omega
        ·have z3:(x2==0)=false:=by simpa using e3
         have hx:=Za (J HBAD (by simp [e2,e3]));go_wp2;go_ret;exact⟨by rw [J hx]; rfl,Zd (J HX).2.1 (Zd (J HBZ) (J HBA) (by have:=(J HBZ).size; omega)) (by omega)⟩
      ·have z1:(y==y2)=false:=by simpa using e1
       have hx:=Za (J HNX (by simp [e1]));go_wp2;go_roundw
       case rel=>exact⟨m+1,by go_num,by omega,J HBA,J hx⟩
       case measure=>simp [intOf]; omega
     ·obtain rfl:m=k:=by omega
      have hx:=Za (Jf (q:=Kt f) (J HN) (by unfold Kt; rw [J HXY,J HSP,Lk (J HM)]; rfl));have HBM:=Za (Zd (J HBZ) hbm (by have:=(J HBZ).size; omega));clear hbm;go_wp2;go_roundw
      case rel=>exact⟨m+1,by go_num,by omega,J HBM,J hx⟩
      case measure=>simp [intOf]; omega
  ·have HT:=Za (show Ub f=true from Lk (fun q hq=>J HN q (by omega)));obtain rfl:k=f.params.length:=by omega
   have HBW:=Za hbw;have hWs:=(J HX).2.2;clear hbw;go_wp2;go_ret;exact⟨by rw [J HT]; rfl,Zd (J HX).2.1 (J HBW) (by omega)⟩
set_option maxHeartbeats 4000000
set_option maxRecDepth 100000
theorem Zkm (r sp lk t0 t1:Int)(va vr vs:Value)(al sh by_:Int)(pr:Bool)(v:Value)(hs:List Int)(w:World)(hr:4≤r∧r≤16)(h:Li w v hs)(hn:hs.length≤1000000):Calls Tryz.prog 128 #[.agg (Zu r sp lk t0 t1 va vr vs al sh by_ pr),v] w fun e w'=>e=.returned (.bool (Ks r (Yu sp lk t0 t1) hs))∧Below w.heap.size w w':=by
 have hx:=al0 w (.cells (Zu r sp lk t0 t1 va vr vs al sh by_ pr) 25 (0,0));have HL:=Za (h.below hx.2.1);obtain⟨p,cap,rfl,hcap,hlt,-⟩:=h;have HX:=Za hx;have HRES:=Za (fun V=>Zdz r sp lk t0 t1 va vr vs al sh by_ pr V);have hr1:=hr.1;have hr2:=hr.2;clear hx hr;unfold Zu at HX HL HRES ⊢;go_enter Tryz.func128,Tryz.ntmps128
 go_wp2_with fail
 generalize World.alloc w _=W at HL HX ⊢;refine(J HRES W).mono ?_;rintro e w2 ⟨vo,rfl,hro,hco,hb2⟩;obtain⟨po,co,rfl⟩:=hro.shape;have HRO:=Za hro;have HB2:=Za hb2;have HW2:=Za (Zd (J HX).2.1 hb2 (by have:=(J HX).2.2; omega));have HL2:=Za ((J HL).below hb2);have hrow:=(hb2.block w.heap.size (by have:=(J HX).2.2; omega)).trans (J HX).1;have r0:=(cR hrow 0);have hol:(Yu sp lk t0 t1).length≤1000000:=by unfold Yu; split <;> simp
 clear hro hco hb2 hrow;generalize hO:Yu sp lk t0 t1=own at HRO hol;have HOW:=Za hO;clear hO;go_wp2_with fail
 go_loopw [12] (fun j w'=>∃ k:Nat,j=.int .i64 k∧k≤hs.length∧w'=w2∧∀ q,q<k→Zet r own hs q=true) (fun j _=>hs.length-(intOf j).toNat)
 case atStart=>exact⟨0,rfl,by omega,rfl,fun q hq=>by omega⟩
 case round =>
  obtain⟨k,rfl,hk,rfl,hno⟩:=hrel;have HN:=Za hno;clear hno;by_cases hk2:k<hs.length
  ·have HCT:=Za (fun x=>Mx (hs.take k) x (.slice p k cap) wr ((J HL2).take k (by omega)).rs (by simp; omega));have HCO:=Za (fun x=>Mx own x (.slice po own.length co) wr (J HRO) hol);obtain⟨p',cap',he,-,-,hcc⟩:=J HL2;injection he with e1 e2 e3;subst e1 e3;obtain⟨sb,so,rfl,hc⟩:=hcc (by omega);have c:=hc k hk2;have hho:Zet r own hs k=(decide (hs.getD k 0=-1)||(Gq (hs.getD k 0) 0 (r-1)&&(!decide (hs.getD k 0 ∈ own)&&!decide (hs.getD k 0 ∈ hs.take k)))):=rfl;have HHO:=Za hho;have HBAD:=Za (fun hb:Zet r own hs k=false=>show Ks r own hs=false from Gg hk2 hb);have HNX:=Za (fun hb:Zet r own hs k=true=>Jf (J HN) hb);clear hho hc hcc e2;generalize Zet r own hs k=yes at HHO HBAD HNX;generalize hs.getD k 0=y at c HHO;by_cases hm:y=-1
   ·subst hm;have hx:=Za (J HNX (by rw [J HHO]; rfl));go_wp2;go_roundw
    case rel=>exact⟨k+1,by go_num,by omega,trivial,J hx⟩
    case measure=>simp [intOf]; omega
   ·have z:(y==-1)=false:=by simpa using hm
    have HH2:=Za (show yes=(Gq y 0 (r-1)&&(!decide (y ∈ own)&&!decide (y ∈ hs.take k))) by rw [J HHO]; simp [hm]);clear HHO hm;go_wp2_with fail
    refine(Jo y 0 (r-1) _).mono ?_;rintro e w3 ⟨rfl,h3⟩;subst w3;cases hi:Gq y 0 (r-1) with
    | false=>have hx:=Za (J HBAD (by rw [J HH2,hi]; rfl));clear hi;go_wp2;go_ret;exact⟨by rw [J HOW,J hx]; rfl,J HW2⟩
    | true =>
     have HI:=Za hi;clear hi;go_wp2_with fail
     refine(J HCO y).mono ?_;rintro e w3 ⟨rfl,h3⟩;subst w3;cases hi:decide (y ∈ own) with
     | true=>have hx:=Za (J HBAD (by rw [J HH2,hi]; simp));clear hi;go_wp2;go_ret;exact⟨by rw [J HOW,J hx]; rfl,J HW2⟩
     | false =>
      have HI2:=Za hi;clear hi;go_wp2_with fail
      refine(J HCT y).mono ?_;rintro e w3 ⟨rfl,h3⟩;subst w3;cases hi:decide (y ∈ hs.take k) with
      | true=>have hx:=Za (J HBAD (by rw [J HH2,hi]; simp));clear hi;go_wp2;go_ret;exact⟨by rw [J HOW,J hx]; rfl,J HW2⟩
      | false =>
       have hx:=Za (J HNX (by rw [J HH2,hi,J HI2,J HI]; rfl));clear hi;go_wp2;go_roundw
       case rel=>exact⟨k+1,by go_num,by omega,trivial,J hx⟩
       case measure=>simp [intOf]; omega
  ·have HT:=Za (show Ks r own hs=true from Lk (fun q hq=>J HN q (by omega)));obtain rfl:k=hs.length:=by omega
   go_wp2;go_ret;exact⟨by rw [J HOW,J HT]; rfl,J HW2⟩
set_option maxHeartbeats 4000000
set_option maxRecDepth 100000
def iC (ns:List Int):List Value:=ns.map fun n=>.int .i64 n
def wTk (xs:List (Int×Int))(k:Nat):List Value:=iC ((xs.take k).map (·.1))
theorem Zbx (xs:List (Int×Int))(k:Nat)(hk:k<xs.length):wTk xs (k+1)=wTk xs k++[.int .i64 (xs.getD k (0,0)).1]:=by unfold wTk;rw [List.take_succ_eq_append_getElem hk,List.map_append];simp [iC,List.getD,hk]
theorem Gs {P:Program}{fn:Func}{q:Tmp}{uy:TypeId}(h:fn.results=#[.cell q uy])(tmps:Array Value)(w:World)(g':Nat)(t':TypeId)(cs':Array Value)(fr':Nat×Nat)(d':TypeDesc)
 (hp':tmps.getD q undef=.pointer (some ⟨g',0,none⟩)) (hg':w.heap[g']?=some (.cells cs' t' fr')) (hu':P.underlying uy=some d') (hd':(match d' with | .struct _ | .array _ _=>true | _=>false)=true) (hi':(P.info? uy).map (·.size)=some cs'.size) :
 (results fn tmps).run P w=.ok (.agg cs') w:=by
 have e2:tmps[q]?.getD undef=.pointer (some ⟨g',0,none⟩):=by simpa using hp'
 simp [results,h,e2,asAddr,run_loadVar_row w g' t' uy cs' fr' d' hg' hu' hd' hi']
theorem Tryz.infoInt:(Tryz.prog.info? 3).map (fun i=>(i.zero,i.size,i.bytes))=some (some (.int .i64 0),1,8):=by kernel_rfl
theorem Tryz.infSigK:(Tryz.prog.info? 43).map (·.size)=some 2:=by kernel_rfl
theorem Js {P:Program}{t:TypeId}{z:Value}{n b:Nat}(h:(P.info? t).map (fun i=>(i.zero,i.size,i.bytes))=some (some z,n,b)):∃ i,P.info? t=some i∧i.zero=some z∧i.size=n∧i.bytes=b:=by
 cases hi:P.info? t with
 | none=>simp [hi] at h
 | some i=>simp [hi] at h; exact⟨i,rfl,h.1,h.2.1,h.2.2⟩
theorem Li.of_own {w:World}{base:Nat}{v:Value}{ns:List Int}(h:w.ownsRow base 3 1 v ns.length (iC ns))(hn:ns.length<9223372036854775808):Li w v ns:=by
 rcases h.2 with⟨e,e0⟩ | ⟨g,cap,cur,e,-,-,hc,-⟩
 ·exact⟨none,0,by rw [e,e0],by omega,hn,fun h0=>by omega⟩
 ·refine⟨_,cap,e,hc,hn,fun h0=>⟨g,0,rfl,fun i hi=>?_⟩⟩;subst e;have:=h.cellAt i (by omega);simp only [Nat.zero_add] at this ⊢;rw [this];simp [iC,hi]
theorem Su {w w':World}{base n size:Nat}{e:TypeId}{v:Value}{xs:List Value}(h:w.ownsRow base e size v n xs)(hk:∀ g,base≤g→w'.heap[g]?=w.heap[g]?):w'.ownsRow base e size v n xs:=by
 obtain⟨h1,h2 | ⟨g,cap,cur,e1,e2,e3,e4⟩⟩:=h
 ·exact⟨h1,Or.inl h2⟩
 ·exact⟨h1,Or.inr ⟨g,cap,cur,e1,e2,(hk g e2).trans e3,e4⟩⟩
theorem Zg {a w:World}{n T:Nat}{cs:Array Value}(h:Below n a w)(hT:n≤T):Below n a (w.setRow T cs):=⟨h.os,h.tape,h.output,by have:=h.size; simpa [World.setRow] using this,fun k hk=>(setRow_other w T k cs (by omega)).trans (h.block k hk)⟩
theorem Il {w:World}{base n:Nat}{v:Value}{xs:List Value}(h:w.ownsRow base 3 1 v (n+1) xs):∃ g cap,v=.slice (some ⟨g,0,none⟩) (n+1) cap:=by
 rcases h.2 with⟨_,e0⟩ | ⟨g,cap,cur,e,-⟩
 ·omega
 ·exact⟨g,cap,e⟩
theorem Ybv (f:Zm)(pv b c d:Value)(w:World)(hp:LS 2 w pv f.params.length (fun k=>Nx (f.params.getD k (0,0))))(hn:f.params.length≤8796093022208) :
 Calls Tryz.prog 85 #[.agg #[pv,.int .i64 f.results,b,c,d]] w fun e w'=>∃ v,e=.returned (.agg #[v,.int .i64 f.results])∧Li w' v (Ll f).1∧Below w.heap.size w w':=by
 obtain⟨ti,hti,hz0,hz1,hz2⟩:=Js Tryz.infoInt;have hx:=al0 w (.cells #[pv,.int .i64 f.results,b,c,d] 71 (0,0));have hp1:=hp.below hx.2.1;have hx2:=al0 (w.alloc (.cells #[pv,.int .i64 f.results,b,c,d] 71 (0,0))) (.cells #[.slice none 0 0,.int .i64 0] 43 (0,0));have hp2:=hp1.below hx2.2.1;have hx3:=al0 ((w.alloc (.cells #[pv,.int .i64 f.results,b,c,d] 71 (0,0))).alloc (.cells #[.slice none 0 0,.int .i64 0] 43 (0,0))) (.cells #[.slice none 0 0,.int .i64 f.results] 43 (0,0));have hp3:=hp2.below hx3.2.1;have hs1:=hx.2.2;have hs2:=hx2.2.2;have hs3:=hx3.2.2;have hW1:=Zd (Zd hx.2.1 hx2.2.1 (by omega)) hx3.2.1 (by omega);have hrr:=(hx3.2.1.block (w.heap.size+1) (by omega)).trans (hs1 ▸ hx2.1);have hrs:=hx3.1;rw [hs2,hs1] at hrs hs3;obtain⟨p,cap,rfl,hcap,hlt,hc⟩:=hp3.pairs;have hpb:=hp;have HC:=Za hc;have HW1:=Za hW1;have HRS:=Za hrs;have HRR:=Za hrr;have HS3:=Za hs3;have HPB:=Za hp.pairs;clear hc hx hp hp1 hx2 hp2 hW1 hrs hrr hx3 hp3 hs1 hs2 hs3 hpb;go_enter Tryz.func85,Tryz.ntmps85
 go_wp2_with fail
 generalize World.alloc (World.alloc (World.alloc w _) _) _=W at HC HW1 HRS HRR HS3 ⊢;go_loopw [12] (fun j w'=>∃(k:Nat) (v:Value),j=.int .i64 k∧k≤f.params.length∧w'.heap[w.heap.size+1+1]?=some (.cells #[v,.int .i64 f.results] 43 (0,0))∧w'.ownsRow W.heap.size 3 1 v k (wTk f.params k)∧Below (w.heap.size+2) W w') (fun j _=>f.params.length-(intOf j).toNat)
 case atStart=>exact⟨0,_,rfl,by omega,J HRS,World.ownsRow_nil _ _ _ _,Below.refl _ _⟩
 case round =>
  obtain⟨k,v,rfl,hk,hrow,how,hbw⟩:=hrel;have hws:=hbw.size;have cv:=(cR hrow 0);have r0:=fun X:Obj=>(Gr hrow 0 X).trans rfl;have fz:=fun j=>frozen_of_row _ _ j _ _ hrow;obtain⟨vp,vn,vc,hvs⟩:∃ vp vn vc,v=.slice vp vn vc:=by
   rcases how.2 with⟨e,_⟩ | ⟨g,cap,cur,e,_⟩
   ·exact⟨_,_,_,e⟩
   ·exact⟨_,_,_,e⟩
  subst hvs;by_cases hk2:k<f.params.length
  ·obtain⟨p',cap',he,-,-,hcc0⟩:=J HPB;injection he with e1 e2 e3;subst e1 e3;obtain⟨sb,so,rfl,hcc⟩:=hcc0 (by omega);have hsb:sb<w.heap.size:=World.block_lt_of_cell? w _ (hcc k hk2).1;have hbb:Below w.heap.size w wr:=(J HW1).trans (hbw.mono (Nat.le_add_right _ _));have c1:=(hbb.cell (p:=⟨sb,so+k*2,none⟩) hsb).trans (hcc k hk2).1;have c2:=(hbb.cell (p:=⟨sb,so+k*2+1,none⟩) hsb).trans (hcc k hk2).2;have hT:=J HS3;have hTl:w.heap.size+1+1<wr.heap.size:=by omega
   have HTL:=Za hTl;have HTK:=Za (Zbx f.params k hk2);have HOW:=Za how;have HBW:=Za hbw;have HROW:=Za hrow;clear hcc hcc0 how hbw hbb hrow hT hTl e2 fz cv HC;generalize f.params.getD k (0,0)=xy at c1 c2 HTK;obtain⟨x,y⟩:=xy;simp only at c1 c2;go_wp2_with (at_builtin; refine wpList_append_own _ rfl _ _ 23 rfl W.heap.size 3 ti _ 1 8 Tryz.underlying23 hti hz0 hz1 hz2 rfl (by decide) _ _ _ rfl (((J HOW).alloc _).alloc _) ⟨wr.heap.size+1,0,none⟩ 1 1 [.int .i64 x] rfl rfl (by intro j u hj; match j,hj with | 0,hj=>(simp at hj; subst hj; exact(World.cell?_alloc_at _ _ _ _ (by simp)).trans rfl)) (by intro u hu; simp at hu; subst hu; rfl) ?c3 ?c4 ?c5 ?_)
   case c3=>unfold maxLen; omega
   case c4=>omega
   case c5=>first | omega | (simp; omega)
   intro v' w7 hown hgr _;obtain⟨g2,cap2,rfl⟩:=Il hown;have hTl:=J HTL;have hT:=J HS3;have hne:∀ q,q<W.heap.size→some q≠(Value.slice vp vn vc).ownBlock:=fun q hq e=>by have:=((J HOW).lt q e.symm).1; omega
   have hrow7:=(hgr.block (w.heap.size+1+1) (by simp; omega) (hne _ (by omega))).trans ((((Below.refl wr.heap.size wr).alloc (Nat.le_refl _) _).alloc (by simp) _).block (w.heap.size+1+1) hTl |>.trans (J HROW));have c7:=(cR hrow7 0);have f7:=frozen_of_row _ _ 0 _ _ hrow7;have HNR:=Za (heap_setCell_same w7 (w.heap.size+1+1) 0 _ _ (.slice (some ⟨g2,0,none⟩) (k+1) cap2) hrow7);have HNW:=Za (show w7.ownsRow W.heap.size 3 1 (.slice (some ⟨g2,0,none⟩) (k+1) cap2) (k+1) (wTk f.params (k+1)) by rw [J HTK]; exact hown);have HN2:=Za (Su (w':=w7.setCell ⟨w.heap.size+1+1,0,none⟩ (.slice (some ⟨g2,0,none⟩) (k+1) cap2)) (J HNW) (fun g hg=>heap_setCell_other _ _ _ _ (by show g≠w.heap.size+1+1; omega)));have HB7:=Za (show Below (w.heap.size+2) W (w7.setCell ⟨w.heap.size+1+1,0,none⟩ (.slice (some ⟨g2,0,none⟩) (k+1) cap2)) from
    have hb7:Below (w.heap.size+2) W w7:=(((J HBW).alloc (by omega) _).alloc (by simp; omega) _).trans ⟨hgr.os,hgr.tape,hgr.output,hgr.size,fun q hq=>hgr.block q (by simp; omega) (hne q (by omega))⟩;⟨hb7.os,hb7.tape,hb7.output,by simpa using hb7.size,fun q hq=>(heap_setCell_other _ _ _ _ (by show q≠w.heap.size+1+1; omega)).trans (hb7.block q hq)⟩)
   clear hown hgr hne hTl hT hrow7 r0 c1 c2;go_wp2;go_roundw
   case rel=>exact⟨k+1,_,by go_num,by omega,J HNR,J HN2,J HB7⟩
   case measure=>simp [intOf]; omega
  ·obtain rfl:k=f.params.length:=by omega
   have hvn:vn=f.params.length:=by
    rcases how.2 with⟨e,e0⟩ | ⟨g,cap,cur,e,_⟩
    ·injection e with _ e2 _; omega
    ·injection e with _ e2 _
   subst vn;unfold wTk at how;rw [List.take_length] at how;have hT:=J HS3;have HRR2:=Za ((hbw.block (w.heap.size+1) (by omega)).trans (J HRR));have HRS2:=Za hrow;have HOW:=Za how;have HBW:=Za hbw;clear hrow how hbw hT r0 fz cv;go_wp2_with (first | (refine wpList_load_row rfl 43 (.tmp 3) rfl (w.heap.size+1+1) rfl 43 #[.slice vp f.params.length vc,.int .i64 f.results] (0,0) _ (J HRS2) Tryz.underlying43 rfl (Tryz.infSigK.trans rfl) ?_) | (refine wpList_store_row rfl 43 (.tmp 2) (.tmp 24) rfl (w.heap.size+1) #[.slice vp f.params.length vc,.int .i64 f.results] rfl rfl 43 _ (J HRR2) (Tryz.infSigK.trans rfl) rfl (by simp [Value.oneCell']) ?_))
   refine bodyPost_ret (Gs (fn:=Tryz.f85) (q:=2) (uy:=43) rfl _ _ (w.heap.size+1) 43 #[.slice vp f.params.length vc,.int .i64 f.results] (0,0) _ rfl (setRow_heap _ _ _ _ _ _ (J HRR2)) Tryz.underlying43 rfl (Tryz.infSigK.trans rfl)) rfl ?_;have hT:=J HS3;refine⟨_,rfl,Li.of_own (base:=W.heap.size) (by rw [show((Ll f).1).length=f.params.length by simp [Ll]]; exact Su (J HOW) (fun g hg=>setRow_other _ _ _ _ (by omega))) (by simp [Ll]; omega),Zg ((J HW1).trans ((J HBW).mono (by omega))) (by omega)⟩
set_option maxHeartbeats 4000000
set_option maxRecDepth 100000
theorem Zfw.shape {w:World}{v:Value}{l:List Yj}(h:Zfw w v l):∃ q c,v=.slice q l.length c∧l.length<9223372036854775808:=by obtain⟨A,⟨p,cap,h1,h2,h3,h4⟩,-⟩:=h;exact⟨p,cap,h1,h3⟩
theorem Cg.blk {w:World}{f:Zm}{pv hv sv bv:Value}{B:Nat→Value}(h:Cg w f pv hv sv bv B):∀ k,k<f.blocks.length→∃ q c,B k=.slice q (f.blocks.getD k []).length c∧(f.blocks.getD k []).length<9223372036854775808:=fun k hk=>by
 have:=(h.each k hk).shape;rwa [show f.blocks[k]=f.blocks.getD k [] by simp [List.getD,hk]] at this
theorem Zkn (r sp lk t0 t1:Int)(va vr vs:Value)(al sh by_:Int)(pr:Bool)(f:Zm)(pv hv sv bv:Value)(B:Nat→Value)(w:World)(hr:4≤r∧r≤16)(hF:Cg w f pv hv sv bv B) :
 Calls Tryz.prog 89 #[.agg (Zu r sp lk t0 t1 va vr vs al sh by_ pr),.agg #[pv,.int .i64 f.results,hv,sv,bv]] w fun e w'=>e=.returned (.bool (Yv r (Yu sp lk t0 t1) f))∧Below w.heap.size w w':=by
 have hx:=al0 w (.cells (Zu r sp lk t0 t1 va vr vs al sh by_ pr) 25 (0,0));have hx2:=al0 (w.alloc (.cells (Zu r sp lk t0 t1 va vr vs al sh by_ pr) 25 (0,0))) (.cells #[pv,.int .i64 f.results,hv,sv,bv] 71 (0,0));have HFD:=Za ((hF.below hx.2.1).below hx2.2.1);have hs1:=hx.2.2;have hs2:=hx2.2.2;have HW1:=Za (Zd hx.2.1 hx2.2.1 (by omega));have hrb:=(hx2.2.1.block w.heap.size (by omega)).trans hx.1;have hrf:=hx2.1;rw [hs1] at hrf hs2;obtain⟨pp,cp,rfl⟩:=hF.ps.shape;obtain⟨ph,ch,rfl⟩:=hF.hs.shape;obtain⟨ps,cs,rfl⟩:=hF.ss.shape;obtain⟨pb,cb,rfl⟩:=hF.bs.shape;have hl1:f.params.length<9223372036854775808:=by obtain⟨_,_,_,_,h,_⟩:=hF.ps; exact h
 have hl2:f.homes.length<9223372036854775808:=hF.hs.lt;have hl3:f.slots.length<9223372036854775808:=hF.ss.lt;have hl4:f.blocks.length<9223372036854775808:=by obtain⟨_,_,_,_,h,_⟩:=hF.bs; exact h
 have HRB:=Za hrb;have HRF:=Za hrf;have HS2:=Za hs2;have HR:=Za hr;have HX0:=Za (fun h:¬ f.params.length≤8=>show Yv r (Yu sp lk t0 t1) f=false by unfold Yv; simp [h]);have HX1:=Za (fun h:Nl (Ll f)=false=>show Yv r (Yu sp lk t0 t1) f=false by unfold Yv; simp [h]);have HX2:=Za (fun h:¬ f.homes.length≤12=>show Yv r (Yu sp lk t0 t1) f=false by unfold Yv; simp [h]);have HX3:=Za (fun h:Ks r (Yu sp lk t0 t1) f.homes=false=>show Yv r (Yu sp lk t0 t1) f=false by unfold Yv; simp [h]);have HX4:=Za (fun h:¬ f.slots.length≤6=>show Yv r (Yu sp lk t0 t1) f=false by unfold Yv; simp [h]);have HX5:=Za (fun h:Xc f.slots 1 8=false=>show Yv r (Yu sp lk t0 t1) f=false by unfold Yv; simp [h]);have HX6:=Za (fun h:Gq f.blocks.length 1 12=false=>show Yv r (Yu sp lk t0 t1) f=false by unfold Yv; simp [h]);have HX7:=Za (fun h:Ua f.blocks=false=>show Yv r (Yu sp lk t0 t1) f=false by unfold Yv; simp [h]);have HX8:=Za (fun h:Ub f=false=>show Yv r (Yu sp lk t0 t1) f=false by unfold Yv; simp [h]);have HXT:=Za (fun(h0:f.params.length≤8) (h1:Nl (Ll f)=true) (h2:f.homes.length≤12) (h3:Ks r (Yu sp lk t0 t1) f.homes=true) (h4:f.slots.length≤6) (h5:Xc f.slots 1 8=true) (h6:Gq f.blocks.length 1 12=true) (h7:Ua f.blocks=true) (h8:Ub f=true)=>show Yv r (Yu sp lk t0 t1) f=true by unfold Yv; simp [h0,h1,h2,h3,h4,h5,h6,h7,h8]);clear hx hx2 hF hs1 hs2 hrb hrf hr;go_enter Tryz.func89,Tryz.ntmps89
 by_cases h0:f.params.length≤8
 ·skip
  go_wp2_with fail
  generalize World.alloc (World.alloc w _) _=W at HFD HW1 HRB HRF HS2 ⊢;refine(Ybv f _ _ _ _ W (J HFD).ps (by omega)).mono ?_;rintro e w2 ⟨vv,rfl,hvv,hb⟩;have HB2:=Za hb;have HVV:=Za hvv;obtain⟨vp,vc,rfl⟩:=hvv.shape;clear hb hvv;go_wp2_with fail
  refine(Ik _ _ _ _ (J HVV)).mono ?_;rintro e w3 ⟨rfl,hb⟩;have HB3:=Za (Zd (J HB2) hb (J HB2).size);clear hb HVV HB2;have hsz:=J HS2;have hrow:=((J HB3).block (w.heap.size+1) (by omega)).trans (J HRF);have r2:=(cR hrow 2);clear hrow hsz;cases h1:Nl ((Ll f).1,f.results) with
  | false=>have hz:=Za (J HX1 h1);go_wp2;go_ret;exact⟨by rw [J hz]; rfl,Zd (J HW1) (J HB3) (by have:=J HS2; omega)⟩
  | true =>
   have H1:=Za h1;clear h1;by_cases h2:f.homes.length≤12
   ·skip
    have hsz:=J HS2;have hrow:=((J HB3).block (w.heap.size+1) (by omega)).trans (J HRF);have hrbx:=((J HB3).block w.heap.size (by omega)).trans (J HRB);unfold Zu at hrbx;obtain⟨b0,b1,b2,b3,b4,b5,b6,b7,b8,b9,b10,b11⟩:=cT12 hrbx;clear hrow hsz hrbx;go_wp2_with fail
    refine(Zkm r sp lk t0 t1 va vr vs al sh by_ pr _ f.homes w3 (J HR) ((J HFD).below (J HB3)).hs (by omega)).mono ?_;rintro e w4 ⟨rfl,hb⟩;have HB4:=Za (Zd (J HB3) hb (J HB3).size);clear hb r2 b0 b1 b2 b3 b4 b5 b6 b7 b8 b9 b10 b11;have hsz:=J HS2;have hrow:=((J HB4).block (w.heap.size+1) (by omega)).trans (J HRF);have r3:=(cR hrow 3);have r4:=(cR hrow 4);clear hrow hsz;cases h3:Ks r (Yu sp lk t0 t1) f.homes with
    | false=>have hz:=Za (J HX3 h3);go_wp2;go_ret;exact⟨by rw [J hz]; rfl,Zd (J HW1) (J HB4) (by have:=J HS2; omega)⟩
    | true =>
     have H3:=Za h3;clear h3;by_cases h4:f.slots.length≤6
     ·skip
      go_wp2_with fail
      refine(Zkl _ f.slots w4 ((J HFD).below (J HB4)).ss).mono ?_;rintro e w5 ⟨rfl,h5'⟩;subst w5;cases h5:Xc f.slots 1 8 with
      | false=>have hz:=Za (J HX5 h5);go_wp2;go_ret;exact⟨by rw [J hz]; rfl,Zd (J HW1) (J HB4) (by have:=J HS2; omega)⟩
      | true =>
       have H5:=Za h5;clear h5;go_wp2_with fail
       refine(Jo f.blocks.length 1 12 w4).mono ?_;rintro e w5 ⟨rfl,h5'⟩;subst w5;cases h6:Gq f.blocks.length 1 12 with
       | false=>have hz:=Za (J HX6 h6);go_wp2;go_ret;exact⟨by rw [J hz]; rfl,Zd (J HW1) (J HB4) (by have:=J HS2; omega)⟩
       | true =>
        have H6:=Za h6;clear h6;go_wp2_with fail
        refine(Zhm _ f.blocks B w4 ((J HFD).below (J HB4)).bs (J HFD).blk).mono ?_;rintro e w5 ⟨rfl,h5'⟩;subst w5;cases h7:Ua f.blocks with
        | false=>have hz:=Za (J HX7 h7);go_wp2;go_ret;exact⟨by rw [J hz]; rfl,Zd (J HW1) (J HB4) (by have:=J HS2; omega)⟩
        | true =>
         have H7:=Za h7;clear h7;have hsz:=J HS2;have hrow:=((J HB4).block (w.heap.size+1) (by omega)).trans (J HRF);obtain⟨r0,r1,r2⟩:=cT3 hrow;clear hrow hsz;go_wp2_with fail
         refine(Zhn f _ _ _ _ w4 ((J HFD).below (J HB4)).ps ((J HFD).below (J HB4)).hs ((J HFD).below (J HB4)).ss).mono ?_;rintro e w5 ⟨rfl,hb⟩;have HB5:=Za (Zd (J HB4) hb (J HB4).size);clear hb;cases h8:Ub f with
         | false=>have hz:=Za (J HX8 h8);go_wp2;go_ret;exact⟨by rw [J hz]; rfl,Zd (J HW1) (J HB5) (by have:=J HS2; omega)⟩
         | true=>have hz:=Za (J HXT h0 (J H1) h2 (J H3) h4 (J H5) (J H6) (J H7) h8);go_wp2;go_ret;exact⟨by rw [J hz]; rfl,Zd (J HW1) (J HB5) (by have:=J HS2; omega)⟩
     ·have hz:=Za (J HX4 h4);go_wp2;go_ret;exact⟨by rw [J hz]; rfl,Zd (J HW1) (J HB4) (by have:=J HS2; omega)⟩
   ·have hz:=Za (J HX2 h2);go_wp2;go_ret;exact⟨by rw [J hz]; rfl,Zd (J HW1) (J HB3) (by have:=J HS2; omega)⟩
 ·have hz:=Za (J HX0 h0);go_wp2;go_ret;exact⟨by rw [J hz]; rfl,J HW1⟩
set_option maxHeartbeats 2000000
set_option maxRecDepth 100000
theorem Cf (f:Zm)(fv ev pv hv sv bv lv:Value)(r:Int)(ls:List Int)(w:World)(hh:∃ p c,hv=.slice p f.homes.length c)(hhl:f.homes.length<9223372036854775808)(h:Li w lv ls):Calls Tryz.prog 240 #[.agg #[fv,ev,pv,.int .i64 r,hv,sv,bv],lv] w fun e w'=>e=.returned (.bool (My f ls))∧Below w.heap.size w w':=by
 obtain⟨ph,ch,rfl⟩:=hh;have hx:=al0 w (.cells #[fv,ev,pv,.int .i64 r,.slice ph f.homes.length ch,sv,bv] 272 (0,0));obtain⟨p,cap,rfl,hcap,hlt,hc⟩:=h.below hx.2.1;have hlt:ls.length<9223372036854775808:=hlt;have HC:=Za hc;have HX:=Za hx;clear hc hx h;go_enter Tryz.func240,Tryz.ntmps240
 go_wp2_with fail
 generalize World.alloc w _=W at HC HX ⊢;go_loopw [9] (fun j w'=>∃ k:Nat,j=.int .i64 k∧k≤ls.length∧w'=W∧∀ q,q<k→Jt f (ls.getD q 0)=true) (fun j _=>ls.length-(intOf j).toNat)
 case atStart=>exact⟨0,rfl,by omega,rfl,fun q hq=>by omega⟩
 case round =>
  obtain⟨k,rfl,hk,rfl,hno⟩:=hrel;have HN:=Za hno;clear hno;by_cases hk2:k<ls.length
  ·obtain⟨sb,so,rfl,hcc⟩:=J HC (by omega);have c:=hcc k hk2;have r4:=(cR (J HX).1 4);have HW:=Za (Jo (ls.getD k 0) 0 (f.homes.length-1) wr);have HBAD:=Za (fun hb:Gq (ls.getD k 0) 0 (f.homes.length-1)=false=>show My f ls=false from Gg hk2 hb);have HNX:=Za (fun hb:Gq (ls.getD k 0) 0 (f.homes.length-1)=true=>Jf (q:=fun q=>Jt f (ls.getD q 0)) (J HN) hb);clear hcc HC;generalize Gq (ls.getD k 0) 0 (f.homes.length-1)=yes at HW HBAD HNX;generalize ls.getD k 0=y at c HW;go_wp2_with fail
   refine(J HW).mono ?_;rintro e w2 ⟨rfl,h2⟩;subst w2;cases yes with
   | false=>have hx:=Za (J HBAD rfl);go_wp2;go_ret;exact⟨by rw [J hx]; rfl,(J HX).2.1⟩
   | true =>
    have hx:=Za (J HNX rfl);go_wp2;go_roundw
    case rel=>exact⟨k+1,by go_num,by omega,trivial,J hx⟩
    case measure=>simp [intOf]; omega
  ·have HT:=Za (show My f ls=true from Lk (fun q hq=>J HN q (by omega)));obtain rfl:k=ls.length:=by omega
   go_wp2;go_ret;exact⟨by rw [J HT]; rfl,(J HX).2.1⟩
theorem IntKind.wrap_of_boundsK {n:Int}(h0:-9223372036854775808≤n)(h1:n<9223372036854775808):IntKind.i64.wrap n=n:=by rw [IntKind.wrap_i64];omega
theorem Li.one (w:World)(n:Int):Li (w.alloc (.cells #[.int .i64 n] 3 (0,0))) (.slice (some ⟨w.heap.size,0,none⟩) 1 1) [n]:=Li.new (ns:=[n]) (heap_alloc_new w _) (by show 1<Jy; decide)
end Go.Proofs.YtkenknfgeoecbaaGreatDoor
