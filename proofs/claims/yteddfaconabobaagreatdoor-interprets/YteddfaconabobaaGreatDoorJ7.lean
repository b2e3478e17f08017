import Derived.Test.YteddfaconabobaaGreatDoorJ0
import Derived.WalkKit
import Derived.Handy
import Derived.Deep.MidRow
import Derived.Laws.Tables
import Derived.Laws.Rows
import Derived.Deep.RegionWith
import Derived.Test.YteddfaconabobaaGreatDoorShelf
import Derived.Laws.AppendOwn
import Derived.Deep.QuietTactic
import Derived.BigQuiet
import Derived.Test.YteddfaconabobaaGreatDoorPk
import Derived.Test.YteddfaconabobaaGreatDoorJ3
import Derived.Deep.RegionHeld3
namespace Go.Proofs.YteddfaconabobaaGreatDoor
open Go.RowKit
def Li (w:World)(v:Value)(ns:List Int):Prop:=∃ p cap,v=.slice p ns.length cap∧ns.length≤cap∧ns.length<Xa∧(0<ns.length→∃ sb so,p=some ⟨sb,so,none⟩∧∀ i,i<ns.length→w.cell? ⟨sb,so+i,none⟩=some (.int .i64 (ns.getD i 0)))
def LS (size:Nat)(w:World)(v:Value)(n:Nat)(A:Nat→Array Value):Prop:=∃ p cap,v=.slice p n cap∧n≤cap∧n<Xa∧(0<n→∃ sb so,p=some ⟨sb,so,none⟩∧sb<w.heap.size∧∀ i,i<n→w.rangeAt sb (so+i*size) (A i).toList)
theorem Li.below {w w':World}{v:Value}{ns:List Int}(h:Li w v ns)(hb:Below w.heap.size w w'):Li w' v ns:=by
 obtain⟨p,cap,h1,h2,h3,h4⟩:=h;refine⟨p,cap,h1,h2,h3,fun h0=>?_⟩;obtain⟨sb,so,e,hc⟩:=h4 h0;exact⟨sb,so,e,fun i hi=>(hb.cell (p:=⟨sb,so+i,none⟩) (World.block_lt_of_cell? w _ (hc i hi))).trans (hc i hi)⟩
theorem LS.below {size:Nat}{w w':World}{v:Value}{n:Nat}{A:Nat→Array Value}(h:LS size w v n A)(hb:Below w.heap.size w w'):LS size w' v n A:=by
 obtain⟨p,cap,h1,h2,h3,h4⟩:=h;refine⟨p,cap,h1,h2,h3,fun h0=>?_⟩;obtain⟨sb,so,e,hlt,hc⟩:=h4 h0;exact⟨sb,so,e,Nat.lt_of_lt_of_le hlt hb.size,fun i hi j x hx=>(hb.cell (p:=⟨sb,so+i*size+j,none⟩) hlt).trans (hc i hi j x hx)⟩
def Yz (x:Int×Int):Array Value:=#[.int .i64 x.1,.int .i64 x.2]
def Zbz (w:World)(A:Array Value)(i:Zw):Prop:=∃ av ov,A=#[.int .i64 i.op,.int .i64 i.d,.int .i64 i.a,.int .i64 i.bb,.int .u64 i.n,.int .i64 i.f,av,ov]∧LS 2 w av i.args.length (fun k=>Yz (i.args.getD k (0,0)))∧Li w ov i.outs
def Dk (w:World)(v:Value)(l:List Zw):Prop:=∃ A:Nat→Array Value,LS 8 w v l.length A∧∀ k (h:k<l.length),Zbz w (A k) l[k]
structure Ng (w:World)(f:Zn)(pv hv sv bv:Value)(B:Nat→Value):Prop where
 ps:LS 2 w pv f.params.length (fun k=>Yz (f.params.getD k (0,0)))
 hs:Li w hv f.homes
 ss:Li w sv f.slots
 bs:LS 1 w bv f.blocks.length (fun k=>#[B k])
 each:∀ k (h:k<f.blocks.length),Dk w (B k) f.blocks[k]
def Oz (w:World)(A:Array Value)(f:Zn):Prop:=∃ pv hv sv bv B,A=#[pv,.int .i64 f.results,hv,sv,bv]∧Ng w f pv hv sv bv B
def Zca (w:World)(A:Array Value)(s:List Int×Int):Prop:=∃ lv,A=#[lv,.int .i64 s.2]∧Li w lv s.1
structure Lm (w:World)(fv ev:Value)(p:Zl)(A E:Nat→Array Value):Prop where
 fs:LS 5 w fv p.funcs.length A
 feach:∀ k (h:k<p.funcs.length),Oz w (A k) p.funcs[k]
 es:LS 2 w ev p.externs.length E
 eeach:∀ k (h:k<p.externs.length),Zca w (E k) p.externs[k]
theorem Zbz.below {w w':World}{A:Array Value}{i:Zw}(h:Zbz w A i)(hb:Below w.heap.size w w'):Zbz w' A i:=by
 obtain⟨av,ov,h1,h2,h3⟩:=h;exact⟨av,ov,h1,h2.below hb,h3.below hb⟩
theorem Dk.below {w w':World}{v:Value}{l:List Zw}(h:Dk w v l)(hb:Below w.heap.size w w'):Dk w' v l:=by
 obtain⟨A,h1,h2⟩:=h;exact⟨A,h1.below hb,fun k hk=>(h2 k hk).below hb⟩
theorem Ng.below {w w':World}{f:Zn}{pv hv sv bv:Value}{B:Nat→Value}(h:Ng w f pv hv sv bv B)(hb:Below w.heap.size w w'):Ng w' f pv hv sv bv B :=
 ⟨h.ps.below hb,h.hs.below hb,h.ss.below hb,h.bs.below hb,fun k hk=>(h.each k hk).below hb⟩
theorem Oz.below {w w':World}{A:Array Value}{f:Zn}(h:Oz w A f)(hb:Below w.heap.size w w'):Oz w' A f:=by
 obtain⟨pv,hv,sv,bv,B,h1,h2⟩:=h;exact⟨pv,hv,sv,bv,B,h1,h2.below hb⟩
theorem Zca.below {w w':World}{A:Array Value}{s:List Int×Int}(h:Zca w A s)(hb:Below w.heap.size w w'):Zca w' A s:=by
 obtain⟨lv,h1,h2⟩:=h;exact⟨lv,h1,h2.below hb⟩
theorem Lm.below {w w':World}{fv ev:Value}{p:Zl}{A E:Nat→Array Value}(h:Lm w fv ev p A E)(hb:Below w.heap.size w w'):Lm w' fv ev p A E :=
 ⟨h.fs.below hb,fun k hk=>(h.feach k hk).below hb,h.es.below hb,fun k hk=>(h.eeach k hk).below hb⟩
theorem Li.nil (w:World):Li w (.slice none 0 0) []:=⟨none,0,rfl,Nat.le_refl _,by decide,fun h=>absurd h (by decide)⟩
theorem Li.take {w:World}{p:Option Addr}{cap:Nat}{ns:List Int}(h:Li w (.slice p ns.length cap) ns)(k:Nat)(hk:k≤ns.length):Li w (.slice p k cap) (ns.take k):=by
 obtain⟨p',cap',h1,h2,h3,h4⟩:=h;injection h1 with e1 e2 e3;subst e1 e3;have hl:(ns.take k).length=k:=by simp; omega
 refine⟨p,cap,by rw [hl],by omega,by omega,fun h0=>?_⟩;obtain⟨sb,so,e,hc⟩:=h4 (by omega);refine⟨sb,so,e,fun i hi=>?_⟩;rw [hl] at hi;rw [hc i (by omega)];simp [List.getD,hi]
theorem Li.new {w:World}{g:Nat}{ns:List Int}{t:TypeId}{fr:Nat×Nat}(h:w.heap[g]?=some (.cells (ns.map fun n=>Value.int .i64 n).toArray t fr))(hs:ns.length<Xa):Li w (.slice (some ⟨g,0,none⟩) ns.length ns.length) ns :=
 ⟨_,_,rfl,Nat.le_refl _,hs,fun _=>⟨g,0,rfl,fun i hi=>by
  rw [Nat.zero_add,Zi h i];simp [List.getD,hi]⟩⟩
theorem Li.shape {w:World}{v:Value}{ns:List Int}(h:Li w v ns):∃ p cap,v=.slice p ns.length cap:=by
 obtain⟨p,cap,h1,-⟩:=h;exact⟨p,cap,h1⟩
theorem LS.shape {size:Nat}{w:World}{v:Value}{n:Nat}{A:Nat→Array Value}(h:LS size w v n A):∃ p cap,v=.slice p n cap:=by
 obtain⟨p,cap,h1,-⟩:=h;exact⟨p,cap,h1⟩
theorem Li.lt {w:World}{v:Value}{ns:List Int}(h:Li w v ns):ns.length<Xa:=by
 obtain⟨p,cap,-,-,h,-⟩:=h;exact h
def Ze:Zn:=⟨[],0,[],[],[]⟩
def Lt:Zw:=⟨0,0,0,0,0,0,[],[]⟩
def Yi (n lo hi:Int):Bool:=decide (lo≤n∧n≤hi)
def De (n:Nat)(q:Nat→Bool):Bool:=(List.range n).all q
theorem Yn {n:Nat}{q:Nat→Bool}(h:∀ k,k<n→q k=true):De n q=true:=by
 unfold De;rw [List.all_eq_true];exact fun k hk=>h k (List.mem_range.1 hk)
theorem Ya {n:Nat}{q:Nat→Bool}{k:Nat}(hk:k<n)(h:q k=false):De n q=false:=by
 unfold De;rw [List.all_eq_false];exact⟨k,List.mem_range.2 hk,by simp [h]⟩
theorem Xt {n:Nat}{q:Nat→Bool}(h:De n q=true){k:Nat}(hk:k<n):q k=true:=by
 unfold De at h;rw [List.all_eq_true] at h;exact h k (List.mem_range.2 hk)
theorem Zq {q:Nat→Bool}{k:Nat}(h:∀ j,j<k→q j=true)(hk:q k=true):∀ j,j<k+1→q j=true:=fun j hj=>by
 rcases Nat.lt_succ_iff_lt_or_eq.1 hj with h' | h'
 ·
  exact h j h'
 ·
  subst h'; exact hk
def Jd (ns:List Int)(lo hi:Int):Bool:=De ns.length fun k=>Yi (ns.getD k 0) lo hi
def Je (s:List Int×Int):Bool:=decide (s.1.length≤8)&&(Yi s.2 0 4&&Jd s.1 0 8)
def Xn (f:Zn):List Int×Int:=(f.params.map (·.1),f.results)
def Ug (regs:Int)(own hs:List Int)(k:Nat):Bool:=decide (hs.getD k 0=-1)||(Yi (hs.getD k 0) 0 (regs-1)&&(!decide (hs.getD k 0 ∈ own)&&!decide (hs.getD k 0 ∈ hs.take k)))
def Mo (regs:Int)(own hs:List Int):Bool:=De hs.length (Ug regs own hs)
def Ll (bs:List (List Zw)):Bool:=De bs.length fun k=>Yi ((bs.getD k []).length) 1 24
def Ye (f:Zn)(x:Int×Int):Bool:=if x.1=0 then Yi x.2 0 (f.homes.length-1) else Yi x.2 0 (f.slots.length-1)&&decide (f.slots.getD x.2.toNat 0=x.1)
def Lw (x y:Int×Int):Bool:=decide (x.2=y.2)&&(decide (x.1=0)==decide (y.1=0))
def Gh (f:Zn)(k:Nat):Bool:=Ye f (f.params.getD k (0,0))&&De k fun j=>!Lw (f.params.getD k (0,0)) (f.params.getD j (0,0))
def Jo (f:Zn):Bool:=De f.params.length (Gh f)
def Yf (regs:Int)(own:List Int)(f:Zn):Bool :=
 decide (f.params.length≤8)&&(Je (Xn f)&&(decide (f.homes.length≤12)&&(Mo regs own f.homes&&(decide (f.slots.length≤6)&&(Jd f.slots 1 8&&(Yi f.blocks.length 1 12&&(Ll f.blocks&&Jo f)))))))
def Yw (p:Zl):Bool:=Yi p.funcs.length 1 8&&(decide (p.externs.length≤4)&&De p.externs.length fun k=>Je (p.externs.getD k ([],0)))
def Zr (f:Zn)(n:Int):Bool:=Yi n 0 (f.homes.length-1)
def Xg (f:Zn)(l:List Int):Bool:=De l.length fun k=>Zr f (l.getD k 0)
def Ju (f:Zn)(gs:List (Int×Int))(ps:List Int):Bool:=decide (gs.length=ps.length)&&De gs.length fun k=>decide ((gs.getD k (0,0)).1=ps.getD k 0)&&Ye f (gs.getD k (0,0))
def Om (l:List Int):Bool:=De l.length fun k=>!decide (l.getD k 0 ∈ l.take k)
def Jh (f:Zn)(i:Zw)(s:List Int×Int):Bool:=Ju f i.args s.1&&(decide ((i.outs.length:Int)=s.2)&&(Xg f i.outs&&Om i.outs))
def Mp (f:Zn)(i:Zw)(s:List Int×Int):Bool:=Ju f i.args s.1&&decide (s.2=f.results)
def Np (n:Int):Bool:=decide (n=1∨n=2∨n=4∨n=8)
def Nv (f:Zn)(i:Zw):Bool:=Yi i.a 0 (f.slots.length-1)&&(Np i.n&&(Yi i.bb 0 (8*f.slots.getD i.a.toNat 0-i.n)&&decide (i.bb % i.n=0)))
def Zf (p:Zl)(f:Zn)(i:Zw):Bool :=
 if i.op=1 then Zr f i.d
 else if i.op=2 then Zr f i.d&&Zr f i.a
 else if i.op=10∨i.op=11 then Zr f i.d&&Nv f i
 else if i.op=12 then Yi i.f 0 (p.funcs.length-1)&&Jh f i (Xn (p.funcs.getD i.f.toNat Ze))
 else if i.op=13 then Yi i.f 0 (p.externs.length-1)&&Jh f i (p.externs.getD i.f.toNat ([],0))
 else if i.op=14 then Yi i.a 0 (f.blocks.length-1)
 else if i.op=15 then Zr f i.d&&(Yi i.a 0 (f.blocks.length-1)&&Yi i.bb 0 (f.blocks.length-1))
 else if i.op=16 then decide ((i.outs.length:Int)=f.results)&&Xg f i.outs
 else if i.op=17 then Yi i.f 0 (p.funcs.length-1)&&Mp f i (Xn (p.funcs.getD i.f.toNat Ze))
 else if i.op=18 then true
 else Zr f i.d&&(Zr f i.a&&Zr f i.bb)
def Xd (p:Zl)(f:Zn)(i:Zw)(last:Bool):Bool:=Yi i.op 1 18&&((decide (14≤i.op)==last)&&(!i.spare&&Zf p f i))
def Gg (n:Nat)(ok:Nat→Bool):Option Nat:=(List.range n).find? fun k=>!ok k
theorem Jv {n:Nat}{ok:Nat→Bool}{k:Nat}(h:∀ j,j<k→ok j=true)(hk:k<n)(hb:ok k=false):Gg n ok=some k:=by
 unfold Gg;rw [List.find?_range_eq_some];exact⟨by simp [hb],List.mem_range.2 hk,fun j hj=>by simp [h j hj]⟩
theorem Jw {n:Nat}{ok:Nat→Bool}(h:∀ j,j<n→ok j=true):Gg n ok=none:=by
 unfold Gg;rw [List.find?_eq_none];intro j hj;simp [h j (List.mem_range.1 hj)]
def Ki (p:Zl)(f:Zn)(k j:Nat):Bool:=Xd p f ((f.blocks.getD k []).getD j Lt) (decide (j+1=(f.blocks.getD k []).length))
def Rv (p:Zl)(f:Zn)(k:Nat):Bool:=De (f.blocks.getD k []).length (Ki p f k)
def Gt (p:Zl)(f:Zn):Bool:=De f.blocks.length (Rv p f)
def Xr (p:Zl)(f:Zn):Int×Int:=match Gg f.blocks.length (Rv p f) with
 | none=>(-1,-1)
 | some k=>(k,((Gg (f.blocks.getD k []).length (Ki p f k)).getD 0:Nat))
structure Ia where
 e:Int
 f:Int
 b:Int
 a:Int
def Gr (tab:Bool)(regs:Int)(own:List Int)(p:Zl):Ia :=
 if tab=false then ⟨2,-1,-1,-1⟩ else if Yw p=false then ⟨5,-1,-1,-1⟩ else match Gg p.funcs.length (fun k=>Yf regs own (p.funcs.getD k Ze)) with
  | some k=>⟨5,k,-1,-1⟩
  | none=>match Gg p.funcs.length (fun k=>Gt p (p.funcs.getD k Ze)) with
   | some k=>⟨5,k,(Xr p (p.funcs.getD k Ze)).1,(Xr p (p.funcs.getD k Ze)).2⟩
   | none=>⟨0,-1,-1,-1⟩
set_option maxHeartbeats 1000000 in
theorem Xb (n lo hi:Int)(w:World):Calls Tryz.prog 74 #[.int .i64 n,.int .i64 lo,.int .i64 hi] w fun e w'=>e=.returned (.bool (Yi n lo hi))∧w'=w:=by
 unfold Yi;by_cases h1:lo≤n
 ·
  by_cases h2:n≤hi
  ·
   have hd:decide (lo≤n∧n≤hi)=true:=by simp; omega
   rw [hd];clear hd;go_enter Tryz.func74,Tryz.ntmps74
   go_wp2;go_ret;exact⟨rfl,rfl⟩
  ·
   have hd:decide (lo≤n∧n≤hi)=false:=by simp; omega
   rw [hd];clear hd;go_enter Tryz.func74,Tryz.ntmps74
   go_wp2;go_ret;exact⟨rfl,rfl⟩
 ·
  have hd:decide (lo≤n∧n≤hi)=false:=by simp; omega
  rw [hd];clear hd;go_enter Tryz.func74,Tryz.ntmps74
  go_wp2;go_ret;exact⟨rfl,rfl⟩
set_option maxHeartbeats 1000000 in
set_option maxRecDepth 100000 in
theorem Zdj (v:Value)(ns:List Int)(w:World)(h:Li w v ns):Calls Tryz.prog 77 #[v] w fun e w'=>e=.returned (.bool (Jd ns 1 8))∧w'=w:=by
 obtain⟨p,cap,rfl,hcap,hlt,hc⟩:=h;have hlt:ns.length<9223372036854775808:=hlt;have HC:=J hc;clear hc;go_enter Tryz.func77,Tryz.ntmps77
 go_wp2_with fail
 go_loopw [7] (fun j w'=>∃ k:Nat,j=.int .i64 k∧k≤ns.length∧w'=w∧∀ q,q<k→Yi (ns.getD q 0) 1 8=true) (fun j _=>ns.length-(intOf j).toNat)
 case atStart=>exact⟨0,rfl,by omega,rfl,fun q hq=>by omega⟩
 case round =>
  obtain⟨k,rfl,hk,rfl,hno⟩:=hrel;have HN:=J hno;clear hno;by_cases hk2:k<ns.length
  ·
   obtain⟨sb,so,rfl,hcc⟩:=G HC (by omega);have c:=hcc k hk2;have HW:=J (Xb (ns.getD k 0) 1 8 wr);have HBAD:=J (fun hb:Yi (ns.getD k 0) 1 8=false=>show Jd ns 1 8=false from Ya hk2 hb);have HNX:=J (fun hb:Yi (ns.getD k 0) 1 8=true=>Zq (q:=fun q=>Yi (ns.getD q 0) 1 8) (G HN) hb);clear hcc HC;generalize Yi (ns.getD k 0) 1 8=yes at HW HBAD HNX;generalize ns.getD k 0=y at c HW;go_wp2_with fail
   refine(G HW).mono ?_;rintro e w2 ⟨rfl,h2⟩;subst w2;cases yes with
   | false =>
    have hx:=J (G HBAD rfl);go_wp2;go_ret;exact⟨by rw [G hx]; rfl,rfl⟩
   | true =>
    have hx:=J (G HNX rfl);go_wp2;go_roundw
    case rel=>exact⟨k+1,by go_num,by omega,trivial,G hx⟩
    case measure=>simp [intOf]; omega
  ·
   have HT:=J (show Jd ns 1 8=true from Yn (fun q hq=>G HN q (by omega)));obtain rfl:k=ns.length:=by omega
   go_wp2;go_ret;exact⟨by rw [G HT]; rfl,rfl⟩
theorem Yj (w:World)(X:Obj):(w.alloc X).heap[w.heap.size]?=some X∧Below w.heap.size w (w.alloc X)∧(w.alloc X).heap.size=w.heap.size+1 :=
 ⟨heap_alloc_new w _,(Below.refl w.heap.size w).alloc (Nat.le_refl _) _,by simp⟩
theorem Zk {a w:World}{n:Nat}(h:Below n a w)(m:Nat):Below n a (w.drewN m):=⟨h.os,h.tape,h.output,h.size,h.block⟩
theorem Za {a c d:World}{n:Nat}(h:Below n a c)(k:Below c.heap.size c d)(hn:n≤c.heap.size):Below n a d:=h.trans (k.mono hn)
theorem LS.pairs {w:World}{v:Value}{xs:List (Int×Int)}(h:LS 2 w v xs.length (fun k=>Yz (xs.getD k (0,0)))):∃ p cap,v=.slice p xs.length cap∧xs.length≤cap∧xs.length<9223372036854775808∧(0<xs.length→∃ sb so,p=some ⟨sb,so,none⟩∧∀ k,k<xs.length→w.cell? ⟨sb,so+k*2,none⟩=some (.int .i64 (xs.getD k (0,0)).1)∧w.cell? ⟨sb,so+k*2+1,none⟩=some (.int .i64 (xs.getD k (0,0)).2)):=by
 obtain⟨p,cap,h1,h2,h3,h4⟩:=h;refine⟨p,cap,h1,h2,h3,fun h0=>?_⟩;obtain⟨sb,so,e,-,hc⟩:=h4 h0;exact⟨sb,so,e,fun k hk=>⟨hc k hk 0 _ rfl,hc k hk 1 _ rfl⟩⟩
set_option maxHeartbeats 1000000 in
set_option maxRecDepth 100000 in
theorem Iq (v:Value)(ns:List Int)(r:Int)(w:World)(h:Li w v ns):Calls Tryz.prog 75 #[.agg #[v,.int .i64 r]] w fun e w'=>e=.returned (.bool (Je (ns,r)))∧Below w.heap.size w w':=by
 have hx:=Yj w (.cells #[v,.int .i64 r] 56 (0,0));have h':=h.below hx.2.1;obtain⟨p,cap,rfl,hcap,hlt,hc⟩:=h';have hlt:ns.length<9223372036854775808:=hlt;have HC:=J hc;have HX:=J hx;clear hc hx h;by_cases h8:ns.length≤8
 ·
  have HS:=J (show Je (ns,r)=(Yi r 0 4&&Jd ns 0 8) by unfold Je; simp [h8]);go_enter Tryz.func75,Tryz.ntmps75
  go_wp2_with fail
  refine(Xb r 0 4 _).mono ?_;rintro e w2 ⟨rfl,h2⟩;subst w2;cases hr:Yi r 0 4 with
  | false =>
   have HR:=J hr;clear hr;go_wp2;go_ret;exact⟨by rw [G HS,G HR]; rfl,(G HX).2.1⟩
  | true =>
   have HR:=J hr;clear hr;go_wp2_with fail
   generalize World.alloc w _=W at HC HX ⊢;go_loopw [18] (fun j w'=>∃ k:Nat,j=.int .i64 k∧k≤ns.length∧w'=W∧∀ q,q<k→Yi (ns.getD q 0) 0 8=true) (fun j _=>ns.length-(intOf j).toNat)
   case atStart=>exact⟨0,rfl,by omega,rfl,fun q hq=>by omega⟩
   case round =>
    obtain⟨k,rfl,hk,rfl,hno⟩:=hrel;have HN:=J hno;clear hno;by_cases hk2:k<ns.length
    ·
     obtain⟨sb,so,rfl,hcc⟩:=G HC (by omega);have c:=hcc k hk2;have HW:=J (Xb (ns.getD k 0) 0 8 wr);have HBAD:=J (fun hb:Yi (ns.getD k 0) 0 8=false=>show Jd ns 0 8=false from Ya hk2 hb);have HNX:=J (fun hb:Yi (ns.getD k 0) 0 8=true=>Zq (q:=fun q=>Yi (ns.getD q 0) 0 8) (G HN) hb);clear hcc HC;generalize Yi (ns.getD k 0) 0 8=yes at HW HBAD HNX;generalize ns.getD k 0=y at c HW;go_wp2_with fail
     refine(G HW).mono ?_;rintro e w2 ⟨rfl,h2⟩;subst w2;cases yes with
     | false =>
      have hx:=J (G HBAD rfl);go_wp2;go_ret;exact⟨by rw [G HS,G HR,G hx]; rfl,(G HX).2.1⟩
     | true =>
      have hx:=J (G HNX rfl);go_wp2;go_roundw
      case rel=>exact⟨k+1,by go_num,by omega,trivial,G hx⟩
      case measure=>simp [intOf]; omega
    ·
     have HT:=J (show Jd ns 0 8=true from Yn (fun q hq=>G HN q (by omega)));obtain rfl:k=ns.length:=by omega
     go_wp2;go_ret;exact⟨by rw [G HS,G HR,G HT]; rfl,(G HX).2.1⟩
 ·
  have HS:=J (show Je (ns,r)=false by unfold Je; simp [h8]);go_enter Tryz.func75,Tryz.ntmps75
  go_wp2;go_ret;exact⟨by rw [G HS]; rfl,(G HX).2.1⟩
set_option maxHeartbeats 1000000 in
set_option maxRecDepth 100000 in
theorem Zbu (f:Zn)(a v u c:Value)(r:Int)(x:Int×Int)(w:World)(hh:Li w v f.homes)(hs:Li w u f.slots):Calls Tryz.prog 98 #[.agg #[a,.int .i64 r,v,u,c],.agg #[.int .i64 x.1,.int .i64 x.2]] w fun e w'=>e=.returned (.bool (Ye f x))∧Below w.heap.size w w':=by
 obtain⟨x,y⟩:=x;obtain⟨p,cap,rfl,hcap,hlt,hc⟩:=hh;have hlt:f.homes.length<9223372036854775808:=hlt;have hx:=Yj w (.cells #[a,.int .i64 r,.slice p f.homes.length cap,u,c] 60 (0,0));have hs':=hs.below hx.2.1;have hs1:=hx.2.2;have HX:=J hx.2.1;generalize hW:World.alloc w (.cells #[a,.int .i64 r,.slice p f.homes.length cap,u,c] 60 (0,0))=W at hs' HX hs1;have hy:=Yj W (.cells #[.int .i64 x,.int .i64 y] 99 (0,0));have hs'':=hs'.below hy.2.1;have HB:=J (Za (G HX) hy.2.1 (by omega));obtain⟨p2,cap2,rfl,hcap2,hlt2,hc2⟩:=hs'';have hlt2:f.slots.length<9223372036854775808:=hlt2;have HC2:=J hc2;clear hc hc2 hs hs' hx hy;subst hW;by_cases h0:x=0
 ·
  have HS:=J (show Ye f (x,y)=Yi y 0 (f.homes.length-1) by unfold Ye; simp [h0]);have HW:=J (fun V=>Xb y 0 (f.homes.length-1) V);generalize Yi y 0 (f.homes.length-1)=yes at HS HW;subst h0;go_enter Tryz.func98,Tryz.ntmps98
  go_wp2_with fail
  refine(G HW _).mono ?_;rintro e w2 ⟨rfl,h2⟩;subst w2;go_wp2;go_ret;exact⟨by rw [G HS]; rfl,G HB⟩
 ·
  have hz:(x==0)=false:=by simpa using h0
  have HS:=J (show Ye f (x,y)=(Yi y 0 (f.slots.length-1)&&decide (f.slots.getD y.toNat 0=x)) by unfold Ye; simp [h0]);have HW:=J (fun V=>Xb y 0 (f.slots.length-1) V);go_enter Tryz.func98,Tryz.ntmps98
  go_wp2_with fail
  cases hr:Yi y 0 (f.slots.length-1) with
  | false =>
   rw [hr] at HW HS;go_quiet ((go_at_call 74; exact Calls.quiet_of_same (G HW _)))
   go_wp2;go_ret;exact⟨by rw [G HS]; rfl,Zk (G HB) _⟩
  | true =>
   rw [hr] at HW HS;have hr2:=hr;unfold Yi at hr2;have hr3:=of_decide_eq_true hr2;obtain⟨g0,g1⟩:=hr3;obtain⟨sb,so,rfl,hcc⟩:=G HC2 (by omega);obtain⟨n,rfl⟩:∃ n:Nat,y=n:=⟨y.toNat,by omega⟩;have hn:n<f.slots.length:=by omega
   have cc:=hcc n hn;rw [Int.toNat_natCast] at HS;clear hr hr2 hcc HC2 g0 g1;generalize f.slots.getD n 0=z at cc HS;go_quiet ((go_at_call 74; exact Calls.quiet_of_same (G HW _)))
   go_wp2;go_ret;exact⟨by rw [G HS]; rfl,Zk (G HB) _⟩
theorem LS.ones {w:World}{v:Value}{n:Nat}{B:Nat→Value}(h:LS 1 w v n (fun k=>#[B k])):∃ p cap,v=.slice p n cap∧n≤cap∧n<9223372036854775808∧(0<n→∃ sb so,p=some ⟨sb,so,none⟩∧∀ k,k<n→w.cell? ⟨sb,so+k,none⟩=some (B k)):=by
 obtain⟨p,cap,h1,h2,h3,h4⟩:=h;refine⟨p,cap,h1,h2,h3,fun h0=>?_⟩;obtain⟨sb,so,e,-,hc⟩:=h4 h0;refine⟨sb,so,e,fun k hk=>?_⟩;have:=hc k hk 0 _ rfl;rwa [Nat.mul_one,Nat.add_zero] at this
theorem Yh {w:World}{T:Nat}{cs:Array Value}{t:TypeId}{fr:Nat×Nat}(h:w.heap[T]?=some (.cells cs t fr))(j:Nat)(X:Obj):(w.alloc X).cell? ⟨T,j,none⟩=cs[j]?:=by
 have hlt:T<w.heap.size:=by
  rcases Nat.lt_or_ge T w.heap.size with y | y
  ·
   exact y
  ·
   simp [Array.getElem?_eq_none y] at h
 exact(World.cell?_of_block (a:=⟨T,j,none⟩) ((Yj w X).2.1.block T hlt)).trans (Zi h j)
theorem Li.rs {w:World}{v:Value}{ns:List Int}(h:Li w v ns):Rs w v ns:=by
 obtain⟨p,cap,h1,h2,h3,h4⟩:=h;rcases Nat.eq_zero_or_pos ns.length with h0 | h0
 ·
  exact Or.inl ⟨List.eq_nil_of_length_eq_zero h0,p,cap,by rw [h1,h0]⟩
 ·
  obtain⟨sb,so,e,hc⟩:=h4 h0;exact Or.inr ⟨sb,so,cap,by rw [h1,e],hc⟩
set_option maxHeartbeats 1000000 in
set_option maxRecDepth 100000 in
theorem Zbv (v:Value)(bs:List (List Zw))(B:Nat→Value)(w:World)(h:LS 1 w v bs.length (fun k=>#[B k]))(hB:∀ k,k<bs.length→∃ q c,B k=.slice q (bs.getD k []).length c∧(bs.getD k []).length<9223372036854775808):Calls Tryz.prog 78 #[v] w fun e w'=>e=.returned (.bool (Ll bs))∧w'=w:=by
 obtain⟨p,cap,rfl,hcap,hlt,hc⟩:=h.ones;have HC:=J hc;have HB:=J hB;clear hc h hB;go_enter Tryz.func78,Tryz.ntmps78
 go_wp2_with fail
 go_loopw [7] (fun j w'=>∃ k:Nat,j=.int .i64 k∧k≤bs.length∧w'=w∧∀ q,q<k→Yi ((bs.getD q []).length) 1 24=true) (fun j _=>bs.length-(intOf j).toNat)
 case atStart=>exact⟨0,rfl,by omega,rfl,fun q hq=>by omega⟩
 case round =>
  obtain⟨k,rfl,hk,rfl,hno⟩:=hrel;have HN:=J hno;clear hno;by_cases hk2:k<bs.length
  ·
   obtain⟨sb,so,rfl,hcc⟩:=G HC (by omega);have c:=hcc k hk2;obtain⟨q,cp,hq,hql⟩:=G HB k hk2;rw [hq] at c;have HW:=J (Xb ((bs.getD k []).length) 1 24 wr);have HBAD:=J (fun hb:Yi ((bs.getD k []).length) 1 24=false=>show Ll bs=false from Ya hk2 hb);have HNX:=J (fun hb:Yi ((bs.getD k []).length) 1 24=true=>Zq (q:=fun q=>Yi ((bs.getD q []).length) 1 24) (G HN) hb);clear hcc HC hq HB;generalize Yi ((bs.getD k []).length) 1 24=yes at HW HBAD HNX;generalize (bs.getD k []).length=y at c HW hql;go_wp2_with fail
   refine(G HW).mono ?_;rintro e w2 ⟨rfl,h2⟩;subst w2;cases yes with
   | false =>
    have hx:=J (G HBAD rfl);go_wp2;go_ret;exact⟨by rw [G hx]; rfl,rfl⟩
   | true =>
    have hx:=J (G HNX rfl);go_wp2;go_roundw
    case rel=>exact⟨k+1,by go_num,by omega,trivial,G hx⟩
    case measure=>simp [intOf]; omega
  ·
   have HT:=J (show Ll bs=true from Yn (fun q hq=>G HN q (by omega)));obtain rfl:k=bs.length:=by omega
   go_wp2;go_ret;exact⟨by rw [G HT]; rfl,rfl⟩
set_option maxHeartbeats 4000000 in
set_option maxRecDepth 100000 in
theorem Zbw (f:Zn)(pv hv sv bv:Value)(w:World)(hp:LS 2 w pv f.params.length (fun k=>Yz (f.params.getD k (0,0))))(hh:Li w hv f.homes)(hs:Li w sv f.slots):Calls Tryz.prog 79 #[.agg #[pv,.int .i64 f.results,hv,sv,bv]] w fun e w'=>e=.returned (.bool (Jo f))∧Below w.heap.size w w':=by
 have hx:=Yj w (.cells #[pv,.int .i64 f.results,hv,sv,bv] 60 (0,0));have HH:=J (hh.below hx.2.1);have HS:=J (hs.below hx.2.1);obtain⟨p,cap,rfl,hcap,hlt,hc⟩:=(hp.below hx.2.1).pairs;obtain⟨ph,ch,rfl⟩:=hh.shape;obtain⟨ps,cs,rfl⟩:=hs.shape;have HC:=J hc;have HX:=J hx;clear hc hx hp hh hs;go_enter Tryz.func79,Tryz.ntmps79
 go_wp2_with fail
 generalize World.alloc w _=W at HH HS HC HX ⊢;go_loopw [10] (fun j w'=>∃ k:Nat,j=.int .i64 k∧k≤f.params.length∧Below W.heap.size W w'∧∀ q,q<k→Gh f q=true) (fun j _=>f.params.length-(intOf j).toNat)
 case atStart=>exact⟨0,rfl,by omega,Below.refl _ _,fun q hq=>by omega⟩
 case round =>
  obtain⟨k,rfl,hk,hbw,hno⟩:=hrel;have HN:=J hno;clear hno;by_cases hk2:k<f.params.length
  ·
   obtain⟨sb,so,rfl,hcc⟩:=G HC (by omega);have hWs:=(G HX).2.2;have hws:=hbw.size;have hsb:sb<W.heap.size:=World.block_lt_of_cell? W _ (hcc k hk2).1;have c1:=(hbw.cell (p:=⟨sb,so+k*2,none⟩) hsb).trans (hcc k hk2).1;have c2:=(hbw.cell (p:=⟨sb,so+k*2+1,none⟩) hsb).trans (hcc k hk2).2;have hrow:=(hbw.block w.heap.size (by omega)).trans (G HX).1;have HROW:=J hrow;have r0:=fun X:Obj=>(Yh hrow 0 X).trans rfl;have r1:=fun X:Obj=>(Yh hrow 1 X).trans rfl;have r2:=fun X:Obj=>(Yh hrow 2 X).trans rfl;have r3:=fun X:Obj=>(Yh hrow 3 X).trans rfl;have r4:=fun X:Obj=>(Yh hrow 4 X).trans rfl;have HCC:=J hcc;have HBW:=J hbw;clear hcc hrow;generalize hxy:f.params.getD k (0,0)=xy at c1 c2;have HXY:=J hxy;clear hxy;obtain⟨x,y⟩:=xy;simp only at c1 c2;go_wp2_with fail
   have hy:=Yj wr (.cells #[.int .i64 x,.int .i64 y] 99 (0,0));have hbY:Below W.heap.size W (wr.alloc (.cells #[.int .i64 x,.int .i64 y] 99 (0,0))):=Za hbw hy.2.1 hws;refine(Zbu f _ _ _ _ _ (x,y) _ ((G HH).below hbY) ((G HS).below hbY)).mono ?_;rintro e w2 ⟨rfl,hb2⟩;have hb2s:=hb2.size;have hrx:=(hb2.block wr.heap.size (by omega)).trans hy.1;have hrf:=(hb2.block w.heap.size (by omega)).trans ((hy.2.1.block w.heap.size (by omega)).trans (G HROW));have hys:=hy.2.2;have hbZ:Below W.heap.size W w2:=Za hbY hb2 (by omega);have HBZ:=J hbZ;have HRX:=J hrx;have HB2:=J hb2;clear hb2 hy hbY r0 r1 r2 r3 r4 c1 c2 hbw hbZ;have f0:=(cR hrf 0);clear hrf hrx;cases hsp:Ye f (x,y) with
   | false =>
    have HT:=J (show Jo f=false from Ya hk2 (by unfold Gh; rw [G HXY,hsp]; rfl));clear hsp;go_wp2;go_ret;exact⟨by rw [G HT]; rfl,Za (G HX).2.1 (G HBZ) (by omega)⟩
   | true =>
    have HSP:=J hsp;clear hsp;go_wp2_with fail
    clear f0;generalize hg:wr.heap.size=Tx at HRX hys hws ⊢;have hTx:Tx<w2.heap.size:=by omega
    clear hg hb2s hys;go_loopw [24] (fun j w'=>∃ m:Nat,j=.int .i64 m∧m≤k∧Below w2.heap.size w2 w'∧∀ q,q<m→(!Lw (x,y) (f.params.getD q (0,0)))=true) (fun j _=>k-(intOf j).toNat)
    case atStart=>exact⟨0,rfl,by omega,Below.refl _ _,fun q hq=>by omega⟩
    case round =>
     obtain⟨m,rfl,hm,hbm,hmo⟩:=hrel;have HM:=J hmo;clear hmo;have hms:=hbm.size;by_cases hm2:m<k
     ·
      have hq:=(G HCC) m (by omega);have hwm:Below W.heap.size W wr:=Za (G HBZ) hbm (by have:=(G HBZ).size; omega);have c1:=(hwm.cell (p:=⟨sb,so+m*2,none⟩) hsb).trans hq.1;have c2:=(hwm.cell (p:=⟨sb,so+m*2+1,none⟩) hsb).trans hq.2;have hrow:=(hbm.block Tx hTx).trans (G HRX);have r0:=fun X:Obj=>(Yh hrow 0 X).trans rfl;have r1:=fun X:Obj=>(Yh hrow 1 X).trans rfl;have HBM:=J hbm;clear hrow hq hwm hbm;generalize hxy:f.params.getD m (0,0)=xy at c1 c2;have HXZ:=J hxy;clear hxy;obtain⟨x2,y2⟩:=xy;simp only at c1 c2;have hme:Lw (x,y) (x2,y2)=(decide (y=y2)&&(decide (x=0)==decide (x2=0))):=rfl;have HBAD:=J (fun hb:(decide (y=y2)&&(decide (x=0)==decide (x2=0)))=true=>show Jo f=false from Ya hk2 (by unfold Gh; rw [G HXY]; simp only [Bool.and_eq_false_iff]; exact Or.inr (Ya hm2 (by rw [G HXZ,hme,hb]; rfl))));have HNX:=J (fun hb:(decide (y=y2)&&(decide (x=0)==decide (x2=0)))=false=>Zq (q:=fun q=>!Lw (x,y) (f.params.getD q (0,0))) (G HM) (by show(!Lw (x,y) (f.params.getD m (0,0)))=true; rw [G HXZ,hme,hb]; rfl));have HBA:=J (Za (G HBM) (Yj wr (.cells #[.int .i64 x2,.int .i64 y2] 99 (0,0))).2.1 hms);clear hme;by_cases e1:y=y2
      ·
       subst e1;by_cases e2:x=0
       ·
        by_cases e3:x2=0
        ·
         subst e2 e3;have hx:=J (G HBAD (by simp));go_wp2;go_ret;exact⟨by rw [G hx]; rfl,Za (G HX).2.1 (Za (G HBZ) (G HBA) (by have:=(G HBZ).size; omega)) (by omega)⟩
        ·
         subst e2;have z3:(x2==0)=false:=by simpa using e3
         have hx:=J (G HNX (by simp [e3]));go_wp2;go_roundw
         case rel=>exact⟨m+1,by go_num,by omega,G HBA,G hx⟩
         case measure=>simp [intOf]; omega
       ·
        have z2:(x==0)=false:=by simpa using e2
        by_cases e3:x2=0
        ·
         subst e3;have hx:=J (G HNX (by simp [e2]));go_wp2;go_roundw
         case rel=>exact⟨m+1,by go_num,by omega,G HBA,G hx⟩
         case measure=>simp [intOf]; omega
        ·
         have z3:(x2==0)=false:=by simpa using e3
         have hx:=J (G HBAD (by simp [e2,e3]));go_wp2;go_ret;exact⟨by rw [G hx]; rfl,Za (G HX).2.1 (Za (G HBZ) (G HBA) (by have:=(G HBZ).size; omega)) (by omega)⟩
      ·
       have z1:(y==y2)=false:=by simpa using e1
       have hx:=J (G HNX (by simp [e1]));go_wp2;go_roundw
       case rel=>exact⟨m+1,by go_num,by omega,G HBA,G hx⟩
       case measure=>simp [intOf]; omega
     ·
      obtain rfl:m=k:=by omega
      have hx:=J (Zq (q:=Gh f) (G HN) (by unfold Gh; rw [G HXY,G HSP,Yn (G HM)]; rfl));have HBM:=J (Za (G HBZ) hbm (by have:=(G HBZ).size; omega));clear hbm;go_wp2;go_roundw
      case rel=>exact⟨m+1,by go_num,by omega,G HBM,G hx⟩
      case measure=>simp [intOf]; omega
  ·
   have HT:=J (show Jo f=true from Yn (fun q hq=>G HN q (by omega)));obtain rfl:k=f.params.length:=by omega
   have HBW:=J hbw;have hWs:=(G HX).2.2;clear hbw;go_wp2;go_ret;exact⟨by rw [G HT]; rfl,Za (G HX).2.1 (G HBW) (by omega)⟩
set_option maxHeartbeats 4000000 in
set_option maxRecDepth 100000 in
theorem Zdk (r sp lk t0 t1:Int)(va vr vs:Value)(al sh by_:Int)(pr:Bool)(v:Value)(hs:List Int)(w:World)(hr:4≤r∧r≤16)(h:Li w v hs)(hn:hs.length≤1000000):Calls Tryz.prog 76 #[.agg (Yv r sp lk t0 t1 va vr vs al sh by_ pr),v] w fun e w'=>e=.returned (.bool (Mo r (Zt sp lk t0 t1) hs))∧Below w.heap.size w w':=by
 have hx:=Yj w (.cells (Yv r sp lk t0 t1 va vr vs al sh by_ pr) 25 (0,0));have HL:=J (h.below hx.2.1);obtain⟨p,cap,rfl,hcap,hlt,-⟩:=h;have HX:=J hx;have HRES:=J (fun V=>Cv r sp lk t0 t1 va vr vs al sh by_ pr V);have hr1:=hr.1;have hr2:=hr.2;clear hx hr;unfold Yv at HX HL HRES ⊢;go_enter Tryz.func76,Tryz.ntmps76
 go_wp2_with fail
 generalize World.alloc w _=W at HL HX ⊢;refine(G HRES W).mono ?_;rintro e w2 ⟨vo,rfl,hro,hco,hb2⟩;obtain⟨po,co,rfl⟩:=hro.shape;have HRO:=J hro;have HB2:=J hb2;have HW2:=J (Za (G HX).2.1 hb2 (by have:=(G HX).2.2; omega));have HL2:=J ((G HL).below hb2);have hrow:=(hb2.block w.heap.size (by have:=(G HX).2.2; omega)).trans (G HX).1;have r0:=(cR hrow 0);have hol:(Zt sp lk t0 t1).length≤1000000:=by unfold Zt; split <;> simp
 clear hro hco hb2 hrow;generalize hO:Zt sp lk t0 t1=own at HRO hol;have HOW:=J hO;clear hO;go_wp2_with fail
 go_loopw [12] (fun j w'=>∃ k:Nat,j=.int .i64 k∧k≤hs.length∧w'=w2∧∀ q,q<k→Ug r own hs q=true) (fun j _=>hs.length-(intOf j).toNat)
 case atStart=>exact⟨0,rfl,by omega,rfl,fun q hq=>by omega⟩
 case round =>
  obtain⟨k,rfl,hk,rfl,hno⟩:=hrel;have HN:=J hno;clear hno;by_cases hk2:k<hs.length
  ·
   have HCT:=J (fun x=>Nb (hs.take k) x (.slice p k cap) wr ((G HL2).take k (by omega)).rs (by simp; omega));have HCO:=J (fun x=>Nb own x (.slice po own.length co) wr (G HRO) hol);obtain⟨p',cap',he,-,-,hcc⟩:=G HL2;injection he with e1 e2 e3;subst e1 e3;obtain⟨sb,so,rfl,hc⟩:=hcc (by omega);have c:=hc k hk2;have hho:Ug r own hs k=(decide (hs.getD k 0=-1)||(Yi (hs.getD k 0) 0 (r-1)&&(!decide (hs.getD k 0 ∈ own)&&!decide (hs.getD k 0 ∈ hs.take k)))):=rfl;have HHO:=J hho;have HBAD:=J (fun hb:Ug r own hs k=false=>show Mo r own hs=false from Ya hk2 hb);have HNX:=J (fun hb:Ug r own hs k=true=>Zq (G HN) hb);clear hho hc hcc e2;generalize Ug r own hs k=yes at HHO HBAD HNX;generalize hs.getD k 0=y at c HHO;by_cases hm:y=-1
   ·
    subst hm;have hx:=J (G HNX (by rw [G HHO]; rfl));go_wp2;go_roundw
    case rel=>exact⟨k+1,by go_num,by omega,trivial,G hx⟩
    case measure=>simp [intOf]; omega
   ·
    have z:(y==-1)=false:=by simpa using hm
    have HH2:=J (show yes=(Yi y 0 (r-1)&&(!decide (y ∈ own)&&!decide (y ∈ hs.take k))) by rw [G HHO]; simp [hm]);clear HHO hm;go_wp2_with fail
    refine(Xb y 0 (r-1) _).mono ?_;rintro e w3 ⟨rfl,h3⟩;subst w3;cases hi:Yi y 0 (r-1) with
    | false =>
     have hx:=J (G HBAD (by rw [G HH2,hi]; rfl));clear hi;go_wp2;go_ret;exact⟨by rw [G HOW,G hx]; rfl,G HW2⟩
    | true =>
     have HI:=J hi;clear hi;go_wp2_with fail
     refine(G HCO y).mono ?_;rintro e w3 ⟨rfl,h3⟩;subst w3;cases hi:decide (y ∈ own) with
     | true =>
      have hx:=J (G HBAD (by rw [G HH2,hi]; simp));clear hi;go_wp2;go_ret;exact⟨by rw [G HOW,G hx]; rfl,G HW2⟩
     | false =>
      have HI2:=J hi;clear hi;go_wp2_with fail
      refine(G HCT y).mono ?_;rintro e w3 ⟨rfl,h3⟩;subst w3;cases hi:decide (y ∈ hs.take k) with
      | true =>
       have hx:=J (G HBAD (by rw [G HH2,hi]; simp));clear hi;go_wp2;go_ret;exact⟨by rw [G HOW,G hx]; rfl,G HW2⟩
      | false =>
       have hx:=J (G HNX (by rw [G HH2,hi,G HI2,G HI]; rfl));clear hi;go_wp2;go_roundw
       case rel=>exact⟨k+1,by go_num,by omega,trivial,G hx⟩
       case measure=>simp [intOf]; omega
  ·
   have HT:=J (show Mo r own hs=true from Yn (fun q hq=>G HN q (by omega)));obtain rfl:k=hs.length:=by omega
   go_wp2;go_ret;exact⟨by rw [G HOW,G HT]; rfl,G HW2⟩
def iC (ns:List Int):List Value:=ns.map fun n=>.int .i64 n
def wTk (xs:List (Int×Int))(k:Nat):List Value:=iC ((xs.take k).map (·.1))
theorem Di (xs:List (Int×Int))(k:Nat)(hk:k<xs.length):wTk xs (k+1)=wTk xs k++[.int .i64 (xs.getD k (0,0)).1]:=by
 unfold wTk;rw [List.take_succ_eq_append_getElem hk,List.map_append];simp [iC,List.getD,hk]
theorem Jp {P:Program}{fn:Func}{q:Tmp}{uy:TypeId}(h:fn.results=#[.cell q uy])(tmps:Array Value)(w:World)(g':Nat)(t':TypeId)(cs':Array Value)(fr':Nat×Nat)(d':TypeDesc)
 (hp':tmps.getD q undef=.pointer (some ⟨g',0,none⟩)) (hg':w.heap[g']?=some (.cells cs' t' fr')) (hu':P.underlying uy=some d') (hd':(match d' with | .struct _ | .array _ _=>true | _=>false)=true) (hi':(P.info? uy).map (·.size)=some cs'.size) :
 (results fn tmps).run P w=.ok (.agg cs') w:=by
 have e2:tmps[q]?.getD undef=.pointer (some ⟨g',0,none⟩):=by simpa using hp'
 simp [results,h,e2,asAddr,run_loadVar_row w g' t' uy cs' fr' d' hg' hu' hd' hi']
theorem Tryz.infoInt:(Tryz.prog.info? 3).map (fun i=>(i.zero,i.size,i.bytes))=some (some (.int .i64 0),1,8):=by kernel_rfl
theorem Tryz.infSigK:(Tryz.prog.info? 56).map (·.size)=some 2:=by kernel_rfl
theorem Xs {P:Program}{t:TypeId}{z:Value}{n b:Nat}(h:(P.info? t).map (fun i=>(i.zero,i.size,i.bytes))=some (some z,n,b)):∃ i,P.info? t=some i∧i.zero=some z∧i.size=n∧i.bytes=b:=by
 cases hi:P.info? t with
 | none=>simp [hi] at h
 | some i=>simp [hi] at h; exact⟨i,rfl,h.1,h.2.1,h.2.2⟩
theorem Li.of_own {w:World}{base:Nat}{v:Value}{ns:List Int}(h:w.ownsRow base 3 1 v ns.length (iC ns))(hn:ns.length<9223372036854775808):Li w v ns:=by
 rcases h.2 with⟨e,e0⟩ | ⟨g,cap,cur,e,-,-,hc,-⟩
 ·
  exact⟨none,0,by rw [e,e0],by omega,hn,fun h0=>by omega⟩
 ·
  refine⟨_,cap,e,hc,hn,fun h0=>⟨g,0,rfl,fun i hi=>?_⟩⟩;subst e;have:=h.cellAt i (by omega);simp only [Nat.zero_add] at this ⊢;rw [this];simp [iC,hi]
theorem Nu {w w':World}{base n size:Nat}{e:TypeId}{v:Value}{xs:List Value}(h:w.ownsRow base e size v n xs)(hk:∀ g,base≤g→w'.heap[g]?=w.heap[g]?):w'.ownsRow base e size v n xs:=by
 obtain⟨h1,h2 | ⟨g,cap,cur,e1,e2,e3,e4⟩⟩:=h
 ·
  exact⟨h1,Or.inl h2⟩
 ·
  exact⟨h1,Or.inr ⟨g,cap,cur,e1,e2,(hk g e2).trans e3,e4⟩⟩
theorem Zh {a w:World}{n T:Nat}{cs:Array Value}(h:Below n a w)(hT:n≤T):Below n a (w.setRow T cs):=⟨h.os,h.tape,h.output,by have:=h.size; simpa [World.setRow] using this,fun k hk=>(setRow_other w T k cs (by omega)).trans (h.block k hk)⟩
theorem Ru {w:World}{base n:Nat}{v:Value}{xs:List Value}(h:w.ownsRow base 3 1 v (n+1) xs):∃ g cap,v=.slice (some ⟨g,0,none⟩) (n+1) cap:=by
 rcases h.2 with⟨_,e0⟩ | ⟨g,cap,cur,e,-⟩
 ·
  omega
 ·
  exact⟨g,cap,e⟩
set_option maxHeartbeats 4000000 in
set_option maxRecDepth 100000 in
theorem Ka (f:Zn)(pv b c d:Value)(w:World)(hp:LS 2 w pv f.params.length (fun k=>Yz (f.params.getD k (0,0))))(hn:f.params.length≤8796093022208) :
 Calls Tryz.prog 22 #[.agg #[pv,.int .i64 f.results,b,c,d]] w fun e w'=>∃ v,e=.returned (.agg #[v,.int .i64 f.results])∧Li w' v (Xn f).1∧Below w.heap.size w w'∧(∀ sb so n c,v=.slice (some ⟨sb,so,none⟩) n c→w.heap.size≤sb):=by
 obtain⟨ti,hti,hz0,hz1,hz2⟩:=Xs Tryz.infoInt;have hx:=Yj w (.cells #[pv,.int .i64 f.results,b,c,d] 60 (0,0));have hp1:=hp.below hx.2.1;have hx2:=Yj (w.alloc (.cells #[pv,.int .i64 f.results,b,c,d] 60 (0,0))) (.cells #[.slice none 0 0,.int .i64 0] 56 (0,0));have hp2:=hp1.below hx2.2.1;have hW1:=Za hx.2.1 hx2.2.1 (by omega);have hs1:=hx.2.2;have hs2:=hx2.2.2;have hrf:=(hx2.2.1.block w.heap.size (by omega)).trans hx.1;have hrr:=hx2.1;rw [hs1] at hs2 hrr;have HS2:=J hs2;obtain⟨p,cap,rfl,hcap,hlt,hc⟩:=hp2.pairs;have HC:=J hc;have HW1:=J hW1;have HRF:=J hrf;have HRR:=J hrr;clear hc hx hp hp1 hx2 hp2 hW1 hrf hrr hs2 hs1;go_enter Tryz.func22,Tryz.ntmps22
 go_wp2_with fail
 generalize World.alloc (World.alloc w _) _=W at HC HW1 HRF HRR HS2 ⊢;go_loopw [3,9] (fun v j w'=>∃ k:Nat,j=.int .i64 k∧k≤f.params.length∧w'.ownsRow W.heap.size 3 1 v k (wTk f.params k)∧Below W.heap.size W w') (fun _ j _=>f.params.length-(intOf j).toNat)
 case atStart=>exact⟨0,rfl,by omega,World.ownsRow_nil _ _ _ _,Below.refl _ _⟩
 case round =>
  obtain⟨k,rfl,hk,how,hbw⟩:=hrel;have hws:=hbw.size;by_cases hk2:k<f.params.length
  ·
   obtain⟨sb,so,rfl,hcc⟩:=G HC (by omega);have hsb:sb<W.heap.size:=World.block_lt_of_cell? W _ (hcc k hk2).1;have c1:=(hbw.cell (p:=⟨sb,so+k*2,none⟩) hsb).trans (hcc k hk2).1;have c2:=(hbw.cell (p:=⟨sb,so+k*2+1,none⟩) hsb).trans (hcc k hk2).2;have HTK:=J (Di f.params k hk2);have HOW:=J how;have HBW:=J hbw;clear hcc how hbw;generalize f.params.getD k (0,0)=xy at c1 c2 HTK;obtain⟨x,y⟩:=xy;simp only at c1 c2;go_wp2_with (at_builtin; refine wpList_append_own _ rfl _ _ 23 rfl W.heap.size 3 ti _ 1 8 Tryz.underlying23 hti hz0 hz1 hz2 rfl (by decide) _ _ _ rfl (((G HOW).alloc _).alloc _) ⟨wr.heap.size+1,0,none⟩ 1 1 [.int .i64 x] rfl rfl (by intro j u hj; match j,hj with | 0,hj=>(simp at hj; subst hj; exact(World.cell?_alloc_at _ _ _ _ (by simp)).trans rfl)) (by intro u hu; simp at hu; subst hu; rfl) ?c3 ?c4 ?c5 ?_)
   case c3=>unfold maxLen; omega
   case c4=>omega
   case c5=>first | omega | (simp; omega)
   intro v' w7 hown hgr _;have HNW:=J (show w7.ownsRow W.heap.size 3 1 v' (k+1) (wTk f.params (k+1)) by rw [G HTK]; exact hown);have HB7:=J (show Below W.heap.size W w7 from(((G HBW).alloc (by omega) _).alloc (by simp; omega) _).trans ⟨hgr.os,hgr.tape,hgr.output,hgr.size,fun q hq=>hgr.block q (by simp; omega) (fun e=>by have:=((G HOW).lt q e.symm).1; omega)⟩);obtain⟨g2,cap2,rfl⟩:=Ru hown;clear hown hgr;go_wp2;go_roundw
   case rel=>exact⟨k+1,by go_num,by omega,G HNW,G HB7⟩
   case measure=>simp [intOf]; omega
  ·
   obtain rfl:k=f.params.length:=by omega
   unfold wTk at how;rw [List.take_length] at how;have hs2:=G HS2;have hll:((Xn f).1).length=f.params.length:=by simp [Xn]
   have hLi:=Li.of_own (v:=u3) (ns:=(Xn f).1) (by rw [hll]; exact how) (by omega);obtain⟨pz,cz,hz⟩:=hLi.shape;rw [hll] at hz;clear hll;subst hz;have hrow:=(hbw.block w.heap.size (by omega)).trans (G HRF);have r1:=(cR hrow 1);have HRR2:=J ((hbw.block (w.heap.size+1) (by omega)).trans (G HRR));have HLI:=J how;have HBW:=J hbw;clear hrow how hbw hLi hs2;go_wp2_with (refine wpList_store_row rfl 56 (.tmp 2) (.tmp 22) rfl (w.heap.size+1) #[.slice pz f.params.length cz,.int .i64 f.results] rfl rfl 56 _ (G HRR2) (Tryz.infSigK.trans rfl) rfl (by simp [Value.oneCell']) ?_)
   refine bodyPost_ret (Jp (fn:=Tryz.f22) (q:=2) (uy:=56) rfl _ _ (w.heap.size+1) 56 #[.slice pz f.params.length cz,.int .i64 f.results] (0,0) _ rfl (setRow_heap _ _ _ _ _ _ (G HRR2)) Tryz.underlying56 rfl (Tryz.infSigK.trans rfl)) rfl ?_;have hs2:=G HS2;have hs3:=(G HBW).size;refine⟨_,rfl,Li.of_own (base:=W.heap.size) (by rw [show((Xn f).1).length=f.params.length by simp [Xn]]; exact Nu (G HLI) (fun g hg=>setRow_other _ _ _ _ (by omega))) (by simp [Xn]; omega),Zh (Za (G HW1) (G HBW) (by omega)) (by omega),fun sb so n c e=>by have h:=((G HLI).lt sb (by rw [e]; rfl)).1; omega⟩
theorem Zmx (f:Zn)(pv b c d:Value)(w:World)(hp:LS 2 w pv f.params.length (fun k=>Yz (f.params.getD k (0,0))))(hn:f.params.length≤8796093022208) :
 Calls Tryz.prog 22 #[.agg #[pv,.int .i64 f.results,b,c,d]] w fun e w'=>∃ v,e=.returned (.agg #[v,.int .i64 f.results])∧Li w' v (Xn f).1∧Below w.heap.size w w':=by
 refine(Ka f pv b c d w hp hn).mono ?_;rintro e w' ⟨v,h1,h2,h3,-⟩;exact⟨v,h1,h2,h3⟩
set_option maxHeartbeats 4000000 in
set_option maxRecDepth 100000 in
theorem Zdl (f:Zn)(pv b c d:Value)(w:World)(hp:LS 2 w pv f.params.length (fun k=>Yz (f.params.getD k (0,0))))(hn:f.params.length≤8796093022208) :
 Calls Tryz.prog 41 #[.agg #[pv,.int .i64 f.results,b,c,d]] w fun e w'=>∃ v,e=.returned (.agg #[v,.int .i64 f.results])∧Li w' v (Xn f).1∧Below w.heap.size w w':=by
 obtain⟨ti,hti,hz0,hz1,hz2⟩:=Xs Tryz.infoInt;have hx:=Yj w (.cells #[pv,.int .i64 f.results,b,c,d] 60 (0,0));have hp1:=hp.below hx.2.1;have hx2:=Yj (w.alloc (.cells #[pv,.int .i64 f.results,b,c,d] 60 (0,0))) (.cells #[.slice none 0 0,.int .i64 0] 56 (0,0));have hp2:=hp1.below hx2.2.1;have hx3:=Yj ((w.alloc (.cells #[pv,.int .i64 f.results,b,c,d] 60 (0,0))).alloc (.cells #[.slice none 0 0,.int .i64 0] 56 (0,0))) (.cells #[.slice none 0 0,.int .i64 f.results] 56 (0,0));have hp3:=hp2.below hx3.2.1;have hs1:=hx.2.2;have hs2:=hx2.2.2;have hs3:=hx3.2.2;have hW1:=Za (Za hx.2.1 hx2.2.1 (by omega)) hx3.2.1 (by omega);have hrr:=(hx3.2.1.block (w.heap.size+1) (by omega)).trans (hs1 ▸ hx2.1);have hrs:=hx3.1;rw [hs2,hs1] at hrs hs3;obtain⟨p,cap,rfl,hcap,hlt,hc⟩:=hp3.pairs;have hpb:=hp;have HC:=J hc;have HW1:=J hW1;have HRS:=J hrs;have HRR:=J hrr;have HS3:=J hs3;have HPB:=J hp.pairs;clear hc hx hp hp1 hx2 hp2 hW1 hrs hrr hx3 hp3 hs1 hs2 hs3 hpb;go_enter Tryz.func41,Tryz.ntmps41
 go_wp2_with fail
 generalize World.alloc (World.alloc (World.alloc w _) _) _=W at HC HW1 HRS HRR HS3 ⊢;go_loopw [12] (fun j w'=>∃(k:Nat) (v:Value),j=.int .i64 k∧k≤f.params.length∧w'.heap[w.heap.size+1+1]?=some (.cells #[v,.int .i64 f.results] 56 (0,0))∧w'.ownsRow W.heap.size 3 1 v k (wTk f.params k)∧Below (w.heap.size+2) W w') (fun j _=>f.params.length-(intOf j).toNat)
 case atStart=>exact⟨0,_,rfl,by omega,G HRS,World.ownsRow_nil _ _ _ _,Below.refl _ _⟩
 case round =>
  obtain⟨k,v,rfl,hk,hrow,how,hbw⟩:=hrel;have hws:=hbw.size;have cv:=(cR hrow 0);have r0:=fun X:Obj=>(Yh hrow 0 X).trans rfl;have fz:=fun j=>frozen_of_row _ _ j _ _ hrow;obtain⟨vp,vn,vc,hvs⟩:∃ vp vn vc,v=.slice vp vn vc:=by
   rcases how.2 with⟨e,_⟩ | ⟨g,cap,cur,e,_⟩
   ·
    exact⟨_,_,_,e⟩
   ·
    exact⟨_,_,_,e⟩
  subst hvs;by_cases hk2:k<f.params.length
  ·
   obtain⟨p',cap',he,-,-,hcc0⟩:=G HPB;injection he with e1 e2 e3;subst e1 e3;obtain⟨sb,so,rfl,hcc⟩:=hcc0 (by omega);have hsb:sb<w.heap.size:=World.block_lt_of_cell? w _ (hcc k hk2).1;have hbb:Below w.heap.size w wr:=(G HW1).trans (hbw.mono (Nat.le_add_right _ _));have c1:=(hbb.cell (p:=⟨sb,so+k*2,none⟩) hsb).trans (hcc k hk2).1;have c2:=(hbb.cell (p:=⟨sb,so+k*2+1,none⟩) hsb).trans (hcc k hk2).2;have hT:=G HS3;have hTl:w.heap.size+1+1<wr.heap.size:=by omega
   have HTL:=J hTl;have HTK:=J (Di f.params k hk2);have HOW:=J how;have HBW:=J hbw;have HROW:=J hrow;clear hcc hcc0 how hbw hbb hrow hT hTl e2 fz cv HC;generalize f.params.getD k (0,0)=xy at c1 c2 HTK;obtain⟨x,y⟩:=xy;simp only at c1 c2;go_wp2_with (at_builtin; refine wpList_append_own _ rfl _ _ 23 rfl W.heap.size 3 ti _ 1 8 Tryz.underlying23 hti hz0 hz1 hz2 rfl (by decide) _ _ _ rfl (((G HOW).alloc _).alloc _) ⟨wr.heap.size+1,0,none⟩ 1 1 [.int .i64 x] rfl rfl (by intro j u hj; match j,hj with | 0,hj=>(simp at hj; subst hj; exact(World.cell?_alloc_at _ _ _ _ (by simp)).trans rfl)) (by intro u hu; simp at hu; subst hu; rfl) ?c3 ?c4 ?c5 ?_)
   case c3=>unfold maxLen; omega
   case c4=>omega
   case c5=>first | omega | (simp; omega)
   intro v' w7 hown hgr _;obtain⟨g2,cap2,rfl⟩:=Ru hown;have hTl:=G HTL;have hT:=G HS3;have hne:∀ q,q<W.heap.size→some q≠(Value.slice vp vn vc).ownBlock:=fun q hq e=>by have:=((G HOW).lt q e.symm).1; omega
   have hrow7:=(hgr.block (w.heap.size+1+1) (by simp; omega) (hne _ (by omega))).trans ((((Below.refl wr.heap.size wr).alloc (Nat.le_refl _) _).alloc (by simp) _).block (w.heap.size+1+1) hTl |>.trans (G HROW));have c7:=(cR hrow7 0);have f7:=frozen_of_row _ _ 0 _ _ hrow7;have HNR:=J (heap_setCell_same w7 (w.heap.size+1+1) 0 _ _ (.slice (some ⟨g2,0,none⟩) (k+1) cap2) hrow7);have HNW:=J (show w7.ownsRow W.heap.size 3 1 (.slice (some ⟨g2,0,none⟩) (k+1) cap2) (k+1) (wTk f.params (k+1)) by rw [G HTK]; exact hown);have HN2:=J (Nu (w':=w7.setCell ⟨w.heap.size+1+1,0,none⟩ (.slice (some ⟨g2,0,none⟩) (k+1) cap2)) (G HNW) (fun g hg=>heap_setCell_other _ _ _ _ (by show g≠w.heap.size+1+1; omega)));have HB7:=J (show Below (w.heap.size+2) W (w7.setCell ⟨w.heap.size+1+1,0,none⟩ (.slice (some ⟨g2,0,none⟩) (k+1) cap2)) from
    have hb7:Below (w.heap.size+2) W w7:=(((G HBW).alloc (by omega) _).alloc (by simp; omega) _).trans ⟨hgr.os,hgr.tape,hgr.output,hgr.size,fun q hq=>hgr.block q (by simp; omega) (hne q (by omega))⟩;⟨hb7.os,hb7.tape,hb7.output,by simpa using hb7.size,fun q hq=>(heap_setCell_other _ _ _ _ (by show q≠w.heap.size+1+1; omega)).trans (hb7.block q hq)⟩)
   clear hown hgr hne hTl hT hrow7 r0 c1 c2;go_wp2;go_roundw
   case rel=>exact⟨k+1,_,by go_num,by omega,G HNR,G HN2,G HB7⟩
   case measure=>simp [intOf]; omega
  ·
   obtain rfl:k=f.params.length:=by omega
   have hvn:vn=f.params.length:=by
    rcases how.2 with⟨e,e0⟩ | ⟨g,cap,cur,e,_⟩
    ·
     injection e with _ e2 _; omega
    ·
     injection e with _ e2 _
   subst vn;unfold wTk at how;rw [List.take_length] at how;have hT:=G HS3;have HRR2:=J ((hbw.block (w.heap.size+1) (by omega)).trans (G HRR));have HRS2:=J hrow;have HOW:=J how;have HBW:=J hbw;clear hrow how hbw hT r0 fz cv;go_wp2_with (first | (refine wpList_load_row rfl 56 (.tmp 3) rfl (w.heap.size+1+1) rfl 56 #[.slice vp f.params.length vc,.int .i64 f.results] (0,0) _ (G HRS2) Tryz.underlying56 rfl (Tryz.infSigK.trans rfl) ?_) | (refine wpList_store_row rfl 56 (.tmp 2) (.tmp 24) rfl (w.heap.size+1) #[.slice vp f.params.length vc,.int .i64 f.results] rfl rfl 56 _ (G HRR2) (Tryz.infSigK.trans rfl) rfl (by simp [Value.oneCell']) ?_))
   refine bodyPost_ret (Jp (fn:=Tryz.f41) (q:=2) (uy:=56) rfl _ _ (w.heap.size+1) 56 #[.slice vp f.params.length vc,.int .i64 f.results] (0,0) _ rfl (setRow_heap _ _ _ _ _ _ (G HRR2)) Tryz.underlying56 rfl (Tryz.infSigK.trans rfl)) rfl ?_;have hT:=G HS3;refine⟨_,rfl,Li.of_own (base:=W.heap.size) (by rw [show((Xn f).1).length=f.params.length by simp [Xn]]; exact Nu (G HOW) (fun g hg=>setRow_other _ _ _ _ (by omega))) (by simp [Xn]; omega),Zh ((G HW1).trans ((G HBW).mono (by omega))) (by omega)⟩
theorem Dk.shape {w:World}{v:Value}{l:List Zw}(h:Dk w v l):∃ q c,v=.slice q l.length c∧l.length<9223372036854775808:=by
 obtain⟨A,⟨p,cap,h1,h2,h3,h4⟩,-⟩:=h;exact⟨p,cap,h1,h3⟩
theorem Ng.blk {w:World}{f:Zn}{pv hv sv bv:Value}{B:Nat→Value}(h:Ng w f pv hv sv bv B):∀ k,k<f.blocks.length→∃ q c,B k=.slice q (f.blocks.getD k []).length c∧(f.blocks.getD k []).length<9223372036854775808:=fun k hk=>by
 have:=(h.each k hk).shape;rwa [show f.blocks[k]=f.blocks.getD k [] by simp [List.getD,hk]] at this
set_option maxHeartbeats 4000000 in
set_option maxRecDepth 100000 in
theorem Zdm (r sp lk t0 t1:Int)(va vr vs:Value)(al sh by_:Int)(pr:Bool)(f:Zn)(pv hv sv bv:Value)(B:Nat→Value)(w:World)(hr:4≤r∧r≤16)(hF:Ng w f pv hv sv bv B) :
 Calls Tryz.prog 61 #[.agg (Yv r sp lk t0 t1 va vr vs al sh by_ pr),.agg #[pv,.int .i64 f.results,hv,sv,bv]] w fun e w'=>e=.returned (.bool (Yf r (Zt sp lk t0 t1) f))∧Below w.heap.size w w':=by
 have hx:=Yj w (.cells (Yv r sp lk t0 t1 va vr vs al sh by_ pr) 25 (0,0));have hx2:=Yj (w.alloc (.cells (Yv r sp lk t0 t1 va vr vs al sh by_ pr) 25 (0,0))) (.cells #[pv,.int .i64 f.results,hv,sv,bv] 60 (0,0));have HFD:=J ((hF.below hx.2.1).below hx2.2.1);have hs1:=hx.2.2;have hs2:=hx2.2.2;have HW1:=J (Za hx.2.1 hx2.2.1 (by omega));have hrb:=(hx2.2.1.block w.heap.size (by omega)).trans hx.1;have hrf:=hx2.1;rw [hs1] at hrf hs2;obtain⟨pp,cp,rfl⟩:=hF.ps.shape;obtain⟨ph,ch,rfl⟩:=hF.hs.shape;obtain⟨ps,cs,rfl⟩:=hF.ss.shape;obtain⟨pb,cb,rfl⟩:=hF.bs.shape;have hl1:f.params.length<9223372036854775808:=by obtain⟨_,_,_,_,h,_⟩:=hF.ps; exact h
 have hl2:f.homes.length<9223372036854775808:=hF.hs.lt;have hl3:f.slots.length<9223372036854775808:=hF.ss.lt;have hl4:f.blocks.length<9223372036854775808:=by obtain⟨_,_,_,_,h,_⟩:=hF.bs; exact h
 have HRB:=J hrb;have HRF:=J hrf;have HS2:=J hs2;have HR:=J hr;have HX0:=J (fun h:¬ f.params.length≤8=>show Yf r (Zt sp lk t0 t1) f=false by unfold Yf; simp [h]);have HX1:=J (fun h:Je (Xn f)=false=>show Yf r (Zt sp lk t0 t1) f=false by unfold Yf; simp [h]);have HX2:=J (fun h:¬ f.homes.length≤12=>show Yf r (Zt sp lk t0 t1) f=false by unfold Yf; simp [h]);have HX3:=J (fun h:Mo r (Zt sp lk t0 t1) f.homes=false=>show Yf r (Zt sp lk t0 t1) f=false by unfold Yf; simp [h]);have HX4:=J (fun h:¬ f.slots.length≤6=>show Yf r (Zt sp lk t0 t1) f=false by unfold Yf; simp [h]);have HX5:=J (fun h:Jd f.slots 1 8=false=>show Yf r (Zt sp lk t0 t1) f=false by unfold Yf; simp [h]);have HX6:=J (fun h:Yi f.blocks.length 1 12=false=>show Yf r (Zt sp lk t0 t1) f=false by unfold Yf; simp [h]);have HX7:=J (fun h:Ll f.blocks=false=>show Yf r (Zt sp lk t0 t1) f=false by unfold Yf; simp [h]);have HX8:=J (fun h:Jo f=false=>show Yf r (Zt sp lk t0 t1) f=false by unfold Yf; simp [h]);have HXT:=J (fun(h0:f.params.length≤8) (h1:Je (Xn f)=true) (h2:f.homes.length≤12) (h3:Mo r (Zt sp lk t0 t1) f.homes=true) (h4:f.slots.length≤6) (h5:Jd f.slots 1 8=true) (h6:Yi f.blocks.length 1 12=true) (h7:Ll f.blocks=true) (h8:Jo f=true)=>show Yf r (Zt sp lk t0 t1) f=true by unfold Yf; simp [h0,h1,h2,h3,h4,h5,h6,h7,h8]);clear hx hx2 hF hs1 hs2 hrb hrf hr;go_enter Tryz.func61,Tryz.ntmps61
 by_cases h0:f.params.length≤8
 ·
  skip
  go_wp2_with fail
  generalize World.alloc (World.alloc w _) _=W at HFD HW1 HRB HRF HS2 ⊢;refine(Zdl f _ _ _ _ W (G HFD).ps (by omega)).mono ?_;rintro e w2 ⟨vv,rfl,hvv,hb⟩;have HB2:=J hb;have HVV:=J hvv;obtain⟨vp,vc,rfl⟩:=hvv.shape;clear hb hvv;go_wp2_with fail
  refine(Iq _ _ _ _ (G HVV)).mono ?_;rintro e w3 ⟨rfl,hb⟩;have HB3:=J (Za (G HB2) hb (G HB2).size);clear hb HVV HB2;have hsz:=G HS2;have hrow:=((G HB3).block (w.heap.size+1) (by omega)).trans (G HRF);have r2:=(cR hrow 2);clear hrow hsz;cases h1:Je ((Xn f).1,f.results) with
  | false =>
   have hz:=J (G HX1 h1);go_wp2;go_ret;exact⟨by rw [G hz]; rfl,Za (G HW1) (G HB3) (by have:=G HS2; omega)⟩
  | true =>
   have H1:=J h1;clear h1;by_cases h2:f.homes.length≤12
   ·
    skip
    have hsz:=G HS2;have hrow:=((G HB3).block (w.heap.size+1) (by omega)).trans (G HRF);have hrbx:=((G HB3).block w.heap.size (by omega)).trans (G HRB);unfold Yv at hrbx;have b0:=(cR hrbx 0);have b1:=(cR hrbx 1);have b2:=(cR hrbx 2);have b3:=(cR hrbx 3);have b4:=(cR hrbx 4);have b5:=(cR hrbx 5);have b6:=(cR hrbx 6);have b7:=(cR hrbx 7);have b8:=(cR hrbx 8);have b9:=(cR hrbx 9);have b10:=(cR hrbx 10);have b11:=(cR hrbx 11);clear hrow hsz hrbx;go_wp2_with fail
    refine(Zdk r sp lk t0 t1 va vr vs al sh by_ pr _ f.homes w3 (G HR) ((G HFD).below (G HB3)).hs (by omega)).mono ?_;rintro e w4 ⟨rfl,hb⟩;have HB4:=J (Za (G HB3) hb (G HB3).size);clear hb r2 b0 b1 b2 b3 b4 b5 b6 b7 b8 b9 b10 b11;have hsz:=G HS2;have hrow:=((G HB4).block (w.heap.size+1) (by omega)).trans (G HRF);have r3:=(cR hrow 3);have r4:=(cR hrow 4);clear hrow hsz;cases h3:Mo r (Zt sp lk t0 t1) f.homes with
    | false =>
     have hz:=J (G HX3 h3);go_wp2;go_ret;exact⟨by rw [G hz]; rfl,Za (G HW1) (G HB4) (by have:=G HS2; omega)⟩
    | true =>
     have H3:=J h3;clear h3;by_cases h4:f.slots.length≤6
     ·
      skip
      go_wp2_with fail
      refine(Zdj _ f.slots w4 ((G HFD).below (G HB4)).ss).mono ?_;rintro e w5 ⟨rfl,h5'⟩;subst w5;cases h5:Jd f.slots 1 8 with
      | false =>
       have hz:=J (G HX5 h5);go_wp2;go_ret;exact⟨by rw [G hz]; rfl,Za (G HW1) (G HB4) (by have:=G HS2; omega)⟩
      | true =>
       have H5:=J h5;clear h5;go_wp2_with fail
       refine(Xb f.blocks.length 1 12 w4).mono ?_;rintro e w5 ⟨rfl,h5'⟩;subst w5;cases h6:Yi f.blocks.length 1 12 with
       | false =>
        have hz:=J (G HX6 h6);go_wp2;go_ret;exact⟨by rw [G hz]; rfl,Za (G HW1) (G HB4) (by have:=G HS2; omega)⟩
       | true =>
        have H6:=J h6;clear h6;go_wp2_with fail
        refine(Zbv _ f.blocks B w4 ((G HFD).below (G HB4)).bs (G HFD).blk).mono ?_;rintro e w5 ⟨rfl,h5'⟩;subst w5;cases h7:Ll f.blocks with
        | false =>
         have hz:=J (G HX7 h7);go_wp2;go_ret;exact⟨by rw [G hz]; rfl,Za (G HW1) (G HB4) (by have:=G HS2; omega)⟩
        | true =>
         have H7:=J h7;clear h7;have hsz:=G HS2;have hrow:=((G HB4).block (w.heap.size+1) (by omega)).trans (G HRF);have r0:=(cR hrow 0);have r1:=(cR hrow 1);have r2:=(cR hrow 2);clear hrow hsz;go_wp2_with fail
         refine(Zbw f _ _ _ _ w4 ((G HFD).below (G HB4)).ps ((G HFD).below (G HB4)).hs ((G HFD).below (G HB4)).ss).mono ?_;rintro e w5 ⟨rfl,hb⟩;have HB5:=J (Za (G HB4) hb (G HB4).size);clear hb;cases h8:Jo f with
         | false =>
          have hz:=J (G HX8 h8);go_wp2;go_ret;exact⟨by rw [G hz]; rfl,Za (G HW1) (G HB5) (by have:=G HS2; omega)⟩
         | true =>
          have hz:=J (G HXT h0 (G H1) h2 (G H3) h4 (G H5) (G H6) (G H7) h8);go_wp2;go_ret;exact⟨by rw [G hz]; rfl,Za (G HW1) (G HB5) (by have:=G HS2; omega)⟩
     ·
      have hz:=J (G HX4 h4);go_wp2;go_ret;exact⟨by rw [G hz]; rfl,Za (G HW1) (G HB4) (by have:=G HS2; omega)⟩
   ·
    have hz:=J (G HX2 h2);go_wp2;go_ret;exact⟨by rw [G hz]; rfl,Za (G HW1) (G HB3) (by have:=G HS2; omega)⟩
 ·
  have hz:=J (G HX0 h0);go_wp2;go_ret;exact⟨by rw [G hz]; rfl,G HW1⟩
set_option maxHeartbeats 2000000 in
set_option maxRecDepth 100000 in
theorem Yo (f:Zn)(fv ev pv hv sv bv lv:Value)(r:Int)(ls:List Int)(w:World)(hh:∃ p c,hv=.slice p f.homes.length c)(hhl:f.homes.length<9223372036854775808)(h:Li w lv ls):Calls Tryz.prog 109 #[.agg #[fv,ev,pv,.int .i64 r,hv,sv,bv],lv] w fun e w'=>e=.returned (.bool (Xg f ls))∧Below w.heap.size w w':=by
 obtain⟨ph,ch,rfl⟩:=hh;have hx:=Yj w (.cells #[fv,ev,pv,.int .i64 r,.slice ph f.homes.length ch,sv,bv] 173 (0,0));obtain⟨p,cap,rfl,hcap,hlt,hc⟩:=h.below hx.2.1;have hlt:ls.length<9223372036854775808:=hlt;have HC:=J hc;have HX:=J hx;clear hc hx h;go_enter Tryz.func109,Tryz.ntmps109
 go_wp2_with fail
 generalize World.alloc w _=W at HC HX ⊢;go_loopw [9] (fun j w'=>∃ k:Nat,j=.int .i64 k∧k≤ls.length∧w'=W∧∀ q,q<k→Zr f (ls.getD q 0)=true) (fun j _=>ls.length-(intOf j).toNat)
 case atStart=>exact⟨0,rfl,by omega,rfl,fun q hq=>by omega⟩
 case round =>
  obtain⟨k,rfl,hk,rfl,hno⟩:=hrel;have HN:=J hno;clear hno;by_cases hk2:k<ls.length
  ·
   obtain⟨sb,so,rfl,hcc⟩:=G HC (by omega);have c:=hcc k hk2;have r4:=(cR (G HX).1 4);have HW:=J (Xb (ls.getD k 0) 0 (f.homes.length-1) wr);have HBAD:=J (fun hb:Yi (ls.getD k 0) 0 (f.homes.length-1)=false=>show Xg f ls=false from Ya hk2 hb);have HNX:=J (fun hb:Yi (ls.getD k 0) 0 (f.homes.length-1)=true=>Zq (q:=fun q=>Zr f (ls.getD q 0)) (G HN) hb);clear hcc HC;generalize Yi (ls.getD k 0) 0 (f.homes.length-1)=yes at HW HBAD HNX;generalize ls.getD k 0=y at c HW;go_wp2_with fail
   refine(G HW).mono ?_;rintro e w2 ⟨rfl,h2⟩;subst w2;cases yes with
   | false =>
    have hx:=J (G HBAD rfl);go_wp2;go_ret;exact⟨by rw [G hx]; rfl,(G HX).2.1⟩
   | true =>
    have hx:=J (G HNX rfl);go_wp2;go_roundw
    case rel=>exact⟨k+1,by go_num,by omega,trivial,G hx⟩
    case measure=>simp [intOf]; omega
  ·
   have HT:=J (show Xg f ls=true from Yn (fun q hq=>G HN q (by omega)));obtain rfl:k=ls.length:=by omega
   go_wp2;go_ret;exact⟨by rw [G HT]; rfl,(G HX).2.1⟩
set_option maxHeartbeats 2000000 in
set_option maxRecDepth 100000 in
theorem Zdn (v:Value)(ls:List Int)(w:World)(h:Li w v ls)(hn:ls.length≤1000000):Calls Tryz.prog 119 #[v] w fun e w'=>e=.returned (.bool (Om ls))∧w'=w:=by
 have HL:=J h;obtain⟨p,cap,rfl,hcap,hlt,-⟩:=h;go_enter Tryz.func119,Tryz.ntmps119
 go_wp2_with fail
 go_loopw [7] (fun j w'=>∃ k:Nat,j=.int .i64 k∧k≤ls.length∧w'=w∧∀ q,q<k→(!decide (ls.getD q 0 ∈ ls.take q))=true) (fun j _=>ls.length-(intOf j).toNat)
 case atStart=>exact⟨0,rfl,by omega,rfl,fun q hq=>by omega⟩
 case round =>
  obtain⟨k,rfl,hk,rfl,hno⟩:=hrel;have HN:=J hno;clear hno;by_cases hk2:k<ls.length
  ·
   have HCT:=J (Nb (ls.take k) (ls.getD k 0) (.slice p k cap) wr ((G HL).take k (by omega)).rs (by simp; omega));obtain⟨p',cap',he,-,-,hcc⟩:=G HL;injection he with e1 e2 e3;subst e1 e3;obtain⟨sb,so,rfl,hc⟩:=hcc (by omega);have c:=hc k hk2;have HBAD:=J (fun hb:decide (ls.getD k 0 ∈ ls.take k)=true=>show Om ls=false from Ya hk2 (by rw [hb]; rfl));have HNX:=J (fun hb:decide (ls.getD k 0 ∈ ls.take k)=false=>Zq (q:=fun q=>!decide (ls.getD q 0 ∈ ls.take q)) (G HN) (by show(!decide (ls.getD k 0 ∈ ls.take k))=true; rw [hb]; rfl));clear hc hcc e2;generalize decide (ls.getD k 0 ∈ ls.take k)=yes at HCT HBAD HNX;generalize ls.getD k 0=y at c HCT;go_wp2_with fail
   refine(G HCT).mono ?_;rintro e w2 ⟨rfl,h2⟩;subst w2;cases yes with
   | true =>
    have hx:=J (G HBAD rfl);go_wp2;go_ret;exact⟨by rw [G hx]; rfl,rfl⟩
   | false =>
    have hx:=J (G HNX rfl);go_wp2;go_roundw
    case rel=>exact⟨k+1,by go_num,by omega,trivial,G hx⟩
    case measure=>simp [intOf]; omega
  ·
   have HT:=J (show Om ls=true from Yn (fun q hq=>G HN q (by omega)));obtain rfl:k=ls.length:=by omega
   go_wp2;go_ret;exact⟨by rw [G HT]; rfl,rfl⟩
set_option maxRecDepth 100000 in
theorem Ir (f:Zn)(fv ev pv hv bv:Value)(q:Option Addr)(c:Nat)(r n:Int)(w:World)(hl:f.slots.length<9223372036854775808):Calls Tryz.prog 116 #[.agg #[fv,ev,pv,.int .i64 r,hv,.slice q f.slots.length c,bv],.int .i64 n] w fun e w'=>e=.returned (.bool (Yi n 0 (f.slots.length-1)))∧Below w.heap.size w w':=by
 have HX:=J (Yj w (.cells #[fv,ev,pv,.int .i64 r,hv,.slice q f.slots.length c,bv] 173 (0,0)));go_enter Tryz.func116,Tryz.ntmps116
 go_wp2_with fail
 refine(Xb n 0 (f.slots.length-1) _).mono ?_;rintro e w2 ⟨rfl,h2⟩;subst w2;go_wp2;go_ret;exact⟨rfl,(G HX).2.1⟩
set_option maxRecDepth 100000 in
theorem Dj (f:Zn)(fv ev pv hv sv:Value)(q:Option Addr)(c:Nat)(r n:Int)(w:World)(hl:f.blocks.length<9223372036854775808):Calls Tryz.prog 113 #[.agg #[fv,ev,pv,.int .i64 r,hv,sv,.slice q f.blocks.length c],.int .i64 n] w fun e w'=>e=.returned (.bool (Yi n 0 (f.blocks.length-1)))∧Below w.heap.size w w':=by
 have HX:=J (Yj w (.cells #[fv,ev,pv,.int .i64 r,hv,sv,.slice q f.blocks.length c] 173 (0,0)));go_enter Tryz.func113,Tryz.ntmps113
 go_wp2_with fail
 refine(Xb n 0 (f.blocks.length-1) _).mono ?_;rintro e w2 ⟨rfl,h2⟩;subst w2;go_wp2;go_ret;exact⟨rfl,(G HX).2.1⟩
set_option maxRecDepth 100000 in
theorem Ur (p:Zl)(ev pv hv sv bv:Value)(q:Option Addr)(c:Nat)(r n:Int)(w:World)(hl:p.funcs.length<9223372036854775808):Calls Tryz.prog 111 #[.agg #[.slice q p.funcs.length c,ev,pv,.int .i64 r,hv,sv,bv],.int .i64 n] w fun e w'=>e=.returned (.bool (Yi n 0 (p.funcs.length-1)))∧Below w.heap.size w w':=by
 have HX:=J (Yj w (.cells #[.slice q p.funcs.length c,ev,pv,.int .i64 r,hv,sv,bv] 173 (0,0)));go_enter Tryz.func111,Tryz.ntmps111
 go_wp2_with fail
 refine(Xb n 0 (p.funcs.length-1) _).mono ?_;rintro e w2 ⟨rfl,h2⟩;subst w2;go_wp2;go_ret;exact⟨rfl,(G HX).2.1⟩
set_option maxRecDepth 100000 in
theorem Zfz (n:Int)(w:World):Calls Tryz.prog 117 #[.int .i64 n] w fun e w'=>e=.returned (.bool (Np n))∧w'=w:=by
 have hw:Np n=decide (n=1∨n=2∨n=4∨n=8):=rfl;rw [hw];clear hw;by_cases h1:n=1
 ·
  subst h1;go_enter Tryz.func117,Tryz.ntmps117
  go_wp2;go_ret;exact⟨rfl,rfl⟩
 ·
  by_cases h2:n=2
  ·
   subst h2;go_enter Tryz.func117,Tryz.ntmps117
   go_wp2;go_ret;exact⟨rfl,rfl⟩
  ·
   by_cases h4:n=4
   ·
    subst h4;go_enter Tryz.func117,Tryz.ntmps117
    go_wp2;go_ret;exact⟨rfl,rfl⟩
   ·
    by_cases h8:n=8
    ·
     subst h8;go_enter Tryz.func117,Tryz.ntmps117
     go_wp2;go_ret;exact⟨rfl,rfl⟩
    ·
     have hd:decide (n=1∨n=2∨n=4∨n=8)=false:=by simp; omega
     rw [hd];have z1:(n==1)=false:=by simpa using h1
     have z2:(n==2)=false:=by simpa using h2
     have z4:(n==4)=false:=by simpa using h4
     have z8:(n==8)=false:=by simpa using h8
     clear hd h1 h2 h4 h8;go_enter Tryz.func117,Tryz.ntmps117
     go_wp2;go_ret;exact⟨rfl,rfl⟩
theorem Dw {f:Zn}{i:Zw}(h:Yi i.a 0 (f.slots.length-1)=false):Nv f i=false:=by unfold Nv; simp [h]
theorem Ol {f:Zn}{i:Zw}(h:Np i.n=false):Nv f i=false:=by unfold Nv; simp [h]
theorem IntKind.wrap_of_boundsK {n:Int}(h0:-9223372036854775808≤n)(h1:n<9223372036854775808):IntKind.i64.wrap n=n:=by
 rw [IntKind.wrap_i64];omega
set_option maxHeartbeats 2000000 in
set_option maxRecDepth 100000 in
theorem It (f:Zn)(i:Zw)(fv ev pv hv sv bv av ov:Value)(r:Int)(w:World)(hs:Li w sv f.slots)(h18:Jd f.slots 1 8=true)(hnn:0≤i.n∧i.n<18446744073709551616):Calls Tryz.prog 110 #[.agg #[fv,ev,pv,.int .i64 r,hv,sv,bv],.agg #[.int .i64 i.op,.int .i64 i.d,.int .i64 i.a,.int .i64 i.bb,.int .u64 i.n,.int .i64 i.f,av,ov]] w fun e w'=>e=.returned (.bool (Nv f i))∧Below w.heap.size w w':=by
 obtain⟨op,d,a,bb,n,fx,gs,os⟩:=i;simp only at hnn ⊢;have hx:=Yj w (.cells #[fv,ev,pv,.int .i64 r,hv,sv,bv] 173 (0,0));have hx2:=Yj (w.alloc (.cells #[fv,ev,pv,.int .i64 r,hv,sv,bv] 173 (0,0))) (.cells #[.int .i64 op,.int .i64 d,.int .i64 a,.int .i64 bb,.int .u64 n,.int .i64 fx,av,ov] 65 (0,0));have HL:=J ((hs.below hx.2.1).below hx2.2.1);have hs1:=hx.2.2;have hs2:=hx2.2.2;have HW1:=J (Za hx.2.1 hx2.2.1 (by omega));have hrs:=(hx2.2.1.block w.heap.size (by omega)).trans hx.1;have hri:=hx2.1;rw [hs1] at hri hs2;have hsl:f.slots.length<9223372036854775808:=hs.lt;obtain⟨ps,cs,rfl⟩:=hs.shape;have HRS:=J hrs;have HRI:=J hri;have HS2:=J hs2;have HNU:=J h18;have hn0:=hnn.1;have hn1:=hnn.2;clear hx hx2 hs hs1 hs2 hrs hri h18 hnn;go_enter Tryz.func110,Tryz.ntmps110
 go_wp2_with fail
 generalize World.alloc (World.alloc w _) _=W at HL HW1 HRS HRI HS2 ⊢;refine(Ir f _ _ _ _ _ _ _ _ _ W hsl).mono ?_;rintro e w2 ⟨rfl,hb⟩;have HB2:=J hb;have hsz:=G HS2;have hrow:=(hb.block (w.heap.size+1) (by omega)).trans (G HRI);have r2:=(cR hrow 2);have r3:=(cR hrow 3);have r4:=(cR hrow 4);have hrow2:=(hb.block w.heap.size (by omega)).trans (G HRS);have q5:=(cR hrow2 5);have HEND:=J (Za (G HW1) hb (by omega));clear hb hrow hrow2 hsz;cases h1:Yi a 0 (f.slots.length-1) with
 | false =>
  have hz:=J (Dw (f:=f) (i:=⟨op,d,a,bb,n,fx,gs,os⟩) h1);go_wp2;go_ret;exact⟨by rw [G hz]; rfl,G HEND⟩
 | true =>
  by_cases h8:n≤8
  ·
   have hcv:IntKind.i64.wrap n=n:=IntKind.wrap_of_boundsK (by omega) (by omega);go_wp2_with fail
   refine(Zfz n w2).mono ?_;rintro e w3 ⟨rfl,h3⟩;subst w3;cases h2:Np n with
   | false =>
    have hz:=J (Ol (f:=f) (i:=⟨op,d,a,bb,n,fx,gs,os⟩) h2);go_wp2;go_ret;exact⟨by rw [G hz]; rfl,G HEND⟩
   | true =>
    have hw:=h2;unfold Np at hw;have hw:=of_decide_eq_true hw;go_wp2_with fail
    have ha:=h1;unfold Yi at ha;obtain⟨g0,g1⟩:=of_decide_eq_true ha;obtain⟨m,rfl⟩:∃ m:Nat,a=m:=⟨a.toNat,by omega⟩;have hm:m<f.slots.length:=by omega
    have hsb:Yi (f.slots.getD m 0) 1 8=true:=Xt (G HNU) hm;unfold Yi at hsb;obtain⟨s0,s1⟩:=of_decide_eq_true hsb;obtain⟨p',cap',he,-,-,hcc⟩:=(G HL).below (G HB2);injection he with e1 e2 e3;subst e1 e3;obtain⟨sb,so,rfl,hc⟩:=hcc (by omega);have c:=hc m hm;have HSL:=J (show Nv f ⟨op,d,m,bb,n,fx,gs,os⟩=(Yi bb 0 (8*f.slots.getD m 0-n)&&decide (bb % n=0)) by unfold Nv; simp only [Int.toNat_natCast]; rw [h1,h2]; rfl);clear hc hcc hsb ha e2 g0 g1 h1 h2;generalize f.slots.getD m 0=s at c HSL s0 s1;have HWI:=J (fun V=>Xb bb 0 (8*s-n) V);rcases hw with rfl | rfl | rfl | rfl;all_goals (
     cases h3:Yi bb 0 (8*s-_) with
     | false =>
      rw [h3] at HWI HSL;go_quiet ((go_at_call 74; exact Calls.quiet_of_same (G HWI _)))
      go_wp2;go_ret;exact⟨by rw [G HSL]; rfl,Zk (G HEND) _⟩
     | true =>
      rw [h3] at HWI HSL;unfold Yi at h3;obtain⟨g0,g1⟩:=of_decide_eq_true h3;obtain⟨t,rfl⟩:∃ t:Nat,bb=t:=⟨bb.toNat,by omega⟩;clear h3 g0 g1;go_quiet ((go_at_call 74; exact Calls.quiet_of_same (G HWI _)))
      go_wp2;go_ret;exact⟨by rw [G HSL]; first | rfl | simp [Int.emod_one],Zk (G HEND) _⟩)
  ·
   have hz:=J (Ol (f:=f) (i:=⟨op,d,a,bb,n,fx,gs,os⟩) (by unfold Np; simp; omega));go_wp2;go_ret;exact⟨by rw [G hz]; rfl,G HEND⟩
theorem Li.one (w:World)(n:Int):Li (w.alloc (.cells #[.int .i64 n] 3 (0,0))) (.slice (some ⟨w.heap.size,0,none⟩) 1 1) [n]:=Li.new (ns:=[n]) (heap_alloc_new w _) (by show 1<Xa; decide)
set_option maxHeartbeats 2000000 in
set_option maxRecDepth 100000 in
theorem Zhn (f:Zn)(fv ev pv hv sv bv:Value)(r:Int)(x:Int×Int)(w:World)(hh:Li w hv f.homes)(hs:Li w sv f.slots):Calls Tryz.prog 120 #[.agg #[fv,ev,pv,.int .i64 r,hv,sv,bv],.agg #[.int .i64 x.1,.int .i64 x.2]] w fun e w'=>e=.returned (.bool (Ye f x))∧Below w.heap.size w w':=by
 obtain⟨x,y⟩:=x;have hhl:f.homes.length<9223372036854775808:=hh.lt;have hsl:f.slots.length<9223372036854775808:=hs.lt;obtain⟨ph,ch,rfl⟩:=hh.shape;obtain⟨ps,cs,rfl⟩:=hs.shape;have hx:=Yj w (.cells #[fv,ev,pv,.int .i64 r,.slice ph f.homes.length ch,.slice ps f.slots.length cs,bv] 173 (0,0));have hx2:=Yj (w.alloc (.cells #[fv,ev,pv,.int .i64 r,.slice ph f.homes.length ch,.slice ps f.slots.length cs,bv] 173 (0,0))) (.cells #[.int .i64 x,.int .i64 y] 139 (0,0));have HL:=J ((hs.below hx.2.1).below hx2.2.1);have hs1:=hx.2.2;have hs2:=hx2.2.2;have HW1:=J (Za hx.2.1 hx2.2.1 (by omega));have hrs:=(hx2.2.1.block w.heap.size (by omega)).trans hx.1;have hri:=hx2.1;rw [hs1] at hri hs2;have HRS:=J hrs;have HRI:=J hri;have HS2:=J hs2;clear hx hx2 hs hs1 hs2 hrs hri hh;by_cases h0:x=0
 ·
  have HS:=J (show Ye f (x,y)=Xg f [y] by unfold Ye Xg; simp [h0,De,Zr]);subst h0;go_enter Tryz.func120,Tryz.ntmps120
  go_wp2_with fail
  generalize World.alloc (World.alloc w _) _=W at HL HW1 HRS HRI HS2 ⊢;have hT:=G HS2;rw [← hT];refine(Yo f _ _ _ _ _ _ _ _ [y] _ ⟨ph,ch,rfl⟩ hhl (Li.one W y)).mono ?_;rintro e w2 ⟨rfl,hb⟩;have HB2:=J (Za (Za (G HW1) (Yj W (.cells #[.int .i64 y] 3 (0,0))).2.1 (by omega)) hb (by simp; omega));clear hb hT;go_wp2;go_ret;exact⟨by rw [G HS]; rfl,G HB2⟩
 ·
  have hz:(x==0)=false:=by simpa using h0
  have HS:=J (show Ye f (x,y)=(Yi y 0 (f.slots.length-1)&&decide (f.slots.getD y.toNat 0=x)) by unfold Ye; simp [h0]);have HW:=J (fun V fv ev pv r hv bv=>Ir f fv ev pv hv bv ps cs r y V hsl);go_enter Tryz.func120,Tryz.ntmps120
  go_wp2_with fail
  generalize World.alloc (World.alloc w _) _=W at HL HW1 HRS HRI HS2 ⊢;have hT:=G HS2;cases hr:Yi y 0 (f.slots.length-1) with
  | false =>
   rw [hr] at HW HS;have HK:=J (fun(V:World) (h:Below W.heap.size W V)=>show Below W.heap.size W V∧V.cell? ⟨w.heap.size,0,none⟩=some (fv)∧V.cell? ⟨w.heap.size,1,none⟩=some (ev)∧V.cell? ⟨w.heap.size,2,none⟩=some (pv)∧V.cell? ⟨w.heap.size,3,none⟩=some (.int .i64 r)∧V.cell? ⟨w.heap.size,4,none⟩=some (.slice ph f.homes.length ch)∧V.cell? ⟨w.heap.size,5,none⟩=some (.slice ps f.slots.length cs)∧V.cell? ⟨w.heap.size,6,none⟩=some (bv)∧V.cell? ⟨w.heap.size+1,0,none⟩=some (.int .i64 x)∧V.cell? ⟨w.heap.size+1,1,none⟩=some (.int .i64 y) from⟨h,(cR ((h.block w.heap.size (by omega)).trans (G HRS)) 0),(cR ((h.block w.heap.size (by omega)).trans (G HRS)) 1),(cR ((h.block w.heap.size (by omega)).trans (G HRS)) 2),(cR ((h.block w.heap.size (by omega)).trans (G HRS)) 3),(cR ((h.block w.heap.size (by omega)).trans (G HRS)) 4),(cR ((h.block w.heap.size (by omega)).trans (G HRS)) 5),(cR ((h.block w.heap.size (by omega)).trans (G HRS)) 6),(cR ((h.block (w.heap.size+1) (by omega)).trans (G HRI)) 0),(cR ((h.block (w.heap.size+1) (by omega)).trans (G HRI)) 1)⟩);clear hr hT;refine wp_region_held_drew (S:=fun V=>Below W.heap.size W V∧V.cell? ⟨w.heap.size,0,none⟩=some (fv)∧V.cell? ⟨w.heap.size,1,none⟩=some (ev)∧V.cell? ⟨w.heap.size,2,none⟩=some (pv)∧V.cell? ⟨w.heap.size,3,none⟩=some (.int .i64 r)∧V.cell? ⟨w.heap.size,4,none⟩=some (.slice ph f.homes.length ch)∧V.cell? ⟨w.heap.size,5,none⟩=some (.slice ps f.slots.length cs)∧V.cell? ⟨w.heap.size,6,none⟩=some (bv)∧V.cell? ⟨w.heap.size+1,0,none⟩=some (.int .i64 x)∧V.cell? ⟨w.heap.size+1,1,none⟩=some (.int .i64 y)) (by kernel_rfl) (G HK _ (Below.refl _ _).drew) (fun hHeld=>?_)
   refine tT 0 ?_;simp only [Act.put,zA,zB,zC,zD,zE];refine tT 1 ?_;simp only [Act.put,zA,zB,zC,zD,zE,zF];refine tT 2 ?_;simp only [Act.put,zA,zB,zC,zD,zE,zF];refine tO 3 fun K hK=>?_;go_simp;refine(G HW _ _ _ _ _ _ _).mono ?_;rintro e w5 ⟨rfl,hb5⟩;have HB5:=J (Za (Below.refl W.heap.size W).drew hb5 (Nat.le_refl _));clear hb5;go_wp2_with fail
   refine hK.out _ _ (G HK _ (G HB5)) (fun hHeld2=>?_);clear hK K;try simp only [Act.put,zA,zB,zC,zD,zE,zF]
   refine tT 4 ?_;simp only [Act.put,zA,zB,zC,zD,zE,zF];refine tS 5 ?_;simp only [Act.put,zA,zB,zC,zD,zE,zF];refine tS 6 ?_;simp only [Act.put,zA,zB,zC,zD,zE,zF];refine tS 7 ?_;simp only [Act.put,zA,zB,zC,zD,zE,zF];refine tS 8 ?_;simp only [Act.put,zA,zB,zC,zD,zE,zF];refine tS 9 ?_;simp only [Act.put,zA,zB,zC,zD,zE,zF];refine tS 10 ?_;simp only [Act.put,zA,zB,zC,zD,zE,zF];refine tS 11 ?_;simp only [Act.put,zA,zB,zC,zD,zE,zF];refine tS 12 ?_;simp only [Act.put,zA,zB,zC,zD,zE,zF];refine tS 13 ?_;simp only [Act.put,zA,zB,zC,zD,zE,zF];refine tS 14 ?_;simp only [Act.put,zA,zB,zC,zD,zE,zF];refine tT 15 ?_;simp only [Act.put,zA,zB,zC,zD,zE,zF];refine tT 16 ?_;simp only [Act.put,zA,zB,zC,zD,zE,zF];refine wpAnyH_done (by kernel_rfl) ?_ _;all_goals (
    go_wp2;go_ret;exact⟨by rw [G HS]; rfl,Za (G HW1) (G HB5) (by have:=G HS2; omega)⟩)
  | true =>
   rw [hr] at HW HS;unfold Yi at hr;obtain⟨g0,g1⟩:=of_decide_eq_true hr;obtain⟨n,rfl⟩:∃ n:Nat,y=n:=⟨y.toNat,by omega⟩;have hn:n<f.slots.length:=by omega
   obtain⟨p',cap',he,-,-,hcc⟩:=G HL;injection he with e1 e2 e3;subst e1 e3;obtain⟨sb,so,rfl,hc⟩:=hcc (by omega);have cc:=hc n hn;rw [Int.toNat_natCast] at HS;generalize f.slots.getD n 0=z at cc HS;have HK:=J (fun(V:World) (h:Below W.heap.size W V)=>show Below W.heap.size W V∧V.cell? ⟨w.heap.size,0,none⟩=some (fv)∧V.cell? ⟨w.heap.size,1,none⟩=some (ev)∧V.cell? ⟨w.heap.size,2,none⟩=some (pv)∧V.cell? ⟨w.heap.size,3,none⟩=some (.int .i64 r)∧V.cell? ⟨w.heap.size,4,none⟩=some (.slice ph f.homes.length ch)∧V.cell? ⟨w.heap.size,5,none⟩=some (.slice (some ⟨sb,so,none⟩) f.slots.length cs)∧V.cell? ⟨w.heap.size,6,none⟩=some (bv)∧V.cell? ⟨w.heap.size+1,0,none⟩=some (.int .i64 x)∧V.cell? ⟨w.heap.size+1,1,none⟩=some (.int .i64 n)∧V.cell? ⟨sb,so+n,none⟩=some (.int .i64 z) from⟨h,(cR ((h.block w.heap.size (by omega)).trans (G HRS)) 0),(cR ((h.block w.heap.size (by omega)).trans (G HRS)) 1),(cR ((h.block w.heap.size (by omega)).trans (G HRS)) 2),(cR ((h.block w.heap.size (by omega)).trans (G HRS)) 3),(cR ((h.block w.heap.size (by omega)).trans (G HRS)) 4),(cR ((h.block w.heap.size (by omega)).trans (G HRS)) 5),(cR ((h.block w.heap.size (by omega)).trans (G HRS)) 6),(cR ((h.block (w.heap.size+1) (by omega)).trans (G HRI)) 0),(cR ((h.block (w.heap.size+1) (by omega)).trans (G HRI)) 1),(h.cell (World.block_lt_of_cell? W _ cc)).trans cc⟩);clear hr hT hc hcc g0 g1 e2 cc;go_region_held3 (fun V=>Below W.heap.size W V∧V.cell? ⟨w.heap.size,0,none⟩=some (fv)∧V.cell? ⟨w.heap.size,1,none⟩=some (ev)∧V.cell? ⟨w.heap.size,2,none⟩=some (pv)∧V.cell? ⟨w.heap.size,3,none⟩=some (.int .i64 r)∧V.cell? ⟨w.heap.size,4,none⟩=some (.slice ph f.homes.length ch)∧V.cell? ⟨w.heap.size,5,none⟩=some (.slice (some ⟨sb,so,none⟩) f.slots.length cs)∧V.cell? ⟨w.heap.size,6,none⟩=some (bv)∧V.cell? ⟨w.heap.size+1,0,none⟩=some (.int .i64 x)∧V.cell? ⟨w.heap.size+1,1,none⟩=some (.int .i64 n)∧V.cell? ⟨sb,so+n,none⟩=some (.int .i64 z)) ((first | exact G HK _ (Below.refl _ _).drew | exact G HK _ (G HB5))) ((go_at_call 116; refine(G HW _ _ _ _ _ _ _).mono ?_; rintro e w5 ⟨rfl,hb5⟩; have HB5:=J (Za (Below.refl W.heap.size W).drew hb5 (Nat.le_refl _)); clear hb5))
   all_goals (
    go_wp2;go_ret;exact⟨by rw [G HS]; rfl,Za (G HW1) (G HB5) (by have:=G HS2; omega)⟩)
set_option maxHeartbeats 4000000 in
set_option maxRecDepth 100000 in
theorem Iu (f:Zn)(fv ev pv hv sv bv av qv:Value)(r:Int)(gs:List (Int×Int))(ns:List Int)(w:World)(hh:Li w hv f.homes)(hs:Li w sv f.slots)(ha:LS 2 w av gs.length (fun k=>Yz (gs.getD k (0,0))))(hq:Li w qv ns):Calls Tryz.prog 118 #[.agg #[fv,ev,pv,.int .i64 r,hv,sv,bv],av,qv] w fun e w'=>e=.returned (.bool (Ju f gs ns))∧Below w.heap.size w w':=by
 obtain⟨ph,ch,rfl⟩:=hh.shape;obtain⟨ps,cs,rfl⟩:=hs.shape;have hx:=Yj w (.cells #[fv,ev,pv,.int .i64 r,.slice ph f.homes.length ch,.slice ps f.slots.length cs,bv] 173 (0,0));have HH:=J (hh.below hx.2.1);have HS:=J (hs.below hx.2.1);obtain⟨pa,ca,rfl,hca,hla,hac⟩:=(ha.below hx.2.1).pairs;obtain⟨pq,cq,rfl,hcq,hlq,hqc⟩:=hq.below hx.2.1;have hlq:ns.length<9223372036854775808:=hlq;have HA:=J hac;have HQ:=J hqc;have HX:=J hx;clear hx hh hs ha hq hac hqc;by_cases hne:gs.length=ns.length
 ·
  have z:((gs.length:Int) != (ns.length:Int))=false:=by simp [hne]
  have HAB:=J (show Ju f gs ns=De gs.length (fun k=>decide ((gs.getD k (0,0)).1=ns.getD k 0)&&Ye f (gs.getD k (0,0))) by unfold Ju; simp [hne]);have HNE:=J hne;clear hne;go_enter Tryz.func118,Tryz.ntmps118
  go_wp2_with fail
  generalize World.alloc w _=W at HH HS HA HQ HX ⊢;go_loopw [16] (fun j w'=>∃ k:Nat,j=.int .i64 k∧k≤gs.length∧Below W.heap.size W w'∧∀ q,q<k→(decide ((gs.getD q (0,0)).1=ns.getD q 0)&&Ye f (gs.getD q (0,0)))=true) (fun j _=>gs.length-(intOf j).toNat)
  case atStart=>exact⟨0,rfl,by omega,Below.refl _ _,fun q hq=>by omega⟩
  case round =>
   obtain⟨k,rfl,hk,hbw,hno⟩:=hrel;have HN:=J hno;clear hno;have hWs:=(G HX).2.2;have hws:=hbw.size;by_cases hk2:k<gs.length
   ·
    have hk3:k<ns.length:=by have:=G HNE; omega
    obtain⟨sb,so,rfl,hcc⟩:=G HA (by omega);obtain⟨sq,oq,rfl,hqq⟩:=G HQ (by omega);have hsb:sb<W.heap.size:=World.block_lt_of_cell? W _ (hcc k hk2).1;have c1:=(hbw.cell (p:=⟨sb,so+k*2,none⟩) hsb).trans (hcc k hk2).1;have c2:=(hbw.cell (p:=⟨sb,so+k*2+1,none⟩) hsb).trans (hcc k hk2).2;have hcq':=(hbw.cell (World.block_lt_of_cell? W _ (hqq k hk3))).trans (hqq k hk3);have HROW:=J ((hbw.block w.heap.size (by omega)).trans (G HX).1);have HBAD:=J (fun hb:(decide ((gs.getD k (0,0)).1=ns.getD k 0)&&Ye f (gs.getD k (0,0)))=false=>show Ju f gs ns=false by rw [G HAB]; exact Ya hk2 hb);have HNX:=J (fun hb:(decide ((gs.getD k (0,0)).1=ns.getD k 0)&&Ye f (gs.getD k (0,0)))=true=>Zq (q:=fun q=>decide ((gs.getD q (0,0)).1=ns.getD q 0)&&Ye f (gs.getD q (0,0))) (G HN) hb);have HBW:=J hbw;clear hcc hqq hbw;generalize gs.getD k (0,0)=xy at c1 c2 HBAD HNX;obtain⟨x,y⟩:=xy;generalize ns.getD k 0=z2 at hcq' HBAD HNX;simp only at c1 c2 HBAD HNX;go_wp2_with fail
    have hy:=Yj wr (.cells #[.int .i64 x,.int .i64 y] 139 (0,0));have hrX:=hy.1;have hrS:=(hy.2.1.block w.heap.size (by omega)).trans (G HROW);have cq:=(hy.2.1.cell (World.block_lt_of_cell? wr _ hcq')).trans hcq';have hbU:Below W.heap.size W (wr.alloc (.cells #[.int .i64 x,.int .i64 y] 139 (0,0))):=Za (G HBW) hy.2.1 hws;have hUs:=hy.2.2;clear hy hcq' c1 c2;generalize hTx:wr.heap.size=Tx at hrX hUs hws ⊢;generalize World.alloc wr _=U at hrX hrS cq hbU hUs ⊢;have hTU:Tx<U.heap.size:=by omega
    have HBU:=J hbU;clear hTx;by_cases hxz:x=z2
    ·
     subst hxz;have zz:(x != x)=false:=by simp
     have hsz:w.heap.size<U.heap.size:=by omega
     have HK:=J (fun(V:World) (h:Below U.heap.size U V)=>show Below U.heap.size U V∧V.cell? ⟨w.heap.size,0,none⟩=some (fv)∧V.cell? ⟨w.heap.size,1,none⟩=some (ev)∧V.cell? ⟨w.heap.size,2,none⟩=some (pv)∧V.cell? ⟨w.heap.size,3,none⟩=some (.int .i64 r)∧V.cell? ⟨w.heap.size,4,none⟩=some (.slice ph f.homes.length ch)∧V.cell? ⟨w.heap.size,5,none⟩=some (.slice ps f.slots.length cs)∧V.cell? ⟨w.heap.size,6,none⟩=some (bv)∧V.cell? ⟨Tx,0,none⟩=some (.int .i64 x)∧V.cell? ⟨Tx,1,none⟩=some (.int .i64 y)∧V.cell? ⟨sq,oq+k,none⟩=some (.int .i64 x) from⟨h,(cR ((h.block w.heap.size (by omega)).trans hrS) 0),(cR ((h.block w.heap.size (by omega)).trans hrS) 1),(cR ((h.block w.heap.size (by omega)).trans hrS) 2),(cR ((h.block w.heap.size (by omega)).trans hrS) 3),(cR ((h.block w.heap.size (by omega)).trans hrS) 4),(cR ((h.block w.heap.size (by omega)).trans hrS) 5),(cR ((h.block w.heap.size (by omega)).trans hrS) 6),(cR ((h.block Tx (by omega)).trans hrX) 0),(cR ((h.block Tx (by omega)).trans hrX) 1),(h.cell (World.block_lt_of_cell? U _ cq)).trans cq⟩);have HW:=J (fun(V:World) (h:Below U.heap.size U V)=>Zhn f fv ev pv (.slice ph f.homes.length ch) (.slice ps f.slots.length cs) bv r (x,y) V ((G HH).below (Za hbU h (by omega))) ((G HS).below (Za hbU h (by omega))));clear hrX hrS cq hbU hUs hsz hTU;go_region_held3 (fun V=>Below U.heap.size U V∧V.cell? ⟨w.heap.size,0,none⟩=some (fv)∧V.cell? ⟨w.heap.size,1,none⟩=some (ev)∧V.cell? ⟨w.heap.size,2,none⟩=some (pv)∧V.cell? ⟨w.heap.size,3,none⟩=some (.int .i64 r)∧V.cell? ⟨w.heap.size,4,none⟩=some (.slice ph f.homes.length ch)∧V.cell? ⟨w.heap.size,5,none⟩=some (.slice ps f.slots.length cs)∧V.cell? ⟨w.heap.size,6,none⟩=some (bv)∧V.cell? ⟨Tx,0,none⟩=some (.int .i64 x)∧V.cell? ⟨Tx,1,none⟩=some (.int .i64 y)∧V.cell? ⟨sq,oq+k,none⟩=some (.int .i64 x)) ((first | exact G HK _ (Below.refl _ _).drew | exact G HK _ (G HB5))) ((go_at_call 120; refine(G HW _ (Below.refl _ _).drew).mono ?_; rintro e w5 ⟨rfl,hb5⟩; have HB5:=J (Za (Below.refl U.heap.size U).drew hb5 (Nat.le_refl _)); clear hb5))
     all_goals (
      have hUB:=(G HBU).size;have HB6:=J (Za (G HBU) (G HB5) hUB);cases hsp:Ye f (x,y) with
      | false =>
       have hx:=J (G HBAD (by rw [hsp]; simp));clear hsp;go_wp2;go_ret;exact⟨by rw [G hx]; rfl,Za (G HX).2.1 (G HB6) (by omega)⟩
      | true =>
       have hx:=J (G HNX (by rw [hsp]; simp));clear hsp;go_wp2;go_roundw
       case rel=>exact⟨k+1,by go_num,by omega,G HB6,G hx⟩
       case measure=>simp [intOf]; omega)
    ·
     have zz:(x != z2)=true:=by simpa using hxz
     have hx:=J (G HBAD (by simp [hxz]));have q0:=(cR hrX 0);clear hrX hrS hbU hUs hTU;go_quiet (fail)
     go_wp2;go_ret;exact⟨by rw [G hx]; rfl,Zk (Za (G HX).2.1 (G HBU) (by omega)) _⟩
   ·
    have HT:=J (show Ju f gs ns=true by rw [G HAB]; exact Yn (fun q hq=>G HN q (by omega)));obtain rfl:k=gs.length:=by omega
    have HBW:=J hbw;clear hbw;go_wp2;go_ret;exact⟨by rw [G HT]; rfl,Za (G HX).2.1 (G HBW) (by omega)⟩
 ·
  have z:((gs.length:Int) != (ns.length:Int))=true:=by simp; omega
  have HT:=J (show Ju f gs ns=false by unfold Ju; simp [hne]);clear hne;go_enter Tryz.func118,Tryz.ntmps118
  go_wp2;go_ret;exact⟨by rw [G HT]; rfl,(G HX).2.1⟩
set_option maxHeartbeats 4000000 in
set_option maxRecDepth 100000 in
theorem Zdo (f:Zn)(i:Zw)(s:List Int×Int)(fv ev pv hv sv bv av ov qv:Value)(w:World)(hh:Li w hv f.homes)(hs:Li w sv f.slots)(ha:LS 2 w av i.args.length (fun k=>Yz (i.args.getD k (0,0))))(ho:Li w ov i.outs)(hq:Li w qv s.1):Calls Tryz.prog 114 #[.agg #[fv,ev,pv,.int .i64 f.results,hv,sv,bv],.agg #[.int .i64 i.op,.int .i64 i.d,.int .i64 i.a,.int .i64 i.bb,.int .u64 i.n,.int .i64 i.f,av,ov],.agg #[qv,.int .i64 s.2]] w fun e w'=>e=.returned (.bool (Mp f i s))∧Below w.heap.size w w':=by
 have hx:=Yj w (.cells #[fv,ev,pv,.int .i64 f.results,hv,sv,bv] 173 (0,0));generalize hW1:World.alloc w (.cells #[fv,ev,pv,.int .i64 f.results,hv,sv,bv] 173 (0,0))=W1 at hx;have hx2:=Yj W1 (.cells #[.int .i64 i.op,.int .i64 i.d,.int .i64 i.a,.int .i64 i.bb,.int .u64 i.n,.int .i64 i.f,av,ov] 65 (0,0));generalize hW2:World.alloc W1 (.cells #[.int .i64 i.op,.int .i64 i.d,.int .i64 i.a,.int .i64 i.bb,.int .u64 i.n,.int .i64 i.f,av,ov] 65 (0,0))=W2 at hx2;have hx3:=Yj W2 (.cells #[qv,.int .i64 s.2] 56 (0,0));have hs1:=hx.2.2;have hs2:=hx2.2.2;have hs3:=hx3.2.2;have hb12:=Za hx.2.1 hx2.2.1 (by omega);have hb13:=Za hb12 hx3.2.1 (by omega);have HH:=J (hh.below hb13);have HS:=J (hs.below hb13);have HA:=J (ha.below hb13);have HO:=J (ho.below hb13);have HQ:=J (hq.below hb13);have HW:=J hb13;have HR1:=J ((hx3.2.1.block w.heap.size (by omega)).trans ((hx2.2.1.block w.heap.size (by omega)).trans hx.1));have HR2:=J ((hx3.2.1.block (w.heap.size+1) (by omega)).trans (hs1 ▸ hx2.1));have hr3:=hx3.1;rw [hs2,hs1] at hr3 hs3;have HR3:=J hr3;have HZ:=J hs3;have hhl:f.homes.length<9223372036854775808:=hh.lt;have hol:i.outs.length<9223372036854775808:=ho.lt;obtain⟨ph,ch,rfl⟩:=hh.shape;obtain⟨ps,cs,rfl⟩:=hs.shape;obtain⟨pa,ca,rfl⟩:=ha.shape;obtain⟨po,co,rfl⟩:=ho.shape;obtain⟨pq,cq,rfl⟩:=hq.shape;clear hx hx2 hx3 hs1 hs2 hs3 hb12 hb13 hr3 hh hs ha ho hq;subst hW1 hW2;go_enter Tryz.func114,Tryz.ntmps114
 go_wp2_with fail
 generalize World.alloc (World.alloc (World.alloc w _) _) _=W at HH HS HA HO HQ HW HR1 HR2 HR3 HZ ⊢;refine(Iu f _ _ _ _ _ _ _ _ _ i.args s.1 W (G HH) (G HS) (G HA) (G HQ)).mono ?_;rintro e w2 ⟨rfl,hb⟩;have HB2:=J hb;have hz:=G HZ;have hri:=(hb.block (w.heap.size+1) (by omega)).trans (G HR2);have hrq:=(hb.block (w.heap.size+1+1) (by omega)).trans (G HR3);have hrs:=(hb.block w.heap.size (by omega)).trans (G HR1);have r7:=(cR hri 7);have q1:=(cR hrq 1);have s0:=(cR hrs 0);have s1:=(cR hrs 1);have s2:=(cR hrs 2);have s3:=(cR hrs 3);have s4:=(cR hrs 4);have s5:=(cR hrs 5);have s6:=(cR hrs 6);clear hb hri hrq hrs hz;cases h1:Ju f i.args s.1 with
 | false =>
  have hx:=J (show Mp f i s=false by unfold Mp; rw [h1]; rfl);clear h1;go_wp2;go_ret;exact⟨by rw [G hx]; rfl,Za (G HW) (G HB2) (by have:=G HZ; omega)⟩
 | true =>
  have H1:=J h1;clear h1;by_cases h2:s.2=f.results
  ·
   have z2:(s.2==f.results)=true:=by simpa using h2
   have hx:=J (show Mp f i s=true by unfold Mp; rw [G H1]; simp [h2]);clear h2;go_wp2;go_ret;exact⟨by rw [G hx]; rfl,Za (G HW) (G HB2) (by have:=G HZ; omega)⟩
  ·
   have z2:(s.2==f.results)=false:=by simpa using h2
   have hx:=J (show Mp f i s=false by unfold Mp; rw [G H1]; simp [h2]);clear h2;go_wp2;go_ret;exact⟨by rw [G hx]; rfl,Za (G HW) (G HB2) (by have:=G HZ; omega)⟩
set_option maxHeartbeats 4000000 in
set_option maxRecDepth 100000 in
theorem Kg (f:Zn)(i:Zw)(s:List Int×Int)(fv ev pv hv sv bv av ov qv:Value)(w:World)(hh:Li w hv f.homes)(hs:Li w sv f.slots)(ha:LS 2 w av i.args.length (fun k=>Yz (i.args.getD k (0,0))))(ho:Li w ov i.outs)(hq:Li w qv s.1)(hon:s.2≤1000000):Calls Tryz.prog 112 #[.agg #[fv,ev,pv,.int .i64 f.results,hv,sv,bv],.agg #[.int .i64 i.op,.int .i64 i.d,.int .i64 i.a,.int .i64 i.bb,.int .u64 i.n,.int .i64 i.f,av,ov],.agg #[qv,.int .i64 s.2]] w fun e w'=>e=.returned (.bool (Jh f i s))∧Below w.heap.size w w':=by
 have hx:=Yj w (.cells #[fv,ev,pv,.int .i64 f.results,hv,sv,bv] 173 (0,0));generalize hW1:World.alloc w (.cells #[fv,ev,pv,.int .i64 f.results,hv,sv,bv] 173 (0,0))=W1 at hx;have hx2:=Yj W1 (.cells #[.int .i64 i.op,.int .i64 i.d,.int .i64 i.a,.int .i64 i.bb,.int .u64 i.n,.int .i64 i.f,av,ov] 65 (0,0));generalize hW2:World.alloc W1 (.cells #[.int .i64 i.op,.int .i64 i.d,.int .i64 i.a,.int .i64 i.bb,.int .u64 i.n,.int .i64 i.f,av,ov] 65 (0,0))=W2 at hx2;have hx3:=Yj W2 (.cells #[qv,.int .i64 s.2] 56 (0,0));have hs1:=hx.2.2;have hs2:=hx2.2.2;have hs3:=hx3.2.2;have hb12:=Za hx.2.1 hx2.2.1 (by omega);have hb13:=Za hb12 hx3.2.1 (by omega);have HH:=J (hh.below hb13);have HS:=J (hs.below hb13);have HA:=J (ha.below hb13);have HO:=J (ho.below hb13);have HQ:=J (hq.below hb13);have HW:=J hb13;have HR1:=J ((hx3.2.1.block w.heap.size (by omega)).trans ((hx2.2.1.block w.heap.size (by omega)).trans hx.1));have HR2:=J ((hx3.2.1.block (w.heap.size+1) (by omega)).trans (hs1 ▸ hx2.1));have hr3:=hx3.1;rw [hs2,hs1] at hr3 hs3;have HR3:=J hr3;have HZ:=J hs3;have hhl:f.homes.length<9223372036854775808:=hh.lt;have hol:i.outs.length<9223372036854775808:=ho.lt;obtain⟨ph,ch,rfl⟩:=hh.shape;obtain⟨ps,cs,rfl⟩:=hs.shape;obtain⟨pa,ca,rfl⟩:=ha.shape;obtain⟨po,co,rfl⟩:=ho.shape;obtain⟨pq,cq,rfl⟩:=hq.shape;clear hx hx2 hx3 hs1 hs2 hs3 hb12 hb13 hr3 hh hs ha ho hq;subst hW1 hW2;go_enter Tryz.func112,Tryz.ntmps112
 go_wp2_with fail
 generalize World.alloc (World.alloc (World.alloc w _) _) _=W at HH HS HA HO HQ HW HR1 HR2 HR3 HZ ⊢;refine(Iu f _ _ _ _ _ _ _ _ _ i.args s.1 W (G HH) (G HS) (G HA) (G HQ)).mono ?_;rintro e w2 ⟨rfl,hb⟩;have HB2:=J hb;have hz:=G HZ;have hri:=(hb.block (w.heap.size+1) (by omega)).trans (G HR2);have hrq:=(hb.block (w.heap.size+1+1) (by omega)).trans (G HR3);have hrs:=(hb.block w.heap.size (by omega)).trans (G HR1);have r7:=(cR hri 7);have q1:=(cR hrq 1);have s0:=(cR hrs 0);have s1:=(cR hrs 1);have s2:=(cR hrs 2);have s3:=(cR hrs 3);have s4:=(cR hrs 4);have s5:=(cR hrs 5);have s6:=(cR hrs 6);clear hb hri hrq hrs hz;cases h1:Ju f i.args s.1 with
 | false =>
  have hx:=J (show Jh f i s=false by unfold Jh; rw [h1]; rfl);clear h1;go_wp2;go_ret;exact⟨by rw [G hx]; rfl,Za (G HW) (G HB2) (by have:=G HZ; omega)⟩
 | true =>
  have H1:=J h1;clear h1;by_cases h2:(i.outs.length:Int)=s.2
  ·
   have z2:((i.outs.length:Int)==s.2)=true:=by simpa using h2
   go_wp2_with fail
   refine(Yo f _ _ _ _ _ _ _ _ i.outs w2 ⟨_,_,rfl⟩ hhl ((G HO).below (G HB2))).mono ?_;rintro e w3 ⟨rfl,hb⟩;have HB3:=J (Za (G HB2) hb (G HB2).size);have hz:=G HZ;have hri:=((G HB3).block (w.heap.size+1) (by omega)).trans (G HR2);have r7:=(cR hri 7);clear hb hri hz;cases h3:Xg f i.outs with
   | false =>
    have hx:=J (show Jh f i s=false by unfold Jh; rw [h3]; simp);clear h3;go_wp2;go_ret;exact⟨by rw [G hx]; rfl,Za (G HW) (G HB3) (by have:=G HZ; omega)⟩
   | true =>
    have H3:=J h3;have hl6:i.outs.length≤1000000:=by omega
    have H2:=J h2;clear h3 h2;go_wp2_with fail
    refine(Zdn _ i.outs w3 ((G HO).below (G HB3)) hl6).mono ?_;rintro e w4 ⟨rfl,h4'⟩;subst w4;have HT:=J (show Jh f i s=Om i.outs by unfold Jh; rw [G H1,G H3]; simp [G H2]);go_wp2;go_ret;exact⟨by rw [G HT]; rfl,Za (G HW) (G HB3) (by have:=G HZ; omega)⟩
  ·
   have z2:((i.outs.length:Int)==s.2)=false:=by simpa using h2
   have hx:=J (show Jh f i s=false by unfold Jh; simp [h2]);clear h2;go_wp2;go_ret;exact⟨by rw [G hx]; rfl,Za (G HW) (G HB2) (by have:=G HZ; omega)⟩
end Go.Proofs.YteddfaconabobaaGreatDoor
