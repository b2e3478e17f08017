import Derived.Test.YtnlcfnjeagmemaaGreatDoorProg
import Derived.WalkKit
import Derived.Handy
import Derived.Lib.OthersKept
import Derived.Recover
import Derived.WalkLawsBesides
import Derived.Laws.AppendOwn
import Derived.Deep.MidRow
import Derived.Laws.Tables
import Derived.Laws.Rows
import Derived.Deep.RegionWith
import Derived.Deep.Onto
import Derived.Deep.RegionLaw
import Derived.Lib.ItoaNum
import Derived.Lib.LaidTab
import Derived.Lib.AppendIntMem
import Derived.Test.YtnlcfnjeagmemaaGreatDoorShelf
import Derived.WalkSmall
import Derived.Lib.DecodeN
import Derived.Shelf.Unicode.DecodeAny
import Derived.Laws.OwnMore
import Derived.Laws.Strings2
import Derived.Orders
import Derived.Deep.QuietTactic
import Derived.BigQuiet
import Derived.Defers
namespace Go.Proofs.YtnlcfnjeagmemaaGreatDoor
open Go.RowKit
theorem Ig {p:Prop}(h:p):Hid p:=h
theorem Oe {p:Prop}(h:Hid p):p:=h
structure Ws (w w':World)(b:Nat):Prop where
 low:Below b w w'
 oth:Lib.OthersKept 5 (some b) w w'
theorem Ws.refl (w:World)(b:Nat):Ws w w b:=⟨Below.refl _ _,Lib.OthersKept.refl _ _ _⟩
theorem Ws.trans {a c d:World}{b:Nat}(h:Ws a c b)(k:Ws c d b):Ws a d b:=⟨h.low.trans k.low,h.oth.trans k.oth⟩
def Lj (w:World)(b:Nat)(v:Value)(ns:List Int):Prop:=(ns=[]∧∃ p cap,v=.slice p 0 cap)∨∃ sb so cap,v=.slice (some ⟨sb,so,none⟩) ns.length cap∧sb<b∧∀ i,i<ns.length→w.cell? ⟨sb,so+i,none⟩=some (.int .i64 (ns.getD i 0))
theorem Lj.ws {w w':World}{b:Nat}{v:Value}{ns:List Int}(h:Lj w b v ns)(hw:Ws w w' b):Lj w' b v ns:=by
 rcases h with h | ⟨sb,so,cap,h1,h2,h3⟩
 ·
  exact Or.inl h
 ·
  exact Or.inr ⟨sb,so,cap,h1,h2,fun i hi=>(hw.low.cell (p:=⟨sb,so+i,none⟩) h2).trans (h3 i hi)⟩
theorem Lj.shape {w:World}{b:Nat}{v:Value}{ns:List Int}(h:Lj w b v ns):∃ p cap,v=.slice p ns.length cap:=by
 rcases h with⟨rfl,p,cap,e⟩ | ⟨sb,so,cap,e,_⟩
 ·
  exact⟨p,cap,e⟩
 ·
  exact⟨_,_,e⟩
theorem Zd {w:World}{T:Nat}{t:TypeId}{cs:Array Value}{fr:Nat×Nat}(h:w.heap[T]?=some (.cells cs t fr))(j:Nat):w.cell? ⟨T,j,none⟩=cs[j]?:=cell_of_row w T j cs t fr h
structure Ybe where
 op:Int
 d:Int
 a:Int
 bb:Int
 n:Int
 f:Int
 args:List (Int×Int)
 outs:List Int
abbrev Zeo:Nat:=9223372036854775808
structure Ybd where
 params:List (Int×Int)
 results:Int
 homes:List Int
 slots:List Int
 blocks:List (List Ybe)
def Li (w:World)(v:Value)(ns:List Int):Prop:=∃ p cap,v=.slice p ns.length cap∧ns.length≤cap∧ns.length<Zeo∧(0<ns.length→∃ sb so,p=some ⟨sb,so,none⟩∧∀ i,i<ns.length→w.cell? ⟨sb,so+i,none⟩=some (.int .i64 (ns.getD i 0)))
theorem Li.below {w w':World}{v:Value}{ns:List Int}(h:Li w v ns)(hb:Below w.heap.size w w'):Li w' v ns:=by
 obtain⟨p,cap,h1,h2,h3,h4⟩:=h;refine⟨p,cap,h1,h2,h3,fun h0=>?_⟩;obtain⟨sb,so,e,hc⟩:=h4 h0;exact⟨sb,so,e,fun i hi=>(hb.cell (p:=⟨sb,so+i,none⟩) (World.block_lt_of_cell? w _ (hc i hi))).trans (hc i hi)⟩
theorem Li.nil (w:World):Li w (.slice none 0 0) []:=⟨none,0,rfl,Nat.le_refl _,by decide,fun h=>absurd h (by decide)⟩
theorem Li.take {w:World}{p:Option Addr}{cap:Nat}{ns:List Int}(h:Li w (.slice p ns.length cap) ns)(k:Nat)(hk:k≤ns.length):Li w (.slice p k cap) (ns.take k):=by
 obtain⟨p',cap',h1,h2,h3,h4⟩:=h;injection h1 with e1 e2 e3;subst e1 e3;have hl:(ns.take k).length=k:=by simp; omega
 refine⟨p,cap,by rw [hl],by omega,by omega,fun h0=>?_⟩;obtain⟨sb,so,e,hc⟩:=h4 (by omega);refine⟨sb,so,e,fun i hi=>?_⟩;rw [hl] at hi;rw [hc i (by omega)];simp [List.getD,hi]
theorem Li.new {w:World}{g:Nat}{ns:List Int}{t:TypeId}{fr:Nat×Nat}(h:w.heap[g]?=some (.cells (ns.map fun n=>Value.int .i64 n).toArray t fr))(hs:ns.length<Zeo):Li w (.slice (some ⟨g,0,none⟩) ns.length ns.length) ns :=
 ⟨_,_,rfl,Nat.le_refl _,hs,fun _=>⟨g,0,rfl,fun i hi=>by
  rw [Nat.zero_add,Zd h i];simp [List.getD,hi]⟩⟩
theorem Li.shape {w:World}{v:Value}{ns:List Int}(h:Li w v ns):∃ p cap,v=.slice p ns.length cap:=by
 obtain⟨p,cap,h1,-⟩:=h;exact⟨p,cap,h1⟩
theorem Li.lt {w:World}{v:Value}{ns:List Int}(h:Li w v ns):ns.length<Zeo:=by
 obtain⟨p,cap,-,-,h,-⟩:=h;exact h
def Nf (n lo hi:Int):Bool:=decide (lo≤n∧n≤hi)
def upB (n:Nat)(q:Nat→Bool):Bool:=(List.range n).all q
theorem Zef {n:Nat}{q:Nat→Bool}(h:∀ k,k<n→q k=true):upB n q=true:=by
 unfold upB;rw [List.all_eq_true];exact fun k hk=>h k (List.mem_range.1 hk)
theorem Zbg {n:Nat}{q:Nat→Bool}{k:Nat}(hk:k<n)(h:q k=false):upB n q=false:=by
 unfold upB;rw [List.all_eq_false];exact⟨k,List.mem_range.2 hk,by simp [h]⟩
theorem Ut {n:Nat}{q:Nat→Bool}(h:upB n q=true){k:Nat}(hk:k<n):q k=true:=by
 unfold upB at h;rw [List.all_eq_true] at h;exact h k (List.mem_range.2 hk)
theorem Zbh {q:Nat→Bool}{k:Nat}(h:∀ j,j<k→q j=true)(hk:q k=true):∀ j,j<k+1→q j=true:=fun j hj=>by
 rcases Nat.lt_succ_iff_lt_or_eq.1 hj with h' | h'
 ·
  exact h j h'
 ·
  subst h'; exact hk
def Gu (ns:List Int)(lo hi:Int):Bool:=upB ns.length fun k=>Nf (ns.getD k 0) lo hi
def Xy (s:List Int×Int):Bool:=decide (s.1.length≤8)&&(Nf s.2 0 4&&Gu s.1 0 8)
def nm (k:Nat):List UInt8:=([[114,101,103,115],[115,112],[108,105,110,107],[116,101,109,112,115],[97,114,103,115],[114,101,115,117,108,116,115],[115,97,118,101,115],[97,108,105,103,110],[115,104,97,100,111,119],[98,121,114,101,102],[112,97,105,114,115]]:List (List UInt8)).getD k []
theorem ltc {w:World}{b o:Nat}{v:Value}(h:w.cell? ⟨b,o,none⟩=some v):b<w.heap.size:=by
 rcases Nat.lt_or_ge b w.heap.size with h' | h'
 ·
  exact h'
 ·
  simp [World.cell?,Array.getElem?_eq_none h'] at h
def Jl (r sp lk t0 t1:Int)(va vr vs:Value)(al sh by_:Int)(pr:Bool):Array Value :=
 #[.int .i64 r,.int .i64 sp,.int .i64 lk,.int .i64 t0,.int .i64 t1,va,vr,vs,.int .i64 al,.int .i64 sh,.int .i64 by_,.bool pr]
theorem Zj {p:Prop}(h:p):Hid p:=h
theorem Za {p:Prop}(h:Hid p):p:=h
theorem Kq {P:Program}{t:TypeId}{z:Value}{n b:Nat}(h:(P.info? t).map (fun i=>(i.zero,i.size,i.bytes))=some (some z,n,b)):∃ i,P.info? t=some i∧i.zero=some z∧i.size=n∧i.bytes=b:=by
 obtain⟨i,hi,e⟩:=Option.map_eq_some_iff.1 h;simp only [Prod.mk.injEq] at e;exact⟨i,hi,e.1,e.2.1,e.2.2⟩
theorem Tryz.infoI:(Tryz.prog.info? 3).map (fun i=>(i.zero,i.size,i.bytes))=some (some (.int .i64 0),1,8):=by kernel_rfl
def Sz (ns:List Int):List Value:=ns.map fun n=>.int .i64 n
theorem Zmh {w:World}{base n:Nat}{v:Value}{xs:List Value}(h:w.ownsRow base 3 1 v (n+1) xs):∃ g cap,v=.slice (some ⟨g,0,none⟩) (n+1) cap:=by
 rcases h.2 with⟨_,e⟩ | ⟨g,cap,cur,e,-⟩
 ·
  omega
 ·
  exact⟨g,cap,e⟩
def Rs (w:World)(v:Value)(ns:List Int):Prop:=(ns=[]∧∃ p cap,v=.slice p 0 cap)∨∃ sb so cap,v=.slice (some ⟨sb,so,none⟩) ns.length cap∧∀ i,i<ns.length→w.cell? ⟨sb,so+i,none⟩=some (.int .i64 (ns.getD i 0))
theorem Rs.below {w w':World}{v:Value}{ns:List Int}(h:Rs w v ns)(hb:Below w.heap.size w w'):Rs w' v ns:=by
 rcases h with h | ⟨sb,so,cap,e,hc⟩
 ·
  exact Or.inl h
 ·
  exact Or.inr ⟨sb,so,cap,e,fun i hi=>(hb.cell (p:=⟨sb,so+i,none⟩) (ltc (hc i hi))).trans (hc i hi)⟩
set_option maxHeartbeats 1000000
set_option maxRecDepth 100000
theorem Zjt (n lo hi:Int)(w:World):Calls Tryz.prog 22 #[.int .i64 n,.int .i64 lo,.int .i64 hi] w fun e w'=>e=.returned (.bool (decide (lo≤n∧n≤hi)))∧w'=w:=by
 by_cases h1:lo≤n
 ·
  by_cases h2:n≤hi
  ·
   have hd:decide (lo≤n∧n≤hi)=true:=by simp; omega
   rw [hd];clear hd;go_enter Tryz.func22,Tryz.ntmps22
   go_wp2;go_ret;exact⟨rfl,rfl⟩
  ·
   have hd:decide (lo≤n∧n≤hi)=false:=by simp; omega
   rw [hd];clear hd;go_enter Tryz.func22,Tryz.ntmps22
   go_wp2;go_ret;exact⟨rfl,rfl⟩
 ·
  have hd:decide (lo≤n∧n≤hi)=false:=by simp; omega
  rw [hd];clear hd;go_enter Tryz.func22,Tryz.ntmps22
  go_wp2;go_ret;exact⟨rfl,rfl⟩
theorem Rs.get {w:World}{v:Value}{ns:List Int}(h:Rs w v ns)(hn:ns≠[]):∃ sb so cap,v=.slice (some ⟨sb,so,none⟩) ns.length cap∧∀ i,i<ns.length→w.cell? ⟨sb,so+i,none⟩=some (.int .i64 (ns.getD i 0)):=by
 rcases h with⟨e,_⟩ | h
 ·
  exact absurd e hn
 ·
  exact h
theorem Rz {ns:List Int}{x:Int}{k:Nat}(hk:k<ns.length)(h:¬ x ∈ ns.take k)(hx:ns.getD k 0≠x):¬ x ∈ ns.take (k+1):=by
 rw [List.take_succ_eq_append_getElem hk];intro hm;rcases List.mem_append.1 hm with h' | h'
 ·
  exact h h'
 ·
  simp at h';exact hx (by simp [List.getD,hk,h'])
theorem Ks {ns:List Int}{x:Int}{k:Nat}(hk:k<ns.length)(hx:ns.getD k 0=x):x ∈ ns:=by
 have:ns[k]=x:=by simpa [List.getD,hk] using hx
 exact this ▸ List.getElem_mem hk
theorem Ue (ns:List Int)(x:Int)(v:Value)(w:World)(h:Rs w v ns)(hn:ns.length≤1000000):Calls Tryz.prog 32 #[v,.int .i64 x] w fun e w'=>e=.returned (.bool (decide (x ∈ ns)))∧w'=w:=by
 by_cases hne:ns=[]
 ·
  obtain⟨p,cap,rfl⟩:∃ p cap,v=.slice p 0 cap:=by
   rcases h with⟨_,p,cap,e⟩ | ⟨sb,so,cap,e,_⟩
   ·
    exact⟨p,cap,e⟩
   ·
    rw [hne] at e; exact⟨_,_,e⟩
  subst hne;clear h;go_enter Tryz.func32,Tryz.ntmps32
  go_wp2_with fail
  refine wp_loop_rounds 1 ?_;rw [rounds_succ];go_wp2;go_ret;exact⟨by simp,rfl⟩
 ·
  obtain⟨sb,so,cap,rfl,hc⟩:=h.get hne;have HC:=Zj hc;clear h hc;go_enter Tryz.func32,Tryz.ntmps32
  go_wp2_with fail
  go_loopw [9] (fun j w'=>∃ k:Nat,j=.int .i64 k∧k≤ns.length∧w'=w∧¬ x ∈ ns.take k) (fun j _=>ns.length-(intOf j).toNat)
  case atStart=>exact⟨0,rfl,by omega,rfl,by simp⟩
  case round =>
   obtain⟨k,rfl,hk,rfl,hno⟩:=hrel;have HN:=Zj hno;clear hno;by_cases hlt:k<ns.length
   ·
    have c:=Za HC k hlt;by_cases hx:ns.getD k 0=x
    ·
     rw [hx] at c;have hm:=Zj (Ks hlt hx);clear hx;go_wp2;go_ret;exact⟨by simp [Za hm],rfl⟩
    ·
     have HT:=Zj (Rz hlt (Za HN) hx);generalize hy:ns.getD k 0=y at c hx;have z:(y==x)=false:=by simpa using hx
     clear hy;go_wp2;go_roundw
     case rel=>exact⟨k+1,by go_num,by omega,trivial,Za HT⟩
     case measure=>simp [intOf]; omega
   ·
    obtain rfl:k=ns.length:=by omega
    have HT:=Zj (show ¬ x ∈ ns by have:=Za HN; rwa [List.take_length] at this);go_wp2;go_ret;exact⟨by simp [Za HT],rfl⟩
set_option maxHeartbeats 1000000
set_option maxRecDepth 100000
theorem Du (ns:List Int)(x:Int)(v:Value)(w:World)(h:Rs w v ns)(hn:ns.length≤1000000):Calls Tryz.prog 115 #[v,.int .i64 x] w fun e w'=>e=.returned (.bool (decide (x ∈ ns)))∧w'=w:=by
 by_cases hne:ns=[]
 ·
  obtain⟨p,cap,rfl⟩:∃ p cap,v=.slice p 0 cap:=by
   rcases h with⟨_,p,cap,e⟩ | ⟨sb,so,cap,e,_⟩
   ·
    exact⟨p,cap,e⟩
   ·
    rw [hne] at e; exact⟨_,_,e⟩
  refine(Tryz.slices_Contains_int_empty p cap x w).mono ?_;rintro e w' ⟨rfl,rfl⟩;exact⟨by rw [hne]; simp,rfl⟩
 ·
  obtain⟨sb,so,cap,rfl,hc⟩:=h.get hne;refine(Tryz.slices_Contains_int sb so ns.length cap ns x w (Nat.le_refl _) (by omega) hc).mono ?_;rintro e w' ⟨rfl,rfl⟩;exact⟨by rw [List.take_length]; simp,rfl⟩
def Xe (al bs:List Int):Bool:=al.any fun r=>decide (r ∈ bs)
theorem Zaa (al bs:List Int)(va vb:Value)(w:World)(ha:Rs w va al)(hb:Rs w vb bs)(hna:al.length≤1000000)(hnb:bs.length≤1000000):Calls Tryz.prog 89 #[va,vb] w fun e w'=>e=.returned (.bool (Xe al bs))∧w'=w:=by
 have HB:=Zj hb;clear hb;by_cases hne:al=[]
 ·
  obtain⟨p,cap,rfl⟩:∃ p cap,va=.slice p 0 cap:=by
   rcases ha with⟨_,p,cap,e⟩ | ⟨sb,so,cap,e,_⟩
   ·
    exact⟨p,cap,e⟩
   ·
    rw [hne] at e; exact⟨_,_,e⟩
  subst hne;clear ha;go_enter Tryz.func89,Tryz.ntmps89
  go_wp2_with fail
  refine wp_loop_rounds 1 ?_;rw [rounds_succ];go_wp2;go_ret;exact⟨rfl,rfl⟩
 ·
  obtain⟨sb,so,cap,rfl,hc⟩:=ha.get hne;have HC:=Zj hc;clear ha hc;go_enter Tryz.func89,Tryz.ntmps89
  go_wp2_with fail
  go_loopw [9] (fun j w'=>∃ k:Nat,j=.int .i64 k∧k≤al.length∧w'=w∧Xe (al.take k) bs=false) (fun j _=>al.length-(intOf j).toNat)
  case atStart=>exact⟨0,rfl,by omega,rfl,by simp [Xe]⟩
  case round =>
   obtain⟨k,rfl,hk,rfl,hno⟩:=hrel;have HN:=Zj hno;clear hno;by_cases hlt:k<al.length
   ·
    have c:=Za HC k hlt;have HD:=Zj (Du bs (al.getD k 0) vb wr (Za HB) hnb);have hg:al.getD k 0=al[k]:=by simp [List.getD,hlt]
    have hst:Xe (al.take (k+1)) bs=decide (al.getD k 0 ∈ bs):=by
     rw [List.take_succ_eq_append_getElem hlt];unfold Xe;rw [List.any_append];have:=Za HN;unfold Xe at this;rw [this,hg];simp
    have hall:decide (al.getD k 0 ∈ bs)=true→Xe al bs=true:=fun h=>by
     unfold Xe;rw [List.any_eq_true];exact⟨al[k],List.getElem_mem hlt,by rw [← hg]; exact h⟩
    have HS:=Zj hst;have HA:=Zj hall;clear hst hall hg;generalize decide (al.getD k 0 ∈ bs)=yes at *;generalize al.getD k 0=y at *;go_wp2_with fail
    refine(Za HD).mono ?_;rintro e w2 ⟨rfl,h2⟩;subst w2;cases yes with
    | true =>
     go_wp2;go_ret;exact⟨by simp [Za HA trivial],rfl⟩
    | false =>
     go_wp2;go_roundw
     case rel=>exact⟨k+1,by go_num,by omega,trivial,Za HS⟩
     case measure=>simp [intOf]; omega
   ·
    obtain rfl:k=al.length:=by omega
    have HT:=Zj (show Xe al bs=false by have:=Za HN; rwa [List.take_length] at this);go_wp2;go_ret;exact⟨by simp [Za HT],rfl⟩
set_option maxHeartbeats 2000000
set_option maxRecDepth 100000
def Dv (l:List Int)(c:Int)(i:Nat):Bool:=decide (0≤l.getD i 0∧l.getD i 0<c∧¬ l.getD i 0 ∈ l.take i)
def Jy (l:List Int)(c:Int):Bool:=(List.range l.length).all (Dv l c)
theorem Rs.take {w:World}{sb so:Nat}{ns:List Int}(hc:∀ i,i<ns.length→w.cell? ⟨sb,so+i,none⟩=some (.int .i64 (ns.getD i 0)))(k cap':Nat)(hk:k≤ns.length):Rs w (.slice (some ⟨sb,so,none⟩) k cap') (ns.take k):=by
 have hl:(ns.take k).length=k:=by simp; omega
 refine Or.inr ⟨sb,so,cap',by rw [hl],fun i hi=>?_⟩;rw [hl] at hi;rw [hc i (by omega)];simp [List.getD,hi]
theorem Gz (ns:List Int)(c:Int)(v:Value)(w:World)(h:Rs w v ns)(hn:ns.length≤1000000)(hcap:∀ a n cap,v=.slice a n cap→n≤cap):Calls Tryz.prog 88 #[v,.int .i64 c] w fun e w'=>e=.returned (.bool (Jy ns c))∧w'=w:=by
 by_cases hne:ns=[]
 ·
  obtain⟨p,cap,rfl⟩:∃ p cap,v=.slice p 0 cap:=by
   rcases h with⟨_,p,cap,e⟩ | ⟨sb,so,cap,e,_⟩
   ·
    exact⟨p,cap,e⟩
   ·
    rw [hne] at e; exact⟨_,_,e⟩
  subst hne;clear h hcap;go_enter Tryz.func88,Tryz.ntmps88
  go_wp2_with fail
  refine wp_loop_rounds 1 ?_;rw [rounds_succ];go_wp2;go_ret;exact⟨rfl,rfl⟩
 ·
  obtain⟨sb,so,cap,rfl,hc⟩:=h.get hne;have hcp:=hcap _ _ _ rfl;have HC:=Zj hc;clear h hc hcap;go_enter Tryz.func88,Tryz.ntmps88
  go_wp2_with fail
  go_loopw [9] (fun j w'=>∃ k:Nat,j=.int .i64 k∧k≤ns.length∧w'=w∧∀ q,q<k→Dv ns c q=true) (fun j _=>ns.length-(intOf j).toNat)
  case atStart=>exact⟨0,rfl,by omega,rfl,fun q hq=>by omega⟩
  case round =>
   obtain⟨k,rfl,hk,rfl,hno⟩:=hrel;have HN:=Zj hno;clear hno;by_cases hlt:k<ns.length
   ·
    have cc:=Za HC k hlt;have bad:Dv ns c k=false→Jy ns c=false:=fun hb=>by
     unfold Jy;rw [List.all_eq_false];exact⟨k,List.mem_range.2 hlt,by simp [hb]⟩
    have HBAD:=Zj bad;have hrd:Dv ns c k=decide (0≤ns.getD k 0∧ns.getD k 0<c∧¬ ns.getD k 0 ∈ ns.take k):=rfl;have HRD:=Zj hrd;have HCT:=Zj (fun cap'=>Du (ns.take k) (ns.getD k 0) _ wr (Rs.take (Za HC) k cap' (by omega)) (by simp; omega));have next:Dv ns c k=true→∀ q,q<k+1→Dv ns c q=true:=fun hb q hq=>by
     rcases Nat.lt_succ_iff_lt_or_eq.1 hq with h' | h'
     ·
      exact Za HN q h'
     ·
      subst h'; exact hb
    have HNX:=Zj next;clear bad hrd next;generalize hy:ns.getD k 0=y at cc HRD HCT;clear hy;by_cases h0:0≤y
    ·
     by_cases h1:y<c
     ·
      generalize hm:decide (y ∈ ns.take k)=yes at HCT;have hrr:Dv ns c k=!yes:=by rw [Za HRD,← hm]; simp [h0,h1]
      have HRR:=Zj hrr;clear hrr hm;go_wp2_with fail
      refine(Za HCT _).mono ?_;rintro e w2 ⟨rfl,h2⟩;subst w2;cases yes with
      | true =>
       have hrr:=Zj (Za HBAD (Za HRR));go_wp2;go_ret;exact⟨by simp [Za hrr],rfl⟩
      | false =>
       have hrr:=Zj (Za HNX (Za HRR));go_wp2;go_roundw
       case rel=>exact⟨k+1,by go_num,by omega,trivial,Za hrr⟩
       case measure=>simp [intOf]; omega
     ·
      have hrr:=Zj (Za HBAD (by rw [Za HRD]; simp; omega));go_wp2;go_ret;exact⟨by simp [Za hrr],rfl⟩
    ·
     have hrr:=Zj (Za HBAD (by rw [Za HRD]; simp; omega));go_wp2;go_ret;exact⟨by simp [Za hrr],rfl⟩
   ·
    obtain rfl:k=ns.length:=by omega
    have HT:=Zj (show Jy ns c=true by unfold Jy; rw [List.all_eq_true]; exact fun q hq=>Za HN q (List.mem_range.1 hq));go_wp2;go_ret;exact⟨by simp [Za HT],rfl⟩
set_option maxHeartbeats 1000000
set_option maxRecDepth 100000
theorem Ib (n lo hi:Int)(w:World):Calls Tryz.prog 116 #[.int .i64 n,.int .i64 lo,.int .i64 hi] w fun e w'=>e=.returned (.bool (Nf n lo hi))∧w'=w:=by
 unfold Nf;by_cases h1:lo≤n
 ·
  by_cases h2:n≤hi
  ·
   have hd:decide (lo≤n∧n≤hi)=true:=by simp; omega
   rw [hd];clear hd;go_enter Tryz.func116,Tryz.ntmps116
   go_wp2;go_ret;exact⟨rfl,rfl⟩
  ·
   have hd:decide (lo≤n∧n≤hi)=false:=by simp; omega
   rw [hd];clear hd;go_enter Tryz.func116,Tryz.ntmps116
   go_wp2;go_ret;exact⟨rfl,rfl⟩
 ·
  have hd:decide (lo≤n∧n≤hi)=false:=by simp; omega
  rw [hd];clear hd;go_enter Tryz.func116,Tryz.ntmps116
  go_wp2;go_ret;exact⟨rfl,rfl⟩
theorem Zs (w:World)(X:Obj):(w.alloc X).heap[w.heap.size]?=some X∧Below w.heap.size w (w.alloc X)∧(w.alloc X).heap.size=w.heap.size+1 :=
 ⟨heap_alloc_new w _,(Below.refl w.heap.size w).alloc (Nat.le_refl _) _,by simp⟩
theorem Yk {a w:World}{n:Nat}(h:Below n a w)(m:Nat):Below n a (w.drewN m):=⟨h.os,h.tape,h.output,h.size,h.block⟩
theorem Zb {a c d:World}{n:Nat}(h:Below n a c)(k:Below c.heap.size c d)(hn:n≤c.heap.size):Below n a d:=h.trans (k.mono hn)
theorem Zlq (v:Value)(ns:List Int)(r:Int)(w:World)(h:Li w v ns):Calls Tryz.prog 90 #[.agg #[v,.int .i64 r]] w fun e w'=>e=.returned (.bool (Xy (ns,r)))∧Below w.heap.size w w':=by
 have hx:=Zs w (.cells #[v,.int .i64 r] 59 (0,0));have h':=h.below hx.2.1;obtain⟨p,cap,rfl,hcap,hlt,hc⟩:=h';have hlt:ns.length<9223372036854775808:=hlt;have HC:=Y hc;have HX:=Y hx;clear hc hx h;by_cases h8:ns.length≤8
 ·
  have HS:=Y (show Xy (ns,r)=(Nf r 0 4&&Gu ns 0 8) by unfold Xy; simp [h8]);go_enter Tryz.func90,Tryz.ntmps90
  go_wp2_with fail
  refine(Ib r 0 4 _).mono ?_;rintro e w2 ⟨rfl,h2⟩;subst w2;cases hr:Nf r 0 4 with
  | false =>
   have HR:=Y hr;clear hr;go_wp2;go_ret;exact⟨by rw [O HS,O HR]; rfl,(O HX).2.1⟩
  | true =>
   have HR:=Y hr;clear hr;go_wp2_with fail
   generalize World.alloc w _=W at HC HX ⊢;go_loopw [18] (fun j w'=>∃ k:Nat,j=.int .i64 k∧k≤ns.length∧w'=W∧∀ q,q<k→Nf (ns.getD q 0) 0 8=true) (fun j _=>ns.length-(intOf j).toNat)
   case atStart=>exact⟨0,rfl,by omega,rfl,fun q hq=>by omega⟩
   case round =>
    obtain⟨k,rfl,hk,rfl,hno⟩:=hrel;have HN:=Y hno;clear hno;by_cases hk2:k<ns.length
    ·
     obtain⟨sb,so,rfl,hcc⟩:=O HC (by omega);have c:=hcc k hk2;have HW:=Y (Ib (ns.getD k 0) 0 8 wr);have HBAD:=Y (fun hb:Nf (ns.getD k 0) 0 8=false=>show Gu ns 0 8=false from Zbg hk2 hb);have HNX:=Y (fun hb:Nf (ns.getD k 0) 0 8=true=>Zbh (q:=fun q=>Nf (ns.getD q 0) 0 8) (O HN) hb);clear hcc HC;generalize Nf (ns.getD k 0) 0 8=yes at HW HBAD HNX;generalize ns.getD k 0=y at c HW;go_wp2_with fail
     refine(O HW).mono ?_;rintro e w2 ⟨rfl,h2⟩;subst w2;cases yes with
     | false =>
      have hx:=Y (O HBAD rfl);go_wp2;go_ret;exact⟨by rw [O HS,O HR,O hx]; rfl,(O HX).2.1⟩
     | true =>
      have hx:=Y (O HNX rfl);go_wp2;go_roundw
      case rel=>exact⟨k+1,by go_num,by omega,trivial,O hx⟩
      case measure=>simp [intOf]; omega
    ·
     have HT:=Y (show Gu ns 0 8=true from Zef (fun q hq=>O HN q (by omega)));obtain rfl:k=ns.length:=by omega
     go_wp2;go_ret;exact⟨by rw [O HS,O HR,O HT]; rfl,(O HX).2.1⟩
 ·
  have HS:=Y (show Xy (ns,r)=false by unfold Xy; simp [h8]);go_enter Tryz.func90,Tryz.ntmps90
  go_wp2;go_ret;exact⟨by rw [O HS]; rfl,(O HX).2.1⟩
set_option maxHeartbeats 1000000
theorem Zzt (n lo hi:Int)(w:World):Calls Tryz.prog 22 #[.int .i64 n,.int .i64 lo,.int .i64 hi] w fun e w'=>e=.returned (.bool (decide (lo≤n∧n≤hi)))∧w'=w:=by
 by_cases h1:lo≤n
 ·
  by_cases h2:n≤hi
  ·
   have hd:decide (lo≤n∧n≤hi)=true:=by simp; omega
   rw [hd];clear hd;go_enter Tryz.func22,Tryz.ntmps22
   go_wp2;go_ret;exact⟨rfl,rfl⟩
  ·
   have hd:decide (lo≤n∧n≤hi)=false:=by simp; omega
   rw [hd];clear hd;go_enter Tryz.func22,Tryz.ntmps22
   go_wp2;go_ret;exact⟨rfl,rfl⟩
 ·
  have hd:decide (lo≤n∧n≤hi)=false:=by simp; omega
  rw [hd];clear hd;go_enter Tryz.func22,Tryz.ntmps22
  go_wp2;go_ret;exact⟨rfl,rfl⟩
theorem Lj.gb {w w':World}{b:Nat}{v:Value}{ns:List Int}(h:Lj w b v ns)(hw:w.grownBy w' (some b))(hb:b<w.heap.size):Lj w' b v ns:=by
 rcases h with h | ⟨sb,so,cap,h1,h2,h3⟩
 ·
  exact Or.inl h
 ·
  exact Or.inr ⟨sb,so,cap,h1,h2,fun i hi=>(World.cell?_of_block (hw.block sb (by omega) (by intro e; injection e with e; omega))).trans (h3 i hi)⟩
theorem Zc {w:World}{T:Nat}{o:Obj}(h:w.heap[T]?=some o):T<w.heap.size:=(Array.getElem?_eq_some_iff.1 h).1
section
variable {w u:World} {b T1 T2:Nat} {A1 A2:Array Value} {s:ByteArray} {q:Nat} {l:List UInt8} {bad:Bool}
end
theorem Lj.mono {w:World}{b b':Nat}{v:Value}{ns:List Int}(h:Lj w b v ns)(hb:b≤b'):Lj w b' v ns:=by
 rcases h with h | ⟨sb,so,cap,h1,h2,h3⟩
 ·
  exact Or.inl h
 ·
  exact Or.inr ⟨sb,so,cap,h1,by omega,h3⟩
end Go.Proofs.YtnlcfnjeagmemaaGreatDoor
