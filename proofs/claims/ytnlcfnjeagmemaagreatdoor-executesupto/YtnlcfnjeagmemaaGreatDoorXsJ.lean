import Derived.Test.YtnlcfnjeagmemaaGreatDoorRows
import Derived.Test.YtnlcfnjeagmemaaGreatDoorXsI
import Derived.WideShapes
import Derived.SizedLaws
import Derived.ChangeSlices
import Derived.Deep.Slices
namespace Go.Proofs.YtnlcfnjeagmemaaGreatDoor
open Go.ChangeShapes Go.WideShapes Go.ChangeAt Go.RowKit Go.Deep
set_option maxRecDepth 100000
theorem Cz {H:Type}(d:DataW H):1≤Rows.uptoBulk d:=by
 cases d with
 | lit l=>cases l <;> simp [Rows.uptoBulk]
 | _=>simp [Rows.uptoBulk]
theorem Zzo {H:Type}:∀(l:List (DataW H)) (d:DataW H),d ∈ l→Rows.uptoBulk d≤Rows.uptoBulkAll l
 | x :: r,d,h=>by
  simp only [Rows.uptoBulkAll];rcases List.mem_cons.1 h with rfl | h
  ·
   omega
  ·
   have:=Zzo r d h;omega
theorem Km {H:Type}(D:Nat→DataW H)(m:Nat→Nat):∀(len:Nat),(∀ i,i<len→m i≤Rows.uptoBulk (D i))→((List.range len).map m).sum≤Rows.uptoBulkAll ((List.range len).map D)
 | 0,_=>by simp [Rows.uptoBulkAll]
 | n+1,h=>by
  have happ:∀(a b:List (DataW H)),Rows.uptoBulkAll (a++b)=Rows.uptoBulkAll a+Rows.uptoBulkAll b:=by
   intro a b;induction a with
   | nil=>simp [Rows.uptoBulkAll]
   | cons x r ih=>simp only [List.cons_append,Rows.uptoBulkAll,ih]; omega
  have h1:=Km D m n (fun i hi=>h i (by omega));have h2:=h n (by omega);rw [List.range_succ,List.map_append,List.map_append,List.sum_append,happ];simp [Rows.uptoBulkAll];omega
theorem Tryz.cellsIntX:Tryz.prog.cellsOf 3=1:=by kernel_rfl
theorem Tryz.cellsI64X:Tryz.prog.cellsOf 2=1:=by kernel_rfl
theorem Tryz.cellsBoolX:Tryz.prog.cellsOf 4=1:=by kernel_rfl
theorem Tryz.cells2iX:Tryz.prog.cellsOf 22=2:=by kernel_rfl
theorem Tryz.cellsU64X:Tryz.prog.cellsOf 62=1:=by kernel_rfl
theorem Tryz.cellsIntsX:Tryz.prog.cellsOf 23=1:=by kernel_rfl
theorem Tryz.cellsWsX:Tryz.prog.cellsOf 33=1:=by kernel_rfl
theorem Tryz.cellsSigX:Tryz.prog.cellsOf 59=2:=by kernel_rfl
theorem Tryz.cellsSigsX:Tryz.prog.cellsOf 26=1:=by kernel_rfl
theorem Tryz.cellsMvX:Tryz.prog.cellsOf 103=7:=by kernel_rfl
theorem Tryz.cellsMvsX:Tryz.prog.cellsOf 61=1:=by kernel_rfl
theorem Tryz.cellsBlX:Tryz.prog.cellsOf 60=1:=by kernel_rfl
theorem Tryz.cellsFnX:Tryz.prog.cellsOf 27=1:=by kernel_rfl
theorem Tryz.cellsTbX:Tryz.prog.cellsOf 25=12:=by kernel_rfl
theorem Tryz.cellsPgX:Tryz.prog.cellsOf 32=2:=by kernel_rfl
theorem Tryz.cellsFnsX:Tryz.prog.cellsOf 30=1:=by kernel_rfl
theorem Zq {α:Type}{tr:TypeId→List Value→Option α}{fs:Array Field}{cs:List Value}{xs:List α}{c:Nat}{i:Nat}{f:Field}{y:α}
 (hf:∀(i:Nat) (f:Field),fs[i]?=some f→tr f.type ((cs.drop f.offset).take (Tryz.prog.cellsOf f.type))=xs[i]?) (hi:fs[i]?=some f) (hc:Tryz.prog.cellsOf f.type=c) (hy:xs[i]?=some y):tr f.type ((cs.drop f.offset).take c)=some y:=by
 rw [← hy,← hf i f hi,hc]
theorem Zdy {α:Type}{l:List α}(h:l.length=2):∃ a0 a1,l=[a0,a1]:=by
 match l,h with
 | [a0,a1],_=>exact⟨_,_,rfl⟩
theorem Zqz {α:Type}{l:List α}(h:l.length=3):∃ a0 a1 a2,l=[a0,a1,a2]:=by
 match l,h with
 | [a0,a1,a2],_=>exact⟨_,_,_,rfl⟩
theorem Zra {α:Type}{l:List α}(h:l.length=7):∃ a0 a1 a2 a3 a4 a5 a6,l=[a0,a1,a2,a3,a4,a5,a6]:=by
 match l,h with
 | [a0,a1,a2,a3,a4,a5,a6],_=>exact⟨_,_,_,_,_,_,_,rfl⟩
theorem Zxd {α:Type}{l:List α}(h:l.length=8):∃ a0 a1 a2 a3 a4 a5 a6 a7,l=[a0,a1,a2,a3,a4,a5,a6,a7]:=by
 match l,h with
 | [a0,a1,a2,a3,a4,a5,a6,a7],_=>exact⟨_,_,_,_,_,_,_,_,rfl⟩
theorem Zts {α:Type}{l:List α}(h:l.length=11):∃ a0 a1 a2 a3 a4 a5 a6 a7 a8 a9 a10,l=[a0,a1,a2,a3,a4,a5,a6,a7,a8,a9,a10]:=by
 match l,h with
 | [a0,a1,a2,a3,a4,a5,a6,a7,a8,a9,a10],_=>exact⟨_,_,_,_,_,_,_,_,_,_,_,rfl⟩
theorem Ztt {α:Type}{l:List α}(h:l.length=12):∃ a0 a1 a2 a3 a4 a5 a6 a7 a8 a9 a10 a11,l=[a0,a1,a2,a3,a4,a5,a6,a7,a8,a9,a10,a11]:=by
 match l,h with
 | [a0,a1,a2,a3,a4,a5,a6,a7,a8,a9,a10,a11],_=>exact⟨_,_,_,_,_,_,_,_,_,_,_,_,rfl⟩
theorem Ztu {α:Type}{l:List α}(h:l.length=20):∃ a0 a1 a2 a3 a4 a5 a6 a7 a8 a9 a10 a11 a12 a13 a14 a15 a16 a17 a18 a19,l=[a0,a1,a2,a3,a4,a5,a6,a7,a8,a9,a10,a11,a12,a13,a14,a15,a16,a17,a18,a19]:=by
 match l,h with
 | [a0,a1,a2,a3,a4,a5,a6,a7,a8,a9,a10,a11,a12,a13,a14,a15,a16,a17,a18,a19],_=>exact⟨_,_,_,_,_,_,_,_,_,_,_,_,_,_,_,_,_,_,_,_,rfl⟩
theorem Zrb {α:Type}(ps:List α):(ps.map fun _=>1).sum=ps.length:=by
 induction ps with
 | nil=>rfl
 | cons a r ih=>simp [ih]; omega
theorem Mp {α β:Type}(ps:List (α×β))(d:β)(x:α×β)(k:Nat)(h:k<ps.length):(ps.map (·.2)).getD k d=(ps.getD k x).2:=by simp [List.getD,h]
theorem Ge {α:Type}(l:List α)(d:α)(k:Nat)(h:k<l.length):l.getD k d ∈ l:=by
 have:l.getD k d=l[k]:=by simp [List.getD,h]
 rw [this];exact List.getElem_mem h
theorem Ia {α:Type}(l:List α)(m:α→Nat):∀ x ∈ l,m x≤(l.map m).sum:=by
 induction l with
 | nil=>intro x hx; cases hx
 | cons a r ih =>
  intro x hx;simp only [List.map_cons,List.sum_cons];rcases List.mem_cons.1 hx with rfl | hx
  ·
   omega
  ·
   have:=ih x hx;omega
section
variable {H:Type} {enc:TypeId×Value→H} {w:World} {held:Bool}
abbrev Mo (enc:TypeId×Value→H)(w:World)(held:Bool)(n:Nat)(t:TypeId)(cs:List Value)(y:DataW H×List MemPlace):Prop:=DataW.trod enc Tryz.prog w 0 (fun _=>true) held n t cs=some y
theorem Yi {n:Nat}{v:Value}{y:DataW H×List MemPlace}(h:Mo enc w held n 3 [v] y):∃ x:Int,v=.int .i64 x:=by
 obtain⟨x,e,-,hw⟩:=DataW.trod_int Tryz.underlying3 h;exact⟨x,List.head_eq_of_cons_eq e⟩
theorem Zne {n:Nat}{v:Value}{y:DataW H×List MemPlace}(h:Mo enc w held n 2 [v] y):∃ x:Int,v=.int .i64 x:=by
 obtain⟨x,e,-,hw⟩:=DataW.trod_int Tryz.underlying2 h;exact⟨x,List.head_eq_of_cons_eq e⟩
theorem Znf {n:Nat}{v:Value}{y:DataW H×List MemPlace}(h:Mo enc w held n 62 [v] y):∃ x:Int,v=.int .u64 x∧0≤x∧x<18446744073709551616:=by
 obtain⟨x,e,-,hw⟩:=DataW.trod_int Tryz.underlying62 h;refine⟨x,List.head_eq_of_cons_eq e,?_⟩;have hb:=bounds_u64 hw;omega
theorem Zng {n:Nat}{v0 v1:Value}{y:DataW H×List MemPlace}(h:Mo enc w held n 22 [v0,v1] y):∃ n m:Int,v0=.int .i64 n∧v1=.int .i64 m:=by
 obtain⟨xs,m,-,-,-,hxl,hall⟩:=DataW.trod_array Tryz.underlying22 h;obtain⟨x0,x1,rfl⟩:=Zdy hxl;have h0:Mo enc w held m 3 [v0] x0:=by
  have:=hall 0 (by decide);rw [Tryz.cellsIntX] at this;exact this
 have h1:Mo enc w held m 3 [v1] x1:=by
  have:=hall 1 (by decide);rw [Tryz.cellsIntX] at this;exact this
 obtain⟨n,e0⟩:=Yi h0;obtain⟨k,e1⟩:=Yi h1;exact⟨n,k,e0,e1⟩
theorem Lt {t e:TypeId}{α:Type}[Inhabited α]{size:Nat}{msr:α→Nat}{Mc:Array Value×α→Prop}(ht:Tryz.prog.underlying t=some (.slice e))(hc:Tryz.prog.cellsOf e=size)(hs:0<size)
 (elem:∀ n cs y,cs.length=size→Mo enc w held n e cs y→Rows.uptoBulk y.1≤1048576→∃ x:α,Mc (cs.toArray,x)∧msr x≤Rows.uptoBulk y.1)
 {n:Nat} {v:Value} {y:DataW H×List MemPlace} (h:Mo enc w held n t [v] y) (hbk:Rows.uptoBulk y.1≤1048576) :
 ∃(ps:List (Array Value×α)) (p:Option Addr) (c:Nat),v=.slice p ps.length c∧ps.length≤c∧ps.length<1048576∧(∀ q ∈ ps,Mc q)∧((ps.map (·.2)).map msr).sum+1≤Rows.uptoBulk y.1∧∀ k,k<ps.length→∃ g so,p=some ⟨g,so,none⟩∧g<w.heap.size∧∀ j u,(ps.getD k (#[],default)).1.toList[j]?=some u→w.cell? ⟨g,so+k*size+j,none⟩=some u:=by
 rcases open_slice ht h with⟨h0,h1⟩ | ⟨a,len,cap,m,k,D,Pl,h0,-,hl,hm,hmm,h1,hx⟩
 ·
  simp at h0;subst h0 h1;exact⟨[],none,0,rfl,Nat.le_refl _,(by simp),fun q hq=>(by cases hq),(by simp [Rows.uptoBulk]),fun k hk=>(by simp at hk)⟩
 ·
  simp at h0;subst h0 h1;simp at hmm;subst hmm;have hbd:∀ i,i<len→Rows.uptoBulk (D i)≤1048576:=fun i hi=>by
   have:=Zzo ((List.range len).map D) (D i) (List.mem_map.2 ⟨i,List.mem_range.2 hi,rfl⟩);simp only [Rows.uptoBulk] at hbk;omega
  have each:∀ i,i<len→∃ q:Array Value×α,Mc q∧w.cells? 0 (a.add (i*size)) size=some q.1.toList∧msr q.2≤Rows.uptoBulk (D i):=by
   intro i hi;obtain⟨cs',g1,g2⟩:=hx i (by omega);rw [hc] at g1;obtain⟨-,hlen,-⟩:=World.cells?_some g1;obtain⟨x,g3,g4⟩:=elem k cs' _ hlen g2 (hbd i hi);exact⟨(cs'.toArray,x),g3,by simpa using g1,g4⟩
  haveI:Inhabited (Array Value×α):=⟨(#[],default)⟩
  obtain⟨f,hf⟩:=choose_lt each;have hlenp:((List.range len).map f).length=len:=by simp
  refine⟨(List.range len).map f,some a,m,by rw [hlenp],by rw [hlenp]; exact hl,?_,?_,?_,?_⟩
  ·
   rw [hlenp];have h1:=Km D (fun _=>1) len (fun i hi=>Cz _);rw [Zrb,List.length_range] at h1;simp only [Rows.uptoBulk] at hbk;omega
  ·
   intro q hq;obtain⟨i,hi,rfl⟩:=List.mem_map.1 hq;exact(hf i (List.mem_range.1 hi)).1
  ·
   rw [List.map_map,List.map_map];have:=Km D (fun i=>msr (f i).2) len (fun i hi=>(hf i hi).2.2);simp only [Rows.uptoBulk];rw [show((msr ∘ fun x:Array Value×α=>x.2) ∘ f)=fun i=>msr (f i).2 from rfl];omega
  ·
   intro i hi;have hi':i<len:=by simpa using hi
   obtain⟨sb,so,spot⟩:=a;have g:=World.cells?_some (hf i hi').2.1;have g0:=World.cells?_some (hf 0 (by omega)).2.1;have hcell:=g0.2.2 0 hs;have hlt:0<(f 0).1.toList.length:=by rw [g0.2.1]; exact hs
   have hsp:spot=none:=by
    rw [List.getElem?_eq_getElem hlt] at hcell;simpa [Addr.add] using World.cell?_spot hcell
   subst hsp;have hbk:sb<w.heap.size:=by
    rw [List.getElem?_eq_getElem hlt] at hcell;have:=World.block_lt_of_cell? w _ hcell;simpa [Addr.add] using this
   refine⟨sb,so,rfl,hbk,fun j u hj=>?_⟩;have e:((List.range len).map f).getD i (#[],default)=f i:=by simp [List.getD,hi']
   rw [e] at hj;have hjs:j<size:=by
    have:=(List.getElem?_eq_some_iff.1 hj).1;rw [g.2.1] at this;exact this
   have:=g.2.2 j hjs;rw [hj,Go.WideShapes.add_plain,Go.WideShapes.add_plain] at this;exact this
theorem Ok {n:Nat}{v:Value}{y:DataW H×List MemPlace}(h:Mo enc w held n 23 [v] y)(hbk:Rows.uptoBulk y.1≤1048576):∃ ns:List Int,Li w v ns∧ns.length+1≤Rows.uptoBulk y.1:=by
 obtain⟨ps,p,c,h1,h2,h3,h4,h5,h6⟩:=Lt (msr:=fun _=>1) (Mc:=fun q:Array Value×Int=>q.1=#[.int .i64 q.2]) Tryz.underlying23 Tryz.cellsIntX (by decide) (fun n cs y hl hy _=>by
  match cs,hl with
  | [v],_ =>
   obtain⟨x,rfl⟩:=Yi hy;exact⟨x,rfl,Cz _⟩) h hbk
 have hl:(ps.map (·.2)).length=ps.length:=by simp
 rw [Zrb,hl] at h5;refine⟨ps.map (·.2),⟨p,c,by rw [hl]; exact h1,by rw [hl]; exact h2,by rw [hl]; show ps.length<9223372036854775808; omega,fun h0=>?_⟩,by rw [hl]; exact h5⟩;rw [hl] at h0;obtain⟨sb,so,e,-,-⟩:=h6 0 h0;refine⟨sb,so,e,fun i hi=>?_⟩;rw [hl] at hi;obtain⟨sb',so',e',-,hc⟩:=h6 i hi;rw [e] at e';injection e' with e';injection e' with e1 e2;subst e1 e2;have:=hc 0 (.int .i64 (ps.getD i (#[],default)).2) (by rw [h4 _ (Ge ps _ i hi)]; rfl);rw [Mp ps 0 (#[],default) i hi];simpa using this
theorem Kv {n:Nat}{v:Value}{y:DataW H×List MemPlace}(h:Mo enc w held n 33 [v] y)(hbk:Rows.uptoBulk y.1≤1048576):∃(ns:List Int) (p:Option Addr) (c:Nat),v=.slice p ns.length c∧LiU w (.slice p ns.length c) ns∧ns.length<1048576∧∀ x ∈ ns,0≤x∧x<18446744073709551616:=by
 obtain⟨ps,p,c,h1,h2,h3,h4,h5,h6⟩:=Lt (msr:=fun _=>1) (Mc:=fun q:Array Value×Int=>q.1=#[.int .u64 q.2]∧0≤q.2∧q.2<18446744073709551616) Tryz.underlying33 Tryz.cellsU64X (by decide) (fun n cs y hl hy _=>by
  match cs,hl with
  | [v],_ =>
   obtain⟨x,rfl,hx⟩:=Znf hy;exact⟨x,⟨rfl,hx⟩,Cz _⟩) h hbk
 have hl:(ps.map (·.2)).length=ps.length:=by simp
 refine⟨ps.map (·.2),p,c,by rw [hl]; exact h1,⟨p,c,rfl,by rw [hl]; exact h2,by rw [hl]; omega,fun h0=>?_⟩,by rw [hl]; exact h3,fun x hx=>?_⟩
 ·
  rw [hl] at h0;obtain⟨sb,so,e,-,-⟩:=h6 0 h0;refine⟨sb,so,e,fun i hi=>?_⟩;rw [hl] at hi;obtain⟨sb',so',e',-,hc⟩:=h6 i hi;rw [e] at e';injection e' with e';injection e' with e1 e2;subst e1 e2;have:=hc 0 (.int .u64 (ps.getD i (#[],default)).2) (by rw [(h4 _ (Ge ps _ i hi)).1]; rfl);rw [Mp ps 0 (#[],default) i hi];simpa using this
 ·
  obtain⟨q,hq,rfl⟩:=List.mem_map.1 hx;exact(h4 q hq).2
theorem Zau {n:Nat}{v:Value}{y:DataW H×List MemPlace}(h:Mo enc w held n 26 [v] y)(hbk:Rows.uptoBulk y.1≤1048576):∃(ss:List (List Int×Int)) (p:Option Addr) (c:Nat),v=.slice p ss.length c∧Na w w.heap.size (.slice p ss.length c) ss∧ss.length<1048576∧∀ s ∈ ss,s.1.length<1048576:=by
 obtain⟨ps,p,c,h1,h2,h3,h4,h5,h6⟩:=Lt (msr:=fun s=>s.1.length+1) (Mc:=fun q:Array Value×(List Int×Int)=>∃ lv,q.1=#[lv,.int .i64 q.2.2]∧Li w lv q.2.1) Tryz.underlying26 Tryz.cellsSigX (by decide) (fun n cs y hl hy hyb=>by
  obtain⟨c0,c1,rfl⟩:=Zdy hl;obtain⟨xs,n,-,hx,-,hxl,hall⟩:=DataW.trod_struct Tryz.underlying59 hy;obtain⟨y0,y1,rfl⟩:=Zdy hxl;have f0:Mo enc w held n 23 [c0] y0:=Zq hall (i:=0) rfl Tryz.cellsIntsX rfl;have f1:Mo enc w held n 3 [c1] y1:=Zq hall (i:=1) rfl Tryz.cellsIntX rfl;rw [congrArg Prod.fst hx] at hyb ⊢;simp only [List.map_cons,List.map_nil,Rows.uptoBulk,Rows.uptoBulkAll] at hyb ⊢;obtain⟨ns,hli,hln⟩:=Ok f0 (by omega);obtain⟨x,rfl⟩:=Yi f1;exact⟨(ns,x),⟨c0,rfl,hli⟩,by show ns.length+1≤_; omega⟩) h hbk
 have hl:(ps.map (·.2)).length=ps.length:=by simp
 refine⟨ps.map (·.2),p,c,by rw [hl]; exact h1,⟨p,c,rfl,by rw [hl]; exact h2,by rw [hl]; omega,fun k hk=>?_⟩,by rw [hl]; exact h3,fun s hs=>?_⟩
 ·
  rw [hl] at hk;obtain⟨g,so,e,hg,hc⟩:=h6 k hk;obtain⟨lv,hq,hli⟩:=h4 _ (Ge ps (#[],default) k hk);rw [Mp ps ([],0) (#[],default) k hk];have hr:=Zip hli;exact⟨g,so,lv,e,hg,by have:=hc 0 lv (by rw [hq]; rfl); simpa using this,hc 1 _ (by rw [hq]; rfl),hli,hr⟩
 ·
  have:s.1.length+1≤_:=Ia (ps.map (·.2)) (fun s=>s.1.length+1) s hs;omega
theorem Zhh {n:Nat}{v:Value}{y:DataW H×List MemPlace}(h:Mo enc w held n 61 [v] y)(hbk:Rows.uptoBulk y.1≤1048576):∃ l:List Zt,MvC w w.heap.size v l∧l.length+1≤Rows.uptoBulk y.1:=by
 haveI:Inhabited Zt:=⟨Yz⟩
 obtain⟨ps,p,c,h1,h2,h3,h4,h5,h6⟩:=Lt (msr:=fun _=>1) (Mc:=fun q:Array Value×Zt=>q.1=#[.int .i64 q.2.op,.int .i64 q.2.r,.int .i64 q.2.a,.int .i64 q.2.b,.int .i64 q.2.n,.int .i64 q.2.w,.int .i64 q.2.f]) Tryz.underlying61 Tryz.cellsMvX (by decide) (fun n cs y hl hy hyb=>by
  obtain⟨c0,c1,c2,c3,c4,c5,c6,rfl⟩:=Zra hl;obtain⟨xs,n,-,hx,-,hxl,hall⟩:=DataW.trod_struct Tryz.underlying103 hy;obtain⟨y0,y1,y2,y3,y4,y5,y6,rfl⟩:=Zra hxl;have f0:Mo enc w held n 3 [c0] y0:=Zq hall (i:=0) rfl Tryz.cellsIntX rfl;have f1:Mo enc w held n 3 [c1] y1:=Zq hall (i:=1) rfl Tryz.cellsIntX rfl;have f2:Mo enc w held n 3 [c2] y2:=Zq hall (i:=2) rfl Tryz.cellsIntX rfl;have f3:Mo enc w held n 3 [c3] y3:=Zq hall (i:=3) rfl Tryz.cellsIntX rfl;have f4:Mo enc w held n 2 [c4] y4:=Zq hall (i:=4) rfl Tryz.cellsI64X rfl;have f5:Mo enc w held n 3 [c5] y5:=Zq hall (i:=5) rfl Tryz.cellsIntX rfl;have f6:Mo enc w held n 3 [c6] y6:=Zq hall (i:=6) rfl Tryz.cellsIntX rfl;obtain⟨x0,rfl⟩:=Yi f0;obtain⟨x1,rfl⟩:=Yi f1;obtain⟨x2,rfl⟩:=Yi f2;obtain⟨x3,rfl⟩:=Yi f3;obtain⟨x4,rfl⟩:=Zne f4;obtain⟨x5,rfl⟩:=Yi f5;obtain⟨x6,rfl⟩:=Yi f6;exact⟨⟨x0,x1,x2,x3,x4,x5,x6⟩,rfl,Cz _⟩) h hbk
 have hl:(ps.map (·.2)).length=ps.length:=by simp
 rw [Zrb,hl] at h5;refine⟨ps.map (·.2),⟨p,c,by rw [hl]; exact h1,by rw [hl]; exact h2,by rw [hl]; omega,fun k hk=>?_⟩,by rw [hl]; exact h5⟩;rw [hl] at hk;obtain⟨g,so,e,hg,hc⟩:=h6 k hk;refine⟨g,so,e,hg,fun j u hj=>hc j u ?_⟩;rw [Mp ps Yz (#[],default) k hk] at hj;rw [h4 _ (Ge ps (#[],default) k hk)];exact hj
def Oo (f:List (List Zt)):Nat:=(f.map fun l=>l.length+1).sum+1
theorem Zdz {n:Nat}{v:Value}{y:DataW H×List MemPlace}(h:Mo enc w held n 60 [v] y)(hbk:Rows.uptoBulk y.1≤1048576):∃ f:List (List Zt),(∃ U,LV w w.heap.size v f.length U∧∀ b,b<f.length→MvC w w.heap.size (U b) (f.getD b []))∧Oo f≤Rows.uptoBulk y.1:=by
 obtain⟨ps,p,c,h1,h2,h3,h4,h5,h6⟩:=Lt (msr:=fun l=>l.length+1) (Mc:=fun q:Array Value×List Zt=>∃ lv,q.1=#[lv]∧MvC w w.heap.size lv q.2) Tryz.underlying60 Tryz.cellsMvsX (by decide) (fun n cs y hl hy hyb=>by
  match cs,hl with
  | [v],_ =>
   obtain⟨l,h1,h2⟩:=Zhh hy hyb;exact⟨l,⟨v,rfl,h1⟩,h2⟩) h hbk
 have hl:(ps.map (·.2)).length=ps.length:=by simp
 refine⟨ps.map (·.2),⟨fun k=>(ps.getD k (#[],default)).1.getD 0 .nilIface,⟨p,c,by rw [hl]; exact h1,by rw [hl]; exact h2,by rw [hl]; omega,fun k hk=>?_⟩,fun k hk=>?_⟩,by unfold Oo; exact h5⟩
 ·
  rw [hl] at hk;obtain⟨g,so,e,hg,hc⟩:=h6 k hk;obtain⟨lv,hq,-⟩:=h4 _ (Ge ps (#[],default) k hk);have:=hc 0 lv (by rw [hq]; rfl);refine⟨g,so,e,hg,?_⟩;show _=some ((ps.getD k (#[],default)).1.getD 0 .nilIface);rw [hq];simpa using this
 ·
  rw [hl] at hk;obtain⟨lv,hq,hm⟩:=h4 _ (Ge ps (#[],default) k hk);rw [Mp ps [] (#[],default) k hk];show MvC w w.heap.size ((ps.getD k (#[],default)).1.getD 0 .nilIface) _;rw [hq];exact hm
theorem Zhi {n:Nat}{v:Value}{y:DataW H×List MemPlace}(h:Mo enc w held n 27 [v] y)(hbk:Rows.uptoBulk y.1≤1048576):∃ fs:List (List (List Zt)),Gi w w.heap.size v fs∧fs.length<1048576∧(fs.map Oo).sum+1≤Rows.uptoBulk y.1:=by
 obtain⟨ps,p,c,h1,h2,h3,h4,h5,h6⟩:=Lt (msr:=Oo) (Mc:=fun q:Array Value×List (List Zt)=>∃ lv,q.1=#[lv]∧∃ U,LV w w.heap.size lv q.2.length U∧∀ b,b<q.2.length→MvC w w.heap.size (U b) (q.2.getD b [])) Tryz.underlying27 Tryz.cellsBlX (by decide) (fun n cs y hl hy hyb=>by
  match cs,hl with
  | [v],_ =>
   obtain⟨l,h1,h2⟩:=Zdz hy hyb;exact⟨l,⟨v,rfl,h1⟩,h2⟩) h hbk
 have hl:(ps.map (·.2)).length=ps.length:=by simp
 refine⟨ps.map (·.2),⟨fun k=>(ps.getD k (#[],default)).1.getD 0 .nilIface,⟨p,c,by rw [hl]; exact h1,by rw [hl]; exact h2,by rw [hl]; omega,fun k hk=>?_⟩,fun k hk=>?_⟩,by rw [hl]; exact h3,h5⟩
 ·
  rw [hl] at hk;obtain⟨g,so,e,hg,hc⟩:=h6 k hk;obtain⟨lv,hq,-⟩:=h4 _ (Ge ps (#[],default) k hk);have:=hc 0 lv (by rw [hq]; rfl);refine⟨g,so,e,hg,?_⟩;show _=some ((ps.getD k (#[],default)).1.getD 0 .nilIface);rw [hq];simpa using this
 ·
  rw [hl] at hk;obtain⟨lv,hq,hm⟩:=h4 _ (Ge ps (#[],default) k hk);rw [Mp ps [] (#[],default) k hk];show ∃ U,LV w w.heap.size ((ps.getD k (#[],default)).1.getD 0 .nilIface) _ U∧_;rw [hq];exact hm
theorem Kn:∀(fs:List (List (List Zt))) (k:Nat),(Xl k fs).length+fs.length=(fs.map Oo).sum
 | [],_=>rfl
 | f :: fs,k=>by
  have ih:=Kn fs (k+1);have hf:∀ f:List (List Zt),(Jr k f).length+1=Oo f:=fun f=>by
   unfold Oo Jr;induction f with
   | nil=>rfl
   | cons l r ihr =>
    simp only [List.flatMap_cons,List.length_append,La,List.map_cons,List.sum_cons] at ihr ⊢;omega
  have:=hf f;simp only [Xl,List.length_append,List.length_cons,List.map_cons,List.sum_cons];omega
theorem Ziq (C:Zk)(n:Nat)(h:(C.funcs.map Oo).sum≤n):(Zg C).length≤1099511627776∨n > 1048576:=by
 by_cases hn:n > 1048576
 ·
  exact .inr hn
 refine .inl ?_;have hlen:C.funcs.length≤1048576:=by
  have:=Kn C.funcs 0;omega
 have hb:∀ f ∈ List.range C.funcs.length,(Lq f (C.funcs.getD f [])).length≤1048576:=fun f hf=>by
  have hf:=List.mem_range.1 hf;have h1:=Ia C.funcs Oo _ (Ge C.funcs [] f hf);generalize C.funcs.getD f []=bs at h1 ⊢;have h2:(Lq f bs).length≤Oo bs:=by
   unfold Lq;have e:∀ m,m≤bs.length→((List.range m).flatMap fun b=>Mf f b (bs.getD b [])).length+1≤Oo (bs.take m):=by
    intro m;induction m with
    | zero=>intro _; simp [Oo]
    | succ m ih =>
     intro hm;have:=ih (by omega);rw [List.range_succ,List.flatMap_append,List.length_append,List.take_succ_eq_append_getElem (show m<bs.length by omega)];have h3:(Mf f m (bs.getD m [])).length≤(bs.getD m []).length:=by
      unfold Mf;have:=List.length_filterMap_le (fun k=>if ((bs.getD m []).getD k Yz).op=15 then some ((f:Int),(m:Int),(k:Int)+1) else none) (List.range (bs.getD m []).length);rw [List.length_range] at this;exact this
     have e2:bs.getD m []=bs[m]:=by simp [List.getD,show m<bs.length by omega]
     rw [e2] at h3;unfold Oo at this ⊢;simp only [List.flatMap_cons,List.flatMap_nil,List.append_nil,List.map_append,List.map_cons,List.map_nil,List.sum_append,List.sum_cons,List.sum_nil,e2];omega
   have:=e bs.length (Nat.le_refl _);rw [List.take_length] at this;omega
  omega
 have:=Zil (fun f=>Lq f (C.funcs.getD f [])) 1048576 (List.range C.funcs.length) hb;rw [List.length_range] at this;have h2:C.funcs.length*1048576≤1048576*1048576:=Nat.mul_le_mul_right _ hlen;have h3:(Zg C).length≤C.funcs.length*1048576:=this;omega
theorem Kw {n0:Nat}{c0 c1 c2 c3 c4 c5 c6 c7 c8 c9 c10 c11:Value}{y:DataW H×List MemPlace}(hf:Mo enc w held n0 25 [c0,c1,c2,c3,c4,c5,c6,c7,c8,c9,c10,c11] y)(hbk:Rows.uptoBulk y.1≤1048576) :
 ∃ T:Zm,[c0,c1,c2,c3,c4,c5,c6,c7,c8,c9,c10,c11]=T.box.toList∧TbO w T∧Ziz T:=by
 obtain⟨xs,n,-,hx,-,hxl,hall⟩:=DataW.trod_struct Tryz.underlying25 hf;obtain⟨y0,y1,y2,y3,y4,y5,y6,y7,y8,y9,y10,rfl⟩:=Zts hxl;have f0:Mo enc w held n 3 [c0] y0:=Zq hall (i:=0) rfl Tryz.cellsIntX rfl;have f1:Mo enc w held n 3 [c1] y1:=Zq hall (i:=1) rfl Tryz.cellsIntX rfl;have f2:Mo enc w held n 3 [c2] y2:=Zq hall (i:=2) rfl Tryz.cellsIntX rfl;have f3:Mo enc w held n 22 [c3,c4] y3:=Zq hall (i:=3) rfl Tryz.cells2iX rfl;have f4:Mo enc w held n 23 [c5] y4:=Zq hall (i:=4) rfl Tryz.cellsIntsX rfl;have f5:Mo enc w held n 23 [c6] y5:=Zq hall (i:=5) rfl Tryz.cellsIntsX rfl;have f6:Mo enc w held n 23 [c7] y6:=Zq hall (i:=6) rfl Tryz.cellsIntsX rfl;have f7:Mo enc w held n 3 [c8] y7:=Zq hall (i:=7) rfl Tryz.cellsIntX rfl;have f8:Mo enc w held n 3 [c9] y8:=Zq hall (i:=8) rfl Tryz.cellsIntX rfl;have f9:Mo enc w held n 3 [c10] y9:=Zq hall (i:=9) rfl Tryz.cellsIntX rfl;have f10:Mo enc w held n 4 [c11] y10:=Zq hall (i:=10) rfl Tryz.cellsBoolX rfl;clear hall;rw [congrArg Prod.fst hx] at hbk;simp only [List.map_cons,List.map_nil,Rows.uptoBulk,Rows.uptoBulkAll] at hbk;obtain⟨i0,rfl⟩:=Yi (v:=c0) (y:=y0) f0;obtain⟨i1,rfl⟩:=Yi (v:=c1) (y:=y1) f1;obtain⟨i2,rfl⟩:=Yi (v:=c2) (y:=y2) f2;obtain⟨i3,i4,rfl,rfl⟩:=Zng (v0:=c3) (v1:=c4) (y:=y3) f3;obtain⟨ag,l5,k5⟩:=Ok f4 (by omega);obtain⟨rs,l6,k6⟩:=Ok f5 (by omega);obtain⟨ss,l7,k7⟩:=Ok f6 (by omega);obtain⟨i8,rfl⟩:=Yi (v:=c8) (y:=y7) f7
 obtain⟨i9,rfl⟩:=Yi (v:=c9) (y:=y8) f8;obtain⟨i10,rfl⟩:=Yi (v:=c10) (y:=y9) f9;obtain⟨pr,hpr,-⟩:=DataW.trod_bool Tryz.underlying4 (cs:=[c11]) (x:=y10) f10;obtain rfl:=List.head_eq_of_cons_eq hpr;have m5:=l5;have m6:=l6;have m7:=l7;obtain⟨pa,ca,rfl,-⟩:=l5;obtain⟨pb,cb,rfl,-⟩:=l6;obtain⟨pc,cc,rfl,-⟩:=l7;exact⟨⟨i0,i1,i2,i3,i4,pa,ag,ca,pb,rs,cb,pc,ss,cc,i8,i9,i10,pr⟩,rfl,⟨m5,m6,m7⟩,⟨by show ag.length*8≤_; omega,by show rs.length*8≤_; omega,by show ss.length*8≤_; omega⟩⟩
theorem Zea {b0:Nat}{r:Reach}{v:Value}{d:DataW H}{p:List MemPlace}(hv:Value.okWide Tryz.prog w r b0 25 v)(h:DataW.Trod enc Tryz.prog w 0 (fun _=>true) held 25 v d p)(hbk:Rows.uptoBulk d≤1048576):∃ T:Zm,v=.agg T.box∧TbO w T∧Ziz T:=by
 obtain⟨cs,rfl,hsz⟩:=okWide_struct Tryz.underlying25 hv;obtain⟨l⟩:=cs;obtain⟨c0,c1,c2,c3,c4,c5,c6,c7,c8,c9,c10,c11,rfl⟩:=Ztt (l:=l) (hsz.trans (by kernel_rfl));obtain⟨fuel,hf⟩:=h;obtain⟨T,e,h1,h2⟩:=Kw hf hbk;refine⟨T,?_,h1,h2⟩;have:T.box=T.box.toList.toArray:=by simp
 rw [this,← e]
theorem Zir {b0:Nat}{r:Reach}{v:Value}{d:DataW H}{p:List MemPlace}(hv:Value.okWide Tryz.prog w r b0 29 v)(h:DataW.Trod enc Tryz.prog w 0 (fun _=>true) held 29 v d p)(hbk:Rows.uptoBulk d≤1048576) :
 ∃ C csp cfp cep csc cfc cec,v=.agg (bxC C csp cfp cep csc cfc cec)∧Na w w.heap.size (.slice csp C.sigs.length csc) C.sigs∧Gi w w.heap.size (.slice cfp C.funcs.length cfc) C.funcs∧Na w w.heap.size (.slice cep C.externs.length cec) C.externs∧Ztp C∧(Xl 0 C.funcs).length≤1099511627776∧C.funcs.length≤1099511627776∧(Zg C).length≤1099511627776∧C.externs.length≤1099511627776:=by
 obtain⟨cs,rfl,hsz⟩:=okWide_struct Tryz.underlying29 hv;obtain⟨l⟩:=cs;obtain⟨c0,c1,c2,rfl⟩:=Zqz (l:=l) (hsz.trans (by kernel_rfl));obtain⟨fuel,hf⟩:=h;obtain⟨xs,n,-,hx,-,hxl,hall⟩:=DataW.trod_struct Tryz.underlying29 hf;obtain⟨y0,y1,y2,rfl⟩:=Zqz hxl;have f0:Mo enc w held n 26 [c0] y0:=Zq hall (i:=0) rfl Tryz.cellsSigsX rfl;have f1:Mo enc w held n 27 [c1] y1:=Zq hall (i:=1) rfl Tryz.cellsFnX rfl;have f2:Mo enc w held n 26 [c2] y2:=Zq hall (i:=2) rfl Tryz.cellsSigsX rfl;clear hall;rw [show d=_ from congrArg Prod.fst hx] at hbk;simp only [List.map_cons,List.map_nil,Rows.uptoBulk,Rows.uptoBulkAll] at hbk;obtain⟨ss,csp,csc,rfl,hs1,hs2,hs3⟩:=Zau f0 (by omega);obtain⟨fs,hf1,hf2,hf3⟩:=Zhi f1 (by omega);obtain⟨es,cep,cec,rfl,he1,he2,he3⟩:=Zau f2 (by omega);have hfs:∃ p c,c1=.slice p fs.length c:=by
  obtain⟨_,⟨p,c,e,-⟩,-⟩:=hf1;exact⟨p,c,e⟩
 obtain⟨cfp,cfc,rfl⟩:=hfs;have hln:=Kn fs 0;refine⟨⟨ss,fs,es⟩,csp,cfp,cep,csc,cfc,cec,rfl,hs1,hf1,he1,⟨by show ss.length*32≤_; omega,by show es.length*32≤_; omega,by show fs.length*24≤_; omega,fun s hs=>by have:=hs3 s hs; omega,fun s hs=>by have:=he3 s hs; omega,fun f hf=>?_⟩,by show(Xl 0 fs).length≤_; omega,by show fs.length≤_; omega,?_,by show es.length≤_; omega⟩
 ·
  have h1:=Ia fs Oo f hf;have h2:f.length≤Oo f:=by
   unfold Oo;clear h1 hf;induction f with
   | nil=>simp
   | cons l r ih =>
    simp only [List.length_cons,List.map_cons,List.sum_cons] at ih ⊢;omega
  refine⟨by omega,fun l hl=>?_⟩;have h3:l.length+1≤_:=Ia f (fun l=>l.length+1) l hl;have h4:(f.map fun l=>l.length+1).sum+1=Oo f:=rfl;omega
 ·
  rcases Ziq ⟨ss,fs,es⟩ (fs.map Oo).sum (Nat.le_refl _) with h | h
  ·
   exact h
  ·
   omega
structure Ybc (w:World)(v:Value)(T2:Zm)(pf:Option Addr)(nf cf:Nat)(pe:Option Addr)(ne ce:Nat)(f:Int)(ap:Option Addr)(ac:Nat)(args:List Int)(sp:Option Addr)(scc:Nat)(sc:List Int)(fuel st sx:Int):Prop where
 v:v=.agg (bxS T2 pf nf cf pe ne ce f ap ac args sp scc sc fuel st sx)
 a:LiU w (.slice ap args.length ac) args
 s:LiU w (.slice sp sc.length scc) sc
 al:args.length*8≤140737488351232
 sl:sc.length*8≤140737488351232
 ar:∀ n ∈ args,0≤n∧n<18446744073709551616
 sr:∀ n ∈ sc,0≤n∧n<18446744073709551616
theorem Ky {n:Nat}{t e:TypeId}{v:Value}{y:DataW H×List MemPlace}(ht:Tryz.prog.underlying t=some (.slice e))(h:Mo enc w held n t [v] y):∃ p n c,v=.slice p n c:=by
 rcases open_slice ht h with⟨h0,h1⟩ | ⟨a,len,cap,m,k,D,Pl,h0,-⟩
 ·
  simp at h0;exact⟨_,_,_,h0⟩
 ·
  simp at h0;exact⟨_,_,_,h0⟩
theorem Zbe {b0:Nat}{r:Reach}{v:Value}{d:DataW H}{p:List MemPlace}(hv:Value.okWide Tryz.prog w r b0 35 v)(h:DataW.Trod enc Tryz.prog w 0 (fun _=>true) held 35 v d p)(hbk:Rows.uptoBulk d≤1048576) :
 ∃ T2 pf nf cf pe ne ce f ap ac args sp scc sc fuel st sx,Ybc w v T2 pf nf cf pe ne ce f ap ac args sp scc sc fuel st sx:=by
 obtain⟨cs,rfl,hsz⟩:=okWide_struct Tryz.underlying35 hv;obtain⟨l⟩:=cs;obtain⟨c0,c1,c2,c3,c4,c5,c6,c7,c8,c9,c10,c11,c12,c13,c14,c15,c16,c17,c18,c19,rfl⟩:=Ztu (l:=l) (hsz.trans (by kernel_rfl));obtain⟨fuel0,hf⟩:=h;obtain⟨xs,n,-,hx,-,hxl,hall⟩:=DataW.trod_struct Tryz.underlying35 hf;obtain⟨y0,y1,y2,y3,y4,y5,y6,y7,rfl⟩:=Zxd hxl;have f0:Mo enc w held n 25 [c0,c1,c2,c3,c4,c5,c6,c7,c8,c9,c10,c11] y0:=Zq hall (i:=0) rfl Tryz.cellsTbX rfl;have f1:Mo enc w held n 32 [c12,c13] y1:=Zq hall (i:=1) rfl Tryz.cellsPgX rfl;have f2:Mo enc w held n 3 [c14] y2:=Zq hall (i:=2) rfl Tryz.cellsIntX rfl;have f3:Mo enc w held n 33 [c15] y3:=Zq hall (i:=3) rfl Tryz.cellsWsX rfl;have f4:Mo enc w held n 33 [c16] y4:=Zq hall (i:=4) rfl Tryz.cellsWsX rfl;have f5:Mo enc w held n 3 [c17] y5:=Zq hall (i:=5) rfl Tryz.cellsIntX rfl;have f6:Mo enc w held n 3 [c18] y6:=Zq hall (i:=6) rfl Tryz.cellsIntX rfl;have f7:Mo enc w held n 3 [c19] y7:=Zq hall (i:=7) rfl Tryz.cellsIntX rfl;clear hall;rw [show d=_ from congrArg Prod.fst hx] at hbk;simp only [List.map_cons,List.map_nil,Rows.uptoBulk,Rows.uptoBulkAll] at hbk;obtain⟨T,e0,-,-⟩:=Kw f0 (by omega);obtain⟨xs',n',-,-,-,hxl',hall'⟩:=DataW.trod_struct Tryz.underlying32 f1;obtain⟨z0,z1,rfl⟩:=Zdy hxl';obtain⟨pf,nf,cf,rfl⟩:=Ky Tryz.underlying30 (show Mo enc w held n' 30 [c12] z0 from Zq hall' (i:=0) rfl Tryz.cellsFnsX rfl);obtain⟨pe,ne,ce,rfl⟩:=Ky Tryz.underlying26 (show Mo enc w held n' 26 [c13] z1 from Zq hall' (i:=1) rfl Tryz.cellsSigsX rfl)
 obtain⟨i2,rfl⟩:=Yi f2;obtain⟨args,ap,ac,rfl,ha,hal,har⟩:=Kv f3 (by omega);obtain⟨sc,sp,scc,rfl,hs,hsl,hsr⟩:=Kv f4 (by omega);obtain⟨i5,rfl⟩:=Yi f5;obtain⟨i6,rfl⟩:=Yi f6;obtain⟨i7,rfl⟩:=Yi f7;refine⟨T,pf,nf,cf,pe,ne,ce,i2,ap,ac,args,sp,scc,sc,i5,i6,i7,⟨?_,ha,hs,by omega,by omega,har,hsr⟩⟩;unfold Zm.box at e0;simp only [List.cons.injEq,and_true] at e0;obtain⟨rfl,rfl,rfl,rfl,rfl,rfl,rfl,rfl,rfl,rfl,rfl,rfl⟩:=e0;rfl
end
end Go.Proofs.YtnlcfnjeagmemaaGreatDoor
