import Derived.Test.YteddfaconabobaaGreatDoorCkQ
import Derived.Test.YteddfaconabobaaGreatDoorRows
import Derived.Test.YteddfaconabobaaGreatDoorJ0
import Derived.Test.YteddfaconabobaaGreatDoorJ5
import Derived.Test.YteddfaconabobaaGreatDoorJ7
import Derived.Deep.QuietTactic
import Derived.BigQuiet
import Derived.Test.YteddfaconabobaaGreatDoorPk
import Derived.Test.YteddfaconabobaaGreatDoorJ10
namespace Go.Proofs.YteddfaconabobaaGreatDoor
open Go.RowKit
theorem Zhq {w:World}{v:Value}{x:Ia}(hE:Xx w)(h:Mq w v x):Calls Tryz.prog 18 #[v] w fun e w'=>e=.returned (Dc x.e x.f x.b x.a)∧Below w.heap.size w w':=by
 rcases h with⟨rfl,rfl⟩ | ⟨n,-,rfl,rfl⟩ | ⟨q,-,rfl,hb⟩
 ·
  exact Zgk w
 ·
  exact Zcl n w hE
 ·
  exact Zgl _ _ _ _ q w hE hb
theorem Xx.keep {w w':World}(h:Xx w)(hb:Below w.heap.size w w'):Xx w':=(hb.cell (World.block_lt_of_cell? w _ h)).trans h
theorem Mq.shape {w:World}{v:Value}{x:Ia}(h:Mq w v x):v=.nilIface∨∃ t u,v=.iface t u:=by
 rcases h with⟨rfl,rfl⟩ | ⟨n,-,rfl,rfl⟩ | ⟨q,-,rfl,hb⟩
 ·
  exact Or.inl rfl
 ·
  exact Or.inr ⟨_,_,rfl⟩
 ·
  exact Or.inr ⟨_,_,rfl⟩
end Go.Proofs.YteddfaconabobaaGreatDoor
namespace Go.Proofs.YteddfaconabobaaGreatDoor
open Go.ChangeShapes Go.WideShapes Go.ChangeAt Go.RowKit Go.Deep
theorem Uh {H:Type}{P:Program}{e:TypeId}{d:DataW H}{x:Nat}:∀{l:List (DataW H)},d ∈ l→x ∈ d.weights P e→x ∈ DataW.weightsAll P e l
 | a :: r,hd,hx=>by
  rw [DataW.weightsAll];rcases List.mem_cons.1 hd with rfl | h
  ·
   exact List.mem_append.2 (Or.inl hx)
  ·
   exact List.mem_append.2 (Or.inr (Uh h hx))
theorem LS.congr {size:Nat}{w:World}{v:Value}{n:Nat}{A B:Nat→Array Value}(h:LS size w v n A)(e:∀ i,i<n→A i=B i):LS size w v n B:=by
 obtain⟨p,cap,h1,h2,h3,h4⟩:=h;refine⟨p,cap,h1,h2,h3,fun h0=>?_⟩;obtain⟨sb,so,e1,hl,hc⟩:=h4 h0;exact⟨sb,so,e1,hl,fun i hi=>by rw [← e i hi]; exact hc i hi⟩
section
variable {H:Type} {enc:TypeId×Value→H} {w:World} {held:Bool}
abbrev Nc (t:TypeId)(d:DataW H):Prop:=∀ x ∈ d.weights Tryz.prog t,x≤reachBytes
theorem Lb {t e:TypeId}{α:Type}[Inhabited α]{size b:Nat}{Ok:Array Value×α→Prop}(ht:Tryz.prog.underlying t=some (.slice e))(hc:Tryz.prog.cellsOf e=size)(hs:0<size)(hby:Tryz.prog.bytesOf e=b)
 (elem:∀ n cs y,cs.length=size→Mc enc w held n e cs y→Nc e y.1→∃ x:α,Ok (cs.toArray,x))
 {n:Nat} {v:Value} {y:DataW H×List MemPlace} (h:Mc enc w held n t [v] y) (hw:Nc t y.1) :
 ∃ ps:List (Array Value×α),LS size w v ps.length (fun k=>(ps.getD k (#[],default)).1)∧(∀ q ∈ ps,Ok q)∧ps.length*b≤reachBytes:=by
 rcases open_slice ht h with⟨h0,h1⟩ | ⟨a,len,cap,m,k,D,Pl,h0,-,hl,hm,hmm,h1,hx⟩
 ·
  simp at h0;subst h0 h1;exact⟨[],⟨none,0,rfl,Nat.le_refl _,by show 0<Xa; decide,fun h=>absurd h (Nat.lt_irrefl 0)⟩,fun q hq=>(by cases hq),(by simp)⟩
 ·
  simp at h0;subst h0 h1;simp at hmm;subst hmm;unfold Nc at hw;simp only [DataW.weights,ht,List.length_map,List.length_range,hby] at hw;have hb0:=hw _ List.mem_cons_self;have each:∀ i,i<len→∃ q:Array Value×α,Ok q∧w.cells? 0 (a.add (i*size)) size=some q.1.toList:=by
   intro i hi;obtain⟨cs',g1,g2⟩:=hx i (by omega);rw [hc] at g1;obtain⟨-,hlen,-⟩:=World.cells?_some g1;obtain⟨x,g3⟩:=elem k cs' _ hlen g2 (fun z hz=>hw z (List.mem_cons.2 (Or.inr (List.mem_append.2 (Or.inl (Uh (List.mem_map.2 ⟨i,List.mem_range.2 hi,rfl⟩) hz))))));exact⟨(cs'.toArray,x),g3,by simpa using g1⟩
  haveI:Inhabited (Array Value×α):=⟨(#[],default)⟩
  obtain⟨f,hf⟩:=choose_lt each;have hlenp:((List.range len).map f).length=len:=by simp
  refine⟨(List.range len).map f,?_,?_,?_⟩
  ·
   rw [hlenp];refine⟨_,_,rfl,hl,Zau (by omega),fun hpos=>?_⟩;obtain⟨sb,so,spot⟩:=a;have g:=World.cells?_some (hf 0 hpos).2;have hcell:=g.2.2 0 hs;have hlt:0<(f 0).1.toList.length:=by rw [g.2.1]; exact hs
   have hsp:spot=none:=by
    rw [List.getElem?_eq_getElem hlt] at hcell;simpa [Addr.add] using World.cell?_spot hcell
   subst hsp;have hbk:sb<w.heap.size:=by
    rw [List.getElem?_eq_getElem hlt] at hcell;have:=World.block_lt_of_cell? w _ hcell;simpa [Addr.add] using this
   refine⟨sb,so,rfl,hbk,fun i hi=>?_⟩;have g:=World.cells?_some (hf i hi).2;have e1:(((List.range len).map f).getD i (#[],default)).1=(f i).1:=by simp [List.getD,hi]
   show w.rangeAt sb (so+i*size) (((List.range len).map f).getD i (#[],default)).1.toList;rw [e1];intro j x hx';have hj:j<size:=by
    have:=(List.getElem?_eq_some_iff.1 hx').1;rw [g.2.1] at this;exact this
   have:=g.2.2 j hj;rw [hx'] at this;rw [Go.WideShapes.add_plain,Go.WideShapes.add_plain] at this;exact this
  ·
   intro q hq;obtain⟨i,hi,rfl⟩:=List.mem_map.1 hq;exact(hf i (List.mem_range.1 hi)).1
  ·
   rw [hlenp];exact Nat.le_trans (Nat.mul_le_mul_right _ (Nat.le_add_right _ _)) hb0
theorem Rw {α β:Type}(ps:List (α×β))(a:α)(b:β)(k:Nat):(ps.map (·.2)).getD k b=(ps.getD k (a,b)).2:=by
 simp only [List.getD,List.getElem?_map];cases ps[k]? <;> rfl
theorem Lh {α:Type}(ps:List α)(d:α)(k:Nat)(h:k<ps.length):ps.getD k d ∈ ps:=by simp [List.getD,h]
theorem Sm {t e:TypeId}(ht:Tryz.prog.underlying t=some (.slice e))(hc:Tryz.prog.cellsOf e=2)(hby:Tryz.prog.bytesOf e=16)
 (elem:∀ n cs y,cs.length=2→Mc enc w held n e cs y→∃ x:Int×Int,cs.toArray=#[.int .i64 x.1,.int .i64 x.2])
 {n:Nat} {v:Value} {y:DataW H×List MemPlace} (h:Mc enc w held n t [v] y) (hw:Nc t y.1):∃ xs:List (Int×Int),LS 2 w v xs.length (fun k=>Yz (xs.getD k (0,0)))∧xs.length*16≤reachBytes:=by
 obtain⟨ps,h1,h2,h3⟩:=Lb (Ok:=fun q:Array Value×(Int×Int)=>q.1=Yz q.2) ht hc (by decide) hby (fun n cs y hl hy _=>by
  obtain⟨x,hx⟩:=elem n cs y hl hy;exact⟨x,hx⟩) h hw
 have hl:(ps.map (·.2)).length=ps.length:=by simp
 refine⟨ps.map (·.2),?_,by rw [hl]; exact h3⟩;rw [hl];exact h1.congr (fun i hi=>by rw [Rw ps #[]]; exact h2 _ (Lh _ _ _ hi))
set_option maxRecDepth 100000 in
theorem Zdp {n:Nat}{v:Value}{y:DataW H×List MemPlace}(h:Mc enc w held n 63 [v] y)(hw:Nc 63 y.1):∃ xs:List (Int×Int),LS 2 w v xs.length (fun k=>Yz (xs.getD k (0,0)))∧xs.length*16≤reachBytes :=
 Sm Tryz.underlying63 Tryz.cellsArgE (by kernel_rfl) (fun n cs y hl hy=>by
  obtain⟨x,⟨hx,-⟩,-⟩:=Iz Tryz.underlying139 rfl rfl rfl rfl rfl hl hy;exact⟨x,hx⟩) h hw
set_option maxRecDepth 100000 in
theorem Zap {n:Nat}{v:Value}{y:DataW H×List MemPlace}(h:Mc enc w held n 57 [v] y)(hw:Nc 57 y.1):∃ xs:List (Int×Int),LS 2 w v xs.length (fun k=>Yz (xs.getD k (0,0)))∧xs.length*16≤reachBytes :=
 Sm Tryz.underlying57 Tryz.cellsParamE (by kernel_rfl) (fun n cs y hl hy=>by
  obtain⟨x,⟨hx,-⟩,-⟩:=Iz Tryz.underlying99 rfl rfl rfl rfl rfl hl hy;exact⟨x,hx⟩) h hw
end
end Go.Proofs.YteddfaconabobaaGreatDoor
namespace Go.Proofs.YteddfaconabobaaGreatDoor
open Go.RowKit
def plC (xs:List (Int×Int)):List Value:=xs.flatMap fun x=>[.int .i64 x.1,.int .i64 x.2]
theorem Zaq (xs:List (Int×Int)):(plC xs).length=xs.length*2:=by
 induction xs with
 | nil=>rfl
 | cons a r ih=>simp only [plC,List.flatMap_cons,List.length_append,List.length_cons,List.length_nil] at ih ⊢; omega
theorem Zev:∀(xs:List (Int×Int)) (k:Nat),k<xs.length→(plC xs)[k*2]?=some (.int .i64 (xs.getD k (0,0)).1)∧(plC xs)[k*2+1]?=some (.int .i64 (xs.getD k (0,0)).2)
 | a :: r,0,_=>⟨rfl,rfl⟩
 | a :: r,k+1,h=>by
  have ih:=Zev r k (by simpa using h);have e:plC (a :: r)=[.int .i64 a.1,.int .i64 a.2]++plC r:=rfl;rw [e];refine⟨?_,?_⟩
  ·
   rw [List.getElem?_append_right (by simp; omega)];rw [show(k+1)*2-[Value.int .i64 a.1,.int .i64 a.2].length=k*2 by simp; omega,ih.1];simp [List.getD]
  ·
   rw [List.getElem?_append_right (by simp; omega)];rw [show(k+1)*2+1-[Value.int .i64 a.1,.int .i64 a.2].length=k*2+1 by simp; omega,ih.2];simp [List.getD]
set_option maxHeartbeats 1000000 in
theorem Zpb (n lo hi:Int)(w:World):Calls Tryz.prog 20 #[.int .i64 n,.int .i64 lo,.int .i64 hi] w fun e w'=>e=.returned (.bool (decide (lo≤n∧n≤hi)))∧w'=w:=by
 by_cases h1:lo≤n
 ·
  by_cases h2:n≤hi
  ·
   have hd:decide (lo≤n∧n≤hi)=true:=by simp; omega
   rw [hd];clear hd;go_enter Tryz.func20,Tryz.ntmps20
   go_wp2;go_ret;exact⟨rfl,rfl⟩
  ·
   have hd:decide (lo≤n∧n≤hi)=false:=by simp; omega
   rw [hd];clear hd;go_enter Tryz.func20,Tryz.ntmps20
   go_wp2;go_ret;exact⟨rfl,rfl⟩
 ·
  have hd:decide (lo≤n∧n≤hi)=false:=by simp; omega
  rw [hd];clear hd;go_enter Tryz.func20,Tryz.ntmps20
  go_wp2;go_ret;exact⟨rfl,rfl⟩
structure Pn (w:World)(b:Nat)(l:List UInt8)(bad:Bool):Prop where
 c0:w.cell? ⟨b,0,none⟩=some (.string ⟨l.toArray⟩)
 c1:w.cell? ⟨b,1,none⟩=some (.bool bad)
 f0:w.frozen? ⟨b,0,none⟩=false
 f1:w.frozen? ⟨b,1,none⟩=false
theorem Zaa (g:Nat)(x:Int)(u:World)(hc:u.cell? ⟨g,0,none⟩=some (.int .u8 (x % 256))):(convert 101 9 (.slice (some ⟨g,0,none⟩) 1 1)).run Tryz.prog u=.ok (.string ⟨#[Zx x]⟩) u :=
 run_convert_bytes_back u 101 9 5 ⟨g,0,none⟩ 1 [Zx x] Tryz.underlying101 Tryz.underlying5 Tryz.underlying9 (fun j hj=>by
  have:j=0:=by simp at hj; exact hj
  subst this;rw [show(⟨g,0,none⟩:Addr).add 0=⟨g,0,none⟩ by unfold Addr.add; simp,hc];have:((Zx x).toNat:Int)=x % 256:=by unfold Zx; simp; omega
  simp [this])
theorem Zkq (l:List UInt8)(y:UInt8):((⟨l.toArray⟩:ByteArray)++⟨#[y]⟩)=⟨(l++[y]).toArray⟩:=by
 apply ByteArray.ext
 simp
theorem Kq {w:World}{b:Nat}{l:List UInt8}{bad:Bool}(h:Pn w b l bad)(t:Bool)(y:UInt8)(X:Obj):Pn (((w.setCell ⟨b,1,none⟩ (.bool t)).setCell ⟨b,0,none⟩ (.string (⟨l.toArray⟩++⟨#[y]⟩))).alloc X).drew b (l++[y]) t∧w.grownBy (((w.setCell ⟨b,1,none⟩ (.bool t)).setCell ⟨b,0,none⟩ (.string (⟨l.toArray⟩++⟨#[y]⟩))).alloc X).drew (some b):=by
 have hbl:b<w.heap.size:=World.block_lt_of_cell? w _ h.c0;rw [Zkq];have e1:(w.setCell ⟨b,1,none⟩ (.bool t)).cell? ⟨b,0,none⟩=some (.string ⟨l.toArray⟩):=(World.cell?_setCell_other _ _ _ _ (by simp)).trans h.c0;have e2:(w.setCell ⟨b,1,none⟩ (.bool t)).cell? ⟨b,1,none⟩=some (.bool t):=World.cell?_setCell_same _ _ _ h.c1;refine⟨⟨?_,?_,?_,?_⟩,?_⟩
 ·
  exact(World.cell?_alloc_past _ _ _ (by simpa using hbl)).trans (World.cell?_setCell_same _ _ _ e1)
 ·
  exact(World.cell?_alloc_past _ _ _ (by simpa using hbl)).trans ((World.cell?_setCell_other _ _ _ _ (by simp)).trans e2)
 ·
  exact(World.frozen?_alloc_past _ _ _ (by simpa using hbl)).trans (by rw [World.frozen?_setCell,World.frozen?_setCell]; exact h.f0)
 ·
  exact(World.frozen?_alloc_past _ _ _ (by simpa using hbl)).trans (by rw [World.frozen?_setCell,World.frozen?_setCell]; exact h.f1)
 ·
  have q:=(Below.refl ((w.setCell ⟨b,1,none⟩ (.bool t)).setCell ⟨b,0,none⟩ (.string ⟨(l++[y]).toArray⟩)).heap.size ((w.setCell ⟨b,1,none⟩ (.bool t)).setCell ⟨b,0,none⟩ (.string ⟨(l++[y]).toArray⟩))).alloc (Nat.le_refl _) X;refine⟨rfl,rfl,rfl,?_,fun k hk hne=>?_⟩
  ·
   exact Nat.le_trans (by simp) q.size
  ·
   have hkb:k≠b:=fun e=>hne (by rw [e]);refine(q.block k (by simpa using hk)).trans ?_;exact(heap_setCell_other _ ⟨b,0,none⟩ k _ hkb).trans (heap_setCell_other _ ⟨b,1,none⟩ k _ hkb)
set_option maxHeartbeats 2000000 in
set_option maxRecDepth 100000 in
theorem Jk (b:Nat)(l:List UInt8)(bad:Bool)(x lo hi:Int)(w:World)(h:Pn w b l bad)(hl:l.length<9223372036854775807) :
 Calls Tryz.prog 69 #[.pointer (some ⟨b,0,none⟩),.int .i64 x,.int .i64 lo,.int .i64 hi] w fun e w'=>e=.returned (.tuple #[])∧Pn w' b (l++[Zx x]) (bad||!decide (lo≤x∧x≤hi))∧w.grownBy w' (some b):=by
 have c0:=h.c0;have c1:=h.c1;have f0:=h.f0;have f1:=h.f1;have hbl:b<w.heap.size:=World.block_lt_of_cell? w _ c0;cases bad with
 | true =>
  go_enter Tryz.func69,Tryz.ntmps69
  go_wp2_with fail
  have HCV:=Zg (fun u h=>Zaa w.heap.size x u h);have hcv:=Zb HCV;have hcw:∀ u:World,u.cell? ⟨w.heap.size,0,none⟩=some (.int .u8 (IntKind.u8.wrap x))→(convert 101 9 (.slice (some ⟨w.heap.size,0,none⟩) 1 1)).run Tryz.prog u=.ok (.string ⟨#[Zx x]⟩) u:=fun u h=>Zaa w.heap.size x u h;have hnl:¬ 9223372036854775807<l.length+1:=by omega
  have cA:∀ X,((w.setCell ⟨b,1,none⟩ (.bool true)).alloc X).cell? ⟨b,0,none⟩=some (.string ⟨l.toArray⟩):=fun X=>(World.cell?_alloc_past _ _ _ (by simpa using hbl)).trans ((World.cell?_setCell_other _ _ _ _ (by simp)).trans c0);have fA:∀ X,((w.setCell ⟨b,1,none⟩ (.bool true)).alloc X).frozen? ⟨b,0,none⟩=false:=fun X=>(World.frozen?_alloc_past _ _ _ (by simpa using hbl)).trans (by rw [World.frozen?_setCell]; exact f0);go_region
  refine bodyPost_end (results_none (fn:=Tryz.f69) rfl _ _ _) rfl ?_;exact⟨rfl,Kq h true (Zx x) _⟩
 | false =>
  have HIN:=Zg (Zpb x lo hi w);cases hd:decide (lo≤x∧x≤hi) with
  | true =>
   rw [hd] at HIN;go_enter Tryz.func69,Tryz.ntmps69
   go_wp2_with fail
   refine(Zb HIN).mono ?_;rintro e wx ⟨rfl,hwx⟩;subst wx;go_wp2_with fail
   have HCV:=Zg (fun u h=>Zaa w.heap.size x u h);have hcv:=Zb HCV;have hcw:∀ u:World,u.cell? ⟨w.heap.size,0,none⟩=some (.int .u8 (IntKind.u8.wrap x))→(convert 101 9 (.slice (some ⟨w.heap.size,0,none⟩) 1 1)).run Tryz.prog u=.ok (.string ⟨#[Zx x]⟩) u:=fun u h=>Zaa w.heap.size x u h;have hnl:¬ 9223372036854775807<l.length+1:=by omega
   have cA:∀ X,((w.setCell ⟨b,1,none⟩ (.bool false)).alloc X).cell? ⟨b,0,none⟩=some (.string ⟨l.toArray⟩):=fun X=>(World.cell?_alloc_past _ _ _ (by simpa using hbl)).trans ((World.cell?_setCell_other _ _ _ _ (by simp)).trans c0);have fA:∀ X,((w.setCell ⟨b,1,none⟩ (.bool false)).alloc X).frozen? ⟨b,0,none⟩=false:=fun X=>(World.frozen?_alloc_past _ _ _ (by simpa using hbl)).trans (by rw [World.frozen?_setCell]; exact f0);go_region
   refine bodyPost_end (results_none (fn:=Tryz.f69) rfl _ _ _) rfl ?_;exact⟨rfl,Kq h false (Zx x) _⟩
  | false =>
   rw [hd] at HIN;go_enter Tryz.func69,Tryz.ntmps69
   go_wp2_with fail
   refine(Zb HIN).mono ?_;rintro e wx ⟨rfl,hwx⟩;subst wx;go_wp2_with fail
   have HCV:=Zg (fun u h=>Zaa w.heap.size x u h);have hcv:=Zb HCV;have hcw:∀ u:World,u.cell? ⟨w.heap.size,0,none⟩=some (.int .u8 (IntKind.u8.wrap x))→(convert 101 9 (.slice (some ⟨w.heap.size,0,none⟩) 1 1)).run Tryz.prog u=.ok (.string ⟨#[Zx x]⟩) u:=fun u h=>Zaa w.heap.size x u h;have hnl:¬ 9223372036854775807<l.length+1:=by omega
   have cA:∀ X,((w.setCell ⟨b,1,none⟩ (.bool true)).alloc X).cell? ⟨b,0,none⟩=some (.string ⟨l.toArray⟩):=fun X=>(World.cell?_alloc_past _ _ _ (by simpa using hbl)).trans ((World.cell?_setCell_other _ _ _ _ (by simp)).trans c0);have fA:∀ X,((w.setCell ⟨b,1,none⟩ (.bool true)).alloc X).frozen? ⟨b,0,none⟩=false:=fun X=>(World.frozen?_alloc_past _ _ _ (by simpa using hbl)).trans (by rw [World.frozen?_setCell]; exact f0);go_region
   refine bodyPost_end (results_none (fn:=Tryz.f69) rfl _ _ _) rfl ?_;exact⟨rfl,Kq h true (Zx x) _⟩
theorem Jq (n lo hi:Int)(w:World):Calls Tryz.prog 20 #[.int .i64 n,.int .i64 lo,.int .i64 hi] w fun e w'=>e=.returned (.bool (Yi n lo hi))∧w'=w:=Zpb n lo hi w
set_option maxHeartbeats 1000000 in
set_option maxRecDepth 100000 in
theorem Zhr (v:Value)(ns:List Int)(r:Int)(w:World)(h:Li w v ns):Calls Tryz.prog 49 #[.agg #[v,.int .i64 r]] w fun e w'=>e=.returned (.bool (Je (ns,r)))∧Below w.heap.size w w':=by
 have hx:=Yj w (.cells #[v,.int .i64 r] 56 (0,0));obtain⟨p,cap,rfl,hcap,hlt,hc⟩:=h.below hx.2.1;have hlt:ns.length<9223372036854775808:=hlt;have HC:=J hc;have HX:=J hx;clear hc hx h;go_enter Tryz.func49,Tryz.ntmps49
 go_wp2_with fail
 generalize World.alloc w _=W at HC HX ⊢;go_loopw [8] (fun j w'=>∃ k:Nat,j=.int .i64 k∧k≤ns.length∧w'=W∧∀ q,q<k→Yi (ns.getD q 0) 0 8=true) (fun j _=>ns.length-(intOf j).toNat)
 case atStart=>exact⟨0,rfl,by omega,rfl,fun q hq=>by omega⟩
 case round =>
  obtain⟨k,rfl,hk,rfl,hno⟩:=hrel;have HN:=J hno;clear hno;have r0:=(cR (G HX).1 0);have r1:=(cR (G HX).1 1);by_cases hk2:k<ns.length
  ·
   obtain⟨sb,so,rfl,hcc⟩:=G HC (by omega);have c:=hcc k hk2;have HW:=J (Jq (ns.getD k 0) 0 8 wr);have HBAD:=J (fun hb:Yi (ns.getD k 0) 0 8=false=>show Je (ns,r)=false by have:Jd ns 0 8=false:=Ya hk2 hb; unfold Je; rw [this]; simp);have HNX:=J (fun hb:Yi (ns.getD k 0) 0 8=true=>Zq (q:=fun q=>Yi (ns.getD q 0) 0 8) (G HN) hb);clear hcc HC;generalize Yi (ns.getD k 0) 0 8=yes at HW HBAD HNX;generalize ns.getD k 0=y at c HW;go_wp2_with fail
   refine(G HW).mono ?_;rintro e w2 ⟨rfl,h2⟩;subst w2;cases yes with
   | false =>
    have hx:=J (G HBAD rfl);go_wp2;go_ret;exact⟨by rw [G hx]; rfl,(G HX).2.1⟩
   | true =>
    have hx:=J (G HNX rfl);go_wp2;go_roundw
    case rel=>exact⟨k+1,by go_num,by omega,trivial,G hx⟩
    case measure=>simp [intOf]; omega
  ·
   have HT:=J (show Jd ns 0 8=true from Yn (fun q hq=>G HN q (by omega)));obtain rfl:k=ns.length:=by omega
   by_cases h8:ns.length≤8
   ·
    have HS:=J (show Je (ns,r)=Yi r 0 4 by unfold Je; rw [G HT]; simp [h8]);go_wp2_with fail
    refine(Jq r 0 4 _).mono ?_;rintro e w2 ⟨rfl,h2⟩;subst w2;go_wp2;go_ret;exact⟨by rw [G HS]; rfl,(G HX).2.1⟩
   ·
    have HS:=J (show Je (ns,r)=false by unfold Je; simp [h8]);go_wp2;go_ret;exact⟨by rw [G HS]; rfl,(G HX).2.1⟩
set_option maxHeartbeats 2000000 in
set_option maxRecDepth 100000 in
theorem Zki (p:Zl)(fv ev:Value)(A E:Nat→Array Value)(w:World)(hP:Lm w fv ev p A E):Calls Tryz.prog 33 #[ev] w fun e w'=>e=.returned (.bool (De p.externs.length fun k=>Je (p.externs.getD k ([],0))))∧Below w.heap.size w w':=by
 have HP:=J hP;have hl5:p.externs.length<9223372036854775808:=by obtain⟨_,_,_,_,h,_⟩:=hP.es; exact h
 obtain⟨pe,ce,rfl⟩:=hP.es.shape;clear hP;go_enter Tryz.func33,Tryz.ntmps33
 go_wp2_with fail
 go_loopw [7] (fun j w'=>∃ k:Nat,j=.int .i64 k∧k≤p.externs.length∧Below w.heap.size w w'∧∀ q,q<k→Je (p.externs.getD q ([],0))=true) (fun j _=>p.externs.length-(intOf j).toNat)
 case atStart=>exact⟨0,rfl,by omega,Below.refl _ _,fun q hq=>by omega⟩
 case round =>
  obtain⟨k,rfl,hk,hbw,hno⟩:=hrel;have HNO:=J hno;clear hno;have hws:=hbw.size;by_cases hk2:k<p.externs.length
  ·
   obtain⟨p',cap',he,-,hcc⟩:=(G HP).es.twos;injection he with e1 e2 e3;subst e1 e3;obtain⟨sb,so,rfl,hslt,hc⟩:=hcc (by omega);have hsc:=(G HP).eeach k hk2;have hgd:p.externs[k]=p.externs.getD k ([],0):=by simp [List.getD,hk2]
   rw [hgd] at hsc;have HBAD:=J (fun hb:Je (p.externs.getD k ([],0))=false=>show(De p.externs.length fun k=>Je (p.externs.getD k ([],0)))=false from Ya hk2 hb);have HNX:=J (fun hb:Je (p.externs.getD k ([],0))=true=>Zq (q:=fun q=>Je (p.externs.getD q ([],0))) (G HNO) hb);generalize p.externs.getD k ([],0)=s at hsc HBAD HNX;obtain⟨lv,hE,hli⟩:=hsc;have HLI:=J hli;obtain⟨pl,cl,rfl⟩:=hli.shape;have hck:=hc k hk2;rw [hE] at hck;have k0:=(hbw.cell hslt).trans (hck 0 _ rfl);have k1:=(hbw.cell hslt).trans (hck 1 _ rfl);rw [Nat.add_zero] at k0;have HBW:=J hbw;clear hck hc hcc hE hgd hli hbw e2;go_wp2_with fail
   have hy:=Yj wr (.cells #[.slice pl s.1.length cl,.int .i64 s.2] 56 (0,0));have hbU:=Za (G HBW) hy.2.1 hws;refine(Zhr _ s.1 s.2 _ ((G HLI).below hbU)).mono ?_;rintro e w3 ⟨rfl,hb3⟩;have HU:=J (Za hbU hb3 hbU.size);clear hb3 hbU hy k0 k1;rw [show((s.1,s.2):List Int×Int)=s from rfl];cases hsb:Je s with
   | false =>
    have hz:=J (G HBAD hsb);clear hsb;go_wp2;go_ret;exact⟨by rw [G hz]; rfl,G HU⟩
   | true =>
    have hz:=J (G HNX hsb);clear hsb;go_wp2;go_roundw
    case rel=>exact⟨k+1,by go_num,by omega,G HU,G hz⟩
    case measure=>simp [intOf]; omega
  ·
   have hz:=J (show(De p.externs.length fun k=>Je (p.externs.getD k ([],0)))=true from Yn (fun q hq=>G HNO q (by omega)));obtain rfl:k=p.externs.length:=by omega
   have HBW:=J hbw;clear hbw;go_wp2;go_ret;exact⟨by rw [G hz]; rfl,G HBW⟩
set_option maxHeartbeats 2000000 in
set_option maxRecDepth 100000 in
theorem Gi (f:Zn)(pv hv sv bv lv:Value)(r:Int)(ls:List Int)(w:World)(hh:∃ p c,hv=.slice p f.homes.length c)(hhl:f.homes.length<9223372036854775808)(h:Li w lv ls):Calls Tryz.prog 52 #[.agg #[pv,.int .i64 r,hv,sv,bv],lv] w fun e w'=>e=.returned (.bool (Xg f ls))∧Below w.heap.size w w':=by
 obtain⟨ph,ch,rfl⟩:=hh;have hx:=Yj w (.cells #[pv,.int .i64 r,.slice ph f.homes.length ch,sv,bv] 60 (0,0));obtain⟨p,cap,rfl,hcap,hlt,hc⟩:=h.below hx.2.1;have hlt:ls.length<9223372036854775808:=hlt;have HC:=J hc;have HX:=J hx;clear hc hx h;go_enter Tryz.func52,Tryz.ntmps52
 go_wp2_with fail
 generalize World.alloc w _=W at HC HX ⊢;go_loopw [9] (fun j w'=>∃ k:Nat,j=.int .i64 k∧k≤ls.length∧w'=W∧∀ q,q<k→Zr f (ls.getD q 0)=true) (fun j _=>ls.length-(intOf j).toNat)
 case atStart=>exact⟨0,rfl,by omega,rfl,fun q hq=>by omega⟩
 case round =>
  obtain⟨k,rfl,hk,rfl,hno⟩:=hrel;have HN:=J hno;clear hno;by_cases hk2:k<ls.length
  ·
   obtain⟨sb,so,rfl,hcc⟩:=G HC (by omega);have c:=hcc k hk2;have r2:=(cR (G HX).1 2);have HW:=J (Jq (ls.getD k 0) 0 (f.homes.length-1) wr);have HBAD:=J (fun hb:Yi (ls.getD k 0) 0 (f.homes.length-1)=false=>show Xg f ls=false from Ya hk2 hb);have HNX:=J (fun hb:Yi (ls.getD k 0) 0 (f.homes.length-1)=true=>Zq (q:=fun q=>Zr f (ls.getD q 0)) (G HN) hb);clear hcc HC;generalize Yi (ls.getD k 0) 0 (f.homes.length-1)=yes at HW HBAD HNX;generalize ls.getD k 0=y at c HW;go_wp2_with fail
   refine(G HW).mono ?_;rintro e w2 ⟨rfl,h2⟩;subst w2;cases yes with
   | false =>
    have hx:=J (G HBAD rfl);go_wp2;go_ret;exact⟨by rw [G hx]; rfl,(G HX).2.1⟩
   | true =>
    have hx:=J (G HNX rfl);go_wp2;go_roundw
    case rel=>exact⟨k+1,by go_num,by omega,trivial,G hx⟩
    case measure=>simp [intOf]; omega
  ·
   have HT:=J (show Xg f ls=true from Yn (fun q hq=>G HN q (by omega)));obtain rfl:k=ls.length:=by omega
   go_wp2;go_ret;exact⟨by rw [G HT]; rfl,(G HX).2.1⟩
set_option maxRecDepth 100000 in
theorem Kj (f:Zn)(pv hv sv:Value)(q:Option Addr)(c:Nat)(r n:Int)(w:World)(hl:f.blocks.length<9223372036854775808):Calls Tryz.prog 53 #[.agg #[pv,.int .i64 r,hv,sv,.slice q f.blocks.length c],.int .i64 n] w fun e w'=>e=.returned (.bool (Yi n 0 (f.blocks.length-1)))∧Below w.heap.size w w':=by
 have HX:=J (Yj w (.cells #[pv,.int .i64 r,hv,sv,.slice q f.blocks.length c] 60 (0,0)));go_enter Tryz.func53,Tryz.ntmps53
 go_wp2_with fail
 refine(Jq n 0 (f.blocks.length-1) _).mono ?_;rintro e w2 ⟨rfl,h2⟩;subst w2;go_wp2;go_ret;exact⟨rfl,(G HX).2.1⟩
abbrev Pr:=List UInt8×Bool
def Yb (lo hi x:Int):Pr:=([Zx x],!decide (lo≤x∧x≤hi))
def Yg (a c:Pr):Pr:=(a.1++c.1,a.2||c.2)
def Yc {α:Type}(one:α→Pr):List α→Pr
 | []=>([],false)
 | x :: xs=>Yg (one x) (Yc one xs)
def Sv {α:Type}(lo hi:Int)(one:α→Pr)(xs:List α):Pr:=Yg (Yb lo hi xs.length) (Yc one xs)
theorem Nl {α:Type}(one:α→Pr):∀(xs:List α) (x:α),Yc one (xs++[x])=Yg (Yc one xs) (one x)
 | [],x=>by simp [Yc,Yg]
 | y :: xs,x=>by
  simp only [List.cons_append,Yc,Nl one xs x,Yg,List.append_assoc,Bool.or_assoc]
def Zpy (b:Nat)(l:List UInt8)(bad:Bool)(r:Pr)(w:World)(e:Ending)(w':World):Prop:=e=.returned (.tuple #[])∧Pn w' b (l++r.1) (bad||r.2)∧w.grownBy w' (some b)
theorem Dm.gb {w w':World}{b:Nat}{v:Value}{ns:List Int}(h:Dm w b v ns)(hw:w.grownBy w' (some b))(hb:b<w.heap.size):Dm w' b v ns:=by
 rcases h with h | ⟨sb,so,cap,h1,h2,h3⟩
 ·
  exact Or.inl h
 ·
  exact Or.inr ⟨sb,so,cap,h1,h2,fun i hi=>(World.cell?_of_block (hw.block sb (by omega) (by intro e; injection e with e; omega))).trans (h3 i hi)⟩
theorem Zab {a c d:World}{row:Option Nat}(h:a.grownBy c row)(k:c.grownBy d row):a.grownBy d row :=
 ⟨k.os.trans h.os,k.tape.trans h.tape,k.output.trans h.output,Nat.le_trans h.size k.size,fun q hq hr=>(k.block q (Nat.lt_of_lt_of_le hq h.size) hr).trans (h.block q hq hr)⟩
theorem Nw (w:World)(o:Obj)(row:Option Nat):w.grownBy (w.alloc o) row :=
 have q:=(Below.refl w.heap.size w).alloc (Nat.le_refl _) o;⟨q.os,q.tape,q.output,q.size,fun k hk _=>q.block k hk⟩
theorem Pn.lt {w:World}{b:Nat}{l:List UInt8}{bad:Bool}(h:Pn w b l bad):b<w.heap.size:=World.block_lt_of_cell? w _ h.c0
theorem Pn.alloc {w:World}{b:Nat}{l:List UInt8}{bad:Bool}(h:Pn w b l bad)(o:Obj):Pn (w.alloc o) b l bad :=
 have e:=((Below.refl w.heap.size w).alloc (Nat.le_refl _) o).block b h.lt;⟨(World.cell?_of_block e).trans h.c0,(World.cell?_of_block e).trans h.c1,(World.frozen?_of_block (a:=⟨b,0,none⟩) e).trans h.f0,(World.frozen?_of_block (a:=⟨b,1,none⟩) e).trans h.f1⟩
def Jl:List (Array UInt8):=[#[63],#[68,78],#[68,65],#[68,65,66],#[68,65,66],#[68,65,66],#[68,65,66],#[68,65,66],#[68,65,66],#[68,65,66],#[68,65,66,110],#[68,65,66,110],#[70,82,79],#[70,82,79],#[65],#[68,65,66],#[79],#[70,82],#[78]]
def Me (op:Int):ByteArray:=if 0≤op then ⟨Jl.getD op.toNat #[63]⟩ else ⟨#[63]⟩
set_option maxHeartbeats 4000000 in
set_option maxRecDepth 100000 in
theorem Ra (op:Int)(w:World):Calls Tryz.prog 50 #[.int .i64 op] w fun e w'=>e=.returned (.string (Me op))∧w'=w:=by
 by_cases hop:1≤op∧op≤18
 ·
  have hs:op=1∨op=2∨op=3∨op=4∨op=5∨op=6∨op=7∨op=8∨op=9∨op=10∨op=11∨op=12∨op=13∨op=14∨op=15∨op=16∨op=17∨op=18:=by omega
  rcases hs with rfl | rfl | rfl | rfl | rfl | rfl | rfl | rfl | rfl | rfl | rfl | rfl | rfl | rfl | rfl | rfl | rfl | rfl;all_goals
   go_enter Tryz.func50,Tryz.ntmps50
   go_wp2;go_ret;exact⟨rfl,rfl⟩
 ·
  have HR:=Zg (show Me op=⟨#[63]⟩ by
   unfold Me;split
   ·
    rename_i h0;by_cases h1:op=0
    ·
     subst h1; rfl
    ·
     have h2:19≤op.toNat:=by omega
     have h3:Jl.length≤op.toNat:=h2;simp [List.getD,List.getElem?_eq_none h3]
   ·
    rfl)
  have e1:(op==1)=false:=by simp; omega
  have e2:(op==2)=false:=by simp; omega
  have e10:(op==10)=false:=by simp; omega
  have e11:(op==11)=false:=by simp; omega
  have e12:(op==12)=false:=by simp; omega
  have e13:(op==13)=false:=by simp; omega
  have e14:(op==14)=false:=by simp; omega
  have e15:(op==15)=false:=by simp; omega
  have e16:(op==16)=false:=by simp; omega
  have e17:(op==17)=false:=by simp; omega
  have e18:(op==18)=false:=by simp; omega
  have hb:(decide (3≤op)&&decide (op≤9))=false:=by simp; omega
  go_enter Tryz.func50,Tryz.ntmps50
  go_wp2;all_goals
   go_ret;exact⟨by rw [Zb HR]; rfl,rfl⟩
def Ul (d a bb n f:Int)(na no:Nat):Bool:=d==0&&a==0&&bb==0&&n==0&&f==0&&(na:Int)==0&&(no:Int)==0
set_option maxHeartbeats 4000000 in
set_option maxRecDepth 100000 in
theorem Zgj (op d a bb n f:Int)(pa po:Option Addr)(na no ca co:Nat)(w:World):Calls Tryz.prog 70 #[.agg #[.int .i64 op,.int .i64 d,.int .i64 a,.int .i64 bb,.int .u64 n,.int .i64 f,.slice pa na ca,.slice po no co]] w fun e w'=>e=.returned (.bool (Ul d a bb n f na no))∧Below w.heap.size w w':=by
 unfold Ul;go_enter Tryz.func70,Tryz.ntmps70
 go_wp2;all_goals
  go_ret;refine⟨?_,by go_grown⟩;simp_all
def Gw (p:Int×Int):Pr:=Yg (Yb 0 8 p.1) (Yb 0 255 p.2)
def Ys (i:Zw)(c:UInt8):Pr :=
 if c=68 then Yb 0 255 i.d else if c=65 then Yb 0 255 i.a else if c=66 then Yb 0 255 i.bb
 else if c=110 then ([Zx i.n],decide (255<i.n)) else if c=78 then (opB i.n 8,false)
 else if c=70 then Yb 0 255 i.f else if c=82 then Sv 0 8 Gw i.args else if c=79 then Sv 0 4 (Yb 0 255) i.outs else ([],false)
def zap (ls:List UInt8)(c:UInt8)(x:Int):Int:=if ls.contains c then 0 else x
def Dn (ls:List UInt8)(x:Int):Int:=if ls.contains 110||ls.contains 78 then 0 else x
def Sw (ls:List UInt8)(c:UInt8)(x:Nat):Nat:=if ls.contains c then 0 else x
def Ry (ls:List UInt8)(c:UInt8)(v:Value):Value:=if ls.contains c then .slice none 0 0 else v
def Xo (i:Zw)(av ov:Value)(ls:List UInt8):Array Value:=#[.int .i64 0,.int .i64 (zap ls 68 i.d),.int .i64 (zap ls 65 i.a),.int .i64 (zap ls 66 i.bb),.int .u64 (Dn ls i.n),.int .i64 (zap ls 70 i.f),Ry ls 82 av,Ry ls 79 ov]
theorem Kr (ls:List UInt8)(c:UInt8)(p:Option Addr)(n k:Nat):∃ p' k',Ry ls c (.slice p n k)=.slice p' (Sw ls c n) k':=by
 unfold Ry Sw;cases ls.contains c
 ·
  exact⟨p,k,rfl⟩
 ·
  exact⟨none,0,rfl⟩
def Zfa (i:Zw)(ls:List UInt8):Bool:=Ul (zap ls 68 i.d) (zap ls 65 i.a) (zap ls 66 i.bb) (Dn ls i.n) (zap ls 70 i.f) (Sw ls 82 i.args.length) (Sw ls 79 i.outs.length)
def Zu (op:Int):List UInt8:=(Me op).data.toList
def Ms (i:Zw):Pr:=Yg (Yb 1 18 i.op) (Yg (Yc (Ys i) (Zu i.op)) ([],!Zfa i (Zu i.op)))
theorem Zkr (i:Zw)(av ov:Value)(ls:List UInt8):Xo i av ov (ls++[68])=(Xo i av ov ls).setIfInBounds 1 (.int .i64 0):=by
 simp [Xo,zap,Dn,Ry]
theorem Zks (i:Zw)(av ov:Value)(ls:List UInt8):Xo i av ov (ls++[65])=(Xo i av ov ls).setIfInBounds 2 (.int .i64 0):=by
 simp [Xo,zap,Dn,Ry]
theorem Zkt (i:Zw)(av ov:Value)(ls:List UInt8):Xo i av ov (ls++[66])=(Xo i av ov ls).setIfInBounds 3 (.int .i64 0):=by
 simp [Xo,zap,Dn,Ry]
theorem Ks (i:Zw)(av ov:Value)(ls:List UInt8):Xo i av ov (ls++[110])=(Xo i av ov ls).setIfInBounds 4 (.int .u64 0):=by
 simp [Xo,zap,Dn,Ry]
theorem Zku (i:Zw)(av ov:Value)(ls:List UInt8):Xo i av ov (ls++[78])=(Xo i av ov ls).setIfInBounds 4 (.int .u64 0):=by
 simp [Xo,zap,Dn,Ry]
theorem Zkv (i:Zw)(av ov:Value)(ls:List UInt8):Xo i av ov (ls++[70])=(Xo i av ov ls).setIfInBounds 5 (.int .i64 0):=by
 simp [Xo,zap,Dn,Ry]
theorem Zkw (i:Zw)(av ov:Value)(ls:List UInt8):Xo i av ov (ls++[82])=(Xo i av ov ls).setIfInBounds 6 (.slice none 0 0):=by
 simp [Xo,zap,Dn,Ry]
theorem Zkx (i:Zw)(av ov:Value)(ls:List UInt8):Xo i av ov (ls++[79])=(Xo i av ov ls).setIfInBounds 7 (.slice none 0 0):=by
 simp [Xo,zap,Dn,Ry]
theorem Zky (i:Zw)(av ov:Value)(ls:List UInt8):Xo i av ov (ls++[63])=Xo i av ov ls:=by
 simp [Xo,zap,Dn,Ry]
theorem Dh {α:Type}(one:α→Pr):∀(xs ys:List α),Yc one (xs++ys)=Yg (Yc one xs) (Yc one ys)
 | [],ys=>by simp [Yc,Yg]
 | x :: xs,ys=>by
  simp only [List.cons_append,Yc,Dh one xs ys,Yg,List.append_assoc,Bool.or_assoc]
theorem Mf {α:Type}(one:α→Pr)(xs:List α)(q:Nat):(Yc one (xs.take q)).1.length≤(Yc one xs).1.length:=by
 have h:Yc one xs=Yg (Yc one (xs.take q)) (Yc one (xs.drop q)):=by rw [← Dh,List.take_append_drop]
 rw [h];simp [Yg]
theorem Gx (op:Int):∀ c ∈ Zu op,c=63∨c=68∨c=65∨c=66∨c=110∨c=78∨c=70∨c=82∨c=79:=by
 unfold Zu Me;split
 ·
  rename_i h0;by_cases h:op.toNat<19
  ·
   generalize op.toNat=k at h;have:∀ k,k<19→∀ c ∈ (Jl.getD k #[63]).toList,c=63∨c=68∨c=65∨c=66∨c=110∨c=78∨c=70∨c=82∨c=79:=by decide
   exact this k h
  ·
   have h3:Jl.length≤op.toNat:=by simp [Jl]; omega
   intro c hc;simp [List.getD,List.getElem?_eq_none h3] at hc;exact Or.inl hc
 ·
  intro c hc;simp at hc;exact Or.inl hc
theorem Zfb (i:Zw):Ys i 68=Yb 0 255 i.d:=rfl
theorem Zfc (i:Zw):Ys i 65=Yb 0 255 i.a:=rfl
theorem Zfd (i:Zw):Ys i 66=Yb 0 255 i.bb:=rfl
theorem Nx (i:Zw):Ys i 110=([Zx i.n],decide (255<i.n)):=rfl
theorem Zfe (i:Zw):Ys i 78=(opB i.n 8,false):=rfl
theorem Zff (i:Zw):Ys i 70=Yb 0 255 i.f:=rfl
theorem Zfg (i:Zw):Ys i 82=Sv 0 8 Gw i.args:=rfl
theorem Zfh (i:Zw):Ys i 79=Sv 0 4 (Yb 0 255) i.outs:=rfl
theorem Zkz (i:Zw):Ys i 63=([],false):=rfl
end Go.Proofs.YteddfaconabobaaGreatDoor
