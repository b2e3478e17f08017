import Derived.Test.YtkenknfgeoecbaaGreatDoorInI
import Derived.Test.YtkenknfgeoecbaaGreatDoorJ29
namespace Go.Proofs.YtkenknfgeoecbaaGreatDoor
open Go.RowKit
def spL (l:List (Int×Int)):List (Int×Int):=(l.filter fun p=>decide (p.1<0)).map fun p=>(p.2,p.2+8)
def rgL (l:List (Int×Int)):List Int:=(l.filter fun p=>!decide (p.1<0)).map fun p=>p.1
def upS (c:Int)(m:Nat):List (Int×Int):=(List.range m).map fun i:Nat=>(c+8*(i:Int),c+8*(i:Int)+8)
structure ApS (l:List (Int×Int)):Prop where
 one:∀ a ∈ l,0<=a.1∧a.1<=a.2∧a.1 % 8=0
 two:l.Pairwise fun a b=>a.2<=b.1
theorem Zhh (a b:List (Int×Int)):spL (a++b)=spL a++spL b:=by simp [spL]
theorem Zhi (a b:List (Int×Int)):rgL (a++b)=rgL a++rgL b:=by simp [rgL]
theorem Zpg (c d:Int)(m n:Nat)(h:d=c+8*m):upS c m++upS d n=upS c (m+n):=by
 subst h;unfold upS;rw [List.range_add,List.map_append,List.map_map];congr 1
 apply List.map_congr_left
 intro i _;simp only [Function.comp,Prod.mk.injEq];omega
theorem Yfa (c:Int)(m:Nat)(h0:0<=c)(h8:c % 8=0):ApS (upS c m):=by
 refine⟨fun a ha=>?_,?_⟩
 ·unfold upS at ha;simp only [List.mem_map,List.mem_range] at ha;obtain⟨i,_,rfl⟩:=ha;simp only;omega
 ·unfold upS;rw [List.pairwise_map];exact(List.pairwise_lt_range).imp fun h=>by simp only; omega
theorem Zwc (c:Int)(m:Nat):∀ a ∈ upS c m,c<=a.1∧a.2<=c+8*m:=fun a ha=>by
 unfold upS at ha;simp only [List.mem_map,List.mem_range] at ha;obtain⟨i,hi,rfl⟩:=ha;simp only;omega
theorem Zph {f:Nat->Int×Int}{n:Nat}(h:∀ i,i<n->¬ (f i).1<0):spL ((List.range n).map f)=[]∧rgL ((List.range n).map f)=(List.range n).map fun i=>(f i).1:=by
 have e:∀ p ∈ (List.range n).map f,¬ p.1<0:=fun p hp=>by
  simp only [List.mem_map,List.mem_range] at hp;obtain⟨i,hi,rfl⟩:=hp;exact h i hi
 unfold spL rgL;rw [List.filter_eq_nil_iff.2 (fun p hp=>by simpa using e p hp),List.filter_eq_self.2 (fun p hp=>by simpa using e p hp),List.map_map];exact⟨rfl,rfl⟩
theorem Zjz {f:Nat->Int×Int}{n:Nat}{c:Int}(h:∀ i,i<n->f i=(-1,c+8*(i:Int))):spL ((List.range n).map f)=upS c n∧rgL ((List.range n).map f)=[]:=by
 have e:∀ p ∈ (List.range n).map f,p.1<0:=fun p hp=>by
  simp only [List.mem_map,List.mem_range] at hp;obtain⟨i,hi,rfl⟩:=hp;rw [h i hi];exact(show(-1:Int)<0 by decide)
 have e1:((List.range n).map f).filter (fun p=>decide (p.1<0))=(List.range n).map f:=List.filter_eq_self.2 (fun p hp=>by simpa using e p hp);have e2:((List.range n).map f).filter (fun p=>!decide (p.1<0))=[]:=List.filter_eq_nil_iff.2 (fun p hp=>by simpa using e p hp);unfold spL rgL;rw [e1,e2,List.map_map];refine⟨?_,rfl⟩;unfold upS;apply List.map_congr_left
 intro i hi;simp only [Function.comp,h i (List.mem_range.1 hi)]
theorem Zdv {l:List Int}{c:Int}(h:Xz l c=true){i:Nat}(hi:i<l.length):0<=l.getD i 0∧l.getD i 0 ∉ l.take i:=by unfold Xz at h;rw [List.all_eq_true] at h;have h2:=h i (List.mem_range.2 hi);unfold Zfb at h2;have h3:=of_decide_eq_true h2;exact⟨h3.1,h3.2.2⟩
theorem Zwd {l:List Int}{c:Int}(h:Xz l c=true){i j:Nat}(hij:i<j)(hj:j<l.length):l.getD i 0≠l.getD j 0:=fun e=>by
 apply (Zdv h hj).2
 rw [← e];have hi:i<(l.take j).length:=by simp; omega
 have:l.getD i 0=(l.take j)[i]:=by rw [List.getElem_take,List.getD_eq_getElem?_getD,List.getElem?_eq_getElem (by omega)];rfl
 rw [this];exact List.getElem_mem hi
theorem Ybi {l:List Int}{c:Int}(h:Xz l c=true){ix:List Nat}(hs:ix.Pairwise (·<·))(hl:∀ i ∈ ix,i<l.length):(ix.map fun i=>l.getD i 0).Nodup:=by unfold List.Nodup;rw [List.pairwise_map];exact hs.imp_of_mem fun{a b} _ hb hab=>Zwd h hab (hl b hb)
def plA (ag:List Int)(br:Int)(pr:Bool)(ps:List Int)(sh:Int)(k:Nat):List (Int×Int):=(List.range k).flatMap fun i=>(Mw ag br pr ps sh i).pl
def cpA (ag:List Int)(br:Int)(pr:Bool)(ps:List Int)(sh:Int)(k:Nat):List (Int×Int):=(List.range k).filterMap fun i=>if br<ps.getD i 0 then some ((Mw ag br pr ps sh i).at_,(Mw ag br pr ps sh i).at_+8*ps.getD i 0) else none
theorem Zwe (ag:List Int)(br:Int)(pr:Bool)(ps:List Int)(sh:Int)(k:Nat):plA ag br pr ps sh (k+1)=plA ag br pr ps sh k++(Mw ag br pr ps sh k).pl:=by simp [plA,List.range_succ]
theorem Zwf (ag:List Int)(br:Int)(pr:Bool)(ps:List Int)(sh:Int)(k:Nat):cpA ag br pr ps sh (k+1)=cpA ag br pr ps sh k++(if br<ps.getD k 0 then [((Mw ag br pr ps sh k).at_,(Mw ag br pr ps sh k).at_+8*ps.getD k 0)] else []):=by
 unfold cpA;rw [List.range_succ,List.filterMap_append];congr 1
 by_cases h:br<ps.getD k 0
 ·simp only [List.filterMap_cons,List.filterMap_nil,if_pos h]
 ·simp only [List.filterMap_cons,List.filterMap_nil,if_neg h]
structure PdI (ag:List Int)(sh:Int)(s:Jy)(P C:List (Int×Int)):Prop where
 cells:∃ m:Nat,spL P=upS sh m∧s.c=sh+8*m
 regs:∃ ix:List Nat,rgL P=ix.map (fun i=>ag.getD i 0)∧ix.Pairwise (·<·)∧∀ i ∈ ix,i<s.u
 zero:∀ p ∈ P,¬ p.1<0->p.2=0
 cp:ApS C
 in_:∀ a ∈ C,a.2<=s.p
 p8:s.p % 8=0
theorem Yfb (pr:Bool)(w u:Nat):u<=Sh pr w u:=by unfold Sh; split <;> omega
theorem Ybj {l:List (Int×Int)}{a:Int×Int}(h:ApS l)(ha:0<=a.1∧a.1<=a.2∧a.1 % 8=0)(hl:∀ x ∈ l,x.2<=a.1):ApS (l++[a]):=by
 refine⟨fun x hx=>?_,?_⟩
 ·rcases List.mem_append.1 hx with hx | hx
  ·exact h.one x hx
  ·rw [List.mem_singleton.1 hx]; exact ha
 ·rw [List.pairwise_append];exact⟨h.two,List.pairwise_singleton _ _,fun x hx y hy=>by rw [List.mem_singleton.1 hy]; exact hl x hx⟩
theorem Zmy {ag:List Int}{br:Int}{pr:Bool}{ps:List Int}{sh c:Int}(hag:Xz ag c=true)(hps:Jv ps 0 8=true):∀ k,k<=ps.length->PdI ag sh (Nm ag.length br pr ps sh k) (plA ag br pr ps sh k) (cpA ag br pr ps sh k)
 | 0,_=>⟨⟨0,rfl,by show sh=sh+8*((0:Nat):Int); omega⟩,⟨[],rfl,List.Pairwise.nil,fun i hi=>by cases hi⟩,fun p hp=>by simp [plA] at hp,⟨fun a ha=>by simp [cpA] at ha,by simp [cpA]⟩,fun a ha=>by simp [cpA] at ha,by show(0:Int) % 8=0; decide⟩
 | k+1,hk=>by
  have ih:=Zmy (ag:=ag) (br:=br) (pr:=pr) (sh:=sh) hag hps k (by omega);have hok:=Zgo (L:=ag.length) (br:=br) (pr:=pr) (sh:=sh) hps k (by omega);have h:=Je hps (k:=k) (by omega);unfold Xl at h;obtain⟨h0,h8⟩:=of_decide_eq_true h;have hp0:=hok.p0;have hul:=hok.u;rw [Zwe,Zwf];obtain⟨⟨m,hm1,hm2⟩,⟨ix,hx1,hx2,hx3⟩,hz,hcp,hin,hp8⟩:=ih;have hpn:(Nm ag.length br pr ps sh (k+1)).p=if br<ps.getD k 0 then (Nm ag.length br pr ps sh k).p+8*ps.getD k 0 else (Nm ag.length br pr ps sh k).p:=rfl
  have hat:br<ps.getD k 0->(Mw ag br pr ps sh k).at_=(Nm ag.length br pr ps sh k).p:=fun hb=>by show(if br<ps.getD k 0 then _ else _)=_; rw [if_pos hb]
  have hcs:ApS (cpA ag br pr ps sh k++(if br<ps.getD k 0 then [((Mw ag br pr ps sh k).at_,(Mw ag br pr ps sh k).at_+8*ps.getD k 0)] else []))∧(∀ a ∈ cpA ag br pr ps sh k++(if br<ps.getD k 0 then [((Mw ag br pr ps sh k).at_,(Mw ag br pr ps sh k).at_+8*ps.getD k 0)] else []),a.2<=(Nm ag.length br pr ps sh (k+1)).p)∧(Nm ag.length br pr ps sh (k+1)).p % 8=0:=by
   rw [hpn];by_cases hb:br<ps.getD k 0
   ·rw [if_pos hb,if_pos hb,hat hb];refine⟨Ybj hcp ⟨hp0,by simp only; omega,hp8⟩ hin,fun a ha=>?_,by omega⟩;rcases List.mem_append.1 ha with ha | ha
    ·have:=hin a ha; omega
    ·rw [List.mem_singleton.1 ha]; exact Int.le_refl _
   ·rw [if_neg hb,if_neg hb,List.append_nil];exact⟨hcp,hin,hp8⟩
  generalize cpA ag br pr ps sh k++(if br<ps.getD k 0 then [((Mw ag br pr ps sh k).at_,(Mw ag br pr ps sh k).at_+8*ps.getD k 0)] else [])=C at hcs ⊢;obtain⟨c1,c2,c3⟩:=hcs;have hge:=Yfb pr (Dd br (ps.getD k 0)) (Nm ag.length br pr ps sh k).u;by_cases hrg:rgS ag.length (Dd br (ps.getD k 0)) (Sh pr (Dd br (ps.getD k 0)) (Nm ag.length br pr ps sh k).u)=true
  ·have hle:Sh pr (Dd br (ps.getD k 0)) (Nm ag.length br pr ps sh k).u+Dd br (ps.getD k 0)<=ag.length:=by unfold rgS at hrg; exact of_decide_eq_true hrg
   have epl:(Mw ag br pr ps sh k).pl=(List.range (Dd br (ps.getD k 0))).map fun i=>(ag.getD (Sh pr (Dd br (ps.getD k 0)) (Nm ag.length br pr ps sh k).u+i) 0,0):=by show(List.range _).map (plS ag _ _ _)=_;rw [hrg];rfl
   have eu:(Nm ag.length br pr ps sh (k+1)).u=Sh pr (Dd br (ps.getD k 0)) (Nm ag.length br pr ps sh k).u+Dd br (ps.getD k 0):=by simp only [Nm,Mp]; rw [if_pos hrg]
   have ec:(Nm ag.length br pr ps sh (k+1)).c=(Nm ag.length br pr ps sh k).c:=by simp only [Nm,Mp]; rw [if_pos hrg]
   have hs:=Zph (f:=fun i=>(ag.getD (Sh pr (Dd br (ps.getD k 0)) (Nm ag.length br pr ps sh k).u+i) 0,(0:Int))) (n:=Dd br (ps.getD k 0)) (fun i hi=>by have:=(Zdv hag (i:=Sh pr (Dd br (ps.getD k 0)) (Nm ag.length br pr ps sh k).u+i) (by omega)).1; simp only; omega);refine⟨⟨m,?_,ec.trans hm2⟩,⟨ix++(List.range (Dd br (ps.getD k 0))).map (fun i=>Sh pr (Dd br (ps.getD k 0)) (Nm ag.length br pr ps sh k).u+i),?_,?_,?_⟩,?_,c1,c2,c3⟩
   ·rw [Zhh,hm1,epl,hs.1,List.append_nil]
   ·rw [Zhi,hx1,epl,hs.2,List.map_append,List.map_map];rfl
   ·rw [List.pairwise_append];refine⟨hx2,?_,fun a ha b hb=>?_⟩
    ·rw [List.pairwise_map];exact(List.pairwise_lt_range).imp fun h=>by omega
    ·simp only [List.mem_map,List.mem_range] at hb;obtain⟨i,hi,rfl⟩:=hb;have:=hx3 a ha;omega
   ·intro i hi;rw [eu];rcases List.mem_append.1 hi with hi | hi
    ·have:=hx3 i hi; omega
    ·simp only [List.mem_map,List.mem_range] at hi;obtain⟨j,hj,rfl⟩:=hi;omega
   ·intro p hp hn;rcases List.mem_append.1 hp with hp | hp
    ·exact hz p hp hn
    ·rw [epl] at hp;simp only [List.mem_map,List.mem_range] at hp;obtain⟨j,hj,rfl⟩:=hp;rfl
  ·have hrf:rgS ag.length (Dd br (ps.getD k 0)) (Sh pr (Dd br (ps.getD k 0)) (Nm ag.length br pr ps sh k).u)=false:=by simpa using hrg
   have epl:(Mw ag br pr ps sh k).pl=(List.range (Dd br (ps.getD k 0))).map fun i:Nat=>((-1:Int),(Nm ag.length br pr ps sh k).c+8*(i:Int)):=by show(List.range _).map (plS ag _ _ _)=_;rw [hrf];rfl
   have eu:(Nm ag.length br pr ps sh k).u<=(Nm ag.length br pr ps sh (k+1)).u:=by simp only [Nm,Mp];rw [if_neg hrg];split <;> omega
   have ec:(Nm ag.length br pr ps sh (k+1)).c=(Nm ag.length br pr ps sh k).c+8*Dd br (ps.getD k 0):=by simp only [Nm,Mp]; rw [if_neg hrg]
   have hs:=Zjz (f:=fun i:Nat=>((-1:Int),(Nm ag.length br pr ps sh k).c+8*(i:Int))) (n:=Dd br (ps.getD k 0)) (c:=(Nm ag.length br pr ps sh k).c) (fun i hi=>rfl);refine⟨⟨m+Dd br (ps.getD k 0),?_,?_⟩,⟨ix,?_,hx2,fun i hi=>Nat.lt_of_lt_of_le (hx3 i hi) eu⟩,?_,c1,c2,c3⟩
   ·rw [Zhh,hm1,epl,hs.1,Zpg _ _ _ _ hm2]
   ·rw [ec,hm2]; omega
   ·rw [Zhi,hx1,epl,hs.2,List.append_nil]
   ·intro p hp hn;rcases List.mem_append.1 hp with hp | hp
    ·exact hz p hp hn
    ·rw [epl] at hp;simp only [List.mem_map,List.mem_range] at hp;obtain⟨j,hj,rfl⟩:=hp;exact absurd (show(-1:Int)<0 by decide) hn
structure Yic (list:List Int)(l:List (Int×Int)):Prop where
 reg:∀ p ∈ l,¬ p.1<0->p.1 ∈ list∧p.2=0
 nd:(rgL l).Nodup
theorem Zrr {rs:List Int}{c e:Int}{n:Nat}(hrs:Xz rs e=true):spL ((List.range n).map (Kt rs c))=upS c (n-rs.length)∧Yic rs ((List.range n).map (Kt rs c)):=by
 have hsplit:(List.range n).map (Kt rs c)=(List.range (min n rs.length)).map (fun i=>(rs.getD i 0,(0:Int)))++(List.range (n-rs.length)).map (fun i:Nat=>((-1:Int),c+8*(i:Int))):=by
  have hn:List.range n=List.range (min n rs.length+(n-rs.length)):=by congr 1; omega
  rw [hn,List.range_add,List.map_append,List.map_map];congr 1
  ·apply List.map_congr_left
   intro i hi;have:=List.mem_range.1 hi;unfold Kt;rw [if_pos (by omega)]
  ·apply List.map_congr_left
   intro i hi;have:=List.mem_range.1 hi;simp only [Function.comp];unfold Kt;rw [if_neg (by omega),show min n rs.length+i-rs.length=i by omega]
 have h1:=Zph (f:=fun i=>(rs.getD i 0,(0:Int))) (n:=min n rs.length) (fun i hi=>by have:=(Zdv hrs (i:=i) (by omega)).1; simp only; omega);have h2:=Zjz (f:=fun i:Nat=>((-1:Int),c+8*(i:Int))) (n:=n-rs.length) (c:=c) (fun i hi=>rfl);rw [hsplit];refine⟨by rw [Zhh,h1.1,h2.1,List.nil_append],fun p hp hn=>?_,?_⟩
 ·rcases List.mem_append.1 hp with hp | hp
  ·simp only [List.mem_map,List.mem_range] at hp;obtain⟨j,hj,rfl⟩:=hp;refine⟨?_,rfl⟩;simp only;rw [List.getD_eq_getElem?_getD,List.getElem?_eq_getElem (by omega)];exact List.getElem_mem _
  ·simp only [List.mem_map,List.mem_range] at hp;obtain⟨j,hj,rfl⟩:=hp;exact absurd (show(-1:Int)<0 by decide) hn
 ·rw [Zhi,h1.2,h2.2,List.append_nil];exact Ybi hrs List.pairwise_lt_range (fun i hi=>by have:=List.mem_range.1 hi; omega)
theorem Zwg {ag rs:List Int}{br:Int}{pr:Bool}{ps:List Int}{sh c e:Int}{n:Int}(hag:Xz ag c=true)(hrs:Xz rs e=true)(hps:Jv ps 0 8=true):∃ m:Nat,spL (plA ag br pr ps sh ps.length)++spL (Zel ag rs br pr sh ps n).res=upS sh m∧(Zel ag rs br pr sh ps n).size=sh+8*m:=by
 obtain⟨m,h1,h2⟩:=(Zmy (ag:=ag) (br:=br) (pr:=pr) (sh:=sh) hag hps ps.length (Nat.le_refl _)).cells;refine⟨m+(n.toNat-rs.length),?_,?_⟩
 ·show spL _++spL ((List.range n.toNat).map (Kt rs _))=_;rw [(Zrr hrs).1,h1,Zpg _ _ _ _ h2]
 ·show Xg rs _ _=_;unfold Xg;rw [h2];omega
def Ygc (id:Nat)(X:Act->World->Prop):Exit->Act->World->Prop
 | .exit n,a,w=>n=id∧X a w
 | _,_,_=>False
theorem Zil {P:Program}{c:Code}{id:Nat}{Q0:Exit->Act->World->Prop}{a:Act}{w:World}(h:c.wp P (Ygc id fun a w=>Q0 (.exit id) a w) a w):c.wp P Q0 a w:=wp_mono h (fun e a w hq=>by
 cases e with
 | exit n=>obtain⟨rfl,hx⟩:=hq; exact hx
 | normal=>exact hq.elim
 | goto l=>exact hq.elim
 | ret=>exact hq.elim
 | panic c=>exact hq.elim
 | outgrown=>exact hq.elim)
def Sf:Code->List Code
 | .loop c=>.loop c :: Sf c
 | .seq a b=>Sf a++Sf b
 | .block _ c=>Sf c
 | .scope c=>Sf c
 | .cond _ a b=>Sf a++Sf b
 | _=>[]
theorem Zoc {w:World}{B e size n:Nat}{v:Value}{xs:List Value}(h:w.ownsRow B e size v n xs):n<9223372036854775808:=by
 rcases h.2 with⟨-,e0⟩ | ⟨g,cap,cur,e,-,-,h1,h2,-⟩
 ·omega
 ·unfold maxLen at h2; omega
theorem Sg {w:World}{B e size n:Nat}{v:Value}{xs:List Value}(h:w.ownsRow B e size v n xs)(hn:0<n):∃ g c,v=.slice (some ⟨g,0,none⟩) n c∧B<=g∧g<w.heap.size∧∀ j,j<n*size->w.cell? ⟨g,j,none⟩=xs[j]?:=by
 rcases h.2 with⟨-,e0⟩ | ⟨g,cap,cur,e,h2,h3,-⟩
 ·omega
 ·subst e;exact⟨g,cap,rfl,h2,Zi h3,fun j hj=>h.cellAt j hj⟩
theorem Zv {w:World}{B e size n:Nat}{v:Value}{xs:List Value}(h:w.ownsRow B e size v n xs):∃ p c,v=.slice p n c:=by
 rcases h.2 with⟨e,e0⟩ | ⟨g,cap,cur,e,-⟩
 ·exact⟨none,0,by rw [e0]; exact e⟩
 ·exact⟨_,_,e⟩
theorem Cq.below {w w':World}{B:Nat}{v:Value}{xs:List (Int×Int)}(h:Cq w B v xs)(hb:Below w.heap.size w w'):Cq w' B v xs:=Xc h (Jj (o:=none) hb) (fun g _ e=>by cases e)
theorem Cq.heap {w w':World}{B:Nat}{v:Value}{xs:List (Int×Int)}(h:Cq w B v xs)(e:w'.heap=w.heap):Cq w' B v xs:=by unfold Cq World.ownsRow at h ⊢;rw [e];exact h
def LiU (w:World)(v:Value)(ws:List Int):Prop:=∃ p cap,v=.slice p ws.length cap∧ws.length<=cap∧ws.length<4611686018427387904∧(0<ws.length->∃ sb so,p=some ⟨sb,so,none⟩∧∀ i,i<ws.length->w.cell? ⟨sb,so+i,none⟩=some (.int .u64 (ws.getD i 0)))
theorem Mg {w w':World}{v:Value}{ws:List Int}(h:LiU w v ws)(hb:Below w.heap.size w w'):LiU w' v ws:=by obtain⟨p,cap,h1,h2,h3,h4⟩:=h;refine⟨p,cap,h1,h2,h3,fun h0=>?_⟩;obtain⟨sb,so,e,hc⟩:=h4 h0;exact⟨sb,so,e,fun i hi=>(hb.cell (p:=⟨sb,so+i,none⟩) (World.block_lt_of_cell? w _ (hc i hi))).trans (hc i hi)⟩
def Zjm (bs ws:List Int)(k:Nat):List Int:=(List.range k).foldl (fun b k=>stB b (8*k) 8 (ws.getD k 0)) bs
theorem Zdk (bs ws:List Int)(k:Nat):Zjm bs ws (k+1)=stB (Zjm bs ws k) (8*k) 8 (ws.getD k 0):=by unfold Zjm;rw [List.range_succ,List.foldl_append];rfl
theorem Zfv (bs ws:List Int):∀ k,(Zjm bs ws k).length=bs.length
 | 0=>rfl
 | k+1=>by rw [Zdk,Zzz,Zfv bs ws k]
structure One (g:Nat)(w w':World):Prop where
 os:w'.os=w.os
 tape:w'.tape=w.tape
 output:w'.output=w.output
 size:w'.heap.size=w.heap.size
 oth:∀ q:Nat,q≠g->w'.heap[q]?=w.heap[q]?
theorem Zvf (z:Value)(n:Nat):madeCells #[z] n=(List.replicate n z).toArray:=by
 apply Array.ext'
 apply List.ext_getElem?
 intro i;by_cases h:i<n
 ·simp [madeCells,h,Nat.mod_one]
 ·simp [madeCells,h]
theorem mkU (n:Nat)(hn:n<=1000000)(w:World):(Instr.makeSlice 84 (.int .i64 (n:Int)) (.int .i64 (n:Int))).run Tryz.prog w=.ok (.slice (some ⟨w.heap.size,0,none⟩) n n) (w.alloc (.cells (uC (List.replicate n 0)).toArray 90)):=by obtain⟨ti,hti,hz0,hz1,hz2⟩:=Gy Tryz.infoU64;have h:=run_make (P:=Tryz.prog) w 84 90 ti _ Tryz.underlying84 hti hz0 .i64 .i64 (n:Int) (n:Int) (by omega) (Int.le_refl _) (by rw [hz2]; omega) (by omega);rw [hz1,Int.toNat_natCast,Nat.mul_one,show(Value.int IntKind.u64 0).cells=#[.int .u64 0] from rfl,Zvf,show List.replicate n (Value.int IntKind.u64 0)=uC (List.replicate n 0) by simp [uC]] at h;exact h
theorem Zfw {w:World}{B e size n:Nat}{v:Value}{xs:List Value}(h:w.ownsRow B e size v (n+1) xs):∃ g c,v=.slice (some ⟨g,0,none⟩) (n+1) c:=by
 rcases h.2 with⟨-,e0⟩ | ⟨g,cap,cur,e,-⟩
 ·omega
 ·exact⟨g,cap,e⟩
set_option maxHeartbeats 8000000
set_option maxRecDepth 100000
def Zvg (f:Func)(n:Nat):Code:=(((f.body.map Sf).getD [])[n]?).getD .skip
theorem Yhw (w0 w u:World)(x:Ud)(q lo lg:Nat)(bp op qs:Option Addr)(bc oc cs:Nat)(ns:List Int)(B:Nat->Value)(Q0:Exit->Act->World->Prop)(s0 s1 s2 s3 s4 s5 s6 s8 s9 s10 s11 s12 s13 s14 s15 s16 s17 s18 s19 s20 s21 s25 s26 s27 s28 s29 s30 s31 s32 s33 s34 s35 s36 s37 s38 s39 s40 s41 s42 s43 s44 s45 s46 s47 s48 s49 s50 s51 s52 s53 s54 s55 s56 s57 s58 s59 s60 s61 s62 s63 s64 s65 s66 s67 s68 s69 s70 s71 s72 s73 s74 s75 s76 s77 s78 s79 s80 s81 s82:Value)
 (hx:x.s=[]) (hlo:lo=w.heap.size) (hbw0:Below w0.heap.size w0 w) (hS:Li w0 (.slice qs ns.length cs) ns) (hns:∀ k,k<ns.length->0<=ns.getD k 0∧ns.getD k 0<=8) (hnl:ns.length<=6) (hn0:ns.length=0)
 (hu:Ia w0 u x q lo u.heap.size lg bp none op bc 0 oc [] B) (hbu:Below w.heap.size w u)
 (hexit:∀(w':World) (sp:Option Addr) (sc:Nat) (gs:List Nat),Ia w0 w' { x with s:=(ns.take ns.length).map fun n=>List.replicate (8*n).toNat 0 } q lo w'.heap.size lg bp sp op bc sc oc gs B->Below w.heap.size w w'->∀(u9 u24 u25 u26 u27 u28 u29 u30 u31 u32 u33 u34 u35 u36 u37 u38 u39 u40:Value),Q0 (.exit 0) ⟨List.toArray (s0 :: s1 :: s2 :: s3 :: s4 :: s5 :: s6 :: .pointer (some ⟨q,0,none⟩) :: s8 :: u9 :: s10 :: s11 :: s12 :: s13 :: s14 :: s15 :: s16 :: s17 :: s18 :: s19 :: s20 :: s21 :: .slice qs ns.length cs :: .int .i64 ns.length :: u24 :: u25 :: u26 :: u27 :: u28 :: u29 :: u30 :: u31 :: u32 :: u33 :: u34 :: u35 :: u36 :: u37 :: u38 :: u39 :: u40 :: s41 :: s42 :: s43 :: s44 :: s45 :: s46 :: s47 :: s48 :: s49 :: s50 :: s51 :: s52 :: s53 :: s54 :: s55 :: s56 :: s57 :: s58 :: s59 :: s60 :: s61 :: s62 :: s63 :: s64 :: s65 :: s66 :: s67 :: s68 :: s69 :: s70 :: s71 :: s72 :: s73 :: s74 :: s75 :: s76 :: s77 :: s78 :: s79 :: s80 :: s81 :: s82 :: []),[]⟩ w') :
 Code.wp Tryz.prog (Zvg Tryz.f126 0) Q0 ⟨List.toArray (s0 :: s1 :: s2 :: s3 :: s4 :: s5 :: s6 :: .pointer (some ⟨q,0,none⟩) :: s8 :: s9 :: s10 :: s11 :: s12 :: s13 :: s14 :: s15 :: s16 :: s17 :: s18 :: s19 :: s20 :: s21 :: .slice qs ns.length cs :: .int .i64 ns.length :: .int .i64 0 :: s25 :: s26 :: s27 :: s28 :: s29 :: s30 :: s31 :: s32 :: s33 :: s34 :: s35 :: s36 :: s37 :: s38 :: s39 :: s40 :: s41 :: s42 :: s43 :: s44 :: s45 :: s46 :: s47 :: s48 :: s49 :: s50 :: s51 :: s52 :: s53 :: s54 :: s55 :: s56 :: s57 :: s58 :: s59 :: s60 :: s61 :: s62 :: s63 :: s64 :: s65 :: s66 :: s67 :: s68 :: s69 :: s70 :: s71 :: s72 :: s73 :: s74 :: s75 :: s76 :: s77 :: s78 :: s79 :: s80 :: s81 :: s82 :: []),[]⟩ u:=by
 have HS0:=O hS;have HNS:=O hns;have HU:=O hu;have HBU:=O hbu;have HEX:=O hexit;have HB0:=O hbw0;have HXS:=O hx;have HLO:=O hlo;have HN0:=O hn0;clear hS hns hu hbu hexit hbw0 hx hlo hn0;refine Zil (id:=0) ?_;conv=>arg 2; whnf
 go_loopw [24] (fun sk w'=>∃(k:Nat) (sp:Option Addr) (sc:Nat) (gs:List Nat),sk=.int .i64 k∧k<=ns.length∧Ia w0 w' { x with s:=(ns.take k).map fun n=>List.replicate (8*n).toNat 0 } q lo w'.heap.size lg bp sp op bc sc oc gs B∧Below w.heap.size w w') (fun sk _=>ns.length-(intOf sk).toNat)
 case atStart =>
  have e:({ x with s:=(ns.take 0).map fun n=>List.replicate (8*n).toNat 0 }:Ud)=x:=by
   have:=J HXS;cases x
   simp_all
  refine⟨0,none,0,[],rfl,by omega,?_,J HBU⟩;rw [e];exact J HU
 case round =>
  obtain⟨k,sp,sc,gs,rfl,hk,hF,hbw⟩:=hrel;by_cases hk2:k<ns.length
  ·exact absurd (J HN0) (by omega)
  ·have hkn:k=ns.length:=by omega
   subst hkn;have HX:=O (J HEX wr sp sc gs hF hbw);clear hF hbw;go_wp2_with fail
   exact⟨rfl,J HX _ _ _ _ _ _ _ _ _ _ _ _ _ _ _ _ _ _⟩
end Go.Proofs.YtkenknfgeoecbaaGreatDoor
