import Derived.Test.YtkenknfgeoecbaaGreatDoorJ46
import Derived.Test.YtkenknfgeoecbaaGreatDoorJ37
namespace Go.Proofs.YtkenknfgeoecbaaGreatDoor
open Go.RowKit
def Di (l:List (Int×Int)):List (Int×Int):=(l.filter fun p=>decide (p.1<0)).map fun p=>(p.2,p.2+8)
def Kq (l:List (Int×Int)):List Int:=(l.filter fun p=>!decide (p.1<0)).map fun p=>p.1
def upS (c:Int)(m:Nat):List (Int×Int):=(List.range m).map fun i:Nat=>(c+8*(i:Int),c+8*(i:Int)+8)
structure ApS (l:List (Int×Int)):Prop where
 one:∀ a ∈ l,0≤a.1∧a.1≤a.2∧a.1 % 8=0
 two:l.Pairwise fun a b=>a.2≤b.1
theorem Zbr (a b:List (Int×Int)):Di (a++b)=Di a++Di b:=by simp [Di]
theorem Cx (a b:List (Int×Int)):Kq (a++b)=Kq a++Kq b:=by simp [Kq]
theorem Zoy (c d:Int)(m n:Nat)(h:d=c+8*m):upS c m++upS d n=upS c (m+n):=by
 subst h;unfold upS;rw [List.range_add,List.map_append,List.map_map];congr 1
 apply List.map_congr_left
 intro i _;simp only [Function.comp,Prod.mk.injEq];omega
theorem Rh (c:Int)(m:Nat):(upS c m).length=m:=by simp [upS]
theorem Yec (c:Int)(m:Nat)(h0:0≤c)(h8:c % 8=0):ApS (upS c m):=by
 refine⟨fun a ha=>?_,?_⟩
 ·unfold upS at ha;simp only [List.mem_map,List.mem_range] at ha;obtain⟨i,_,rfl⟩:=ha;simp only;omega
 ·unfold upS;rw [List.pairwise_map];exact(List.pairwise_lt_range).imp fun h=>by simp only; omega
theorem Yed (c:Int)(m:Nat):∀ a ∈ upS c m,c≤a.1∧a.2≤c+8*m:=fun a ha=>by
 unfold upS at ha;simp only [List.mem_map,List.mem_range] at ha;obtain⟨i,hi,rfl⟩:=ha;simp only;omega
theorem Zoz {f:Nat→Int×Int}{n:Nat}(h:∀ i,i<n→¬ (f i).1<0):Di ((List.range n).map f)=[]∧Kq ((List.range n).map f)=(List.range n).map fun i=>(f i).1:=by
 have e:∀ p ∈ (List.range n).map f,¬ p.1<0:=fun p hp=>by
  simp only [List.mem_map,List.mem_range] at hp;obtain⟨i,hi,rfl⟩:=hp;exact h i hi
 unfold Di Kq;rw [List.filter_eq_nil_iff.2 (fun p hp=>by simpa using e p hp),List.filter_eq_self.2 (fun p hp=>by simpa using e p hp),List.map_map];exact⟨rfl,rfl⟩
theorem Zji {f:Nat→Int×Int}{n:Nat}{c:Int}(h:∀ i,i<n→f i=(-1,c+8*(i:Int))):Di ((List.range n).map f)=upS c n∧Kq ((List.range n).map f)=[]:=by
 have e:∀ p ∈ (List.range n).map f,p.1<0:=fun p hp=>by
  simp only [List.mem_map,List.mem_range] at hp;obtain⟨i,hi,rfl⟩:=hp;rw [h i hi];exact(show(-1:Int)<0 by decide)
 have e1:((List.range n).map f).filter (fun p=>decide (p.1<0))=(List.range n).map f:=List.filter_eq_self.2 (fun p hp=>by simpa using e p hp);have e2:((List.range n).map f).filter (fun p=>!decide (p.1<0))=[]:=List.filter_eq_nil_iff.2 (fun p hp=>by simpa using e p hp);unfold Di Kq;rw [e1,e2,List.map_map];refine⟨?_,rfl⟩;unfold upS;apply List.map_congr_left
 intro i hi;simp only [Function.comp,h i (List.mem_range.1 hi)]
theorem Zdl {l:List Int}{c:Int}(h:Jp l c=true){i:Nat}(hi:i<l.length):0≤l.getD i 0∧l.getD i 0 ∉ l.take i:=by unfold Jp at h;rw [List.all_eq_true] at h;have h2:=h i (List.mem_range.2 hi);unfold Zhf at h2;have h3:=of_decide_eq_true h2;exact⟨h3.1,h3.2.2⟩
theorem Zvv {l:List Int}{c:Int}(h:Jp l c=true){i j:Nat}(hij:i<j)(hj:j<l.length):l.getD i 0≠l.getD j 0:=fun e=>by
 apply (Zdl h hj).2
 rw [← e];have hi:i<(l.take j).length:=by simp; omega
 have:l.getD i 0=(l.take j)[i]:=by rw [List.getElem_take,List.getD_eq_getElem?_getD,List.getElem?_eq_getElem (by omega)];rfl
 rw [this];exact List.getElem_mem hi
theorem Zpa {l:List Int}{c:Int}(h:Jp l c=true){ix:List Nat}(hs:ix.Pairwise (·<·))(hl:∀ i ∈ ix,i<l.length):(ix.map fun i=>l.getD i 0).Nodup:=by unfold List.Nodup;rw [List.pairwise_map];exact hs.imp_of_mem fun{a b} _ hb hab=>Zvv h hab (hl b hb)
def Cy (ag:List Int)(br:Int)(pr:Bool)(ps:List Int)(sh:Int)(k:Nat):List (Int×Int):=(List.range k).flatMap fun i=>(Gb ag br pr ps sh i).pl
def Rq (ag:List Int)(br:Int)(pr:Bool)(ps:List Int)(sh:Int)(k:Nat):List (Int×Int):=(List.range k).filterMap fun i=>if br<ps.getD i 0 then some ((Gb ag br pr ps sh i).at_,(Gb ag br pr ps sh i).at_+8*ps.getD i 0) else none
theorem Zdm (ag:List Int)(br:Int)(pr:Bool)(ps:List Int)(sh:Int)(k:Nat):Cy ag br pr ps sh (k+1)=Cy ag br pr ps sh k++(Gb ag br pr ps sh k).pl:=by simp [Cy,List.range_succ]
theorem Zjj (ag:List Int)(br:Int)(pr:Bool)(ps:List Int)(sh:Int)(k:Nat):Rq ag br pr ps sh (k+1)=Rq ag br pr ps sh k++(if br<ps.getD k 0 then [((Gb ag br pr ps sh k).at_,(Gb ag br pr ps sh k).at_+8*ps.getD k 0)] else []):=by
 unfold Rq;rw [List.range_succ,List.filterMap_append];congr 1
 by_cases h:br<ps.getD k 0
 ·simp only [List.filterMap_cons,List.filterMap_nil,if_pos h]
 ·simp only [List.filterMap_cons,List.filterMap_nil,if_neg h]
structure PdI (ag:List Int)(sh:Int)(s:Jq)(P C:List (Int×Int)):Prop where
 cells:∃ m:Nat,Di P=upS sh m∧s.c=sh+8*m
 regs:∃ ix:List Nat,Kq P=ix.map (fun i=>ag.getD i 0)∧ix.Pairwise (·<·)∧∀ i ∈ ix,i<s.u
 zero:∀ p ∈ P,¬ p.1<0→p.2=0
 cp:ApS C
 in_:∀ a ∈ C,a.2≤s.p
 p8:s.p % 8=0
theorem Yee (pr:Bool)(w u:Nat):u≤Rz pr w u:=by unfold Rz; split <;> omega
theorem Yai {l:List (Int×Int)}{a:Int×Int}(h:ApS l)(ha:0≤a.1∧a.1≤a.2∧a.1 % 8=0)(hl:∀ x ∈ l,x.2≤a.1):ApS (l++[a]):=by
 refine⟨fun x hx=>?_,?_⟩
 ·rcases List.mem_append.1 hx with hx | hx
  ·exact h.one x hx
  ·rw [List.mem_singleton.1 hx]; exact ha
 ·rw [List.pairwise_append];exact⟨h.two,List.pairwise_singleton _ _,fun x hx y hy=>by rw [List.mem_singleton.1 hy]; exact hl x hx⟩
theorem Zdn {ag:List Int}{br:Int}{pr:Bool}{ps:List Int}{sh c:Int}(hag:Jp ag c=true)(hps:Xc ps 0 8=true):∀ k,k≤ps.length→PdI ag sh (Ml ag.length br pr ps sh k) (Cy ag br pr ps sh k) (Rq ag br pr ps sh k)
 | 0,_=>⟨⟨0,rfl,by show sh=sh+8*((0:Nat):Int); omega⟩,⟨[],rfl,List.Pairwise.nil,fun i hi=>by cases hi⟩,fun p hp=>by simp [Cy] at hp,⟨fun a ha=>by simp [Rq] at ha,by simp [Rq]⟩,fun a ha=>by simp [Rq] at ha,by show(0:Int) % 8=0; decide⟩
 | k+1,hk=>by
  have ih:=Zdn (ag:=ag) (br:=br) (pr:=pr) (sh:=sh) hag hps k (by omega);have hok:=Kv (L:=ag.length) (br:=br) (pr:=pr) (sh:=sh) hps k (by omega);have h:=Ga hps (k:=k) (by omega);unfold Gq at h;obtain⟨h0,h8⟩:=of_decide_eq_true h;have hp0:=hok.p0;have hul:=hok.u;rw [Zdm,Zjj];obtain⟨⟨m,hm1,hm2⟩,⟨ix,hx1,hx2,hx3⟩,hz,hcp,hin,hp8⟩:=ih;have hpn:(Ml ag.length br pr ps sh (k+1)).p=if br<ps.getD k 0 then (Ml ag.length br pr ps sh k).p+8*ps.getD k 0 else (Ml ag.length br pr ps sh k).p:=rfl
  have hat:br<ps.getD k 0→(Gb ag br pr ps sh k).at_=(Ml ag.length br pr ps sh k).p:=fun hb=>by show(if br<ps.getD k 0 then _ else _)=_; rw [if_pos hb]
  have hcs:ApS (Rq ag br pr ps sh k++(if br<ps.getD k 0 then [((Gb ag br pr ps sh k).at_,(Gb ag br pr ps sh k).at_+8*ps.getD k 0)] else []))∧(∀ a ∈ Rq ag br pr ps sh k++(if br<ps.getD k 0 then [((Gb ag br pr ps sh k).at_,(Gb ag br pr ps sh k).at_+8*ps.getD k 0)] else []),a.2≤(Ml ag.length br pr ps sh (k+1)).p)∧(Ml ag.length br pr ps sh (k+1)).p % 8=0:=by
   rw [hpn];by_cases hb:br<ps.getD k 0
   ·rw [if_pos hb,if_pos hb,hat hb];refine⟨Yai hcp ⟨hp0,by simp only; omega,hp8⟩ hin,fun a ha=>?_,by omega⟩;rcases List.mem_append.1 ha with ha | ha
    ·have:=hin a ha; omega
    ·rw [List.mem_singleton.1 ha]; exact Int.le_refl _
   ·rw [if_neg hb,if_neg hb,List.append_nil];exact⟨hcp,hin,hp8⟩
  generalize Rq ag br pr ps sh k++(if br<ps.getD k 0 then [((Gb ag br pr ps sh k).at_,(Gb ag br pr ps sh k).at_+8*ps.getD k 0)] else [])=C at hcs ⊢;obtain⟨c1,c2,c3⟩:=hcs;have hge:=Yee pr (Oj br (ps.getD k 0)) (Ml ag.length br pr ps sh k).u;by_cases hrg:rgS ag.length (Oj br (ps.getD k 0)) (Rz pr (Oj br (ps.getD k 0)) (Ml ag.length br pr ps sh k).u)=true
  ·have hle:Rz pr (Oj br (ps.getD k 0)) (Ml ag.length br pr ps sh k).u+Oj br (ps.getD k 0)≤ag.length:=by unfold rgS at hrg; exact of_decide_eq_true hrg
   have epl:(Gb ag br pr ps sh k).pl=(List.range (Oj br (ps.getD k 0))).map fun i=>(ag.getD (Rz pr (Oj br (ps.getD k 0)) (Ml ag.length br pr ps sh k).u+i) 0,0):=by show(List.range _).map (plS ag _ _ _)=_;rw [hrg];rfl
   have eu:(Ml ag.length br pr ps sh (k+1)).u=Rz pr (Oj br (ps.getD k 0)) (Ml ag.length br pr ps sh k).u+Oj br (ps.getD k 0):=by simp only [Ml,Md]; rw [if_pos hrg]
   have ec:(Ml ag.length br pr ps sh (k+1)).c=(Ml ag.length br pr ps sh k).c:=by simp only [Ml,Md]; rw [if_pos hrg]
   have hs:=Zoz (f:=fun i=>(ag.getD (Rz pr (Oj br (ps.getD k 0)) (Ml ag.length br pr ps sh k).u+i) 0,(0:Int))) (n:=Oj br (ps.getD k 0)) (fun i hi=>by have:=(Zdl hag (i:=Rz pr (Oj br (ps.getD k 0)) (Ml ag.length br pr ps sh k).u+i) (by omega)).1; simp only; omega);refine⟨⟨m,?_,ec.trans hm2⟩,⟨ix++(List.range (Oj br (ps.getD k 0))).map (fun i=>Rz pr (Oj br (ps.getD k 0)) (Ml ag.length br pr ps sh k).u+i),?_,?_,?_⟩,?_,c1,c2,c3⟩
   ·rw [Zbr,hm1,epl,hs.1,List.append_nil]
   ·rw [Cx,hx1,epl,hs.2,List.map_append,List.map_map];rfl
   ·rw [List.pairwise_append];refine⟨hx2,?_,fun a ha b hb=>?_⟩
    ·rw [List.pairwise_map];exact(List.pairwise_lt_range).imp fun h=>by omega
    ·simp only [List.mem_map,List.mem_range] at hb;obtain⟨i,hi,rfl⟩:=hb;have:=hx3 a ha;omega
   ·intro i hi;rw [eu];rcases List.mem_append.1 hi with hi | hi
    ·have:=hx3 i hi; omega
    ·simp only [List.mem_map,List.mem_range] at hi;obtain⟨j,hj,rfl⟩:=hi;omega
   ·intro p hp hn;rcases List.mem_append.1 hp with hp | hp
    ·exact hz p hp hn
    ·rw [epl] at hp;simp only [List.mem_map,List.mem_range] at hp;obtain⟨j,hj,rfl⟩:=hp;rfl
  ·have hrf:rgS ag.length (Oj br (ps.getD k 0)) (Rz pr (Oj br (ps.getD k 0)) (Ml ag.length br pr ps sh k).u)=false:=by simpa using hrg
   have epl:(Gb ag br pr ps sh k).pl=(List.range (Oj br (ps.getD k 0))).map fun i:Nat=>((-1:Int),(Ml ag.length br pr ps sh k).c+8*(i:Int)):=by show(List.range _).map (plS ag _ _ _)=_;rw [hrf];rfl
   have eu:(Ml ag.length br pr ps sh k).u≤(Ml ag.length br pr ps sh (k+1)).u:=by simp only [Ml,Md];rw [if_neg hrg];split <;> omega
   have ec:(Ml ag.length br pr ps sh (k+1)).c=(Ml ag.length br pr ps sh k).c+8*Oj br (ps.getD k 0):=by simp only [Ml,Md]; rw [if_neg hrg]
   have hs:=Zji (f:=fun i:Nat=>((-1:Int),(Ml ag.length br pr ps sh k).c+8*(i:Int))) (n:=Oj br (ps.getD k 0)) (c:=(Ml ag.length br pr ps sh k).c) (fun i hi=>rfl);refine⟨⟨m+Oj br (ps.getD k 0),?_,?_⟩,⟨ix,?_,hx2,fun i hi=>Nat.lt_of_lt_of_le (hx3 i hi) eu⟩,?_,c1,c2,c3⟩
   ·rw [Zbr,hm1,epl,hs.1,Zoy _ _ _ _ hm2]
   ·rw [ec,hm2]; omega
   ·rw [Cx,hx1,epl,hs.2,List.append_nil]
   ·intro p hp hn;rcases List.mem_append.1 hp with hp | hp
    ·exact hz p hp hn
    ·rw [epl] at hp;simp only [List.mem_map,List.mem_range] at hp;obtain⟨j,hj,rfl⟩:=hp;exact absurd (show(-1:Int)<0 by decide) hn
structure Zmn (list:List Int)(l:List (Int×Int)):Prop where
 reg:∀ p ∈ l,¬ p.1<0→p.1 ∈ list∧p.2=0
 nd:(Kq l).Nodup
theorem Yef {l:List (Int×Int)}{p:Int×Int}(hp:p ∈ l)(h:¬ p.1<0):p.1 ∈ Kq l:=by unfold Kq;rw [List.mem_map];exact⟨p,List.mem_filter.2 ⟨hp,by simpa using h⟩,rfl⟩
theorem Zpb {ag:List Int}{br:Int}{pr:Bool}{ps:List Int}{sh c:Int}(hag:Jp ag c=true)(hps:Xc ps 0 8=true):Zmn ag (Cy ag br pr ps sh ps.length):=by have h:=Zdn (ag:=ag) (br:=br) (pr:=pr) (sh:=sh) hag hps ps.length (Nat.le_refl _);have hok:=Kv (L:=ag.length) (br:=br) (pr:=pr) (sh:=sh) hps ps.length (Nat.le_refl _);obtain⟨ix,h1,h2,h3⟩:=h.regs;have hl:∀ i ∈ ix,i<ag.length:=fun i hi=>Nat.lt_of_lt_of_le (h3 i hi) hok.u;refine⟨fun p hp hn=>⟨?_,h.zero p hp hn⟩,h1 ▸ Zpa hag h2 hl⟩;have:=Yef hp hn;rw [h1,List.mem_map] at this;obtain⟨i,hi,e⟩:=this;rw [← e,List.getD_eq_getElem?_getD,List.getElem?_eq_getElem (hl i hi)];exact List.getElem_mem _
theorem Zfm {rs:List Int}{c e:Int}{n:Nat}(hrs:Jp rs e=true):Di ((List.range n).map (Kd rs c))=upS c (n-rs.length)∧Zmn rs ((List.range n).map (Kd rs c)):=by
 have hsplit:(List.range n).map (Kd rs c)=(List.range (min n rs.length)).map (fun i=>(rs.getD i 0,(0:Int)))++(List.range (n-rs.length)).map (fun i:Nat=>((-1:Int),c+8*(i:Int))):=by
  have hn:List.range n=List.range (min n rs.length+(n-rs.length)):=by congr 1; omega
  rw [hn,List.range_add,List.map_append,List.map_map];congr 1
  ·apply List.map_congr_left
   intro i hi;have:=List.mem_range.1 hi;unfold Kd;rw [if_pos (by omega)]
  ·apply List.map_congr_left
   intro i hi;have:=List.mem_range.1 hi;simp only [Function.comp];unfold Kd;rw [if_neg (by omega),show min n rs.length+i-rs.length=i by omega]
 have h1:=Zoz (f:=fun i=>(rs.getD i 0,(0:Int))) (n:=min n rs.length) (fun i hi=>by have:=(Zdl hrs (i:=i) (by omega)).1; simp only; omega);have h2:=Zji (f:=fun i:Nat=>((-1:Int),c+8*(i:Int))) (n:=n-rs.length) (c:=c) (fun i hi=>rfl);rw [hsplit];refine⟨by rw [Zbr,h1.1,h2.1,List.nil_append],fun p hp hn=>?_,?_⟩
 ·rcases List.mem_append.1 hp with hp | hp
  ·simp only [List.mem_map,List.mem_range] at hp;obtain⟨j,hj,rfl⟩:=hp;refine⟨?_,rfl⟩;simp only;rw [List.getD_eq_getElem?_getD,List.getElem?_eq_getElem (by omega)];exact List.getElem_mem _
  ·simp only [List.mem_map,List.mem_range] at hp;obtain⟨j,hj,rfl⟩:=hp;exact absurd (show(-1:Int)<0 by decide) hn
 ·rw [Cx,h1.2,h2.2,List.append_nil];exact Zpa hrs List.pairwise_lt_range (fun i hi=>by have:=List.mem_range.1 hi; omega)
theorem Zvw {ag rs:List Int}{br:Int}{pr:Bool}{ps:List Int}{sh c e:Int}{n:Int}(hag:Jp ag c=true)(hrs:Jp rs e=true)(hps:Xc ps 0 8=true):∃ m:Nat,Di (Cy ag br pr ps sh ps.length)++Di (Nf ag rs br pr sh ps n).res=upS sh m∧(Nf ag rs br pr sh ps n).size=sh+8*m:=by
 obtain⟨m,h1,h2⟩:=(Zdn (ag:=ag) (br:=br) (pr:=pr) (sh:=sh) hag hps ps.length (Nat.le_refl _)).cells;refine⟨m+(n.toNat-rs.length),?_,?_⟩
 ·show Di _++Di ((List.range n.toNat).map (Kd rs _))=_;rw [(Zfm hrs).1,h1,Zoy _ _ _ _ h2]
 ·show Xd rs _ _=_;unfold Xd;rw [h2];omega
set_option maxHeartbeats 8000000
set_option maxRecDepth 100000
def Re (T:Yh)(l:List Gj):Int:=if Ro T=false then 2 else if 64<l.length then 4 else if (Zma T l&&Zri l)=true then 0 else 6
def Zzz (T:Yh)(l md:List Gj):Prop:=(Re T l≠0→md=[])∧(Re T l=0→∃ k,(Jd T.t0 T.t1 k (Je l)).left=[]∧md=(Jd T.t0 T.t1 k (Je l)).made)
theorem Yaa (T:Yh)(l:List Gj)(lv:Value)(w:World)(hT:TbO w T)(hl:PrS w lv l)(K:Nat)(hO:OrN T l K):Calls Tryz.prog 40 #[.agg #[.int .i64 T.r,.int .i64 T.sp,.int .i64 T.lk,.int .i64 T.t0,.int .i64 T.t1,.slice T.pa T.ag.length T.ca,.slice T.pr T.rs.length T.cr,.slice T.ps T.ss.length T.cs,.int .i64 T.al,.int .i64 T.sh,.int .i64 T.br,.bool T.pairs],lv] w fun e w'=>∃ v md,e=.returned (.tuple #[v,Rl (Re T l)])∧w'.ownsRow w.heap.size 36 4 v md.length (Ka md)∧Zzz T l md∧Below w.heap.size w w':=by
 obtain⟨lp,lc,rfl,hn⟩:=hl.shape;obtain⟨r0,hb0,hz0⟩:=al0 w (.cells #[.int .i64 T.r,.int .i64 T.sp,.int .i64 T.lk,.int .i64 T.t0,.int .i64 T.t1,.slice T.pa T.ag.length T.ca,.slice T.pr T.rs.length T.cr,.slice T.ps T.ss.length T.cs,.int .i64 T.al,.int .i64 T.sh,.int .i64 T.br,.bool T.pairs] 25 (0,0));have HR:=Za r0;have HB:=Za hb0;have HT:=Za hT;have HL:=Za hl;have HON:=Za hO;clear r0 hb0 hz0 hT hl hO;have HNO:=Za (show ∀ V:World,V.ownsRow w.heap.size 36 4 (.slice none 0 0) ([]:List Gj).length (Ka []) from fun V=>World.ownsRow_nil _ _ _ _);go_enter Tryz.func40,Tryz.ntmps40
 go_wp2_with fail
 generalize World.alloc w _=W at HR HB ⊢;refine(Zbw T.r T.sp T.lk T.t0 T.t1 (.slice T.pa T.ag.length T.ca) (.slice T.pr T.rs.length T.cr) (.slice T.ps T.ss.length T.cs) T.al T.sh T.br T.pairs T.ag T.rs T.ss W ((J HT).below (J HB)).a.rs ((J HT).below (J HB)).r.rs ((J HT).below (J HB)).s.rs (J HT).a.cap (J HT).r.cap (J HT).s.cap).mono ?_;rintro e w2 ⟨rfl,hb2⟩;have HB2:=Za (Zd (J HB) hb2 (J HB).size);have HR2:=Za ((hb2.block w.heap.size (Zi (J HR))).trans (J HR));clear hb2 HR;cases ht:Jn T.r T.sp T.lk T.t0 T.t1 T.ag T.rs T.ss T.al T.sh T.br with
 | false=>have HN:=Za (show Re T l=2 by unfold Re Ro; rw [ht]; rfl);clear ht;unfold Zhi;go_wp2;go_returns;exact⟨_,[],by rw [J HN]; rfl,J HNO _,⟨fun _=>rfl,fun h=>by rw [J HN] at h; exact absurd h (by decide)⟩,J HB2⟩
 | true =>
  have HTT:=Za (show Ro T=true from ht);clear ht;unfold Zhi;by_cases h64:64<l.length
  ·have HN:=Za (show Re T l=4 by unfold Re; rw [J HTT]; simp only [Bool.true_eq_false,if_false]; rw [if_pos h64]);go_wp2;go_returns;exact⟨_,[],by rw [J HN]; rfl,J HNO _,⟨fun _=>rfl,fun h=>by rw [J HN] at h; exact absurd h (by decide)⟩,J HB2⟩
  ·have HN:=Za (show Re T l=if (Zma T l&&Zri l)=true then 0 else 6 by unfold Re; rw [J HTT]; simp only [Bool.true_eq_false,if_false]; rw [if_neg h64]);obtain⟨t0,t1,t2,t3,t4,t5,t6,t7,t8,t9,t10,t11⟩:=cT12 (J HR2);go_wp2_with fail
   clear t0 t1 t2 t3 t4 t5 t6 t7 t8 t9 t10 t11;refine(Zjf T l _ w2 ((J HL).below (J HB2))).mono ?_;rintro e w3 ⟨rfl,hb3⟩;have HB3:=Za (Zd (J HB2) hb3 (J HB2).size);have HR3:=Za ((hb3.block w.heap.size (Zi (J HR2))).trans (J HR2));clear hb3 HR2;cases h1:Zma T l with
   | false=>have HN2:=Za (show Re T l=6 by rw [J HN,h1]; rfl);clear h1;go_wp2;go_returns;exact⟨_,[],by rw [J HN2]; rfl,J HNO _,⟨fun _=>rfl,fun h=>by rw [J HN2] at h; exact absurd h (by decide)⟩,J HB3⟩
   | true =>
    have H1:=Za h1;clear h1;go_wp2_with fail
    refine(Zmb l _ w3 ((J HL).below (J HB3)) (by omega)).mono ?_;rintro e w4 ⟨rfl,hb4⟩;have HB4:=Za (Zd (J HB3) hb4 (J HB3).size);have HR4:=Za ((hb4.block w.heap.size (Zi (J HR3))).trans (J HR3));clear hb4 HR3;cases h2:Zri l with
    | false=>have HN2:=Za (show Re T l=6 by rw [J HN,J H1,h2]; rfl);clear h2;go_wp2;go_returns;exact⟨_,[],by rw [J HN2]; rfl,J HNO _,⟨fun _=>rfl,fun h=>by rw [J HN2] at h; exact absurd h (by decide)⟩,J HB4⟩
    | true =>
     have HN2:=Za (show Re T l=0 by rw [J HN,J H1,h2]; rfl);clear h2;obtain⟨t0,t1,t2,t3,t4,t5,t6,t7,t8,t9,t10,t11⟩:=cT12 (J HR4);go_wp2_with fail
     clear t0 t1 t2 t3 t4 t5 t6 t7 t8 t9 t10 t11;refine(Ygh T l _ w4 ((J HL).below (J HB4)) (by omega) K (J HON)).mono ?_;rintro e w5 ⟨v,k,rfl,g1,g3,hb5⟩;have HB5:=Za (Zd (J HB4) hb5 (J HB4).size);have HX:=Za (show Zzz T l (Jd T.t0 T.t1 k (Je l)).made from⟨fun h=>absurd (J HN2) h,fun _=>⟨k,g1,rfl⟩⟩);have HG:=Za (Xm g3 (show w.heap.size≤w4.heap.size from(J HB4).size));obtain⟨vp,vc,rfl⟩:=Zr g3;clear g1 g3 hb5;go_wp2;go_returns;exact⟨_,_,by rw [J HN2]; rfl,J HG,J HX,J HB5⟩
theorem Yab (T:Yh)(l:List Gj)(lv:Value)(w:World)(hT:TbO w T)(hl:PrS w lv l)(K:Nat)(hO:OrN T l K):Calls Tryz.prog 25 #[.agg #[.int .i64 T.r,.int .i64 T.sp,.int .i64 T.lk,.int .i64 T.t0,.int .i64 T.t1,.slice T.pa T.ag.length T.ca,.slice T.pr T.rs.length T.cr,.slice T.ps T.ss.length T.cs,.int .i64 T.al,.int .i64 T.sh,.int .i64 T.br,.bool T.pairs],lv] w fun e w'=>∃ v md,e=.returned (.tuple #[v,Rl (Re T l)])∧w'.ownsRow w.heap.size 36 4 v md.length (Ka md)∧Zzz T l md∧Below w.heap.size w w':=by
 obtain⟨lp,lc,rfl,hn⟩:=hl.shape;obtain⟨r0,hb0,hz0⟩:=al0 w (.cells #[.int .i64 T.r,.int .i64 T.sp,.int .i64 T.lk,.int .i64 T.t0,.int .i64 T.t1,.slice T.pa T.ag.length T.ca,.slice T.pr T.rs.length T.cr,.slice T.ps T.ss.length T.cs,.int .i64 T.al,.int .i64 T.sh,.int .i64 T.br,.bool T.pairs] 25 (0,0));have HB:=Za hb0;have HC:=Za (Yaa T l _ _ (hT.below hb0) (hl.below hb0) K hO);clear r0 hb0 hz0 hT hl hO;go_enter Tryz.func25,Tryz.ntmps25
 go_wp2_with fail
 generalize World.alloc w _=W at HB HC ⊢;refine(J HC).mono ?_;rintro e w2 ⟨v,md,rfl,g1,g2,hb2⟩;have HB2:=Za (Zd (J HB) hb2 (J HB).size);have HG:=Za (Xm g1 (show w.heap.size≤W.heap.size from(J HB).size));have HX:=Za g2;obtain⟨vp,vc,rfl⟩:=Zr g1;obtain⟨en,hen⟩:∃ en,en=Rl (Re T l):=⟨_,rfl⟩;rw [← hen];have HEN:=Za hen;clear g1 g2 hb2 HC hen;go_wp2;go_returns;exact⟨_,md,by rw [← J HEN]; rfl,J HG,J HX,J HB2⟩
theorem Yac (T:Yh)(l:List Gj)(lv:Value)(w:World)(hE:Ya w)(hT:TbO w T)(hl:PrS w lv l)(K:Nat)(hO:OrN T l K):Calls Tryz.prog 7 #[.agg #[.int .i64 T.r,.int .i64 T.sp,.int .i64 T.lk,.int .i64 T.t0,.int .i64 T.t1,.slice T.pa T.ag.length T.ca,.slice T.pr T.rs.length T.cr,.slice T.ps T.ss.length T.cs,.int .i64 T.al,.int .i64 T.sh,.int .i64 T.br,.bool T.pairs],lv] w fun e w'=>∃ v md,e=.returned (.tuple #[v,Dw (Re T l) (-1) (-1) (-1)])∧w'.ownsRow w.heap.size 36 4 v md.length (Ka md)∧Zzz T l md∧Below w.heap.size w w':=by
 obtain⟨lp,lc,rfl,hn⟩:=hl.shape;obtain⟨r0,r1,hb0,hz0⟩:=Mi w (.cells #[.int .i64 T.r,.int .i64 T.sp,.int .i64 T.lk,.int .i64 T.t0,.int .i64 T.t1,.slice T.pa T.ag.length T.ca,.slice T.pr T.rs.length T.cr,.slice T.ps T.ss.length T.cs,.int .i64 T.al,.int .i64 T.sh,.int .i64 T.br,.bool T.pairs] 25 (0,0)) (.cells #[.int .i64 0,.int .i64 0,.int .i64 0,.int .i64 0] 29 (0,0));have HB:=Za hb0;have HR:=Za r1;have HC:=Za (Yab T l _ _ (hT.below hb0) (hl.below hb0) K hO);have HE:=Za (fun V (hb:Below w.heap.size w V)=>hE.keep hb);clear r0 r1 hb0 hz0 hT hl hE hO;go_enter Tryz.func7,Tryz.ntmps7
 go_wp2_with fail
 generalize World.alloc (World.alloc w _) _=W at HB HC HR ⊢;refine(J HC).mono ?_;rintro e w2 ⟨v,md,rfl,g1,g2,hb2⟩;have HB2:=Za (Zd (J HB) hb2 (J HB).size);have HR2:=Za ((hb2.block (w.heap.size+1) (Zi (J HR))).trans (J HR));have HG:=Za g1;have HX:=Za g2;have HLT:=Za (Zi (J HR));obtain⟨vp,vc,rfl⟩:=Zr g1;have HF:=Za (show Calls Tryz.prog 26 #[Rl (Re T l)] w2 fun e w'=>e=.returned (Dw (Re T l) (-1) (-1) (-1))∧Below w2.heap.size w2 w' by
  unfold Rl;split
  ·rename_i h;rw [h];exact Lu w2
  ·exact Lv _ w2 (J HE w2 (J HB2)))
 obtain⟨cn,hcn⟩:∃ cn,cn=Re T l:=⟨_,rfl⟩;rw [← hcn] at HF ⊢;have HCN:=Za hcn;clear g1 g2 hb2 HC hcn;generalize Rl cn=en at HF ⊢;go_wp2_with fail
 refine(J HF).mono ?_;rintro e w3 ⟨rfl,hb3⟩;have HB3:=Za (Zd (J HB2) hb3 (J HB2).size);have HR3:=Za ((hb3.block (w.heap.size+1) (Zi (J HR2))).trans (J HR2));have HG3:=Za (Yd (J HG) (Xe (o:=none) hb3) (fun g _ e=>by cases e));clear hb3 HF;unfold Dw;go_wp2_with (refine wpList_store_row rfl 29 (.tmp 5) (.tmp 16) rfl (w.heap.size+1) #[.int .i64 cn,.int .i64 (-1),.int .i64 (-1),.int .i64 (-1)] rfl rfl 29 _ (J HR3) (Tryz.infFltE.trans rfl) rfl (by simp [Value.oneCell']) ?_)
 refine bodyPost_ret (Np (fn:=Tryz.f7) (u:=4) (q:=5) (uy:=29) rfl _ _ (w.heap.size+1) 29 #[.int .i64 cn,.int .i64 (-1),.int .i64 (-1),.int .i64 (-1)] (0,0) _ rfl (setRow_heap _ _ _ _ _ _ (J HR3)) Tryz.underlying29 rfl (Tryz.infFltE.trans rfl)) rfl ?_;refine⟨_,md,by rw [← J HCN],?_,J HX,Zg (J HB3) (by omega)⟩;exact Xm (Zcs (J HG3) (J HLT) _) (J HB).size
end Go.Proofs.YtkenknfgeoecbaaGreatDoor
