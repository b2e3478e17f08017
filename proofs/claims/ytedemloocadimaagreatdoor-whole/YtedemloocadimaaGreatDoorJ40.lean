import Derived.Test.YtedemloocadimaaGreatDoorWhP
import Derived.Test.YtedemloocadimaaGreatDoorJ18
import Derived.Test.YtedemloocadimaaGreatDoorJ22
import Derived.Test.YtedemloocadimaaGreatDoorJ28
import Derived.Test.YtedemloocadimaaGreatDoorTblReg
import Derived.Deep.CutRange
import Derived.Test.YtedemloocadimaaGreatDoorJ30
import Derived.RegionCalls
import Derived.Test.YtedemloocadimaaGreatDoorJ23
import Derived.Laws.AppendOwn
import Derived.Laws.OwnMore
import Derived.Deep.RegionLaw
import Derived.Below
import Derived.WalkSmall
import Derived.Laws.CopyOwn
import Derived.Laws.MakeOwn
import Derived.Deep.QuietTactic
import Derived.BigQuiet
import Derived.Deep.RegionWith
import Derived.Deep.RegionHeld3
import Derived.Test.YtedemloocadimaaGreatDoorJ24
import Derived.Deep.CutBlock
import Derived.Deep.DeepCutAuto
import Derived.Test.YtedemloocadimaaGreatDoorJ7
namespace Go.Proofs.YtedemloocadimaaGreatDoor
open Go.RowKit
set_option maxHeartbeats 4000000
set_option maxRecDepth 100000
def Zog:Zy:=⟨[(0,0),(0,1)],1,[5,-1],[],[[⟨3,1,0,1,0,0,[],[]⟩,⟨16,0,0,0,0,0,[],[1]⟩]]⟩
def Jy:Zw:=⟨[Zog],[]⟩
theorem alK (w:World)(o:Obj)(g:Nat)(h:g<w.heap.size):(w.alloc o).heap[g]?=w.heap[g]?:=Mn _ _ _ h
theorem Zbq {w:World}{g so:Nat}{cs:Array Value}{t:TypeId}{fr:Nat×Nat}{l:List Value}(h:w.heap[g]?=some (.cells cs t fr))(hl:(cs.toList.drop so).take l.length=l):w.rangeAt g so l:=by
 intro j x hx;rw [Zr h (so+j),← Array.getElem?_toList];have hj:j<l.length:=by
  rcases Nat.lt_or_ge j l.length with h' | h'
  ·
   exact h'
  ·
   rw [List.getElem?_eq_none h'] at hx; cases hx
 rw [← hx];conv=>rhs; rw [← hl]
 rw [List.getElem?_take_of_lt hj,List.getElem?_drop]
theorem alN {A:World}{o:Obj}{k:Nat}(h:k=A.heap.size):(A.alloc o).heap[k]?=some o:=h ▸ heap_alloc_new A o
theorem Yha (w:World)(o0 o1 o2 o3 o4 o5 o6:Obj)(V:World)(hV:V=((((((w.alloc o0).alloc o1).alloc o2).alloc o3).alloc o4).alloc o5).alloc o6):V.heap.size=w.heap.size+7∧V.heap[w.heap.size+1]?=some o1∧V.heap[w.heap.size+1+1]?=some o2∧V.heap[w.heap.size+1+1+1]?=some o3∧V.heap[w.heap.size+1+1+1+1]?=some o4∧V.heap[w.heap.size+1+1+1+1+1]?=some o5∧V.heap[w.heap.size+1+1+1+1+1+1]?=some o6:=by
 subst hV;refine⟨by simp,?_,?_,?_,?_,?_,?_⟩
 ·
  exact(alK _ _ _ (by simp <;> omega)).trans ((alK _ _ _ (by simp <;> omega)).trans ((alK _ _ _ (by simp <;> omega)).trans ((alK _ _ _ (by simp <;> omega)).trans ((alK _ _ _ (by simp <;> omega)).trans (alN (by simp))))))
 ·
  exact(alK _ _ _ (by simp <;> omega)).trans ((alK _ _ _ (by simp <;> omega)).trans ((alK _ _ _ (by simp <;> omega)).trans ((alK _ _ _ (by simp <;> omega)).trans (alN (by simp)))))
 ·
  exact(alK _ _ _ (by simp <;> omega)).trans ((alK _ _ _ (by simp <;> omega)).trans ((alK _ _ _ (by simp <;> omega)).trans (alN (by simp))))
 ·
  exact(alK _ _ _ (by simp <;> omega)).trans ((alK _ _ _ (by simp <;> omega)).trans (alN (by simp)))
 ·
  exact(alK _ _ _ (by simp <;> omega)).trans (alN (by simp))
 ·
  exact alN (by simp)
theorem ls0 (size:Nat)(w:World)(A:Nat→Array Value):LS size w (.slice none 0 0) 0 A:=⟨none,0,rfl,Nat.le_refl _,by decide,fun h=>absurd h (by decide)⟩
theorem Ybg (w:World):Calls Tryz.prog 11 #[] w fun e w'=>(∃ b A E,e=.returned (.agg #[.slice (some ⟨b,0,none⟩) 1 1,.slice none 0 0])∧Ov w' (.slice (some ⟨b,0,none⟩) 1 1) (.slice none 0 0) Jy A E)∧Below w.heap.size w w':=by
 go_enter Tryz.func11,Tryz.ntmps11
 go_wp2;go_returns;refine⟨⟨_,fun _=>#[.slice (some ⟨w.heap.size+1,0,none⟩) 2 2,.int .i64 1,.slice (some ⟨w.heap.size+1+1,0,none⟩) 2 2,.slice none 0 0,.slice (some ⟨w.heap.size+1+1+1+1+1,0,none⟩) 1 1],fun _=>#[],rfl,?_⟩,by go_grown⟩;obtain⟨hz,r1,r2,r3,r4,r5,r6⟩:=Yha w _ _ _ _ _ _ _ _ rfl;generalize World.alloc _ _=V at hz r1 r2 r3 r4 r5 r6 ⊢;have k2:∀ i,i<2→i=0∨i=1:=fun i hi=>by omega
 have hblk:Zat V (.slice (some ⟨w.heap.size+1+1+1+1,0,none⟩) 2 2) [⟨3,1,0,1,0,0,[],[]⟩,⟨16,0,0,0,0,0,[],[1]⟩]:=by
  refine⟨fun k=>if k=0 then #[.int .i64 3,.int .i64 1,.int .i64 0,.int .i64 1,.int .u64 0,.int .i64 0,.slice none 0 0,.slice none 0 0] else #[.int .i64 16,.int .i64 0,.int .i64 0,.int .i64 0,.int .u64 0,.int .i64 0,.slice none 0 0,.slice (some ⟨w.heap.size+1+1+1,0,none⟩) 1 1],⟨_,2,rfl,Nat.le_refl _,show(2:Nat)<Jk by decide,fun _=>⟨_,0,rfl,by omega,fun i hi=>?_⟩⟩,fun k hk=>?_⟩
  ·
   rcases k2 i hi with rfl | rfl
   ·
    exact Zbq r4 rfl
   ·
    exact Zbq r4 rfl
  ·
   rcases k2 k hk with rfl | rfl
   ·
    exact⟨_,_,rfl,ls0 _ _ _,Li.nil _⟩
   ·
    exact⟨_,_,rfl,ls0 _ _ _,Li.new (ns:=[1]) r3 (by decide)⟩
 refine⟨⟨_,1,rfl,Nat.le_refl _,show(1:Nat)<Jk by decide,fun _=>⟨_,0,rfl,by omega,fun i hi=>?_⟩⟩,fun k hk=>?_,ls0 _ _ _,fun k hk=>absurd hk (by simp [Jy])⟩
 ·
  obtain rfl:i=0:=by simp [Jy] at hi; exact hi
  exact Zbq r6 rfl
 ·
  obtain rfl:k=0:=by simp [Jy] at hk; exact hk
  refine⟨_,_,_,_,fun _=>.slice (some ⟨w.heap.size+1+1+1+1,0,none⟩) 2 2,rfl,⟨_,2,rfl,Nat.le_refl _,show(2:Nat)<Jk by decide,fun _=>⟨_,0,rfl,by omega,fun i hi=>?_⟩⟩,Li.new (ns:=[5,-1]) r2 (by decide),Li.nil _,⟨_,1,rfl,Nat.le_refl _,show(1:Nat)<Jk by decide,fun _=>⟨_,0,rfl,by omega,fun i hi=>?_⟩⟩,fun k hk=>?_⟩
  ·
   rcases k2 i hi with rfl | rfl
   ·
    exact Zbq r1 rfl
   ·
    exact Zbq r1 rfl
  ·
   obtain rfl:i=0:=by simp [Jy,Zog] at hi; exact hi
   exact Zbq r5 rfl
  ·
   obtain rfl:k=0:=by simp [Jy,Zog] at hk; exact hk
   exact hblk
structure TbE where
 r:Int
 sp:Int
 lk:Int
 t0:Int
 t1:Int
 pa:Option Addr
 ag:List Int
 ca:Nat
 pr:Option Addr
 rs:List Int
 cr:Nat
 ps:Option Addr
 ss:List Int
 cs:Nat
 al:Int
 sh:Int
 br:Int
 pairs:Bool
def TbE.box (T:TbE):Array Value:=#[.int .i64 T.r,.int .i64 T.sp,.int .i64 T.lk,.int .i64 T.t0,.int .i64 T.t1,.slice T.pa T.ag.length T.ca,.slice T.pr T.rs.length T.cr,.slice T.ps T.ss.length T.cs,.int .i64 T.al,.int .i64 T.sh,.int .i64 T.br,.bool T.pairs]
structure TbR (w:World)(b:Nat)(T:TbE):Prop where
 a:Rv w b (.slice T.pa T.ag.length T.ca) T.ag
 r:Rv w b (.slice T.pr T.rs.length T.cr) T.rs
 s:Rv w b (.slice T.ps T.ss.length T.cs) T.ss
theorem Rv.at {w:World}{b:Nat}{p:Option Addr}{c:Nat}{ns:List Int}(h:Rv w b (.slice p ns.length c) ns){k:Nat}(hk:k<ns.length):∃ sb so,p=some ⟨sb,so,none⟩∧sb<b∧∀ i,i<ns.length→w.cell? ⟨sb,so+i,none⟩=some (.int .i64 (ns.getD i 0)):=by
 rcases h with⟨e,-⟩ | ⟨sb,so,cap,hv,hb,hc⟩
 ·
  rw [e] at hk; simp at hk
 ·
  injection hv with h1 h2 h3;exact⟨sb,so,h1,hb,hc⟩
theorem Yhd {w w':World}{B n size:Nat}{e:TypeId}{v:Value}{xs:List Value}{o:Option Nat}(h:w.ownsRow B e size v n xs)(hg:w.grownBy w' o)(hne:∀ g,v.ownBlock=some g→o≠some g):w'.ownsRow B e size v n xs :=
 h.kept hg (by
  cases hv:v.ownBlock with
  | none=>exact Or.inl rfl
  | some g=>exact Or.inr (fun e=>hne g hv e.symm))
theorem Yhe {a b:World}{o:Option Nat}(h:Below a.heap.size a b):a.grownBy b o:=⟨h.os,h.tape,h.output,h.size,fun q hq _=>h.block q hq⟩
def Yfn (id:Nat)(X:Act→World→Prop):Exit→Act→World→Prop
 | .exit n,a,w=>n=id∧X a w
 | _,_,_=>False
theorem Zij {P:Program}{c:Code}{id:Nat}{Q0:Exit→Act→World→Prop}{a:Act}{w:World}(h:c.wp P (Yfn id fun a w=>Q0 (.exit id) a w) a w):c.wp P Q0 a w:=wp_mono h (fun e a w hq=>by
 cases e with
 | exit n=>obtain⟨rfl,hx⟩:=hq; exact hx
 | normal=>exact hq.elim
 | goto l=>exact hq.elim
 | ret=>exact hq.elim
 | panic c=>exact hq.elim
 | outgrown=>exact hq.elim)
def Kk:Code→List Code
 | .loop c=>.loop c :: Kk c
 | .seq a b=>Kk a++Kk b
 | .block _ c=>Kk c
 | .scope c=>Kk c
 | .cond _ a b=>Kk a++Kk b
 | _=>[]
def Yfo (T:TbE):Bool:=Lq T.r T.sp T.lk T.t0 T.t1 T.ag T.rs T.ss T.al T.sh T.br
structure TbO (w:World)(T:TbE):Prop where
 a:Li w (.slice T.pa T.ag.length T.ca) T.ag
 r:Li w (.slice T.pr T.rs.length T.cr) T.rs
 s:Li w (.slice T.ps T.ss.length T.cs) T.ss
theorem TbO.below {w w':World}{T:TbE}(h:TbO w T)(hb:Below w.heap.size w w'):TbO w' T:=⟨h.a.below hb,h.r.below hb,h.s.below hb⟩
theorem Li.low {w:World}{p:Option Addr}{c:Nat}{ns:List Int}(h:Li w (.slice p ns.length c) ns):Rv w w.heap.size (.slice p ns.length c) ns:=by
 obtain⟨p',c',e,h2,h3,h4⟩:=h;injection e with e1 e2 e3;subst e1 e3;by_cases h0:0<ns.length
 ·
  obtain⟨sb,so,e,hc⟩:=h4 h0;exact Or.inr ⟨sb,so,c,by rw [e],by have:=World.block_lt_of_cell? w _ (hc 0 h0); simpa using this,hc⟩
 ·
  have hn:ns=[]:=List.length_eq_zero_iff.1 (by omega);exact Or.inl ⟨hn,p,c,by rw [hn]; rfl⟩
theorem Li.cap {w:World}{p:Option Addr}{c:Nat}{ns:List Int}(h:Li w (.slice p ns.length c) ns):∀ a n cap,Value.slice p ns.length c=.slice a n cap→n≤cap:=fun a n cap e=>by
 obtain⟨p',c',e',h2,h3,h4⟩:=h;injection e' with e1 e2 e3;injection e with f1 f2 f3;omega
theorem TbO.low {w:World}{T:TbE}(h:TbO w T):TbR w w.heap.size T:=⟨h.a.low,h.r.low,h.s.low⟩
section
variable {P:Program} {ops:Array Oper} {Q:Exit→Act→World→Prop} {md:Region.Mode} {C:World→Prop} {d:Nat}
def Cm (P:Program)(md:Region.Mode)(ops:Array Oper)(Q:Exit→Act→World→Prop)(C:World→Prop)(d:Nat):Nat→Array Bool→Act→World→Prop
 | 0,L,a,w=>Region.ready md ops L=[]∧Q .normal a w
 | n+1,L,a,w=>(Region.ready md ops L=[]→Q .normal a w)∧∀ i ∈ Region.ready md ops L,wpOp P ops Q i (fun a' w'=>((L.setIfInBounds i true).getD d true=false→C w')∧Cm P md ops Q C d n (L.setIfInBounds i true) a' w') a w
theorem Zik:∀(n:Nat) (L:Array Bool) (a:Act) (w:World),Cm P md ops Q C d n L a w→wpAny P md ops Q n L a w
 | 0,_,_,_,h=>h
 | n+1,_,_,_,h=>⟨h.1,fun i hi=>wpOp_mono (fun a' w' h'=>Zik n _ a' w' h'.2) (h.2 i hi)⟩
theorem Zly {i:Nat}{oi od:Oper}{v:Value}(hi:ops[i]?=some oi)(hd:ops[d]?=some od)(hwait:∃ e ∈ od.after,Region.binds md e=true∧e.on=i)
 (hsel:∀(j:Nat) (o:Oper) cs b,ops[j]?=some o→o.op≠.select cs b) (hQ:∀ c a w,Q (.panic c) (a.put oi.dst v) w→Q (.panic c) a w) :
 ∀(n:Nat) (L:Array Bool) (a:Act) (w:World),(∀ j oj,ops[j]?=some oj→j≠i→L.getD j true=false→(∀ e ∈ oj.after,Region.binds md e=true→e.on≠i)→oi.apart ops oj=true) →
  i ∈ Region.ready md ops L→YieldsIf P ops C oi v a→L.getD d true=false→C w→Cm P md ops Q C d n (L.setIfInBounds i true) (a.put oi.dst v) w→Cm P md ops Q C d (n+1) L a w:=by
 intro n;induction n with
 | zero =>
  intro L a w _ hr hy _ hC H;refine⟨fun h=>(by rw [h] at hr; cases hr),fun j hj=>?_⟩;by_cases hji:j=i
  ·
   subst hji;exact hy.wpOp hi hC ⟨fun _=>hC,H⟩
  ·
   have hx:=ready_mono hj hji;rw [H.1] at hx;cases hx
 | succ n ih =>
  intro L a w hfree hr hy hLd hC H;refine⟨fun h=>(by rw [h] at hr; cases hr),fun j hj=>?_⟩;by_cases hji:j=i
  ·
   subst hji;exact hy.wpOp hi hC ⟨fun _=>hC,H⟩
  ·
   have h1:=H.2 j (ready_mono hj hji);obtain⟨hun,oj,hoj,hall⟩:=mem_ready.1 hj;have hiu:=(mem_ready.1 hr).1;have hnot:∀ e ∈ oj.after,Region.binds md e=true→e.on≠i:=fun e he hb hq=>by
    have k1:=hall e he hb;rw [hq] at k1;rcases Nat.lt_or_ge i L.size with h' | h'
    ·
     simp [h'] at hiu k1;rw [hiu] at k1;cases k1
    ·
     simp [Array.getElem?_eq_none h'] at k1
   have hjd:j≠d:=fun e=>by
    subst e;rw [hoj] at hd;injection hd with hd;subst hd;obtain⟨e,he,hb,hq⟩:=hwait;exact hnot e he hb hq
   have h2:=wpOp_putIf hoj (hfree j oj hoj hji hun hnot) (fun cs b=>hsel i oi cs b hi) (fun cs b=>hsel j oj cs b hoj) hQ hy h1;refine wpOp_mono (fun a' w' h3=>?_) h2;have hLj:(L.setIfInBounds j true).getD d true=false:=by rw [getD_set_ne true hjd]; exact hLd
   have hid:i≠d:=fun e=>by
    subst e;rw [hi] at hd;injection hd with hd;subst hd;obtain⟨e,he,hb,hq⟩:=hwait;obtain⟨-,oi',hoi',hall'⟩:=mem_ready.1 hr;rw [hi] at hoi';injection hoi' with hoi';subst hoi';have k1:=hall' e he hb;rw [hq] at k1;rcases Nat.lt_or_ge i L.size with h' | h'
    ·
     simp [h'] at hiu k1;rw [hiu] at k1;cases k1
    ·
     simp [Array.getElem?_eq_none h'] at k1
   have hC':C w':=h3.2.1 (by rw [getD_set_ne true hjd,getD_set_ne true hid]; exact hLd);refine⟨fun _=>hC',ih (L.setIfInBounds j true) a' w' (fun k ok hk hki hku hno=>?_) (ready_mono hr (Ne.symm hji)) h3.1 hLj hC' ?_⟩
   ·
    refine hfree k ok hk hki ?_ hno;by_cases hjk:j=k
    ·
     subst hjk; exact hun
    ·
     rw [getD_set_ne true hjk] at hku; exact hku
   ·
    rw [Array.setIfInBounds_comm _ _ hji];exact h3.2.2
theorem Nw {i:Nat}{oi od:Oper}{v:Value}{n:Nat}{L:Array Bool}{a:Act}{w:World}(hi:ops[i]?=some oi)(hd:ops[d]?=some od)(hw:(od.after.any fun e=>Region.binds md e&&e.on==i)=true)
 (hs:Region.noSelect ops=true) (hf:Region.free md ops L i=true) (hr:(Region.ready md ops L).contains i=true) (hLd:L.getD d true=false)
 (hQ:∀ c a w,Q (.panic c) (a.put oi.dst v) w→Q (.panic c) a w) (hy:YieldsIf P ops C oi v a) (hC:C w)
 (h:Cm P md ops Q C d n (L.setIfInBounds i true) (a.put oi.dst v) w):Cm P md ops Q C d (n+1) L a w :=
 Zly hi hd (by
  obtain⟨k,hk,hq⟩:=Array.any_eq_true.1 hw;simp only [Bool.and_eq_true,beq_iff_eq] at hq;exact⟨_,Array.getElem_mem hk,hq.1,hq.2⟩) (Region.noSelect_spec hs) hQ n L a w (Region.free_spec hi hf) (by simpa using hr) hy hLd hC h
theorem Df {i:Nat}{o:Oper}{n:Nat}{L:Array Bool}{a:Act}{w:World}(hr:Region.ready md ops L=[i])(ho:ops[i]?=some o)
 (h:∀ K':Act→World→Prop,_root_.Go.Shut (∀ a w,((L.setIfInBounds i true).getD d true=false→C w)→Cm P md ops Q C d n (L.setIfInBounds i true) a w→K' a w)→if Region.wanted o (yielded ops a.tmps)=true then Oper.wp P o a w K' Q else K' (a.put o.dst undef) w):Cm P md ops Q C d (n+1) L a w:=by
 refine⟨fun h0=>(by rw [hr] at h0; cases h0),fun j hj=>?_⟩;rw [hr] at hj;obtain rfl:j=i:=by simpa using hj
 exact wpOp_step ho (fun K' hK=>h K' (fun a w h1 h2=>hK a w ⟨h1,h2⟩))
theorem Cb {L:Array Bool}{a:Act}{w:World}(hr:Region.ready md ops L=[])(h:Q .normal a w):∀ n,Cm P md ops Q C d n L a w
 | 0=>⟨hr,h⟩
 | _+1=>⟨fun _=>h,by rw [hr]; simp⟩
theorem Rb {id:Nat}{a:Act}{w:World}(hm:P.follows .mixedOrders=true)(h:Cm P .any ops Q C d ops.size (Array.replicate ops.size false) a w.drew):(Code.region id ops true).wp P Q a w :=
 wp_region_any hm (Zik _ _ _ _ h)
end
set_option maxHeartbeats 4000000
set_option maxRecDepth 100000
theorem Zzj (f:Zy)(pv b c d:Value)(w:World)(hp:LS 2 w pv f.params.length (fun k=>Me (f.params.getD k (0,0))))(hn:f.params.length≤8796093022208) :
 Calls Tryz.prog 72 #[.agg #[pv,.int .i64 f.results,b,c,d]] w fun e w'=>∃ v,e=.returned (.agg #[v,.int .i64 f.results])∧Li w' v (Oc f).1∧Below w.heap.size w w'∧(∀ sb so n c,v=.slice (some ⟨sb,so,none⟩) n c→w.heap.size≤sb):=by
 obtain⟨ti,hti,hz0,hz1,hz2⟩:=Sh Tryz.infoInt;have hx:=Gk w (.cells #[pv,.int .i64 f.results,b,c,d] 93 (0,0));have hp1:=hp.below hx.2.1;have hx2:=Gk (w.alloc (.cells #[pv,.int .i64 f.results,b,c,d] 93 (0,0))) (.cells #[.slice none 0 0,.int .i64 0] 59 (0,0));have hp2:=hp1.below hx2.2.1;have hx3:=Gk ((w.alloc (.cells #[pv,.int .i64 f.results,b,c,d] 93 (0,0))).alloc (.cells #[.slice none 0 0,.int .i64 0] 59 (0,0))) (.cells #[.slice none 0 0,.int .i64 f.results] 59 (0,0));have hp3:=hp2.below hx3.2.1;have hs1:=hx.2.2;have hs2:=hx2.2.2;have hs3:=hx3.2.2;have hW1:=Zd (Zd hx.2.1 hx2.2.1 (by omega)) hx3.2.1 (by omega);have hrr:=(hx3.2.1.block (w.heap.size+1) (by omega)).trans (hs1 ▸ hx2.1);have hrs:=hx3.1;rw [hs2,hs1] at hrs hs3;obtain⟨p,cap,rfl,hcap,hlt,hc⟩:=hp3.pairs;have hpb:=hp;have HC:=Za hc;have HW1:=Za hW1;have HRS:=Za hrs;have HRR:=Za hrr;have HS3:=Za hs3;have HPB:=Za hp.pairs;clear hc hx hp hp1 hx2 hp2 hW1 hrs hrr hx3 hp3 hs1 hs2 hs3 hpb;go_enter Tryz.func72,Tryz.ntmps72
 go_wp2_with fail
 generalize World.alloc (World.alloc (World.alloc w _) _) _=W at HC HW1 HRS HRR HS3 ⊢;go_loopw [12] (fun j w'=>∃(k:Nat) (v:Value),j=.int .i64 k∧k≤f.params.length∧w'.heap[w.heap.size+1+1]?=some (.cells #[v,.int .i64 f.results] 59 (0,0))∧w'.ownsRow W.heap.size 3 1 v k (wTk f.params k)∧Below (w.heap.size+2) W w') (fun j _=>f.params.length-(intOf j).toNat)
 case atStart=>exact⟨0,_,rfl,by omega,J HRS,World.ownsRow_nil _ _ _ _,Below.refl _ _⟩
 case round =>
  obtain⟨k,v,rfl,hk,hrow,how,hbw⟩:=hrel;have hws:=hbw.size;have cv:=(cR hrow 0);have r0:=fun X:Obj=>(Nj hrow 0 X).trans rfl;have fz:=fun j=>frozen_of_row _ _ j _ _ hrow;obtain⟨vp,vn,vc,hvs⟩:∃ vp vn vc,v=.slice vp vn vc:=by
   rcases how.2 with⟨e,_⟩ | ⟨g,cap,cur,e,_⟩
   ·
    exact⟨_,_,_,e⟩
   ·
    exact⟨_,_,_,e⟩
  subst hvs;by_cases hk2:k<f.params.length
  ·
   obtain⟨p',cap',he,-,-,hcc0⟩:=J HPB;injection he with e1 e2 e3;subst e1 e3;obtain⟨sb,so,rfl,hcc⟩:=hcc0 (by omega);have hsb:sb<w.heap.size:=World.block_lt_of_cell? w _ (hcc k hk2).1;have hbb:Below w.heap.size w wr:=(J HW1).trans (hbw.mono (Nat.le_add_right _ _));have c1:=(hbb.cell (p:=⟨sb,so+k*2,none⟩) hsb).trans (hcc k hk2).1;have c2:=(hbb.cell (p:=⟨sb,so+k*2+1,none⟩) hsb).trans (hcc k hk2).2;have hT:=J HS3;have hTl:w.heap.size+1+1<wr.heap.size:=by omega
   have HTL:=Za hTl;have HTK:=Za (Zcn f.params k hk2);have HOW:=Za how;have HBW:=Za hbw;have HROW:=Za hrow;clear hcc hcc0 how hbw hbb hrow hT hTl e2 fz cv HC;generalize f.params.getD k (0,0)=xy at c1 c2 HTK;obtain⟨x,y⟩:=xy;simp only at c1 c2;go_wp2_with (at_builtin; refine wpList_append_own _ rfl _ _ 35 rfl W.heap.size 3 ti _ 1 8 Tryz.underlying35 hti hz0 hz1 hz2 rfl (by decide) _ _ _ rfl (((J HOW).alloc _).alloc _) ⟨wr.heap.size+1,0,none⟩ 1 1 [.int .i64 x] rfl rfl (by intro j u hj; match j,hj with | 0,hj=>(simp at hj; subst hj; exact(World.cell?_alloc_at _ _ _ _ (by simp)).trans rfl)) (by intro u hu; simp at hu; subst hu; rfl) ?c3 ?c4 ?c5 ?_)
   case c3=>unfold maxLen; omega
   case c4=>omega
   case c5=>first | omega | (simp; omega)
   intro v' w7 hown hgr _;obtain⟨g2,cap2,rfl⟩:=Zfc hown;have hTl:=J HTL;have hT:=J HS3;have hne:∀ q,q<W.heap.size→some q≠(Value.slice vp vn vc).ownBlock:=fun q hq e=>by have:=((J HOW).lt q e.symm).1; omega
   have hrow7:=(hgr.block (w.heap.size+1+1) (by simp; omega) (hne _ (by omega))).trans ((((Below.refl wr.heap.size wr).alloc (Nat.le_refl _) _).alloc (by simp) _).block (w.heap.size+1+1) hTl |>.trans (J HROW));have c7:=(cR hrow7 0);have f7:=frozen_of_row _ _ 0 _ _ hrow7;have HNR:=Za (heap_setCell_same w7 (w.heap.size+1+1) 0 _ _ (.slice (some ⟨g2,0,none⟩) (k+1) cap2) hrow7);have HNW:=Za (show w7.ownsRow W.heap.size 3 1 (.slice (some ⟨g2,0,none⟩) (k+1) cap2) (k+1) (wTk f.params (k+1)) by rw [J HTK]; exact hown);have HN2:=Za (Ky (w':=w7.setCell ⟨w.heap.size+1+1,0,none⟩ (.slice (some ⟨g2,0,none⟩) (k+1) cap2)) (J HNW) (fun g hg=>heap_setCell_other _ _ _ _ (by show g≠w.heap.size+1+1; omega)));have HB7:=Za (show Below (w.heap.size+2) W (w7.setCell ⟨w.heap.size+1+1,0,none⟩ (.slice (some ⟨g2,0,none⟩) (k+1) cap2)) from
    have hb7:Below (w.heap.size+2) W w7:=(((J HBW).alloc (by omega) _).alloc (by simp; omega) _).trans ⟨hgr.os,hgr.tape,hgr.output,hgr.size,fun q hq=>hgr.block q (by simp; omega) (hne q (by omega))⟩;⟨hb7.os,hb7.tape,hb7.output,by simpa using hb7.size,fun q hq=>(heap_setCell_other _ _ _ _ (by show q≠w.heap.size+1+1; omega)).trans (hb7.block q hq)⟩)
   clear hown hgr hne hTl hT hrow7 r0 c1 c2;go_wp2;go_roundw
   case rel=>exact⟨k+1,_,by go_num,by omega,J HNR,J HN2,J HB7⟩
   case measure=>simp [intOf]; omega
  ·
   obtain rfl:k=f.params.length:=by omega
   have hvn:vn=f.params.length:=by
    rcases how.2 with⟨e,e0⟩ | ⟨g,cap,cur,e,_⟩
    ·
     injection e with _ e2 _; omega
    ·
     injection e with _ e2 _
   subst vn;unfold wTk at how;rw [List.take_length] at how;have hT:=J HS3;have HRR2:=Za ((hbw.block (w.heap.size+1) (by omega)).trans (J HRR));have HRS2:=Za hrow;have HOW:=Za how;have HBW:=Za hbw;clear hrow how hbw hT r0 fz cv;go_wp2_with (first | (refine wpList_load_row rfl 59 (.tmp 3) rfl (w.heap.size+1+1) rfl 59 #[.slice vp f.params.length vc,.int .i64 f.results] (0,0) _ (J HRS2) Tryz.underlying59 rfl (Tryz.infSigK.trans rfl) ?_) | (refine wpList_store_row rfl 59 (.tmp 2) (.tmp 24) rfl (w.heap.size+1) #[.slice vp f.params.length vc,.int .i64 f.results] rfl rfl 59 _ (J HRR2) (Tryz.infSigK.trans rfl) rfl (by simp [Value.oneCell']) ?_))
   refine bodyPost_ret (Iy (fn:=Tryz.f72) (q:=2) (uy:=59) rfl _ _ (w.heap.size+1) 59 #[.slice vp f.params.length vc,.int .i64 f.results] (0,0) _ rfl (setRow_heap _ _ _ _ _ _ (J HRR2)) Tryz.underlying59 rfl (Tryz.infSigK.trans rfl)) rfl ?_;have hT:=J HS3;refine⟨_,rfl,Li.of_own (base:=W.heap.size) (by rw [show((Oc f).1).length=f.params.length by simp [Oc]]; exact Ky (J HOW) (fun g hg=>setRow_other _ _ _ _ (by omega))) (by simp [Oc]; omega),Zx ((J HW1).trans ((J HBW).mono (by omega))) (by omega),fun sb so n c e=>by have h:=((J HOW).lt sb (by rw [e]; rfl)).1; omega⟩
theorem Mz {P:Program}{fn:Func}{p q:Tmp}{px:TypeId}(h:fn.results=#[.cell p px,.tmp q])(tmps:Array Value)(w:World)(g:Nat)(t:TypeId)(cs:Array Value)(fr:Nat×Nat)(d:TypeDesc)
 (hp:tmps.getD p undef=.pointer (some ⟨g,0,none⟩)) (hg:w.heap[g]?=some (.cells cs t fr)) (hu:P.underlying px=some d) (hd:(match d with | .struct _ | .array _ _=>true | _=>false)=true) (hi:(P.info? px).map (·.size)=some cs.size) :
 (results fn tmps).run P w=.ok (.tuple #[.agg cs,tmps.getD q undef]) w:=by
 have e1:tmps[p]?.getD undef=.pointer (some ⟨g,0,none⟩):=by simpa using hp
 simp [results,h,e1,asAddr,run_loadVar_row w g t px cs fr d hg hu hd hi]
theorem Zmu (w:World)(X0 X1 X2:Obj):(((w.alloc X0).alloc X1).alloc X2).heap[w.heap.size]?=some X0∧(((w.alloc X0).alloc X1).alloc X2).heap[w.heap.size+1]?=some X1∧(((w.alloc X0).alloc X1).alloc X2).heap[w.heap.size+1+1]?=some X2∧(((w.alloc X0).alloc X1).alloc X2).heap.size=w.heap.size+1+1+1∧Below w.heap.size w (((w.alloc X0).alloc X1).alloc X2):=by
 obtain⟨r0,b0,s0⟩:=Gk w X0;obtain⟨r1,b1,s1⟩:=Gk (w.alloc X0) X1;obtain⟨r2,b2,s2⟩:=Gk ((w.alloc X0).alloc X1) X2;rw [s0] at r1;rw [s1,s0] at r2;exact⟨(b2.block _ (by omega)).trans ((b1.block _ (by omega)).trans r0),(b2.block _ (by omega)).trans r1,r2,by omega,Zd (Zd b0 b1 (by omega)) b2 (by omega)⟩
theorem Yfc {w:World}{B e size n:Nat}{v:Value}{xs:List Value}(h:w.ownsRow B e size v n xs):∃ p c,v=.slice p n c:=by
 rcases h.2 with⟨e,e0⟩ | ⟨g,cap,cur,e,-⟩
 ·
  exact⟨none,0,by rw [e0]; exact e⟩
 ·
  exact⟨_,_,e⟩
theorem Zlx {P:Program}{fn:Func}{p q:Tmp}{px uy:TypeId}(h:fn.results=#[.cell p px,.cell q uy])(tmps:Array Value)(w:World)(g:Nat)(t:TypeId)(cs:Array Value)(fr:Nat×Nat)(d:TypeDesc)(g':Nat)(t':TypeId)(cs':Array Value)(fr':Nat×Nat)(d':TypeDesc)
 (hp:tmps.getD p undef=.pointer (some ⟨g,0,none⟩)) (hg:w.heap[g]?=some (.cells cs t fr)) (hu:P.underlying px=some d) (hd:(match d with | .struct _ | .array _ _=>true | _=>false)=true) (hi:(P.info? px).map (·.size)=some cs.size)
 (hp':tmps.getD q undef=.pointer (some ⟨g',0,none⟩)) (hg':w.heap[g']?=some (.cells cs' t' fr')) (hu':P.underlying uy=some d') (hd':(match d' with | .struct _ | .array _ _=>true | _=>false)=true) (hi':(P.info? uy).map (·.size)=some cs'.size) :
 (results fn tmps).run P w=.ok (.tuple #[.agg cs,.agg cs']) w:=by
 have e1:tmps[p]?.getD undef=.pointer (some ⟨g,0,none⟩):=by simpa using hp
 have e2:tmps[q]?.getD undef=.pointer (some ⟨g',0,none⟩):=by simpa using hp'
 simp [results,h,e1,e2,asAddr,run_loadVar_row w g t px cs fr d hg hu hd hi,run_loadVar_row w g' t' uy cs' fr' d' hg' hu' hd' hi']
theorem Tryz.infPfK:(Tryz.prog.info? 28).map (·.size)=some 4:=by kernel_rfl
theorem Yhu (n f b a:Int)(W:World):(Instr.field 28 (.agg #[.int .i64 n,.int .i64 f,.int .i64 b,.int .i64 a]) 0).run Tryz.prog W=.ok (.int .i64 n) W:=by kernel_rfl
theorem Rv.heap {w w':World}{b:Nat}{v:Value}{ns:List Int}(h:Rv w b v ns)(e:w'.heap=w.heap):Rv w' b v ns:=h.same (fun k _=>by rw [e])
theorem Zhm {w:World}{v:Value}{ns:List Int}(h:Li w v ns):Rv w w.heap.size v ns:=by
 obtain⟨p,cap,e,h2,h3,h4⟩:=h;rcases Nat.eq_zero_or_pos ns.length with h0 | h0
 ·
  have:ns=[]:=List.eq_nil_of_length_eq_zero h0;subst this;exact Or.inl ⟨rfl,p,cap,e⟩
 ·
  obtain⟨sb,so,e1,hc⟩:=h4 h0;subst e1;refine Or.inr ⟨sb,so,cap,e,World.block_lt_of_cell? w _ (hc 0 h0),fun i hi=>?_⟩;exact hc i hi
theorem Zeb {α:Type}{size:Nat}{w:World}{v:Value}{xs:List α}{A:Nat→Array Value}(h:LS size w v xs.length A):Kd size w w.heap.size v (xs.mapIdx fun k x=>(A k,x)):=by
 obtain⟨p,cap,e,h2,h3,h4⟩:=h;rcases Nat.eq_zero_or_pos xs.length with h0 | h0
 ·
  have:xs=[]:=List.eq_nil_of_length_eq_zero h0;subst this;exact Or.inl ⟨rfl,p,cap,e⟩
 ·
  obtain⟨sb,so,e1,hl,hc⟩:=h4 h0;subst e1;refine Or.inr ⟨sb,so,cap,by rw [List.length_mapIdx]; exact e,hl,fun i hi=>?_⟩;rw [List.length_mapIdx] at hi;rw [List.getElem_mapIdx];exact hc i hi
theorem Yeo {α:Type}{w:World}{v:Value}{xs:List α}{B:Nat→Value}(h:LS 1 w v xs.length (fun k=>#[B k])):VsB w w.heap.size v (xs.mapIdx fun k x=>(B k,x)):=by
 obtain⟨p,cap,e,h2,h3,h4⟩:=h;rcases Nat.eq_zero_or_pos xs.length with h0 | h0
 ·
  have:xs=[]:=List.eq_nil_of_length_eq_zero h0;subst this;exact Or.inl ⟨rfl,p,cap,e⟩
 ·
  obtain⟨sb,so,e1,hl,hc⟩:=h4 h0;subst e1;refine Or.inr ⟨sb,so,cap,by rw [List.length_mapIdx]; exact e,hl,fun i hi=>?_⟩;rw [List.length_mapIdx] at hi;rw [List.getElem_mapIdx];have:=hc i hi 0 _ rfl;simpa using this
theorem Ud {α β:Type}(xs:List α)(f:Nat→β):(xs.mapIdx fun k x=>(f k,x)).map (·.2)=xs:=List.ext_getElem (by simp) (by intro i h1 h2; simp)
theorem Sf {size:Nat}{w:World}{v:Value}{n:Nat}{A:Nat→Array Value}(h:LS size w v n A):n<Jk:=by
 obtain⟨_,_,_,_,h,_⟩:=h;exact h
theorem Zws {w:World}{A:Array Value}{i:Zq}(h:Zls w A i):Re w w.heap.size (A,i):=by
 obtain⟨av,ov,e,hl,ho⟩:=h;exact⟨av,ov,_,e,Ud _ _,fun q hq=>by
  obtain⟨k,hk,rfl⟩:=List.mem_mapIdx.1 hq;simp [Me,List.getD,hk],Zeb hl,Zhm ho,Sf hl,ho.lt⟩
theorem Zwt {w:World}{v:Value}{l:List Zq}(h:Zat w v l):Dl w w.heap.size (v,l):=by
 obtain⟨A,hl,he⟩:=h;exact⟨_,Ud _ _,Zeb hl,fun q hq=>by
  obtain⟨k,hk,rfl⟩:=List.mem_mapIdx.1 hq;exact Zws (he k hk),by rw [List.length_mapIdx]; exact Sf hl⟩
theorem Zsj {w:World}{A:Array Value}{f:Zy}(h:Kh w A f):Oh w w.heap.size (A,f):=by
 obtain⟨pv,hv,sv,bv,B,e,h⟩:=h;exact⟨pv,hv,sv,bv,_,_,e,⟨Ud _ _,fun q hq=>by
  obtain⟨k,hk,rfl⟩:=List.mem_mapIdx.1 hq;simp [Me,List.getD,hk],Zeb h.ps,Zhm h.hs,Zhm h.ss,Yeo h.bs,Ud _ _,fun q hq=>by
  obtain⟨k,hk,rfl⟩:=List.mem_mapIdx.1 hq;exact Zwt (h.each k hk),⟨by rw [List.length_mapIdx]; exact Sf h.ps,h.hs.lt,h.ss.lt,by rw [List.length_mapIdx]; exact Sf h.bs⟩⟩⟩
theorem Zec {w:World}{fv ev:Value}{P:Zw}{A E:Nat→Array Value}(h:Ov w fv ev P A E):Ow w w.heap.size P fv ev (P.funcs.mapIdx fun k x=>(A k,x)) (P.externs.mapIdx fun k x=>(E k,x)) :=
 ⟨Zeb h.fs,Zeb h.es,Ud _ _,Ud _ _,fun q hq=>by
  obtain⟨k,hk,rfl⟩:=List.mem_mapIdx.1 hq;exact Zsj (h.feach k hk),fun q hq=>by
  obtain⟨k,hk,rfl⟩:=List.mem_mapIdx.1 hq;obtain⟨lv,e1,e2⟩:=h.eeach k hk;exact⟨lv,e1,Zhm e2,e2.lt⟩,⟨by rw [List.length_mapIdx]; exact Sf h.fs,by rw [List.length_mapIdx]; exact Sf h.es⟩⟩
end Go.Proofs.YtedemloocadimaaGreatDoor
