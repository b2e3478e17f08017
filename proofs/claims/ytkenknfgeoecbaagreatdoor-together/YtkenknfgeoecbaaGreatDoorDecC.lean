import Derived.Test.YtkenknfgeoecbaaGreatDoorJ23
import Derived.Deep.Upon
namespace Go.Proofs.YtkenknfgeoecbaaGreatDoor
open Go.RowKit
set_option maxHeartbeats 4000000
set_option maxRecDepth 100000
def Jy {α β:Type}(R:α->β->Prop):List α->List β->Prop
 | [],[]=>True
 | a :: l,b :: m=>R a b∧Jy R l m
 | [],_ :: _=>False
 | _ :: _,[]=>False
section
variable {α β:Type} {R S:α->β->Prop}
theorem Jy.nil {R:α->β->Prop}:Jy R [] []:=trivial
theorem Jy.cons {a:α}{b:β}{l:List α}{m:List β}(h:R a b)(t:Jy R l m):Jy R (a :: l) (b :: m):=⟨h,t⟩
theorem Jy.ind {P:List α->List β->Prop}(h0:P [] [])(h1:∀ a b l m,R a b->P l m->P (a :: l) (b :: m)):∀(l:List α) (m:List β),Jy R l m->P l m
 | [],[],_=>h0
 | a :: l,b :: m,h=>h1 a b l m (show R a b∧Jy R l m from h).1 (Jy.ind h0 h1 l m (show R a b∧Jy R l m from h).2)
 | [],_ :: _,h=>(show False from h).elim
 | _ :: _,[],h=>(show False from h).elim
theorem Jy.len {l:List α}{m:List β}(h:Jy R l m):l.length=m.length:=by refine Jy.ind (R:=R) (P:=fun l m=>l.length=m.length) (by rfl) (fun a b l m _ ih=>?_) l m h;simp [ih]
theorem Jy.imp {l:List α}{m:List β}(h:Jy R l m)(hi:∀ a b,R a b->S a b):Jy S l m:=Jy.ind (R:=R) (P:=fun l m=>Jy S l m) Jy.nil (fun _ _ _ _ h ih=>Jy.cons (hi _ _ h) ih) l m h
theorem Jy.snoc {l:List α}{m:List β}{a:α}{b:β}(h:Jy R l m)(hr:R a b):Jy R (l++[a]) (m++[b]):=Jy.ind (R:=R) (P:=fun l m=>Jy R (l++[a]) (m++[b])) (Jy.cons hr Jy.nil) (fun _ _ _ _ h ih=>Jy.cons h ih) l m h
end
def Zbr (cs:List (Array Value)):List Value:=cs.flatMap (·.toList)
theorem Zpy (cs:List (Array Value))(c:Array Value):Zbr (cs++[c])=Zbr cs++c.toList:=by simp [Zbr]
theorem Zih {size:Nat}:∀(cs:List (Array Value)),(∀ c ∈ cs,c.size=size)->(Zbr cs).length=cs.length*size
 | [],_=>by simp [Zbr]
 | c :: cs,h=>by
  have h1:=h c (by simp);have h2:=Zih cs (fun d hd=>h d (by simp [hd]));have h3:Zbr (c :: cs)=c.toList++Zbr cs:=by simp [Zbr]
  rw [h3,List.length_append,h2,List.length_cons,Nat.succ_mul];simp [h1];omega
def Zsu (w:World)(B T size:Nat)(v:Value)(cs:List (Array Value)):Prop:=w.ownsRow B T size v cs.length (Zbr cs)∧∀ c ∈ cs,c.size=size
def Xd {α:Type}(w:World)(B T size:Nat)(R:Array Value->α->Prop)(v:Value)(xs:List α):Prop:=∃ cs,Zsu w B T size v cs∧Jy R cs xs
abbrev Xu (B:Nat)(w w':World):Prop:=∀ k,B<=k->k<w.heap.size->w'.heap[k]?=w.heap[k]?
theorem Xu.of_gb {w w':World}{b B:Nat}(h:w.grownBy w' (some b))(hb:b<B):Xu B w w':=fun k h1 h2=>h.block k h2 (by intro e; injection e with e; omega)
theorem Zsu.keep {w w':World}{B B' T size:Nat}{v:Value}{cs:List (Array Value)}(h:Zsu w B T size v cs)(hB:B'<=B)(hk:Xu B w w'):Zsu w' B' T size v cs:=by
 refine⟨⟨h.1.1,?_⟩,h.2⟩;rcases h.1.2 with h0 | ⟨g,cap,cur,e,h1,h2,h3⟩
 ·exact Or.inl h0
 ·exact Or.inr ⟨g,cap,cur,e,by omega,(hk g h1 (Zh h2)).trans h2,h3⟩
theorem Xd.keep {α:Type}{w w':World}{B B' T size:Nat}{R R':Array Value->α->Prop}{v:Value}{xs:List α}(h:Xd w B T size R v xs)(hB:B'<=B)(hk:Xu B w w')(hR:∀ c x,R c x->R' c x):Xd w' B' T size R' v xs:=by obtain⟨cs,h1,h2⟩:=h;exact⟨cs,h1.keep hB hk,h2.imp hR⟩
theorem Xd.shape {α:Type}{w:World}{B T size:Nat}{R:Array Value->α->Prop}{v:Value}{xs:List α}(h:Xd w B T size R v xs):∃ a c,v=.slice a xs.length c:=by
 obtain⟨cs,h1,h2⟩:=h;rw [← h2.len];rcases h1.1.2 with⟨e,e0⟩ | ⟨g,cap,cur,e,-⟩
 ·exact⟨none,0,by rw [e0]; exact e⟩
 ·exact⟨_,_,e⟩
theorem Xd.nil {α:Type}(w:World)(B T size:Nat)(R:Array Value->α->Prop):Xd w B T size R (.slice none 0 0) []:=⟨[],⟨World.ownsRow_nil _ _ _ _,fun c hc=>by cases hc⟩,.nil⟩
def Jt (w:World)(T size g n:Nat)(cs:List (Array Value)):Prop:=(∃ cur,w.heap[g]?=some (.cells cur T (0,0))∧cur.size=n*size∧cur.toList.take (cs.length*size)=Zbr cs)∧∀ c ∈ cs,c.size=size
def Rr (cur:Array Value)(o:Nat):List Value->Array Value
 | []=>cur
 | v :: vs=>Rr (cur.setIfInBounds o v) (o+1) vs
theorem Zah:∀(vs:List Value) (cur:Array Value) (o:Nat),(Rr cur o vs).size=cur.size
 | [],_,_=>rfl
 | v :: vs,cur,o=>by rw [Rr,Zah vs]; simp
theorem Zai:∀(vs:List Value) (cur:Array Value) (o:Nat),o+vs.length<=cur.size->(Rr cur o vs).toList.take (o+vs.length)=cur.toList.take o++vs
 | [],cur,o,_=>by simp [Rr]
 | v :: vs,cur,o,h=>by
  simp only [List.length_cons] at h;have h1:=Zai vs (cur.setIfInBounds o v) (o+1) (by simp; omega);rw [Rr,show o+(v :: vs).length=o+1+vs.length by simp; omega,h1];have h2:(cur.setIfInBounds o v).toList.take (o+1)=cur.toList.take o++[v]:=by rw [Array.toList_setIfInBounds,List.take_succ_eq_append_getElem (by simp; omega)];simp [List.take_set_of_le]
  rw [h2];simp
theorem Sw (g T:Nat):∀(vs:List Value) (o:Nat) (w:World) (cur:Array Value),w.heap[g]?=some (.cells cur T (0,0))->(w.setCells g o vs).heap[g]?=some (.cells (Rr cur o vs) T (0,0))
 | [],_,_,_,h=>h
 | v :: vs,o,w,cur,h=>Sw g T vs (o+1) _ _ (heap_setCell_same w g o cur T v h)
theorem Jt.store {w:World}{T size g n:Nat}{cs:List (Array Value)}(h:Jt w T size g n cs)(hn:cs.length<n)(c:Array Value)(hc:c.size=size):Jt (w.setCells g (cs.length*size) c.toList) T size g n (cs++[c]):=by
 obtain⟨⟨cur,h1,h2,h3⟩,h4⟩:=h;have hle:cs.length*size+c.toList.length<=cur.size:=by have:(cs.length+1)*size<=n*size:=Nat.mul_le_mul_right _ hn;rw [h2];simp [hc];rw [Nat.succ_mul] at this;omega
 refine⟨⟨Rr cur (cs.length*size) c.toList,Sw g T _ _ _ _ h1,by rw [Zah]; exact h2,?_⟩,fun d hd=>?_⟩
 ·have h5:=Zai c.toList cur (cs.length*size) hle;have h6:(cs++[c]).length*size=cs.length*size+c.toList.length:=by simp [hc,Nat.succ_mul]
  rw [h6,h5,h3,Zpy]
 ·rcases List.mem_append.1 hd with hd | hd
  ·exact h4 d hd
  ·simp at hd; subst hd; exact hc
theorem Jt.blk {w w':World}{T size g n:Nat}{cs:List (Array Value)}(h:Jt w T size g n cs)(e:w'.heap[g]?=w.heap[g]?):Jt w' T size g n cs:=by obtain⟨⟨cur,h1,h2⟩,h4⟩:=h;exact⟨⟨cur,e.trans h1,h2⟩,h4⟩
theorem Jt.there {w:World}{T size g n:Nat}{cs:List (Array Value)}(h:Jt w T size g n cs)(k:Nat)(hk:k<n):w.there g (k*size) size:=by
 obtain⟨⟨cur,h1,h2,-⟩,-⟩:=h;intro j hj;have:k*size+j<cur.size:=by have:(k+1)*size<=n*size:=Nat.mul_le_mul_right _ hk;rw [Nat.succ_mul] at this;omega
 refine⟨?_,frozen_of_row _ _ _ _ _ h1⟩;rw [Zi h1];simp [this]
theorem Jt.own {w:World}{T size g n B:Nat}{cs:List (Array Value)}(h:Jt w T size g n cs)(hn:cs.length=n)(hm:n<=1000)(hB:B<=g):Zsu w B T size (.slice (some ⟨g,0,none⟩) n n) cs:=by obtain⟨⟨cur,h1,h2,h3⟩,h4⟩:=h;refine⟨⟨Zih cs h4,Or.inr ⟨g,n,cur,by rw [hn],hB,h1,by omega,?_,h2,h3⟩⟩,h4⟩;unfold maxLen;omega
theorem Jt.start (w:World)(T size n:Nat)(z:Array Value):Jt (w.alloc (.cells (madeCells z (n*size)) T)) T size w.heap.size n []:=⟨⟨_,heap_alloc_new _ _,size_madeCells _ _,by simp [Zbr]⟩,fun c hc=>by cases hc⟩
theorem Uu {α:Type}{one:Dec α}{k n a q:Nat}(h:My one k a=.error q)(hn:k<=n):My one n a=.error q:=by
 induction n with
 | zero =>
  obtain rfl:k=0:=by omega
  exact h
 | succ n ih =>
  rcases Nat.lt_or_ge k (n+1) with x | x
  ·show Yi (My one n a) _=_;rw [ih (by omega)];rfl
  ·obtain rfl:k=n+1:=by omega
   exact h
theorem Nz {α:Type}{one:Dec α}{k a a1:Nat}{xs:List α}(h:My one k a=.ok (xs,a1)):My one (k+1) a=Yi (one a1) fun x a2=>.ok (xs++[x],a2):=by show Yi (My one k a) _=_;rw [h];rfl
theorem Kt {w:World}{b g:Nat}(hg:w.heap.size<=g):∀(vs:List Value) (o:Nat) (u:World),w.grownBy u (some b)->w.grownBy (u.setCells g o vs) (some b)
 | [],_,_,h=>h
 | _ :: vs,o,_,h=>Kt hg vs (o+1) _ (Zbx h (Or.inl hg))
def Lw {α:Type}(size:Nat)(R:World->Nat->Array Value->α->Prop)(w:World)(B:Nat)(v:Value)(x:α):Prop:=∃ c:Array Value,v=.agg c∧c.size=size∧c.all (·.oneCell')=true∧R w B c x
def Yba {α:Type}(R:World->Nat->Array Value->α->Prop)(w:World)(B:Nat)(v:Value)(x:α):Prop:=R w B #[v] x∧∃ n,v=.int .i64 n
def Zsv {α:Type}(R:World->Nat->Array Value->α->Prop)(w:World)(B:Nat)(v:Value)(x:α):Prop:=R w B #[v] x∧∃ p n c,v=.slice p n c
def Ue {α:Type}(R:World->Nat->Array Value->α->Prop):Prop:=∀ w w' B B' c x,B'<=B->Xu B w w'->R w B c x->R w' B' c x
theorem Uv (w:World)(g o:Nat)(vs:List Value){i:Nat}(hne:i≠g):(w.setCells g o vs).heap[i]?=w.heap[i]?:=by
 induction vs generalizing o w with
 | nil=>rfl
 | cons v vs ih=>exact(ih _ _).trans (heap_setCell_other w ⟨g,o,none⟩ i v hne)
theorem Sj {α:Type}{R:World->Nat->Array Value->α->Prop}{w wr w2:World}{b g n k T S a2:Nat}{s:ByteArray}{cs:List (Array Value)}{xs:List α}{x:α}{c:Array Value}(hM:Ue R)(hpt:Jt wr T S g n cs)(hall:Jy (R wr (g+1)) cs xs)(hgb:w.grownBy wr (some b))(hcl:cs.length=k)(hg2:wr.grownBy w2 (some b))(hR2:Lj w2 b s a2)(hrr:R w2 wr.heap.size c x)(hgl:g<wr.heap.size)(hbw:b<w.heap.size)(hs1:w.heap.size<=g)(hlt:k<n)(hc:c.size=S) :
 w2.there g (k*S) S∧Lj (w2.setCells g (k*S) c.toList) b s a2∧w.grownBy (w2.setCells g (k*S) c.toList) (some b)∧Jt (w2.setCells g (k*S) c.toList) T S g n (cs++[c])∧(cs++[c]).length=k+1∧Jy (R (w2.setCells g (k*S) c.toList) (g+1)) (cs++[c]) (xs++[x])∧g<(w2.setCells g (k*S) c.toList).heap.size:=by
 have hpt2:=hpt.blk (hg2.block g hgl (by intro e; injection e with e; omega));have hth:=hpt2.there k hlt;have hs2:=hg2.size;have hpt3:=hpt2.store (by rw [hcl]; exact hlt) c hc;rw [hcl] at hpt3;have hko:Xu (g+1) w2 (w2.setCells g (k*S) c.toList):=fun i h1 h2=>Uv _ _ _ _ (by omega);refine⟨hth,hR2.blk (Uv _ _ _ _ (by omega)),Kt (b:=b) (g:=g) (w:=w) (by omega) c.toList (k*S) w2 (Jm hgb hg2),hpt3,by rw [List.length_append,hcl]; rfl,Jy.snoc (hall.imp fun c y hy=>?_) ?_,hpt3.1.elim fun cur hc=>Zh hc.1⟩
 ·exact hM _ _ _ _ _ _ (Nat.le_refl _) hko (hM _ _ _ _ _ _ (Nat.le_refl _) (Xu.of_gb hg2 (by omega)) hy)
 ·exact hM _ _ _ _ _ _ (by omega) (fun i h1 h2=>hko i (by omega) h2) hrr
theorem Tryz.infoDInts:(Tryz.prog.info? 3).map (fun i=>(i.zero,i.size,i.bytes))=some (some (.int .i64 0),1,8):=by kernel_rfl
theorem Zsw (n:Nat)(hn:n<=1000):∃ z:Array Value,∀ w:World,(Instr.makeSlice 23 (.int .i64 (n:Int)) (.int .i64 (n:Int))).run Tryz.prog w=.ok (.slice (some ⟨w.heap.size,0,none⟩) n n) (w.alloc (.cells (madeCells z n) 3)):=by obtain⟨i,hi,hz,hs,hby⟩:=Jx Tryz.infoDInts;refine⟨(.int .i64 0:Value).cells,fun w=>?_⟩;have h:=run_make (P:=Tryz.prog) w 23 3 i _ Tryz.underlying23 hi hz .i64 .i64 n n (by omega) (Int.le_refl _) (by rw [hby]; omega) (by omega);simpa [hs] using h
theorem Dk {α:Type}(F:Nat)(hcf:∀ args w,(callFunc F args).run Tryz.prog w=.ok (.enter F args) w)(R:World->Nat->Array Value->α->Prop)(hR:Ue R)(one:Dec α)(b:Nat)(s:ByteArray)(a:Nat)(lo hi:Int)(w:World)(h:Lj w b s a)(hlo:0<=lo)(hhi:hi<=1000)
 (hone:∀ a' w',Lj w' b s a'->w.grownBy w' (some b)->Calls Tryz.prog F #[.pointer (some ⟨b,0,none⟩)] w' (Ya b s (Yba R) (one a') w')) :
 Calls Tryz.prog 175 #[.pointer (some ⟨b,0,none⟩),.int .i64 lo,.int .i64 hi,.func (.func F) #[.pointer (some ⟨b,0,none⟩)] #[]] w (Ya b s (fun w B v xs=>Xd w B 3 1 (R w B) v xs) (Ye s lo hi one a) w):=by
 have HN:=Zc (Xb b s a lo hi w h (by omega));have HONE:=Zc hone;have HMON:=Zc hR;have hbw:=h.lt;clear hone h hR;cases hd:Zw s lo hi a with
 | error q =>
  have HD:=Zc (show Ye s lo hi one a=.error q by unfold Ye; rw [hd]; rfl);rw [hd] at HN;go_enter Tryz.func175,Tryz.ntmps175
  go_wp2_with fail
  refine(O HN).mono ?_;intro e w2 h2;have h3:=Ya.err (RW:=fun w B v (xs:List α)=>Xd w B 3 1 (R w B) v xs) h2 (Xi w (some b));obtain⟨g1,g,rfl,g2,g3⟩:=h2;refine⟨rfl,?_⟩;rw [O HD];exact h3
 | ok p =>
  obtain⟨nv,a1⟩:=p;have hnv:lo<=nv∧nv<=hi:=by
   unfold Zw Lm at hd;split at hd
   ·split at hd
    ·injection hd with hd; injection hd with h1 h2; rw [← h1]; assumption
    ·cases hd
   ·cases hd
  obtain⟨n,rfl⟩:=Int.eq_ofNat_of_zero_le (show 0<=nv by omega);have hn:n<=1000:=by omega
  have HD:=Zc (show Ye s lo hi one a=My one n a1 by unfold Ye; rw [hd]; rfl);rw [hd] at HN;obtain⟨z,hmk⟩:=Zsw n hn;clear hnv hd;go_enter Tryz.func175,Tryz.ntmps175
  go_wp2_with fail
  refine(O HN).mono ?_;rintro e w1 ⟨hg1,v,rfl,hv,hR1⟩;have hv':v=.int .i64 (n:Int):=hv;subst hv';have hs1:=hg1.size;have hst:=Jt.start w1 3 1 n z;rw [Nat.mul_one] at hst;have HG1:=Zc (Jm hg1 (Yd w1 (.cells (madeCells z n) 3) (some b)));have HR1:=Zc (hR1.alloc (.cells (madeCells z n) 3));have HST:=Zc hst;have HMK:=Zc hmk;clear hg1 hv hR1 hst HN;go_wp2_with fail
  clear hmk;generalize hW:w1.alloc (.cells (madeCells z n) 3)=W at HG1 HR1 HST ⊢;have hWs:W.heap.size=w1.heap.size+1:=by rw [← hW]; simp
  obtain⟨g,hg⟩:∃ g,g=w1.heap.size:=⟨_,rfl⟩;rw [← hg] at HST hs1 hWs ⊢;clear hW hg HMK;go_loopw [18] (fun j w'=>∃(k:Nat) (xs:List α) (ak:Nat) (cs:List (Array Value)),j=.int .i64 k∧k<=n∧My one k a1=.ok (xs,ak)∧Lj w' b s ak∧w.grownBy w' (some b)∧Jt w' 3 1 g n cs∧cs.length=k∧Jy (R w' (g+1)) cs xs∧g<w'.heap.size) (fun j _=>n-(intOf j).toNat)
  case atStart=>exact⟨0,[],a1,[],rfl,by omega,rfl,O HR1,O HG1,O HST,rfl,.nil,by omega⟩
  case round =>
   obtain⟨k,xs,ak,cs,rfl,hk,hrep,hRd,hgb,hpt,hcl,hall,hgl⟩:=hrel;by_cases hlt:k<n
   ·have HCALL:=Zc (O HONE ak wr hRd hgb);have HNX:=Zc (Nz hrep);have HPT:=Zc hpt;have HALL:=Zc hall;have HGB:=Zc hgb;have HCL:=Zc hcl;clear hrep hRd hgb hpt hall hcl;go_wp2_with fail
    refine(O HCALL).mono ?_;intro e w2 h2;cases ho:one ak with
    | error q=>rw [ho] at h2;have h3:=Ya.err (RW:=fun w B v (xs:List α)=>Xd w B 3 1 (R w B) v xs) h2 (O HGB);obtain⟨g1,g',rfl,g2,g3⟩:=h2;refine⟨rfl,?_⟩;have h4:=O HNX;rw [ho] at h4;rw [O HD,Uu h4 (by omega)];exact h3
    | ok p =>
     obtain⟨x,a2⟩:=p;rw [ho] at h2;obtain⟨hg2,v,rfl,hvr,hR2⟩:=h2;obtain⟨hrr,vn,rfl⟩:=hvr;obtain⟨hth,z1,z2,z3,z4,z5,hsz⟩:=Sj (O HMON) (O HPT) (O HALL) (O HGB) (O HCL) hg2 hR2 hrr hgl hbw hs1 hlt (show((#[.int .i64 vn]:Array Value)).size=1 from rfl);have HNX2:=Zc (show My one (k+1) a1=.ok (xs++[x],a2) by rw [O HNX,ho]; rfl);have HRZ:=Zc z1;have HGZ:=Zc z2;have HPZ:=Zc z3;have HLZ:=Zc z4;have HAZ:=Zc z5;have hs2:=hg2.size;clear hg2 hrr hR2 ho HNX HPT HALL HGB HCALL z1 z2 z3 z4 z5;have e1:w2.setCells g (k*1) (#[.int .i64 vn]:Array Value).toList=w2.setCell ⟨g,k,none⟩ (.int .i64 vn):=by rw [Nat.mul_one]; rfl
     rw [e1] at HRZ HGZ HPZ HAZ hsz;obtain⟨hq1,hq2⟩:=hth 0 (by decide);rw [Nat.mul_one,Nat.add_zero] at hq1 hq2;obtain⟨uu,hq3⟩:=Option.isSome_iff_exists.1 hq1;clear e1 hth hq1;go_wp2;go_roundw
     case rel=>exact⟨k+1,xs++[x],a2,cs++[(#[.int .i64 vn]:Array Value)],by go_num,by omega,O HNX2,O HRZ,O HGZ,O HPZ,O HLZ,O HAZ,hsz⟩
     case measure=>simp [intOf]; omega
   ·obtain rfl:k=n:=by omega
    have HREP:=Zc hrep;have HOWN:=Zc (show Xd wr w.heap.size 3 1 (R wr w.heap.size) (.slice (some ⟨g,0,none⟩) k k) xs from⟨cs,hpt.own hcl hn (by omega),hall.imp fun c y hy=>O HMON _ _ _ _ _ _ (by omega) (fun _ _ _=>rfl) hy⟩);have HRZ:=Zc hRd;have HGZ:=Zc hgb;clear hrep hRd hgb hpt hall hcl;go_wp2;go_ret;rw [O HD,O HREP];exact⟨O HGZ,_,rfl,O HOWN,O HRZ⟩
theorem Tryz.infoDParams:(Tryz.prog.info? 107).map (fun i=>(i.zero,i.size,i.bytes))=some (some (.agg #[.int .i64 0,.int .i64 0]),2,16):=by kernel_rfl
theorem Zlf (n:Nat)(hn:n<=1000):∃ z:Array Value,∀ w:World,(Instr.makeSlice 68 (.int .i64 (n:Int)) (.int .i64 (n:Int))).run Tryz.prog w=.ok (.slice (some ⟨w.heap.size,0,none⟩) n n) (w.alloc (.cells (madeCells z (n*2)) 107)):=by obtain⟨i,hi,hz,hs,hby⟩:=Jx Tryz.infoDParams;refine⟨(.agg #[.int .i64 0,.int .i64 0]:Value).cells,fun w=>?_⟩;have h:=run_make (P:=Tryz.prog) w 68 107 i _ Tryz.underlying68 hi hz .i64 .i64 n n (by omega) (Int.le_refl _) (by rw [hby]; omega) (by omega);simpa [hs] using h
theorem Zfq {α:Type}(F:Nat)(hcf:∀ args w,(callFunc F args).run Tryz.prog w=.ok (.enter F args) w)(R:World->Nat->Array Value->α->Prop)(hR:Ue R)(one:Dec α)(b:Nat)(s:ByteArray)(a:Nat)(lo hi:Int)(w:World)(h:Lj w b s a)(hlo:0<=lo)(hhi:hi<=1000)
 (hone:∀ a' w',Lj w' b s a'->w.grownBy w' (some b)->Calls Tryz.prog F #[.pointer (some ⟨b,0,none⟩)] w' (Ya b s (Lw 2 R) (one a') w')) :
 Calls Tryz.prog 177 #[.pointer (some ⟨b,0,none⟩),.int .i64 lo,.int .i64 hi,.func (.func F) #[.pointer (some ⟨b,0,none⟩)] #[]] w (Ya b s (fun w B v xs=>Xd w B 107 2 (R w B) v xs) (Ye s lo hi one a) w):=by
 have HN:=Zc (Xb b s a lo hi w h (by omega));have HONE:=Zc hone;have HMON:=Zc hR;have hbw:=h.lt;clear hone h hR;cases hd:Zw s lo hi a with
 | error q =>
  have HD:=Zc (show Ye s lo hi one a=.error q by unfold Ye; rw [hd]; rfl);rw [hd] at HN;go_enter Tryz.func177,Tryz.ntmps177
  go_wp2_with fail
  refine(O HN).mono ?_;intro e w2 h2;have h3:=Ya.err (RW:=fun w B v (xs:List α)=>Xd w B 107 2 (R w B) v xs) h2 (Xi w (some b));obtain⟨g1,g,rfl,g2,g3⟩:=h2;refine⟨rfl,?_⟩;rw [O HD];exact h3
 | ok p =>
  obtain⟨nv,a1⟩:=p;have hnv:lo<=nv∧nv<=hi:=by
   unfold Zw Lm at hd;split at hd
   ·split at hd
    ·injection hd with hd; injection hd with h1 h2; rw [← h1]; assumption
    ·cases hd
   ·cases hd
  obtain⟨n,rfl⟩:=Int.eq_ofNat_of_zero_le (show 0<=nv by omega);have hn:n<=1000:=by omega
  have HD:=Zc (show Ye s lo hi one a=My one n a1 by unfold Ye; rw [hd]; rfl);rw [hd] at HN;obtain⟨z,hmk⟩:=Zlf n hn;clear hnv hd;go_enter Tryz.func177,Tryz.ntmps177
  go_wp2_with fail
  refine(O HN).mono ?_;rintro e w1 ⟨hg1,v,rfl,hv,hR1⟩;have hv':v=.int .i64 (n:Int):=hv;subst hv';have hs1:=hg1.size;have hst:=Jt.start w1 107 2 n z;have HG1:=Zc (Jm hg1 (Yd w1 (.cells (madeCells z (n*2)) 107) (some b)));have HR1:=Zc (hR1.alloc (.cells (madeCells z (n*2)) 107));have HST:=Zc hst;have HMK:=Zc hmk;clear hg1 hv hR1 hst HN;go_wp2_with fail
  clear hmk;generalize hW:w1.alloc (.cells (madeCells z (n*2)) 107)=W at HG1 HR1 HST ⊢;have hWs:W.heap.size=w1.heap.size+1:=by rw [← hW]; simp
  obtain⟨g,hg⟩:∃ g,g=w1.heap.size:=⟨_,rfl⟩;rw [← hg] at HST hs1 hWs ⊢;clear hW hg HMK;go_loopw [18] (fun j w'=>∃(k:Nat) (xs:List α) (ak:Nat) (cs:List (Array Value)),j=.int .i64 k∧k<=n∧My one k a1=.ok (xs,ak)∧Lj w' b s ak∧w.grownBy w' (some b)∧Jt w' 107 2 g n cs∧cs.length=k∧Jy (R w' (g+1)) cs xs∧g<w'.heap.size) (fun j _=>n-(intOf j).toNat)
  case atStart=>exact⟨0,[],a1,[],rfl,by omega,rfl,O HR1,O HG1,O HST,rfl,.nil,by omega⟩
  case round =>
   obtain⟨k,xs,ak,cs,rfl,hk,hrep,hRd,hgb,hpt,hcl,hall,hgl⟩:=hrel;by_cases hlt:k<n
   ·have HCALL:=Zc (O HONE ak wr hRd hgb);have HNX:=Zc (Nz hrep);have HPT:=Zc hpt;have HALL:=Zc hall;have HGB:=Zc hgb;have HCL:=Zc hcl;clear hrep hRd hgb hpt hall hcl;go_wp2_with fail
    refine(O HCALL).mono ?_;intro e w2 h2;cases ho:one ak with
    | error q=>rw [ho] at h2;have h3:=Ya.err (RW:=fun w B v (xs:List α)=>Xd w B 107 2 (R w B) v xs) h2 (O HGB);obtain⟨g1,g',rfl,g2,g3⟩:=h2;refine⟨rfl,?_⟩;have h4:=O HNX;rw [ho] at h4;rw [O HD,Uu h4 (by omega)];exact h3
    | ok p =>
     obtain⟨x,a2⟩:=p;rw [ho] at h2;obtain⟨hg2,v,rfl,hvr,hR2⟩:=h2;obtain⟨c,rfl,hc1,hc2,hrr⟩:=hvr;obtain⟨hth,z1,z2,z3,z4,z5,hsz⟩:=Sj (O HMON) (O HPT) (O HALL) (O HGB) (O HCL) hg2 hR2 hrr hgl hbw hs1 hlt hc1;have HNX2:=Zc (show My one (k+1) a1=.ok (xs++[x],a2) by rw [O HNX,ho]; rfl);have HRZ:=Zc z1;have HGZ:=Zc z2;have HPZ:=Zc z3;have HLZ:=Zc z4;have HAZ:=Zc z5;have hs2:=hg2.size;clear hg2 hrr hR2 ho HNX HPT HALL HGB HCALL z1 z2 z3 z4 z5;go_wp2_with (refine wpList_store_mid rfl 107 (.tmp 25) (.tmp 24) rfl g (k*2) c rfl rfl (by rw [hc1]; exact hth) (Tryz.infParams.trans (congrArg some hc1.symm)) hc2 ?_)
     go_roundw
     case rel=>exact⟨k+1,xs++[x],a2,cs++[c],by go_num,by omega,O HNX2,O HRZ,O HGZ,O HPZ,O HLZ,O HAZ,hsz⟩
     case measure=>simp [intOf]; omega
   ·obtain rfl:k=n:=by omega
    have HREP:=Zc hrep;have HOWN:=Zc (show Xd wr w.heap.size 107 2 (R wr w.heap.size) (.slice (some ⟨g,0,none⟩) k k) xs from⟨cs,hpt.own hcl hn (by omega),hall.imp fun c y hy=>O HMON _ _ _ _ _ _ (by omega) (fun _ _ _=>rfl) hy⟩);have HRZ:=Zc hRd;have HGZ:=Zc hgb;clear hrep hRd hgb hpt hall hcl;go_wp2;go_ret;rw [O HD,O HREP];exact⟨O HGZ,_,rfl,O HOWN,O HRZ⟩
theorem Tryz.infoDSigs:(Tryz.prog.info? 43).map (fun i=>(i.zero,i.size,i.bytes))=some (some (.agg #[.slice none 0 0,.int .i64 0]),2,32):=by kernel_rfl
theorem Zsx (n:Nat)(hn:n<=1000):∃ z:Array Value,∀ w:World,(Instr.makeSlice 60 (.int .i64 (n:Int)) (.int .i64 (n:Int))).run Tryz.prog w=.ok (.slice (some ⟨w.heap.size,0,none⟩) n n) (w.alloc (.cells (madeCells z (n*2)) 43)):=by obtain⟨i,hi,hz,hs,hby⟩:=Jx Tryz.infoDSigs;refine⟨(.agg #[.slice none 0 0,.int .i64 0]:Value).cells,fun w=>?_⟩;have h:=run_make (P:=Tryz.prog) w 60 43 i _ Tryz.underlying60 hi hz .i64 .i64 n n (by omega) (Int.le_refl _) (by rw [hby]; omega) (by omega);simpa [hs] using h
theorem Zlg {α:Type}(F:Nat)(hcf:∀ args w,(callFunc F args).run Tryz.prog w=.ok (.enter F args) w)(R:World->Nat->Array Value->α->Prop)(hR:Ue R)(one:Dec α)(b:Nat)(s:ByteArray)(a:Nat)(lo hi:Int)(w:World)(h:Lj w b s a)(hlo:0<=lo)(hhi:hi<=1000)
 (hone:∀ a' w',Lj w' b s a'->w.grownBy w' (some b)->Calls Tryz.prog F #[.pointer (some ⟨b,0,none⟩)] w' (Ya b s (Lw 2 R) (one a') w')) :
 Calls Tryz.prog 122 #[.pointer (some ⟨b,0,none⟩),.int .i64 lo,.int .i64 hi,.func (.func F) #[.pointer (some ⟨b,0,none⟩)] #[]] w (Ya b s (fun w B v xs=>Xd w B 43 2 (R w B) v xs) (Ye s lo hi one a) w):=by
 have HN:=Zc (Xb b s a lo hi w h (by omega));have HONE:=Zc hone;have HMON:=Zc hR;have hbw:=h.lt;clear hone h hR;cases hd:Zw s lo hi a with
 | error q =>
  have HD:=Zc (show Ye s lo hi one a=.error q by unfold Ye; rw [hd]; rfl);rw [hd] at HN;go_enter Tryz.func122,Tryz.ntmps122
  go_wp2_with fail
  refine(O HN).mono ?_;intro e w2 h2;have h3:=Ya.err (RW:=fun w B v (xs:List α)=>Xd w B 43 2 (R w B) v xs) h2 (Xi w (some b));obtain⟨g1,g,rfl,g2,g3⟩:=h2;refine⟨rfl,?_⟩;rw [O HD];exact h3
 | ok p =>
  obtain⟨nv,a1⟩:=p;have hnv:lo<=nv∧nv<=hi:=by
   unfold Zw Lm at hd;split at hd
   ·split at hd
    ·injection hd with hd; injection hd with h1 h2; rw [← h1]; assumption
    ·cases hd
   ·cases hd
  obtain⟨n,rfl⟩:=Int.eq_ofNat_of_zero_le (show 0<=nv by omega);have hn:n<=1000:=by omega
  have HD:=Zc (show Ye s lo hi one a=My one n a1 by unfold Ye; rw [hd]; rfl);rw [hd] at HN;obtain⟨z,hmk⟩:=Zsx n hn;clear hnv hd;go_enter Tryz.func122,Tryz.ntmps122
  go_wp2_with fail
  refine(O HN).mono ?_;rintro e w1 ⟨hg1,v,rfl,hv,hR1⟩;have hv':v=.int .i64 (n:Int):=hv;subst hv';have hs1:=hg1.size;have hst:=Jt.start w1 43 2 n z;have HG1:=Zc (Jm hg1 (Yd w1 (.cells (madeCells z (n*2)) 43) (some b)));have HR1:=Zc (hR1.alloc (.cells (madeCells z (n*2)) 43));have HST:=Zc hst;have HMK:=Zc hmk;clear hg1 hv hR1 hst HN;go_wp2_with fail
  clear hmk;generalize hW:w1.alloc (.cells (madeCells z (n*2)) 43)=W at HG1 HR1 HST ⊢;have hWs:W.heap.size=w1.heap.size+1:=by rw [← hW]; simp
  obtain⟨g,hg⟩:∃ g,g=w1.heap.size:=⟨_,rfl⟩;rw [← hg] at HST hs1 hWs ⊢;clear hW hg HMK;go_loopw [18] (fun j w'=>∃(k:Nat) (xs:List α) (ak:Nat) (cs:List (Array Value)),j=.int .i64 k∧k<=n∧My one k a1=.ok (xs,ak)∧Lj w' b s ak∧w.grownBy w' (some b)∧Jt w' 43 2 g n cs∧cs.length=k∧Jy (R w' (g+1)) cs xs∧g<w'.heap.size) (fun j _=>n-(intOf j).toNat)
  case atStart=>exact⟨0,[],a1,[],rfl,by omega,rfl,O HR1,O HG1,O HST,rfl,.nil,by omega⟩
  case round =>
   obtain⟨k,xs,ak,cs,rfl,hk,hrep,hRd,hgb,hpt,hcl,hall,hgl⟩:=hrel;by_cases hlt:k<n
   ·have HCALL:=Zc (O HONE ak wr hRd hgb);have HNX:=Zc (Nz hrep);have HPT:=Zc hpt;have HALL:=Zc hall;have HGB:=Zc hgb;have HCL:=Zc hcl;clear hrep hRd hgb hpt hall hcl;go_wp2_with fail
    refine(O HCALL).mono ?_;intro e w2 h2;cases ho:one ak with
    | error q=>rw [ho] at h2;have h3:=Ya.err (RW:=fun w B v (xs:List α)=>Xd w B 43 2 (R w B) v xs) h2 (O HGB);obtain⟨g1,g',rfl,g2,g3⟩:=h2;refine⟨rfl,?_⟩;have h4:=O HNX;rw [ho] at h4;rw [O HD,Uu h4 (by omega)];exact h3
    | ok p =>
     obtain⟨x,a2⟩:=p;rw [ho] at h2;obtain⟨hg2,v,rfl,hvr,hR2⟩:=h2;obtain⟨c,rfl,hc1,hc2,hrr⟩:=hvr;obtain⟨hth,z1,z2,z3,z4,z5,hsz⟩:=Sj (O HMON) (O HPT) (O HALL) (O HGB) (O HCL) hg2 hR2 hrr hgl hbw hs1 hlt hc1;have HNX2:=Zc (show My one (k+1) a1=.ok (xs++[x],a2) by rw [O HNX,ho]; rfl);have HRZ:=Zc z1;have HGZ:=Zc z2;have HPZ:=Zc z3;have HLZ:=Zc z4;have HAZ:=Zc z5;have hs2:=hg2.size;clear hg2 hrr hR2 ho HNX HPT HALL HGB HCALL z1 z2 z3 z4 z5;go_wp2_with (refine wpList_store_mid rfl 43 (.tmp 25) (.tmp 24) rfl g (k*2) c rfl rfl (by rw [hc1]; exact hth) (Tryz.infSigs.trans (congrArg some hc1.symm)) hc2 ?_)
     go_roundw
     case rel=>exact⟨k+1,xs++[x],a2,cs++[c],by go_num,by omega,O HNX2,O HRZ,O HGZ,O HPZ,O HLZ,O HAZ,hsz⟩
     case measure=>simp [intOf]; omega
   ·obtain rfl:k=n:=by omega
    have HREP:=Zc hrep;have HOWN:=Zc (show Xd wr w.heap.size 43 2 (R wr w.heap.size) (.slice (some ⟨g,0,none⟩) k k) xs from⟨cs,hpt.own hcl hn (by omega),hall.imp fun c y hy=>O HMON _ _ _ _ _ _ (by omega) (fun _ _ _=>rfl) hy⟩);have HRZ:=Zc hRd;have HGZ:=Zc hgb;clear hrep hRd hgb hpt hall hcl;go_wp2;go_ret;rw [O HD,O HREP];exact⟨O HGZ,_,rfl,O HOWN,O HRZ⟩
theorem Tryz.infoDInss:(Tryz.prog.info? 110).map (fun i=>(i.zero,i.size,i.bytes))=some (some (.agg #[.int .i64 0,.int .i64 0,.int .i64 0,.int .i64 0,.int .u64 0,.int .i64 0,.slice none 0 0,.slice none 0 0]),8,96):=by kernel_rfl
theorem Zsy (n:Nat)(hn:n<=1000):∃ z:Array Value,∀ w:World,(Instr.makeSlice 111 (.int .i64 (n:Int)) (.int .i64 (n:Int))).run Tryz.prog w=.ok (.slice (some ⟨w.heap.size,0,none⟩) n n) (w.alloc (.cells (madeCells z (n*8)) 110)):=by obtain⟨i,hi,hz,hs,hby⟩:=Jx Tryz.infoDInss;refine⟨(.agg #[.int .i64 0,.int .i64 0,.int .i64 0,.int .i64 0,.int .u64 0,.int .i64 0,.slice none 0 0,.slice none 0 0]:Value).cells,fun w=>?_⟩;have h:=run_make (P:=Tryz.prog) w 111 110 i _ Tryz.underlying111 hi hz .i64 .i64 n n (by omega) (Int.le_refl _) (by rw [hby]; omega) (by omega);simpa [hs] using h
theorem Zlh {α:Type}(F:Nat)(hcf:∀ args w,(callFunc F args).run Tryz.prog w=.ok (.enter F args) w)(R:World->Nat->Array Value->α->Prop)(hR:Ue R)(one:Dec α)(b:Nat)(s:ByteArray)(a:Nat)(lo hi:Int)(w:World)(h:Lj w b s a)(hlo:0<=lo)(hhi:hi<=1000)
 (hone:∀ a' w',Lj w' b s a'->w.grownBy w' (some b)->Calls Tryz.prog F #[.pointer (some ⟨b,0,none⟩)] w' (Ya b s (Lw 8 R) (one a') w')) :
 Calls Tryz.prog 233 #[.pointer (some ⟨b,0,none⟩),.int .i64 lo,.int .i64 hi,.func (.func F) #[.pointer (some ⟨b,0,none⟩)] #[]] w (Ya b s (fun w B v xs=>Xd w B 110 8 (R w B) v xs) (Ye s lo hi one a) w):=by
 have HN:=Zc (Xb b s a lo hi w h (by omega));have HONE:=Zc hone;have HMON:=Zc hR;have hbw:=h.lt;clear hone h hR;cases hd:Zw s lo hi a with
 | error q =>
  have HD:=Zc (show Ye s lo hi one a=.error q by unfold Ye; rw [hd]; rfl);rw [hd] at HN;go_enter Tryz.func233,Tryz.ntmps233
  go_wp2_with fail
  refine(O HN).mono ?_;intro e w2 h2;have h3:=Ya.err (RW:=fun w B v (xs:List α)=>Xd w B 110 8 (R w B) v xs) h2 (Xi w (some b));obtain⟨g1,g,rfl,g2,g3⟩:=h2;refine⟨rfl,?_⟩;rw [O HD];exact h3
 | ok p =>
  obtain⟨nv,a1⟩:=p;have hnv:lo<=nv∧nv<=hi:=by
   unfold Zw Lm at hd;split at hd
   ·split at hd
    ·injection hd with hd; injection hd with h1 h2; rw [← h1]; assumption
    ·cases hd
   ·cases hd
  obtain⟨n,rfl⟩:=Int.eq_ofNat_of_zero_le (show 0<=nv by omega);have hn:n<=1000:=by omega
  have HD:=Zc (show Ye s lo hi one a=My one n a1 by unfold Ye; rw [hd]; rfl);rw [hd] at HN;obtain⟨z,hmk⟩:=Zsy n hn;clear hnv hd;go_enter Tryz.func233,Tryz.ntmps233
  go_wp2_with fail
  refine(O HN).mono ?_;rintro e w1 ⟨hg1,v,rfl,hv,hR1⟩;have hv':v=.int .i64 (n:Int):=hv;subst hv';have hs1:=hg1.size;have hst:=Jt.start w1 110 8 n z;have HG1:=Zc (Jm hg1 (Yd w1 (.cells (madeCells z (n*8)) 110) (some b)));have HR1:=Zc (hR1.alloc (.cells (madeCells z (n*8)) 110));have HST:=Zc hst;have HMK:=Zc hmk;clear hg1 hv hR1 hst HN;go_wp2_with fail
  clear hmk;generalize hW:w1.alloc (.cells (madeCells z (n*8)) 110)=W at HG1 HR1 HST ⊢;have hWs:W.heap.size=w1.heap.size+1:=by rw [← hW]; simp
  obtain⟨g,hg⟩:∃ g,g=w1.heap.size:=⟨_,rfl⟩;rw [← hg] at HST hs1 hWs ⊢;clear hW hg HMK;go_loopw [18] (fun j w'=>∃(k:Nat) (xs:List α) (ak:Nat) (cs:List (Array Value)),j=.int .i64 k∧k<=n∧My one k a1=.ok (xs,ak)∧Lj w' b s ak∧w.grownBy w' (some b)∧Jt w' 110 8 g n cs∧cs.length=k∧Jy (R w' (g+1)) cs xs∧g<w'.heap.size) (fun j _=>n-(intOf j).toNat)
  case atStart=>exact⟨0,[],a1,[],rfl,by omega,rfl,O HR1,O HG1,O HST,rfl,.nil,by omega⟩
  case round =>
   obtain⟨k,xs,ak,cs,rfl,hk,hrep,hRd,hgb,hpt,hcl,hall,hgl⟩:=hrel;by_cases hlt:k<n
   ·have HCALL:=Zc (O HONE ak wr hRd hgb);have HNX:=Zc (Nz hrep);have HPT:=Zc hpt;have HALL:=Zc hall;have HGB:=Zc hgb;have HCL:=Zc hcl;clear hrep hRd hgb hpt hall hcl;go_wp2_with fail
    refine(O HCALL).mono ?_;intro e w2 h2;cases ho:one ak with
    | error q=>rw [ho] at h2;have h3:=Ya.err (RW:=fun w B v (xs:List α)=>Xd w B 110 8 (R w B) v xs) h2 (O HGB);obtain⟨g1,g',rfl,g2,g3⟩:=h2;refine⟨rfl,?_⟩;have h4:=O HNX;rw [ho] at h4;rw [O HD,Uu h4 (by omega)];exact h3
    | ok p =>
     obtain⟨x,a2⟩:=p;rw [ho] at h2;obtain⟨hg2,v,rfl,hvr,hR2⟩:=h2;obtain⟨c,rfl,hc1,hc2,hrr⟩:=hvr;obtain⟨hth,z1,z2,z3,z4,z5,hsz⟩:=Sj (O HMON) (O HPT) (O HALL) (O HGB) (O HCL) hg2 hR2 hrr hgl hbw hs1 hlt hc1;have HNX2:=Zc (show My one (k+1) a1=.ok (xs++[x],a2) by rw [O HNX,ho]; rfl);have HRZ:=Zc z1;have HGZ:=Zc z2;have HPZ:=Zc z3;have HLZ:=Zc z4;have HAZ:=Zc z5;have hs2:=hg2.size;clear hg2 hrr hR2 ho HNX HPT HALL HGB HCALL z1 z2 z3 z4 z5;go_wp2_with (refine wpList_store_mid rfl 110 (.tmp 25) (.tmp 24) rfl g (k*8) c rfl rfl (by rw [hc1]; exact hth) (Tryz.infInss.trans (congrArg some hc1.symm)) hc2 ?_)
     go_roundw
     case rel=>exact⟨k+1,xs++[x],a2,cs++[c],by go_num,by omega,O HNX2,O HRZ,O HGZ,O HPZ,O HLZ,O HAZ,hsz⟩
     case measure=>simp [intOf]; omega
   ·obtain rfl:k=n:=by omega
    have HREP:=Zc hrep;have HOWN:=Zc (show Xd wr w.heap.size 110 8 (R wr w.heap.size) (.slice (some ⟨g,0,none⟩) k k) xs from⟨cs,hpt.own hcl hn (by omega),hall.imp fun c y hy=>O HMON _ _ _ _ _ _ (by omega) (fun _ _ _=>rfl) hy⟩);have HRZ:=Zc hRd;have HGZ:=Zc hgb;clear hrep hRd hgb hpt hall hcl;go_wp2;go_ret;rw [O HD,O HREP];exact⟨O HGZ,_,rfl,O HOWN,O HRZ⟩
theorem Tryz.infoDBlocks:(Tryz.prog.info? 111).map (fun i=>(i.zero,i.size,i.bytes))=some (some (.slice none 0 0),1,24):=by kernel_rfl
theorem Zli (n:Nat)(hn:n<=1000):∃ z:Array Value,∀ w:World,(Instr.makeSlice 69 (.int .i64 (n:Int)) (.int .i64 (n:Int))).run Tryz.prog w=.ok (.slice (some ⟨w.heap.size,0,none⟩) n n) (w.alloc (.cells (madeCells z n) 111)):=by obtain⟨i,hi,hz,hs,hby⟩:=Jx Tryz.infoDBlocks;refine⟨(.slice none 0 0:Value).cells,fun w=>?_⟩;have h:=run_make (P:=Tryz.prog) w 69 111 i _ Tryz.underlying69 hi hz .i64 .i64 n n (by omega) (Int.le_refl _) (by rw [hby]; omega) (by omega);simpa [hs] using h
theorem Zfr {α:Type}(F:Nat)(hcf:∀ args w,(callFunc F args).run Tryz.prog w=.ok (.enter F args) w)(R:World->Nat->Array Value->α->Prop)(hR:Ue R)(one:Dec α)(b:Nat)(s:ByteArray)(a:Nat)(lo hi:Int)(w:World)(h:Lj w b s a)(hlo:0<=lo)(hhi:hi<=1000)
 (hone:∀ a' w',Lj w' b s a'->w.grownBy w' (some b)->Calls Tryz.prog F #[.pointer (some ⟨b,0,none⟩)] w' (Ya b s (Zsv R) (one a') w')) :
 Calls Tryz.prog 181 #[.pointer (some ⟨b,0,none⟩),.int .i64 lo,.int .i64 hi,.func (.func F) #[.pointer (some ⟨b,0,none⟩)] #[]] w (Ya b s (fun w B v xs=>Xd w B 111 1 (R w B) v xs) (Ye s lo hi one a) w):=by
 have HN:=Zc (Xb b s a lo hi w h (by omega));have HONE:=Zc hone;have HMON:=Zc hR;have hbw:=h.lt;clear hone h hR;cases hd:Zw s lo hi a with
 | error q =>
  have HD:=Zc (show Ye s lo hi one a=.error q by unfold Ye; rw [hd]; rfl);rw [hd] at HN;go_enter Tryz.func181,Tryz.ntmps181
  go_wp2_with fail
  refine(O HN).mono ?_;intro e w2 h2;have h3:=Ya.err (RW:=fun w B v (xs:List α)=>Xd w B 111 1 (R w B) v xs) h2 (Xi w (some b));obtain⟨g1,g,rfl,g2,g3⟩:=h2;refine⟨rfl,?_⟩;rw [O HD];exact h3
 | ok p =>
  obtain⟨nv,a1⟩:=p;have hnv:lo<=nv∧nv<=hi:=by
   unfold Zw Lm at hd;split at hd
   ·split at hd
    ·injection hd with hd; injection hd with h1 h2; rw [← h1]; assumption
    ·cases hd
   ·cases hd
  obtain⟨n,rfl⟩:=Int.eq_ofNat_of_zero_le (show 0<=nv by omega);have hn:n<=1000:=by omega
  have HD:=Zc (show Ye s lo hi one a=My one n a1 by unfold Ye; rw [hd]; rfl);rw [hd] at HN;obtain⟨z,hmk⟩:=Zli n hn;clear hnv hd;go_enter Tryz.func181,Tryz.ntmps181
  go_wp2_with fail
  refine(O HN).mono ?_;rintro e w1 ⟨hg1,v,rfl,hv,hR1⟩;have hv':v=.int .i64 (n:Int):=hv;subst hv';have hs1:=hg1.size;have hst:=Jt.start w1 111 1 n z;rw [Nat.mul_one] at hst;have HG1:=Zc (Jm hg1 (Yd w1 (.cells (madeCells z n) 111) (some b)));have HR1:=Zc (hR1.alloc (.cells (madeCells z n) 111));have HST:=Zc hst;have HMK:=Zc hmk;clear hg1 hv hR1 hst HN;go_wp2_with fail
  clear hmk;generalize hW:w1.alloc (.cells (madeCells z n) 111)=W at HG1 HR1 HST ⊢;have hWs:W.heap.size=w1.heap.size+1:=by rw [← hW]; simp
  obtain⟨g,hg⟩:∃ g,g=w1.heap.size:=⟨_,rfl⟩;rw [← hg] at HST hs1 hWs ⊢;clear hW hg HMK;go_loopw [18] (fun j w'=>∃(k:Nat) (xs:List α) (ak:Nat) (cs:List (Array Value)),j=.int .i64 k∧k<=n∧My one k a1=.ok (xs,ak)∧Lj w' b s ak∧w.grownBy w' (some b)∧Jt w' 111 1 g n cs∧cs.length=k∧Jy (R w' (g+1)) cs xs∧g<w'.heap.size) (fun j _=>n-(intOf j).toNat)
  case atStart=>exact⟨0,[],a1,[],rfl,by omega,rfl,O HR1,O HG1,O HST,rfl,.nil,by omega⟩
  case round =>
   obtain⟨k,xs,ak,cs,rfl,hk,hrep,hRd,hgb,hpt,hcl,hall,hgl⟩:=hrel;by_cases hlt:k<n
   ·have HCALL:=Zc (O HONE ak wr hRd hgb);have HNX:=Zc (Nz hrep);have HPT:=Zc hpt;have HALL:=Zc hall;have HGB:=Zc hgb;have HCL:=Zc hcl;clear hrep hRd hgb hpt hall hcl;go_wp2_with fail
    refine(O HCALL).mono ?_;intro e w2 h2;cases ho:one ak with
    | error q=>rw [ho] at h2;have h3:=Ya.err (RW:=fun w B v (xs:List α)=>Xd w B 111 1 (R w B) v xs) h2 (O HGB);obtain⟨g1,g',rfl,g2,g3⟩:=h2;refine⟨rfl,?_⟩;have h4:=O HNX;rw [ho] at h4;rw [O HD,Uu h4 (by omega)];exact h3
    | ok p =>
     obtain⟨x,a2⟩:=p;rw [ho] at h2;obtain⟨hg2,v,rfl,hvr,hR2⟩:=h2;obtain⟨hrr,vp,vn,vc,rfl⟩:=hvr;obtain⟨hth,z1,z2,z3,z4,z5,hsz⟩:=Sj (O HMON) (O HPT) (O HALL) (O HGB) (O HCL) hg2 hR2 hrr hgl hbw hs1 hlt (show((#[.slice vp vn vc]:Array Value)).size=1 from rfl);have HNX2:=Zc (show My one (k+1) a1=.ok (xs++[x],a2) by rw [O HNX,ho]; rfl);have HRZ:=Zc z1;have HGZ:=Zc z2;have HPZ:=Zc z3;have HLZ:=Zc z4;have HAZ:=Zc z5;have hs2:=hg2.size;clear hg2 hrr hR2 ho HNX HPT HALL HGB HCALL z1 z2 z3 z4 z5;have e1:w2.setCells g (k*1) (#[.slice vp vn vc]:Array Value).toList=w2.setCell ⟨g,k,none⟩ (.slice vp vn vc):=by rw [Nat.mul_one]; rfl
     rw [e1] at HRZ HGZ HPZ HAZ hsz;obtain⟨hq1,hq2⟩:=hth 0 (by decide);rw [Nat.mul_one,Nat.add_zero] at hq1 hq2;obtain⟨uu,hq3⟩:=Option.isSome_iff_exists.1 hq1;clear e1 hth hq1;go_wp2;go_roundw
     case rel=>exact⟨k+1,xs++[x],a2,cs++[(#[.slice vp vn vc]:Array Value)],by go_num,by omega,O HNX2,O HRZ,O HGZ,O HPZ,O HLZ,O HAZ,hsz⟩
     case measure=>simp [intOf]; omega
   ·obtain rfl:k=n:=by omega
    have HREP:=Zc hrep;have HOWN:=Zc (show Xd wr w.heap.size 111 1 (R wr w.heap.size) (.slice (some ⟨g,0,none⟩) k k) xs from⟨cs,hpt.own hcl hn (by omega),hall.imp fun c y hy=>O HMON _ _ _ _ _ _ (by omega) (fun _ _ _=>rfl) hy⟩);have HRZ:=Zc hRd;have HGZ:=Zc hgb;clear hrep hRd hgb hpt hall hcl;go_wp2;go_ret;rw [O HD,O HREP];exact⟨O HGZ,_,rfl,O HOWN,O HRZ⟩
theorem Tryz.infoDFuncs:(Tryz.prog.info? 71).map (fun i=>(i.zero,i.size,i.bytes))=some (some (.agg #[.slice none 0 0,.int .i64 0,.slice none 0 0,.slice none 0 0,.slice none 0 0]),5,104):=by kernel_rfl
theorem Zpz (n:Nat)(hn:n<=1000):∃ z:Array Value,∀ w:World,(Instr.makeSlice 59 (.int .i64 (n:Int)) (.int .i64 (n:Int))).run Tryz.prog w=.ok (.slice (some ⟨w.heap.size,0,none⟩) n n) (w.alloc (.cells (madeCells z (n*5)) 71)):=by obtain⟨i,hi,hz,hs,hby⟩:=Jx Tryz.infoDFuncs;refine⟨(.agg #[.slice none 0 0,.int .i64 0,.slice none 0 0,.slice none 0 0,.slice none 0 0]:Value).cells,fun w=>?_⟩;have h:=run_make (P:=Tryz.prog) w 59 71 i _ Tryz.underlying59 hi hz .i64 .i64 n n (by omega) (Int.le_refl _) (by rw [hby]; omega) (by omega);simpa [hs] using h
theorem Zii {α:Type}(F:Nat)(hcf:∀ args w,(callFunc F args).run Tryz.prog w=.ok (.enter F args) w)(R:World->Nat->Array Value->α->Prop)(hR:Ue R)(one:Dec α)(b:Nat)(s:ByteArray)(a:Nat)(lo hi:Int)(w:World)(h:Lj w b s a)(hlo:0<=lo)(hhi:hi<=1000)
 (hone:∀ a' w',Lj w' b s a'->w.grownBy w' (some b)->Calls Tryz.prog F #[.pointer (some ⟨b,0,none⟩)] w' (Ya b s (Lw 5 R) (one a') w')) :
 Calls Tryz.prog 124 #[.pointer (some ⟨b,0,none⟩),.int .i64 lo,.int .i64 hi,.func (.func F) #[.pointer (some ⟨b,0,none⟩)] #[]] w (Ya b s (fun w B v xs=>Xd w B 71 5 (R w B) v xs) (Ye s lo hi one a) w):=by
 have HN:=Zc (Xb b s a lo hi w h (by omega));have HONE:=Zc hone;have HMON:=Zc hR;have hbw:=h.lt;clear hone h hR;cases hd:Zw s lo hi a with
 | error q =>
  have HD:=Zc (show Ye s lo hi one a=.error q by unfold Ye; rw [hd]; rfl);rw [hd] at HN;go_enter Tryz.func124,Tryz.ntmps124
  go_wp2_with fail
  refine(O HN).mono ?_;intro e w2 h2;have h3:=Ya.err (RW:=fun w B v (xs:List α)=>Xd w B 71 5 (R w B) v xs) h2 (Xi w (some b));obtain⟨g1,g,rfl,g2,g3⟩:=h2;refine⟨rfl,?_⟩;rw [O HD];exact h3
 | ok p =>
  obtain⟨nv,a1⟩:=p;have hnv:lo<=nv∧nv<=hi:=by
   unfold Zw Lm at hd;split at hd
   ·split at hd
    ·injection hd with hd; injection hd with h1 h2; rw [← h1]; assumption
    ·cases hd
   ·cases hd
  obtain⟨n,rfl⟩:=Int.eq_ofNat_of_zero_le (show 0<=nv by omega);have hn:n<=1000:=by omega
  have HD:=Zc (show Ye s lo hi one a=My one n a1 by unfold Ye; rw [hd]; rfl);rw [hd] at HN;obtain⟨z,hmk⟩:=Zpz n hn;clear hnv hd;go_enter Tryz.func124,Tryz.ntmps124
  go_wp2_with fail
  refine(O HN).mono ?_;rintro e w1 ⟨hg1,v,rfl,hv,hR1⟩;have hv':v=.int .i64 (n:Int):=hv;subst hv';have hs1:=hg1.size;have hst:=Jt.start w1 71 5 n z;have HG1:=Zc (Jm hg1 (Yd w1 (.cells (madeCells z (n*5)) 71) (some b)));have HR1:=Zc (hR1.alloc (.cells (madeCells z (n*5)) 71));have HST:=Zc hst;have HMK:=Zc hmk;clear hg1 hv hR1 hst HN;go_wp2_with fail
  clear hmk;generalize hW:w1.alloc (.cells (madeCells z (n*5)) 71)=W at HG1 HR1 HST ⊢;have hWs:W.heap.size=w1.heap.size+1:=by rw [← hW]; simp
  obtain⟨g,hg⟩:∃ g,g=w1.heap.size:=⟨_,rfl⟩;rw [← hg] at HST hs1 hWs ⊢;clear hW hg HMK;go_loopw [18] (fun j w'=>∃(k:Nat) (xs:List α) (ak:Nat) (cs:List (Array Value)),j=.int .i64 k∧k<=n∧My one k a1=.ok (xs,ak)∧Lj w' b s ak∧w.grownBy w' (some b)∧Jt w' 71 5 g n cs∧cs.length=k∧Jy (R w' (g+1)) cs xs∧g<w'.heap.size) (fun j _=>n-(intOf j).toNat)
  case atStart=>exact⟨0,[],a1,[],rfl,by omega,rfl,O HR1,O HG1,O HST,rfl,.nil,by omega⟩
  case round =>
   obtain⟨k,xs,ak,cs,rfl,hk,hrep,hRd,hgb,hpt,hcl,hall,hgl⟩:=hrel;by_cases hlt:k<n
   ·have HCALL:=Zc (O HONE ak wr hRd hgb);have HNX:=Zc (Nz hrep);have HPT:=Zc hpt;have HALL:=Zc hall;have HGB:=Zc hgb;have HCL:=Zc hcl;clear hrep hRd hgb hpt hall hcl;go_wp2_with fail
    refine(O HCALL).mono ?_;intro e w2 h2;cases ho:one ak with
    | error q=>rw [ho] at h2;have h3:=Ya.err (RW:=fun w B v (xs:List α)=>Xd w B 71 5 (R w B) v xs) h2 (O HGB);obtain⟨g1,g',rfl,g2,g3⟩:=h2;refine⟨rfl,?_⟩;have h4:=O HNX;rw [ho] at h4;rw [O HD,Uu h4 (by omega)];exact h3
    | ok p =>
     obtain⟨x,a2⟩:=p;rw [ho] at h2;obtain⟨hg2,v,rfl,hvr,hR2⟩:=h2;obtain⟨c,rfl,hc1,hc2,hrr⟩:=hvr;obtain⟨hth,z1,z2,z3,z4,z5,hsz⟩:=Sj (O HMON) (O HPT) (O HALL) (O HGB) (O HCL) hg2 hR2 hrr hgl hbw hs1 hlt hc1;have HNX2:=Zc (show My one (k+1) a1=.ok (xs++[x],a2) by rw [O HNX,ho]; rfl);have HRZ:=Zc z1;have HGZ:=Zc z2;have HPZ:=Zc z3;have HLZ:=Zc z4;have HAZ:=Zc z5;have hs2:=hg2.size;clear hg2 hrr hR2 ho HNX HPT HALL HGB HCALL z1 z2 z3 z4 z5;go_wp2_with (refine wpList_store_mid rfl 71 (.tmp 25) (.tmp 24) rfl g (k*5) c rfl rfl (by rw [hc1]; exact hth) (Tryz.infFuncs.trans (congrArg some hc1.symm)) hc2 ?_)
     go_roundw
     case rel=>exact⟨k+1,xs++[x],a2,cs++[c],by go_num,by omega,O HNX2,O HRZ,O HGZ,O HPZ,O HLZ,O HAZ,hsz⟩
     case measure=>simp [intOf]; omega
   ·obtain rfl:k=n:=by omega
    have HREP:=Zc hrep;have HOWN:=Zc (show Xd wr w.heap.size 71 5 (R wr w.heap.size) (.slice (some ⟨g,0,none⟩) k k) xs from⟨cs,hpt.own hcl hn (by omega),hall.imp fun c y hy=>O HMON _ _ _ _ _ _ (by omega) (fun _ _ _=>rfl) hy⟩);have HRZ:=Zc hRd;have HGZ:=Zc hgb;clear hrep hRd hgb hpt hall hcl;go_wp2;go_ret;rw [O HD,O HREP];exact⟨O HGZ,_,rfl,O HOWN,O HRZ⟩
end Go.Proofs.YtkenknfgeoecbaaGreatDoor
