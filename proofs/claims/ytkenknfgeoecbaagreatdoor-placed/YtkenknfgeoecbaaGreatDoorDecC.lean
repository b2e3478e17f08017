import Derived.Test.YtkenknfgeoecbaaGreatDoorJ26
import Derived.Deep.Upon
namespace Go.Proofs.YtkenknfgeoecbaaGreatDoor
open Go.RowKit
set_option maxHeartbeats 4000000
set_option maxRecDepth 100000
def Xx {α β:Type}(R:α→β→Prop):List α→List β→Prop
 | [],[]=>True
 | a :: l,b :: m=>R a b∧Xx R l m
 | [],_ :: _=>False
 | _ :: _,[]=>False
section
variable {α β:Type} {R S:α→β→Prop}
theorem Xx.nil {R:α→β→Prop}:Xx R [] []:=trivial
theorem Xx.cons {a:α}{b:β}{l:List α}{m:List β}(h:R a b)(t:Xx R l m):Xx R (a :: l) (b :: m):=⟨h,t⟩
theorem Xx.ind {P:List α→List β→Prop}(h0:P [] [])(h1:∀ a b l m,R a b→P l m→P (a :: l) (b :: m)):∀(l:List α) (m:List β),Xx R l m→P l m
 | [],[],_=>h0
 | a :: l,b :: m,h=>h1 a b l m (show R a b∧Xx R l m from h).1 (Xx.ind h0 h1 l m (show R a b∧Xx R l m from h).2)
 | [],_ :: _,h=>(show False from h).elim
 | _ :: _,[],h=>(show False from h).elim
theorem Xx.len {l:List α}{m:List β}(h:Xx R l m):l.length=m.length:=by refine Xx.ind (R:=R) (P:=fun l m=>l.length=m.length) (by rfl) (fun a b l m _ ih=>?_) l m h;simp [ih]
theorem Xx.imp {l:List α}{m:List β}(h:Xx R l m)(hi:∀ a b,R a b→S a b):Xx S l m:=Xx.ind (R:=R) (P:=fun l m=>Xx S l m) Xx.nil (fun _ _ _ _ h ih=>Xx.cons (hi _ _ h) ih) l m h
theorem Xx.snoc {l:List α}{m:List β}{a:α}{b:β}(h:Xx R l m)(hr:R a b):Xx R (l++[a]) (m++[b]):=Xx.ind (R:=R) (P:=fun l m=>Xx R (l++[a]) (m++[b])) (Xx.cons hr Xx.nil) (fun _ _ _ _ h ih=>Xx.cons h ih) l m h
end
def Zci (cs:List (Array Value)):List Value:=cs.flatMap (·.toList)
theorem Zpy (cs:List (Array Value))(c:Array Value):Zci (cs++[c])=Zci cs++c.toList:=by simp [Zci]
theorem Zie {size:Nat}:∀(cs:List (Array Value)),(∀ c ∈ cs,c.size=size)→(Zci cs).length=cs.length*size
 | [],_=>by simp [Zci]
 | c :: cs,h=>by
  have h1:=h c (by simp);have h2:=Zie cs (fun d hd=>h d (by simp [hd]));have h3:Zci (c :: cs)=c.toList++Zci cs:=by simp [Zci]
  rw [h3,List.length_append,h2,List.length_cons,Nat.succ_mul];simp [h1];omega
def Ztp (w:World)(B T size:Nat)(v:Value)(cs:List (Array Value)):Prop:=w.ownsRow B T size v cs.length (Zci cs)∧∀ c ∈ cs,c.size=size
def Xf {α:Type}(w:World)(B T size:Nat)(R:Array Value→α→Prop)(v:Value)(xs:List α):Prop:=∃ cs,Ztp w B T size v cs∧Xx R cs xs
abbrev Yo (B:Nat)(w w':World):Prop:=∀ k,B≤k→k<w.heap.size→w'.heap[k]?=w.heap[k]?
theorem Yo.of_gb {w w':World}{b B:Nat}(h:w.grownBy w' (some b))(hb:b<B):Yo B w w':=fun k h1 h2=>h.block k h2 (by intro e; injection e with e; omega)
theorem Ztp.keep {w w':World}{B B' T size:Nat}{v:Value}{cs:List (Array Value)}(h:Ztp w B T size v cs)(hB:B'≤B)(hk:Yo B w w'):Ztp w' B' T size v cs:=by
 refine⟨⟨h.1.1,?_⟩,h.2⟩;rcases h.1.2 with h0 | ⟨g,cap,cur,e,h1,h2,h3⟩
 ·exact Or.inl h0
 ·exact Or.inr ⟨g,cap,cur,e,by omega,(hk g h1 (Zi h2)).trans h2,h3⟩
theorem Xf.keep {α:Type}{w w':World}{B B' T size:Nat}{R R':Array Value→α→Prop}{v:Value}{xs:List α}(h:Xf w B T size R v xs)(hB:B'≤B)(hk:Yo B w w')(hR:∀ c x,R c x→R' c x):Xf w' B' T size R' v xs:=by obtain⟨cs,h1,h2⟩:=h;exact⟨cs,h1.keep hB hk,h2.imp hR⟩
theorem Xf.shape {α:Type}{w:World}{B T size:Nat}{R:Array Value→α→Prop}{v:Value}{xs:List α}(h:Xf w B T size R v xs):∃ a c,v=.slice a xs.length c:=by
 obtain⟨cs,h1,h2⟩:=h;rw [← h2.len];rcases h1.1.2 with⟨e,e0⟩ | ⟨g,cap,cur,e,-⟩
 ·exact⟨none,0,by rw [e0]; exact e⟩
 ·exact⟨_,_,e⟩
theorem Xf.nil {α:Type}(w:World)(B T size:Nat)(R:Array Value→α→Prop):Xf w B T size R (.slice none 0 0) []:=⟨[],⟨World.ownsRow_nil _ _ _ _,fun c hc=>by cases hc⟩,.nil⟩
def Gn (w:World)(T size g n:Nat)(cs:List (Array Value)):Prop:=(∃ cur,w.heap[g]?=some (.cells cur T (0,0))∧cur.size=n*size∧cur.toList.take (cs.length*size)=Zci cs)∧∀ c ∈ cs,c.size=size
def Sc (cur:Array Value)(o:Nat):List Value→Array Value
 | []=>cur
 | v :: vs=>Sc (cur.setIfInBounds o v) (o+1) vs
theorem Zat:∀(vs:List Value) (cur:Array Value) (o:Nat),(Sc cur o vs).size=cur.size
 | [],_,_=>rfl
 | v :: vs,cur,o=>by rw [Sc,Zat vs]; simp
theorem Zau:∀(vs:List Value) (cur:Array Value) (o:Nat),o+vs.length≤cur.size→(Sc cur o vs).toList.take (o+vs.length)=cur.toList.take o++vs
 | [],cur,o,_=>by simp [Sc]
 | v :: vs,cur,o,h=>by
  simp only [List.length_cons] at h;have h1:=Zau vs (cur.setIfInBounds o v) (o+1) (by simp; omega);rw [Sc,show o+(v :: vs).length=o+1+vs.length by simp; omega,h1];have h2:(cur.setIfInBounds o v).toList.take (o+1)=cur.toList.take o++[v]:=by rw [Array.toList_setIfInBounds,List.take_succ_eq_append_getElem (by simp; omega)];simp [List.take_set_of_le]
  rw [h2];simp
theorem Ki (g T:Nat):∀(vs:List Value) (o:Nat) (w:World) (cur:Array Value),w.heap[g]?=some (.cells cur T (0,0))→(w.setCells g o vs).heap[g]?=some (.cells (Sc cur o vs) T (0,0))
 | [],_,_,_,h=>h
 | v :: vs,o,w,cur,h=>Ki g T vs (o+1) _ _ (heap_setCell_same w g o cur T v h)
theorem Gn.store {w:World}{T size g n:Nat}{cs:List (Array Value)}(h:Gn w T size g n cs)(hn:cs.length<n)(c:Array Value)(hc:c.size=size):Gn (w.setCells g (cs.length*size) c.toList) T size g n (cs++[c]):=by
 obtain⟨⟨cur,h1,h2,h3⟩,h4⟩:=h;have hle:cs.length*size+c.toList.length≤cur.size:=by have:(cs.length+1)*size≤n*size:=Nat.mul_le_mul_right _ hn;rw [h2];simp [hc];rw [Nat.succ_mul] at this;omega
 refine⟨⟨Sc cur (cs.length*size) c.toList,Ki g T _ _ _ _ h1,by rw [Zat]; exact h2,?_⟩,fun d hd=>?_⟩
 ·have h5:=Zau c.toList cur (cs.length*size) hle;have h6:(cs++[c]).length*size=cs.length*size+c.toList.length:=by simp [hc,Nat.succ_mul]
  rw [h6,h5,h3,Zpy]
 ·rcases List.mem_append.1 hd with hd | hd
  ·exact h4 d hd
  ·simp at hd; subst hd; exact hc
theorem Gn.blk {w w':World}{T size g n:Nat}{cs:List (Array Value)}(h:Gn w T size g n cs)(e:w'.heap[g]?=w.heap[g]?):Gn w' T size g n cs:=by obtain⟨⟨cur,h1,h2⟩,h4⟩:=h;exact⟨⟨cur,e.trans h1,h2⟩,h4⟩
theorem Gn.there {w:World}{T size g n:Nat}{cs:List (Array Value)}(h:Gn w T size g n cs)(k:Nat)(hk:k<n):w.there g (k*size) size:=by
 obtain⟨⟨cur,h1,h2,-⟩,-⟩:=h;intro j hj;have:k*size+j<cur.size:=by have:(k+1)*size≤n*size:=Nat.mul_le_mul_right _ hk;rw [Nat.succ_mul] at this;omega
 refine⟨?_,frozen_of_row _ _ _ _ _ h1⟩;rw [Zh h1];simp [this]
theorem Gn.own {w:World}{T size g n B:Nat}{cs:List (Array Value)}(h:Gn w T size g n cs)(hn:cs.length=n)(hm:n≤1000)(hB:B≤g):Ztp w B T size (.slice (some ⟨g,0,none⟩) n n) cs:=by obtain⟨⟨cur,h1,h2,h3⟩,h4⟩:=h;refine⟨⟨Zie cs h4,Or.inr ⟨g,n,cur,by rw [hn],hB,h1,by omega,?_,h2,h3⟩⟩,h4⟩;unfold maxLen;omega
theorem Gn.start (w:World)(T size n:Nat)(z:Array Value):Gn (w.alloc (.cells (madeCells z (n*size)) T)) T size w.heap.size n []:=⟨⟨_,heap_alloc_new _ _,size_madeCells _ _,by simp [Zci]⟩,fun c hc=>by cases hc⟩
theorem Uw {α:Type}{one:Dec α}{k n a q:Nat}(h:Ng one k a=.error q)(hn:k≤n):Ng one n a=.error q:=by
 induction n with
 | zero =>
  obtain rfl:k=0:=by omega
  exact h
 | succ n ih =>
  rcases Nat.lt_or_ge k (n+1) with x | x
  ·show Yi (Ng one n a) _=_;rw [ih (by omega)];rfl
  ·obtain rfl:k=n+1:=by omega
   exact h
theorem Od {α:Type}{one:Dec α}{k a a1:Nat}{xs:List α}(h:Ng one k a=.ok (xs,a1)):Ng one (k+1) a=Yi (one a1) fun x a2=>.ok (xs++[x],a2):=by show Yi (Ng one k a) _=_;rw [h];rfl
theorem Gc {w:World}{b g:Nat}(hg:w.heap.size≤g):∀(vs:List Value) (o:Nat) (u:World),w.grownBy u (some b)→w.grownBy (u.setCells g o vs) (some b)
 | [],_,_,h=>h
 | _ :: vs,o,_,h=>Gc hg vs (o+1) _ (Zco h (Or.inl hg))
def Mc {α:Type}(size:Nat)(R:World→Nat→Array Value→α→Prop)(w:World)(B:Nat)(v:Value)(x:α):Prop:=∃ c:Array Value,v=.agg c∧c.size=size∧c.all (·.oneCell')=true∧R w B c x
def Ybj {α:Type}(R:World→Nat→Array Value→α→Prop)(w:World)(B:Nat)(v:Value)(x:α):Prop:=R w B #[v] x∧∃ n,v=.int .i64 n
def Ztq {α:Type}(R:World→Nat→Array Value→α→Prop)(w:World)(B:Nat)(v:Value)(x:α):Prop:=R w B #[v] x∧∃ p n c,v=.slice p n c
def Ux {α:Type}(R:World→Nat→Array Value→α→Prop):Prop:=∀ w w' B B' c x,B'≤B→Yo B w w'→R w B c x→R w' B' c x
theorem Zx (w:World)(g o:Nat)(vs:List Value){i:Nat}(hne:i≠g):(w.setCells g o vs).heap[i]?=w.heap[i]?:=by
 induction vs generalizing o w with
 | nil=>rfl
 | cons v vs ih=>exact(ih _ _).trans (heap_setCell_other w ⟨g,o,none⟩ i v hne)
theorem Tryz.infoDInts:(Tryz.prog.info? 3).map (fun i=>(i.zero,i.size,i.bytes))=some (some (.int .i64 0),1,8):=by kernel_rfl
theorem Ztr (n:Nat)(hn:n≤1000):∃ z:Array Value,∀ w:World,(Instr.makeSlice 23 (.int .i64 (n:Int)) (.int .i64 (n:Int))).run Tryz.prog w=.ok (.slice (some ⟨w.heap.size,0,none⟩) n n) (w.alloc (.cells (madeCells z n) 3)):=by obtain⟨i,hi,hz,hs,hby⟩:=Jz Tryz.infoDInts;refine⟨(.int .i64 0:Value).cells,fun w=>?_⟩;have h:=run_make (P:=Tryz.prog) w 23 3 i _ Tryz.underlying23 hi hz .i64 .i64 n n (by omega) (Int.le_refl _) (by rw [hby]; omega) (by omega);simpa [hs] using h
theorem Dn {α:Type}(F:Nat)(hcf:∀ args w,(callFunc F args).run Tryz.prog w=.ok (.enter F args) w)(R:World→Nat→Array Value→α→Prop)(hR:Ux R)(one:Dec α)(b:Nat)(s:ByteArray)(a:Nat)(lo hi:Int)(w:World)(h:Ld w b s a)(hlo:0≤lo)(hhi:hi≤1000)
 (hone:∀ a' w',Ld w' b s a'→w.grownBy w' (some b)→Calls Tryz.prog F #[.pointer (some ⟨b,0,none⟩)] w' (Yb b s (Ybj R) (one a') w')) :
 Calls Tryz.prog 175 #[.pointer (some ⟨b,0,none⟩),.int .i64 lo,.int .i64 hi,.func (.func F) #[.pointer (some ⟨b,0,none⟩)] #[]] w (Yb b s (fun w B v xs=>Xf w B 3 1 (R w B) v xs) (Ye s lo hi one a) w):=by
 have HN:=Zc (Xa b s a lo hi w h (by omega));have HONE:=Zc hone;have HMON:=Zc hR;have hbw:=h.lt;clear hone h hR;cases hd:Zy s lo hi a with
 | error q =>
  have HD:=Zc (show Ye s lo hi one a=.error q by unfold Ye; rw [hd]; rfl);rw [hd] at HN;go_enter Tryz.func175,Tryz.ntmps175
  go_wp2_with fail
  refine(O HN).mono ?_;intro e w2 h2;have h3:=Yb.err (RW:=fun w B v (xs:List α)=>Xf w B 3 1 (R w B) v xs) h2 (Xi w (some b));obtain⟨g1,g,rfl,g2,g3⟩:=h2;refine⟨rfl,?_⟩;rw [O HD];exact h3
 | ok p =>
  obtain⟨nv,a1⟩:=p;have hnv:lo≤nv∧nv≤hi:=by
   unfold Zy Lt at hd;split at hd
   ·split at hd
    ·injection hd with hd; injection hd with h1 h2; rw [← h1]; assumption
    ·cases hd
   ·cases hd
  obtain⟨n,rfl⟩:=Int.eq_ofNat_of_zero_le (show 0≤nv by omega);have hn:n≤1000:=by omega
  have HD:=Zc (show Ye s lo hi one a=Ng one n a1 by unfold Ye; rw [hd]; rfl);rw [hd] at HN;obtain⟨z,hmk⟩:=Ztr n hn;clear hnv hd;go_enter Tryz.func175,Tryz.ntmps175
  go_wp2_with fail
  refine(O HN).mono ?_;rintro e w1 ⟨hg1,v,rfl,hv,hR1⟩;have hv':v=.int .i64 (n:Int):=hv;subst hv';have hs1:=hg1.size;have hst:=Gn.start w1 3 1 n z;rw [Nat.mul_one] at hst;have HG1:=Zc (Xq hg1 (Yc w1 (.cells (madeCells z n) 3) (some b)));have HR1:=Zc (hR1.alloc (.cells (madeCells z n) 3));have HST:=Zc hst;have HMK:=Zc hmk;clear hg1 hv hR1 hst HN;go_wp2_with fail
  clear hmk;generalize hW:w1.alloc (.cells (madeCells z n) 3)=W at HG1 HR1 HST ⊢;have hWs:W.heap.size=w1.heap.size+1:=by rw [← hW]; simp
  obtain⟨g,hg⟩:∃ g,g=w1.heap.size:=⟨_,rfl⟩;rw [← hg] at HST hs1 hWs ⊢;clear hW hg HMK;go_loopw [18] (fun j w'=>∃(k:Nat) (xs:List α) (ak:Nat) (cs:List (Array Value)),j=.int .i64 k∧k≤n∧Ng one k a1=.ok (xs,ak)∧Ld w' b s ak∧w.grownBy w' (some b)∧Gn w' 3 1 g n cs∧cs.length=k∧Xx (R w' (g+1)) cs xs∧g<w'.heap.size) (fun j _=>n-(intOf j).toNat)
  case atStart=>exact⟨0,[],a1,[],rfl,by omega,rfl,O HR1,O HG1,O HST,rfl,.nil,by omega⟩
  case round =>
   obtain⟨k,xs,ak,cs,rfl,hk,hrep,hRd,hgb,hpt,hcl,hall,hgl⟩:=hrel;by_cases hlt:k<n
   ·have HCALL:=Zc (O HONE ak wr hRd hgb);have HNX:=Zc (Od hrep);have HPT:=Zc hpt;have HALL:=Zc hall;have HGB:=Zc hgb;have HCL:=Zc hcl;clear hrep hRd hgb hpt hall hcl;go_wp2_with fail
    refine(O HCALL).mono ?_;intro e w2 h2;cases ho:one ak with
    | error q=>rw [ho] at h2;have h3:=Yb.err (RW:=fun w B v (xs:List α)=>Xf w B 3 1 (R w B) v xs) h2 (O HGB);obtain⟨g1,g',rfl,g2,g3⟩:=h2;refine⟨rfl,?_⟩;have h4:=O HNX;rw [ho] at h4;rw [O HD,Uw h4 (by omega)];exact h3
    | ok p =>
     obtain⟨x,a2⟩:=p;rw [ho] at h2;obtain⟨hg2,v,rfl,hvr,hR2⟩:=h2;obtain⟨hrr,vn,rfl⟩:=hvr;have hpt2:=(O HPT).blk (hg2.block g hgl (by intro e; injection e with e; omega));have hth:=hpt2.there k hlt;have hs2:=hg2.size;have hpt3:=hpt2.store (by rw [O HCL]; exact hlt) (#[.int .i64 vn]:Array Value) rfl;rw [O HCL] at hpt3;have hall2:Xx (R (w2.setCells g (k*1) ((#[.int .i64 vn]:Array Value)).toList) (g+1)) (cs++[(#[.int .i64 vn]:Array Value)]) (xs++[x]):=by
      have hko:Yo (g+1) w2 (w2.setCells g (k*1) ((#[.int .i64 vn]:Array Value)).toList):=fun i h1 h2=>Zx _ _ _ _ (by omega);refine Xx.snoc ((O HALL).imp fun c y hy=>?_) ?_
      ·refine O HMON _ _ _ _ _ _ (Nat.le_refl _) hko (O HMON _ _ _ _ _ _ (Nat.le_refl _) (Yo.of_gb hg2 (by omega)) hy)
      ·exact O HMON _ _ _ _ _ _ (by omega) (fun i h1 h2=>hko i (by omega) h2) hrr
     have HNX2:=Zc (show Ng one (k+1) a1=.ok (xs++[x],a2) by rw [O HNX,ho]; rfl);have HRZ:=Zc (show Ld (w2.setCells g (k*1) ((#[.int .i64 vn]:Array Value)).toList) b s a2 from hR2.blk (Zx _ _ _ _ (by omega)));have HGZ:=Zc (Gc (b:=b) (g:=g) (w:=w) (by omega) ((#[.int .i64 vn]:Array Value)).toList (k*1) w2 (Xq (O HGB) hg2));have HPZ:=Zc hpt3;have HAZ:=Zc hall2;have HLZ:=Zc (show(cs++[(#[.int .i64 vn]:Array Value)]).length=k+1 by rw [List.length_append,O HCL]; rfl);have hsz:g<(w2.setCells g (k*1) ((#[.int .i64 vn]:Array Value)).toList).heap.size:=hpt3.1.elim fun cur hc=>Zi hc.1;clear hg2 hrr hR2 hpt2 hpt3 hall2 ho HNX HPT HALL HGB HCALL;have e1:w2.setCells g (k*1) (#[.int .i64 vn]:Array Value).toList=w2.setCell ⟨g,k,none⟩ (.int .i64 vn):=by rw [Nat.mul_one]; rfl
     rw [e1] at HRZ HGZ HPZ HAZ hsz;obtain⟨hq1,hq2⟩:=hth 0 (by decide);rw [Nat.mul_one,Nat.add_zero] at hq1 hq2;obtain⟨uu,hq3⟩:=Option.isSome_iff_exists.1 hq1;clear e1 hth hq1;go_wp2;go_roundw
     case rel=>exact⟨k+1,xs++[x],a2,cs++[(#[.int .i64 vn]:Array Value)],by go_num,by omega,O HNX2,O HRZ,O HGZ,O HPZ,O HLZ,O HAZ,hsz⟩
     case measure=>simp [intOf]; omega
   ·obtain rfl:k=n:=by omega
    have HREP:=Zc hrep;have HOWN:=Zc (show Xf wr w.heap.size 3 1 (R wr w.heap.size) (.slice (some ⟨g,0,none⟩) k k) xs from⟨cs,hpt.own hcl hn (by omega),hall.imp fun c y hy=>O HMON _ _ _ _ _ _ (by omega) (fun _ _ _=>rfl) hy⟩);have HRZ:=Zc hRd;have HGZ:=Zc hgb;clear hrep hRd hgb hpt hall hcl;go_wp2;go_ret;rw [O HD,O HREP];exact⟨O HGZ,_,rfl,O HOWN,O HRZ⟩
theorem Tryz.infoDParams:(Tryz.prog.info? 107).map (fun i=>(i.zero,i.size,i.bytes))=some (some (.agg #[.int .i64 0,.int .i64 0]),2,16):=by kernel_rfl
theorem Zkv (n:Nat)(hn:n≤1000):∃ z:Array Value,∀ w:World,(Instr.makeSlice 68 (.int .i64 (n:Int)) (.int .i64 (n:Int))).run Tryz.prog w=.ok (.slice (some ⟨w.heap.size,0,none⟩) n n) (w.alloc (.cells (madeCells z (n*2)) 107)):=by obtain⟨i,hi,hz,hs,hby⟩:=Jz Tryz.infoDParams;refine⟨(.agg #[.int .i64 0,.int .i64 0]:Value).cells,fun w=>?_⟩;have h:=run_make (P:=Tryz.prog) w 68 107 i _ Tryz.underlying68 hi hz .i64 .i64 n n (by omega) (Int.le_refl _) (by rw [hby]; omega) (by omega);simpa [hs] using h
theorem Zfz {α:Type}(F:Nat)(hcf:∀ args w,(callFunc F args).run Tryz.prog w=.ok (.enter F args) w)(R:World→Nat→Array Value→α→Prop)(hR:Ux R)(one:Dec α)(b:Nat)(s:ByteArray)(a:Nat)(lo hi:Int)(w:World)(h:Ld w b s a)(hlo:0≤lo)(hhi:hi≤1000)
 (hone:∀ a' w',Ld w' b s a'→w.grownBy w' (some b)→Calls Tryz.prog F #[.pointer (some ⟨b,0,none⟩)] w' (Yb b s (Mc 2 R) (one a') w')) :
 Calls Tryz.prog 177 #[.pointer (some ⟨b,0,none⟩),.int .i64 lo,.int .i64 hi,.func (.func F) #[.pointer (some ⟨b,0,none⟩)] #[]] w (Yb b s (fun w B v xs=>Xf w B 107 2 (R w B) v xs) (Ye s lo hi one a) w):=by
 have HN:=Zc (Xa b s a lo hi w h (by omega));have HONE:=Zc hone;have HMON:=Zc hR;have hbw:=h.lt;clear hone h hR;cases hd:Zy s lo hi a with
 | error q =>
  have HD:=Zc (show Ye s lo hi one a=.error q by unfold Ye; rw [hd]; rfl);rw [hd] at HN;go_enter Tryz.func177,Tryz.ntmps177
  go_wp2_with fail
  refine(O HN).mono ?_;intro e w2 h2;have h3:=Yb.err (RW:=fun w B v (xs:List α)=>Xf w B 107 2 (R w B) v xs) h2 (Xi w (some b));obtain⟨g1,g,rfl,g2,g3⟩:=h2;refine⟨rfl,?_⟩;rw [O HD];exact h3
 | ok p =>
  obtain⟨nv,a1⟩:=p;have hnv:lo≤nv∧nv≤hi:=by
   unfold Zy Lt at hd;split at hd
   ·split at hd
    ·injection hd with hd; injection hd with h1 h2; rw [← h1]; assumption
    ·cases hd
   ·cases hd
  obtain⟨n,rfl⟩:=Int.eq_ofNat_of_zero_le (show 0≤nv by omega);have hn:n≤1000:=by omega
  have HD:=Zc (show Ye s lo hi one a=Ng one n a1 by unfold Ye; rw [hd]; rfl);rw [hd] at HN;obtain⟨z,hmk⟩:=Zkv n hn;clear hnv hd;go_enter Tryz.func177,Tryz.ntmps177
  go_wp2_with fail
  refine(O HN).mono ?_;rintro e w1 ⟨hg1,v,rfl,hv,hR1⟩;have hv':v=.int .i64 (n:Int):=hv;subst hv';have hs1:=hg1.size;have hst:=Gn.start w1 107 2 n z;have HG1:=Zc (Xq hg1 (Yc w1 (.cells (madeCells z (n*2)) 107) (some b)));have HR1:=Zc (hR1.alloc (.cells (madeCells z (n*2)) 107));have HST:=Zc hst;have HMK:=Zc hmk;clear hg1 hv hR1 hst HN;go_wp2_with fail
  clear hmk;generalize hW:w1.alloc (.cells (madeCells z (n*2)) 107)=W at HG1 HR1 HST ⊢;have hWs:W.heap.size=w1.heap.size+1:=by rw [← hW]; simp
  obtain⟨g,hg⟩:∃ g,g=w1.heap.size:=⟨_,rfl⟩;rw [← hg] at HST hs1 hWs ⊢;clear hW hg HMK;go_loopw [18] (fun j w'=>∃(k:Nat) (xs:List α) (ak:Nat) (cs:List (Array Value)),j=.int .i64 k∧k≤n∧Ng one k a1=.ok (xs,ak)∧Ld w' b s ak∧w.grownBy w' (some b)∧Gn w' 107 2 g n cs∧cs.length=k∧Xx (R w' (g+1)) cs xs∧g<w'.heap.size) (fun j _=>n-(intOf j).toNat)
  case atStart=>exact⟨0,[],a1,[],rfl,by omega,rfl,O HR1,O HG1,O HST,rfl,.nil,by omega⟩
  case round =>
   obtain⟨k,xs,ak,cs,rfl,hk,hrep,hRd,hgb,hpt,hcl,hall,hgl⟩:=hrel;by_cases hlt:k<n
   ·have HCALL:=Zc (O HONE ak wr hRd hgb);have HNX:=Zc (Od hrep);have HPT:=Zc hpt;have HALL:=Zc hall;have HGB:=Zc hgb;have HCL:=Zc hcl;clear hrep hRd hgb hpt hall hcl;go_wp2_with fail
    refine(O HCALL).mono ?_;intro e w2 h2;cases ho:one ak with
    | error q=>rw [ho] at h2;have h3:=Yb.err (RW:=fun w B v (xs:List α)=>Xf w B 107 2 (R w B) v xs) h2 (O HGB);obtain⟨g1,g',rfl,g2,g3⟩:=h2;refine⟨rfl,?_⟩;have h4:=O HNX;rw [ho] at h4;rw [O HD,Uw h4 (by omega)];exact h3
    | ok p =>
     obtain⟨x,a2⟩:=p;rw [ho] at h2;obtain⟨hg2,v,rfl,hvr,hR2⟩:=h2;obtain⟨c,rfl,hc1,hc2,hrr⟩:=hvr;have hpt2:=(O HPT).blk (hg2.block g hgl (by intro e; injection e with e; omega));have hth:=hpt2.there k hlt;have hs2:=hg2.size;have hpt3:=hpt2.store (by rw [O HCL]; exact hlt) c hc1;rw [O HCL] at hpt3;have hall2:Xx (R (w2.setCells g (k*2) (c).toList) (g+1)) (cs++[c]) (xs++[x]):=by
      have hko:Yo (g+1) w2 (w2.setCells g (k*2) (c).toList):=fun i h1 h2=>Zx _ _ _ _ (by omega);refine Xx.snoc ((O HALL).imp fun c y hy=>?_) ?_
      ·refine O HMON _ _ _ _ _ _ (Nat.le_refl _) hko (O HMON _ _ _ _ _ _ (Nat.le_refl _) (Yo.of_gb hg2 (by omega)) hy)
      ·exact O HMON _ _ _ _ _ _ (by omega) (fun i h1 h2=>hko i (by omega) h2) hrr
     have HNX2:=Zc (show Ng one (k+1) a1=.ok (xs++[x],a2) by rw [O HNX,ho]; rfl);have HRZ:=Zc (show Ld (w2.setCells g (k*2) (c).toList) b s a2 from hR2.blk (Zx _ _ _ _ (by omega)));have HGZ:=Zc (Gc (b:=b) (g:=g) (w:=w) (by omega) (c).toList (k*2) w2 (Xq (O HGB) hg2));have HPZ:=Zc hpt3;have HAZ:=Zc hall2;have HLZ:=Zc (show(cs++[c]).length=k+1 by rw [List.length_append,O HCL]; rfl);have hsz:g<(w2.setCells g (k*2) (c).toList).heap.size:=hpt3.1.elim fun cur hc=>Zi hc.1;clear hg2 hrr hR2 hpt2 hpt3 hall2 ho HNX HPT HALL HGB HCALL;go_wp2_with (refine wpList_store_mid rfl 107 (.tmp 25) (.tmp 24) rfl g (k*2) c rfl rfl (by rw [hc1]; exact hth) (Tryz.infParams.trans (congrArg some hc1.symm)) hc2 ?_)
     go_roundw
     case rel=>exact⟨k+1,xs++[x],a2,cs++[c],by go_num,by omega,O HNX2,O HRZ,O HGZ,O HPZ,O HLZ,O HAZ,hsz⟩
     case measure=>simp [intOf]; omega
   ·obtain rfl:k=n:=by omega
    have HREP:=Zc hrep;have HOWN:=Zc (show Xf wr w.heap.size 107 2 (R wr w.heap.size) (.slice (some ⟨g,0,none⟩) k k) xs from⟨cs,hpt.own hcl hn (by omega),hall.imp fun c y hy=>O HMON _ _ _ _ _ _ (by omega) (fun _ _ _=>rfl) hy⟩);have HRZ:=Zc hRd;have HGZ:=Zc hgb;clear hrep hRd hgb hpt hall hcl;go_wp2;go_ret;rw [O HD,O HREP];exact⟨O HGZ,_,rfl,O HOWN,O HRZ⟩
theorem Tryz.infoDSigs:(Tryz.prog.info? 43).map (fun i=>(i.zero,i.size,i.bytes))=some (some (.agg #[.slice none 0 0,.int .i64 0]),2,32):=by kernel_rfl
theorem Zts (n:Nat)(hn:n≤1000):∃ z:Array Value,∀ w:World,(Instr.makeSlice 60 (.int .i64 (n:Int)) (.int .i64 (n:Int))).run Tryz.prog w=.ok (.slice (some ⟨w.heap.size,0,none⟩) n n) (w.alloc (.cells (madeCells z (n*2)) 43)):=by obtain⟨i,hi,hz,hs,hby⟩:=Jz Tryz.infoDSigs;refine⟨(.agg #[.slice none 0 0,.int .i64 0]:Value).cells,fun w=>?_⟩;have h:=run_make (P:=Tryz.prog) w 60 43 i _ Tryz.underlying60 hi hz .i64 .i64 n n (by omega) (Int.le_refl _) (by rw [hby]; omega) (by omega);simpa [hs] using h
theorem Zkw {α:Type}(F:Nat)(hcf:∀ args w,(callFunc F args).run Tryz.prog w=.ok (.enter F args) w)(R:World→Nat→Array Value→α→Prop)(hR:Ux R)(one:Dec α)(b:Nat)(s:ByteArray)(a:Nat)(lo hi:Int)(w:World)(h:Ld w b s a)(hlo:0≤lo)(hhi:hi≤1000)
 (hone:∀ a' w',Ld w' b s a'→w.grownBy w' (some b)→Calls Tryz.prog F #[.pointer (some ⟨b,0,none⟩)] w' (Yb b s (Mc 2 R) (one a') w')) :
 Calls Tryz.prog 122 #[.pointer (some ⟨b,0,none⟩),.int .i64 lo,.int .i64 hi,.func (.func F) #[.pointer (some ⟨b,0,none⟩)] #[]] w (Yb b s (fun w B v xs=>Xf w B 43 2 (R w B) v xs) (Ye s lo hi one a) w):=by
 have HN:=Zc (Xa b s a lo hi w h (by omega));have HONE:=Zc hone;have HMON:=Zc hR;have hbw:=h.lt;clear hone h hR;cases hd:Zy s lo hi a with
 | error q =>
  have HD:=Zc (show Ye s lo hi one a=.error q by unfold Ye; rw [hd]; rfl);rw [hd] at HN;go_enter Tryz.func122,Tryz.ntmps122
  go_wp2_with fail
  refine(O HN).mono ?_;intro e w2 h2;have h3:=Yb.err (RW:=fun w B v (xs:List α)=>Xf w B 43 2 (R w B) v xs) h2 (Xi w (some b));obtain⟨g1,g,rfl,g2,g3⟩:=h2;refine⟨rfl,?_⟩;rw [O HD];exact h3
 | ok p =>
  obtain⟨nv,a1⟩:=p;have hnv:lo≤nv∧nv≤hi:=by
   unfold Zy Lt at hd;split at hd
   ·split at hd
    ·injection hd with hd; injection hd with h1 h2; rw [← h1]; assumption
    ·cases hd
   ·cases hd
  obtain⟨n,rfl⟩:=Int.eq_ofNat_of_zero_le (show 0≤nv by omega);have hn:n≤1000:=by omega
  have HD:=Zc (show Ye s lo hi one a=Ng one n a1 by unfold Ye; rw [hd]; rfl);rw [hd] at HN;obtain⟨z,hmk⟩:=Zts n hn;clear hnv hd;go_enter Tryz.func122,Tryz.ntmps122
  go_wp2_with fail
  refine(O HN).mono ?_;rintro e w1 ⟨hg1,v,rfl,hv,hR1⟩;have hv':v=.int .i64 (n:Int):=hv;subst hv';have hs1:=hg1.size;have hst:=Gn.start w1 43 2 n z;have HG1:=Zc (Xq hg1 (Yc w1 (.cells (madeCells z (n*2)) 43) (some b)));have HR1:=Zc (hR1.alloc (.cells (madeCells z (n*2)) 43));have HST:=Zc hst;have HMK:=Zc hmk;clear hg1 hv hR1 hst HN;go_wp2_with fail
  clear hmk;generalize hW:w1.alloc (.cells (madeCells z (n*2)) 43)=W at HG1 HR1 HST ⊢;have hWs:W.heap.size=w1.heap.size+1:=by rw [← hW]; simp
  obtain⟨g,hg⟩:∃ g,g=w1.heap.size:=⟨_,rfl⟩;rw [← hg] at HST hs1 hWs ⊢;clear hW hg HMK;go_loopw [18] (fun j w'=>∃(k:Nat) (xs:List α) (ak:Nat) (cs:List (Array Value)),j=.int .i64 k∧k≤n∧Ng one k a1=.ok (xs,ak)∧Ld w' b s ak∧w.grownBy w' (some b)∧Gn w' 43 2 g n cs∧cs.length=k∧Xx (R w' (g+1)) cs xs∧g<w'.heap.size) (fun j _=>n-(intOf j).toNat)
  case atStart=>exact⟨0,[],a1,[],rfl,by omega,rfl,O HR1,O HG1,O HST,rfl,.nil,by omega⟩
  case round =>
   obtain⟨k,xs,ak,cs,rfl,hk,hrep,hRd,hgb,hpt,hcl,hall,hgl⟩:=hrel;by_cases hlt:k<n
   ·have HCALL:=Zc (O HONE ak wr hRd hgb);have HNX:=Zc (Od hrep);have HPT:=Zc hpt;have HALL:=Zc hall;have HGB:=Zc hgb;have HCL:=Zc hcl;clear hrep hRd hgb hpt hall hcl;go_wp2_with fail
    refine(O HCALL).mono ?_;intro e w2 h2;cases ho:one ak with
    | error q=>rw [ho] at h2;have h3:=Yb.err (RW:=fun w B v (xs:List α)=>Xf w B 43 2 (R w B) v xs) h2 (O HGB);obtain⟨g1,g',rfl,g2,g3⟩:=h2;refine⟨rfl,?_⟩;have h4:=O HNX;rw [ho] at h4;rw [O HD,Uw h4 (by omega)];exact h3
    | ok p =>
     obtain⟨x,a2⟩:=p;rw [ho] at h2;obtain⟨hg2,v,rfl,hvr,hR2⟩:=h2;obtain⟨c,rfl,hc1,hc2,hrr⟩:=hvr;have hpt2:=(O HPT).blk (hg2.block g hgl (by intro e; injection e with e; omega));have hth:=hpt2.there k hlt;have hs2:=hg2.size;have hpt3:=hpt2.store (by rw [O HCL]; exact hlt) c hc1;rw [O HCL] at hpt3;have hall2:Xx (R (w2.setCells g (k*2) (c).toList) (g+1)) (cs++[c]) (xs++[x]):=by
      have hko:Yo (g+1) w2 (w2.setCells g (k*2) (c).toList):=fun i h1 h2=>Zx _ _ _ _ (by omega);refine Xx.snoc ((O HALL).imp fun c y hy=>?_) ?_
      ·refine O HMON _ _ _ _ _ _ (Nat.le_refl _) hko (O HMON _ _ _ _ _ _ (Nat.le_refl _) (Yo.of_gb hg2 (by omega)) hy)
      ·exact O HMON _ _ _ _ _ _ (by omega) (fun i h1 h2=>hko i (by omega) h2) hrr
     have HNX2:=Zc (show Ng one (k+1) a1=.ok (xs++[x],a2) by rw [O HNX,ho]; rfl);have HRZ:=Zc (show Ld (w2.setCells g (k*2) (c).toList) b s a2 from hR2.blk (Zx _ _ _ _ (by omega)));have HGZ:=Zc (Gc (b:=b) (g:=g) (w:=w) (by omega) (c).toList (k*2) w2 (Xq (O HGB) hg2));have HPZ:=Zc hpt3;have HAZ:=Zc hall2;have HLZ:=Zc (show(cs++[c]).length=k+1 by rw [List.length_append,O HCL]; rfl);have hsz:g<(w2.setCells g (k*2) (c).toList).heap.size:=hpt3.1.elim fun cur hc=>Zi hc.1;clear hg2 hrr hR2 hpt2 hpt3 hall2 ho HNX HPT HALL HGB HCALL;go_wp2_with (refine wpList_store_mid rfl 43 (.tmp 25) (.tmp 24) rfl g (k*2) c rfl rfl (by rw [hc1]; exact hth) (Tryz.infSigs.trans (congrArg some hc1.symm)) hc2 ?_)
     go_roundw
     case rel=>exact⟨k+1,xs++[x],a2,cs++[c],by go_num,by omega,O HNX2,O HRZ,O HGZ,O HPZ,O HLZ,O HAZ,hsz⟩
     case measure=>simp [intOf]; omega
   ·obtain rfl:k=n:=by omega
    have HREP:=Zc hrep;have HOWN:=Zc (show Xf wr w.heap.size 43 2 (R wr w.heap.size) (.slice (some ⟨g,0,none⟩) k k) xs from⟨cs,hpt.own hcl hn (by omega),hall.imp fun c y hy=>O HMON _ _ _ _ _ _ (by omega) (fun _ _ _=>rfl) hy⟩);have HRZ:=Zc hRd;have HGZ:=Zc hgb;clear hrep hRd hgb hpt hall hcl;go_wp2;go_ret;rw [O HD,O HREP];exact⟨O HGZ,_,rfl,O HOWN,O HRZ⟩
theorem Tryz.infoDInss:(Tryz.prog.info? 110).map (fun i=>(i.zero,i.size,i.bytes))=some (some (.agg #[.int .i64 0,.int .i64 0,.int .i64 0,.int .i64 0,.int .u64 0,.int .i64 0,.slice none 0 0,.slice none 0 0]),8,96):=by kernel_rfl
theorem Ztt (n:Nat)(hn:n≤1000):∃ z:Array Value,∀ w:World,(Instr.makeSlice 111 (.int .i64 (n:Int)) (.int .i64 (n:Int))).run Tryz.prog w=.ok (.slice (some ⟨w.heap.size,0,none⟩) n n) (w.alloc (.cells (madeCells z (n*8)) 110)):=by obtain⟨i,hi,hz,hs,hby⟩:=Jz Tryz.infoDInss;refine⟨(.agg #[.int .i64 0,.int .i64 0,.int .i64 0,.int .i64 0,.int .u64 0,.int .i64 0,.slice none 0 0,.slice none 0 0]:Value).cells,fun w=>?_⟩;have h:=run_make (P:=Tryz.prog) w 111 110 i _ Tryz.underlying111 hi hz .i64 .i64 n n (by omega) (Int.le_refl _) (by rw [hby]; omega) (by omega);simpa [hs] using h
theorem Zkx {α:Type}(F:Nat)(hcf:∀ args w,(callFunc F args).run Tryz.prog w=.ok (.enter F args) w)(R:World→Nat→Array Value→α→Prop)(hR:Ux R)(one:Dec α)(b:Nat)(s:ByteArray)(a:Nat)(lo hi:Int)(w:World)(h:Ld w b s a)(hlo:0≤lo)(hhi:hi≤1000)
 (hone:∀ a' w',Ld w' b s a'→w.grownBy w' (some b)→Calls Tryz.prog F #[.pointer (some ⟨b,0,none⟩)] w' (Yb b s (Mc 8 R) (one a') w')) :
 Calls Tryz.prog 233 #[.pointer (some ⟨b,0,none⟩),.int .i64 lo,.int .i64 hi,.func (.func F) #[.pointer (some ⟨b,0,none⟩)] #[]] w (Yb b s (fun w B v xs=>Xf w B 110 8 (R w B) v xs) (Ye s lo hi one a) w):=by
 have HN:=Zc (Xa b s a lo hi w h (by omega));have HONE:=Zc hone;have HMON:=Zc hR;have hbw:=h.lt;clear hone h hR;cases hd:Zy s lo hi a with
 | error q =>
  have HD:=Zc (show Ye s lo hi one a=.error q by unfold Ye; rw [hd]; rfl);rw [hd] at HN;go_enter Tryz.func233,Tryz.ntmps233
  go_wp2_with fail
  refine(O HN).mono ?_;intro e w2 h2;have h3:=Yb.err (RW:=fun w B v (xs:List α)=>Xf w B 110 8 (R w B) v xs) h2 (Xi w (some b));obtain⟨g1,g,rfl,g2,g3⟩:=h2;refine⟨rfl,?_⟩;rw [O HD];exact h3
 | ok p =>
  obtain⟨nv,a1⟩:=p;have hnv:lo≤nv∧nv≤hi:=by
   unfold Zy Lt at hd;split at hd
   ·split at hd
    ·injection hd with hd; injection hd with h1 h2; rw [← h1]; assumption
    ·cases hd
   ·cases hd
  obtain⟨n,rfl⟩:=Int.eq_ofNat_of_zero_le (show 0≤nv by omega);have hn:n≤1000:=by omega
  have HD:=Zc (show Ye s lo hi one a=Ng one n a1 by unfold Ye; rw [hd]; rfl);rw [hd] at HN;obtain⟨z,hmk⟩:=Ztt n hn;clear hnv hd;go_enter Tryz.func233,Tryz.ntmps233
  go_wp2_with fail
  refine(O HN).mono ?_;rintro e w1 ⟨hg1,v,rfl,hv,hR1⟩;have hv':v=.int .i64 (n:Int):=hv;subst hv';have hs1:=hg1.size;have hst:=Gn.start w1 110 8 n z;have HG1:=Zc (Xq hg1 (Yc w1 (.cells (madeCells z (n*8)) 110) (some b)));have HR1:=Zc (hR1.alloc (.cells (madeCells z (n*8)) 110));have HST:=Zc hst;have HMK:=Zc hmk;clear hg1 hv hR1 hst HN;go_wp2_with fail
  clear hmk;generalize hW:w1.alloc (.cells (madeCells z (n*8)) 110)=W at HG1 HR1 HST ⊢;have hWs:W.heap.size=w1.heap.size+1:=by rw [← hW]; simp
  obtain⟨g,hg⟩:∃ g,g=w1.heap.size:=⟨_,rfl⟩;rw [← hg] at HST hs1 hWs ⊢;clear hW hg HMK;go_loopw [18] (fun j w'=>∃(k:Nat) (xs:List α) (ak:Nat) (cs:List (Array Value)),j=.int .i64 k∧k≤n∧Ng one k a1=.ok (xs,ak)∧Ld w' b s ak∧w.grownBy w' (some b)∧Gn w' 110 8 g n cs∧cs.length=k∧Xx (R w' (g+1)) cs xs∧g<w'.heap.size) (fun j _=>n-(intOf j).toNat)
  case atStart=>exact⟨0,[],a1,[],rfl,by omega,rfl,O HR1,O HG1,O HST,rfl,.nil,by omega⟩
  case round =>
   obtain⟨k,xs,ak,cs,rfl,hk,hrep,hRd,hgb,hpt,hcl,hall,hgl⟩:=hrel;by_cases hlt:k<n
   ·have HCALL:=Zc (O HONE ak wr hRd hgb);have HNX:=Zc (Od hrep);have HPT:=Zc hpt;have HALL:=Zc hall;have HGB:=Zc hgb;have HCL:=Zc hcl;clear hrep hRd hgb hpt hall hcl;go_wp2_with fail
    refine(O HCALL).mono ?_;intro e w2 h2;cases ho:one ak with
    | error q=>rw [ho] at h2;have h3:=Yb.err (RW:=fun w B v (xs:List α)=>Xf w B 110 8 (R w B) v xs) h2 (O HGB);obtain⟨g1,g',rfl,g2,g3⟩:=h2;refine⟨rfl,?_⟩;have h4:=O HNX;rw [ho] at h4;rw [O HD,Uw h4 (by omega)];exact h3
    | ok p =>
     obtain⟨x,a2⟩:=p;rw [ho] at h2;obtain⟨hg2,v,rfl,hvr,hR2⟩:=h2;obtain⟨c,rfl,hc1,hc2,hrr⟩:=hvr;have hpt2:=(O HPT).blk (hg2.block g hgl (by intro e; injection e with e; omega));have hth:=hpt2.there k hlt;have hs2:=hg2.size;have hpt3:=hpt2.store (by rw [O HCL]; exact hlt) c hc1;rw [O HCL] at hpt3;have hall2:Xx (R (w2.setCells g (k*8) (c).toList) (g+1)) (cs++[c]) (xs++[x]):=by
      have hko:Yo (g+1) w2 (w2.setCells g (k*8) (c).toList):=fun i h1 h2=>Zx _ _ _ _ (by omega);refine Xx.snoc ((O HALL).imp fun c y hy=>?_) ?_
      ·refine O HMON _ _ _ _ _ _ (Nat.le_refl _) hko (O HMON _ _ _ _ _ _ (Nat.le_refl _) (Yo.of_gb hg2 (by omega)) hy)
      ·exact O HMON _ _ _ _ _ _ (by omega) (fun i h1 h2=>hko i (by omega) h2) hrr
     have HNX2:=Zc (show Ng one (k+1) a1=.ok (xs++[x],a2) by rw [O HNX,ho]; rfl);have HRZ:=Zc (show Ld (w2.setCells g (k*8) (c).toList) b s a2 from hR2.blk (Zx _ _ _ _ (by omega)));have HGZ:=Zc (Gc (b:=b) (g:=g) (w:=w) (by omega) (c).toList (k*8) w2 (Xq (O HGB) hg2));have HPZ:=Zc hpt3;have HAZ:=Zc hall2;have HLZ:=Zc (show(cs++[c]).length=k+1 by rw [List.length_append,O HCL]; rfl);have hsz:g<(w2.setCells g (k*8) (c).toList).heap.size:=hpt3.1.elim fun cur hc=>Zi hc.1;clear hg2 hrr hR2 hpt2 hpt3 hall2 ho HNX HPT HALL HGB HCALL;go_wp2_with (refine wpList_store_mid rfl 110 (.tmp 25) (.tmp 24) rfl g (k*8) c rfl rfl (by rw [hc1]; exact hth) (Tryz.infInss.trans (congrArg some hc1.symm)) hc2 ?_)
     go_roundw
     case rel=>exact⟨k+1,xs++[x],a2,cs++[c],by go_num,by omega,O HNX2,O HRZ,O HGZ,O HPZ,O HLZ,O HAZ,hsz⟩
     case measure=>simp [intOf]; omega
   ·obtain rfl:k=n:=by omega
    have HREP:=Zc hrep;have HOWN:=Zc (show Xf wr w.heap.size 110 8 (R wr w.heap.size) (.slice (some ⟨g,0,none⟩) k k) xs from⟨cs,hpt.own hcl hn (by omega),hall.imp fun c y hy=>O HMON _ _ _ _ _ _ (by omega) (fun _ _ _=>rfl) hy⟩);have HRZ:=Zc hRd;have HGZ:=Zc hgb;clear hrep hRd hgb hpt hall hcl;go_wp2;go_ret;rw [O HD,O HREP];exact⟨O HGZ,_,rfl,O HOWN,O HRZ⟩
theorem Tryz.infoDBlocks:(Tryz.prog.info? 111).map (fun i=>(i.zero,i.size,i.bytes))=some (some (.slice none 0 0),1,24):=by kernel_rfl
theorem Zky (n:Nat)(hn:n≤1000):∃ z:Array Value,∀ w:World,(Instr.makeSlice 69 (.int .i64 (n:Int)) (.int .i64 (n:Int))).run Tryz.prog w=.ok (.slice (some ⟨w.heap.size,0,none⟩) n n) (w.alloc (.cells (madeCells z n) 111)):=by obtain⟨i,hi,hz,hs,hby⟩:=Jz Tryz.infoDBlocks;refine⟨(.slice none 0 0:Value).cells,fun w=>?_⟩;have h:=run_make (P:=Tryz.prog) w 69 111 i _ Tryz.underlying69 hi hz .i64 .i64 n n (by omega) (Int.le_refl _) (by rw [hby]; omega) (by omega);simpa [hs] using h
theorem Zga {α:Type}(F:Nat)(hcf:∀ args w,(callFunc F args).run Tryz.prog w=.ok (.enter F args) w)(R:World→Nat→Array Value→α→Prop)(hR:Ux R)(one:Dec α)(b:Nat)(s:ByteArray)(a:Nat)(lo hi:Int)(w:World)(h:Ld w b s a)(hlo:0≤lo)(hhi:hi≤1000)
 (hone:∀ a' w',Ld w' b s a'→w.grownBy w' (some b)→Calls Tryz.prog F #[.pointer (some ⟨b,0,none⟩)] w' (Yb b s (Ztq R) (one a') w')) :
 Calls Tryz.prog 181 #[.pointer (some ⟨b,0,none⟩),.int .i64 lo,.int .i64 hi,.func (.func F) #[.pointer (some ⟨b,0,none⟩)] #[]] w (Yb b s (fun w B v xs=>Xf w B 111 1 (R w B) v xs) (Ye s lo hi one a) w):=by
 have HN:=Zc (Xa b s a lo hi w h (by omega));have HONE:=Zc hone;have HMON:=Zc hR;have hbw:=h.lt;clear hone h hR;cases hd:Zy s lo hi a with
 | error q =>
  have HD:=Zc (show Ye s lo hi one a=.error q by unfold Ye; rw [hd]; rfl);rw [hd] at HN;go_enter Tryz.func181,Tryz.ntmps181
  go_wp2_with fail
  refine(O HN).mono ?_;intro e w2 h2;have h3:=Yb.err (RW:=fun w B v (xs:List α)=>Xf w B 111 1 (R w B) v xs) h2 (Xi w (some b));obtain⟨g1,g,rfl,g2,g3⟩:=h2;refine⟨rfl,?_⟩;rw [O HD];exact h3
 | ok p =>
  obtain⟨nv,a1⟩:=p;have hnv:lo≤nv∧nv≤hi:=by
   unfold Zy Lt at hd;split at hd
   ·split at hd
    ·injection hd with hd; injection hd with h1 h2; rw [← h1]; assumption
    ·cases hd
   ·cases hd
  obtain⟨n,rfl⟩:=Int.eq_ofNat_of_zero_le (show 0≤nv by omega);have hn:n≤1000:=by omega
  have HD:=Zc (show Ye s lo hi one a=Ng one n a1 by unfold Ye; rw [hd]; rfl);rw [hd] at HN;obtain⟨z,hmk⟩:=Zky n hn;clear hnv hd;go_enter Tryz.func181,Tryz.ntmps181
  go_wp2_with fail
  refine(O HN).mono ?_;rintro e w1 ⟨hg1,v,rfl,hv,hR1⟩;have hv':v=.int .i64 (n:Int):=hv;subst hv';have hs1:=hg1.size;have hst:=Gn.start w1 111 1 n z;rw [Nat.mul_one] at hst;have HG1:=Zc (Xq hg1 (Yc w1 (.cells (madeCells z n) 111) (some b)));have HR1:=Zc (hR1.alloc (.cells (madeCells z n) 111));have HST:=Zc hst;have HMK:=Zc hmk;clear hg1 hv hR1 hst HN;go_wp2_with fail
  clear hmk;generalize hW:w1.alloc (.cells (madeCells z n) 111)=W at HG1 HR1 HST ⊢;have hWs:W.heap.size=w1.heap.size+1:=by rw [← hW]; simp
  obtain⟨g,hg⟩:∃ g,g=w1.heap.size:=⟨_,rfl⟩;rw [← hg] at HST hs1 hWs ⊢;clear hW hg HMK;go_loopw [18] (fun j w'=>∃(k:Nat) (xs:List α) (ak:Nat) (cs:List (Array Value)),j=.int .i64 k∧k≤n∧Ng one k a1=.ok (xs,ak)∧Ld w' b s ak∧w.grownBy w' (some b)∧Gn w' 111 1 g n cs∧cs.length=k∧Xx (R w' (g+1)) cs xs∧g<w'.heap.size) (fun j _=>n-(intOf j).toNat)
  case atStart=>exact⟨0,[],a1,[],rfl,by omega,rfl,O HR1,O HG1,O HST,rfl,.nil,by omega⟩
  case round =>
   obtain⟨k,xs,ak,cs,rfl,hk,hrep,hRd,hgb,hpt,hcl,hall,hgl⟩:=hrel;by_cases hlt:k<n
   ·have HCALL:=Zc (O HONE ak wr hRd hgb);have HNX:=Zc (Od hrep);have HPT:=Zc hpt;have HALL:=Zc hall;have HGB:=Zc hgb;have HCL:=Zc hcl;clear hrep hRd hgb hpt hall hcl;go_wp2_with fail
    refine(O HCALL).mono ?_;intro e w2 h2;cases ho:one ak with
    | error q=>rw [ho] at h2;have h3:=Yb.err (RW:=fun w B v (xs:List α)=>Xf w B 111 1 (R w B) v xs) h2 (O HGB);obtain⟨g1,g',rfl,g2,g3⟩:=h2;refine⟨rfl,?_⟩;have h4:=O HNX;rw [ho] at h4;rw [O HD,Uw h4 (by omega)];exact h3
    | ok p =>
     obtain⟨x,a2⟩:=p;rw [ho] at h2;obtain⟨hg2,v,rfl,hvr,hR2⟩:=h2;obtain⟨hrr,vp,vn,vc,rfl⟩:=hvr;have hpt2:=(O HPT).blk (hg2.block g hgl (by intro e; injection e with e; omega));have hth:=hpt2.there k hlt;have hs2:=hg2.size;have hpt3:=hpt2.store (by rw [O HCL]; exact hlt) (#[.slice vp vn vc]:Array Value) rfl;rw [O HCL] at hpt3;have hall2:Xx (R (w2.setCells g (k*1) ((#[.slice vp vn vc]:Array Value)).toList) (g+1)) (cs++[(#[.slice vp vn vc]:Array Value)]) (xs++[x]):=by
      have hko:Yo (g+1) w2 (w2.setCells g (k*1) ((#[.slice vp vn vc]:Array Value)).toList):=fun i h1 h2=>Zx _ _ _ _ (by omega);refine Xx.snoc ((O HALL).imp fun c y hy=>?_) ?_
      ·refine O HMON _ _ _ _ _ _ (Nat.le_refl _) hko (O HMON _ _ _ _ _ _ (Nat.le_refl _) (Yo.of_gb hg2 (by omega)) hy)
      ·exact O HMON _ _ _ _ _ _ (by omega) (fun i h1 h2=>hko i (by omega) h2) hrr
     have HNX2:=Zc (show Ng one (k+1) a1=.ok (xs++[x],a2) by rw [O HNX,ho]; rfl);have HRZ:=Zc (show Ld (w2.setCells g (k*1) ((#[.slice vp vn vc]:Array Value)).toList) b s a2 from hR2.blk (Zx _ _ _ _ (by omega)));have HGZ:=Zc (Gc (b:=b) (g:=g) (w:=w) (by omega) ((#[.slice vp vn vc]:Array Value)).toList (k*1) w2 (Xq (O HGB) hg2));have HPZ:=Zc hpt3;have HAZ:=Zc hall2;have HLZ:=Zc (show(cs++[(#[.slice vp vn vc]:Array Value)]).length=k+1 by rw [List.length_append,O HCL]; rfl);have hsz:g<(w2.setCells g (k*1) ((#[.slice vp vn vc]:Array Value)).toList).heap.size:=hpt3.1.elim fun cur hc=>Zi hc.1;clear hg2 hrr hR2 hpt2 hpt3 hall2 ho HNX HPT HALL HGB HCALL;have e1:w2.setCells g (k*1) (#[.slice vp vn vc]:Array Value).toList=w2.setCell ⟨g,k,none⟩ (.slice vp vn vc):=by rw [Nat.mul_one]; rfl
     rw [e1] at HRZ HGZ HPZ HAZ hsz;obtain⟨hq1,hq2⟩:=hth 0 (by decide);rw [Nat.mul_one,Nat.add_zero] at hq1 hq2;obtain⟨uu,hq3⟩:=Option.isSome_iff_exists.1 hq1;clear e1 hth hq1;go_wp2;go_roundw
     case rel=>exact⟨k+1,xs++[x],a2,cs++[(#[.slice vp vn vc]:Array Value)],by go_num,by omega,O HNX2,O HRZ,O HGZ,O HPZ,O HLZ,O HAZ,hsz⟩
     case measure=>simp [intOf]; omega
   ·obtain rfl:k=n:=by omega
    have HREP:=Zc hrep;have HOWN:=Zc (show Xf wr w.heap.size 111 1 (R wr w.heap.size) (.slice (some ⟨g,0,none⟩) k k) xs from⟨cs,hpt.own hcl hn (by omega),hall.imp fun c y hy=>O HMON _ _ _ _ _ _ (by omega) (fun _ _ _=>rfl) hy⟩);have HRZ:=Zc hRd;have HGZ:=Zc hgb;clear hrep hRd hgb hpt hall hcl;go_wp2;go_ret;rw [O HD,O HREP];exact⟨O HGZ,_,rfl,O HOWN,O HRZ⟩
theorem Tryz.infoDFuncs:(Tryz.prog.info? 71).map (fun i=>(i.zero,i.size,i.bytes))=some (some (.agg #[.slice none 0 0,.int .i64 0,.slice none 0 0,.slice none 0 0,.slice none 0 0]),5,104):=by kernel_rfl
theorem Zpz (n:Nat)(hn:n≤1000):∃ z:Array Value,∀ w:World,(Instr.makeSlice 59 (.int .i64 (n:Int)) (.int .i64 (n:Int))).run Tryz.prog w=.ok (.slice (some ⟨w.heap.size,0,none⟩) n n) (w.alloc (.cells (madeCells z (n*5)) 71)):=by obtain⟨i,hi,hz,hs,hby⟩:=Jz Tryz.infoDFuncs;refine⟨(.agg #[.slice none 0 0,.int .i64 0,.slice none 0 0,.slice none 0 0,.slice none 0 0]:Value).cells,fun w=>?_⟩;have h:=run_make (P:=Tryz.prog) w 59 71 i _ Tryz.underlying59 hi hz .i64 .i64 n n (by omega) (Int.le_refl _) (by rw [hby]; omega) (by omega);simpa [hs] using h
theorem Zif {α:Type}(F:Nat)(hcf:∀ args w,(callFunc F args).run Tryz.prog w=.ok (.enter F args) w)(R:World→Nat→Array Value→α→Prop)(hR:Ux R)(one:Dec α)(b:Nat)(s:ByteArray)(a:Nat)(lo hi:Int)(w:World)(h:Ld w b s a)(hlo:0≤lo)(hhi:hi≤1000)
 (hone:∀ a' w',Ld w' b s a'→w.grownBy w' (some b)→Calls Tryz.prog F #[.pointer (some ⟨b,0,none⟩)] w' (Yb b s (Mc 5 R) (one a') w')) :
 Calls Tryz.prog 124 #[.pointer (some ⟨b,0,none⟩),.int .i64 lo,.int .i64 hi,.func (.func F) #[.pointer (some ⟨b,0,none⟩)] #[]] w (Yb b s (fun w B v xs=>Xf w B 71 5 (R w B) v xs) (Ye s lo hi one a) w):=by
 have HN:=Zc (Xa b s a lo hi w h (by omega));have HONE:=Zc hone;have HMON:=Zc hR;have hbw:=h.lt;clear hone h hR;cases hd:Zy s lo hi a with
 | error q =>
  have HD:=Zc (show Ye s lo hi one a=.error q by unfold Ye; rw [hd]; rfl);rw [hd] at HN;go_enter Tryz.func124,Tryz.ntmps124
  go_wp2_with fail
  refine(O HN).mono ?_;intro e w2 h2;have h3:=Yb.err (RW:=fun w B v (xs:List α)=>Xf w B 71 5 (R w B) v xs) h2 (Xi w (some b));obtain⟨g1,g,rfl,g2,g3⟩:=h2;refine⟨rfl,?_⟩;rw [O HD];exact h3
 | ok p =>
  obtain⟨nv,a1⟩:=p;have hnv:lo≤nv∧nv≤hi:=by
   unfold Zy Lt at hd;split at hd
   ·split at hd
    ·injection hd with hd; injection hd with h1 h2; rw [← h1]; assumption
    ·cases hd
   ·cases hd
  obtain⟨n,rfl⟩:=Int.eq_ofNat_of_zero_le (show 0≤nv by omega);have hn:n≤1000:=by omega
  have HD:=Zc (show Ye s lo hi one a=Ng one n a1 by unfold Ye; rw [hd]; rfl);rw [hd] at HN;obtain⟨z,hmk⟩:=Zpz n hn;clear hnv hd;go_enter Tryz.func124,Tryz.ntmps124
  go_wp2_with fail
  refine(O HN).mono ?_;rintro e w1 ⟨hg1,v,rfl,hv,hR1⟩;have hv':v=.int .i64 (n:Int):=hv;subst hv';have hs1:=hg1.size;have hst:=Gn.start w1 71 5 n z;have HG1:=Zc (Xq hg1 (Yc w1 (.cells (madeCells z (n*5)) 71) (some b)));have HR1:=Zc (hR1.alloc (.cells (madeCells z (n*5)) 71));have HST:=Zc hst;have HMK:=Zc hmk;clear hg1 hv hR1 hst HN;go_wp2_with fail
  clear hmk;generalize hW:w1.alloc (.cells (madeCells z (n*5)) 71)=W at HG1 HR1 HST ⊢;have hWs:W.heap.size=w1.heap.size+1:=by rw [← hW]; simp
  obtain⟨g,hg⟩:∃ g,g=w1.heap.size:=⟨_,rfl⟩;rw [← hg] at HST hs1 hWs ⊢;clear hW hg HMK;go_loopw [18] (fun j w'=>∃(k:Nat) (xs:List α) (ak:Nat) (cs:List (Array Value)),j=.int .i64 k∧k≤n∧Ng one k a1=.ok (xs,ak)∧Ld w' b s ak∧w.grownBy w' (some b)∧Gn w' 71 5 g n cs∧cs.length=k∧Xx (R w' (g+1)) cs xs∧g<w'.heap.size) (fun j _=>n-(intOf j).toNat)
  case atStart=>exact⟨0,[],a1,[],rfl,by omega,rfl,O HR1,O HG1,O HST,rfl,.nil,by omega⟩
  case round =>
   obtain⟨k,xs,ak,cs,rfl,hk,hrep,hRd,hgb,hpt,hcl,hall,hgl⟩:=hrel;by_cases hlt:k<n
   ·have HCALL:=Zc (O HONE ak wr hRd hgb);have HNX:=Zc (Od hrep);have HPT:=Zc hpt;have HALL:=Zc hall;have HGB:=Zc hgb;have HCL:=Zc hcl;clear hrep hRd hgb hpt hall hcl;go_wp2_with fail
    refine(O HCALL).mono ?_;intro e w2 h2;cases ho:one ak with
    | error q=>rw [ho] at h2;have h3:=Yb.err (RW:=fun w B v (xs:List α)=>Xf w B 71 5 (R w B) v xs) h2 (O HGB);obtain⟨g1,g',rfl,g2,g3⟩:=h2;refine⟨rfl,?_⟩;have h4:=O HNX;rw [ho] at h4;rw [O HD,Uw h4 (by omega)];exact h3
    | ok p =>
     obtain⟨x,a2⟩:=p;rw [ho] at h2;obtain⟨hg2,v,rfl,hvr,hR2⟩:=h2;obtain⟨c,rfl,hc1,hc2,hrr⟩:=hvr;have hpt2:=(O HPT).blk (hg2.block g hgl (by intro e; injection e with e; omega));have hth:=hpt2.there k hlt;have hs2:=hg2.size;have hpt3:=hpt2.store (by rw [O HCL]; exact hlt) c hc1;rw [O HCL] at hpt3;have hall2:Xx (R (w2.setCells g (k*5) (c).toList) (g+1)) (cs++[c]) (xs++[x]):=by
      have hko:Yo (g+1) w2 (w2.setCells g (k*5) (c).toList):=fun i h1 h2=>Zx _ _ _ _ (by omega);refine Xx.snoc ((O HALL).imp fun c y hy=>?_) ?_
      ·refine O HMON _ _ _ _ _ _ (Nat.le_refl _) hko (O HMON _ _ _ _ _ _ (Nat.le_refl _) (Yo.of_gb hg2 (by omega)) hy)
      ·exact O HMON _ _ _ _ _ _ (by omega) (fun i h1 h2=>hko i (by omega) h2) hrr
     have HNX2:=Zc (show Ng one (k+1) a1=.ok (xs++[x],a2) by rw [O HNX,ho]; rfl);have HRZ:=Zc (show Ld (w2.setCells g (k*5) (c).toList) b s a2 from hR2.blk (Zx _ _ _ _ (by omega)));have HGZ:=Zc (Gc (b:=b) (g:=g) (w:=w) (by omega) (c).toList (k*5) w2 (Xq (O HGB) hg2));have HPZ:=Zc hpt3;have HAZ:=Zc hall2;have HLZ:=Zc (show(cs++[c]).length=k+1 by rw [List.length_append,O HCL]; rfl);have hsz:g<(w2.setCells g (k*5) (c).toList).heap.size:=hpt3.1.elim fun cur hc=>Zi hc.1;clear hg2 hrr hR2 hpt2 hpt3 hall2 ho HNX HPT HALL HGB HCALL;go_wp2_with (refine wpList_store_mid rfl 71 (.tmp 25) (.tmp 24) rfl g (k*5) c rfl rfl (by rw [hc1]; exact hth) (Tryz.infFuncs.trans (congrArg some hc1.symm)) hc2 ?_)
     go_roundw
     case rel=>exact⟨k+1,xs++[x],a2,cs++[c],by go_num,by omega,O HNX2,O HRZ,O HGZ,O HPZ,O HLZ,O HAZ,hsz⟩
     case measure=>simp [intOf]; omega
   ·obtain rfl:k=n:=by omega
    have HREP:=Zc hrep;have HOWN:=Zc (show Xf wr w.heap.size 71 5 (R wr w.heap.size) (.slice (some ⟨g,0,none⟩) k k) xs from⟨cs,hpt.own hcl hn (by omega),hall.imp fun c y hy=>O HMON _ _ _ _ _ _ (by omega) (fun _ _ _=>rfl) hy⟩);have HRZ:=Zc hRd;have HGZ:=Zc hgb;clear hrep hRd hgb hpt hall hcl;go_wp2;go_ret;rw [O HD,O HREP];exact⟨O HGZ,_,rfl,O HOWN,O HRZ⟩
end Go.Proofs.YtkenknfgeoecbaaGreatDoor
