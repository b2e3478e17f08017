import Derived.Test.YtedemloocadimaaGreatDoorJ30
import Derived.Laws.MakeOwn
import Derived.Deep.Upon
namespace Go.Proofs.YtedemloocadimaaGreatDoor
open Go.RowKit
set_option maxHeartbeats 4000000
set_option maxRecDepth 100000
def Gh {α β:Type}(R:α→β→Prop):List α→List β→Prop
 | [],[]=>True
 | a :: l,b :: m=>R a b∧Gh R l m
 | [],_ :: _=>False
 | _ :: _,[]=>False
section
variable {α β:Type} {R S:α→β→Prop}
theorem Gh.nil {R:α→β→Prop}:Gh R [] []:=trivial
theorem Gh.cons {a:α}{b:β}{l:List α}{m:List β}(h:R a b)(t:Gh R l m):Gh R (a :: l) (b :: m):=⟨h,t⟩
theorem Gh.ind {P:List α→List β→Prop}(h0:P [] [])(h1:∀ a b l m,R a b→P l m→P (a :: l) (b :: m)):∀(l:List α) (m:List β),Gh R l m→P l m
 | [],[],_=>h0
 | a :: l,b :: m,h=>h1 a b l m (show R a b∧Gh R l m from h).1 (Gh.ind h0 h1 l m (show R a b∧Gh R l m from h).2)
 | [],_ :: _,h=>(show False from h).elim
 | _ :: _,[],h=>(show False from h).elim
theorem Gh.len {l:List α}{m:List β}(h:Gh R l m):l.length=m.length:=by
 refine Gh.ind (R:=R) (P:=fun l m=>l.length=m.length) (by rfl) (fun a b l m _ ih=>?_) l m h;simp [ih]
theorem Gh.imp {l:List α}{m:List β}(h:Gh R l m)(hi:∀ a b,R a b→S a b):Gh S l m:=Gh.ind (R:=R) (P:=fun l m=>Gh S l m) Gh.nil (fun _ _ _ _ h ih=>Gh.cons (hi _ _ h) ih) l m h
theorem Gh.snoc {l:List α}{m:List β}{a:α}{b:β}(h:Gh R l m)(hr:R a b):Gh R (l++[a]) (m++[b]):=Gh.ind (R:=R) (P:=fun l m=>Gh R (l++[a]) (m++[b])) (Gh.cons hr Gh.nil) (fun _ _ _ _ h ih=>Gh.cons h ih) l m h
end
def Ic (cs:List (Array Value)):List Value:=cs.flatMap (·.toList)
theorem Zqs (cs:List (Array Value))(c:Array Value):Ic (cs++[c])=Ic cs++c.toList:=by simp [Ic]
theorem Zim {size:Nat}:∀(cs:List (Array Value)),(∀ c ∈ cs,c.size=size)→(Ic cs).length=cs.length*size
 | [],_=>by simp [Ic]
 | c :: cs,h=>by
  have h1:=h c (by simp);have h2:=Zim cs (fun d hd=>h d (by simp [hd]));have h3:Ic (c :: cs)=c.toList++Ic cs:=by simp [Ic]
  rw [h3,List.length_append,h2,List.length_cons,Nat.succ_mul];simp [h1];omega
def Zlz (w:World)(B T size:Nat)(v:Value)(cs:List (Array Value)):Prop:=w.ownsRow B T size v cs.length (Ic cs)∧∀ c ∈ cs,c.size=size
def Xn {α:Type}(w:World)(B T size:Nat)(R:Array Value→α→Prop)(v:Value)(xs:List α):Prop:=∃ cs,Zlz w B T size v cs∧Gh R cs xs
abbrev Xt (B:Nat)(w w':World):Prop:=∀ k,B≤k→k<w.heap.size→w'.heap[k]?=w.heap[k]?
theorem Xt.of_gb {w w':World}{b B:Nat}(h:w.grownBy w' (some b))(hb:b<B):Xt B w w':=fun k h1 h2=>h.block k h2 (by intro e; injection e with e; omega)
theorem Zlz.keep {w w':World}{B B' T size:Nat}{v:Value}{cs:List (Array Value)}(h:Zlz w B T size v cs)(hB:B'≤B)(hk:Xt B w w'):Zlz w' B' T size v cs:=by
 refine⟨⟨h.1.1,?_⟩,h.2⟩;rcases h.1.2 with h0 | ⟨g,cap,cur,e,h1,h2,h3⟩
 ·
  exact Or.inl h0
 ·
  exact Or.inr ⟨g,cap,cur,e,by omega,(hk g h1 (Zk h2)).trans h2,h3⟩
theorem Xn.keep {α:Type}{w w':World}{B B' T size:Nat}{R R':Array Value→α→Prop}{v:Value}{xs:List α}(h:Xn w B T size R v xs)(hB:B'≤B)(hk:Xt B w w')(hR:∀ c x,R c x→R' c x):Xn w' B' T size R' v xs:=by
 obtain⟨cs,h1,h2⟩:=h;exact⟨cs,h1.keep hB hk,h2.imp hR⟩
theorem Xn.shape {α:Type}{w:World}{B T size:Nat}{R:Array Value→α→Prop}{v:Value}{xs:List α}(h:Xn w B T size R v xs):∃ a c,v=.slice a xs.length c:=by
 obtain⟨cs,h1,h2⟩:=h;rw [← h2.len];rcases h1.1.2 with⟨e,e0⟩ | ⟨g,cap,cur,e,-⟩
 ·
  exact⟨none,0,by rw [e0]; exact e⟩
 ·
  exact⟨_,_,e⟩
theorem Xn.nil {α:Type}(w:World)(B T size:Nat)(R:Array Value→α→Prop):Xn w B T size R (.slice none 0 0) []:=⟨[],⟨World.ownsRow_nil _ _ _ _,fun c hc=>by cases hc⟩,.nil⟩
def Lx (w:World)(T size g n:Nat)(cs:List (Array Value)):Prop:=(∃ cur,w.heap[g]?=some (.cells cur T (0,0))∧cur.size=n*size∧cur.toList.take (cs.length*size)=Ic cs)∧∀ c ∈ cs,c.size=size
def Km (cur:Array Value)(o:Nat):List Value→Array Value
 | []=>cur
 | v :: vs=>Km (cur.setIfInBounds o v) (o+1) vs
theorem Zbs:∀(vs:List Value) (cur:Array Value) (o:Nat),(Km cur o vs).size=cur.size
 | [],_,_=>rfl
 | v :: vs,cur,o=>by rw [Km,Zbs vs]; simp
theorem Zbt:∀(vs:List Value) (cur:Array Value) (o:Nat),o+vs.length≤cur.size→(Km cur o vs).toList.take (o+vs.length)=cur.toList.take o++vs
 | [],cur,o,_=>by simp [Km]
 | v :: vs,cur,o,h=>by
  simp only [List.length_cons] at h;have h1:=Zbt vs (cur.setIfInBounds o v) (o+1) (by simp; omega);rw [Km,show o+(v :: vs).length=o+1+vs.length by simp; omega,h1];have h2:(cur.setIfInBounds o v).toList.take (o+1)=cur.toList.take o++[v]:=by
   rw [Array.toList_setIfInBounds,List.take_succ_eq_append_getElem (by simp; omega)];simp [List.take_set_of_le]
  rw [h2];simp
theorem Cr (g T:Nat):∀(vs:List Value) (o:Nat) (w:World) (cur:Array Value),w.heap[g]?=some (.cells cur T (0,0))→(w.setCells g o vs).heap[g]?=some (.cells (Km cur o vs) T (0,0))
 | [],_,_,_,h=>h
 | v :: vs,o,w,cur,h=>Cr g T vs (o+1) _ _ (heap_setCell_same w g o cur T v h)
theorem Lx.store {w:World}{T size g n:Nat}{cs:List (Array Value)}(h:Lx w T size g n cs)(hn:cs.length<n)(c:Array Value)(hc:c.size=size):Lx (w.setCells g (cs.length*size) c.toList) T size g n (cs++[c]):=by
 obtain⟨⟨cur,h1,h2,h3⟩,h4⟩:=h;have hle:cs.length*size+c.toList.length≤cur.size:=by
  have:(cs.length+1)*size≤n*size:=Nat.mul_le_mul_right _ hn;rw [h2];simp [hc];rw [Nat.succ_mul] at this;omega
 refine⟨⟨Km cur (cs.length*size) c.toList,Cr g T _ _ _ _ h1,by rw [Zbs]; exact h2,?_⟩,fun d hd=>?_⟩
 ·
  have h5:=Zbt c.toList cur (cs.length*size) hle;have h6:(cs++[c]).length*size=cs.length*size+c.toList.length:=by simp [hc,Nat.succ_mul]
  rw [h6,h5,h3,Zqs]
 ·
  rcases List.mem_append.1 hd with hd | hd
  ·
   exact h4 d hd
  ·
   simp at hd; subst hd; exact hc
theorem Lx.blk {w w':World}{T size g n:Nat}{cs:List (Array Value)}(h:Lx w T size g n cs)(e:w'.heap[g]?=w.heap[g]?):Lx w' T size g n cs:=by
 obtain⟨⟨cur,h1,h2⟩,h4⟩:=h;exact⟨⟨cur,e.trans h1,h2⟩,h4⟩
theorem Lx.there {w:World}{T size g n:Nat}{cs:List (Array Value)}(h:Lx w T size g n cs)(k:Nat)(hk:k<n):w.there g (k*size) size:=by
 obtain⟨⟨cur,h1,h2,-⟩,-⟩:=h;intro j hj;have:k*size+j<cur.size:=by
  have:(k+1)*size≤n*size:=Nat.mul_le_mul_right _ hk;rw [Nat.succ_mul] at this;omega
 refine⟨?_,frozen_of_row _ _ _ _ _ h1⟩;rw [Zr h1];simp [this]
theorem Lx.own {w:World}{T size g n B:Nat}{cs:List (Array Value)}(h:Lx w T size g n cs)(hn:cs.length=n)(hm:n≤1000)(hB:B≤g):Zlz w B T size (.slice (some ⟨g,0,none⟩) n n) cs:=by
 obtain⟨⟨cur,h1,h2,h3⟩,h4⟩:=h;refine⟨⟨Zim cs h4,Or.inr ⟨g,n,cur,by rw [hn],hB,h1,by omega,?_,h2,h3⟩⟩,h4⟩;unfold maxLen;omega
theorem Lx.start (w:World)(T size n:Nat)(z:Array Value):Lx (w.alloc (.cells (madeCells z (n*size)) T)) T size w.heap.size n []:=⟨⟨_,heap_alloc_new _ _,size_madeCells _ _,by simp [Ic]⟩,fun c hc=>by cases hc⟩
theorem Dh {α:Type}{one:Dec α}{k n a q:Nat}(h:Nn one k a=.error q)(hn:k≤n):Nn one n a=.error q:=by
 induction n with
 | zero =>
  obtain rfl:k=0:=by omega
  exact h
 | succ n ih =>
  rcases Nat.lt_or_ge k (n+1) with x | x
  ·
   show Yn (Nn one n a) _=_;rw [ih (by omega)];rfl
  ·
   obtain rfl:k=n+1:=by omega
   exact h
theorem Oz {α:Type}{one:Dec α}{k a a1:Nat}{xs:List α}(h:Nn one k a=.ok (xs,a1)):Nn one (k+1) a=Yn (one a1) fun x a2=>.ok (xs++[x],a2):=by
 show Yn (Nn one k a) _=_;rw [h];rfl
theorem Lf {w:World}{b g:Nat}(hg:w.heap.size≤g):∀(vs:List Value) (o:Nat) (u:World),w.grownBy u (some b)→w.grownBy (u.setCells g o vs) (some b)
 | [],_,_,h=>h
 | _ :: vs,o,_,h=>Lf hg vs (o+1) _ (Zdb h (Or.inl hg))
def Gn {α:Type}(size:Nat)(R:World→Nat→Array Value→α→Prop)(w:World)(B:Nat)(v:Value)(x:α):Prop:=∃ c:Array Value,v=.agg c∧c.size=size∧c.all (·.oneCell')=true∧R w B c x
def Ybk {α:Type}(R:World→Nat→Array Value→α→Prop)(w:World)(B:Nat)(v:Value)(x:α):Prop:=R w B #[v] x∧∃ n,v=.int .i64 n
def Zty {α:Type}(R:World→Nat→Array Value→α→Prop)(w:World)(B:Nat)(v:Value)(x:α):Prop:=R w B #[v] x∧∃ p n c,v=.slice p n c
def Rc {α:Type}(R:World→Nat→Array Value→α→Prop):Prop:=∀ w w' B B' c x,B'≤B→Xt B w w'→R w B c x→R w' B' c x
theorem Yo (w:World)(g o:Nat)(vs:List Value){i:Nat}(hne:i≠g):(w.setCells g o vs).heap[i]?=w.heap[i]?:=by
 induction vs generalizing o w with
 | nil=>rfl
 | cons v vs ih=>exact(ih _ _).trans (heap_setCell_other w ⟨g,o,none⟩ i v hne)
theorem Tryz.infoDInts:(Tryz.prog.info? 3).map (fun i=>(i.zero,i.size,i.bytes))=some (some (.int .i64 0),1,8):=by kernel_rfl
theorem Ztz (n:Nat)(hn:n≤1000):∃ z:Array Value,∀ w:World,(Instr.makeSlice 35 (.int .i64 (n:Int)) (.int .i64 (n:Int))).run Tryz.prog w=.ok (.slice (some ⟨w.heap.size,0,none⟩) n n) (w.alloc (.cells (madeCells z n) 3)):=by
 obtain⟨i,hi,hz,hs,hby⟩:=Gd Tryz.infoDInts;refine⟨(.int .i64 0:Value).cells,fun w=>?_⟩;have h:=run_make (P:=Tryz.prog) w 35 3 i _ Tryz.underlying35 hi hz .i64 .i64 n n (by omega) (Int.le_refl _) (by rw [hby]; omega) (by omega);simpa [hs] using h
theorem Di {α:Type}(F:Nat)(hcf:∀ args w,(callFunc F args).run Tryz.prog w=.ok (.enter F args) w)(R:World→Nat→Array Value→α→Prop)(hR:Rc R)(one:Dec α)(b:Nat)(s:ByteArray)(a:Nat)(lo hi:Int)(w:World)(h:Mc w b s a)(hlo:0≤lo)(hhi:hi≤1000)
 (hone:∀ a' w',Mc w' b s a'→w.grownBy w' (some b)→Calls Tryz.prog F #[.pointer (some ⟨b,0,none⟩)] w' (Yl b s (Ybk R) (one a') w')) :
 Calls Tryz.prog 147 #[.pointer (some ⟨b,0,none⟩),.int .i64 lo,.int .i64 hi,.func (.func F) #[.pointer (some ⟨b,0,none⟩)] #[]] w (Yl b s (fun w B v xs=>Xn w B 3 1 (R w B) v xs) (Ys s lo hi one a) w):=by
 have HN:=Zc (Xm b s a lo hi w h (by omega));have HONE:=Zc hone;have HMON:=Zc hR;have hbw:=h.lt;clear hone h hR;cases hd:Yf s lo hi a with
 | error q =>
  have HD:=Zc (show Ys s lo hi one a=.error q by unfold Ys; rw [hd]; rfl);rw [hd] at HN;go_enter Tryz.func147,Tryz.ntmps147
  go_wp2_with fail
  refine(O HN).mono ?_;intro e w2 h2;have h3:=Yl.err (RW:=fun w B v (xs:List α)=>Xn w B 3 1 (R w B) v xs) h2 (Ju w (some b));obtain⟨g1,g,rfl,g2,g3⟩:=h2;refine⟨rfl,?_⟩;rw [O HD];exact h3
 | ok p =>
  obtain⟨nv,a1⟩:=p;have hnv:lo≤nv∧nv≤hi:=by
   unfold Yf Nm at hd;split at hd
   ·
    split at hd
    ·
     injection hd with hd; injection hd with h1 h2; rw [← h1]; assumption
    ·
     cases hd
   ·
    cases hd
  obtain⟨n,rfl⟩:=Int.eq_ofNat_of_zero_le (show 0≤nv by omega);have hn:n≤1000:=by omega
  have HD:=Zc (show Ys s lo hi one a=Nn one n a1 by unfold Ys; rw [hd]; rfl);rw [hd] at HN;obtain⟨z,hmk⟩:=Ztz n hn;clear hnv hd;go_enter Tryz.func147,Tryz.ntmps147
  go_wp2_with fail
  refine(O HN).mono ?_;rintro e w1 ⟨hg1,v,rfl,hv,hR1⟩;have hv':v=.int .i64 (n:Int):=hv;subst hv';have hs1:=hg1.size;have hst:=Lx.start w1 3 1 n z;rw [Nat.mul_one] at hst;have HG1:=Zc (Xy hg1 (Yc w1 (.cells (madeCells z n) 3) (some b)));have HR1:=Zc (hR1.alloc (.cells (madeCells z n) 3));have HST:=Zc hst;have HMK:=Zc hmk;clear hg1 hv hR1 hst HN;go_wp2_with fail
  clear hmk;generalize hW:w1.alloc (.cells (madeCells z n) 3)=W at HG1 HR1 HST ⊢;have hWs:W.heap.size=w1.heap.size+1:=by rw [← hW]; simp
  obtain⟨g,hg⟩:∃ g,g=w1.heap.size:=⟨_,rfl⟩;rw [← hg] at HST hs1 hWs ⊢;clear hW hg HMK;go_loopw [18] (fun j w'=>∃(k:Nat) (xs:List α) (ak:Nat) (cs:List (Array Value)),j=.int .i64 k∧k≤n∧Nn one k a1=.ok (xs,ak)∧Mc w' b s ak∧w.grownBy w' (some b)∧Lx w' 3 1 g n cs∧cs.length=k∧Gh (R w' (g+1)) cs xs∧g<w'.heap.size) (fun j _=>n-(intOf j).toNat)
  case atStart=>exact⟨0,[],a1,[],rfl,by omega,rfl,O HR1,O HG1,O HST,rfl,.nil,by omega⟩
  case round =>
   obtain⟨k,xs,ak,cs,rfl,hk,hrep,hRd,hgb,hpt,hcl,hall,hgl⟩:=hrel;by_cases hlt:k<n
   ·
    have HCALL:=Zc (O HONE ak wr hRd hgb);have HNX:=Zc (Oz hrep);have HPT:=Zc hpt;have HALL:=Zc hall;have HGB:=Zc hgb;have HCL:=Zc hcl;clear hrep hRd hgb hpt hall hcl;go_wp2_with fail
    refine(O HCALL).mono ?_;intro e w2 h2;cases ho:one ak with
    | error q =>
     rw [ho] at h2;have h3:=Yl.err (RW:=fun w B v (xs:List α)=>Xn w B 3 1 (R w B) v xs) h2 (O HGB);obtain⟨g1,g',rfl,g2,g3⟩:=h2;refine⟨rfl,?_⟩;have h4:=O HNX;rw [ho] at h4;rw [O HD,Dh h4 (by omega)];exact h3
    | ok p =>
     obtain⟨x,a2⟩:=p;rw [ho] at h2;obtain⟨hg2,v,rfl,hvr,hR2⟩:=h2;obtain⟨hrr,vn,rfl⟩:=hvr;have hpt2:=(O HPT).blk (hg2.block g hgl (by intro e; injection e with e; omega));have hth:=hpt2.there k hlt;have hs2:=hg2.size;have hpt3:=hpt2.store (by rw [O HCL]; exact hlt) (#[.int .i64 vn]:Array Value) rfl;rw [O HCL] at hpt3;have hall2:Gh (R (w2.setCells g (k*1) ((#[.int .i64 vn]:Array Value)).toList) (g+1)) (cs++[(#[.int .i64 vn]:Array Value)]) (xs++[x]):=by
      have hko:Xt (g+1) w2 (w2.setCells g (k*1) ((#[.int .i64 vn]:Array Value)).toList):=fun i h1 h2=>Yo _ _ _ _ (by omega);refine Gh.snoc ((O HALL).imp fun c y hy=>?_) ?_
      ·
       refine O HMON _ _ _ _ _ _ (Nat.le_refl _) hko (O HMON _ _ _ _ _ _ (Nat.le_refl _) (Xt.of_gb hg2 (by omega)) hy)
      ·
       exact O HMON _ _ _ _ _ _ (by omega) (fun i h1 h2=>hko i (by omega) h2) hrr
     have HNX2:=Zc (show Nn one (k+1) a1=.ok (xs++[x],a2) by rw [O HNX,ho]; rfl);have HRZ:=Zc (show Mc (w2.setCells g (k*1) ((#[.int .i64 vn]:Array Value)).toList) b s a2 from hR2.blk (Yo _ _ _ _ (by omega)));have HGZ:=Zc (Lf (b:=b) (g:=g) (w:=w) (by omega) ((#[.int .i64 vn]:Array Value)).toList (k*1) w2 (Xy (O HGB) hg2));have HPZ:=Zc hpt3;have HAZ:=Zc hall2;have HLZ:=Zc (show(cs++[(#[.int .i64 vn]:Array Value)]).length=k+1 by rw [List.length_append,O HCL]; rfl);have hsz:g<(w2.setCells g (k*1) ((#[.int .i64 vn]:Array Value)).toList).heap.size:=hpt3.1.elim fun cur hc=>Zk hc.1;clear hg2 hrr hR2 hpt2 hpt3 hall2 ho HNX HPT HALL HGB HCALL;have e1:w2.setCells g (k*1) (#[.int .i64 vn]:Array Value).toList=w2.setCell ⟨g,k,none⟩ (.int .i64 vn):=by rw [Nat.mul_one]; rfl
     rw [e1] at HRZ HGZ HPZ HAZ hsz;obtain⟨hq1,hq2⟩:=hth 0 (by decide);rw [Nat.mul_one,Nat.add_zero] at hq1 hq2;obtain⟨uu,hq3⟩:=Option.isSome_iff_exists.1 hq1;clear e1 hth hq1;go_wp2;go_roundw
     case rel=>exact⟨k+1,xs++[x],a2,cs++[(#[.int .i64 vn]:Array Value)],by go_num,by omega,O HNX2,O HRZ,O HGZ,O HPZ,O HLZ,O HAZ,hsz⟩
     case measure=>simp [intOf]; omega
   ·
    obtain rfl:k=n:=by omega
    have HREP:=Zc hrep;have HOWN:=Zc (show Xn wr w.heap.size 3 1 (R wr w.heap.size) (.slice (some ⟨g,0,none⟩) k k) xs from⟨cs,hpt.own hcl hn (by omega),hall.imp fun c y hy=>O HMON _ _ _ _ _ _ (by omega) (fun _ _ _=>rfl) hy⟩);have HRZ:=Zc hRd;have HGZ:=Zc hgb;clear hrep hRd hgb hpt hall hcl;go_wp2;go_ret;rw [O HD,O HREP];exact⟨O HGZ,_,rfl,O HOWN,O HRZ⟩
theorem Tryz.infoDParams:(Tryz.prog.info? 85).map (fun i=>(i.zero,i.size,i.bytes))=some (some (.agg #[.int .i64 0,.int .i64 0]),2,16):=by kernel_rfl
theorem Zma (n:Nat)(hn:n≤1000):∃ z:Array Value,∀ w:World,(Instr.makeSlice 86 (.int .i64 (n:Int)) (.int .i64 (n:Int))).run Tryz.prog w=.ok (.slice (some ⟨w.heap.size,0,none⟩) n n) (w.alloc (.cells (madeCells z (n*2)) 85)):=by
 obtain⟨i,hi,hz,hs,hby⟩:=Gd Tryz.infoDParams;refine⟨(.agg #[.int .i64 0,.int .i64 0]:Value).cells,fun w=>?_⟩;have h:=run_make (P:=Tryz.prog) w 86 85 i _ Tryz.underlying86 hi hz .i64 .i64 n n (by omega) (Int.le_refl _) (by rw [hby]; omega) (by omega);simpa [hs] using h
theorem Zgi {α:Type}(F:Nat)(hcf:∀ args w,(callFunc F args).run Tryz.prog w=.ok (.enter F args) w)(R:World→Nat→Array Value→α→Prop)(hR:Rc R)(one:Dec α)(b:Nat)(s:ByteArray)(a:Nat)(lo hi:Int)(w:World)(h:Mc w b s a)(hlo:0≤lo)(hhi:hi≤1000)
 (hone:∀ a' w',Mc w' b s a'→w.grownBy w' (some b)→Calls Tryz.prog F #[.pointer (some ⟨b,0,none⟩)] w' (Yl b s (Gn 2 R) (one a') w')) :
 Calls Tryz.prog 149 #[.pointer (some ⟨b,0,none⟩),.int .i64 lo,.int .i64 hi,.func (.func F) #[.pointer (some ⟨b,0,none⟩)] #[]] w (Yl b s (fun w B v xs=>Xn w B 85 2 (R w B) v xs) (Ys s lo hi one a) w):=by
 have HN:=Zc (Xm b s a lo hi w h (by omega));have HONE:=Zc hone;have HMON:=Zc hR;have hbw:=h.lt;clear hone h hR;cases hd:Yf s lo hi a with
 | error q =>
  have HD:=Zc (show Ys s lo hi one a=.error q by unfold Ys; rw [hd]; rfl);rw [hd] at HN;go_enter Tryz.func149,Tryz.ntmps149
  go_wp2_with fail
  refine(O HN).mono ?_;intro e w2 h2;have h3:=Yl.err (RW:=fun w B v (xs:List α)=>Xn w B 85 2 (R w B) v xs) h2 (Ju w (some b));obtain⟨g1,g,rfl,g2,g3⟩:=h2;refine⟨rfl,?_⟩;rw [O HD];exact h3
 | ok p =>
  obtain⟨nv,a1⟩:=p;have hnv:lo≤nv∧nv≤hi:=by
   unfold Yf Nm at hd;split at hd
   ·
    split at hd
    ·
     injection hd with hd; injection hd with h1 h2; rw [← h1]; assumption
    ·
     cases hd
   ·
    cases hd
  obtain⟨n,rfl⟩:=Int.eq_ofNat_of_zero_le (show 0≤nv by omega);have hn:n≤1000:=by omega
  have HD:=Zc (show Ys s lo hi one a=Nn one n a1 by unfold Ys; rw [hd]; rfl);rw [hd] at HN;obtain⟨z,hmk⟩:=Zma n hn;clear hnv hd;go_enter Tryz.func149,Tryz.ntmps149
  go_wp2_with fail
  refine(O HN).mono ?_;rintro e w1 ⟨hg1,v,rfl,hv,hR1⟩;have hv':v=.int .i64 (n:Int):=hv;subst hv';have hs1:=hg1.size;have hst:=Lx.start w1 85 2 n z;have HG1:=Zc (Xy hg1 (Yc w1 (.cells (madeCells z (n*2)) 85) (some b)));have HR1:=Zc (hR1.alloc (.cells (madeCells z (n*2)) 85));have HST:=Zc hst;have HMK:=Zc hmk;clear hg1 hv hR1 hst HN;go_wp2_with fail
  clear hmk;generalize hW:w1.alloc (.cells (madeCells z (n*2)) 85)=W at HG1 HR1 HST ⊢;have hWs:W.heap.size=w1.heap.size+1:=by rw [← hW]; simp
  obtain⟨g,hg⟩:∃ g,g=w1.heap.size:=⟨_,rfl⟩;rw [← hg] at HST hs1 hWs ⊢;clear hW hg HMK;go_loopw [18] (fun j w'=>∃(k:Nat) (xs:List α) (ak:Nat) (cs:List (Array Value)),j=.int .i64 k∧k≤n∧Nn one k a1=.ok (xs,ak)∧Mc w' b s ak∧w.grownBy w' (some b)∧Lx w' 85 2 g n cs∧cs.length=k∧Gh (R w' (g+1)) cs xs∧g<w'.heap.size) (fun j _=>n-(intOf j).toNat)
  case atStart=>exact⟨0,[],a1,[],rfl,by omega,rfl,O HR1,O HG1,O HST,rfl,.nil,by omega⟩
  case round =>
   obtain⟨k,xs,ak,cs,rfl,hk,hrep,hRd,hgb,hpt,hcl,hall,hgl⟩:=hrel;by_cases hlt:k<n
   ·
    have HCALL:=Zc (O HONE ak wr hRd hgb);have HNX:=Zc (Oz hrep);have HPT:=Zc hpt;have HALL:=Zc hall;have HGB:=Zc hgb;have HCL:=Zc hcl;clear hrep hRd hgb hpt hall hcl;go_wp2_with fail
    refine(O HCALL).mono ?_;intro e w2 h2;cases ho:one ak with
    | error q =>
     rw [ho] at h2;have h3:=Yl.err (RW:=fun w B v (xs:List α)=>Xn w B 85 2 (R w B) v xs) h2 (O HGB);obtain⟨g1,g',rfl,g2,g3⟩:=h2;refine⟨rfl,?_⟩;have h4:=O HNX;rw [ho] at h4;rw [O HD,Dh h4 (by omega)];exact h3
    | ok p =>
     obtain⟨x,a2⟩:=p;rw [ho] at h2;obtain⟨hg2,v,rfl,hvr,hR2⟩:=h2;obtain⟨c,rfl,hc1,hc2,hrr⟩:=hvr;have hpt2:=(O HPT).blk (hg2.block g hgl (by intro e; injection e with e; omega));have hth:=hpt2.there k hlt;have hs2:=hg2.size;have hpt3:=hpt2.store (by rw [O HCL]; exact hlt) c hc1;rw [O HCL] at hpt3;have hall2:Gh (R (w2.setCells g (k*2) (c).toList) (g+1)) (cs++[c]) (xs++[x]):=by
      have hko:Xt (g+1) w2 (w2.setCells g (k*2) (c).toList):=fun i h1 h2=>Yo _ _ _ _ (by omega);refine Gh.snoc ((O HALL).imp fun c y hy=>?_) ?_
      ·
       refine O HMON _ _ _ _ _ _ (Nat.le_refl _) hko (O HMON _ _ _ _ _ _ (Nat.le_refl _) (Xt.of_gb hg2 (by omega)) hy)
      ·
       exact O HMON _ _ _ _ _ _ (by omega) (fun i h1 h2=>hko i (by omega) h2) hrr
     have HNX2:=Zc (show Nn one (k+1) a1=.ok (xs++[x],a2) by rw [O HNX,ho]; rfl);have HRZ:=Zc (show Mc (w2.setCells g (k*2) (c).toList) b s a2 from hR2.blk (Yo _ _ _ _ (by omega)));have HGZ:=Zc (Lf (b:=b) (g:=g) (w:=w) (by omega) (c).toList (k*2) w2 (Xy (O HGB) hg2));have HPZ:=Zc hpt3;have HAZ:=Zc hall2;have HLZ:=Zc (show(cs++[c]).length=k+1 by rw [List.length_append,O HCL]; rfl);have hsz:g<(w2.setCells g (k*2) (c).toList).heap.size:=hpt3.1.elim fun cur hc=>Zk hc.1;clear hg2 hrr hR2 hpt2 hpt3 hall2 ho HNX HPT HALL HGB HCALL;go_wp2_with (refine wpList_store_mid rfl 85 (.tmp 25) (.tmp 24) rfl g (k*2) c rfl rfl (by rw [hc1]; exact hth) (Tryz.infParams.trans (congrArg some hc1.symm)) hc2 ?_)
     go_roundw
     case rel=>exact⟨k+1,xs++[x],a2,cs++[c],by go_num,by omega,O HNX2,O HRZ,O HGZ,O HPZ,O HLZ,O HAZ,hsz⟩
     case measure=>simp [intOf]; omega
   ·
    obtain rfl:k=n:=by omega
    have HREP:=Zc hrep;have HOWN:=Zc (show Xn wr w.heap.size 85 2 (R wr w.heap.size) (.slice (some ⟨g,0,none⟩) k k) xs from⟨cs,hpt.own hcl hn (by omega),hall.imp fun c y hy=>O HMON _ _ _ _ _ _ (by omega) (fun _ _ _=>rfl) hy⟩);have HRZ:=Zc hRd;have HGZ:=Zc hgb;clear hrep hRd hgb hpt hall hcl;go_wp2;go_ret;rw [O HD,O HREP];exact⟨O HGZ,_,rfl,O HOWN,O HRZ⟩
theorem Tryz.infoDArgs:(Tryz.prog.info? 361).map (fun i=>(i.zero,i.size,i.bytes))=some (some (.agg #[.int .i64 0,.int .i64 0]),2,16):=by kernel_rfl
theorem Zua (n:Nat)(hn:n≤1000):∃ z:Array Value,∀ w:World,(Instr.makeSlice 87 (.int .i64 (n:Int)) (.int .i64 (n:Int))).run Tryz.prog w=.ok (.slice (some ⟨w.heap.size,0,none⟩) n n) (w.alloc (.cells (madeCells z (n*2)) 361)):=by
 obtain⟨i,hi,hz,hs,hby⟩:=Gd Tryz.infoDArgs;refine⟨(.agg #[.int .i64 0,.int .i64 0]:Value).cells,fun w=>?_⟩;have h:=run_make (P:=Tryz.prog) w 87 361 i _ Tryz.underlying87 hi hz .i64 .i64 n n (by omega) (Int.le_refl _) (by rw [hby]; omega) (by omega);simpa [hs] using h
theorem Zct {α:Type}(F:Nat)(hcf:∀ args w,(callFunc F args).run Tryz.prog w=.ok (.enter F args) w)(R:World→Nat→Array Value→α→Prop)(hR:Rc R)(one:Dec α)(b:Nat)(s:ByteArray)(a:Nat)(lo hi:Int)(w:World)(h:Mc w b s a)(hlo:0≤lo)(hhi:hi≤1000)
 (hone:∀ a' w',Mc w' b s a'→w.grownBy w' (some b)→Calls Tryz.prog F #[.pointer (some ⟨b,0,none⟩)] w' (Yl b s (Gn 2 R) (one a') w')) :
 Calls Tryz.prog 285 #[.pointer (some ⟨b,0,none⟩),.int .i64 lo,.int .i64 hi,.func (.func F) #[.pointer (some ⟨b,0,none⟩)] #[]] w (Yl b s (fun w B v xs=>Xn w B 361 2 (R w B) v xs) (Ys s lo hi one a) w):=by
 have HN:=Zc (Xm b s a lo hi w h (by omega));have HONE:=Zc hone;have HMON:=Zc hR;have hbw:=h.lt;clear hone h hR;cases hd:Yf s lo hi a with
 | error q =>
  have HD:=Zc (show Ys s lo hi one a=.error q by unfold Ys; rw [hd]; rfl);rw [hd] at HN;go_enter Tryz.func285,Tryz.ntmps285
  go_wp2_with fail
  refine(O HN).mono ?_;intro e w2 h2;have h3:=Yl.err (RW:=fun w B v (xs:List α)=>Xn w B 361 2 (R w B) v xs) h2 (Ju w (some b));obtain⟨g1,g,rfl,g2,g3⟩:=h2;refine⟨rfl,?_⟩;rw [O HD];exact h3
 | ok p =>
  obtain⟨nv,a1⟩:=p;have hnv:lo≤nv∧nv≤hi:=by
   unfold Yf Nm at hd;split at hd
   ·
    split at hd
    ·
     injection hd with hd; injection hd with h1 h2; rw [← h1]; assumption
    ·
     cases hd
   ·
    cases hd
  obtain⟨n,rfl⟩:=Int.eq_ofNat_of_zero_le (show 0≤nv by omega);have hn:n≤1000:=by omega
  have HD:=Zc (show Ys s lo hi one a=Nn one n a1 by unfold Ys; rw [hd]; rfl);rw [hd] at HN;obtain⟨z,hmk⟩:=Zua n hn;clear hnv hd;go_enter Tryz.func285,Tryz.ntmps285
  go_wp2_with fail
  refine(O HN).mono ?_;rintro e w1 ⟨hg1,v,rfl,hv,hR1⟩;have hv':v=.int .i64 (n:Int):=hv;subst hv';have hs1:=hg1.size;have hst:=Lx.start w1 361 2 n z;have HG1:=Zc (Xy hg1 (Yc w1 (.cells (madeCells z (n*2)) 361) (some b)));have HR1:=Zc (hR1.alloc (.cells (madeCells z (n*2)) 361));have HST:=Zc hst;have HMK:=Zc hmk;clear hg1 hv hR1 hst HN;go_wp2_with fail
  clear hmk;generalize hW:w1.alloc (.cells (madeCells z (n*2)) 361)=W at HG1 HR1 HST ⊢;have hWs:W.heap.size=w1.heap.size+1:=by rw [← hW]; simp
  obtain⟨g,hg⟩:∃ g,g=w1.heap.size:=⟨_,rfl⟩;rw [← hg] at HST hs1 hWs ⊢;clear hW hg HMK;go_loopw [18] (fun j w'=>∃(k:Nat) (xs:List α) (ak:Nat) (cs:List (Array Value)),j=.int .i64 k∧k≤n∧Nn one k a1=.ok (xs,ak)∧Mc w' b s ak∧w.grownBy w' (some b)∧Lx w' 361 2 g n cs∧cs.length=k∧Gh (R w' (g+1)) cs xs∧g<w'.heap.size) (fun j _=>n-(intOf j).toNat)
  case atStart=>exact⟨0,[],a1,[],rfl,by omega,rfl,O HR1,O HG1,O HST,rfl,.nil,by omega⟩
  case round =>
   obtain⟨k,xs,ak,cs,rfl,hk,hrep,hRd,hgb,hpt,hcl,hall,hgl⟩:=hrel;by_cases hlt:k<n
   ·
    have HCALL:=Zc (O HONE ak wr hRd hgb);have HNX:=Zc (Oz hrep);have HPT:=Zc hpt;have HALL:=Zc hall;have HGB:=Zc hgb;have HCL:=Zc hcl;clear hrep hRd hgb hpt hall hcl;go_wp2_with fail
    refine(O HCALL).mono ?_;intro e w2 h2;cases ho:one ak with
    | error q =>
     rw [ho] at h2;have h3:=Yl.err (RW:=fun w B v (xs:List α)=>Xn w B 361 2 (R w B) v xs) h2 (O HGB);obtain⟨g1,g',rfl,g2,g3⟩:=h2;refine⟨rfl,?_⟩;have h4:=O HNX;rw [ho] at h4;rw [O HD,Dh h4 (by omega)];exact h3
    | ok p =>
     obtain⟨x,a2⟩:=p;rw [ho] at h2;obtain⟨hg2,v,rfl,hvr,hR2⟩:=h2;obtain⟨c,rfl,hc1,hc2,hrr⟩:=hvr;have hpt2:=(O HPT).blk (hg2.block g hgl (by intro e; injection e with e; omega));have hth:=hpt2.there k hlt;have hs2:=hg2.size;have hpt3:=hpt2.store (by rw [O HCL]; exact hlt) c hc1;rw [O HCL] at hpt3;have hall2:Gh (R (w2.setCells g (k*2) (c).toList) (g+1)) (cs++[c]) (xs++[x]):=by
      have hko:Xt (g+1) w2 (w2.setCells g (k*2) (c).toList):=fun i h1 h2=>Yo _ _ _ _ (by omega);refine Gh.snoc ((O HALL).imp fun c y hy=>?_) ?_
      ·
       refine O HMON _ _ _ _ _ _ (Nat.le_refl _) hko (O HMON _ _ _ _ _ _ (Nat.le_refl _) (Xt.of_gb hg2 (by omega)) hy)
      ·
       exact O HMON _ _ _ _ _ _ (by omega) (fun i h1 h2=>hko i (by omega) h2) hrr
     have HNX2:=Zc (show Nn one (k+1) a1=.ok (xs++[x],a2) by rw [O HNX,ho]; rfl);have HRZ:=Zc (show Mc (w2.setCells g (k*2) (c).toList) b s a2 from hR2.blk (Yo _ _ _ _ (by omega)));have HGZ:=Zc (Lf (b:=b) (g:=g) (w:=w) (by omega) (c).toList (k*2) w2 (Xy (O HGB) hg2));have HPZ:=Zc hpt3;have HAZ:=Zc hall2;have HLZ:=Zc (show(cs++[c]).length=k+1 by rw [List.length_append,O HCL]; rfl);have hsz:g<(w2.setCells g (k*2) (c).toList).heap.size:=hpt3.1.elim fun cur hc=>Zk hc.1;clear hg2 hrr hR2 hpt2 hpt3 hall2 ho HNX HPT HALL HGB HCALL;go_wp2_with (refine wpList_store_mid rfl 361 (.tmp 25) (.tmp 24) rfl g (k*2) c rfl rfl (by rw [hc1]; exact hth) (Tryz.infArgs.trans (congrArg some hc1.symm)) hc2 ?_)
     go_roundw
     case rel=>exact⟨k+1,xs++[x],a2,cs++[c],by go_num,by omega,O HNX2,O HRZ,O HGZ,O HPZ,O HLZ,O HAZ,hsz⟩
     case measure=>simp [intOf]; omega
   ·
    obtain rfl:k=n:=by omega
    have HREP:=Zc hrep;have HOWN:=Zc (show Xn wr w.heap.size 361 2 (R wr w.heap.size) (.slice (some ⟨g,0,none⟩) k k) xs from⟨cs,hpt.own hcl hn (by omega),hall.imp fun c y hy=>O HMON _ _ _ _ _ _ (by omega) (fun _ _ _=>rfl) hy⟩);have HRZ:=Zc hRd;have HGZ:=Zc hgb;clear hrep hRd hgb hpt hall hcl;go_wp2;go_ret;rw [O HD,O HREP];exact⟨O HGZ,_,rfl,O HOWN,O HRZ⟩
theorem Tryz.infoDSigs:(Tryz.prog.info? 59).map (fun i=>(i.zero,i.size,i.bytes))=some (some (.agg #[.slice none 0 0,.int .i64 0]),2,32):=by kernel_rfl
theorem Zub (n:Nat)(hn:n≤1000):∃ z:Array Value,∀ w:World,(Instr.makeSlice 23 (.int .i64 (n:Int)) (.int .i64 (n:Int))).run Tryz.prog w=.ok (.slice (some ⟨w.heap.size,0,none⟩) n n) (w.alloc (.cells (madeCells z (n*2)) 59)):=by
 obtain⟨i,hi,hz,hs,hby⟩:=Gd Tryz.infoDSigs;refine⟨(.agg #[.slice none 0 0,.int .i64 0]:Value).cells,fun w=>?_⟩;have h:=run_make (P:=Tryz.prog) w 23 59 i _ Tryz.underlying23 hi hz .i64 .i64 n n (by omega) (Int.le_refl _) (by rw [hby]; omega) (by omega);simpa [hs] using h
theorem Zmb {α:Type}(F:Nat)(hcf:∀ args w,(callFunc F args).run Tryz.prog w=.ok (.enter F args) w)(R:World→Nat→Array Value→α→Prop)(hR:Rc R)(one:Dec α)(b:Nat)(s:ByteArray)(a:Nat)(lo hi:Int)(w:World)(h:Mc w b s a)(hlo:0≤lo)(hhi:hi≤1000)
 (hone:∀ a' w',Mc w' b s a'→w.grownBy w' (some b)→Calls Tryz.prog F #[.pointer (some ⟨b,0,none⟩)] w' (Yl b s (Gn 2 R) (one a') w')) :
 Calls Tryz.prog 96 #[.pointer (some ⟨b,0,none⟩),.int .i64 lo,.int .i64 hi,.func (.func F) #[.pointer (some ⟨b,0,none⟩)] #[]] w (Yl b s (fun w B v xs=>Xn w B 59 2 (R w B) v xs) (Ys s lo hi one a) w):=by
 have HN:=Zc (Xm b s a lo hi w h (by omega));have HONE:=Zc hone;have HMON:=Zc hR;have hbw:=h.lt;clear hone h hR;cases hd:Yf s lo hi a with
 | error q =>
  have HD:=Zc (show Ys s lo hi one a=.error q by unfold Ys; rw [hd]; rfl);rw [hd] at HN;go_enter Tryz.func96,Tryz.ntmps96
  go_wp2_with fail
  refine(O HN).mono ?_;intro e w2 h2;have h3:=Yl.err (RW:=fun w B v (xs:List α)=>Xn w B 59 2 (R w B) v xs) h2 (Ju w (some b));obtain⟨g1,g,rfl,g2,g3⟩:=h2;refine⟨rfl,?_⟩;rw [O HD];exact h3
 | ok p =>
  obtain⟨nv,a1⟩:=p;have hnv:lo≤nv∧nv≤hi:=by
   unfold Yf Nm at hd;split at hd
   ·
    split at hd
    ·
     injection hd with hd; injection hd with h1 h2; rw [← h1]; assumption
    ·
     cases hd
   ·
    cases hd
  obtain⟨n,rfl⟩:=Int.eq_ofNat_of_zero_le (show 0≤nv by omega);have hn:n≤1000:=by omega
  have HD:=Zc (show Ys s lo hi one a=Nn one n a1 by unfold Ys; rw [hd]; rfl);rw [hd] at HN;obtain⟨z,hmk⟩:=Zub n hn;clear hnv hd;go_enter Tryz.func96,Tryz.ntmps96
  go_wp2_with fail
  refine(O HN).mono ?_;rintro e w1 ⟨hg1,v,rfl,hv,hR1⟩;have hv':v=.int .i64 (n:Int):=hv;subst hv';have hs1:=hg1.size;have hst:=Lx.start w1 59 2 n z;have HG1:=Zc (Xy hg1 (Yc w1 (.cells (madeCells z (n*2)) 59) (some b)));have HR1:=Zc (hR1.alloc (.cells (madeCells z (n*2)) 59));have HST:=Zc hst;have HMK:=Zc hmk;clear hg1 hv hR1 hst HN;go_wp2_with fail
  clear hmk;generalize hW:w1.alloc (.cells (madeCells z (n*2)) 59)=W at HG1 HR1 HST ⊢;have hWs:W.heap.size=w1.heap.size+1:=by rw [← hW]; simp
  obtain⟨g,hg⟩:∃ g,g=w1.heap.size:=⟨_,rfl⟩;rw [← hg] at HST hs1 hWs ⊢;clear hW hg HMK;go_loopw [18] (fun j w'=>∃(k:Nat) (xs:List α) (ak:Nat) (cs:List (Array Value)),j=.int .i64 k∧k≤n∧Nn one k a1=.ok (xs,ak)∧Mc w' b s ak∧w.grownBy w' (some b)∧Lx w' 59 2 g n cs∧cs.length=k∧Gh (R w' (g+1)) cs xs∧g<w'.heap.size) (fun j _=>n-(intOf j).toNat)
  case atStart=>exact⟨0,[],a1,[],rfl,by omega,rfl,O HR1,O HG1,O HST,rfl,.nil,by omega⟩
  case round =>
   obtain⟨k,xs,ak,cs,rfl,hk,hrep,hRd,hgb,hpt,hcl,hall,hgl⟩:=hrel;by_cases hlt:k<n
   ·
    have HCALL:=Zc (O HONE ak wr hRd hgb);have HNX:=Zc (Oz hrep);have HPT:=Zc hpt;have HALL:=Zc hall;have HGB:=Zc hgb;have HCL:=Zc hcl;clear hrep hRd hgb hpt hall hcl;go_wp2_with fail
    refine(O HCALL).mono ?_;intro e w2 h2;cases ho:one ak with
    | error q =>
     rw [ho] at h2;have h3:=Yl.err (RW:=fun w B v (xs:List α)=>Xn w B 59 2 (R w B) v xs) h2 (O HGB);obtain⟨g1,g',rfl,g2,g3⟩:=h2;refine⟨rfl,?_⟩;have h4:=O HNX;rw [ho] at h4;rw [O HD,Dh h4 (by omega)];exact h3
    | ok p =>
     obtain⟨x,a2⟩:=p;rw [ho] at h2;obtain⟨hg2,v,rfl,hvr,hR2⟩:=h2;obtain⟨c,rfl,hc1,hc2,hrr⟩:=hvr;have hpt2:=(O HPT).blk (hg2.block g hgl (by intro e; injection e with e; omega));have hth:=hpt2.there k hlt;have hs2:=hg2.size;have hpt3:=hpt2.store (by rw [O HCL]; exact hlt) c hc1;rw [O HCL] at hpt3;have hall2:Gh (R (w2.setCells g (k*2) (c).toList) (g+1)) (cs++[c]) (xs++[x]):=by
      have hko:Xt (g+1) w2 (w2.setCells g (k*2) (c).toList):=fun i h1 h2=>Yo _ _ _ _ (by omega);refine Gh.snoc ((O HALL).imp fun c y hy=>?_) ?_
      ·
       refine O HMON _ _ _ _ _ _ (Nat.le_refl _) hko (O HMON _ _ _ _ _ _ (Nat.le_refl _) (Xt.of_gb hg2 (by omega)) hy)
      ·
       exact O HMON _ _ _ _ _ _ (by omega) (fun i h1 h2=>hko i (by omega) h2) hrr
     have HNX2:=Zc (show Nn one (k+1) a1=.ok (xs++[x],a2) by rw [O HNX,ho]; rfl);have HRZ:=Zc (show Mc (w2.setCells g (k*2) (c).toList) b s a2 from hR2.blk (Yo _ _ _ _ (by omega)));have HGZ:=Zc (Lf (b:=b) (g:=g) (w:=w) (by omega) (c).toList (k*2) w2 (Xy (O HGB) hg2));have HPZ:=Zc hpt3;have HAZ:=Zc hall2;have HLZ:=Zc (show(cs++[c]).length=k+1 by rw [List.length_append,O HCL]; rfl);have hsz:g<(w2.setCells g (k*2) (c).toList).heap.size:=hpt3.1.elim fun cur hc=>Zk hc.1;clear hg2 hrr hR2 hpt2 hpt3 hall2 ho HNX HPT HALL HGB HCALL;go_wp2_with (refine wpList_store_mid rfl 59 (.tmp 25) (.tmp 24) rfl g (k*2) c rfl rfl (by rw [hc1]; exact hth) (Tryz.infSigs.trans (congrArg some hc1.symm)) hc2 ?_)
     go_roundw
     case rel=>exact⟨k+1,xs++[x],a2,cs++[c],by go_num,by omega,O HNX2,O HRZ,O HGZ,O HPZ,O HLZ,O HAZ,hsz⟩
     case measure=>simp [intOf]; omega
   ·
    obtain rfl:k=n:=by omega
    have HREP:=Zc hrep;have HOWN:=Zc (show Xn wr w.heap.size 59 2 (R wr w.heap.size) (.slice (some ⟨g,0,none⟩) k k) xs from⟨cs,hpt.own hcl hn (by omega),hall.imp fun c y hy=>O HMON _ _ _ _ _ _ (by omega) (fun _ _ _=>rfl) hy⟩);have HRZ:=Zc hRd;have HGZ:=Zc hgb;clear hrep hRd hgb hpt hall hcl;go_wp2;go_ret;rw [O HD,O HREP];exact⟨O HGZ,_,rfl,O HOWN,O HRZ⟩
theorem Tryz.infoDInss:(Tryz.prog.info? 89).map (fun i=>(i.zero,i.size,i.bytes))=some (some (.agg #[.int .i64 0,.int .i64 0,.int .i64 0,.int .i64 0,.int .u64 0,.int .i64 0,.slice none 0 0,.slice none 0 0]),8,96):=by kernel_rfl
theorem Zuc (n:Nat)(hn:n≤1000):∃ z:Array Value,∀ w:World,(Instr.makeSlice 90 (.int .i64 (n:Int)) (.int .i64 (n:Int))).run Tryz.prog w=.ok (.slice (some ⟨w.heap.size,0,none⟩) n n) (w.alloc (.cells (madeCells z (n*8)) 89)):=by
 obtain⟨i,hi,hz,hs,hby⟩:=Gd Tryz.infoDInss;refine⟨(.agg #[.int .i64 0,.int .i64 0,.int .i64 0,.int .i64 0,.int .u64 0,.int .i64 0,.slice none 0 0,.slice none 0 0]:Value).cells,fun w=>?_⟩;have h:=run_make (P:=Tryz.prog) w 90 89 i _ Tryz.underlying90 hi hz .i64 .i64 n n (by omega) (Int.le_refl _) (by rw [hby]; omega) (by omega);simpa [hs] using h
theorem Zmc {α:Type}(F:Nat)(hcf:∀ args w,(callFunc F args).run Tryz.prog w=.ok (.enter F args) w)(R:World→Nat→Array Value→α→Prop)(hR:Rc R)(one:Dec α)(b:Nat)(s:ByteArray)(a:Nat)(lo hi:Int)(w:World)(h:Mc w b s a)(hlo:0≤lo)(hhi:hi≤1000)
 (hone:∀ a' w',Mc w' b s a'→w.grownBy w' (some b)→Calls Tryz.prog F #[.pointer (some ⟨b,0,none⟩)] w' (Yl b s (Gn 8 R) (one a') w')) :
 Calls Tryz.prog 214 #[.pointer (some ⟨b,0,none⟩),.int .i64 lo,.int .i64 hi,.func (.func F) #[.pointer (some ⟨b,0,none⟩)] #[]] w (Yl b s (fun w B v xs=>Xn w B 89 8 (R w B) v xs) (Ys s lo hi one a) w):=by
 have HN:=Zc (Xm b s a lo hi w h (by omega));have HONE:=Zc hone;have HMON:=Zc hR;have hbw:=h.lt;clear hone h hR;cases hd:Yf s lo hi a with
 | error q =>
  have HD:=Zc (show Ys s lo hi one a=.error q by unfold Ys; rw [hd]; rfl);rw [hd] at HN;go_enter Tryz.func214,Tryz.ntmps214
  go_wp2_with fail
  refine(O HN).mono ?_;intro e w2 h2;have h3:=Yl.err (RW:=fun w B v (xs:List α)=>Xn w B 89 8 (R w B) v xs) h2 (Ju w (some b));obtain⟨g1,g,rfl,g2,g3⟩:=h2;refine⟨rfl,?_⟩;rw [O HD];exact h3
 | ok p =>
  obtain⟨nv,a1⟩:=p;have hnv:lo≤nv∧nv≤hi:=by
   unfold Yf Nm at hd;split at hd
   ·
    split at hd
    ·
     injection hd with hd; injection hd with h1 h2; rw [← h1]; assumption
    ·
     cases hd
   ·
    cases hd
  obtain⟨n,rfl⟩:=Int.eq_ofNat_of_zero_le (show 0≤nv by omega);have hn:n≤1000:=by omega
  have HD:=Zc (show Ys s lo hi one a=Nn one n a1 by unfold Ys; rw [hd]; rfl);rw [hd] at HN;obtain⟨z,hmk⟩:=Zuc n hn;clear hnv hd;go_enter Tryz.func214,Tryz.ntmps214
  go_wp2_with fail
  refine(O HN).mono ?_;rintro e w1 ⟨hg1,v,rfl,hv,hR1⟩;have hv':v=.int .i64 (n:Int):=hv;subst hv';have hs1:=hg1.size;have hst:=Lx.start w1 89 8 n z;have HG1:=Zc (Xy hg1 (Yc w1 (.cells (madeCells z (n*8)) 89) (some b)));have HR1:=Zc (hR1.alloc (.cells (madeCells z (n*8)) 89));have HST:=Zc hst;have HMK:=Zc hmk;clear hg1 hv hR1 hst HN;go_wp2_with fail
  clear hmk;generalize hW:w1.alloc (.cells (madeCells z (n*8)) 89)=W at HG1 HR1 HST ⊢;have hWs:W.heap.size=w1.heap.size+1:=by rw [← hW]; simp
  obtain⟨g,hg⟩:∃ g,g=w1.heap.size:=⟨_,rfl⟩;rw [← hg] at HST hs1 hWs ⊢;clear hW hg HMK;go_loopw [18] (fun j w'=>∃(k:Nat) (xs:List α) (ak:Nat) (cs:List (Array Value)),j=.int .i64 k∧k≤n∧Nn one k a1=.ok (xs,ak)∧Mc w' b s ak∧w.grownBy w' (some b)∧Lx w' 89 8 g n cs∧cs.length=k∧Gh (R w' (g+1)) cs xs∧g<w'.heap.size) (fun j _=>n-(intOf j).toNat)
  case atStart=>exact⟨0,[],a1,[],rfl,by omega,rfl,O HR1,O HG1,O HST,rfl,.nil,by omega⟩
  case round =>
   obtain⟨k,xs,ak,cs,rfl,hk,hrep,hRd,hgb,hpt,hcl,hall,hgl⟩:=hrel;by_cases hlt:k<n
   ·
    have HCALL:=Zc (O HONE ak wr hRd hgb);have HNX:=Zc (Oz hrep);have HPT:=Zc hpt;have HALL:=Zc hall;have HGB:=Zc hgb;have HCL:=Zc hcl;clear hrep hRd hgb hpt hall hcl;go_wp2_with fail
    refine(O HCALL).mono ?_;intro e w2 h2;cases ho:one ak with
    | error q =>
     rw [ho] at h2;have h3:=Yl.err (RW:=fun w B v (xs:List α)=>Xn w B 89 8 (R w B) v xs) h2 (O HGB);obtain⟨g1,g',rfl,g2,g3⟩:=h2;refine⟨rfl,?_⟩;have h4:=O HNX;rw [ho] at h4;rw [O HD,Dh h4 (by omega)];exact h3
    | ok p =>
     obtain⟨x,a2⟩:=p;rw [ho] at h2;obtain⟨hg2,v,rfl,hvr,hR2⟩:=h2;obtain⟨c,rfl,hc1,hc2,hrr⟩:=hvr;have hpt2:=(O HPT).blk (hg2.block g hgl (by intro e; injection e with e; omega));have hth:=hpt2.there k hlt;have hs2:=hg2.size;have hpt3:=hpt2.store (by rw [O HCL]; exact hlt) c hc1;rw [O HCL] at hpt3;have hall2:Gh (R (w2.setCells g (k*8) (c).toList) (g+1)) (cs++[c]) (xs++[x]):=by
      have hko:Xt (g+1) w2 (w2.setCells g (k*8) (c).toList):=fun i h1 h2=>Yo _ _ _ _ (by omega);refine Gh.snoc ((O HALL).imp fun c y hy=>?_) ?_
      ·
       refine O HMON _ _ _ _ _ _ (Nat.le_refl _) hko (O HMON _ _ _ _ _ _ (Nat.le_refl _) (Xt.of_gb hg2 (by omega)) hy)
      ·
       exact O HMON _ _ _ _ _ _ (by omega) (fun i h1 h2=>hko i (by omega) h2) hrr
     have HNX2:=Zc (show Nn one (k+1) a1=.ok (xs++[x],a2) by rw [O HNX,ho]; rfl);have HRZ:=Zc (show Mc (w2.setCells g (k*8) (c).toList) b s a2 from hR2.blk (Yo _ _ _ _ (by omega)));have HGZ:=Zc (Lf (b:=b) (g:=g) (w:=w) (by omega) (c).toList (k*8) w2 (Xy (O HGB) hg2));have HPZ:=Zc hpt3;have HAZ:=Zc hall2;have HLZ:=Zc (show(cs++[c]).length=k+1 by rw [List.length_append,O HCL]; rfl);have hsz:g<(w2.setCells g (k*8) (c).toList).heap.size:=hpt3.1.elim fun cur hc=>Zk hc.1;clear hg2 hrr hR2 hpt2 hpt3 hall2 ho HNX HPT HALL HGB HCALL;go_wp2_with (refine wpList_store_mid rfl 89 (.tmp 25) (.tmp 24) rfl g (k*8) c rfl rfl (by rw [hc1]; exact hth) (Tryz.infInss.trans (congrArg some hc1.symm)) hc2 ?_)
     go_roundw
     case rel=>exact⟨k+1,xs++[x],a2,cs++[c],by go_num,by omega,O HNX2,O HRZ,O HGZ,O HPZ,O HLZ,O HAZ,hsz⟩
     case measure=>simp [intOf]; omega
   ·
    obtain rfl:k=n:=by omega
    have HREP:=Zc hrep;have HOWN:=Zc (show Xn wr w.heap.size 89 8 (R wr w.heap.size) (.slice (some ⟨g,0,none⟩) k k) xs from⟨cs,hpt.own hcl hn (by omega),hall.imp fun c y hy=>O HMON _ _ _ _ _ _ (by omega) (fun _ _ _=>rfl) hy⟩);have HRZ:=Zc hRd;have HGZ:=Zc hgb;clear hrep hRd hgb hpt hall hcl;go_wp2;go_ret;rw [O HD,O HREP];exact⟨O HGZ,_,rfl,O HOWN,O HRZ⟩
theorem Tryz.infoDBlocks:(Tryz.prog.info? 90).map (fun i=>(i.zero,i.size,i.bytes))=some (some (.slice none 0 0),1,24):=by kernel_rfl
theorem Zmd (n:Nat)(hn:n≤1000):∃ z:Array Value,∀ w:World,(Instr.makeSlice 91 (.int .i64 (n:Int)) (.int .i64 (n:Int))).run Tryz.prog w=.ok (.slice (some ⟨w.heap.size,0,none⟩) n n) (w.alloc (.cells (madeCells z n) 90)):=by
 obtain⟨i,hi,hz,hs,hby⟩:=Gd Tryz.infoDBlocks;refine⟨(.slice none 0 0:Value).cells,fun w=>?_⟩;have h:=run_make (P:=Tryz.prog) w 91 90 i _ Tryz.underlying91 hi hz .i64 .i64 n n (by omega) (Int.le_refl _) (by rw [hby]; omega) (by omega);simpa [hs] using h
theorem Zgj {α:Type}(F:Nat)(hcf:∀ args w,(callFunc F args).run Tryz.prog w=.ok (.enter F args) w)(R:World→Nat→Array Value→α→Prop)(hR:Rc R)(one:Dec α)(b:Nat)(s:ByteArray)(a:Nat)(lo hi:Int)(w:World)(h:Mc w b s a)(hlo:0≤lo)(hhi:hi≤1000)
 (hone:∀ a' w',Mc w' b s a'→w.grownBy w' (some b)→Calls Tryz.prog F #[.pointer (some ⟨b,0,none⟩)] w' (Yl b s (Zty R) (one a') w')) :
 Calls Tryz.prog 153 #[.pointer (some ⟨b,0,none⟩),.int .i64 lo,.int .i64 hi,.func (.func F) #[.pointer (some ⟨b,0,none⟩)] #[]] w (Yl b s (fun w B v xs=>Xn w B 90 1 (R w B) v xs) (Ys s lo hi one a) w):=by
 have HN:=Zc (Xm b s a lo hi w h (by omega));have HONE:=Zc hone;have HMON:=Zc hR;have hbw:=h.lt;clear hone h hR;cases hd:Yf s lo hi a with
 | error q =>
  have HD:=Zc (show Ys s lo hi one a=.error q by unfold Ys; rw [hd]; rfl);rw [hd] at HN;go_enter Tryz.func153,Tryz.ntmps153
  go_wp2_with fail
  refine(O HN).mono ?_;intro e w2 h2;have h3:=Yl.err (RW:=fun w B v (xs:List α)=>Xn w B 90 1 (R w B) v xs) h2 (Ju w (some b));obtain⟨g1,g,rfl,g2,g3⟩:=h2;refine⟨rfl,?_⟩;rw [O HD];exact h3
 | ok p =>
  obtain⟨nv,a1⟩:=p;have hnv:lo≤nv∧nv≤hi:=by
   unfold Yf Nm at hd;split at hd
   ·
    split at hd
    ·
     injection hd with hd; injection hd with h1 h2; rw [← h1]; assumption
    ·
     cases hd
   ·
    cases hd
  obtain⟨n,rfl⟩:=Int.eq_ofNat_of_zero_le (show 0≤nv by omega);have hn:n≤1000:=by omega
  have HD:=Zc (show Ys s lo hi one a=Nn one n a1 by unfold Ys; rw [hd]; rfl);rw [hd] at HN;obtain⟨z,hmk⟩:=Zmd n hn;clear hnv hd;go_enter Tryz.func153,Tryz.ntmps153
  go_wp2_with fail
  refine(O HN).mono ?_;rintro e w1 ⟨hg1,v,rfl,hv,hR1⟩;have hv':v=.int .i64 (n:Int):=hv;subst hv';have hs1:=hg1.size;have hst:=Lx.start w1 90 1 n z;rw [Nat.mul_one] at hst;have HG1:=Zc (Xy hg1 (Yc w1 (.cells (madeCells z n) 90) (some b)));have HR1:=Zc (hR1.alloc (.cells (madeCells z n) 90));have HST:=Zc hst;have HMK:=Zc hmk;clear hg1 hv hR1 hst HN;go_wp2_with fail
  clear hmk;generalize hW:w1.alloc (.cells (madeCells z n) 90)=W at HG1 HR1 HST ⊢;have hWs:W.heap.size=w1.heap.size+1:=by rw [← hW]; simp
  obtain⟨g,hg⟩:∃ g,g=w1.heap.size:=⟨_,rfl⟩;rw [← hg] at HST hs1 hWs ⊢;clear hW hg HMK;go_loopw [18] (fun j w'=>∃(k:Nat) (xs:List α) (ak:Nat) (cs:List (Array Value)),j=.int .i64 k∧k≤n∧Nn one k a1=.ok (xs,ak)∧Mc w' b s ak∧w.grownBy w' (some b)∧Lx w' 90 1 g n cs∧cs.length=k∧Gh (R w' (g+1)) cs xs∧g<w'.heap.size) (fun j _=>n-(intOf j).toNat)
  case atStart=>exact⟨0,[],a1,[],rfl,by omega,rfl,O HR1,O HG1,O HST,rfl,.nil,by omega⟩
  case round =>
   obtain⟨k,xs,ak,cs,rfl,hk,hrep,hRd,hgb,hpt,hcl,hall,hgl⟩:=hrel;by_cases hlt:k<n
   ·
    have HCALL:=Zc (O HONE ak wr hRd hgb);have HNX:=Zc (Oz hrep);have HPT:=Zc hpt;have HALL:=Zc hall;have HGB:=Zc hgb;have HCL:=Zc hcl;clear hrep hRd hgb hpt hall hcl;go_wp2_with fail
    refine(O HCALL).mono ?_;intro e w2 h2;cases ho:one ak with
    | error q =>
     rw [ho] at h2;have h3:=Yl.err (RW:=fun w B v (xs:List α)=>Xn w B 90 1 (R w B) v xs) h2 (O HGB);obtain⟨g1,g',rfl,g2,g3⟩:=h2;refine⟨rfl,?_⟩;have h4:=O HNX;rw [ho] at h4;rw [O HD,Dh h4 (by omega)];exact h3
    | ok p =>
     obtain⟨x,a2⟩:=p;rw [ho] at h2;obtain⟨hg2,v,rfl,hvr,hR2⟩:=h2;obtain⟨hrr,vp,vn,vc,rfl⟩:=hvr;have hpt2:=(O HPT).blk (hg2.block g hgl (by intro e; injection e with e; omega));have hth:=hpt2.there k hlt;have hs2:=hg2.size;have hpt3:=hpt2.store (by rw [O HCL]; exact hlt) (#[.slice vp vn vc]:Array Value) rfl;rw [O HCL] at hpt3;have hall2:Gh (R (w2.setCells g (k*1) ((#[.slice vp vn vc]:Array Value)).toList) (g+1)) (cs++[(#[.slice vp vn vc]:Array Value)]) (xs++[x]):=by
      have hko:Xt (g+1) w2 (w2.setCells g (k*1) ((#[.slice vp vn vc]:Array Value)).toList):=fun i h1 h2=>Yo _ _ _ _ (by omega);refine Gh.snoc ((O HALL).imp fun c y hy=>?_) ?_
      ·
       refine O HMON _ _ _ _ _ _ (Nat.le_refl _) hko (O HMON _ _ _ _ _ _ (Nat.le_refl _) (Xt.of_gb hg2 (by omega)) hy)
      ·
       exact O HMON _ _ _ _ _ _ (by omega) (fun i h1 h2=>hko i (by omega) h2) hrr
     have HNX2:=Zc (show Nn one (k+1) a1=.ok (xs++[x],a2) by rw [O HNX,ho]; rfl);have HRZ:=Zc (show Mc (w2.setCells g (k*1) ((#[.slice vp vn vc]:Array Value)).toList) b s a2 from hR2.blk (Yo _ _ _ _ (by omega)));have HGZ:=Zc (Lf (b:=b) (g:=g) (w:=w) (by omega) ((#[.slice vp vn vc]:Array Value)).toList (k*1) w2 (Xy (O HGB) hg2));have HPZ:=Zc hpt3;have HAZ:=Zc hall2;have HLZ:=Zc (show(cs++[(#[.slice vp vn vc]:Array Value)]).length=k+1 by rw [List.length_append,O HCL]; rfl);have hsz:g<(w2.setCells g (k*1) ((#[.slice vp vn vc]:Array Value)).toList).heap.size:=hpt3.1.elim fun cur hc=>Zk hc.1;clear hg2 hrr hR2 hpt2 hpt3 hall2 ho HNX HPT HALL HGB HCALL;have e1:w2.setCells g (k*1) (#[.slice vp vn vc]:Array Value).toList=w2.setCell ⟨g,k,none⟩ (.slice vp vn vc):=by rw [Nat.mul_one]; rfl
     rw [e1] at HRZ HGZ HPZ HAZ hsz;obtain⟨hq1,hq2⟩:=hth 0 (by decide);rw [Nat.mul_one,Nat.add_zero] at hq1 hq2;obtain⟨uu,hq3⟩:=Option.isSome_iff_exists.1 hq1;clear e1 hth hq1;go_wp2;go_roundw
     case rel=>exact⟨k+1,xs++[x],a2,cs++[(#[.slice vp vn vc]:Array Value)],by go_num,by omega,O HNX2,O HRZ,O HGZ,O HPZ,O HLZ,O HAZ,hsz⟩
     case measure=>simp [intOf]; omega
   ·
    obtain rfl:k=n:=by omega
    have HREP:=Zc hrep;have HOWN:=Zc (show Xn wr w.heap.size 90 1 (R wr w.heap.size) (.slice (some ⟨g,0,none⟩) k k) xs from⟨cs,hpt.own hcl hn (by omega),hall.imp fun c y hy=>O HMON _ _ _ _ _ _ (by omega) (fun _ _ _=>rfl) hy⟩);have HRZ:=Zc hRd;have HGZ:=Zc hgb;clear hrep hRd hgb hpt hall hcl;go_wp2;go_ret;rw [O HD,O HREP];exact⟨O HGZ,_,rfl,O HOWN,O HRZ⟩
theorem Tryz.infoDFuncs:(Tryz.prog.info? 93).map (fun i=>(i.zero,i.size,i.bytes))=some (some (.agg #[.slice none 0 0,.int .i64 0,.slice none 0 0,.slice none 0 0,.slice none 0 0]),5,104):=by kernel_rfl
theorem Zqt (n:Nat)(hn:n≤1000):∃ z:Array Value,∀ w:World,(Instr.makeSlice 22 (.int .i64 (n:Int)) (.int .i64 (n:Int))).run Tryz.prog w=.ok (.slice (some ⟨w.heap.size,0,none⟩) n n) (w.alloc (.cells (madeCells z (n*5)) 93)):=by
 obtain⟨i,hi,hz,hs,hby⟩:=Gd Tryz.infoDFuncs;refine⟨(.agg #[.slice none 0 0,.int .i64 0,.slice none 0 0,.slice none 0 0,.slice none 0 0]:Value).cells,fun w=>?_⟩;have h:=run_make (P:=Tryz.prog) w 22 93 i _ Tryz.underlying22 hi hz .i64 .i64 n n (by omega) (Int.le_refl _) (by rw [hby]; omega) (by omega);simpa [hs] using h
theorem Zin {α:Type}(F:Nat)(hcf:∀ args w,(callFunc F args).run Tryz.prog w=.ok (.enter F args) w)(R:World→Nat→Array Value→α→Prop)(hR:Rc R)(one:Dec α)(b:Nat)(s:ByteArray)(a:Nat)(lo hi:Int)(w:World)(h:Mc w b s a)(hlo:0≤lo)(hhi:hi≤1000)
 (hone:∀ a' w',Mc w' b s a'→w.grownBy w' (some b)→Calls Tryz.prog F #[.pointer (some ⟨b,0,none⟩)] w' (Yl b s (Gn 5 R) (one a') w')) :
 Calls Tryz.prog 98 #[.pointer (some ⟨b,0,none⟩),.int .i64 lo,.int .i64 hi,.func (.func F) #[.pointer (some ⟨b,0,none⟩)] #[]] w (Yl b s (fun w B v xs=>Xn w B 93 5 (R w B) v xs) (Ys s lo hi one a) w):=by
 have HN:=Zc (Xm b s a lo hi w h (by omega));have HONE:=Zc hone;have HMON:=Zc hR;have hbw:=h.lt;clear hone h hR;cases hd:Yf s lo hi a with
 | error q =>
  have HD:=Zc (show Ys s lo hi one a=.error q by unfold Ys; rw [hd]; rfl);rw [hd] at HN;go_enter Tryz.func98,Tryz.ntmps98
  go_wp2_with fail
  refine(O HN).mono ?_;intro e w2 h2;have h3:=Yl.err (RW:=fun w B v (xs:List α)=>Xn w B 93 5 (R w B) v xs) h2 (Ju w (some b));obtain⟨g1,g,rfl,g2,g3⟩:=h2;refine⟨rfl,?_⟩;rw [O HD];exact h3
 | ok p =>
  obtain⟨nv,a1⟩:=p;have hnv:lo≤nv∧nv≤hi:=by
   unfold Yf Nm at hd;split at hd
   ·
    split at hd
    ·
     injection hd with hd; injection hd with h1 h2; rw [← h1]; assumption
    ·
     cases hd
   ·
    cases hd
  obtain⟨n,rfl⟩:=Int.eq_ofNat_of_zero_le (show 0≤nv by omega);have hn:n≤1000:=by omega
  have HD:=Zc (show Ys s lo hi one a=Nn one n a1 by unfold Ys; rw [hd]; rfl);rw [hd] at HN;obtain⟨z,hmk⟩:=Zqt n hn;clear hnv hd;go_enter Tryz.func98,Tryz.ntmps98
  go_wp2_with fail
  refine(O HN).mono ?_;rintro e w1 ⟨hg1,v,rfl,hv,hR1⟩;have hv':v=.int .i64 (n:Int):=hv;subst hv';have hs1:=hg1.size;have hst:=Lx.start w1 93 5 n z;have HG1:=Zc (Xy hg1 (Yc w1 (.cells (madeCells z (n*5)) 93) (some b)));have HR1:=Zc (hR1.alloc (.cells (madeCells z (n*5)) 93));have HST:=Zc hst;have HMK:=Zc hmk;clear hg1 hv hR1 hst HN;go_wp2_with fail
  clear hmk;generalize hW:w1.alloc (.cells (madeCells z (n*5)) 93)=W at HG1 HR1 HST ⊢;have hWs:W.heap.size=w1.heap.size+1:=by rw [← hW]; simp
  obtain⟨g,hg⟩:∃ g,g=w1.heap.size:=⟨_,rfl⟩;rw [← hg] at HST hs1 hWs ⊢;clear hW hg HMK;go_loopw [18] (fun j w'=>∃(k:Nat) (xs:List α) (ak:Nat) (cs:List (Array Value)),j=.int .i64 k∧k≤n∧Nn one k a1=.ok (xs,ak)∧Mc w' b s ak∧w.grownBy w' (some b)∧Lx w' 93 5 g n cs∧cs.length=k∧Gh (R w' (g+1)) cs xs∧g<w'.heap.size) (fun j _=>n-(intOf j).toNat)
  case atStart=>exact⟨0,[],a1,[],rfl,by omega,rfl,O HR1,O HG1,O HST,rfl,.nil,by omega⟩
  case round =>
   obtain⟨k,xs,ak,cs,rfl,hk,hrep,hRd,hgb,hpt,hcl,hall,hgl⟩:=hrel;by_cases hlt:k<n
   ·
    have HCALL:=Zc (O HONE ak wr hRd hgb);have HNX:=Zc (Oz hrep);have HPT:=Zc hpt;have HALL:=Zc hall;have HGB:=Zc hgb;have HCL:=Zc hcl;clear hrep hRd hgb hpt hall hcl;go_wp2_with fail
    refine(O HCALL).mono ?_;intro e w2 h2;cases ho:one ak with
    | error q =>
     rw [ho] at h2;have h3:=Yl.err (RW:=fun w B v (xs:List α)=>Xn w B 93 5 (R w B) v xs) h2 (O HGB);obtain⟨g1,g',rfl,g2,g3⟩:=h2;refine⟨rfl,?_⟩;have h4:=O HNX;rw [ho] at h4;rw [O HD,Dh h4 (by omega)];exact h3
    | ok p =>
     obtain⟨x,a2⟩:=p;rw [ho] at h2;obtain⟨hg2,v,rfl,hvr,hR2⟩:=h2;obtain⟨c,rfl,hc1,hc2,hrr⟩:=hvr;have hpt2:=(O HPT).blk (hg2.block g hgl (by intro e; injection e with e; omega));have hth:=hpt2.there k hlt;have hs2:=hg2.size;have hpt3:=hpt2.store (by rw [O HCL]; exact hlt) c hc1;rw [O HCL] at hpt3;have hall2:Gh (R (w2.setCells g (k*5) (c).toList) (g+1)) (cs++[c]) (xs++[x]):=by
      have hko:Xt (g+1) w2 (w2.setCells g (k*5) (c).toList):=fun i h1 h2=>Yo _ _ _ _ (by omega);refine Gh.snoc ((O HALL).imp fun c y hy=>?_) ?_
      ·
       refine O HMON _ _ _ _ _ _ (Nat.le_refl _) hko (O HMON _ _ _ _ _ _ (Nat.le_refl _) (Xt.of_gb hg2 (by omega)) hy)
      ·
       exact O HMON _ _ _ _ _ _ (by omega) (fun i h1 h2=>hko i (by omega) h2) hrr
     have HNX2:=Zc (show Nn one (k+1) a1=.ok (xs++[x],a2) by rw [O HNX,ho]; rfl);have HRZ:=Zc (show Mc (w2.setCells g (k*5) (c).toList) b s a2 from hR2.blk (Yo _ _ _ _ (by omega)));have HGZ:=Zc (Lf (b:=b) (g:=g) (w:=w) (by omega) (c).toList (k*5) w2 (Xy (O HGB) hg2));have HPZ:=Zc hpt3;have HAZ:=Zc hall2;have HLZ:=Zc (show(cs++[c]).length=k+1 by rw [List.length_append,O HCL]; rfl);have hsz:g<(w2.setCells g (k*5) (c).toList).heap.size:=hpt3.1.elim fun cur hc=>Zk hc.1;clear hg2 hrr hR2 hpt2 hpt3 hall2 ho HNX HPT HALL HGB HCALL;go_wp2_with (refine wpList_store_mid rfl 93 (.tmp 25) (.tmp 24) rfl g (k*5) c rfl rfl (by rw [hc1]; exact hth) (Tryz.infFuncs.trans (congrArg some hc1.symm)) hc2 ?_)
     go_roundw
     case rel=>exact⟨k+1,xs++[x],a2,cs++[c],by go_num,by omega,O HNX2,O HRZ,O HGZ,O HPZ,O HLZ,O HAZ,hsz⟩
     case measure=>simp [intOf]; omega
   ·
    obtain rfl:k=n:=by omega
    have HREP:=Zc hrep;have HOWN:=Zc (show Xn wr w.heap.size 93 5 (R wr w.heap.size) (.slice (some ⟨g,0,none⟩) k k) xs from⟨cs,hpt.own hcl hn (by omega),hall.imp fun c y hy=>O HMON _ _ _ _ _ _ (by omega) (fun _ _ _=>rfl) hy⟩);have HRZ:=Zc hRd;have HGZ:=Zc hgb;clear hrep hRd hgb hpt hall hcl;go_wp2;go_ret;rw [O HD,O HREP];exact⟨O HGZ,_,rfl,O HOWN,O HRZ⟩
end Go.Proofs.YtedemloocadimaaGreatDoor
