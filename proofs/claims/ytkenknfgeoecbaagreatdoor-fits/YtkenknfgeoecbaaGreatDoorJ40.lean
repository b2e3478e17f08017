import Derived.Test.YtkenknfgeoecbaaGreatDoorJ28
import Derived.Laws.AppendOwnNone
import Derived.Test.YtkenknfgeoecbaaGreatDoorJ33
namespace Go.Proofs.YtkenknfgeoecbaaGreatDoor
open Go.RowKit
structure Ch (a:Int)(l:List (Int×Int))(b:Int):Prop where
 ap:ApS l
 lo:∀ x ∈ l,a<=x.1
 hi:∀ x ∈ l,x.2<=b
 le:a<=b
theorem Ch.app {a b c:Int}{l m:List (Int×Int)}(h:Ch a l b)(k:Ch b m c):Ch a (l++m) c:=by
 refine⟨⟨fun x hx=>?_,?_⟩,fun x hx=>?_,fun x hx=>?_,Int.le_trans h.le k.le⟩
 ·rcases List.mem_append.1 hx with hx | hx
  ·exact h.ap.one x hx
  ·exact k.ap.one x hx
 ·rw [List.pairwise_append];exact⟨h.ap.two,k.ap.two,fun x hx y hy=>Int.le_trans (h.hi x hx) (k.lo y hy)⟩
 ·rcases List.mem_append.1 hx with hx | hx
  ·exact h.lo x hx
  ·exact Int.le_trans h.le (k.lo x hx)
 ·rcases List.mem_append.1 hx with hx | hx
  ·exact Int.le_trans (h.hi x hx) k.le
  ·exact k.hi x hx
theorem Ch.one {a b:Int}(h0:0<=a)(h8:a % 8=0)(h:a<=b):Ch a [(a,b)] b :=
 ⟨⟨fun x hx=>by rw [List.mem_singleton.1 hx]; exact⟨h0,h,h8⟩,List.pairwise_singleton _ _⟩,fun x hx=>by rw [List.mem_singleton.1 hx]; exact Int.le_refl _,fun x hx=>by rw [List.mem_singleton.1 hx]; exact Int.le_refl _,h⟩
theorem Ch.nil {a b:Int}(h:a<=b):Ch a [] b:=⟨⟨fun x hx=>(by cases hx),List.Pairwise.nil⟩,fun x hx=>(by cases hx),fun x hx=>(by cases hx),h⟩
theorem Ch.to {a b c:Int}{l:List (Int×Int)}(h:Ch a l b)(k:b<=c):Ch a l c:=⟨h.ap,h.lo,fun x hx=>Int.le_trans (h.hi x hx) k,Int.le_trans h.le k⟩
def slS (T:Yc)(fn:Zj)(ss:List (List Int×Int))(k:Nat):Int×Int:=(Cz T fn ss k,Cz T fn ss k+8*fn.slots.getD k 0)
def svS (T:Yc)(fn:Zj)(ss:List (List Int×Int))(k:Nat):Int×Int:=((svA T fn ss k).2,(svA T fn ss k).2+8)
def hdS (T:Yc)(fn:Zj)(ss:List (List Int×Int)):List (Int×Int):=[(0,Nw T ss),(Nw T ss,Nw T ss+Uj T ss),(Nw T ss+Uj T ss,Nw T ss+Uj T ss+8*(fn.homes.length:Int))]
theorem Zjk {T:Yc}{fn:Zj}{ss:List (List Int×Int)}(hs:∀ k,k<fn.slots.length->0<=fn.slots.getD k 0)(h0:0<=Zeu T fn ss)(h8:Zeu T fn ss % 8=0):∀ k,k<=fn.slots.length->Ch (Zeu T fn ss) ((List.range k).map (slS T fn ss)) (Cz T fn ss k)
 | 0,_=>Ch.nil (by unfold Cz Zap; simp)
 | k+1,hk=>by
  have ih:=Zjk hs h0 h8 k (by omega);have hn:=hs k (by omega);have e:Cz T fn ss (k+1)=Cz T fn ss k+8*fn.slots.getD k 0:=by unfold Cz;rw [Zaq _ k (by omega)];omega
  have hle:=ih.le;rw [List.range_succ,List.map_append,e];refine ih.app (Ch.one (by omega) ?_ (by omega));unfold Cz;omega
theorem Zuv {T:Yc}{fn:Zj}{ss:List (List Int×Int)}(h0:0<=Zbv T fn ss)(h8:Zbv T fn ss % 8=0):Ch (Zbv T fn ss) ((List.range (Ua T fn).length).map (svS T fn ss)) (Su T fn ss):=by have e:(List.range (Ua T fn).length).map (svS T fn ss)=upS (Zbv T fn ss) (Ua T fn).length:=rfl;rw [e];refine⟨Yfa _ _ h0 h8,fun x hx=>(Zwc _ _ x hx).1,fun x hx=>(Zwc _ _ x hx).2,?_⟩;unfold Su;omega
theorem Ygo {a b:Int}(ha:a % 8=0)(hb:b % 8=0):max a b % 8=0:=by
 rw [Int.max_def];split
 ·exact hb
 ·exact ha
theorem Zmg {f:List Int×Int->Int}:∀(ss:List (List Int×Int)),(∀ s ∈ ss,f s % 8=0)->∀ m:Int,m % 8=0->ss.foldl (fun m s=>max m (f s)) m % 8=0
 | [],_,_,h=>h
 | s :: r,hs,_,h=>Zmg r (fun x hx=>hs x (List.mem_cons_of_mem _ hx)) _ (Ygo h (hs s List.mem_cons_self))
theorem Yci {T:Yc}{c:Int}(hag:Xz T.ag c=true)(hrs:Xz T.rs c=true)(hsh:T.sh % 8=0){s:List Int×Int}(hs:Dr s):(Gb T s).size % 8=0∧(Gb T s).copies % 8=0:=by obtain⟨m,-,h⟩:=Zwg (ag:=T.ag) (rs:=T.rs) (br:=T.br) (pr:=T.pairs) (sh:=T.sh) (n:=s.2) hag hrs hs.n;refine⟨?_,(Zmy (ag:=T.ag) (br:=T.br) (pr:=T.pairs) (sh:=T.sh) hag hs.n s.1.length (Nat.le_refl _)).p8⟩;unfold Gb;rw [h];omega
theorem Zuw {T:Yc}{fn:Zj}{ss:List (List Int×Int)}{c:Int}(hag:Xz T.ag c=true)(hrs:Xz T.rs c=true)(hsh:T.sh % 8=0)(hss:∀ s ∈ ss,Dr s)(ho:0<=Nw T ss)(hc:0<=Uj T ss)(hs:∀ k,k<fn.slots.length->0<=fn.slots.getD k 0) :
 Ch 0 (hdS T fn ss++(List.range fn.slots.length).map (slS T fn ss)++(List.range (Ua T fn).length).map (svS T fn ss)) (Su T fn ss)∧0<=Su T fn ss∧Su T fn ss % 8=0:=by
 have o8:Nw T ss % 8=0:=Zmg ss (fun s h=>(Yci hag hrs hsh (hss s h)).1) 0 rfl;have c8:Uj T ss % 8=0:=Zmg ss (fun s h=>(Yci hag hrs hsh (hss s h)).2) 0 rfl;have a0:Zeu T fn ss=Nw T ss+Uj T ss+8*(fn.homes.length:Int):=rfl;have h1:Ch 0 (hdS T fn ss) (Zeu T fn ss):=(Ch.one (b:=Nw T ss) (Int.le_refl 0) rfl ho).app ((Ch.one (b:=Nw T ss+Uj T ss) ho o8 (by omega)).app (Ch.one (by omega) (by omega) (by omega)));have h2:=Zjk (T:=T) (fn:=fn) (ss:=ss) hs (by omega) (by omega) fn.slots.length (Nat.le_refl _);have a1:Cz T fn ss fn.slots.length=Zbv T fn ss:=rfl;rw [a1] at h2;have l1:=h2.le;have e1:Zbv T fn ss=Zeu T fn ss+8*Zap fn.slots fn.slots.length:=rfl;have h3:=Zuv (T:=T) (fn:=fn) (ss:=ss) (by omega) (by omega);have l2:=h3.le;have e2:Su T fn ss=Zbv T fn ss+8*((Ua T fn).length:Int):=rfl;exact⟨(h1.app h2).app h3,by omega,by omega⟩
def lkS (T:Yc)(fn:Zj)(ss:List (List Int×Int)):List (Int×Int):=if Zbw T ss=true then [(Su T fn ss,Su T fn ss+8)] else []
theorem Zux {T:Yc}{fn:Zj}{ss:List (List Int×Int)}{c:Int}(hag:Xz T.ag c=true)(hrs:Xz T.rs c=true)(hsh:T.sh % 8=0)(hss:∀ s ∈ ss,Dr s)(ho:0<=Nw T ss)(hc:0<=Uj T ss)(hs:∀ k,k<fn.slots.length->0<=fn.slots.getD k 0)(hal:1<=T.al) :
 Ch 0 (hdS T fn ss++(List.range fn.slots.length).map (slS T fn ss)++(List.range (Ua T fn).length).map (svS T fn ss)++lkS T fn ss) (Gt T fn ss).size∧(Gt T fn ss).in_ % T.al=0∧(0<=(Gt T fn ss).link↔Zbw T ss=true):=by
 obtain⟨h,h0,h8⟩:=Zuw (fn:=fn) hag hrs hsh hss ho hc hs;have hk:Ch (Su T fn ss) (lkS T fn ss) (Zmc T fn ss):=by
  unfold lkS Zmc;split
  ·exact Ch.one h0 h8 (by omega)
  ·exact Ch.nil (Int.le_refl _)
 have hu:=Zuj (n:=Zmc T fn ss+Ub T) hal;refine⟨(h.app hk).to ?_,Int.mul_emod_left _ _,?_⟩
 ·show Zmc T fn ss<=inF T fn ss-Ub T;unfold inF;omega
 ·show 0<=(if Zbw T ss=true then Su T fn ss else -1)↔_;by_cases hf:Zbw T ss=true
  ·rw [if_pos hf]; exact⟨fun _=>hf,fun _=>h0⟩
  ·rw [if_neg hf]; exact⟨fun h=>absurd h (by decide),fun h=>absurd h hf⟩
theorem Zuy {T:Yc}{fn:Zj}{x:Int}(h:x ∈ Ua T fn):x ∈ T.ss∧x ∈ fn.homes:=by unfold Ua Dq at h;simp only [List.mem_map,List.mem_filter,Bool.and_eq_true,decide_eq_true_eq] at h;obtain⟨r,⟨-,h1,h2⟩,rfl⟩:=h;exact⟨h1,h2⟩
set_option maxHeartbeats 2000000
set_option maxRecDepth 100000
theorem Yco (ns:List Int)(x:Int)(v:Value)(w:World)(h:Rs w v ns)(hn:ns.length<=1000000):Calls Tryz.prog 9 #[v,.int .i64 x] w fun e w'=>e=.returned (.bool (decide (x ∈ ns)))∧w'=w:=by
 by_cases hne:ns=[]
 ·obtain⟨p,cap,rfl⟩:∃ p cap,v=.slice p 0 cap:=by
   rcases h with⟨_,p,cap,e⟩ | ⟨sb,so,cap,e,_⟩
   ·exact⟨p,cap,e⟩
   ·rw [hne] at e; exact⟨_,_,e⟩
  subst hne;clear h;go_enter Tryz.func9,Tryz.ntmps9
  go_wp2_with fail
  refine wp_loop_rounds 1 ?_;rw [rounds_succ];go_wp2;go_ret;exact⟨by simp,rfl⟩
 ·obtain⟨sb,so,cap,rfl,hc⟩:=h.get hne;have HC:=Ze hc;clear h hc;go_enter Tryz.func9,Tryz.ntmps9
  go_wp2_with fail
  go_loopw [9] (fun j w'=>∃ k:Nat,j=.int .i64 k∧k<=ns.length∧w'=w∧¬ x ∈ ns.take k) (fun j _=>ns.length-(intOf j).toNat)
  case atStart=>exact⟨0,rfl,by omega,rfl,by simp⟩
  case round =>
   obtain⟨k,rfl,hk,rfl,hno⟩:=hrel;have HN:=Ze hno;clear hno;by_cases hlt:k<ns.length
   ·have c:=Zb HC k hlt;by_cases hx:ns.getD k 0=x
    ·rw [hx] at c;have hm:=Ze (Zkt hlt hx);clear hx;go_wp2;go_ret;exact⟨by simp [Zb hm],rfl⟩
    ·have HT:=Ze (Zhu hlt (Zb HN) hx);generalize hy:ns.getD k 0=y at c hx;have z:(y==x)=false:=by simpa using hx
     clear hy;go_wp2;go_roundw
     case rel=>exact⟨k+1,by go_num,by omega,trivial,Zb HT⟩
     case measure=>simp [intOf]; omega
   ·obtain rfl:k=ns.length:=by omega
    have HT:=Ze (show ¬ x ∈ ns by have:=Zb HN; rwa [List.take_length] at this);go_wp2;go_ret;exact⟨by simp [Zb HT],rfl⟩
def SpO (w:World)(B:Nat)(v:Value)(xs:List (Int×Int)):Prop:=w.ownsRow B 54 2 v xs.length (plC xs)
theorem Zcf {w:World}{B e:Nat}{v:Value}{xs:List (Int×Int)}(h:w.ownsRow B e 2 v xs.length (plC xs)){k:Nat}(hk:k<xs.length):∃ g c,v=.slice (some ⟨g,0,none⟩) xs.length c∧xs.length<=c∧B<=g∧g<w.heap.size∧w.cell? ⟨g,k*2,none⟩=some (.int .i64 (xs.getD k (0,0)).1)∧w.cell? ⟨g,k*2+1,none⟩=some (.int .i64 (xs.getD k (0,0)).2):=by
 obtain⟨g,c,e,hB,hl,hc⟩:=Sg h (by omega);refine⟨g,c,e,?_,hB,hl,(hc _ (by omega)).trans (Zca xs k hk).1,(hc _ (by omega)).trans (Zca xs k hk).2⟩;rcases h.2 with⟨-,e0⟩ | ⟨g',cap,cur,e',-,-,h1,-⟩
 ·omega
 ·rw [e] at e';injection e' with _ _ e3;omega
theorem Yha {xs:List (Int×Int)}(h:ApS xs){k:Nat}(hk:k<xs.length):0<=(xs.getD k (0,0)).1∧(xs.getD k (0,0)).1<=(xs.getD k (0,0)).2∧(xs.getD k (0,0)).1 % 8=0:=h.one _ (by rw [List.getD_eq_getElem?_getD,List.getElem?_eq_getElem hk]; exact List.getElem_mem hk)
theorem Yes {xs:List (Int×Int)}(h:ApS xs){j k:Nat}(hj:j<k)(hk:k<xs.length):(xs.getD j (0,0)).2<=(xs.getD k (0,0)).1:=by have:=List.pairwise_iff_getElem.1 h.two j k (by omega) hk hj;rw [List.getD_eq_getElem?_getD,List.getElem?_eq_getElem (by omega),List.getD_eq_getElem?_getD,List.getElem?_eq_getElem hk];exact this
theorem Yar (xs:List (Int×Int))(v:Value)(B:Nat)(w:World)(h:SpO w B v xs)(ha:ApS xs):Calls Tryz.prog 13 #[v] w fun e w'=>e=.returned (.bool true)∧Below w.heap.size w w':=by
 obtain⟨pv,cv,hv⟩:=Zv h;subst hv;have hn':=Zoc h;have HS:=O h;have HA:=O ha;clear h ha;go_enter Tryz.func13,Tryz.ntmps13
 go_wp2_with fail
 go_loopw [9] (fun j w'=>∃ k:Nat,j=.int .i64 k∧k<=xs.length∧Below w.heap.size w w') (fun j _=>xs.length-(intOf j).toNat)
 case atStart=>exact⟨0,rfl,by omega,Below.refl _ _⟩
 case round =>
  obtain⟨k,rfl,hk,hb⟩:=hrel;by_cases hlt:k<xs.length
  ·obtain⟨g,c,e1,hc,hB,hg,c1,c2⟩:=Zcf (J HS) hlt;injection e1 with e1 _ e3;subst e1 e3;have a3:=Yha (J HA) hlt;have A2:=O (fun j (hj:j<k)=>Yes (J HA) hj hlt);have C:=O (fun j (hj:j<xs.length)=>Zcf (J HS) hj);have c1':=(hb.cell (p:=⟨g,k*2,none⟩) hg).trans c1;have c2':=(hb.cell (p:=⟨g,k*2+1,none⟩) hg).trans c2;generalize xs.getD k (0,0)=y at a3 A2 c1' c2';obtain⟨y1,y2⟩:=y;simp only at a3 A2 c1' c2';obtain⟨q1,q2,q3⟩:=a3;have q4:(y1 % 8 != 0)=false:=by simp [q3]
   clear q3;have HB:=O hb;have hx:=al0 wr (.cells #[.int .i64 y1,.int .i64 y2] 54 (0,0));have HX:=O hx;have hzr:=hb.size;clear c1 c2 hb hx;go_wp2_with fail
   clear c1' c2';have HX2:=O (J HX).1;have HX3:=O (show Below w.heap.size w _ from Zc (J HB) (J HX).2.1 hzr);have HX4:=O (Zi (J HX).1);clear HX HB;generalize World.alloc wr _=W1 at HX2 HX3 HX4 ⊢;generalize wr.heap.size=za at HX2 HX4 hzr ⊢;go_loopw [34] (fun j w'=>∃ i:Nat,j=.int .i64 i∧i<=k∧Below W1.heap.size W1 w') (fun j _=>k-(intOf j).toNat)
   case atStart=>exact⟨0,rfl,by omega,Below.refl _ _⟩
   case round =>
    obtain⟨i,rfl,hi,hbi⟩:=hrel;have HBI:=O (Zc (J HX3) hbi (by have:=(J HX3).size; omega));by_cases hik:i<k
    ·obtain⟨g',c',e1',-,-,hg',d1,d2⟩:=J C i (by omega);injection e1' with e1' _ e3';injection e1' with e1';injection e1' with e1' _ _;subst e1' e3';have a2:=J A2 i hik;have d1':=((J HBI).cell (p:=⟨g,i*2,none⟩) hg').trans d1;have d2':=((J HBI).cell (p:=⟨g,i*2+1,none⟩) hg').trans d2;have ra:=(hbi.block za (J HX4)).trans (J HX2);have r1:=cR ra 0;have r2:=cR ra 1;generalize xs.getD i (0,0)=z at a2 d1' d2';obtain⟨z1,z2⟩:=z;simp only at a2 d1' d2';have hal:=al0 wr (.cells #[.int .i64 z1,.int .i64 z2] 54 (0,0));have HAL:=O (Zc hbi hal.2.1 hbi.size);have r1':(wr.alloc (.cells #[.int .i64 z1,.int .i64 z2] 54 (0,0))).cell? ⟨za,0,none⟩=some (.int .i64 y1):=(hal.2.1.cell (p:=⟨za,0,none⟩) (Zi ra)).trans r1;have r2':(wr.alloc (.cells #[.int .i64 z1,.int .i64 z2] 54 (0,0))).cell? ⟨za,1,none⟩=some (.int .i64 y2):=(hal.2.1.cell (p:=⟨za,1,none⟩) (Zi ra)).trans r2;clear d1 d2 ra hal hbi;go_wp2;go_roundw
     case rel=>exact⟨i+1,by go_num,by omega,J HAL⟩
     case measure=>simp [intOf]; omega
    ·obtain rfl:i=k:=by omega
     clear hbi;go_wp2;go_roundw
     case rel=>exact⟨i+1,by go_num,by omega,J HBI⟩
     case measure=>simp [intOf]; omega
  ·obtain rfl:k=xs.length:=by omega
   go_wp2;go_ret;exact⟨rfl,hb⟩
theorem Tryz.infoSpan:(Tryz.prog.info? 54).map (fun i=>(i.zero,i.size,i.bytes))=some (some (.agg #[.int .i64 0,.int .i64 0]),2,16):=by kernel_rfl
theorem Zvp {V:World}{g:Nat}{cs:Array Value}{t:TypeId}{fr:Nat×Nat}(h:V.heap[g]?=some (.cells cs t fr)):∀ j u,cs.toList[j]?=some u->V.cell? (Addr.add ⟨g,0,none⟩ j)=some u:=fun j u hj=>by
 rw [Addr.add_lit,Nat.zero_add,Zl h j,← Array.getElem?_toList];exact hj
theorem Zrs {T:Yc}(h:Rc T=true):Xz T.ag T.r=true∧Xz T.rs T.r=true∧0<=T.sh∧T.sh % 8=0∧T.sh<=32∧0<=T.br∧T.br<=4∧T.ag.length<=8∧T.rs.length<=4:=by unfold Rc Jl at h;simp only [Bool.and_eq_true] at h;obtain⟨⟨h1,h2⟩,h3⟩:=h;unfold Zaf at h1;have h1:=of_decide_eq_true h1;unfold Zeh at h2;have h2:=of_decide_eq_true h2;unfold Jz at h3;simp only [Bool.and_eq_true] at h3;obtain⟨⟨⟨⟨⟨-,k2,-⟩,k4,-⟩,-⟩,-⟩,-⟩:=h3;exact⟨k2,k4,h1.2.2.2.1,h1.2.2.2.2.2.1,h1.2.2.2.2.1,h1.2.2.2.2.2.2.1,h1.2.2.2.2.2.2.2,h2.1,h2.2.1⟩
theorem Zdw {V W U:World}{o:Option Nat}(hb:Below V.heap.size V W)(hg:W.grownBy U o)(ho:∀ g,o=some g->V.heap.size<=g):Below V.heap.size V U :=
 ⟨hg.os.trans hb.os,hg.tape.trans hb.tape,hg.output.trans hb.output,by have:=hg.size; have:=hb.size; omega,fun q hq=>(hg.block q (by have:=hb.size; omega) (fun e=>by have:=ho q e.symm; omega)).trans (hb.block q hq)⟩
def pHd (fr:Ro)(fn:Zj):List (Int×Int):=[(0,fr.out),(fr.out,fr.out+fr.cop),(fr.cells,fr.cells+8*(fn.homes.length:Int))]
def pSl (fr:Ro)(fn:Zj)(k:Nat):List (Int×Int):=(List.range k).map fun i=>(fr.slots.getD i 0,fr.slots.getD i 0+8*fn.slots.getD i 0)
def pSv (fr:Ro)(k:Nat):List (Int×Int):=(List.range k).map fun i=>((fr.saves.getD i (0,0)).2,(fr.saves.getD i (0,0)).2+8)
def pLk (fr:Ro):List (Int×Int):=if 0<=fr.link then [(fr.link,fr.link+8)] else []
theorem Zuz (fr:Ro)(fn:Zj)(k:Nat):pSl fr fn (k+1)=pSl fr fn k++[(fr.slots.getD k 0,fr.slots.getD k 0+8*fn.slots.getD k 0)]:=by unfold pSl; rw [List.range_succ,List.map_append]; rfl
theorem Zva (fr:Ro)(k:Nat):pSv fr (k+1)=pSv fr k++[((fr.saves.getD k (0,0)).2,(fr.saves.getD k (0,0)).2+8)]:=by unfold pSv; rw [List.range_succ,List.map_append]; rfl
structure FtQ (T:Yc)(fn:Zj)(fr:Ro):Prop where
 cel:fr.cells=fr.out+fr.cop
 sln:fr.slots.length=fn.slots.length
 ch:Ch 0 (pHd fr fn++pSl fr fn fr.slots.length++pSv fr fr.saves.length++pLk fr) fr.size
 al:fr.in_ % T.al=0
 in_:fr.in_=fr.size+Ub T
 sz:fr.size<=1024
 al0:1<=T.al
 al1:T.al<=1000
 hn:fn.homes.length<=12
 sn:fn.slots.length<=6
 sl:∀ k,k<fn.slots.length->0<=fn.slots.getD k 0∧fn.slots.getD k 0<=8
 lk:T.lk=-1∨0<=T.lk
 svn:fr.saves.length<=16
 mem:∀ k,k<fr.saves.length->(fr.saves.getD k (0,0)).1 ∈ T.ss∧(fr.saves.getD k (0,0)).1 ∈ fn.homes
 ssl:T.ss.length<=1000000
section
variable {T:Yc} {fn:Zj} {fr:Ro}
theorem FtQ.bd (h:FtQ T fn fr){x:Int×Int}(hx:x ∈ pHd fr fn++pSl fr fn fr.slots.length++pSv fr fr.saves.length++pLk fr):0<=x.1∧x.1<=x.2∧x.2<=fr.size:=⟨(h.ch.ap.one x hx).1,(h.ch.ap.one x hx).2.1,h.ch.hi x hx⟩
theorem FtQ.hd (h:FtQ T fn fr):0<=fr.out∧0<=fr.cop∧0<=fr.cells∧fr.cells+8*(fn.homes.length:Int)<=fr.size∧fr.out+fr.cop<=fr.size:=by have h1:=h.bd (x:=(0,fr.out)) (by simp [pHd]);have h2:=h.bd (x:=(fr.out,fr.out+fr.cop)) (by simp [pHd]);have h3:=h.bd (x:=(fr.cells,fr.cells+8*(fn.homes.length:Int))) (by simp [pHd]);simp only at h1 h2 h3;omega
theorem FtQ.at (h:FtQ T fn fr){k:Nat}(hk:k<fr.slots.length):0<=fr.slots.getD k 0∧fr.slots.getD k 0+8*fn.slots.getD k 0<=fr.size:=by
 have h1:=h.bd (x:=(fr.slots.getD k 0,fr.slots.getD k 0+8*fn.slots.getD k 0)) (by
  refine List.mem_append_left _ (List.mem_append_left _ (List.mem_append_right _ ?_));exact List.mem_map.2 ⟨k,List.mem_range.2 hk,rfl⟩)
 exact⟨h1.1,h1.2.2⟩
theorem FtQ.sv (h:FtQ T fn fr){k:Nat}(hk:k<fr.saves.length):0<=(fr.saves.getD k (0,0)).2∧(fr.saves.getD k (0,0)).2+8<=fr.size:=by
 have h1:=h.bd (x:=((fr.saves.getD k (0,0)).2,(fr.saves.getD k (0,0)).2+8)) (by
  refine List.mem_append_left _ (List.mem_append_right _ ?_);exact List.mem_map.2 ⟨k,List.mem_range.2 hk,rfl⟩)
 exact⟨h1.1,h1.2.2⟩
theorem FtQ.lnk (h:FtQ T fn fr)(hl:0<=fr.link):fr.link+8<=fr.size:=by
 have h1:=h.bd (x:=(fr.link,fr.link+8)) (by
  refine List.mem_append_right _ ?_;unfold pLk;rw [if_pos hl];exact List.mem_singleton.2 rfl)
 exact h1.2.2
theorem FtQ.s0 (h:FtQ T fn fr):0<=fr.size:=h.ch.le
end
theorem Zdi {α:Type}(f:Nat->α)(n i:Nat)(d:α)(h:i<n):((List.range n).map f).getD i d=f i:=by simp [List.getD,h]
theorem Yed {T:Yc}{P:Zk}{k0:Nat}(hc:(Oy T P).e=0)(hk:k0<P.funcs.length)(hx:(Zes T P k0).e=0):FtQ T (P.funcs.getD k0 Zh) (Ls T P k0):=by
 obtain⟨ht,hcn,hh,hb⟩:=Zde (show(Oe (Rc T) T.r (Yp T.sp T.lk T.t0 T.t1) P).e=0 from hc);have hsz:¬ 1024<(Zbu T P k0).size:=fun h=>by
  unfold Zes at hx;rw [if_pos h] at hx;exact absurd (show(7:Int)=0 from hx) (by decide)
 have e:Ls T P k0=Zbu T P k0:=if_neg hsz;have hok:=Zdg hcn hh hb k0 hk;have hfk:=Zoq ht (hh k0 hk);have hso:=Zud (T:=T) (own:=Jw (P.funcs.getD k0 Zh)) hok;obtain⟨gag,grs,sh0,sh8,sh32,-,-,-,-⟩:=Zrs ht;rw [e];unfold Zbu at hsz ⊢;generalize P.funcs.getD k0 Zh=fn at *;generalize Sv T P (Jw fn) fn.blocks fn.blocks.length=ss at *;have ho:=(Zgw (Zgy ht) ss hso 0 (by omega) (by omega)).1;have hcp:=(Zgx (Zgy ht) ss hso 0 (by omega) (by omega)).1;obtain⟨h1,h2,h3⟩:=Zux (fn:=fn) gag grs sh8 hso ho hcp (fun k hk=>(hfk.sl k hk).1) hfk.al0;have l1:(Gt T fn ss).slots.length=fn.slots.length:=by show((List.range _).map _).length=_; simp
 have l2:(Gt T fn ss).saves.length=(Ua T fn).length:=by show((List.range _).map _).length=_; simp
 have e1:pSl (Gt T fn ss) fn (Gt T fn ss).slots.length=(List.range fn.slots.length).map (slS T fn ss):=by rw [l1];unfold pSl;refine List.map_congr_left fun i hi=>?_;have hi:=List.mem_range.1 hi;rw [show(Gt T fn ss).slots=(List.range fn.slots.length).map (Cz T fn ss) from rfl,Zdi _ _ _ _ hi];rfl
 have e2:pSv (Gt T fn ss) (Gt T fn ss).saves.length=(List.range (Ua T fn).length).map (svS T fn ss):=by rw [l2];unfold pSv;refine List.map_congr_left fun i hi=>?_;have hi:=List.mem_range.1 hi;rw [show(Gt T fn ss).saves=(List.range (Ua T fn).length).map (svA T fn ss) from rfl,Zdi _ _ _ _ hi];rfl
 have e3:pLk (Gt T fn ss)=lkS T fn ss:=by
  unfold pLk lkS;by_cases hf:Zbw T ss=true
  ·rw [if_pos (h3.2 hf),if_pos hf];show [((if Zbw T ss=true then Su T fn ss else -1),(if Zbw T ss=true then Su T fn ss else -1)+8)]=_;rw [if_pos hf]
  ·rw [if_neg (fun h=>hf (h3.1 h)),if_neg hf]
 refine⟨rfl,l1,?_,h2,?_,by omega,hfk.al0,hfk.al1,hfk.nh,hfk.ns,hfk.sl,Zui ht,?_,fun k hk=>?_,hfk.ss⟩
 ·rw [e1,e2,e3];exact h1
 ·show inF T fn ss=inF T fn ss-Ub T+Ub T;omega
 ·rw [l2];have:=hfk.r1;exact Nat.le_trans (Zda _ _ _) (by omega)
 ·rw [l2] at hk;rw [show(Gt T fn ss).saves=(List.range (Ua T fn).length).map (svA T fn ss) from rfl,Zdi _ _ _ _ hk];refine Zuy (T:=T) (fn:=fn) ?_;show(Ua T fn).getD k 0 ∈ Ua T fn;rw [List.getD_eq_getElem?_getD,List.getElem?_eq_getElem hk];exact List.getElem_mem hk
theorem Yee {T:Yc}{P:Zk}{f:Int}(h:¬ (Oz T P f).e=0):Xx T P f=Ss:=by
 unfold Oz at h;unfold Xx;by_cases hc:(Oy T P).e=0
 ·rw [if_pos hc] at h ⊢;by_cases hf:0<=f∧f<P.funcs.length
  ·rw [if_pos hf] at h ⊢;unfold Zes at h;unfold Ls;by_cases hs:1024<(Zbu T P f.toNat).size
   ·rw [if_pos hs]
   ·rw [if_neg hs] at h; exact absurd rfl h
  ·rw [if_neg hf]
 ·rw [if_neg hc]
theorem Zzx {T:Yc}{P:Zk}{f:Int}(h:(Oz T P f).e=0):∃ k0:Nat,f=k0∧k0<P.funcs.length∧Xx T P f=Ls T P k0∧FtQ T (P.funcs.getD k0 Zh) (Ls T P k0):=by
 unfold Oz at h;by_cases hc:(Oy T P).e=0
 ·rw [if_pos hc] at h;by_cases hf:0<=f∧f<P.funcs.length
  ·rw [if_pos hf] at h;obtain⟨k0,rfl⟩:=Int.eq_ofNat_of_zero_le hf.1;rw [Int.toNat_natCast] at h;exact⟨k0,rfl,by omega,(Zue hc (by omega)).1,Yed hc (by omega) h⟩
  ·rw [if_neg hf] at h; exact absurd h (by decide)
 ·rw [if_neg hc] at h; exact absurd h hc
set_option maxHeartbeats 8000000
set_option maxRecDepth 100000
def Rr (T:Yc)(l:List Gq):Int:=if Rc T=false then 2 else if 64<l.length then 4 else if (Zmv T l&&Zrq l)=true then 0 else 6
def Yba (T:Yc)(l md:List Gq):Prop:=(Rr T l≠0->md=[])∧(Rr T l=0->∃ k,(Ji T.t0 T.t1 k (Jk l)).left=[]∧md=(Ji T.t0 T.t1 k (Jk l)).made)
theorem Ybb (T:Yc)(l:List Gq)(lv:Value)(w:World)(hT:TbO w T)(hl:PrS w lv l)(K:Nat)(hO:OrN T l K):Calls Tryz.prog 40 #[.agg #[.int .i64 T.r,.int .i64 T.sp,.int .i64 T.lk,.int .i64 T.t0,.int .i64 T.t1,.slice T.pa T.ag.length T.ca,.slice T.pr T.rs.length T.cr,.slice T.ps T.ss.length T.cs,.int .i64 T.al,.int .i64 T.sh,.int .i64 T.br,.bool T.pairs],lv] w fun e w'=>∃ v md,e=.returned (.tuple #[v,Ry (Rr T l)])∧w'.ownsRow w.heap.size 36 4 v md.length (Kq md)∧Yba T l md∧Below w.heap.size w w':=by
 obtain⟨lp,lc,rfl,hn⟩:=hl.shape;obtain⟨r0,hb0,hz0⟩:=al0 w (.cells #[.int .i64 T.r,.int .i64 T.sp,.int .i64 T.lk,.int .i64 T.t0,.int .i64 T.t1,.slice T.pa T.ag.length T.ca,.slice T.pr T.rs.length T.cr,.slice T.ps T.ss.length T.cs,.int .i64 T.al,.int .i64 T.sh,.int .i64 T.br,.bool T.pairs] 25 (0,0));have HR:=O r0;have HB:=O hb0;have HT:=O hT;have HL:=O hl;have HON:=O hO;clear r0 hb0 hz0 hT hl hO;have HNO:=O (show ∀ V:World,V.ownsRow w.heap.size 36 4 (.slice none 0 0) ([]:List Gq).length (Kq []) from fun V=>World.ownsRow_nil _ _ _ _);go_enter Tryz.func40,Tryz.ntmps40
 go_wp2_with fail
 generalize World.alloc w _=W at HR HB ⊢;refine(Zcj T.r T.sp T.lk T.t0 T.t1 (.slice T.pa T.ag.length T.ca) (.slice T.pr T.rs.length T.cr) (.slice T.ps T.ss.length T.cs) T.al T.sh T.br T.pairs T.ag T.rs T.ss W ((J HT).below (J HB)).a.rs ((J HT).below (J HB)).r.rs ((J HT).below (J HB)).s.rs (J HT).a.cap (J HT).r.cap (J HT).s.cap).mono ?_;rintro e w2 ⟨rfl,hb2⟩;have HB2:=O (Zc (J HB) hb2 (J HB).size);have HR2:=O ((hb2.block w.heap.size (Zi (J HR))).trans (J HR));clear hb2 HR;cases ht:Jl T.r T.sp T.lk T.t0 T.t1 T.ag T.rs T.ss T.al T.sh T.br with
 | false=>have HN:=O (show Rr T l=2 by unfold Rr Rc; rw [ht]; rfl);clear ht;unfold Zhx;go_wp2;go_returns;exact⟨_,[],by rw [J HN]; rfl,J HNO _,⟨fun _=>rfl,fun h=>by rw [J HN] at h; exact absurd h (by decide)⟩,J HB2⟩
 | true =>
  have HTT:=O (show Rc T=true from ht);clear ht;unfold Zhx;by_cases h64:64<l.length
  ·have HN:=O (show Rr T l=4 by unfold Rr; rw [J HTT]; simp only [Bool.true_eq_false,if_false]; rw [if_pos h64]);go_wp2;go_returns;exact⟨_,[],by rw [J HN]; rfl,J HNO _,⟨fun _=>rfl,fun h=>by rw [J HN] at h; exact absurd h (by decide)⟩,J HB2⟩
  ·have HN:=O (show Rr T l=if (Zmv T l&&Zrq l)=true then 0 else 6 by unfold Rr; rw [J HTT]; simp only [Bool.true_eq_false,if_false]; rw [if_neg h64]);obtain⟨t0,t1,t2,t3,t4,t5,t6,t7,t8,t9,t10,t11⟩:=cT12 (J HR2);go_wp2_with fail
   clear t0 t1 t2 t3 t4 t5 t6 t7 t8 t9 t10 t11;refine(Zjw T l _ w2 ((J HL).below (J HB2))).mono ?_;rintro e w3 ⟨rfl,hb3⟩;have HB3:=O (Zc (J HB2) hb3 (J HB2).size);have HR3:=O ((hb3.block w.heap.size (Zi (J HR2))).trans (J HR2));clear hb3 HR2;cases h1:Zmv T l with
   | false=>have HN2:=O (show Rr T l=6 by rw [J HN,h1]; rfl);clear h1;go_wp2;go_returns;exact⟨_,[],by rw [J HN2]; rfl,J HNO _,⟨fun _=>rfl,fun h=>by rw [J HN2] at h; exact absurd h (by decide)⟩,J HB3⟩
   | true =>
    have H1:=O h1;clear h1;go_wp2_with fail
    refine(Zmw l _ w3 ((J HL).below (J HB3)) (by omega)).mono ?_;rintro e w4 ⟨rfl,hb4⟩;have HB4:=O (Zc (J HB3) hb4 (J HB3).size);have HR4:=O ((hb4.block w.heap.size (Zi (J HR3))).trans (J HR3));clear hb4 HR3;cases h2:Zrq l with
    | false=>have HN2:=O (show Rr T l=6 by rw [J HN,J H1,h2]; rfl);clear h2;go_wp2;go_returns;exact⟨_,[],by rw [J HN2]; rfl,J HNO _,⟨fun _=>rfl,fun h=>by rw [J HN2] at h; exact absurd h (by decide)⟩,J HB4⟩
    | true =>
     have HN2:=O (show Rr T l=0 by rw [J HN,J H1,h2]; rfl);clear h2;obtain⟨t0,t1,t2,t3,t4,t5,t6,t7,t8,t9,t10,t11⟩:=cT12 (J HR4);go_wp2_with fail
     clear t0 t1 t2 t3 t4 t5 t6 t7 t8 t9 t10 t11;refine(Yhd T l _ w4 ((J HL).below (J HB4)) (by omega) K (J HON)).mono ?_;rintro e w5 ⟨v,k,rfl,g1,g3,hb5⟩;have HB5:=O (Zc (J HB4) hb5 (J HB4).size);have HX:=O (show Yba T l (Ji T.t0 T.t1 k (Jk l)).made from⟨fun h=>absurd (J HN2) h,fun _=>⟨k,g1,rfl⟩⟩);have HG:=O (Xr g3 (show w.heap.size<=w4.heap.size from(J HB4).size));obtain⟨vp,vc,rfl⟩:=Zv g3;clear g1 g3 hb5;go_wp2;go_returns;exact⟨_,_,by rw [J HN2]; rfl,J HG,J HX,J HB5⟩
theorem Ybc (T:Yc)(l:List Gq)(lv:Value)(w:World)(hT:TbO w T)(hl:PrS w lv l)(K:Nat)(hO:OrN T l K):Calls Tryz.prog 25 #[.agg #[.int .i64 T.r,.int .i64 T.sp,.int .i64 T.lk,.int .i64 T.t0,.int .i64 T.t1,.slice T.pa T.ag.length T.ca,.slice T.pr T.rs.length T.cr,.slice T.ps T.ss.length T.cs,.int .i64 T.al,.int .i64 T.sh,.int .i64 T.br,.bool T.pairs],lv] w fun e w'=>∃ v md,e=.returned (.tuple #[v,Ry (Rr T l)])∧w'.ownsRow w.heap.size 36 4 v md.length (Kq md)∧Yba T l md∧Below w.heap.size w w':=by
 obtain⟨lp,lc,rfl,hn⟩:=hl.shape;obtain⟨r0,hb0,hz0⟩:=al0 w (.cells #[.int .i64 T.r,.int .i64 T.sp,.int .i64 T.lk,.int .i64 T.t0,.int .i64 T.t1,.slice T.pa T.ag.length T.ca,.slice T.pr T.rs.length T.cr,.slice T.ps T.ss.length T.cs,.int .i64 T.al,.int .i64 T.sh,.int .i64 T.br,.bool T.pairs] 25 (0,0));have HB:=O hb0;have HC:=O (Ybb T l _ _ (hT.below hb0) (hl.below hb0) K hO);clear r0 hb0 hz0 hT hl hO;go_enter Tryz.func25,Tryz.ntmps25
 go_wp2_with fail
 generalize World.alloc w _=W at HB HC ⊢;refine(J HC).mono ?_;rintro e w2 ⟨v,md,rfl,g1,g2,hb2⟩;have HB2:=O (Zc (J HB) hb2 (J HB).size);have HG:=O (Xr g1 (show w.heap.size<=W.heap.size from(J HB).size));have HX:=O g2;obtain⟨vp,vc,rfl⟩:=Zv g1;obtain⟨en,hen⟩:∃ en,en=Ry (Rr T l):=⟨_,rfl⟩;rw [← hen];have HEN:=O hen;clear g1 g2 hb2 HC hen;go_wp2;go_returns;exact⟨_,md,by rw [← J HEN]; rfl,J HG,J HX,J HB2⟩
theorem Ybd (T:Yc)(l:List Gq)(lv:Value)(w:World)(hE:Yd w)(hT:TbO w T)(hl:PrS w lv l)(K:Nat)(hO:OrN T l K):Calls Tryz.prog 7 #[.agg #[.int .i64 T.r,.int .i64 T.sp,.int .i64 T.lk,.int .i64 T.t0,.int .i64 T.t1,.slice T.pa T.ag.length T.ca,.slice T.pr T.rs.length T.cr,.slice T.ps T.ss.length T.cs,.int .i64 T.al,.int .i64 T.sh,.int .i64 T.br,.bool T.pairs],lv] w fun e w'=>∃ v md,e=.returned (.tuple #[v,Rm (Rr T l) (-1) (-1) (-1)])∧w'.ownsRow w.heap.size 36 4 v md.length (Kq md)∧Yba T l md∧Below w.heap.size w w':=by
 obtain⟨lp,lc,rfl,hn⟩:=hl.shape;obtain⟨r0,r1,hb0,hz0⟩:=Oa w (.cells #[.int .i64 T.r,.int .i64 T.sp,.int .i64 T.lk,.int .i64 T.t0,.int .i64 T.t1,.slice T.pa T.ag.length T.ca,.slice T.pr T.rs.length T.cr,.slice T.ps T.ss.length T.cs,.int .i64 T.al,.int .i64 T.sh,.int .i64 T.br,.bool T.pairs] 25 (0,0)) (.cells #[.int .i64 0,.int .i64 0,.int .i64 0,.int .i64 0] 29 (0,0));have HB:=O hb0;have HR:=O r1;have HC:=O (Ybc T l _ _ (hT.below hb0) (hl.below hb0) K hO);have HE:=O (fun V (hb:Below w.heap.size w V)=>hE.keep hb);clear r0 r1 hb0 hz0 hT hl hE hO;go_enter Tryz.func7,Tryz.ntmps7
 go_wp2_with fail
 generalize World.alloc (World.alloc w _) _=W at HB HC HR ⊢;refine(J HC).mono ?_;rintro e w2 ⟨v,md,rfl,g1,g2,hb2⟩;have HB2:=O (Zc (J HB) hb2 (J HB).size);have HR2:=O ((hb2.block (w.heap.size+1) (Zi (J HR))).trans (J HR));have HG:=O g1;have HX:=O g2;have HLT:=O (Zi (J HR));obtain⟨vp,vc,rfl⟩:=Zv g1;have HF:=O (show Calls Tryz.prog 26 #[Ry (Rr T l)] w2 fun e w'=>e=.returned (Rm (Rr T l) (-1) (-1) (-1))∧Below w2.heap.size w2 w' by
  unfold Ry;split
  ·rename_i h;rw [h];exact Md w2
  ·exact Me _ w2 (J HE w2 (J HB2)))
 obtain⟨cn,hcn⟩:∃ cn,cn=Rr T l:=⟨_,rfl⟩;rw [← hcn] at HF ⊢;have HCN:=O hcn;clear g1 g2 hb2 HC hcn;generalize Ry cn=en at HF ⊢;go_wp2_with fail
 refine(J HF).mono ?_;rintro e w3 ⟨rfl,hb3⟩;have HB3:=O (Zc (J HB2) hb3 (J HB2).size);have HR3:=O ((hb3.block (w.heap.size+1) (Zi (J HR2))).trans (J HR2));have HG3:=O (Xc (J HG) (Jj (o:=none) hb3) (fun g _ e=>by cases e));clear hb3 HF;unfold Rm;go_wp2_with (refine wpList_store_row rfl 29 (.tmp 5) (.tmp 16) rfl (w.heap.size+1) #[.int .i64 cn,.int .i64 (-1),.int .i64 (-1),.int .i64 (-1)] rfl rfl 29 _ (J HR3) (Tryz.infFltE.trans rfl) rfl (by simp [Value.oneCell']) ?_)
 refine bodyPost_ret (Nu (fn:=Tryz.f7) (u:=4) (q:=5) (uy:=29) rfl _ _ (w.heap.size+1) 29 #[.int .i64 cn,.int .i64 (-1),.int .i64 (-1),.int .i64 (-1)] (0,0) _ rfl (setRow_heap _ _ _ _ _ _ (J HR3)) Tryz.underlying29 rfl (Tryz.infFltE.trans rfl)) rfl ?_;refine⟨_,md,by rw [← J HCN],?_,J HX,Zg (J HB3) (by omega)⟩;exact Xr (Zdc (J HG3) (J HLT) _) (J HB).size
end Go.Proofs.YtkenknfgeoecbaaGreatDoor
namespace Go.Proofs.YtkenknfgeoecbaaGreatDoor
open Go.ChangeShapes Go.WideShapes Go.ChangeAt Go.RowKit Go.Deep
set_option maxRecDepth 100000
section
variable {H:Type} {enc:TypeId×Value->H} {w:World} {held:Bool}
theorem Co {n:Nat}{v:Value}{y:DataW H×List MemPlace}(h:Uw enc w held n 23 [v] y)(hw:Df 23 y.1):∃ ns:List Int,Li w v ns∧ns.length*8<=140737488351232:=by
 obtain⟨ps,h1,h2,h3⟩:=Lz (One:=fun q:Array Value×Int=>q.1=#[.int .i64 q.2]) Tryz.underlying23 Tryz.cellsIntE (by decide) (show Tryz.prog.bytesOf 3=8 by kernel_rfl) (fun n cs y hl hy _=>by
  match cs,hl with
  | [v],_=>obtain⟨x,rfl,hx⟩:=Ga hy;exact⟨x,rfl⟩) h hw
 have hl:(ps.map (·.2)).length=ps.length:=by simp
 obtain⟨p,cap,g1,g2,g3,g4⟩:=(h1.congr (B:=fun k=>#[.int .i64 ((ps.map (·.2)).getD k default)]) (fun i hi=>by rw [Ki ps #[]]; exact h2 _ (Na _ _ _ hi))).ones;exact⟨ps.map (·.2),⟨p,cap,by rw [hl]; exact g1,by rw [hl]; exact g2,by rw [hl]; exact g3,fun h0=>by rw [hl] at h0 ⊢; exact g4 h0⟩,by rw [hl]; exact h3⟩
theorem Ziq {b0:Nat}{r:Reach}{v:Value}{d:DataW H}{p:List MemPlace}(hv:Value.okWide Tryz.prog w r b0 25 v)(h:DataW.Trod enc Tryz.prog w 0 (fun _=>true) held 25 v d p)(hw:Df 25 d) :
 ∃ T:Yc,v=.agg T.box∧TbO w T∧Yge T:=by
 obtain⟨cs,rfl,hsz⟩:=okWide_struct Tryz.underlying25 hv;obtain⟨l⟩:=cs;obtain⟨c0,c1,c2,c3,c4,c5,c6,c7,c8,c9,c10,c11,rfl⟩:=Yca (l:=l) (hsz.trans (by kernel_rfl));obtain⟨fuel,hf⟩:=h;obtain⟨xs,n,-,hx,-,hxl,hall⟩:=DataW.trod_struct Tryz.underlying25 hf;obtain⟨y0,y1,y2,y3,y4,y5,y6,y7,y8,y9,y10,rfl⟩:=Ycb hxl;have f0:Uw enc w held n 3 [c0] y0:=Xa hall (i:=0) rfl Tryz.cellsIntQ rfl;have f1:Uw enc w held n 3 [c1] y1:=Xa hall (i:=1) rfl Tryz.cellsIntQ rfl;have f2:Uw enc w held n 3 [c2] y2:=Xa hall (i:=2) rfl Tryz.cellsIntQ rfl;have f3:Uw enc w held n 22 [c3,c4] y3:=Xa hall (i:=3) rfl Tryz.cells2iQ rfl;have f4:Uw enc w held n 23 [c5] y4:=Xa hall (i:=4) rfl Tryz.cellsIntsQ rfl;have f5:Uw enc w held n 23 [c6] y5:=Xa hall (i:=5) rfl Tryz.cellsIntsQ rfl;have f6:Uw enc w held n 23 [c7] y6:=Xa hall (i:=6) rfl Tryz.cellsIntsQ rfl;have f7:Uw enc w held n 3 [c8] y7:=Xa hall (i:=7) rfl Tryz.cellsIntQ rfl;have f8:Uw enc w held n 3 [c9] y8:=Xa hall (i:=8) rfl Tryz.cellsIntQ rfl;have f9:Uw enc w held n 3 [c10] y9:=Xa hall (i:=9) rfl Tryz.cellsIntQ rfl;have f10:Uw enc w held n 4 [c11] y10:=Xa hall (i:=10) rfl Tryz.cellsBoolQ rfl;clear hall;rw [show d=_ from congrArg Prod.fst hx] at hw;unfold Df at hw;simp only [DataW.weights,Tryz.underlying25,List.map_cons,List.map_nil,DataW.weightsEach,List.mem_append] at hw;obtain⟨i0,rfl⟩:=Mm (v:=c0) (y:=y0) f0;obtain⟨i1,rfl⟩:=Mm (v:=c1) (y:=y1) f1
 obtain⟨i2,rfl⟩:=Mm (v:=c2) (y:=y2) f2;obtain⟨i3,i4,rfl,rfl⟩:=Zsf (v0:=c3) (v1:=c4) (y:=y3) f3;obtain⟨ag,l5,k5⟩:=Co f4 (fun z hz=>hw z (by simp only [hz,true_or,or_true]));obtain⟨rs,l6,k6⟩:=Co f5 (fun z hz=>hw z (by simp only [hz,true_or,or_true]));obtain⟨ss,l7,k7⟩:=Co f6 (fun z hz=>hw z (by simp only [hz,true_or,or_true]));obtain⟨i8,rfl⟩:=Mm (v:=c8) (y:=y7) f7;obtain⟨i9,rfl⟩:=Mm (v:=c9) (y:=y8) f8;obtain⟨i10,rfl⟩:=Mm (v:=c10) (y:=y9) f9;obtain⟨pr,hpr,-⟩:=DataW.trod_bool Tryz.underlying4 (cs:=[c11]) (x:=y10) f10;obtain rfl:=List.head_eq_of_cons_eq hpr;have m5:=l5;have m6:=l6;have m7:=l7;obtain⟨pa,ca,rfl,-⟩:=l5;obtain⟨pb,cb,rfl,-⟩:=l6;obtain⟨pc,cc,rfl,-⟩:=l7;exact⟨⟨i0,i1,i2,i3,i4,pa,ag,ca,pb,rs,cb,pc,ss,cc,i8,i9,i10,pr⟩,rfl,⟨m5,m6,m7⟩,⟨k5,k6,k7⟩⟩
end
end Go.Proofs.YtkenknfgeoecbaaGreatDoor
