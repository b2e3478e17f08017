import Derived.Test.YtedemloocadimaaGreatDoorJ7
import Derived.Laws.CopyRow
import Derived.Test.YtedemloocadimaaGreatDoorJ4
import Derived.Laws.Strings2
namespace Go.Proofs.YtedemloocadimaaGreatDoor
open Go.RowKit
theorem Yz {P:Program}{o:Oper}{a:Act}{w w':World}{v:Value}{Q:Exit→Act→World→Prop}{F:Value→World→Prop}(h:(execOp a.eval o).run P w=.ok (.value v) w')(hF:F v w'):o.wp P a w (fun a' w'=>∃ v,a'=a.put o.dst v∧F v w') Q:=by
 unfold Oper.wp;rw [h];exact⟨v,rfl,hF⟩
theorem Yej {P:Program}{o:Oper}{a:Act}{w w':World}{Q:Exit→Act→World→Prop}{F:Value→World→Prop}(h:(execOp a.eval o).run P w=.ok .skip w')(hF:F undef w'):o.wp P a w (fun a' w'=>∃ v,a'=a.put o.dst v∧F v w') Q:=by
 unfold Oper.wp;rw [h];exact⟨undef,rfl,hF⟩
theorem Zhj {P:Program}{o:Oper}{a:Act}{w w1:World}{f:FuncId}{args:Array Value}{Q:Exit→Act→World→Prop}{F:Value→World→Prop}(h:(execOp a.eval o).run P w=.ok (.enter f args) w1)(hF:Calls P f args w1 fun e w'=>∃ v,e=.returned v∧F v w'):o.wp P a w (fun a' w'=>∃ v,a'=a.put o.dst v∧F v w') Q:=by
 unfold Oper.wp;rw [h];refine hF.mono ?_;rintro e w' ⟨v,rfl,hv⟩;exact⟨v,rfl,hv⟩
theorem Zwf {P:Program}{ops:Array Oper}{Q:Exit→Act→World→Prop}{id:Nat}(hm:P.follows .mixedOrders=true)(base:Nat)(a0:Act)(Ok:Nat→Value→World→Prop)(S:World→Prop)(R:World→World→Prop)
 (hd:∀(i:Nat) (o:Oper),ops[i]?=some o→(o.dst=some (base+i)∨o.dst=none)∧o.guard=none)
 (hsz:∀(i:Nat) (o:Oper),ops[i]?=some o→o.dst=some (base+i)→base+i<a0.tmps.size)
 (hle:∀(i:Nat) (o:Oper),ops[i]?=some o→∀ e ∈ o.after,e.on<i)
 (stab:∀ i v w w',Ok i v w→R w w'→Ok i v w')
 (stabS:∀ w w',S w→R w w'→S w')
 (step:∀(i:Nat) (o:Oper),ops[i]?=some o→∀(a:Act) (w:World),S w→(∀ t,t<base→a.eval (.tmp t)=a0.eval (.tmp t))→(∀ e ∈ o.after,Region.binds .any e=true→(∃ o',ops[e.on]?=some o'∧o'.dst=some (base+e.on))→Ok e.on (a.eval (.tmp (base+e.on))) w) →
  o.wp P a w (fun a' w'=>∃ v,a'=a.put o.dst v∧R w w'∧Ok i v w') Q)
 (fin:∀(a:Act) (w:World),S w→a.defers=a0.defers→a.tmps.size=a0.tmps.size→(∀ t,t<base∨base+ops.size≤t→a.eval (.tmp t)=a0.eval (.tmp t))→(∀(i:Nat) (o:Oper),ops[i]?=some o→o.dst=some (base+i)→Ok i (a.eval (.tmp (base+i))) w)→(∀(i:Nat) (o:Oper),ops[i]?=some o→o.dst=none→a.eval (.tmp (base+i))=a0.eval (.tmp (base+i))∧∃ v,Ok i v w)→Q .normal a w)
 {w:World} (hS:S w.drew):(Code.region id ops true).wp P Q a0 w:=by
 refine wp_region_any hm (Zbi (fun L a w=>S w∧L.size=ops.size∧a.defers=a0.defers∧a.tmps.size=a0.tmps.size∧(∀ t,t<base∨base+ops.size≤t→a.eval (.tmp t)=a0.eval (.tmp t))∧(∀ i,i<ops.size→L.getD i true=true→∀ o,ops[i]?=some o→o.dst=some (base+i)→Ok i (a.eval (.tmp (base+i))) w)∧(∀(i:Nat) (o:Oper),ops[i]?=some o→o.dst=none→a.eval (.tmp (base+i))=a0.eval (.tmp (base+i))∧(L.getD i true=true→∃ v,Ok i v w))) ?_ ?_ _ _ _ _ ?_ ?_)
 ·
  rintro L a w i ⟨h1,h2,h3,h4,h5,h6,h7⟩ hi;obtain⟨hl,o,ho,hdeps⟩:=mem_ready.1 hi;have hlt:i<ops.size:=(Array.getElem?_eq_some_iff.1 ho).1;obtain⟨hdst,hgd⟩:=hd i o ho;have hwp:=step i o ho a w h1 (fun t ht=>h5 t (Or.inl ht)) (fun e he hb hh=>by
   obtain⟨o',ho',hdo⟩:=hh;have hel:L.getD e.on true=true:=by
    have:=hdeps e he hb;have hes:e.on<L.size:=by have:=hle i o ho e he; omega
    simpa [hes] using this
   exact h6 e.on (Nat.lt_trans (hle i o ho e he) hlt) hel o' ho' hdo)
  unfold wpOp;simp only [ho];rw [if_pos (by unfold Region.wanted; rw [hgd])];refine Or.inl ?_;refine Oper.wp_mono ?_ hwp;rintro a' w' ⟨v,rfl,hbl,hok⟩;have key:(fun a' w'=>S w'∧(L.setIfInBounds i true).size=ops.size∧a'.defers=a0.defers∧a'.tmps.size=a0.tmps.size∧(∀ t,t<base∨base+ops.size≤t→a'.eval (.tmp t)=a0.eval (.tmp t))∧(∀ j,j<ops.size→(L.setIfInBounds i true).getD j true=true→∀ o,ops[j]?=some o→o.dst=some (base+j)→Ok j (a'.eval (.tmp (base+j))) w')∧(∀(j:Nat) (o:Oper),ops[j]?=some o→o.dst=none→a'.eval (.tmp (base+j))=a0.eval (.tmp (base+j))∧((L.setIfInBounds i true).getD j true=true→∃ v,Ok j v w'))) (a.put o.dst v) w':=by
   rcases hdst with hdst | hdst
   ·
    simp only [hdst];refine⟨stabS _ _ h1 hbl,by simpa using h2,by simpa [Act.put] using h3,by simpa [Act.put] using h4,fun t ht=>?_,fun j hj hlj o' ho' hdo=>?_,fun j o' ho' hdo=>?_⟩
    ·
     rw [Uk _ _ _ _ (by omega)]; exact h5 t ht
    ·
     by_cases hji:j=i
     ·
      subst hji; rw [Cx _ _ _ (by have:=hsz j o' ho' hdo; omega)]; exact hok
     ·
      rw [Uk _ _ _ _ (by omega)];exact stab _ _ _ _ (h6 j hj (by simpa [Array.getElem?_setIfInBounds,Ne.symm hji] using hlj) o' ho' hdo) hbl
    ·
     have hji:¬ j=i:=fun e=>by subst e; rw [ho'] at ho; injection ho with ho; subst ho; rw [hdo] at hdst; cases hdst
     rw [Uk a (base+i) (base+j) v (by omega)];refine⟨(h7 j o' ho' hdo).1,fun hlj=>?_⟩;obtain⟨v',hv'⟩:=(h7 j o' ho' hdo).2 (by simpa [Array.getElem?_setIfInBounds,Ne.symm hji] using hlj);exact⟨v',stab _ _ _ _ hv' hbl⟩
   ·
    simp only [hdst,Act.put];refine⟨stabS _ _ h1 hbl,by simpa using h2,h3,h4,h5,fun j hj hlj o' ho' hdo=>?_,fun j o' ho' hdo=>⟨(h7 j o' ho' hdo).1,fun hlj=>?_⟩⟩
    ·
     have hji:¬ j=i:=fun e=>by subst e; rw [ho'] at ho; injection ho with ho; subst ho; rw [hdo] at hdst; cases hdst
     exact stab _ _ _ _ (h6 j hj (by simpa [Array.getElem?_setIfInBounds,Ne.symm hji] using hlj) o' ho' hdo) hbl
    ·
     by_cases hji:j=i
     ·
      subst hji; exact⟨v,hok⟩
     ·
      obtain⟨v',hv'⟩:=(h7 j o' ho' hdo).2 (by simpa [Array.getElem?_setIfInBounds,Ne.symm hji] using hlj);exact⟨v',stab _ _ _ _ hv' hbl⟩
  exact key
 ·
  rintro L a w ⟨h1,h2,h3,h4,h5,h6,h7⟩ hr;have all:∀ n j,j<n→j<ops.size→L.getD j true=true:=by
   intro n;induction n with
   | zero=>intro j hj; omega
   | succ n ih =>
    intro j hj hjs;cases hlj:L.getD j true with
    | true=>rfl
    | false =>
     exfalso
     have ho:ops[j]?=some ops[j]:=Array.getElem?_eq_getElem hjs;have:j ∈ Region.ready .any ops L:=mem_ready.2 ⟨hlj,ops[j],ho,fun e he _=>by
      have hlt:=hle j _ ho e he;have:=ih e.on (by omega) (by omega);have hes:e.on<L.size:=by omega
      simpa [hes] using this⟩
     rw [hr] at this;cases this
  exact fin a w h1 h3 h4 h5 (fun i o ho hdo=>h6 i (Array.getElem?_eq_some_iff.1 ho).1 (all (i+1) i (by omega) (Array.getElem?_eq_some_iff.1 ho).1) o ho hdo) (fun i o ho hdo=>⟨(h7 i o ho hdo).1,(h7 i o ho hdo).2 (all (i+1) i (by omega) (Array.getElem?_eq_some_iff.1 ho).1)⟩)
 ·
  unfold unl;exact Nat.le_trans List.countP_le_length (by simp)
 ·
  exact⟨hS,by simp,rfl,rfl,fun _ _=>rfl,fun i hi h=>by simp [hi] at h,fun i o ho _=>⟨rfl,fun h=>by simp [(Array.getElem?_eq_some_iff.1 ho).1] at h⟩⟩
theorem Yan (a a0:Act)(base:Nat)(vs:List Value)(hd:a.defers=a0.defers)(hs:a.tmps.size=a0.tmps.size)(hb:base+vs.length≤a0.tmps.size)
 (hout:∀ t,t<base∨base+vs.length≤t→a.eval (.tmp t)=a0.eval (.tmp t)) (hin:∀ i,i<vs.length→a.eval (.tmp (base+i))=vs.getD i undef) :
 a=⟨(a0.tmps.toList.take base++(vs++a0.tmps.toList.drop (base+vs.length))).toArray,a0.defers⟩:=by
 obtain⟨ts,df⟩:=a;simp only at hd hs;subst hd;congr 1
 apply Array.ext
 ·
  simp; omega
 ·
  intro t h1 h2;have hmin:min base a0.tmps.size=base:=by omega
  have e0:ts[t]=(⟨ts,a0.defers⟩:Act).eval (.tmp t):=by simp [Act.eval,h1]
  rw [e0];by_cases c1:t<base
  ·
   rw [hout t (Or.inl c1)];simp [Act.eval,hmin,c1,show t<a0.tmps.size by omega]
  ·
   by_cases c2:t<base+vs.length
   ·
    have:=hin (t-base) (by omega);rw [show base+(t-base)=t by omega] at this;rw [this];simp [List.getElem_append,c1,hmin,show t-base<vs.length by omega,List.getD]
   ·
    rw [hout t (Or.inr (by omega))];simp [Act.eval,List.getElem_append,c1,hmin,show ¬ t-base<vs.length by omega,show t<a0.tmps.size by omega];congr 1
    omega
theorem Zsf {P:Program}(w:World)(T:Nat)(t:TypeId)(cs arr:Array Value)(hsz:(sizeOf t).run P w=.ok arr.size w)(hc:cs.size=arr.size)(h:w.heap[T]?=some (.cells cs t (0,0)))(h1:∀ v ∈ arr.toList,v.oneCell'=true) :
 (Instr.storeAt t (.pointer (some ⟨T,0,none⟩)) (.agg arr)).run P w=.ok () (w.setRow T arr):=by
 have key:=run_storeCells_at (P:=P) T 0 t arr.toList 0 cs w h (by simp [hc]) h1;have e1:cs.toList.drop (0+0+arr.toList.length)=[]:=List.drop_of_length_le (by simp [hc]);rw [e1] at key;simp only [Nat.add_zero,List.take_zero,List.nil_append,List.append_nil,Array.toArray_toList] at key;have e2:(Instr.storeAt t (.pointer (some ⟨T,0,none⟩)) (.agg arr))=storeVar t ⟨T,0,none⟩ (.agg arr):=rfl;rw [e2];unfold storeVar;rw [Sem.run_bind,hsz];simp only [Result.andThen_ok,Value.cells,ne_eq,not_true_eq_false,if_false];exact key
set_option maxHeartbeats 4000000
set_option maxRecDepth 100000
def U8 (w:World):Prop:=Lib.Utf8Tabs 3 4 w
theorem U8.lt {w:World}(h:U8 w):3<w.heap.size∧4<w.heap.size :=
 ⟨World.block_lt_of_cell? w _ (h.1 0 (by decide)),World.block_lt_of_cell? w _ (h.2 0 (by decide)).1⟩
theorem U8.below {w w':World}{B:Nat}(h:U8 w)(hb:Below B w w')(hB:3<B∧4<B):U8 w' :=
 ⟨fun c hc=>(World.cell?_of_block (hb.block _ hB.1)).trans (h.1 c hc),fun i hi=>⟨(World.cell?_of_block (hb.block _ hB.2)).trans (h.2 i hi).1,(World.cell?_of_block (hb.block _ hB.2)).trans (h.2 i hi).2⟩⟩
theorem Yei (s:ByteArray)(p:Nat):(Utf8.decode s p).1<2147483648:=by
 rw [Lib.decode_at];have:=(s.get! p).toNat_lt;unfold Lib.decodeN;repeat' split
 all_goals first | omega | (simp; omega) | simp
theorem Jf.mono {w:World}{b c:Nat}{v:Value}{l:List Tk}(h:Jf w b v l)(hc:c≤b):Jf w c v l:=by
 refine⟨h.1,?_⟩;rcases h.2 with h' | ⟨g,cap,cur,h1,h2,h3⟩
 ·
  exact Or.inl h'
 ·
  exact Or.inr ⟨g,cap,cur,h1,by omega,h3⟩
theorem Jf.below {w w':World}{b:Nat}{v:Value}{l:List Tk}(h:Jf w b v l)(hb:Below w.heap.size w w'):Jf w' b v l:=by
 refine⟨h.1,?_⟩;rcases h.2 with h' | ⟨g,cap,cur,h1,h2,h3,h4⟩
 ·
  exact Or.inl h'
 ·
  refine Or.inr ⟨g,cap,cur,h1,h2,?_,h4⟩;have hg:g<w.heap.size:=by
   rcases Nat.lt_or_ge g w.heap.size with x | x
   ·
    exact x
   ·
    simp [Array.getElem?_eq_none x] at h3
  rw [hb.block g hg]; exact h3
structure Zwb (s:ByteArray)(w wr:World)(v:Value)(c:Bool)(pos f:Nat)(l:List Tk):Prop where
 it:wr.heap[w.heap.size]?=some (.stringIter s pos)
 own:Jf wr (w.heap.size+1) v l
 low:Below w.heap.size w wr
 eq:Ga s f pos c l=Ga s s.size 0 false []
 fuel:s.size≤pos+f
 len:l.length≤pos
theorem Zwb.lt {s:ByteArray}{w wr:World}{v:Value}{c:Bool}{pos f:Nat}{l:List Tk}(h:Zwb s w wr v c pos f l):w.heap.size<wr.heap.size:=(Array.getElem?_eq_some_iff.1 h.it).1
theorem Zwb.step {s:ByteArray}{w wr:World}{v:Value}{c:Bool}{pos f:Nat}{l:List Tk}(h:Zwb s w wr v c pos f l)(q:Nat) :
 (wr.iterAt w.heap.size s q).heap[w.heap.size]?=some (.stringIter s q)∧Jf (wr.iterAt w.heap.size s q) (w.heap.size+1) v l∧Below w.heap.size w (wr.iterAt w.heap.size s q)∧(wr.iterAt w.heap.size s q).heap.size=wr.heap.size :=
 ⟨Lib.iterAt_heap _ _ _ _ _ h.it,ownsRow_iterAt h.own (by omega) _ _,Lib.below_iterAt h.low (Nat.le_refl _) _ _,Lib.iterAt_size _ _ _ _⟩
def Yhp (s:ByteArray)(w:World)(e:Ending)(w':World):Prop :=
 ∃ v r,e=.returned (.tuple #[v,.int .i64 r])∧Below w.heap.size w w'∧(match Ga s s.size 0 false [] with | .inl p=>r=p | .inr l=>r=-1∧Jf w' w.heap.size v l)
theorem Zkj (r:Nat):Jc r≤6:=by
 unfold Jc;repeat' split
 all_goals omega
theorem Yah {s:ByteArray}{f p r n:Nat}{l:List Tk}(hp:p<s.size)(hd:Utf8.decode s p=(r,n))(hk:Jc r=0):Ga s (f+1) p false l=.inl p:=by simp [Ga,hp,hd,hk]
theorem Yai {s:ByteArray}{f p r n:Nat}{l:List Tk}(hp:p<s.size)(hd:Utf8.decode s p=(r,n))(hk:Jc r=1):Ga s (f+1) p false l=Ga s f (p+n) false l:=by simp [Ga,hp,hd,hk]
theorem Yaj {s:ByteArray}{f p r n:Nat}{l:List Tk}(hp:p<s.size)(hd:Utf8.decode s p=(r,n))(hk:Jc r=2):Ga s (f+1) p false l=Ga s f (p+n) true l:=by simp [Ga,hp,hd,hk]
theorem Yak {s:ByteArray}{f p r n:Nat}{l:List Tk}(k:Nat)(hp:p<s.size)(hd:Utf8.decode s p=(r,n))(hk:Jc r=k)(h3:3≤k):Ga s (f+1) p false l=Ga s f (p+n) false (Se l k p):=by
 simp only [Ga,hp,hd,hk,if_true];rw [if_neg (by decide),if_neg (by omega),if_neg (by omega),if_neg (by omega)]
theorem Yal {s:ByteArray}{f p r n:Nat}{l:List Tk}(hp:p<s.size)(hd:Utf8.decode s p=(r,n))(hk:r=65533∧n=1):Ga s (f+1) p true l=.inl p:=by simp [Ga,hp,hd,hk]
theorem Yam {s:ByteArray}{f p r n:Nat}{l:List Tk}(hp:p<s.size)(hd:Utf8.decode s p=(r,n))(hk:¬ (r=65533∧n=1)):Ga s (f+1) p true l=Ga s f (p+n) (decide (r≠10)) l:=by simp [Ga,hp,hd,hk]
theorem Ygm (s:ByteArray)(w:World)(hs:s.size≤400)(hT:U8 w):Calls Tryz.prog 61 #[.string s] w (Yhp s w):=by
 have HT:=Ze hT;clear hT;go_enter Tryz.func61,Tryz.ntmps61
 go_wp2_with fail
 go_loopw [4,5] (fun v c wr=>∃(cc:Bool) (pos f:Nat) (l:List Tk),c=.bool cc∧Zwb s w wr v cc pos f l) (fun _ _ wr=>s.size-wr.iterPos w.heap.size)
 case atStart=>exact⟨false,0,s.size,[],rfl,⟨heap_alloc_new w _,World.ownsRow_nil _ _ _ _,(Below.refl _ _).alloc (Nat.le_refl _) _,rfl,by omega,by simp⟩⟩
 case round =>
  obtain⟨cc,pos,f,l,rfl,hI⟩:=hrel;have hit:=hI.it;by_cases hp:pos<s.size
  ·
   obtain⟨r,n,hd⟩:∃ r n,Utf8.decode s pos=(r,n):=⟨_,_,rfl⟩;have hn1:1≤n:=by have:=Zpn s pos; rw [hd] at this; exact this
   have hr:=Yei s pos;rw [hd] at hr;have hnx:∀ ty,(Instr.next (.pointer (some ⟨w.heap.size,0,none⟩)) true ty).run Tryz.prog _=.ok (.tuple #[.bool true,.int .i64 pos,.int .i32 r]) _:=fun ty=>by have:=Lib.run_next_any_at (P:=Tryz.prog) _ w.heap.size s pos ty hit hp; rw [hd] at this; exact this
   obtain⟨g1,g2,g3,g4⟩:=hI.step (pos+n);have hm:=iterPos_of hit;have hm2:=iterPos_of g1;have hU:=(Zb HT).below g3 (Zb HT).lt;have hlt:=hI.lt;obtain⟨f,rfl⟩:∃ f',f=f'+1:=⟨f-1,by have:=hI.fuel; omega⟩;have HI:=Ze hI;have hlen:=hI.len;have G1:=Ze g1;have G2:=Ze g2;have G3:=Ze g3;clear hI g1 g2 g3 hit;cases cc with
   | true =>
    have HC:=Ze (Zno (s.extract pos s.size) r _ (by simp; omega) hU);rw [Zki s pos hp,hd] at HC;clear hU;go_wp2_with fail
    refine(Zb HC).mono ?_;rintro e w1 ⟨rfl,hb1⟩;have k1:=(hb1.block w.heap.size (by rw [g4]; exact hlt)).trans (Zb G1);have K2:=Ze ((Zb G2).below hb1);have K3:=Ze ((Zb G3).trans (hb1.mono (by rw [g4]; omega)));have hm3:=iterPos_of k1;have K1:=Ze k1;clear hb1 HC k1;by_cases hbk:r=65533∧n=1
    ·
     have hE:=(Yal (f:=f) (l:=l) hp hd hbk).symm.trans (Zb HI).eq;simp only [hbk,and_self,decide_true];go_wp2;go_ret2;exact⟨_,_,rfl,Zb K3,by rw [← hE]⟩
    ·
     have hE:=(Yam (f:=f) (l:=l) hp hd hbk).symm.trans (Zb HI).eq;simp only [hbk,decide_false];go_wp2;go_roundw
     case rel=>exact⟨decide (r≠10),pos+n,f,l,by rw [Value.bool.injEq,Bool.eq_iff_iff]; simp; try omega,⟨Zb K1,Zb K2,Zb K3,hE,by have:=(Zb HI).fuel; omega,by omega⟩⟩
     case measure=>omega
   | false =>
    have HC:=Ze (Zwc r (wr.iterAt w.heap.size s (pos+n)) hr);have h6:=Zkj r;clear hU;go_wp2_with fail
    refine(Zb HC).mono ?_;rintro e w1 ⟨rfl,rfl⟩;clear HC;have hcs:Jc r=0∨Jc r=1∨Jc r=2∨3≤Jc r:=by omega
    rcases hcs with hk | hk | hk | hk
    ·
     have hE:=(Yah (f:=f) (l:=l) hp hd hk).symm.trans (Zb HI).eq;rw [hk];clear hk;go_wp2;go_ret2;exact⟨_,_,rfl,Zb G3,by rw [← hE]⟩
    ·
     have hE:=(Yai (f:=f) (l:=l) hp hd hk).symm.trans (Zb HI).eq;rw [hk];clear hk;go_wp2;go_roundw
     case rel=>exact⟨false,pos+n,f,l,rfl,⟨Zb G1,Zb G2,Zb G3,hE,by have:=(Zb HI).fuel; omega,by omega⟩⟩
     case measure=>omega
    ·
     have hE:=(Yaj (f:=f) (l:=l) hp hd hk).symm.trans (Zb HI).eq;rw [hk];clear hk;go_wp2;go_roundw
     case rel=>exact⟨true,pos+n,f,l,rfl,⟨Zb G1,Zb G2,Zb G3,hE,by have:=(Zb HI).fuel; omega,by omega⟩⟩
     case measure=>omega
    ·
     have hE:=(Yak (f:=f) (l:=l) (Jc r) hp hd rfl hk).symm.trans (Zb HI).eq;have hl2:=Zkg l (Jc r) pos;have HA:=Ze (Zsc (w.heap.size+1) l u4 (Jc r) pos _ (Zb G2) (by omega) (by omega) (by rw [g4]; omega) ⟨hk,h6⟩);generalize Jc r=kk at *;have hcs:kk=3∨kk=4∨kk=5∨kk=6:=by omega
     rcases hcs with rfl | rfl | rfl | rfl;all_goals
      go_wp2_with fail
      refine(Zb HA).mono ?_;rintro e w1 ⟨v',rfl,hO,hb1⟩;have k1:=(hb1.block w.heap.size (by omega)).trans (Zb G1);have K3:=Ze ((Zb G3).trans (hb1.mono (by omega)));have K2:=Ze hO;have hm3:=iterPos_of k1;have K1:=Ze k1;clear hb1 HA k1 hO;go_wp2;go_roundw
      case rel=>exact⟨false,pos+n,f,_,rfl,⟨Zb K1,Zb K2,Zb K3,hE,by have:=(Zb HI).fuel; omega,by omega⟩⟩
      case measure=>omega
  ·
   have hnx:∀ ty,(Instr.next (.pointer (some ⟨w.heap.size,0,none⟩)) true ty).run Tryz.prog _=_:=fun ty=>Lib.run_next_end_at _ w.heap.size s pos ty hit hp;have HI:=Ze hI;clear hI;go_wp2;go_ret2;have h:=Zb HI;have e:=h.eq;rw [Zwk s f pos cc l hp] at e;exact⟨_,_,rfl,h.low,by rw [← e]; exact⟨rfl,h.own.mono (by omega)⟩⟩
set_option maxHeartbeats 2000000
set_option maxRecDepth 100000
def Io (l:List UInt8):Nat:=l.foldl (fun v b=>10*v+(b.toNat-48)) 0
theorem Zft (l:List UInt8)(b:UInt8):Io (l++[b])=10*Io l+(b.toNat-48):=by simp [Io]
theorem Zpl:∀(n:Nat) (l:List UInt8),l.length=n→(∀ b ∈ l,48≤b.toNat∧b.toNat≤57)→Io l<10 ^ n
 | 0,l,h,_=>by
  have:l=[]:=List.eq_nil_of_length_eq_zero h;subst this; decide
 | n+1,l,h,hb=>by
  rcases Zpj l with rfl | ⟨l0,t,rfl⟩
  ·
   simp at h
  ·
   have h1:=Zpl n l0 (by simpa using h) (fun b hb'=>hb b (by simp [hb']));have h2:=hb t (by simp);rw [Zft,Nat.pow_succ];omega
theorem Zkn (t:List UInt8)(w:World)(hI:Zkb w) :
 Calls Tryz.prog 222 #[.string ⟨t.toArray⟩] w fun e w'=>w'=w∧((∃ k,k<11∧nm k=t∧e=.returned (.int .i64 k))∨((∀ k,k<11→nm k≠t)∧e=.returned (.int .i64 (-1)))):=by
 have HI:=Ze hI;clear hI;go_enter Tryz.func222,Tryz.ntmps222
 go_wp2_with fail
 go_loopw [4] (fun j w2=>∃ k:Nat,j=.int .i64 k∧w2=w∧k≤11∧∀ i,i<k→nm i≠t) (fun j _=>11-(intOf j).toNat)
 case atStart=>exact⟨0,rfl,rfl,by omega,fun i hi=>by omega⟩
 case round =>
  obtain⟨k,rfl,rfl,hk,hno⟩:=hrel;by_cases hk2:k<11
  ·
   have hc:=(Zb HI k hk2).1;by_cases hn:nm k=t
   ·
    rw [hn] at hc;have HN:=Ze hno;clear hno;go_wp2;go_ret;exact⟨rfl,Or.inl ⟨k,hk2,hn,rfl⟩⟩
   ·
    have HN:=Ze hno;clear hno;have hse:(nm k==t)=false:=by simpa using hn
    go_wp2;go_roundw
    case rel=>exact⟨k+1,by go_num,by trivial,by omega,fun i hi=>by
     rcases Nat.lt_succ_iff_lt_or_eq.1 hi with h | h
     ·
      exact Zb HN i h
     ·
      subst h; exact hn⟩
    case measure=>simp [intOf]; omega
  ·
   have hk3:k=11:=by omega
   subst hk3;have HN:=Ze hno;clear hno;go_wp2;go_ret;exact⟨rfl,Or.inr ⟨Zb HN,rfl⟩⟩
theorem Zsd (s:ByteArray)(w:World)(hs:s.size≤3)(hd:∀ i,i<s.size→48≤(s.get! i).toNat∧(s.get! i).toNat≤57) :
 Calls Tryz.prog 291 #[.string s] w fun e w'=>e=.returned (.int .i64 (Io s.data.toList))∧Below w.heap.size w w':=by
 have HD:=Ze hd;have hsl:s.data.toList.length=s.size:=Array.length_toList;clear hd;go_enter Tryz.func291,Tryz.ntmps291
 go_wp2_with fail
 go_loopw [3] (fun v wr=>∃ q:Nat,q≤s.size∧v=.int .i64 (Io (s.data.toList.take q))∧wr.heap[w.heap.size]?=some (.stringIter s q)∧Below w.heap.size w wr) (fun _ wr=>s.size-wr.iterPos w.heap.size)
 case atStart=>exact⟨0,by omega,rfl,heap_alloc_new w _,(Below.refl _ _).alloc (Nat.le_refl _) _⟩
 case round =>
  obtain⟨q,hq,rfl,hit,hb⟩:=hrel;by_cases hp:q<s.size
  ·
   have hgq:=Zb HD q hp;have hda:=Cj s q (by omega);have hnx:∀ ty,(Instr.next (.pointer (some ⟨w.heap.size,0,none⟩)) true ty).run Tryz.prog _=.ok (.tuple #[.bool true,.int .i64 q,.int .i32 (s.get! q).toNat]) _:=fun ty=>by have:=Lib.run_next_any_at (P:=Tryz.prog) _ w.heap.size s q ty hit hp; rw [hda] at this; exact this
   have hm:=iterPos_of hit;have G1:=Ze (Lib.iterAt_heap _ _ s _ (q+1) hit);have hm2:=iterPos_of (Zb G1);have G2:=Ze (Lib.below_iterAt hb (Nat.le_refl _) s (q+1));have hv:Io (s.data.toList.take (q+1))=10*Io (s.data.toList.take q)+((s.get! q).toNat-48):=by
    rw [List.take_succ_eq_append_getElem (by omega),Zft];rw [Utf8W.get!_of_lt s q hp];rfl
   have hlt:=Zpl q (s.data.toList.take q) (by simp; omega) (fun b hb'=>by
    obtain⟨i,hi⟩:=List.getElem?_of_mem (List.mem_of_mem_take hb');have hi2:i<s.size:=by
     have:=(List.getElem?_eq_some_iff.1 hi).1;omega
    have h:=Zb HD i hi2;rw [Utf8W.get!_of_lt s i hi2] at h;have e:s[i]'hi2=b:=by
     have:=(List.getElem?_eq_some_iff.1 hi).2;simp at this;exact this
    rw [e] at h; exact h)
   have hlt2:Io (s.data.toList.take q)<1000:=by
    have:10 ^ q≤10 ^ 2:=Nat.pow_le_pow_right (by decide) (by omega);omega
   have HV:=Ze hv;clear hv hit hb hda hlt;generalize Io (s.data.toList.take q)=V at *;generalize (s.get! q).toNat=B at *;go_wp2;go_roundw
   case rel=>exact⟨q+1,hp,by rw [Zb HV]; go_num,Zb G1,Zb G2⟩
   case measure=>omega
  ·
   obtain rfl:q=s.size:=by omega
   have hnx:∀ ty,(Instr.next (.pointer (some ⟨w.heap.size,0,none⟩)) true ty).run Tryz.prog _=_:=fun ty=>Lib.run_next_end_at _ w.heap.size s _ ty hit hp;have HB:=Ze hb;clear hb;have ht:s.data.toList.take s.size=s.data.toList:=by rw [← hsl]; exact List.take_length
   rw [ht];go_wp2;go_ret;exact⟨rfl,Zb HB⟩
theorem Yat (s:ByteArray)(p:Nat)(hp:p<s.size):p+(Utf8.decode s p).2≤s.size:=by
 rw [Lib.decode_at];unfold Lib.decodeN;repeat' split
 all_goals first | omega | (simp; omega)
def Shut (s:ByteArray)(l:List Tk)(pos:Nat):Prop:=∀ t,l.getLast?=some t→t.e≤pos∧(t.e=pos→pos<s.size→(t.k=3∨t.k=4)→Jc (s.get! pos).toNat≠t.k)
theorem Shut.on {s:ByteArray}{l:List Tk}{pos q:Nat}(h:Shut s l pos)(hq:pos<q):Shut s l q:=fun t ht=>⟨by have:=(h t ht).1; omega,fun e=>by have:=(h t ht).1; omega⟩
theorem Shut.new {s:ByteArray}{l:List Tk}{pos:Nat}(h:Shut s l pos)(hp:pos<s.size):Se l (Jc (s.get! pos).toNat) pos=l++[⟨Jc (s.get! pos).toNat,pos,pos+1⟩] :=
 Zal l _ pos (fun t ht h3 hk he=>(h t ht).2 he hp (by omega) hk.symm)
theorem Zsi (s:ByteArray)(i j:Nat)(h1:i≤j)(h2:j≤s.size)(w:World):(Instr.slice 9 (.string s) (some (.int .i64 (i:Int))) (some (.int .i64 (j:Int))) none).run Tryz.prog w=.ok (.string (s.extract i j)) w:=by
 have:=run_slice_string (P:=Tryz.prog) (w:=w) 9 s .i64 .i64 i j Tryz.underlying9 (by omega) (by omega) (by omega);simpa using this
theorem Zwq {b:Nat}(h:Jc b=4):48≤b∧b≤57:=by
 unfold Jc at h;repeat' split at h
 all_goals omega
set_option maxHeartbeats 2000000
set_option maxRecDepth 100000
def WfT (s:ByteArray)(l:List Tk):Prop:=∀ t ∈ l,t.a<t.e∧t.e≤s.size∧3≤t.k∧t.k≤6∧∀ i,t.a≤i→i<t.e→Jc (s.get! i).toNat=t.k
structure Ck (w:World)(b:Nat)(s:ByteArray)(v:Value)(i:Nat)(sn:Nat→Bool)(vs:Nat→Value):Prop where
 txt:w.cell? ⟨b,0,none⟩=some (.string s)
 pcs:w.cell? ⟨b,1,none⟩=some v
 nxt:w.cell? ⟨b,2,none⟩=some (.int .i64 i)
 seen:∀ k,k<11→w.cell? ⟨b,3+k,none⟩=some (.bool (sn k))
 vals:∀ k,k<11→w.cell? ⟨b,14+k,none⟩=some (vs k)
 frz:∀ j,w.frozen? ⟨b,j,none⟩=false
theorem Zam {w:World}{base g cap:Nat}{l:List Tk}{i:Nat}{t:Tk}(h:Jf w base (.slice (some ⟨g,0,none⟩) l.length cap) l)(ht:l[i]?=some t)(j:Nat)(hj:j<3):w.cell? ⟨g,i*3+j,none⟩=([.int .i64 t.k,.int .i64 t.a,.int .i64 t.e]:List Value)[j]?:=by
 obtain⟨hi,rfl⟩:=List.getElem?_eq_some_iff.1 ht;have e:l=l.take i++[l[i]]++l.drop (i+1):=by
  rw [List.append_assoc,List.singleton_append,List.getElem_cons_drop,List.take_append_drop]
 have h1:(Jz l)[i*3+j]?=([.int .i64 (l[i]).k,.int .i64 (l[i]).a,.int .i64 (l[i]).e]:List Value)[j]?:=by
  have hl:(Jz (l.take i)).length=i*3:=by rw [Nz]; simp; omega
  have h3:Jz l=Jz (l.take i)++([.int .i64 (l[i]).k,.int .i64 (l[i]).a,.int .i64 (l[i]).e]++Jz (l.drop (i+1))):=by
   have h4:=congrArg Jz e;simp only [Jz,List.flatMap_append,List.flatMap_cons,List.flatMap_nil,List.append_nil,List.append_assoc] at h4 ⊢;exact h4
  rw [h3];rw [List.getElem?_append_right (by omega),hl,Nat.add_sub_cancel_left,List.getElem?_append_left (by simpa using hj)]
 have h2:w.ownsRow base 227 3 (.slice (some ⟨g,0,none⟩) l.length cap) l.length (Jz l):=h;rw [h2.cellAt (i*3+j) (by omega),h1]
theorem Zsg (w:World)(b base:Nat)(s:ByteArray)(v:Value)(sn:Nat→Bool)(vs:Nat→Value)(l:List Tk)(h:Ck w b s v l.length sn vs)(ho:Jf w base v l)(hl:l.length≤400) :
 Calls Tryz.prog 64 #[.pointer (some ⟨b,0,none⟩)] w fun e w'=>e=.returned (.int .i64 s.size)∧Below w.heap.size w w':=by
 have c0:=h.txt;have c1:=h.pcs;have c2:=h.nxt;obtain⟨a,cap,rfl⟩:∃ a cap,v=.slice a l.length cap:=by
  rcases ho.shape with⟨e,rfl⟩ | ⟨g,cap,rfl⟩
  ·
   subst e; exact⟨_,_,rfl⟩
  ·
   exact⟨_,_,rfl⟩
 clear h ho;go_enter Tryz.func64,Tryz.ntmps64
 go_wp2;go_region
 all_goals go_wp2
 all_goals go_ret
 all_goals exact⟨rfl,by go_grown⟩
theorem Zwl (w:World)(b base:Nat)(s:ByteArray)(v:Value)(i:Nat)(sn:Nat→Bool)(vs:Nat→Value)(l:List Tk)(t:Tk)(h:Ck w b s v i sn vs)(ho:Jf w base v l)(hl:l.length≤400)(ht:l[i]?=some t) :
 Calls Tryz.prog 64 #[.pointer (some ⟨b,0,none⟩)] w fun e w'=>e=.returned (.int .i64 t.a)∧Below w.heap.size w w':=by
 have c0:=h.txt;have c1:=h.pcs;have c2:=h.nxt;have hi:i<l.length:=(List.getElem?_eq_some_iff.1 ht).1;obtain⟨g,cap,rfl⟩:∃ g cap,v=.slice (some ⟨g,0,none⟩) l.length cap:=by
  rcases ho.shape with⟨e,rfl⟩ | ⟨g,cap,rfl⟩
  ·
   subst e; simp at hi
  ·
   exact⟨_,_,rfl⟩
 have d1:w.cell? ⟨g,i*3+1,none⟩=some (.int .i64 t.a):=Zam ho ht 1 (by omega);clear h ho;generalize hn:l.length=n at *;go_enter Tryz.func64,Tryz.ntmps64
 go_wp2;go_region
 all_goals go_wp2
 all_goals go_region
 all_goals go_wp2
 all_goals go_ret
 all_goals exact⟨rfl,by go_grown⟩
theorem Zwm (w:World)(b base:Nat)(s:ByteArray)(v:Value)(sn:Nat→Bool)(vs:Nat→Value)(l:List Tk)(h:Ck w b s v l.length sn vs)(ho:Jf w base v l)(hl:l.length≤400) :
 Calls Tryz.prog 221 #[.pointer (some ⟨b,0,none⟩)] w fun e w'=>e=.returned (.tuple #[.int .i64 0,.string ⟨#[]⟩])∧Below w.heap.size w w':=by
 have c1:=h.pcs;have c2:=h.nxt;obtain⟨a,cap,rfl⟩:∃ a cap,v=.slice a l.length cap:=by
  rcases ho.shape with⟨e,rfl⟩ | ⟨g,cap,rfl⟩
  ·
   subst e; exact⟨_,_,rfl⟩
  ·
   exact⟨_,_,rfl⟩
 clear h ho;go_enter Tryz.func221,Tryz.ntmps221
 go_wp2;go_region
 all_goals go_wp2
 all_goals go_ret2
 all_goals exact⟨rfl,by go_grown⟩
theorem Yaq (w:World)(b base:Nat)(s:ByteArray)(v:Value)(i:Nat)(sn:Nat→Bool)(vs:Nat→Value)(l:List Tk)(t:Tk)(h:Ck w b s v i sn vs)(ho:Jf w base v l)(hl:l.length≤400)(ht:l[i]?=some t)(hw:WfT s l) :
 Calls Tryz.prog 221 #[.pointer (some ⟨b,0,none⟩)] w fun e w'=>e=.returned (.tuple #[.int .i64 t.k,.string (s.extract t.a t.e)])∧Below w.heap.size w w':=by
 have c0:=h.txt;have c1:=h.pcs;have c2:=h.nxt;have hi:i<l.length:=(List.getElem?_eq_some_iff.1 ht).1;obtain⟨g,cap,rfl⟩:∃ g cap,v=.slice (some ⟨g,0,none⟩) l.length cap:=by
  rcases ho.shape with⟨e,rfl⟩ | ⟨g,cap,rfl⟩
  ·
   subst e; simp at hi
  ·
   exact⟨_,_,rfl⟩
 have d0:w.cell? ⟨g,i*3,none⟩=some (.int .i64 t.k):=Zam ho ht 0 (by omega);have d1:w.cell? ⟨g,i*3+1,none⟩=some (.int .i64 t.a):=Zam ho ht 1 (by omega);have d2:w.cell? ⟨g,i*3+2,none⟩=some (.int .i64 t.e):=Zam ho ht 2 (by omega);obtain⟨w1,w2,-⟩:=hw t (List.mem_of_getElem? ht);have hsl:=Zsi s t.a t.e (by omega) w2;have old:∀(q:Nat) (o:Nat) (u:Value),w.cell? ⟨q,o,none⟩=some u→(w.alloc (.cells #[.int .i64 0,.int .i64 0,.int .i64 0] 227)).cell? ⟨q,o,none⟩=some u:=fun q o u hu=>(World.cell?_alloc_lt _ _ ⟨q,o,none⟩ (World.block_lt_of_cell? w _ hu)).trans hu;have hlb:b<w.heap.size:=World.block_lt_of_cell? w _ c0;have hlg:g<w.heap.size:=World.block_lt_of_cell? w _ d0;have hnb:b≠w.heap.size:=by omega
 have hng:g≠w.heap.size:=by omega
 have a0:=old _ _ _ c0;have a1:=old _ _ _ c1;have a2:=old _ _ _ c2;have a3:=old _ _ _ d0;have a4:=old _ _ _ d1;have a5:=old _ _ _ d2;clear h ho hw old;generalize hn:l.length=n at *;go_enter Tryz.func221,Tryz.ntmps221
 go_wp2;go_region
 all_goals go_wp2
 all_goals go_region
 all_goals go_wp2
 all_goals go_region
 all_goals go_wp2
 all_goals go_ret2
 all_goals exact⟨rfl,by go_grown⟩
set_option maxHeartbeats 2000000
set_option maxRecDepth 100000
theorem Ya {w w':World}{row:Option Nat}(h:Below w.heap.size w w'):w.grownBy w' row:=⟨h.os,h.tape,h.output,h.size,fun k hk _=>h.block k hk⟩
theorem Xr {a c d:World}{row:Option Nat}(h:a.grownBy c row)(k:c.grownBy d row):a.grownBy d row :=
 ⟨k.os.trans h.os,k.tape.trans h.tape,k.output.trans h.output,Nat.le_trans h.size k.size,fun q hq hr=>(k.block q (Nat.lt_of_lt_of_le hq h.size) hr).trans (h.block q hq hr)⟩
theorem Up (w:World)(b j:Nat)(u:Value):w.grownBy (w.setCell ⟨b,j,none⟩ u) (some b) :=
 ⟨rfl,rfl,rfl,by simp,fun k _ hk=>heap_setCell_other w ⟨b,j,none⟩ k u (fun e=>hk (by simp [e]))⟩
theorem Ck.below {w w':World}{b:Nat}{s:ByteArray}{v:Value}{i:Nat}{sn:Nat→Bool}{vs:Nat→Value}(h:Ck w b s v i sn vs)(hb:Below w.heap.size w w'):Ck w' b s v i sn vs:=by
 have hlt:=World.block_lt_of_cell? w _ h.txt;have e:∀ o,w'.cell? ⟨b,o,none⟩=w.cell? ⟨b,o,none⟩:=fun o=>World.cell?_of_block (hb.block b hlt);exact⟨(e _).trans h.txt,(e _).trans h.pcs,(e _).trans h.nxt,fun k hk=>(e _).trans (h.seen k hk),fun k hk=>(e _).trans (h.vals k hk),fun j=>(World.frozen?_of_block (a:=⟨b,j,none⟩) (hb.block b hlt)).trans (h.frz j)⟩
theorem Ck.set_next {w:World}{b:Nat}{s:ByteArray}{v:Value}{i:Nat}{sn:Nat→Bool}{vs:Nat→Value}(h:Ck w b s v i sn vs)(q:Nat):Ck (w.setCell ⟨b,2,none⟩ (.int .i64 q)) b s v q sn vs:=by
 have e:∀ o,o≠2→(w.setCell ⟨b,2,none⟩ (.int .i64 q)).cell? ⟨b,o,none⟩=w.cell? ⟨b,o,none⟩:=fun o ho=>World.cell?_setCell_other _ _ _ _ (by intro e; simp at e; first | done | omega);exact⟨(e _ (by decide)).trans h.txt,(e _ (by decide)).trans h.pcs,World.cell?_setCell_same _ _ _ h.nxt,fun k hk=>(e _ (by omega)).trans (h.seen k hk),fun k hk=>(e _ (by omega)).trans (h.vals k hk),fun j=>by rw [World.frozen?_setCell]; exact h.frz j⟩
theorem Ck.set_seen {w:World}{b:Nat}{s:ByteArray}{v:Value}{i:Nat}{sn:Nat→Bool}{vs:Nat→Value}(h:Ck w b s v i sn vs)(k:Nat)(hk:k<11):Ck (w.setCell ⟨b,3+k,none⟩ (.bool true)) b s v i (fun j=>if j=k then true else sn j) vs:=by
 have e:∀ o,o≠3+k→(w.setCell ⟨b,3+k,none⟩ (.bool true)).cell? ⟨b,o,none⟩=w.cell? ⟨b,o,none⟩:=fun o ho=>World.cell?_setCell_other _ _ _ _ (by intro e; simp at e; first | done | omega);refine⟨(e _ (by omega)).trans h.txt,(e _ (by omega)).trans h.pcs,(e _ (by omega)).trans h.nxt,fun j hj=>?_,fun j hj=>(e _ (by omega)).trans (h.vals j hj),fun j=>by rw [World.frozen?_setCell]; exact h.frz j⟩;by_cases hjk:j=k
 ·
  subst hjk; simp only [if_true]; exact World.cell?_setCell_same _ _ _ (h.seen j hj)
 ·
  simp only [hjk,if_false]; exact(e _ (by omega)).trans (h.seen j hj)
theorem Jf.grown {w w':World}{base b:Nat}{v:Value}{l:List Tk}(h:Jf w base v l)(hg:w.grownBy w' (some b))(hne:v.ownBlock≠some b):Jf w' base v l:=World.ownsRow.kept h hg (Or.inr hne)
def Ix (l:List Tk)(i:Nat):Nat:=match l[i]? with | some t=>t.k | none=>0
def tAt (s:ByteArray)(l:List Tk)(i:Nat):ByteArray:=match l[i]? with | some t=>s.extract t.a t.e | none=>⟨#[]⟩
theorem Znu (w:World)(b base:Nat)(s:ByteArray)(v:Value)(i:Nat)(sn:Nat→Bool)(vs:Nat→Value)(l:List Tk)(h:Ck w b s v i sn vs)(ho:Jf w base v l)(hl:l.length≤400)(hi:i≤l.length)(hw:WfT s l) :
 Calls Tryz.prog 221 #[.pointer (some ⟨b,0,none⟩)] w fun e w'=>e=.returned (.tuple #[.int .i64 (Ix l i),.string (tAt s l i)])∧Below w.heap.size w w':=by
 cases ht:l[i]? with
 | some t =>
  have e1:Ix l i=t.k:=by simp [Ix,ht]
  have e2:tAt s l i=s.extract t.a t.e:=by simp [tAt,ht]
  rw [e1,e2];exact Yaq w b base s v i sn vs l t h ho hl ht hw
 | none =>
  have e1:Ix l i=0:=by simp [Ix,ht]
  have e2:tAt s l i=⟨#[]⟩:=by simp [tAt,ht]
  have e3:i=l.length:=by have:=List.getElem?_eq_none_iff.1 ht; omega
  rw [e1,e2];subst e3;exact Zwm w b base s v sn vs l h ho hl
theorem Znv (w:World)(b base:Nat)(s:ByteArray)(v:Value)(i:Nat)(sn:Nat→Bool)(vs:Nat→Value)(l:List Tk)(h:Ck w b s v i sn vs)(ho:Jf w base v l)(hl:l.length≤400)(hi:i≤l.length)(hw:WfT s l) :
 Calls Tryz.prog 160 #[.pointer (some ⟨b,0,none⟩)] w fun e w'=>e=.returned (.bool (decide (Ix l i=6)))∧w.grownBy w' (some b)∧Ck w' b s v (if Ix l i=6 then i+1 else i) sn vs:=by
 have HP:=Ze (Znu w b base s v i sn vs l h ho hl hi hw);have HR:=Ze h;clear h ho hw;by_cases hk:Ix l i=6
 ·
  simp only [hk,decide_true,if_true];go_enter Tryz.func160,Tryz.ntmps160
  go_wp2_with fail
  refine(Zb HP).mono ?_;rintro e w1 ⟨rfl,hb1⟩;have h1:=(Zb HR).below hb1;have HB:=Ze hb1;have c2:=h1.nxt;have cf:=h1.frz 2;have H1:=Ze h1;clear hb1 h1;rw [hk];go_wp2;go_ret;exact⟨rfl,Xr (Ya (Zb HB)) (Up _ _ _ _),(Zb H1).set_next (i+1)⟩
 ·
  simp only [hk,decide_false,if_false];go_enter Tryz.func160,Tryz.ntmps160
  go_wp2_with fail
  refine(Zb HP).mono ?_;rintro e w1 ⟨rfl,hb1⟩;have H1:=Ze ((Zb HR).below hb1);have HB:=Ze hb1;clear hb1;generalize Ix l i=kk at *;have zk:((kk:Int) != 6)=true:=by rw [bne_iff_ne]; omega
  go_wp2;go_ret;exact⟨rfl,Ya (Zb HB),Zb H1⟩
theorem Zwn (s:ByteArray)(a e j:Nat)(he:e≤s.size)(hj:a+j<e):(s.extract a e).get! j=s.get! (a+j):=by
 rw [Utf8W.get!_of_lt _ _ (by simp; omega),Utf8W.get!_of_lt _ _ (by omega)];simp [ByteArray.getElem_extract]
theorem Zsh {s:ByteArray}{l:List Tk}{i:Nat}(hw:WfT s l)(hk:Ix l i=4):∀ j,j<(tAt s l i).size→48≤((tAt s l i).get! j).toNat∧((tAt s l i).get! j).toNat≤57:=by
 cases ht:l[i]? with
 | none=>simp [Ix,ht] at hk
 | some t =>
  have e1:t.k=4:=by simpa [Ix,ht] using hk
  have e2:tAt s l i=s.extract t.a t.e:=by simp [tAt,ht]
  obtain⟨h1,h2,-,-,h5⟩:=hw t (List.mem_of_getElem? ht);rw [e2];intro j hj;have hj2:t.a+j<t.e:=by simp at hj; omega
  rw [Zwn s t.a t.e j h2 hj2];exact Zwq ((h5 _ (by omega) hj2).trans e1)
def Kv (s:ByteArray)(l:List Tk)(i:Nat)(d:Bool):Option Int:=if Ix l i=5∧d=true then some (-1) else if Ix l i=4∧(tAt s l i).size≤3 then some ((Io (tAt s l i).data.toList:Nat):Int) else none
theorem Zhl (d:Bool)(w:World)(b base:Nat)(s:ByteArray)(v:Value)(i:Nat)(sn:Nat→Bool)(vs:Nat→Value)(l:List Tk)(h:Ck w b s v i sn vs)(ho:Jf w base v l)(hl:l.length≤400)(hi:i≤l.length)(hw:WfT s l) :
 Calls Tryz.prog 223 #[.pointer (some ⟨b,0,none⟩),.bool d] w fun e w'=>e=.returned (.tuple #[.int .i64 ((Kv s l i d).getD 0),.bool (Kv s l i d).isSome])∧w.grownBy w' (some b)∧Ck w' b s v (if (Kv s l i d).isSome then i+1 else i) sn vs:=by
 have HP:=Ze (Znu w b base s v i sn vs l h ho hl hi hw);have HR:=Ze h;have HD:=Ze (fun hk=>Zsh (i:=i) hw hk);clear h ho hw;by_cases hk:Ix l i=5∧d=true
 ·
  have hn:Kv s l i d=some (-1):=by simp [Kv,hk]
  obtain⟨hk,rfl⟩:=hk;rw [hn];simp only [Option.getD_some,Option.isSome_some,if_true];go_enter Tryz.func223,Tryz.ntmps223
  go_wp2_with fail
  refine(Zb HP).mono ?_;rintro e w1 ⟨rfl,hb1⟩;have h1:=(Zb HR).below hb1;have HB:=Ze hb1;have c2:=h1.nxt;have cf:=h1.frz 2;have H1:=Ze h1;clear hb1 h1;rw [hk];go_wp2;go_ret2;exact⟨rfl,Xr (Ya (Zb HB)) (Up _ _ _ _),(Zb H1).set_next (i+1)⟩
 by_cases hk4:Ix l i=4∧(tAt s l i).size≤3
 ·
  have hn:Kv s l i d=some ((Io (tAt s l i).data.toList:Nat):Int):=by simp [Kv,hk4]
  have hdg:=Zb HD hk4.1;rw [hn];simp only [Option.getD_some,Option.isSome_some,if_true];obtain⟨hk5,hsz⟩:=hk4;rw [hk5] at HP;have HV:=Ze (fun w'=>Zsd (tAt s l i) w' hsz hdg);generalize tAt s l i=tt at *;clear hk hdg;go_enter Tryz.func223,Tryz.ntmps223
  go_wp2_with fail
  refine(Zb HP).mono ?_;rintro e w1 ⟨rfl,hb1⟩;have h1:=(Zb HR).below hb1;have HB:=Ze hb1;have c2:=h1.nxt;have cf:=h1.frz 2;have H1:=Ze h1;clear hb1 h1;go_wp2_with fail
  refine(Zb HV _).mono ?_;rintro e w2 ⟨rfl,hb2⟩;have H2:=Ze (((Zb H1).set_next (i+1)).below hb2);have HB2:=Ze (Xr (Xr (Ya (Zb HB)) (Up _ _ _ _)) (Ya hb2):w.grownBy w2 (some b));clear hb2;go_wp2;go_ret2;exact⟨rfl,Zb HB2,Zb H2⟩
 ·
  have hn:Kv s l i d=none:=by simp [Kv,hk,hk4]
  rw [hn];simp only [Option.getD_none,Option.isSome_none,Bool.false_eq_true,if_false];clear hn HD;generalize Ix l i=kk at *;generalize tAt s l i=tt at *;by_cases k5:kk=5
  ·
   have hd:d=false:=by cases d <;> simp_all
   subst k5 hd;go_enter Tryz.func223,Tryz.ntmps223
   go_wp2_with fail
   refine(Zb HP).mono ?_;rintro e w1 ⟨rfl,hb1⟩;have H1:=Ze ((Zb HR).below hb1);have HB:=Ze hb1;clear hb1;go_wp2;go_ret2;exact⟨rfl,Ya (Zb HB),Zb H1⟩
  ·
   have z5:((kk:Int)==5)=false:=by rw [beq_eq_false_iff_ne]; omega
   by_cases k4:kk=4
   ·
    have hsz:¬ tt.size≤3:=fun h=>hk4 ⟨k4,h⟩;subst k4;go_enter Tryz.func223,Tryz.ntmps223
    go_wp2_with fail
    refine(Zb HP).mono ?_;rintro e w1 ⟨rfl,hb1⟩;have H1:=Ze ((Zb HR).below hb1);have HB:=Ze hb1;clear hb1;go_wp2;go_ret2;exact⟨rfl,Ya (Zb HB),Zb H1⟩
   ·
    have z4:((kk:Int)==4)=false:=by rw [beq_eq_false_iff_ne]; omega
    go_enter Tryz.func223,Tryz.ntmps223
    go_wp2_with fail
    refine(Zb HP).mono ?_;rintro e w1 ⟨rfl,hb1⟩;have H1:=Ze ((Zb HR).below hb1);have HB:=Ze hb1;clear hb1;go_wp2;go_ret2;exact⟨rfl,Ya (Zb HB),Zb H1⟩
theorem Yel (t:ByteArray):t=⟨t.data.toList.toArray⟩:=by cases t; simp
theorem Zwo {j k:Nat}(hj:j<11)(hk:k<11)(h:nm j=nm k):j=k:=by
 have key:∀ a:Fin 11,∀ c:Fin 11,nm a.val=nm c.val→a=c:=by decide
 have:=key ⟨j,hj⟩ ⟨k,hk⟩ h;simpa using this
def Zbn (s:ByteArray)(l:List Tk)(i:Nat)(sn:Nat→Bool)(k:Nat):Prop:=k<11∧nm k=(tAt s l i).data.toList∧sn k=false
theorem Znw (w:World)(b base:Nat)(s:ByteArray)(v:Value)(i:Nat)(sn:Nat→Bool)(vs:Nat→Value)(l:List Tk)(h:Ck w b s v i sn vs)(ho:Jf w base v l)(hl:l.length≤400)(hi:i≤l.length)(hw:WfT s l)(hI:Zkb w)(hbI:1<w.heap.size) :
 Calls Tryz.prog 158 #[.pointer (some ⟨b,0,none⟩)] w fun e w' =>
  (∃ k,Zbn s l i sn k∧e=.returned (.int .i64 k)∧w.grownBy w' (some b)∧Ck w' b s v (i+1) (fun j=>if j=k then true else sn j) vs) ∨
  ((∀ k,¬ Zbn s l i sn k)∧e=.returned (.int .i64 (-1))∧w.grownBy w' (some b)∧Ck w' b s v i sn vs):=by
 have HP:=Ze (Znu w b base s v i sn vs l h ho hl hi hw);have HR:=Ze h;have HI:=Ze hI;clear h ho hw hI;have HN:=Ze (fun k=>show Zbn s l i sn k↔(k<11∧nm k=(tAt s l i).data.toList∧sn k=false) from Iff.rfl);generalize Zbn s l i sn=NO at *;rw [Yel (tAt s l i)] at HP;generalize (tAt s l i).data.toList=tt at *;generalize Ix l i=kk at *;go_enter Tryz.func158,Tryz.ntmps158
 go_wp2_with fail
 refine(Zb HP).mono ?_;rintro e w1 ⟨rfl,hb1⟩;have H1:=Ze ((Zb HR).below hb1);have HI1:=Ze (show Zkb w1 from fun k hk=>⟨(World.cell?_of_block (hb1.block _ hbI)).trans (Zb HI k hk).1,(World.cell?_of_block (hb1.block _ hbI)).trans (Zb HI k hk).2⟩);have HB:=Ze hb1;clear hb1;go_wp2_with fail
 refine(Zkn tt _ (Zb HI1)).mono ?_;rintro e w2 ⟨hw2,hor⟩;subst w2;rcases hor with⟨k,hk,hnk,rfl⟩ | ⟨hno,rfl⟩
 ·
  have cs:=(Zb H1).seen k hk;cases hsn:sn k with
  | true =>
   rw [hsn] at cs;have hno:∀ k',¬ NO k':=fun k' hk'=>by
    obtain⟨a1,a2,a3⟩:=(Zb HN k').1 hk';have:k'=k:=Zwo a1 hk (a2.trans hnk.symm);subst this;rw [hsn] at a3; cases a3
   have HNO:=Ze hno;clear hno;go_wp2;go_ret;exact Or.inr ⟨Zb HNO,rfl,Ya (Zb HB),Zb H1⟩
  | false =>
   rw [hsn] at cs;have hyes:NO k:=(Zb HN k).2 ⟨hk,hnk,hsn⟩;have H2:=Ze ((Zb H1).set_seen k hk);have c2:=(Zb H2).nxt;have cf:=(Zb H1).frz (3+k);have cf2:=(Zb H1).frz 2;go_wp2;go_ret;exact Or.inl ⟨k,hyes,rfl,Xr (Xr (Ya (Zb HB)) (Up _ _ _ _)) (Up _ _ _ _),(Zb H2).set_next (i+1)⟩
 ·
  have hno':∀ k',¬ NO k':=fun k' hk'=>hno k' ((Zb HN k').1 hk').1 ((Zb HN k').1 hk').2.1;have HNO:=Ze hno';clear hno hno';go_wp2;go_ret;exact Or.inr ⟨Zb HNO,rfl,Ya (Zb HB),Zb H1⟩
end Go.Proofs.YtedemloocadimaaGreatDoor
