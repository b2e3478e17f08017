import Derived.Test.YtkenknfgeoecbaaGreatDoorJ5
namespace Go.Proofs.YtkenknfgeoecbaaGreatDoor
open Go.RowKit
theorem Zwk (p q:Nat->Bool)(i:Nat):∀ l:List Nat,i ∈ l->(∀ j,q j=true->p j=true)->p i=true->q i=false->l.countP q<l.countP p
 | [],hi,_,_,_=>by cases hi
 | x :: r,hi,hpq,hp,hq=>by
  have hm:r.countP q<=r.countP p:=List.countP_mono_left (fun j _ h=>hpq j h);by_cases hx:x=i
  ·subst hx; simp [hp,hq]; omega
  ·have hi':i ∈ r:=(List.mem_cons.1 hi).resolve_left (fun e=>hx e.symm);have ih:=Zwk p q i r hi' hpq hp hq;cases hqx:q x with
   | false=>simp [List.countP_cons,hqx]; omega
   | true=>simp [hqx,hpq x hqx]; omega
def unl (n:Nat)(L:Array Bool):Nat:=(List.range n).countP fun j=>!L.getD j true
theorem Zay {P:Program}{md:Region.Mode}{ops:Array Oper}{Q:Exit->Act->World->Prop}(I:Array Bool->Act->World->Prop)
 (step:∀ L a w i,I L a w->i ∈ Region.ready md ops L->wpOp P ops Q i (fun a' w'=>I (L.setIfInBounds i true) a' w') a w)
 (fin:∀ L a w,I L a w->Region.ready md ops L=[]->Q .normal a w) :
 ∀(fuel:Nat) (L:Array Bool) (a:Act) (w:World),unl ops.size L<=fuel->I L a w->wpAny P md ops Q fuel L a w
 | 0,L,a,w,h,hI=>by
  have hr:Region.ready md ops L=[]:=by
   apply List.eq_nil_iff_forall_not_mem.2
   intro i hi;have h1:=(mem_ready.1 hi).1;have hlt:i<ops.size:=by obtain⟨_,o,ho,_⟩:=mem_ready.1 hi;exact(Array.getElem?_eq_some_iff.1 ho).1
   have h0:unl ops.size L=0:=by omega
   unfold unl at h0;have:=List.countP_eq_zero.1 h0 i (List.mem_range.2 hlt);rw [h1] at this;simp at this
  exact⟨hr,fin L a w hI hr⟩
 | fuel+1,L,a,w,h,hI=>by
  refine⟨fin L a w hI,fun i hi=>wpOp_mono (fun a' w' h'=>Zay I step fin fuel _ a' w' ?_ h') (step L a w i hI hi)⟩;have h1:=(mem_ready.1 hi).1;have hlt:i<ops.size:=by obtain⟨_,o,ho,_⟩:=mem_ready.1 hi;exact(Array.getElem?_eq_some_iff.1 ho).1
  have hLs:i<L.size:=by
   rcases Nat.lt_or_ge i L.size with h' | h'
   ·exact h'
   ·simp [Array.getElem?_eq_none h'] at h1
  have:=Zwk (fun j=>!L.getD j true) (fun j=>!(L.setIfInBounds i true).getD j true) i (List.range ops.size) (List.mem_range.2 hlt)
   (fun j hj=>by
    by_cases hji:i=j
    ·subst hji; simp [hLs] at hj
    ·simpa [Array.getElem?_setIfInBounds,hji] using hj)
   (by simp only [h1]; rfl) (by simp [hLs])
  unfold unl at h ⊢;omega
theorem Cf (a:Act)(d:Nat)(v:Value)(h:d<a.tmps.size):(a.put (some d) v).eval (.tmp d)=v:=by simp [Act.put,Act.eval,h]
theorem Nq (a:Act)(d t:Nat)(v:Value)(h:d≠t):(a.put (some d) v).eval (.tmp t)=a.eval (.tmp t):=by simp [Act.put,Act.eval,h]
theorem Ya {P:Program}{o:Oper}{a:Act}{w w':World}{v:Value}{Q:Exit->Act->World->Prop}{F:Value->World->Prop}(h:(execOp a.eval o).run P w=.ok (.value v) w')(hF:F v w'):o.wp P a w (fun a' w'=>∃ v,a'=a.put o.dst v∧F v w') Q:=by unfold Oper.wp;rw [h];exact⟨v,rfl,hF⟩
theorem Yff {P:Program}{o:Oper}{a:Act}{w w':World}{Q:Exit->Act->World->Prop}{F:Value->World->Prop}(h:(execOp a.eval o).run P w=.ok .skip w')(hF:F undef w'):o.wp P a w (fun a' w'=>∃ v,a'=a.put o.dst v∧F v w') Q:=by unfold Oper.wp;rw [h];exact⟨undef,rfl,hF⟩
theorem Zhp {P:Program}{o:Oper}{a:Act}{w w1:World}{f:FuncId}{args:Array Value}{Q:Exit->Act->World->Prop}{F:Value->World->Prop}(h:(execOp a.eval o).run P w=.ok (.enter f args) w1)(hF:Calls P f args w1 fun e w'=>∃ v,e=.returned v∧F v w'):o.wp P a w (fun a' w'=>∃ v,a'=a.put o.dst v∧F v w') Q:=by unfold Oper.wp;rw [h];refine hF.mono ?_;rintro e w' ⟨v,rfl,hv⟩;exact⟨v,rfl,hv⟩
theorem Zwr {P:Program}{ops:Array Oper}{Q:Exit->Act->World->Prop}{id:Nat}(hm:P.follows .mixedOrders=true)(base:Nat)(a0:Act)(Ok:Nat->Value->World->Prop)(S:World->Prop)(R:World->World->Prop)
 (hd:∀(i:Nat) (o:Oper),ops[i]?=some o->(o.dst=some (base+i)∨o.dst=none)∧o.guard=none)
 (hsz:∀(i:Nat) (o:Oper),ops[i]?=some o->o.dst=some (base+i)->base+i<a0.tmps.size)
 (hle:∀(i:Nat) (o:Oper),ops[i]?=some o->∀ e ∈ o.after,e.on<i)
 (stab:∀ i v w w',Ok i v w->R w w'->Ok i v w')
 (stabS:∀ w w',S w->R w w'->S w')
 (step:∀(i:Nat) (o:Oper),ops[i]?=some o->∀(a:Act) (w:World),S w->(∀ t,t<base->a.eval (.tmp t)=a0.eval (.tmp t))->(∀ e ∈ o.after,Region.binds .any e=true->(∃ o',ops[e.on]?=some o'∧o'.dst=some (base+e.on))->Ok e.on (a.eval (.tmp (base+e.on))) w) ->
  o.wp P a w (fun a' w'=>∃ v,a'=a.put o.dst v∧R w w'∧Ok i v w') Q)
 (fin:∀(a:Act) (w:World),S w->a.defers=a0.defers->a.tmps.size=a0.tmps.size->(∀ t,t<base∨base+ops.size<=t->a.eval (.tmp t)=a0.eval (.tmp t))->(∀(i:Nat) (o:Oper),ops[i]?=some o->o.dst=some (base+i)->Ok i (a.eval (.tmp (base+i))) w)->(∀(i:Nat) (o:Oper),ops[i]?=some o->o.dst=none->a.eval (.tmp (base+i))=a0.eval (.tmp (base+i))∧∃ v,Ok i v w)->Q .normal a w)
 {w:World} (hS:S w.drew):(Code.region id ops true).wp P Q a0 w:=by
 refine wp_region_any hm (Zay (fun L a w=>S w∧L.size=ops.size∧a.defers=a0.defers∧a.tmps.size=a0.tmps.size∧(∀ t,t<base∨base+ops.size<=t->a.eval (.tmp t)=a0.eval (.tmp t))∧(∀ i,i<ops.size->L.getD i true=true->∀ o,ops[i]?=some o->o.dst=some (base+i)->Ok i (a.eval (.tmp (base+i))) w)∧(∀(i:Nat) (o:Oper),ops[i]?=some o->o.dst=none->a.eval (.tmp (base+i))=a0.eval (.tmp (base+i))∧(L.getD i true=true->∃ v,Ok i v w))) ?_ ?_ _ _ _ _ ?_ ?_)
 ·rintro L a w i ⟨h1,h2,h3,h4,h5,h6,h7⟩ hi;obtain⟨hl,o,ho,hdeps⟩:=mem_ready.1 hi;have hlt:i<ops.size:=(Array.getElem?_eq_some_iff.1 ho).1;obtain⟨hdst,hgd⟩:=hd i o ho;have hwp:=step i o ho a w h1 (fun t ht=>h5 t (Or.inl ht)) (fun e he hb hh=>by
   obtain⟨o',ho',hdo⟩:=hh;have hel:L.getD e.on true=true:=by
    have:=hdeps e he hb;have hes:e.on<L.size:=by have:=hle i o ho e he; omega
    simpa [hes] using this
   exact h6 e.on (Nat.lt_trans (hle i o ho e he) hlt) hel o' ho' hdo)
  unfold wpOp;simp only [ho];rw [if_pos (by unfold Region.wanted; rw [hgd])];refine Or.inl ?_;refine Oper.wp_mono ?_ hwp;rintro a' w' ⟨v,rfl,hbl,hok⟩;have key:(fun a' w'=>S w'∧(L.setIfInBounds i true).size=ops.size∧a'.defers=a0.defers∧a'.tmps.size=a0.tmps.size∧(∀ t,t<base∨base+ops.size<=t->a'.eval (.tmp t)=a0.eval (.tmp t))∧(∀ j,j<ops.size->(L.setIfInBounds i true).getD j true=true->∀ o,ops[j]?=some o->o.dst=some (base+j)->Ok j (a'.eval (.tmp (base+j))) w')∧(∀(j:Nat) (o:Oper),ops[j]?=some o->o.dst=none->a'.eval (.tmp (base+j))=a0.eval (.tmp (base+j))∧((L.setIfInBounds i true).getD j true=true->∃ v,Ok j v w'))) (a.put o.dst v) w':=by
   rcases hdst with hdst | hdst
   ·simp only [hdst];refine⟨stabS _ _ h1 hbl,by simpa using h2,by simpa [Act.put] using h3,by simpa [Act.put] using h4,fun t ht=>?_,fun j hj hlj o' ho' hdo=>?_,fun j o' ho' hdo=>?_⟩
    ·rw [Nq _ _ _ _ (by omega)]; exact h5 t ht
    ·by_cases hji:j=i
     ·subst hji; rw [Cf _ _ _ (by have:=hsz j o' ho' hdo; omega)]; exact hok
     ·rw [Nq _ _ _ _ (by omega)];exact stab _ _ _ _ (h6 j hj (by simpa [Array.getElem?_setIfInBounds,Ne.symm hji] using hlj) o' ho' hdo) hbl
    ·have hji:¬ j=i:=fun e=>by subst e; rw [ho'] at ho; injection ho with ho; subst ho; rw [hdo] at hdst; cases hdst
     rw [Nq a (base+i) (base+j) v (by omega)];refine⟨(h7 j o' ho' hdo).1,fun hlj=>?_⟩;obtain⟨v',hv'⟩:=(h7 j o' ho' hdo).2 (by simpa [Array.getElem?_setIfInBounds,Ne.symm hji] using hlj);exact⟨v',stab _ _ _ _ hv' hbl⟩
   ·simp only [hdst,Act.put];refine⟨stabS _ _ h1 hbl,by simpa using h2,h3,h4,h5,fun j hj hlj o' ho' hdo=>?_,fun j o' ho' hdo=>⟨(h7 j o' ho' hdo).1,fun hlj=>?_⟩⟩
    ·have hji:¬ j=i:=fun e=>by subst e; rw [ho'] at ho; injection ho with ho; subst ho; rw [hdo] at hdst; cases hdst
     exact stab _ _ _ _ (h6 j hj (by simpa [Array.getElem?_setIfInBounds,Ne.symm hji] using hlj) o' ho' hdo) hbl
    ·by_cases hji:j=i
     ·subst hji; exact⟨v,hok⟩
     ·obtain⟨v',hv'⟩:=(h7 j o' ho' hdo).2 (by simpa [Array.getElem?_setIfInBounds,Ne.symm hji] using hlj);exact⟨v',stab _ _ _ _ hv' hbl⟩
  exact key
 ·rintro L a w ⟨h1,h2,h3,h4,h5,h6,h7⟩ hr;have all:∀ n j,j<n->j<ops.size->L.getD j true=true:=by
   intro n;induction n with
   | zero=>intro j hj; omega
   | succ n ih =>
    intro j hj hjs;cases hlj:L.getD j true with
    | true=>rfl
    | false =>
     exfalso
     have ho:ops[j]?=some ops[j]:=Array.getElem?_eq_getElem hjs;have:j ∈ Region.ready .any ops L:=mem_ready.2 ⟨hlj,ops[j],ho,fun e he _=>by
      have hlt:=hle j _ ho e he;have:=ih e.on (by omega) (by omega);have hes:e.on<L.size:=by omega
      simpa [hes] using this⟩
     rw [hr] at this;cases this
  exact fin a w h1 h3 h4 h5 (fun i o ho hdo=>h6 i (Array.getElem?_eq_some_iff.1 ho).1 (all (i+1) i (by omega) (Array.getElem?_eq_some_iff.1 ho).1) o ho hdo) (fun i o ho hdo=>⟨(h7 i o ho hdo).1,(h7 i o ho hdo).2 (all (i+1) i (by omega) (Array.getElem?_eq_some_iff.1 ho).1)⟩)
 ·unfold unl;exact Nat.le_trans List.countP_le_length (by simp)
 ·exact⟨hS,by simp,rfl,rfl,fun _ _=>rfl,fun i hi h=>by simp [hi] at h,fun i o ho _=>⟨rfl,fun h=>by simp [(Array.getElem?_eq_some_iff.1 ho).1] at h⟩⟩
theorem Ybs (a a0:Act)(base:Nat)(vs:List Value)(hd:a.defers=a0.defers)(hs:a.tmps.size=a0.tmps.size)(hb:base+vs.length<=a0.tmps.size)
 (hout:∀ t,t<base∨base+vs.length<=t->a.eval (.tmp t)=a0.eval (.tmp t)) (hin:∀ i,i<vs.length->a.eval (.tmp (base+i))=vs.getD i undef) :
 a=⟨(a0.tmps.toList.take base++(vs++a0.tmps.toList.drop (base+vs.length))).toArray,a0.defers⟩:=by
 obtain⟨ts,df⟩:=a;simp only at hd hs;subst hd;congr 1
 apply Array.ext
 ·simp; omega
 ·intro t h1 h2;have hmin:min base a0.tmps.size=base:=by omega
  have e0:ts[t]=(⟨ts,a0.defers⟩:Act).eval (.tmp t):=by simp [Act.eval,h1]
  rw [e0];by_cases c1:t<base
  ·rw [hout t (Or.inl c1)];simp [Act.eval,hmin,c1,show t<a0.tmps.size by omega]
  ·by_cases c2:t<base+vs.length
   ·have:=hin (t-base) (by omega);rw [show base+(t-base)=t by omega] at this;rw [this];simp [List.getElem_append,c1,hmin,show t-base<vs.length by omega,List.getD]
   ·rw [hout t (Or.inr (by omega))];simp [Act.eval,List.getElem_append,c1,hmin,show ¬ t-base<vs.length by omega,show t<a0.tmps.size by omega];congr 1
    omega
theorem Zrx {P:Program}(w:World)(T:Nat)(t:TypeId)(cs arr:Array Value)(hsz:(sizeOf t).run P w=.ok arr.size w)(hc:cs.size=arr.size)(h:w.heap[T]?=some (.cells cs t (0,0)))(h1:∀ v ∈ arr.toList,v.oneCell'=true) :
 (Instr.storeAt t (.pointer (some ⟨T,0,none⟩)) (.agg arr)).run P w=.ok () (w.setRow T arr):=by
 have key:=run_storeCells_at (P:=P) T 0 t arr.toList 0 cs w h (by simp [hc]) h1;have e1:cs.toList.drop (0+0+arr.toList.length)=[]:=List.drop_of_length_le (by simp [hc]);rw [e1] at key;simp only [Nat.add_zero,List.take_zero,List.nil_append,List.append_nil,Array.toArray_toList] at key;have e2:(Instr.storeAt t (.pointer (some ⟨T,0,none⟩)) (.agg arr))=storeVar t ⟨T,0,none⟩ (.agg arr):=rfl;rw [e2];unfold storeVar;rw [Sem.run_bind,hsz];simp only [Result.andThen_ok,Value.cells,ne_eq,not_true_eq_false,if_false];exact key
set_option maxHeartbeats 1000000
set_option maxRecDepth 100000
theorem Zpk {α:Type}:∀(l:List α),l=[]∨∃ l0 t,l=l0++[t]
 | []=>Or.inl rfl
 | a :: r=>Or.inr ⟨(a :: r).dropLast,(a :: r).getLast (by simp),(List.dropLast_concat_getLast (by simp)).symm⟩
theorem Zru (base:Nat)(l:List Tk)(v:Value)(k p:Nat)(w:World)(h:Yu w base v l)(hl:l.length<=400)(hp:p<=400)(hb:base<=w.heap.size)(hk:3<=k∧k<=6) :
 Calls Tryz.prog 109 #[v,.int .i64 k,.int .i64 p] w fun e w'=>∃ v',e=.returned v'∧Yu w' base v' (Kd l k p)∧Below base w w':=by
 by_cases h56:k=5∨k=6
 ·have hs:∃ a cap,v=.slice a l.length cap:=by
   rcases h.shape with⟨e,rfl⟩ | ⟨g,cap,rfl⟩
   ·subst e; exact⟨_,_,rfl⟩
   ·exact⟨_,_,rfl⟩
  obtain⟨a,cap,rfl⟩:=hs;have e:Kd l k p=l++[⟨k,p,p+1⟩]:=Zkr l k p (fun t _ h3=>by omega);rw [e];rcases h56 with rfl | rfl
  ·exact Zhn base _ cap p a l w h rfl (by omega) hp hb
  ·exact Zho base _ cap p a l w h rfl (by omega) hp hb
 have h34:k=3∨k=4:=by omega
 rcases Zpk l with rfl | ⟨l0,t,rfl⟩
 ·have hs:∃ a cap,v=.slice a 0 cap:=by
   rcases h.shape with⟨e,rfl⟩ | ⟨g,cap,rfl⟩
   ·exact⟨_,_,rfl⟩
   ·exact⟨_,_,rfl⟩
  obtain⟨a,cap,rfl⟩:=hs;rcases h34 with rfl | rfl
  ·exact Zhl base a cap p w h hp hb
  ·exact Zhm base a cap p w h hp hb
 ·obtain⟨g,cap,rfl⟩:∃ g cap,v=.slice (some ⟨g,0,none⟩) (l0.length+1) cap:=by
   rcases h.shape with⟨e,_⟩ | ⟨g,cap,e⟩
   ·simp at e
   ·exact⟨g,cap,by simpa using e⟩
  have hl0:l0.length<=400:=by simp at hl; omega
  by_cases c1:t.k=k
  ·by_cases c2:t.e=p
   ·have e:Kd (l0++[t]) k p=l0++[⟨t.k,t.a,p+1⟩]:=by simp [Kd,c1,c2,h34]
    rw [e];rcases h34 with rfl | rfl
    ·exact Zkf base g cap p l0 t w h hl0 hp hb c1 c2
    ·exact Zkg base g cap p l0 t w h hl0 hp hb c1 c2
   ·have e:Kd (l0++[t]) k p=l0++[t]++[⟨k,p,p+1⟩]:=by simp [Kd,c2]
    rw [e];rcases h34 with rfl | rfl
    ·exact Znb base g cap p l0 t w h hl0 hp hb c1 (by omega)
    ·exact Znd base g cap p l0 t w h hl0 hp hb c1 (by omega)
  ·have e:Kd (l0++[t]) k p=l0++[t]++[⟨k,p,p+1⟩]:=by simp [Kd,c1]
   rw [e];rcases h34 with rfl | rfl
   ·exact Zna base g cap p l0 t w h hl0 hp hb (by omega)
   ·exact Znc base g cap p l0 t w h hl0 hp hb (by omega)
theorem Zkh (l:List Tk)(k p:Nat):(Kd l k p).length<=l.length+1:=by
 unfold Kd;split
 ·split
  ·simp
  ·simp
 ·simp
theorem Zwm (s:ByteArray)(i:Nat)(h:s.size<=i):s.get! i=0:=by obtain⟨d⟩:=s;have h':d.size<=i:=h;simp [ByteArray.get!,show ¬ i<d.size by omega];rfl
theorem Zki (s:ByteArray)(p k:Nat)(hp:p<=s.size):(s.extract p s.size).get! k=s.get! (p+k):=by
 by_cases h:p+k<s.size
 ·rw [Utf8W.get!_of_lt _ _ (by simp; omega),Utf8W.get!_of_lt _ _ h];simp [ByteArray.getElem_extract]
 ·have h1:¬ k<(s.extract p s.size).size:=by simp; omega
  have e1:=Zwm (s.extract p s.size) k (by omega);have e2:=Zwm s (p+k) (by omega);rw [e1,e2]
theorem Zkj (s:ByteArray)(p:Nat)(hp:p<s.size):Lib.decodeGo (s.extract p s.size)=Utf8.decode s p:=by unfold Lib.decodeGo;rw [if_neg (by simp; omega),Lib.decode_at,Lib.decode_at];simp only [Zki s p _ (by omega)];simp
theorem Zwn (s:ByteArray)(w:World)(hs:0<s.size)(hT:Lib.Utf8Tabs 3 4 w) :
 Calls Tryz.prog 157 #[.string s] w fun e w'=>e=.returned (.tuple #[.int .i32 (Lib.decodeGo s).1,.int .i64 (Lib.decodeGo s).2])∧Below w.heap.size w w':=by
 have HC:=Ze (Tryz.utf8_decodeRuneInStringSlow s w hT);clear hT;have hne:s.toList.isEmpty=false:=by
  rw [Lib.toList_data];cases h:s.data.toList with
  | nil=>exact absurd hs (by rw [Lib.size_eq,h]; simp)
  | cons _ _=>rfl
 obtain⟨x0,hx0⟩:∃ x0,s.get! 0=x0:=⟨_,rfl⟩;have hs0:s[0]'hs=x0:=by rw [← hx0]; exact(Utf8W.get!_of_lt s 0 hs).symm
 have hz0:(0:Int)<(s.size:Int):=by omega
 by_cases ha:x0.toNat<128
 ·have hd:Lib.decodeGo s=(x0.toNat,1):=by simp only [Lib.decodeGo,show s.size≠0 by omega,if_false];rw [Lib.decode_at,hx0];simp [Lib.decodeN,ha]
  rw [hd];clear HC;have haz:(x0.toNat:Int)<128:=by omega
  go_enter Tryz.func157,Tryz.ntmps157
  go_wp2;go_ret2;exact⟨rfl,Below.refl _ _⟩
 ·have haz:¬ ((x0.toNat:Int)<128):=by omega
  generalize (Lib.decodeGo s).1=R at HC;generalize (Lib.decodeGo s).2=K at HC;go_enter Tryz.func157,Tryz.ntmps157
  go_wp2_with fail
  refine(Zb HC).mono ?_;rintro e w' ⟨rfl,hb⟩;have HB:=Ze hb;clear hb;go_wp2;go_ret2;exact⟨rfl,Zb HB⟩
theorem Zne (s:ByteArray)(r:Nat)(w:World)(hs:0<s.size)(hT:Lib.Utf8Tabs 3 4 w) :
 Calls Tryz.prog 107 #[.string s,.int .i32 r] w fun e w'=>e=.returned (.bool (decide (r=65533∧(Lib.decodeGo s).2=1)))∧Below w.heap.size w w':=by
 by_cases h:r=65533
 ·have HC:=Ze (Zwn s w hs hT);clear hT;subst h;go_enter Tryz.func107,Tryz.ntmps107
  go_wp2_with fail
  refine(Zb HC).mono ?_;rintro e w' ⟨rfl,hb⟩;have HB:=Ze hb;clear hb;go_wp2;go_ret;refine⟨?_,Zb HB⟩;simp
  first | done | omega | (rw [Bool.eq_iff_iff]; simp; omega)
 ·have h':(r:Int)≠65533:=by omega
  go_enter Tryz.func107,Tryz.ntmps107
  go_wp2;go_ret;exact⟨by simp [h],Below.refl _ _⟩
set_option maxHeartbeats 4000000
set_option maxRecDepth 100000
def U8 (w:World):Prop:=Lib.Utf8Tabs 3 4 w
theorem U8.lt {w:World}(h:U8 w):3<w.heap.size∧4<w.heap.size :=
 ⟨World.block_lt_of_cell? w _ (h.1 0 (by decide)),World.block_lt_of_cell? w _ (h.2 0 (by decide)).1⟩
theorem U8.below {w w':World}{B:Nat}(h:U8 w)(hb:Below B w w')(hB:3<B∧4<B):U8 w' :=
 ⟨fun c hc=>(World.cell?_of_block (hb.block _ hB.1)).trans (h.1 c hc),fun i hi=>⟨(World.cell?_of_block (hb.block _ hB.2)).trans (h.2 i hi).1,(World.cell?_of_block (hb.block _ hB.2)).trans (h.2 i hi).2⟩⟩
theorem Yfd (s:ByteArray)(p:Nat):(Utf8.decode s p).1<2147483648:=by
 rw [Lib.decode_at];have:=(s.get! p).toNat_lt;unfold Lib.decodeN;repeat' split
 all_goals first | omega | (simp; omega) | simp
theorem Yu.mono {w:World}{b c:Nat}{v:Value}{l:List Tk}(h:Yu w b v l)(hc:c<=b):Yu w c v l:=by
 refine⟨h.1,?_⟩;rcases h.2 with h' | ⟨g,cap,cur,h1,h2,h3⟩
 ·exact Or.inl h'
 ·exact Or.inr ⟨g,cap,cur,h1,by omega,h3⟩
theorem Yu.below {w w':World}{b:Nat}{v:Value}{l:List Tk}(h:Yu w b v l)(hb:Below w.heap.size w w'):Yu w' b v l:=by
 refine⟨h.1,?_⟩;rcases h.2 with h' | ⟨g,cap,cur,h1,h2,h3,h4⟩
 ·exact Or.inl h'
 ·refine Or.inr ⟨g,cap,cur,h1,h2,?_,h4⟩;have hg:g<w.heap.size:=by
   rcases Nat.lt_or_ge g w.heap.size with x | x
   ·exact x
   ·simp [Array.getElem?_eq_none x] at h3
  rw [hb.block g hg]; exact h3
structure Zwo (s:ByteArray)(w wr:World)(v:Value)(c:Bool)(pos f:Nat)(l:List Tk):Prop where
 it:wr.heap[w.heap.size]?=some (.stringIter s pos)
 own:Yu wr (w.heap.size+1) v l
 low:Below w.heap.size w wr
 eq:Lp s f pos c l=Lp s s.size 0 false []
 fuel:s.size<=pos+f
 len:l.length<=pos
theorem Zwo.lt {s:ByteArray}{w wr:World}{v:Value}{c:Bool}{pos f:Nat}{l:List Tk}(h:Zwo s w wr v c pos f l):w.heap.size<wr.heap.size:=(Array.getElem?_eq_some_iff.1 h.it).1
theorem Zwo.step {s:ByteArray}{w wr:World}{v:Value}{c:Bool}{pos f:Nat}{l:List Tk}(h:Zwo s w wr v c pos f l)(q:Nat) :
 (wr.iterAt w.heap.size s q).heap[w.heap.size]?=some (.stringIter s q)∧Yu (wr.iterAt w.heap.size s q) (w.heap.size+1) v l∧Below w.heap.size w (wr.iterAt w.heap.size s q)∧(wr.iterAt w.heap.size s q).heap.size=wr.heap.size :=
 ⟨Lib.iterAt_heap _ _ _ _ _ h.it,ownsRow_iterAt h.own (by omega) _ _,Lib.below_iterAt h.low (Nat.le_refl _) _ _,Lib.iterAt_size _ _ _ _⟩
def Yih (s:ByteArray)(w:World)(e:Ending)(w':World):Prop :=
 ∃ v r,e=.returned (.tuple #[v,.int .i64 r])∧Below w.heap.size w w'∧(match Lp s s.size 0 false [] with | .inl p=>r=p | .inr l=>r=-1∧Yu w' w.heap.size v l)
theorem Zkk (r:Nat):Jd r<=6:=by
 unfold Jd;repeat' split
 all_goals omega
theorem Ybm {s:ByteArray}{f p r n:Nat}{l:List Tk}(hp:p<s.size)(hd:Utf8.decode s p=(r,n))(hk:Jd r=0):Lp s (f+1) p false l=.inl p:=by simp [Lp,hp,hd,hk]
theorem Ybn {s:ByteArray}{f p r n:Nat}{l:List Tk}(hp:p<s.size)(hd:Utf8.decode s p=(r,n))(hk:Jd r=1):Lp s (f+1) p false l=Lp s f (p+n) false l:=by simp [Lp,hp,hd,hk]
theorem Ybo {s:ByteArray}{f p r n:Nat}{l:List Tk}(hp:p<s.size)(hd:Utf8.decode s p=(r,n))(hk:Jd r=2):Lp s (f+1) p false l=Lp s f (p+n) true l:=by simp [Lp,hp,hd,hk]
theorem Ybp {s:ByteArray}{f p r n:Nat}{l:List Tk}(k:Nat)(hp:p<s.size)(hd:Utf8.decode s p=(r,n))(hk:Jd r=k)(h3:3<=k):Lp s (f+1) p false l=Lp s f (p+n) false (Kd l k p):=by simp only [Lp,hp,hd,hk,if_true];rw [if_neg (by decide),if_neg (by omega),if_neg (by omega),if_neg (by omega)]
theorem Ybq {s:ByteArray}{f p r n:Nat}{l:List Tk}(hp:p<s.size)(hd:Utf8.decode s p=(r,n))(hk:r=65533∧n=1):Lp s (f+1) p true l=.inl p:=by simp [Lp,hp,hd,hk]
theorem Ybr {s:ByteArray}{f p r n:Nat}{l:List Tk}(hp:p<s.size)(hd:Utf8.decode s p=(r,n))(hk:¬ (r=65533∧n=1)):Lp s (f+1) p true l=Lp s f (p+n) (decide (r≠10)) l:=by simp [Lp,hp,hd,hk]
theorem Yhj (s:ByteArray)(w:World)(hs:s.size<=400)(hT:U8 w):Calls Tryz.prog 67 #[.string s] w (Yih s w):=by
 have HT:=Ze hT;clear hT;go_enter Tryz.func67,Tryz.ntmps67
 go_wp2_with fail
 go_loopw [4,5] (fun v c wr=>∃(cc:Bool) (pos f:Nat) (l:List Tk),c=.bool cc∧Zwo s w wr v cc pos f l) (fun _ _ wr=>s.size-wr.iterPos w.heap.size)
 case atStart=>exact⟨false,0,s.size,[],rfl,⟨heap_alloc_new w _,World.ownsRow_nil _ _ _ _,(Below.refl _ _).alloc (Nat.le_refl _) _,rfl,by omega,by simp⟩⟩
 case round =>
  obtain⟨cc,pos,f,l,rfl,hI⟩:=hrel;have hit:=hI.it;by_cases hp:pos<s.size
  ·obtain⟨r,n,hd⟩:∃ r n,Utf8.decode s pos=(r,n):=⟨_,_,rfl⟩;have hn1:1<=n:=by have:=Zpo s pos; rw [hd] at this; exact this
   have hr:=Yfd s pos;rw [hd] at hr;have hnx:∀ ty,(Instr.next (.pointer (some ⟨w.heap.size,0,none⟩)) true ty).run Tryz.prog _=.ok (.tuple #[.bool true,.int .i64 pos,.int .i32 r]) _:=fun ty=>by have:=Lib.run_next_any_at (P:=Tryz.prog) _ w.heap.size s pos ty hit hp; rw [hd] at this; exact this
   obtain⟨g1,g2,g3,g4⟩:=hI.step (pos+n);have hm:=iterPos_of hit;have hm2:=iterPos_of g1;have hU:=(Zb HT).below g3 (Zb HT).lt;have hlt:=hI.lt;obtain⟨f,rfl⟩:∃ f',f=f'+1:=⟨f-1,by have:=hI.fuel; omega⟩;have HI:=Ze hI;have hlen:=hI.len;have G1:=Ze g1;have G2:=Ze g2;have G3:=Ze g3;clear hI g1 g2 g3 hit;cases cc with
   | true =>
    have HC:=Ze (Zne (s.extract pos s.size) r _ (by simp; omega) hU);rw [Zkj s pos hp,hd] at HC;clear hU;go_wp2_with fail
    refine(Zb HC).mono ?_;rintro e w1 ⟨rfl,hb1⟩;have k1:=(hb1.block w.heap.size (by rw [g4]; exact hlt)).trans (Zb G1);have K2:=Ze ((Zb G2).below hb1);have K3:=Ze ((Zb G3).trans (hb1.mono (by rw [g4]; omega)));have hm3:=iterPos_of k1;have K1:=Ze k1;clear hb1 HC k1;by_cases hbk:r=65533∧n=1
    ·have hE:=(Ybq (f:=f) (l:=l) hp hd hbk).symm.trans (Zb HI).eq;simp only [hbk,and_self,decide_true];go_wp2;go_ret2;exact⟨_,_,rfl,Zb K3,by rw [← hE]⟩
    ·have hE:=(Ybr (f:=f) (l:=l) hp hd hbk).symm.trans (Zb HI).eq;simp only [hbk,decide_false];go_wp2;go_roundw
     case rel=>exact⟨decide (r≠10),pos+n,f,l,by rw [Value.bool.injEq,Bool.eq_iff_iff]; simp; try omega,⟨Zb K1,Zb K2,Zb K3,hE,by have:=(Zb HI).fuel; omega,by omega⟩⟩
     case measure=>omega
   | false =>
    have HC:=Ze (Zwp r (wr.iterAt w.heap.size s (pos+n)) hr);have h6:=Zkk r;clear hU;go_wp2_with fail
    refine(Zb HC).mono ?_;rintro e w1 ⟨rfl,rfl⟩;clear HC;have hcs:Jd r=0∨Jd r=1∨Jd r=2∨3<=Jd r:=by omega
    rcases hcs with hk | hk | hk | hk
    ·have hE:=(Ybm (f:=f) (l:=l) hp hd hk).symm.trans (Zb HI).eq;rw [hk];clear hk;go_wp2;go_ret2;exact⟨_,_,rfl,Zb G3,by rw [← hE]⟩
    ·have hE:=(Ybn (f:=f) (l:=l) hp hd hk).symm.trans (Zb HI).eq;rw [hk];clear hk;go_wp2;go_roundw
     case rel=>exact⟨false,pos+n,f,l,rfl,⟨Zb G1,Zb G2,Zb G3,hE,by have:=(Zb HI).fuel; omega,by omega⟩⟩
     case measure=>omega
    ·have hE:=(Ybo (f:=f) (l:=l) hp hd hk).symm.trans (Zb HI).eq;rw [hk];clear hk;go_wp2;go_roundw
     case rel=>exact⟨true,pos+n,f,l,rfl,⟨Zb G1,Zb G2,Zb G3,hE,by have:=(Zb HI).fuel; omega,by omega⟩⟩
     case measure=>omega
    ·have hE:=(Ybp (f:=f) (l:=l) (Jd r) hp hd rfl hk).symm.trans (Zb HI).eq;have hl2:=Zkh l (Jd r) pos;have HA:=Ze (Zru (w.heap.size+1) l u4 (Jd r) pos _ (Zb G2) (by omega) (by omega) (by rw [g4]; omega) ⟨hk,h6⟩);generalize Jd r=kk at *;have hcs:kk=3∨kk=4∨kk=5∨kk=6:=by omega
     rcases hcs with rfl | rfl | rfl | rfl;all_goals
      go_wp2_with fail
      refine(Zb HA).mono ?_;rintro e w1 ⟨v',rfl,hO,hb1⟩;have k1:=(hb1.block w.heap.size (by omega)).trans (Zb G1);have K3:=Ze ((Zb G3).trans (hb1.mono (by omega)));have K2:=Ze hO;have hm3:=iterPos_of k1;have K1:=Ze k1;clear hb1 HA k1 hO;go_wp2;go_roundw
      case rel=>exact⟨false,pos+n,f,_,rfl,⟨Zb K1,Zb K2,Zb K3,hE,by have:=(Zb HI).fuel; omega,by omega⟩⟩
      case measure=>omega
  ·have hnx:∀ ty,(Instr.next (.pointer (some ⟨w.heap.size,0,none⟩)) true ty).run Tryz.prog _=_:=fun ty=>Lib.run_next_end_at _ w.heap.size s pos ty hit hp;have HI:=Ze hI;clear hI;go_wp2;go_ret2;have h:=Zb HI;have e:=h.eq;rw [Zwx s f pos cc l hp] at e;exact⟨_,_,rfl,h.low,by rw [← e]; exact⟨rfl,h.own.mono (by omega)⟩⟩
set_option maxHeartbeats 2000000
set_option maxRecDepth 100000
def Zby (l:List UInt8):Nat:=l.foldl (fun v b=>10*v+(b.toNat-48)) 0
theorem Zgc (l:List UInt8)(b:UInt8):Zby (l++[b])=10*Zby l+(b.toNat-48):=by simp [Zby]
theorem Zpm:∀(n:Nat) (l:List UInt8),l.length=n->(∀ b ∈ l,48<=b.toNat∧b.toNat<=57)->Zby l<10 ^ n
 | 0,l,h,_=>by
  have:l=[]:=List.eq_nil_of_length_eq_zero h;subst this; decide
 | n+1,l,h,hb=>by
  rcases Zpk l with rfl | ⟨l0,t,rfl⟩
  ·simp at h
  ·have h1:=Zpm n l0 (by simpa using h) (fun b hb'=>hb b (by simp [hb']));have h2:=hb t (by simp);rw [Zgc,Nat.pow_succ];omega
theorem Zko (t:List UInt8)(w:World)(hI:Zkc w) :
 Calls Tryz.prog 224 #[.string ⟨t.toArray⟩] w fun e w'=>w'=w∧((∃ k,k<11∧nm k=t∧e=.returned (.int .i64 k))∨((∀ k,k<11->nm k≠t)∧e=.returned (.int .i64 (-1)))):=by
 have HI:=Ze hI;clear hI;go_enter Tryz.func224,Tryz.ntmps224
 go_wp2_with fail
 go_loopw [4] (fun j w2=>∃ k:Nat,j=.int .i64 k∧w2=w∧k<=11∧∀ i,i<k->nm i≠t) (fun j _=>11-(intOf j).toNat)
 case atStart=>exact⟨0,rfl,rfl,by omega,fun i hi=>by omega⟩
 case round =>
  obtain⟨k,rfl,rfl,hk,hno⟩:=hrel;by_cases hk2:k<11
  ·have hc:=(Zb HI k hk2).1;by_cases hn:nm k=t
   ·rw [hn] at hc;have HN:=Ze hno;clear hno;go_wp2;go_ret;exact⟨rfl,Or.inl ⟨k,hk2,hn,rfl⟩⟩
   ·have HN:=Ze hno;clear hno;have hse:(nm k==t)=false:=by simpa using hn
    go_wp2;go_roundw
    case rel=>exact⟨k+1,by go_num,by trivial,by omega,fun i hi=>by
     rcases Nat.lt_succ_iff_lt_or_eq.1 hi with h | h
     ·exact Zb HN i h
     ·subst h; exact hn⟩
    case measure=>simp [intOf]; omega
  ·have hk3:k=11:=by omega
   subst hk3;have HN:=Ze hno;clear hno;go_wp2;go_ret;exact⟨rfl,Or.inr ⟨Zb HN,rfl⟩⟩
theorem Zrv (s:ByteArray)(w:World)(hs:s.size<=3)(hd:∀ i,i<s.size->48<=(s.get! i).toNat∧(s.get! i).toNat<=57) :
 Calls Tryz.prog 291 #[.string s] w fun e w'=>e=.returned (.int .i64 (Zby s.data.toList))∧Below w.heap.size w w':=by
 have HD:=Ze hd;have hsl:s.data.toList.length=s.size:=Array.length_toList;clear hd;go_enter Tryz.func291,Tryz.ntmps291
 go_wp2_with fail
 go_loopw [3] (fun v wr=>∃ q:Nat,q<=s.size∧v=.int .i64 (Zby (s.data.toList.take q))∧wr.heap[w.heap.size]?=some (.stringIter s q)∧Below w.heap.size w wr) (fun _ wr=>s.size-wr.iterPos w.heap.size)
 case atStart=>exact⟨0,by omega,rfl,heap_alloc_new w _,(Below.refl _ _).alloc (Nat.le_refl _) _⟩
 case round =>
  obtain⟨q,hq,rfl,hit,hb⟩:=hrel;by_cases hp:q<s.size
  ·have hgq:=Zb HD q hp;have hda:=Zgf s q (by omega);have hnx:∀ ty,(Instr.next (.pointer (some ⟨w.heap.size,0,none⟩)) true ty).run Tryz.prog _=.ok (.tuple #[.bool true,.int .i64 q,.int .i32 (s.get! q).toNat]) _:=fun ty=>by have:=Lib.run_next_any_at (P:=Tryz.prog) _ w.heap.size s q ty hit hp; rw [hda] at this; exact this
   have hm:=iterPos_of hit;have G1:=Ze (Lib.iterAt_heap _ _ s _ (q+1) hit);have hm2:=iterPos_of (Zb G1);have G2:=Ze (Lib.below_iterAt hb (Nat.le_refl _) s (q+1));have hv:Zby (s.data.toList.take (q+1))=10*Zby (s.data.toList.take q)+((s.get! q).toNat-48):=by rw [List.take_succ_eq_append_getElem (by omega),Zgc];rw [Utf8W.get!_of_lt s q hp];rfl
   have hlt:=Zpm q (s.data.toList.take q) (by simp; omega) (fun b hb'=>by
    obtain⟨i,hi⟩:=List.getElem?_of_mem (List.mem_of_mem_take hb');have hi2:i<s.size:=by have:=(List.getElem?_eq_some_iff.1 hi).1;omega
    have h:=Zb HD i hi2;rw [Utf8W.get!_of_lt s i hi2] at h;have e:s[i]'hi2=b:=by have:=(List.getElem?_eq_some_iff.1 hi).2;simp at this;exact this
    rw [e] at h; exact h)
   have hlt2:Zby (s.data.toList.take q)<1000:=by have:10 ^ q<=10 ^ 2:=Nat.pow_le_pow_right (by decide) (by omega);omega
   have HV:=Ze hv;clear hv hit hb hda hlt;generalize Zby (s.data.toList.take q)=V at *;generalize (s.get! q).toNat=B at *;go_wp2;go_roundw
   case rel=>exact⟨q+1,hp,by rw [Zb HV]; go_num,Zb G1,Zb G2⟩
   case measure=>omega
  ·obtain rfl:q=s.size:=by omega
   have hnx:∀ ty,(Instr.next (.pointer (some ⟨w.heap.size,0,none⟩)) true ty).run Tryz.prog _=_:=fun ty=>Lib.run_next_end_at _ w.heap.size s _ ty hit hp;have HB:=Ze hb;clear hb;have ht:s.data.toList.take s.size=s.data.toList:=by rw [← hsl]; exact List.take_length
   rw [ht];go_wp2;go_ret;exact⟨rfl,Zb HB⟩
theorem Ybx (s:ByteArray)(p:Nat)(hp:p<s.size):p+(Utf8.decode s p).2<=s.size:=by
 rw [Lib.decode_at];unfold Lib.decodeN;repeat' split
 all_goals first | omega | (simp; omega)
def Shut (s:ByteArray)(l:List Tk)(pos:Nat):Prop:=∀ t,l.getLast?=some t->t.e<=pos∧(t.e=pos->pos<s.size->(t.k=3∨t.k=4)->Jd (s.get! pos).toNat≠t.k)
theorem Shut.on {s:ByteArray}{l:List Tk}{pos q:Nat}(h:Shut s l pos)(hq:pos<q):Shut s l q:=fun t ht=>⟨by have:=(h t ht).1; omega,fun e=>by have:=(h t ht).1; omega⟩
theorem Shut.new {s:ByteArray}{l:List Tk}{pos:Nat}(h:Shut s l pos)(hp:pos<s.size):Kd l (Jd (s.get! pos).toNat) pos=l++[⟨Jd (s.get! pos).toNat,pos,pos+1⟩] :=
 Zkr l _ pos (fun t ht h3 hk he=>(h t ht).2 he hp (by omega) hk.symm)
theorem Zsa (s:ByteArray)(i j:Nat)(h1:i<=j)(h2:j<=s.size)(w:World):(Instr.slice 9 (.string s) (some (.int .i64 (i:Int))) (some (.int .i64 (j:Int))) none).run Tryz.prog w=.ok (.string (s.extract i j)) w:=by have:=run_slice_string (P:=Tryz.prog) (w:=w) 9 s .i64 .i64 i j Tryz.underlying9 (by omega) (by omega) (by omega);simpa using this
theorem Zxd {b:Nat}(h:Jd b=4):48<=b∧b<=57:=by
 unfold Jd at h;repeat' split at h
 all_goals omega
set_option maxHeartbeats 2000000
set_option maxRecDepth 100000
def WfT (s:ByteArray)(l:List Tk):Prop:=∀ t ∈ l,t.a<t.e∧t.e<=s.size∧3<=t.k∧t.k<=6∧∀ i,t.a<=i->i<t.e->Jd (s.get! i).toNat=t.k
structure Ks (w:World)(b:Nat)(s:ByteArray)(v:Value)(i:Nat)(sn:Nat->Bool)(vs:Nat->Value):Prop where
 txt:w.cell? ⟨b,0,none⟩=some (.string s)
 pcs:w.cell? ⟨b,1,none⟩=some v
 nxt:w.cell? ⟨b,2,none⟩=some (.int .i64 i)
 seen:∀ k,k<11->w.cell? ⟨b,3+k,none⟩=some (.bool (sn k))
 vals:∀ k,k<11->w.cell? ⟨b,14+k,none⟩=some (vs k)
 frz:∀ j,w.frozen? ⟨b,j,none⟩=false
theorem Zac {w:World}{base g cap:Nat}{l:List Tk}{i:Nat}{t:Tk}(h:Yu w base (.slice (some ⟨g,0,none⟩) l.length cap) l)(ht:l[i]?=some t)(j:Nat)(hj:j<3):w.cell? ⟨g,i*3+j,none⟩=([.int .i64 t.k,.int .i64 t.a,.int .i64 t.e]:List Value)[j]?:=by
 obtain⟨hi,rfl⟩:=List.getElem?_eq_some_iff.1 ht;have e:l=l.take i++[l[i]]++l.drop (i+1):=by rw [List.append_assoc,List.singleton_append,List.getElem_cons_drop,List.take_append_drop]
 have h1:(Xk l)[i*3+j]?=([.int .i64 (l[i]).k,.int .i64 (l[i]).a,.int .i64 (l[i]).e]:List Value)[j]?:=by
  have hl:(Xk (l.take i)).length=i*3:=by rw [Ml]; simp; omega
  have h3:Xk l=Xk (l.take i)++([.int .i64 (l[i]).k,.int .i64 (l[i]).a,.int .i64 (l[i]).e]++Xk (l.drop (i+1))):=by have h4:=congrArg Xk e;simp only [Xk,List.flatMap_append,List.flatMap_cons,List.flatMap_nil,List.append_nil,List.append_assoc] at h4 ⊢;exact h4
  rw [h3];rw [List.getElem?_append_right (by omega),hl,Nat.add_sub_cancel_left,List.getElem?_append_left (by simpa using hj)]
 have h2:w.ownsRow base 246 3 (.slice (some ⟨g,0,none⟩) l.length cap) l.length (Xk l):=h;rw [h2.cellAt (i*3+j) (by omega),h1]
theorem Zry (w:World)(b base:Nat)(s:ByteArray)(v:Value)(sn:Nat->Bool)(vs:Nat->Value)(l:List Tk)(h:Ks w b s v l.length sn vs)(ho:Yu w base v l)(hl:l.length<=400) :
 Calls Tryz.prog 70 #[.pointer (some ⟨b,0,none⟩)] w fun e w'=>e=.returned (.int .i64 s.size)∧Below w.heap.size w w':=by
 have c0:=h.txt;have c1:=h.pcs;have c2:=h.nxt;obtain⟨a,cap,rfl⟩:∃ a cap,v=.slice a l.length cap:=by
  rcases ho.shape with⟨e,rfl⟩ | ⟨g,cap,rfl⟩
  ·subst e; exact⟨_,_,rfl⟩
  ·exact⟨_,_,rfl⟩
 clear h ho;go_enter Tryz.func70,Tryz.ntmps70
 go_wp2;go_region
 all_goals go_wp2
 all_goals go_ret
 all_goals exact⟨rfl,by go_grown⟩
theorem Zwy (w:World)(b base:Nat)(s:ByteArray)(v:Value)(i:Nat)(sn:Nat->Bool)(vs:Nat->Value)(l:List Tk)(t:Tk)(h:Ks w b s v i sn vs)(ho:Yu w base v l)(hl:l.length<=400)(ht:l[i]?=some t) :
 Calls Tryz.prog 70 #[.pointer (some ⟨b,0,none⟩)] w fun e w'=>e=.returned (.int .i64 t.a)∧Below w.heap.size w w':=by
 have c0:=h.txt;have c1:=h.pcs;have c2:=h.nxt;have hi:i<l.length:=(List.getElem?_eq_some_iff.1 ht).1;obtain⟨g,cap,rfl⟩:∃ g cap,v=.slice (some ⟨g,0,none⟩) l.length cap:=by
  rcases ho.shape with⟨e,rfl⟩ | ⟨g,cap,rfl⟩
  ·subst e; simp at hi
  ·exact⟨_,_,rfl⟩
 have d1:w.cell? ⟨g,i*3+1,none⟩=some (.int .i64 t.a):=Zac ho ht 1 (by omega);clear h ho;generalize hn:l.length=n at *;go_enter Tryz.func70,Tryz.ntmps70
 go_wp2;go_region
 all_goals go_wp2
 all_goals go_region
 all_goals go_wp2
 all_goals go_ret
 all_goals exact⟨rfl,by go_grown⟩
theorem Zwz (w:World)(b base:Nat)(s:ByteArray)(v:Value)(sn:Nat->Bool)(vs:Nat->Value)(l:List Tk)(h:Ks w b s v l.length sn vs)(ho:Yu w base v l)(hl:l.length<=400) :
 Calls Tryz.prog 223 #[.pointer (some ⟨b,0,none⟩)] w fun e w'=>e=.returned (.tuple #[.int .i64 0,.string ⟨#[]⟩])∧Below w.heap.size w w':=by
 have c1:=h.pcs;have c2:=h.nxt;obtain⟨a,cap,rfl⟩:∃ a cap,v=.slice a l.length cap:=by
  rcases ho.shape with⟨e,rfl⟩ | ⟨g,cap,rfl⟩
  ·subst e; exact⟨_,_,rfl⟩
  ·exact⟨_,_,rfl⟩
 clear h ho;go_enter Tryz.func223,Tryz.ntmps223
 go_wp2;go_region
 all_goals go_wp2
 all_goals go_ret2
 all_goals exact⟨rfl,by go_grown⟩
theorem Ybu (w:World)(b base:Nat)(s:ByteArray)(v:Value)(i:Nat)(sn:Nat->Bool)(vs:Nat->Value)(l:List Tk)(t:Tk)(h:Ks w b s v i sn vs)(ho:Yu w base v l)(hl:l.length<=400)(ht:l[i]?=some t)(hw:WfT s l) :
 Calls Tryz.prog 223 #[.pointer (some ⟨b,0,none⟩)] w fun e w'=>e=.returned (.tuple #[.int .i64 t.k,.string (s.extract t.a t.e)])∧Below w.heap.size w w':=by
 have c0:=h.txt;have c1:=h.pcs;have c2:=h.nxt;have hi:i<l.length:=(List.getElem?_eq_some_iff.1 ht).1;obtain⟨g,cap,rfl⟩:∃ g cap,v=.slice (some ⟨g,0,none⟩) l.length cap:=by
  rcases ho.shape with⟨e,rfl⟩ | ⟨g,cap,rfl⟩
  ·subst e; simp at hi
  ·exact⟨_,_,rfl⟩
 have d0:w.cell? ⟨g,i*3,none⟩=some (.int .i64 t.k):=Zac ho ht 0 (by omega);have d1:w.cell? ⟨g,i*3+1,none⟩=some (.int .i64 t.a):=Zac ho ht 1 (by omega);have d2:w.cell? ⟨g,i*3+2,none⟩=some (.int .i64 t.e):=Zac ho ht 2 (by omega);obtain⟨w1,w2,-⟩:=hw t (List.mem_of_getElem? ht);have hsl:=Zsa s t.a t.e (by omega) w2;have old:∀(q:Nat) (o:Nat) (u:Value),w.cell? ⟨q,o,none⟩=some u->(w.alloc (.cells #[.int .i64 0,.int .i64 0,.int .i64 0] 246)).cell? ⟨q,o,none⟩=some u:=fun q o u hu=>(World.cell?_alloc_lt _ _ ⟨q,o,none⟩ (World.block_lt_of_cell? w _ hu)).trans hu;have hlb:b<w.heap.size:=World.block_lt_of_cell? w _ c0;have hlg:g<w.heap.size:=World.block_lt_of_cell? w _ d0;have hnb:b≠w.heap.size:=by omega
 have hng:g≠w.heap.size:=by omega
 have a0:=old _ _ _ c0;have a1:=old _ _ _ c1;have a2:=old _ _ _ c2;have a3:=old _ _ _ d0;have a4:=old _ _ _ d1;have a5:=old _ _ _ d2;clear h ho hw old;generalize hn:l.length=n at *;go_enter Tryz.func223,Tryz.ntmps223
 go_wp2;go_region
 all_goals go_wp2
 all_goals go_region
 all_goals go_wp2
 all_goals go_region
 all_goals go_wp2
 all_goals go_ret2
 all_goals exact⟨rfl,by go_grown⟩
set_option maxHeartbeats 2000000
set_option maxRecDepth 100000
theorem Zo {w w':World}{row:Option Nat}(h:Below w.heap.size w w'):w.grownBy w' row:=⟨h.os,h.tape,h.output,h.size,fun k hk _=>h.block k hk⟩
theorem Yj {a c d:World}{row:Option Nat}(h:a.grownBy c row)(k:c.grownBy d row):a.grownBy d row :=
 ⟨k.os.trans h.os,k.tape.trans h.tape,k.output.trans h.output,Nat.le_trans h.size k.size,fun q hq hr=>(k.block q (Nat.lt_of_lt_of_le hq h.size) hr).trans (h.block q hq hr)⟩
theorem Nz (w:World)(b j:Nat)(u:Value):w.grownBy (w.setCell ⟨b,j,none⟩ u) (some b) :=
 ⟨rfl,rfl,rfl,by simp,fun k _ hk=>heap_setCell_other w ⟨b,j,none⟩ k u (fun e=>hk (by simp [e]))⟩
theorem Ks.below {w w':World}{b:Nat}{s:ByteArray}{v:Value}{i:Nat}{sn:Nat->Bool}{vs:Nat->Value}(h:Ks w b s v i sn vs)(hb:Below w.heap.size w w'):Ks w' b s v i sn vs:=by have hlt:=World.block_lt_of_cell? w _ h.txt;have e:∀ o,w'.cell? ⟨b,o,none⟩=w.cell? ⟨b,o,none⟩:=fun o=>World.cell?_of_block (hb.block b hlt);exact⟨(e _).trans h.txt,(e _).trans h.pcs,(e _).trans h.nxt,fun k hk=>(e _).trans (h.seen k hk),fun k hk=>(e _).trans (h.vals k hk),fun j=>(World.frozen?_of_block (a:=⟨b,j,none⟩) (hb.block b hlt)).trans (h.frz j)⟩
theorem Ks.set_next {w:World}{b:Nat}{s:ByteArray}{v:Value}{i:Nat}{sn:Nat->Bool}{vs:Nat->Value}(h:Ks w b s v i sn vs)(q:Nat):Ks (w.setCell ⟨b,2,none⟩ (.int .i64 q)) b s v q sn vs:=by have e:∀ o,o≠2->(w.setCell ⟨b,2,none⟩ (.int .i64 q)).cell? ⟨b,o,none⟩=w.cell? ⟨b,o,none⟩:=fun o ho=>World.cell?_setCell_other _ _ _ _ (by intro e; simp at e; first | done | omega);exact⟨(e _ (by decide)).trans h.txt,(e _ (by decide)).trans h.pcs,World.cell?_setCell_same _ _ _ h.nxt,fun k hk=>(e _ (by omega)).trans (h.seen k hk),fun k hk=>(e _ (by omega)).trans (h.vals k hk),fun j=>by rw [World.frozen?_setCell]; exact h.frz j⟩
theorem Ks.set_seen {w:World}{b:Nat}{s:ByteArray}{v:Value}{i:Nat}{sn:Nat->Bool}{vs:Nat->Value}(h:Ks w b s v i sn vs)(k:Nat)(hk:k<11):Ks (w.setCell ⟨b,3+k,none⟩ (.bool true)) b s v i (fun j=>if j=k then true else sn j) vs:=by
 have e:∀ o,o≠3+k->(w.setCell ⟨b,3+k,none⟩ (.bool true)).cell? ⟨b,o,none⟩=w.cell? ⟨b,o,none⟩:=fun o ho=>World.cell?_setCell_other _ _ _ _ (by intro e; simp at e; first | done | omega);refine⟨(e _ (by omega)).trans h.txt,(e _ (by omega)).trans h.pcs,(e _ (by omega)).trans h.nxt,fun j hj=>?_,fun j hj=>(e _ (by omega)).trans (h.vals j hj),fun j=>by rw [World.frozen?_setCell]; exact h.frz j⟩;by_cases hjk:j=k
 ·subst hjk; simp only [if_true]; exact World.cell?_setCell_same _ _ _ (h.seen j hj)
 ·simp only [hjk,if_false]; exact(e _ (by omega)).trans (h.seen j hj)
theorem Yu.grown {w w':World}{base b:Nat}{v:Value}{l:List Tk}(h:Yu w base v l)(hg:w.grownBy w' (some b))(hne:v.ownBlock≠some b):Yu w' base v l:=World.ownsRow.kept h hg (Or.inr hne)
def kAt (l:List Tk)(i:Nat):Nat:=match l[i]? with | some t=>t.k | none=>0
def tAt (s:ByteArray)(l:List Tk)(i:Nat):ByteArray:=match l[i]? with | some t=>s.extract t.a t.e | none=>⟨#[]⟩
theorem Znk (w:World)(b base:Nat)(s:ByteArray)(v:Value)(i:Nat)(sn:Nat->Bool)(vs:Nat->Value)(l:List Tk)(h:Ks w b s v i sn vs)(ho:Yu w base v l)(hl:l.length<=400)(hi:i<=l.length)(hw:WfT s l) :
 Calls Tryz.prog 223 #[.pointer (some ⟨b,0,none⟩)] w fun e w'=>e=.returned (.tuple #[.int .i64 (kAt l i),.string (tAt s l i)])∧Below w.heap.size w w':=by
 cases ht:l[i]? with
 | some t =>
  have e1:kAt l i=t.k:=by simp [kAt,ht]
  have e2:tAt s l i=s.extract t.a t.e:=by simp [tAt,ht]
  rw [e1,e2];exact Ybu w b base s v i sn vs l t h ho hl ht hw
 | none =>
  have e1:kAt l i=0:=by simp [kAt,ht]
  have e2:tAt s l i=⟨#[]⟩:=by simp [tAt,ht]
  have e3:i=l.length:=by have:=List.getElem?_eq_none_iff.1 ht; omega
  rw [e1,e2];subst e3;exact Zwz w b base s v sn vs l h ho hl
theorem Znl (w:World)(b base:Nat)(s:ByteArray)(v:Value)(i:Nat)(sn:Nat->Bool)(vs:Nat->Value)(l:List Tk)(h:Ks w b s v i sn vs)(ho:Yu w base v l)(hl:l.length<=400)(hi:i<=l.length)(hw:WfT s l) :
 Calls Tryz.prog 160 #[.pointer (some ⟨b,0,none⟩)] w fun e w'=>e=.returned (.bool (decide (kAt l i=6)))∧w.grownBy w' (some b)∧Ks w' b s v (if kAt l i=6 then i+1 else i) sn vs:=by
 have HP:=Ze (Znk w b base s v i sn vs l h ho hl hi hw);have HR:=Ze h;clear h ho hw;by_cases hk:kAt l i=6
 ·simp only [hk,decide_true,if_true];go_enter Tryz.func160,Tryz.ntmps160
  go_wp2_with fail
  refine(Zb HP).mono ?_;rintro e w1 ⟨rfl,hb1⟩;have h1:=(Zb HR).below hb1;have HB:=Ze hb1;have c2:=h1.nxt;have cf:=h1.frz 2;have H1:=Ze h1;clear hb1 h1;rw [hk];go_wp2;go_ret;exact⟨rfl,Yj (Zo (Zb HB)) (Nz _ _ _ _),(Zb H1).set_next (i+1)⟩
 ·simp only [hk,decide_false,if_false];go_enter Tryz.func160,Tryz.ntmps160
  go_wp2_with fail
  refine(Zb HP).mono ?_;rintro e w1 ⟨rfl,hb1⟩;have H1:=Ze ((Zb HR).below hb1);have HB:=Ze hb1;clear hb1;generalize kAt l i=kk at *;have zk:((kk:Int) != 6)=true:=by rw [bne_iff_ne]; omega
  go_wp2;go_ret;exact⟨rfl,Zo (Zb HB),Zb H1⟩
theorem Zxa (s:ByteArray)(a e j:Nat)(he:e<=s.size)(hj:a+j<e):(s.extract a e).get! j=s.get! (a+j):=by rw [Utf8W.get!_of_lt _ _ (by simp; omega),Utf8W.get!_of_lt _ _ (by omega)];simp [ByteArray.getElem_extract]
theorem Zrz {s:ByteArray}{l:List Tk}{i:Nat}(hw:WfT s l)(hk:kAt l i=4):∀ j,j<(tAt s l i).size->48<=((tAt s l i).get! j).toNat∧((tAt s l i).get! j).toNat<=57:=by
 cases ht:l[i]? with
 | none=>simp [kAt,ht] at hk
 | some t =>
  have e1:t.k=4:=by simpa [kAt,ht] using hk
  have e2:tAt s l i=s.extract t.a t.e:=by simp [tAt,ht]
  obtain⟨h1,h2,-,-,h5⟩:=hw t (List.mem_of_getElem? ht);rw [e2];intro j hj;have hj2:t.a+j<t.e:=by simp at hj; omega
  rw [Zxa s t.a t.e j h2 hj2];exact Zxd ((h5 _ (by omega) hj2).trans e1)
def Zbd (s:ByteArray)(l:List Tk)(i:Nat)(d:Bool):Option Int:=if kAt l i=5∧d=true then some (-1) else if kAt l i=4∧(tAt s l i).size<=3 then some ((Zby (tAt s l i).data.toList:Nat):Int) else none
theorem Zhr (d:Bool)(w:World)(b base:Nat)(s:ByteArray)(v:Value)(i:Nat)(sn:Nat->Bool)(vs:Nat->Value)(l:List Tk)(h:Ks w b s v i sn vs)(ho:Yu w base v l)(hl:l.length<=400)(hi:i<=l.length)(hw:WfT s l) :
 Calls Tryz.prog 225 #[.pointer (some ⟨b,0,none⟩),.bool d] w fun e w'=>e=.returned (.tuple #[.int .i64 ((Zbd s l i d).getD 0),.bool (Zbd s l i d).isSome])∧w.grownBy w' (some b)∧Ks w' b s v (if (Zbd s l i d).isSome then i+1 else i) sn vs:=by
 have HP:=Ze (Znk w b base s v i sn vs l h ho hl hi hw);have HR:=Ze h;have HD:=Ze (fun hk=>Zrz (i:=i) hw hk);clear h ho hw;by_cases hk:kAt l i=5∧d=true
 ·have hn:Zbd s l i d=some (-1):=by simp [Zbd,hk]
  obtain⟨hk,rfl⟩:=hk;rw [hn];simp only [Option.getD_some,Option.isSome_some,if_true];go_enter Tryz.func225,Tryz.ntmps225
  go_wp2_with fail
  refine(Zb HP).mono ?_;rintro e w1 ⟨rfl,hb1⟩;have h1:=(Zb HR).below hb1;have HB:=Ze hb1;have c2:=h1.nxt;have cf:=h1.frz 2;have H1:=Ze h1;clear hb1 h1;rw [hk];go_wp2;go_ret2;exact⟨rfl,Yj (Zo (Zb HB)) (Nz _ _ _ _),(Zb H1).set_next (i+1)⟩
 by_cases hk4:kAt l i=4∧(tAt s l i).size<=3
 ·have hn:Zbd s l i d=some ((Zby (tAt s l i).data.toList:Nat):Int):=by simp [Zbd,hk4]
  have hdg:=Zb HD hk4.1;rw [hn];simp only [Option.getD_some,Option.isSome_some,if_true];obtain⟨hk5,hsz⟩:=hk4;rw [hk5] at HP;have HV:=Ze (fun w'=>Zrv (tAt s l i) w' hsz hdg);generalize tAt s l i=tt at *;clear hk hdg;go_enter Tryz.func225,Tryz.ntmps225
  go_wp2_with fail
  refine(Zb HP).mono ?_;rintro e w1 ⟨rfl,hb1⟩;have h1:=(Zb HR).below hb1;have HB:=Ze hb1;have c2:=h1.nxt;have cf:=h1.frz 2;have H1:=Ze h1;clear hb1 h1;go_wp2_with fail
  refine(Zb HV _).mono ?_;rintro e w2 ⟨rfl,hb2⟩;have H2:=Ze (((Zb H1).set_next (i+1)).below hb2);have HB2:=Ze (Yj (Yj (Zo (Zb HB)) (Nz _ _ _ _)) (Zo hb2):w.grownBy w2 (some b));clear hb2;go_wp2;go_ret2;exact⟨rfl,Zb HB2,Zb H2⟩
 ·have hn:Zbd s l i d=none:=by simp [Zbd,hk,hk4]
  rw [hn];simp only [Option.getD_none,Option.isSome_none,Bool.false_eq_true,if_false];clear hn HD;generalize kAt l i=kk at *;generalize tAt s l i=tt at *;by_cases k5:kk=5
  ·have hd:d=false:=by cases d <;> simp_all
   subst k5 hd;go_enter Tryz.func225,Tryz.ntmps225
   go_wp2_with fail
   refine(Zb HP).mono ?_;rintro e w1 ⟨rfl,hb1⟩;have H1:=Ze ((Zb HR).below hb1);have HB:=Ze hb1;clear hb1;go_wp2;go_ret2;exact⟨rfl,Zo (Zb HB),Zb H1⟩
  ·have z5:((kk:Int)==5)=false:=by rw [beq_eq_false_iff_ne]; omega
   by_cases k4:kk=4
   ·have hsz:¬ tt.size<=3:=fun h=>hk4 ⟨k4,h⟩;subst k4;go_enter Tryz.func225,Tryz.ntmps225
    go_wp2_with fail
    refine(Zb HP).mono ?_;rintro e w1 ⟨rfl,hb1⟩;have H1:=Ze ((Zb HR).below hb1);have HB:=Ze hb1;clear hb1;go_wp2;go_ret2;exact⟨rfl,Zo (Zb HB),Zb H1⟩
   ·have z4:((kk:Int)==4)=false:=by rw [beq_eq_false_iff_ne]; omega
    go_enter Tryz.func225,Tryz.ntmps225
    go_wp2_with fail
    refine(Zb HP).mono ?_;rintro e w1 ⟨rfl,hb1⟩;have H1:=Ze ((Zb HR).below hb1);have HB:=Ze hb1;clear hb1;go_wp2;go_ret2;exact⟨rfl,Zo (Zb HB),Zb H1⟩
theorem Yfh (t:ByteArray):t=⟨t.data.toList.toArray⟩:=by cases t; simp
theorem Zxb {j k:Nat}(hj:j<11)(hk:k<11)(h:nm j=nm k):j=k:=by
 have key:∀ a:Fin 11,∀ c:Fin 11,nm a.val=nm c.val->a=c:=by decide
 have:=key ⟨j,hj⟩ ⟨k,hk⟩ h;simpa using this
def Zbe (s:ByteArray)(l:List Tk)(i:Nat)(sn:Nat->Bool)(k:Nat):Prop:=k<11∧nm k=(tAt s l i).data.toList∧sn k=false
theorem Znm (w:World)(b base:Nat)(s:ByteArray)(v:Value)(i:Nat)(sn:Nat->Bool)(vs:Nat->Value)(l:List Tk)(h:Ks w b s v i sn vs)(ho:Yu w base v l)(hl:l.length<=400)(hi:i<=l.length)(hw:WfT s l)(hI:Zkc w)(hbI:1<w.heap.size) :
 Calls Tryz.prog 158 #[.pointer (some ⟨b,0,none⟩)] w fun e w' =>
  (∃ k,Zbe s l i sn k∧e=.returned (.int .i64 k)∧w.grownBy w' (some b)∧Ks w' b s v (i+1) (fun j=>if j=k then true else sn j) vs) ∨
  ((∀ k,¬ Zbe s l i sn k)∧e=.returned (.int .i64 (-1))∧w.grownBy w' (some b)∧Ks w' b s v i sn vs):=by
 have HP:=Ze (Znk w b base s v i sn vs l h ho hl hi hw);have HR:=Ze h;have HI:=Ze hI;clear h ho hw hI;have HN:=Ze (fun k=>show Zbe s l i sn k↔(k<11∧nm k=(tAt s l i).data.toList∧sn k=false) from Iff.rfl);generalize Zbe s l i sn=NO at *;rw [Yfh (tAt s l i)] at HP;generalize (tAt s l i).data.toList=tt at *;generalize kAt l i=kk at *;go_enter Tryz.func158,Tryz.ntmps158
 go_wp2_with fail
 refine(Zb HP).mono ?_;rintro e w1 ⟨rfl,hb1⟩;have H1:=Ze ((Zb HR).below hb1);have HI1:=Ze (show Zkc w1 from fun k hk=>⟨(World.cell?_of_block (hb1.block _ hbI)).trans (Zb HI k hk).1,(World.cell?_of_block (hb1.block _ hbI)).trans (Zb HI k hk).2⟩);have HB:=Ze hb1;clear hb1;go_wp2_with fail
 refine(Zko tt _ (Zb HI1)).mono ?_;rintro e w2 ⟨hw2,hor⟩;subst w2;rcases hor with⟨k,hk,hnk,rfl⟩ | ⟨hno,rfl⟩
 ·have cs:=(Zb H1).seen k hk;cases hsn:sn k with
  | true =>
   rw [hsn] at cs;have hno:∀ k',¬ NO k':=fun k' hk'=>by
    obtain⟨a1,a2,a3⟩:=(Zb HN k').1 hk';have:k'=k:=Zxb a1 hk (a2.trans hnk.symm);subst this;rw [hsn] at a3; cases a3
   have HNO:=Ze hno;clear hno;go_wp2;go_ret;exact Or.inr ⟨Zb HNO,rfl,Zo (Zb HB),Zb H1⟩
  | false=>rw [hsn] at cs;have hyes:NO k:=(Zb HN k).2 ⟨hk,hnk,hsn⟩;have H2:=Ze ((Zb H1).set_seen k hk);have c2:=(Zb H2).nxt;have cf:=(Zb H1).frz (3+k);have cf2:=(Zb H1).frz 2;go_wp2;go_ret;exact Or.inl ⟨k,hyes,rfl,Yj (Yj (Zo (Zb HB)) (Nz _ _ _ _)) (Nz _ _ _ _),(Zb H2).set_next (i+1)⟩
 ·have hno':∀ k',¬ NO k':=fun k' hk'=>hno k' ((Zb HN k').1 hk').1 ((Zb HN k').1 hk').2.1;have HNO:=Ze hno';clear hno hno';go_wp2;go_ret;exact Or.inr ⟨Zb HNO,rfl,Zo (Zb HB),Zb H1⟩
set_option maxHeartbeats 4000000
set_option maxRecDepth 100000
theorem Zed {P:Program}{ops:Array Oper}{o:Oper}{a:Act}{w:World}{K:Act->World->Prop}{Q:Exit->Act->World->Prop}{E:Prop}
 (hg:o.guard=none) (s x:Operand) (t:TypeId) (ho:o.op=.call { callee:=.builtin .append,args:=#[s,x],argTypes:=#[t,t] })
 (base:Nat) (e:TypeId) (i:TypeInfo) (z:Value) (size bytes:Nat) (ht:P.underlying t=some (.slice e)) (hi:P.info? e=some i) (hz:i.zero=some z)
 (hsize:i.size=size) (hby:i.bytes=bytes) (hzs:z.cells.size=size) (hsz:0<size)
 (v:Value) (n:Nat) (xs:List Value) (hs:a.eval s=v) (hown:w.ownsRow base e size v n xs)
 (ad:Addr) (m c:Nat) (news:List Value) (hx:a.eval x=.slice (some ad) m c) (hl:news.length=m*size) (hnews:∀ j u,news[j]?=some u->w.cell? (ad.add j)=some u) (h1:∀ u ∈ news,u.oneCell'=true)
 (h63:n+m<=maxLen) (hbytes:(n+m)*bytes<=140737488355328) (hbase:base<=w.heap.size)
 (h:∀ v' w',w'.ownsRow base e size v' (n+m) (xs++news)->w.grownBy w' v.ownBlock->K (a.put o.dst v') w') :
 if Region.wanted o (yielded ops a.tmps)=true then Oper.wp P o a w K Q else E:=by
 have hw:Region.wanted o (yielded ops a.tmps)=true:=by simp [Region.wanted,hg]
 rw [if_pos hw];exact wp_append_own w s x t ho base e i z size bytes ht hi hz hsize hby hzs hsz v n xs hs hown ad m c news hx hl hnews h1 h63 hbytes hbase (fun v' w' h2 h3 _=>h v' w' h2 h3)
theorem Tryz.infoI:(Tryz.prog.info? 3).map (fun i=>(i.zero,i.size,i.bytes))=some (some (.int .i64 0),1,8):=by kernel_rfl
def loK (k:Nat):Nat:=([1,1,1,2,0,0,0,1,1,1,0]:List Nat).getD k 0
def hiK (k:Nat):Nat:=([1,1,1,2,8,4,12,1,1,1,0]:List Nat).getD k 0
theorem Yfe (k:Nat):hiK k<=12:=by
 unfold hiK;match k with
 | 0 | 1 | 2 | 3 | 4 | 5 | 6 | 7 | 8 | 9 | 10=>decide
 | k+11=>simp
structure Itm (w:World):Prop where
 items:Zkc w
 lo:∀ k,k<11->w.cell? ⟨1,k*5+1,none⟩=some (.int .i64 (loK k))
 hi:∀ k,k<11->w.cell? ⟨1,k*5+2,none⟩=some (.int .i64 (hiK k))
 spare:∀ k,k<11->w.cell? ⟨1,k*5+4,none⟩=some (.bool (decide (k=10)))
theorem Itm.lt {w:World}(h:Itm w):1<w.heap.size:=World.block_lt_of_cell? w _ (h.lo 0 (by decide))
theorem Itm.grown {w w':World}{b:Nat}(h:Itm w)(hg:w.grownBy w' (some b))(hb:1≠b):Itm w':=by have e:∀ o,w'.cell? ⟨1,o,none⟩=w.cell? ⟨1,o,none⟩:=fun o=>World.cell?_of_block (hg.block _ h.lt (by simpa using hb));exact⟨fun k hk=>⟨(e _).trans (h.items k hk).1,(e _).trans (h.items k hk).2⟩,fun k hk=>(e _).trans (h.lo k hk),fun k hk=>(e _).trans (h.hi k hk),fun k hk=>(e _).trans (h.spare k hk)⟩
def Yz (ns:List Int):List Value:=ns.map fun n=>.int .i64 n
def Gm (s:ByteArray)(l:List Tk)(k:Nat):Nat->Nat->List Int->Nat×List Int
 | 0,i,ns=>(i,ns)
 | f+1,i,ns=>if ns.length<hiK k then (match Zbd s l i (decide (k=2)) with | some n=>Gm s l k f (i+1) (ns++[n]) | none=>(i,ns)) else (i,ns)
def Dc (vs:Nat->Value)(k:Nat)(u:Value):Nat->Value:=fun j=>if j=k then u else vs j
def Yhm:Option Value->Nat
 | some (.slice _ n _)=>n
 | _=>0
theorem Zpn {a c d:World}{b:Nat}{row:Option Nat}(h:a.grownBy c (some b))(k:c.grownBy d row)(hr:∀ q,row=some q->a.heap.size<=q):a.grownBy d (some b) :=
 ⟨k.os.trans h.os,k.tape.trans h.tape,k.output.trans h.output,Nat.le_trans h.size k.size,fun q hq hne=>(k.block q (Nat.lt_of_lt_of_le hq h.size) (fun e=>by have:=hr q e.symm; omega)).trans (h.block q hq hne)⟩
structure Zkp (s:ByteArray)(l:List Tk)(w wr:World)(b:Nat)(v:Value)(sn:Nat->Bool)(vs:Nat->Value)(k i0:Nat)(f i:Nat)(ns:List Int)(u:Value):Prop where
 rdr:Ks wr b s v i sn (Dc vs k u)
 row:wr.ownsRow w.heap.size 3 1 u ns.length (Yz ns)
 gb:w.grownBy wr (some b)
 eq:Gm s l k f i ns=Gm s l k 13 i0 []
 fuel:13<=ns.length+f
 len:ns.length<=12
 fit:i<=l.length
theorem Zkp.below {s:ByteArray}{l:List Tk}{w wr wr':World}{b:Nat}{v:Value}{sn:Nat->Bool}{vs:Nat->Value}{k i0 f i:Nat}{ns:List Int}{u:Value}(h:Zkp s l w wr b v sn vs k i0 f i ns u)(hb:Below wr.heap.size wr wr'):Zkp s l w wr' b v sn vs k i0 f i ns u :=
 ⟨h.rdr.below hb,World.ownsRow.kept h.row (Zo (row:=none) hb) (by cases u.ownBlock <;> simp),Yj h.gb (Zo hb),h.eq,h.fuel,h.len,h.fit⟩
theorem Zkp.next {s:ByteArray}{l:List Tk}{w wr w1:World}{b:Nat}{v:Value}{sn:Nat->Bool}{vs:Nat->Value}{k i0 f i:Nat}{ns:List Int}{u:Value}(h:Zkp s l w wr b v sn vs k i0 f i ns u)(hg:wr.grownBy w1 (some b))(hb:b<w.heap.size):w1.ownsRow w.heap.size 3 1 u ns.length (Yz ns)∧w.grownBy w1 (some b) :=
 ⟨World.ownsRow.kept h.row hg (Or.inr (fun e=>by have:=(h.row.lt b e).1; omega)),Yj h.gb hg⟩
theorem Zwq {s:ByteArray}{l:List Tk}{i:Nat}{d:Bool}{n:Int}(h:Zbd s l i d=some n):i<l.length:=by
 unfold Zbd at h;have:kAt l i≠0:=fun e=>by simp [e] at h
 unfold kAt at this;split at this
 ·rename_i t ht; exact(List.getElem?_eq_some_iff.1 ht).1
 ·simp at this
theorem Zbb {w:World}{base n:Nat}{v:Value}{xs:List Value}(h:w.ownsRow base 3 1 v (n+1) xs):∃ g cap,v=.slice (some ⟨g,0,none⟩) (n+1) cap:=by
 rcases h.2 with⟨_,e⟩ | ⟨g,cap,cur,e,-⟩
 ·omega
 ·exact⟨g,cap,e⟩
theorem Ks.set_val {w:World}{b:Nat}{s:ByteArray}{v:Value}{i:Nat}{sn:Nat->Bool}{vs:Nat->Value}{u:Value}(h:Ks w b s v i sn vs)(k:Nat)(hk:k<11):Ks (w.setCell ⟨b,14+k,none⟩ u) b s v i sn (Dc vs k u):=by
 have e:∀ o,o≠14+k->(w.setCell ⟨b,14+k,none⟩ u).cell? ⟨b,o,none⟩=w.cell? ⟨b,o,none⟩:=fun o ho=>World.cell?_setCell_other _ _ _ _ (by intro e; simp at e; first | done | omega);refine⟨(e _ (by omega)).trans h.txt,(e _ (by omega)).trans h.pcs,(e _ (by omega)).trans h.nxt,fun j hj=>(e _ (by omega)).trans (h.seen j hj),fun j hj=>?_,fun j=>by rw [World.frozen?_setCell]; exact h.frz j⟩;by_cases hjk:j=k
 ·subst hjk; simp only [Dc,if_true]; exact World.cell?_setCell_same _ _ _ (h.vals j hj)
 ·simp only [Dc,hjk,if_false]; exact(e _ (by omega)).trans (h.vals j hj)
theorem Ks.of_block {w w':World}{b:Nat}{s:ByteArray}{v:Value}{i:Nat}{sn:Nat->Bool}{vs:Nat->Value}(h:Ks w b s v i sn vs)(hb:w'.heap[b]?=w.heap[b]?):Ks w' b s v i sn vs:=by have e:∀ o,w'.cell? ⟨b,o,none⟩=w.cell? ⟨b,o,none⟩:=fun o=>World.cell?_of_block hb;exact⟨(e _).trans h.txt,(e _).trans h.pcs,(e _).trans h.nxt,fun k hk=>(e _).trans (h.seen k hk),fun k hk=>(e _).trans (h.vals k hk),fun j=>(World.frozen?_of_block (a:=⟨b,j,none⟩) hb).trans (h.frz j)⟩
theorem Zrw (vs:Nat->Value)(k:Nat)(u u':Value):Dc (Dc vs k u) k u'=Dc vs k u':=funext fun j=>by unfold Dc; split <;> rfl
theorem Zey (k:Nat)(hk:k<11)(w:World)(b base:Nat)(s:ByteArray)(v:Value)(i:Nat)(sn:Nat->Bool)(vs:Nat->Value)(l:List Tk)(h:Ks w b s v i sn vs)(hv:vs k=.slice none 0 0)(ho:Yu w base v l)(hvb:v.ownBlock≠some b)(hl:l.length<=400)(hi:i<=l.length)(hw:WfT s l)(hI:Itm w)(hbI:1≠b) :
 Calls Tryz.prog 159 #[.pointer (some ⟨b,0,none⟩),.int .i64 k] w fun e w'=>∃ f i' ns u,Zkp s l w w' b v sn vs k i f i' ns u∧(i',ns)=Gm s l k 13 i []∧e=.returned (.bool (decide (loK k<=ns.length))):=by
 obtain⟨ti,hti,hz0,hz1,hz2⟩:=Xy Tryz.infoI;have hb0:b<w.heap.size:=World.block_lt_of_cell? w _ h.txt;have HH:=Ze (show Ks w b s v i sn (Dc vs k (.slice none 0 0)) by
  have e:Dc vs k (.slice none 0 0)=vs:=funext fun j=>by
   unfold Dc;split
   ·rename_i hj; rw [hj,hv]
   ·rfl
  rw [e]; exact h)
 have HO:=Ze ho;have HW:=Ze hw;have HIt:=Ze hI;clear h hv ho hw hI;go_enter Tryz.func159,Tryz.ntmps159
 go_wp2_with fail
 go_loopw [5] (fun _ wr=>∃ f i' ns u,Zkp s l w wr b v sn vs k i f i' ns u) (fun _ wr=>13-Yhm (wr.cell? ⟨b,14+k,none⟩))
 case atStart=>exact⟨13,i,[],_,⟨Zb HH,World.ownsRow_nil _ _ _ _,⟨rfl,rfl,rfl,Nat.le_refl _,fun _ _ _=>rfl⟩,rfl,by simp,by simp,hi⟩⟩
 case round =>
  obtain⟨f,i',ns,u,hN⟩:=hrel;have cu:_=some u:=(hN.rdr.vals k hk).trans (by simp [Dc]);have It:=(Zb HIt).grown hN.gb hbI;have ch:=It.hi k hk;have cl:=It.lo k hk;have cd:=(It.items k hk).2;obtain⟨ua,ucap,rfl⟩:∃ ua ucap,u=.slice ua ns.length ucap:=by
   rcases hN.row.2 with⟨e1,e2⟩ | ⟨g,cap,cur,e1,-⟩
   ·rw [e2]; exact⟨_,_,e1⟩
   ·exact⟨_,_,e1⟩
  have h12:=Yfe k;have hlen:=hN.len;have HN:=Ze hN;clear hN It;by_cases hlt:ns.length<hiK k
  ·have HC:=Ze (Zhr (decide (k=2)) wr.drew b base s v i' sn _ l ((Zb HN).below (by go_grown)).rdr ((Zb HO).grown ((Zb HN).below (wr':=wr.drew) (by go_grown)).gb hvb) hl (Zb HN).fit (Zb HW));cases hnf:Zbd s l i' (decide (k=2)) with
   | none =>
    have hE:(i',ns)=Gm s l k 13 i []:=by rw [←(Zb HN).eq];cases f <;> simp [Gm,hnf]
    rw [hnf] at HC;simp only [Option.getD_none,Option.isSome_none,Bool.false_eq_true,if_false] at HC;generalize hn:ns.length=n at *;generalize hiK k=hh at *;generalize decide (k=2)=dd at *;go_wp2;go_region
    all_goals go_wp2_with fail
    all_goals refine(Zb HC).mono ?_
    all_goals rintro e w1 ⟨rfl,hg1,hr1⟩
    all_goals
     have hx:=((Zb HN).below (wr':=wr.drew) (by go_grown)).next hg1 hb0;have N1:Zkp s l w w1 b v sn vs k i f i' ns (.slice ua n ucap):=⟨hr1,hx.1,hx.2,(Zb HN).eq,(Zb HN).fuel,(Zb HN).len,(Zb HN).fit⟩;have It1:=(Zb HIt).grown hx.2 hbI;have cl1:=It1.lo k hk;have cu1:w1.cell? ⟨b,14+k,none⟩=some (.slice ua n ucap):=(hr1.vals k hk).trans (by simp [Dc]);have HN1:=Ze N1;clear hx N1 It1 hg1 hr1;go_wp2;go_region
     all_goals go_wp2
     all_goals go_ret
     all_goals exact⟨f,i',ns,_,(Zb HN1).below (by go_grown),hE,by simp [hn]⟩
   | some z =>
    rw [hnf] at HC;simp only [Option.getD_some,Option.isSome_some,if_true] at HC;obtain⟨f,rfl⟩:∃ f',f=f'+1:=⟨f-1,by have:=(Zb HN).fuel; omega⟩;have hE:Gm s l k f (i'+1) (ns++[z])=Gm s l k 13 i []:=by rw [←(Zb HN).eq];simp [Gm,hlt,hnf]
    have hfit:=Zwq hnf;have HE:=Ze hE;clear hE hnf;generalize hn:ns.length=n at *;generalize hiK k=hh at *;generalize decide (k=2)=dd at *;go_wp2;go_region
    all_goals go_wp2_with fail
    all_goals refine(Zb HC).mono ?_
    all_goals rintro e w1 ⟨rfl,hg1,hr1⟩
    all_goals
     have hx:=((Zb HN).below (wr':=wr.drew) (by go_grown)).next hg1 hb0;rw [hn] at hx;have HROW:=Ze hx.1;have HGB:=Ze hx.2;have hsz1:=hx.2.size;have cu1:w1.cell? ⟨b,14+k,none⟩=some (.slice ua n ucap):=(hr1.vals k hk).trans (by simp [Dc]);have hb1:b<w1.heap.size:=World.block_lt_of_cell? w1 _ cu1;have cu2:(w1.alloc (.cells #[.int .i64 z] 3)).cell? ⟨b,14+k,none⟩=some (.slice ua n ucap):=(World.cell?_alloc_lt _ _ ⟨b,14+k,none⟩ hb1).trans cu1;have cf2:(w1.alloc (.cells #[.int .i64 z] 3)).frozen? ⟨b,14+k,none⟩=false:=(World.frozen?_alloc_old _ _ ⟨b,14+k,none⟩ (by show b≠_; omega)).trans (hr1.frz (14+k));have hkI:(k:Int)<11:=by omega
     have HR1:=Ze hr1;clear hx hg1 hr1;go_wp2;go_region_law (refine Zed rfl (.tmp 37) (.tmp 39) 23 rfl w.heap.size 3 ti _ 1 8 Tryz.underlying23 hti hz0 hz1 hz2 rfl (by decide) (.slice ua n ucap) n (Yz ns) (by simp [Act.eval]) ((Zb HROW).alloc _) ⟨w1.heap.size,0,none⟩ 1 1 [.int .i64 z] (by simp [Act.eval]) rfl (by intro j u hj; match j,hj with | 0,hj=>simp at hj; subst hj; simp [Addr.add]) (by intro u hu; simp at hu; subst hu; rfl) (by unfold maxLen; omega) (by omega) (by simp; omega) ?_; intro v' w2 hown hgr; obtain⟨g2,cap2,rfl⟩:=Zbb hown; have hblk:=hgr.block b (by simp; omega) (by intro e; have:=((Zb HROW).lt b e.symm).1; omega); have cu3:w2.cell? ⟨b,14+k,none⟩=some (.slice ua n ucap):=(World.cell?_of_block hblk).trans cu2; have cf3:w2.frozen? ⟨b,14+k,none⟩=false:=(World.frozen?_of_block (a:=⟨b,14+k,none⟩) hblk).trans cf2; have HBK:=Ze hblk; have HOWN:=Ze hown; have HGR:=Ze hgr; clear hown hgr hblk)
     all_goals go_wp2
     all_goals
      go_roundw
      case rel =>
       refine⟨f,i'+1,ns++[z],.slice (some ⟨g2,0,none⟩) (n+1) cap2,⟨?_,?_,Yj (Zpn (Yj (Zb HGB) (Zo (show Below w1.heap.size w1 (w1.alloc (.cells #[.int .i64 z] 3)).drew by go_grown))) (Zb HGR) (fun q hq=>((Zb HROW).lt q hq).1)) (Nz _ _ _ _),Zb HE,by have:=(Zb HN).fuel; simp; omega,by simp; omega,by omega⟩⟩
       ·have h1:=((Zb HR1).of_block ((Zb HBK).trans (Lib.alloc_old w1 _ b hb1))).set_val (u:=.slice (some ⟨g2,0,none⟩) (n+1) cap2) k hk;rw [Zrw] at h1;exact h1
       ·have h1:=ownsRow_setCell_below (Zb HOWN) (a:=⟨b,14+k,none⟩) hb0 (.slice (some ⟨g2,0,none⟩) (n+1) cap2);have e1:Yz (ns++[z])=Yz ns++[.int .i64 z]:=by simp [Yz]
        have e2:(ns++[z]).length=n+1:=by simp [hn]
        rw [e1,e2];exact h1
      case measure=>rw [World.cell?_setCell_same _ _ _ cu3,cu];simp only [Yhm];omega
  ·have hE:(i',ns)=Gm s l k 13 i []:=by rw [←(Zb HN).eq];cases f <;> simp [Gm,hlt]
   generalize hn:ns.length=n at *;generalize hiK k=hh at *;go_wp2;go_region
   all_goals go_wp2
   all_goals go_region
   all_goals go_wp2
   all_goals go_ret
   all_goals exact⟨f,i',ns,_,(Zb HN).below (by go_grown),hE,by simp [hn]⟩
set_option maxHeartbeats 2000000
set_option maxRecDepth 100000
theorem Yby {s:ByteArray}{l:List Tk}{k p:Nat}(h:WfT s l)(hp:p<s.size)(hk:Jd (s.get! p).toNat=k)(h3:3<=k∧k<=6):WfT s (Kd l k p):=by
 have hnew:WfT s (l++[⟨k,p,p+1⟩]):=fun t ht=>by
  rcases List.mem_append.1 ht with h1 | h1
  ·exact h t h1
  ·simp at h1;subst h1;exact⟨by simp,hp,h3.1,h3.2,fun i h4 h5=>by
    have h4':p<=i:=h4;have h5':i<p+1:=h5;have:i=p:=by omega
    subst this; exact hk⟩
 unfold Kd;split
 ·rename_i t ht;split
  ·rename_i hc;obtain⟨hc1,hc2,hc3⟩:=hc;have hl:t ∈ l:=List.mem_of_getLast? ht;obtain⟨a1,a2,a3,a4,a5⟩:=h t hl;intro u hu;rcases List.mem_append.1 hu with h1 | h1
   ·exact h u (List.dropLast_subset l h1)
   ·simp at h1;subst h1;refine⟨show t.a<p+1 by omega,hp,a3,a4,fun i h4 h5=>?_⟩;have h4':t.a<=i:=h4;have h5':i<p+1:=h5;show _=t.k;by_cases hi:i=p
    ·subst hi; rw [hk,hc2]
    ·exact a5 i h4' (by omega)
  ·exact hnew
 ·exact hnew
theorem Zae {s:ByteArray}:∀(f p:Nat) (c:Bool) (acc l:List Tk),Lp s f p c acc=.inr l->WfT s acc->WfT s l∧l.length+p<=acc.length+max p s.size
 | 0,p,c,acc,l,h,hw=>by
  simp only [Lp,Sum.inr.injEq] at h;subst h;exact⟨hw,by omega⟩
 | f+1,p,c,acc,l,h,hw=>by
  have hd:=Zpo s p;by_cases hp:p<s.size
  ·have hfit:=Ybx s p hp;cases c with
   | true =>
    simp only [Lp,hp,if_true] at h;split at h
    ·cases h
    ·have:=Zae f _ _ acc l h hw;exact⟨this.1,by have:=this.2; omega⟩
   | false =>
    simp only [Lp,hp,if_true,Bool.false_eq_true,if_false] at h;split at h
    ·cases h
    ·rename_i h0;split at h
     ·have:=Zae f _ _ acc l h hw;exact⟨this.1,by have:=this.2; omega⟩
     ·split at h
      ·have:=Zae f _ _ acc l h hw;exact⟨this.1,by have:=this.2; omega⟩
      ·have h6:=Zkk (Utf8.decode s p).1;have:=Zae f _ _ _ l h (Yby hw hp (Zww s p).symm ⟨by omega,h6⟩);have h7:=Zkh acc (Jd (Utf8.decode s p).1) p;exact⟨this.1,by have:=this.2; omega⟩
  ·simp only [Lp,hp,if_false,Sum.inr.injEq] at h;subst h;exact⟨hw,by omega⟩
theorem Yfj {s:ByteArray}{l:List Tk}(h:Lp s s.size 0 false []=.inr l):WfT s l∧l.length<=s.size:=by have:=Zae _ _ _ _ _ h (fun t ht=>by cases ht);exact⟨this.1,by have:=this.2; simp at this; omega⟩
def Zfa (sn:Nat->Bool):Bool:=(List.range 10).all sn
theorem Zxe (w:World)(b:Nat)(s:ByteArray)(v:Value)(i:Nat)(sn:Nat->Bool)(vs:Nat->Value)(h:Ks w b s v i sn vs)(hI:Itm w) :
 Calls Tryz.prog 69 #[.pointer (some ⟨b,0,none⟩)] w fun e w'=>e=.returned (.bool (Zfa sn))∧w'=w:=by
 have HR:=Ze h;have HI:=Ze hI;clear h hI;go_enter Tryz.func69,Tryz.ntmps69
 go_wp2_with fail
 go_loopw [4] (fun j w2=>∃ k:Nat,j=.int .i64 k∧w2=w∧k<=11∧∀ q,q<k->q<10->sn q=true) (fun j _=>11-(intOf j).toNat)
 case atStart=>exact⟨0,rfl,rfl,by omega,fun i hi=>by omega⟩
 case round =>
  obtain⟨k,rfl,rfl,hk,hall⟩:=hrel;by_cases hk2:k<11
  ·have cs:=(Zb HR).seen k hk2;have cp:=(Zb HI).spare k hk2;have HA:=Ze hall;clear hall;cases hsn:sn k with
   | true =>
    rw [hsn] at cs;go_wp2;go_roundw
    case rel=>exact⟨k+1,by go_num,by trivial,by omega,fun q hq hq2=>by
     rcases Nat.lt_succ_iff_lt_or_eq.1 hq with h | h
     ·exact Zb HA q h hq2
     ·subst h; exact hsn⟩
    case measure=>simp [intOf]; omega
   | false =>
    rw [hsn] at cs;by_cases h10:k=10
    ·subst h10;simp only [decide_true] at cp;go_wp2;go_roundw
     case rel=>exact⟨11,by go_num,by trivial,by omega,fun q hq hq2=>Zb HA q (by omega) hq2⟩
     case measure=>simp [intOf]
    ·have hno:Zfa sn=false:=by unfold Zfa;rw [List.all_eq_false];exact⟨k,List.mem_range.2 (by omega),by simp [hsn]⟩
     simp only [h10,decide_false] at cp;go_wp2;go_ret;exact⟨by rw [hno]; rfl,rfl⟩
  ·have hk3:k=11:=by omega
   subst hk3;have hyes:Zfa sn=true:=by unfold Zfa;rw [List.all_eq_true];exact fun q hq=>hall q (by have:=List.mem_range.1 hq; omega) (List.mem_range.1 hq)
   clear hall;go_wp2;go_ret;exact⟨by rw [hyes]; rfl,rfl⟩
set_option maxHeartbeats 4000000
set_option maxRecDepth 100000
structure Uy where
 i:Nat
 sn:Nat->Bool
 vals:Nat->List Int
def Zea (sn:Nat->Bool)(k:Nat):Nat->Bool:=fun j=>if j=k then true else sn j
def Zeb (vals:Nat->List Int)(k:Nat)(ns:List Int):Nat->List Int:=fun j=>if j=k then ns else vals j
def Zec (s:ByteArray)(l:List Tk)(i:Nat)(sn:Nat->Bool):Option Nat:=(List.range 11).find? fun k=>decide (nm k=(tAt s l i).data.toList)&&!sn k
theorem Znf {s:ByteArray}{l:List Tk}{i:Nat}{sn:Nat->Bool}(h:∀ k,¬ Zbe s l i sn k):Zec s l i sn=none:=by unfold Zec;rw [List.find?_eq_none];intro k hk hc;simp at hc;exact h k ⟨List.mem_range.1 hk,hc.1,hc.2⟩
theorem Zng {s:ByteArray}{l:List Tk}{i:Nat}{sn:Nat->Bool}{k:Nat}(h:Zbe s l i sn k):Zec s l i sn=some k:=by
 cases hf:Zec s l i sn with
 | none=>unfold Zec at hf;rw [List.find?_eq_none] at hf;have:=hf k (List.mem_range.2 h.1);simp [h.2.1,h.2.2] at this
 | some j=>unfold Zec at hf;have h1:=List.find?_some hf;have h2:=List.mem_of_find?_eq_some hf;simp at h1;exact congrArg some (Zxb (List.mem_range.1 h2) h.1 (h1.1.trans h.2.1.symm))
def Ln (s:ByteArray)(l:List Tk)(S:Uy):Bool×Uy :=
 match Zec s l S.i S.sn with
 | none=>(false,S)
 | some k =>
  if loK k<=(Gm s l k 13 (S.i+1) []).2.length then
   (if kAt l (Gm s l k 13 (S.i+1) []).1=6 then (true,⟨(Gm s l k 13 (S.i+1) []).1+1,Zea S.sn k,Zeb S.vals k (Gm s l k 13 (S.i+1) []).2⟩)
   else (false,⟨(Gm s l k 13 (S.i+1) []).1,Zea S.sn k,Zeb S.vals k (Gm s l k 13 (S.i+1) []).2⟩))
  else (false,⟨(Gm s l k 13 (S.i+1) []).1,Zea S.sn k,Zeb S.vals k (Gm s l k 13 (S.i+1) []).2⟩)
def Zpl (vs:Nat->Value):Prop:=∀ j k,j<11->k<11->j≠k->∀ g,(vs j).ownBlock=some g->(vs k).ownBlock≠some g
theorem Zpl.upd {vs:Nat->Value}{k N:Nat}{u:Value}(h:Zpl vs)(hu:∀ g,u.ownBlock=some g->N<=g)(ho:∀ j,j<11->∀ g,(vs j).ownBlock=some g->g<N):Zpl (Dc vs k u):=by
 intro i j hi hj hij g h1 h2;unfold Dc at h1 h2;split at h1
 ·split at h2
  ·omega
  ·have:=hu g h1; have:=ho j hj g h2; omega
 ·split at h2
  ·have:=hu g h2; have:=ho i hi g h1; omega
  ·exact h i j hi hj hij g h1 h2
structure RS (s:ByteArray)(l:List Tk)(W0:Nat)(w:World)(b:Nat)(v:Value)(S:Uy)(vs:Nat->Value):Prop where
 rdr:Ks w b s v S.i S.sn vs
 row:∀ k,k<11->w.ownsRow W0 3 1 (vs k) (S.vals k).length (Yz (S.vals k))
 new:∀ k,k<11->S.sn k=false->vs k=.slice none 0 0
 fit:S.i<=l.length
 apart:Zpl vs
theorem Lg {w w':World}{W0 b n:Nat}{u:Value}{xs:List Value}(h:w.ownsRow W0 3 1 u n xs)(hg:w.grownBy w' (some b))(hb:b<W0):w'.ownsRow W0 3 1 u n xs :=
 World.ownsRow.kept h hg (Or.inr (fun e=>by have:=(h.lt b e).1; omega))
theorem Jc {w:World}{b c n:Nat}{u:Value}{xs:List Value}(h:w.ownsRow b 3 1 u n xs)(hc:c<=b):w.ownsRow c 3 1 u n xs:=by
 refine⟨h.1,?_⟩;rcases h.2 with h' | ⟨g,cap,cur,h1,h2,h3⟩
 ·exact Or.inl h'
 ·exact Or.inr ⟨g,cap,cur,h1,by omega,h3⟩
theorem Yhk {l:List Tk}{i:Nat}(h:kAt l i=6):i<l.length:=by
 unfold kAt at h;split at h
 ·rename_i t ht; exact(List.getElem?_eq_some_iff.1 ht).1
 ·simp at h
theorem Znh (w:World)(b base W0:Nat)(s:ByteArray)(v:Value)(S:Uy)(vs:Nat->Value)(l:List Tk)(h:RS s l W0 w b v S vs)(hb:b<W0)(hW:W0<=w.heap.size)(ho:Yu w base v l)(hvb:v.ownBlock≠some b)(hl:l.length<=400)(hw:WfT s l)(hI:Itm w)(hbI:1≠b)(hlt:S.i<l.length) :
 Calls Tryz.prog 110 #[.pointer (some ⟨b,0,none⟩)] w fun e w'=>e=.returned (.bool (Ln s l S).1)∧w.grownBy w' (some b)∧∃ vs',RS s l W0 w' b v (Ln s l S).2 vs':=by
 have HC:=Ze (Znm w b base s v S.i S.sn vs l h.rdr ho hl h.fit hw hI.items hI.lt);have HS:=Ze h;have HO:=Ze ho;have HW:=Ze hw;have HI:=Ze hI;clear h ho hw hI;go_enter Tryz.func110,Tryz.ntmps110
 go_wp2_with fail
 refine(Zb HC).mono ?_;clear HC;rintro e w1 (⟨k,hn,rfl,hg1,hr1⟩ | ⟨hno,rfl,hg1,hr1⟩)
 ·have hk:=hn.1;have HN:=Ze (Zey k hk w1 b base s v (S.i+1) (Zea S.sn k) vs l hr1 ((Zb HS).new k hk hn.2.2) ((Zb HO).grown hg1 hvb) hvb hl (by omega) (Zb HW) ((Zb HI).grown hg1 hbI) hbI);have HK:=Ze (Zng hn);have G1:=Ze hg1;clear hn hg1 hr1;go_wp2_with fail
  refine(Zb HN).mono ?_;clear HN;rintro e w2 ⟨f,i',ns,u,hNI,hE,rfl⟩;have hrows:∀ j,j<11->w2.ownsRow W0 3 1 (Dc vs k u j) (Zeb S.vals k ns j).length (Yz (Zeb S.vals k ns j)):=fun j hj=>by
   by_cases hjk:j=k
   ·subst hjk;simp only [Dc,Zeb,if_true];exact Jc hNI.row (Nat.le_trans hW (Zb G1).size)
   ·simp only [Dc,Zeb,hjk,if_false];exact Lg (Lg ((Zb HS).row j hj) (Zb G1) hb) hNI.gb hb
  have hnew:∀ j,j<11->Zea S.sn k j=false->Dc vs k u j=.slice none 0 0:=fun j hj hs=>by
   by_cases hjk:j=k
   ·subst hjk; simp [Zea] at hs
   ·simp only [Zea,Dc,hjk,if_false] at hs ⊢;exact(Zb HS).new j hj hs
  have HAP:=Ze ((Zb HS).apart.upd (k:=k) (fun g hg=>(hNI.row.lt g hg).1) (fun j hj g hg=>Nat.lt_of_lt_of_le ((Zb HS).row j hj |>.lt g hg).2 (Zb G1).size));have G2:=Ze (Yj (Zb G1) hNI.gb);have hN1:(Gm s l k 13 (S.i+1) []).1=i':=by rw [← hE]
  have hN2:(Gm s l k 13 (S.i+1) []).2=ns:=by rw [← hE]
  by_cases hlo:loK k<=ns.length
  ·have HT:=Ze (Znl w2 b base s v i' (Zea S.sn k) _ l hNI.rdr ((Zb HO).grown (Zb G2) hvb) hl hNI.fit (Zb HW));have hfit:=hNI.fit;have hF:Ln s l S=(decide (kAt l i'=6),⟨if kAt l i'=6 then i'+1 else i',Zea S.sn k,Zeb S.vals k ns⟩):=by unfold Ln;rw [Zb HK];simp only [hN1,hN2,hlo,if_true];by_cases h6:kAt l i'=6 <;> simp [h6]
   have HR:=Ze hrows;have HNW:=Ze hnew;have HF:=Ze hF;clear hNI hE hrows hnew hN1 hN2 hF;simp only [hlo,decide_true];go_wp2_with fail
   refine(Zb HT).mono ?_;rintro e w3 ⟨rfl,hg3,hr3⟩;have G3:=Ze (Yj (Zb G2) hg3);have HR3:=Ze (fun j hj=>Lg (Zb HR j hj) hg3 hb);have H3:=Ze hr3;have hf3:(if kAt l i'=6 then i'+1 else i')<=l.length:=by
    split
    ·rename_i h6; have:=Yhk h6; omega
    ·exact hfit
   clear hg3 hr3;go_wp2;go_ret;rw [Zb HF];exact⟨rfl,Zb G3,_,⟨Zb H3,Zb HR3,Zb HNW,hf3,Zb HAP⟩⟩
  ·have hF:Ln s l S=(false,⟨i',Zea S.sn k,Zeb S.vals k ns⟩):=by unfold Ln;rw [Zb HK];simp only [hN1,hN2,hlo,if_false]
   have HR:=Ze hrows;have HNW:=Ze hnew;have HD:=Ze hNI.rdr;have hfit:=hNI.fit;have HF:=Ze hF;clear hNI hE hrows hnew hN1 hN2 hF;simp only [hlo,decide_false];go_wp2;go_ret;rw [Zb HF];exact⟨rfl,Zb G2,_,⟨Zb HD,Zb HR,Zb HNW,hfit,Zb HAP⟩⟩
 ·have hF:Ln s l S=(false,S):=by unfold Ln;rw [Znf hno]
  have HF:=Ze hF;clear hF;have H1:=Ze hr1;have G1:=Ze hg1;clear hno hr1 hg1;go_wp2;go_ret;rw [Zb HF];exact⟨rfl,Zb G1,vs,⟨Zb H1,fun k hk=>Lg ((Zb HS).row k hk) (Zb G1) hb,(Zb HS).new,(Zb HS).fit,(Zb HS).apart⟩⟩
def Rs (w:World)(v:Value)(ns:List Int):Prop:=(ns=[]∧∃ p cap,v=.slice p 0 cap)∨∃ sb so cap,v=.slice (some ⟨sb,so,none⟩) ns.length cap∧∀ i,i<ns.length->w.cell? ⟨sb,so+i,none⟩=some (.int .i64 (ns.getD i 0))
theorem Rs.below {w w':World}{v:Value}{ns:List Int}(h:Rs w v ns)(hb:Below w.heap.size w w'):Rs w' v ns:=by
 rcases h with h | ⟨sb,so,cap,e,hc⟩
 ·exact Or.inl h
 ·exact Or.inr ⟨sb,so,cap,e,fun i hi=>(hb.cell (p:=⟨sb,so+i,none⟩) (ltc (hc i hi))).trans (hc i hi)⟩
def Yig (r sp lk t0 t1:Int)(ag rs ss:List Int)(al sh by_:Int)(k:Nat):List Int:=[[r],[sp],[lk],[t0,t1],ag,rs,ss,[al],[sh],[by_]].getD k []
def pre (r sp lk t0 t1:Int)(ag rs ss:List Int)(al sh by_:Int):Nat->List UInt8
 | 0=>[]
 | k+1=>pre r sp lk t0 t1 ag rs ss al sh by_ k++Ys k (Yig r sp lk t0 t1 ag rs ss al sh by_ k)
theorem Rs.form {w:World}{v:Value}{ns:List Int}(h:Rs w v ns):∃ p n cap,v=.slice p n cap:=by
 rcases h with⟨_,p,cap,e⟩ | ⟨sb,so,cap,e,_⟩
 ·exact⟨_,_,_,e⟩
 ·exact⟨_,_,_,e⟩
theorem Rs.get {w:World}{v:Value}{ns:List Int}(h:Rs w v ns)(hn:ns≠[]):∃ sb so cap,v=.slice (some ⟨sb,so,none⟩) ns.length cap∧∀ i,i<ns.length->w.cell? ⟨sb,so+i,none⟩=some (.int .i64 (ns.getD i 0)):=by
 rcases h with⟨e,_⟩ | h
 ·exact absurd e hn
 ·exact h
theorem Zhu {ns:List Int}{x:Int}{k:Nat}(hk:k<ns.length)(h:¬ x ∈ ns.take k)(hx:ns.getD k 0≠x):¬ x ∈ ns.take (k+1):=by
 rw [List.take_succ_eq_append_getElem hk];intro hm;rcases List.mem_append.1 hm with h' | h'
 ·exact h h'
 ·simp at h';exact hx (by simp [List.getD,hk,h'])
theorem Zkt {ns:List Int}{x:Int}{k:Nat}(hk:k<ns.length)(hx:ns.getD k 0=x):x ∈ ns:=by
 have:ns[k]=x:=by simpa [List.getD,hk] using hx
 exact this ▸ List.getElem_mem hk
set_option maxHeartbeats 1000000
set_option maxRecDepth 100000
theorem Mb (ns:List Int)(x:Int)(v:Value)(w:World)(h:Rs w v ns)(hn:ns.length<=1000000):Calls Tryz.prog 163 #[v,.int .i64 x] w fun e w'=>e=.returned (.bool (decide (x ∈ ns)))∧w'=w:=by
 by_cases hne:ns=[]
 ·obtain⟨p,cap,rfl⟩:∃ p cap,v=.slice p 0 cap:=by
   rcases h with⟨_,p,cap,e⟩ | ⟨sb,so,cap,e,_⟩
   ·exact⟨p,cap,e⟩
   ·rw [hne] at e; exact⟨_,_,e⟩
  refine(Tryz.slices_Contains_int_empty p cap x w).mono ?_;rintro e w' ⟨rfl,rfl⟩;exact⟨by rw [hne]; simp,rfl⟩
 ·obtain⟨sb,so,cap,rfl,hc⟩:=h.get hne;refine(Tryz.slices_Contains_int sb so ns.length cap ns x w (Nat.le_refl _) (by omega) hc).mono ?_;rintro e w' ⟨rfl,rfl⟩;exact⟨by rw [List.take_length]; simp,rfl⟩
def Mu (al bs:List Int):Bool:=al.any fun r=>decide (r ∈ bs)
theorem Zei (al bs:List Int)(va vb:Value)(w:World)(ha:Rs w va al)(hb:Rs w vb bs)(hna:al.length<=1000000)(hnb:bs.length<=1000000):Calls Tryz.prog 116 #[va,vb] w fun e w'=>e=.returned (.bool (Mu al bs))∧w'=w:=by
 have HB:=Ze hb;clear hb;by_cases hne:al=[]
 ·obtain⟨p,cap,rfl⟩:∃ p cap,va=.slice p 0 cap:=by
   rcases ha with⟨_,p,cap,e⟩ | ⟨sb,so,cap,e,_⟩
   ·exact⟨p,cap,e⟩
   ·rw [hne] at e; exact⟨_,_,e⟩
  subst hne;clear ha;go_enter Tryz.func116,Tryz.ntmps116
  go_wp2_with fail
  refine wp_loop_rounds 1 ?_;rw [rounds_succ];go_wp2;go_ret;exact⟨rfl,rfl⟩
 ·obtain⟨sb,so,cap,rfl,hc⟩:=ha.get hne;have HC:=Ze hc;clear ha hc;go_enter Tryz.func116,Tryz.ntmps116
  go_wp2_with fail
  go_loopw [9] (fun j w'=>∃ k:Nat,j=.int .i64 k∧k<=al.length∧w'=w∧Mu (al.take k) bs=false) (fun j _=>al.length-(intOf j).toNat)
  case atStart=>exact⟨0,rfl,by omega,rfl,by simp [Mu]⟩
  case round =>
   obtain⟨k,rfl,hk,rfl,hno⟩:=hrel;have HN:=Ze hno;clear hno;by_cases hlt:k<al.length
   ·have c:=Zb HC k hlt;have HD:=Ze (Mb bs (al.getD k 0) vb wr (Zb HB) hnb);have hg:al.getD k 0=al[k]:=by simp [List.getD,hlt]
    have hst:Mu (al.take (k+1)) bs=decide (al.getD k 0 ∈ bs):=by rw [List.take_succ_eq_append_getElem hlt];unfold Mu;rw [List.any_append];have:=Zb HN;unfold Mu at this;rw [this,hg];simp
    have hall:decide (al.getD k 0 ∈ bs)=true->Mu al bs=true:=fun h=>by
     unfold Mu;rw [List.any_eq_true];exact⟨al[k],List.getElem_mem hlt,by rw [← hg]; exact h⟩
    have HS:=Ze hst;have HA:=Ze hall;clear hst hall hg;generalize decide (al.getD k 0 ∈ bs)=yes at *;generalize al.getD k 0=y at *;go_wp2_with fail
    refine(Zb HD).mono ?_;rintro e w2 ⟨rfl,h2⟩;subst w2;cases yes with
    | true=>go_wp2;go_ret;exact⟨by simp [Zb HA trivial],rfl⟩
    | false =>
     go_wp2;go_roundw
     case rel=>exact⟨k+1,by go_num,by omega,trivial,Zb HS⟩
     case measure=>simp [intOf]; omega
   ·obtain rfl:k=al.length:=by omega
    have HT:=Ze (show Mu al bs=false by have:=Zb HN; rwa [List.take_length] at this);go_wp2;go_ret;exact⟨by simp [Zb HT],rfl⟩
set_option maxHeartbeats 2000000
set_option maxRecDepth 100000
def Zfb (l:List Int)(c:Int)(i:Nat):Bool:=decide (0<=l.getD i 0∧l.getD i 0<c∧¬ l.getD i 0 ∈ l.take i)
def Xz (l:List Int)(c:Int):Bool:=(List.range l.length).all (Zfb l c)
theorem Rs.take {w:World}{sb so:Nat}{ns:List Int}(hc:∀ i,i<ns.length->w.cell? ⟨sb,so+i,none⟩=some (.int .i64 (ns.getD i 0)))(k cap':Nat)(hk:k<=ns.length):Rs w (.slice (some ⟨sb,so,none⟩) k cap') (ns.take k):=by
 have hl:(ns.take k).length=k:=by simp; omega
 refine Or.inr ⟨sb,so,cap',by rw [hl],fun i hi=>?_⟩;rw [hl] at hi;rw [hc i (by omega)];simp [List.getD,hi]
theorem Mv (ns:List Int)(c:Int)(v:Value)(w:World)(h:Rs w v ns)(hn:ns.length<=1000000)(hcap:∀ a n cap,v=.slice a n cap->n<=cap):Calls Tryz.prog 115 #[v,.int .i64 c] w fun e w'=>e=.returned (.bool (Xz ns c))∧w'=w:=by
 by_cases hne:ns=[]
 ·obtain⟨p,cap,rfl⟩:∃ p cap,v=.slice p 0 cap:=by
   rcases h with⟨_,p,cap,e⟩ | ⟨sb,so,cap,e,_⟩
   ·exact⟨p,cap,e⟩
   ·rw [hne] at e; exact⟨_,_,e⟩
  subst hne;clear h hcap;go_enter Tryz.func115,Tryz.ntmps115
  go_wp2_with fail
  refine wp_loop_rounds 1 ?_;rw [rounds_succ];go_wp2;go_ret;exact⟨rfl,rfl⟩
 ·obtain⟨sb,so,cap,rfl,hc⟩:=h.get hne;have hcp:=hcap _ _ _ rfl;have HC:=Ze hc;clear h hc hcap;go_enter Tryz.func115,Tryz.ntmps115
  go_wp2_with fail
  go_loopw [9] (fun j w'=>∃ k:Nat,j=.int .i64 k∧k<=ns.length∧w'=w∧∀ q,q<k->Zfb ns c q=true) (fun j _=>ns.length-(intOf j).toNat)
  case atStart=>exact⟨0,rfl,by omega,rfl,fun q hq=>by omega⟩
  case round =>
   obtain⟨k,rfl,hk,rfl,hno⟩:=hrel;have HN:=Ze hno;clear hno;by_cases hlt:k<ns.length
   ·have cc:=Zb HC k hlt;have bad:Zfb ns c k=false->Xz ns c=false:=fun hb=>by
     unfold Xz;rw [List.all_eq_false];exact⟨k,List.mem_range.2 hlt,by simp [hb]⟩
    have HBAD:=Ze bad;have hrd:Zfb ns c k=decide (0<=ns.getD k 0∧ns.getD k 0<c∧¬ ns.getD k 0 ∈ ns.take k):=rfl;have HRD:=Ze hrd;have HCT:=Ze (fun cap'=>Mb (ns.take k) (ns.getD k 0) _ wr (Rs.take (Zb HC) k cap' (by omega)) (by simp; omega));have next:Zfb ns c k=true->∀ q,q<k+1->Zfb ns c q=true:=fun hb q hq=>by
     rcases Nat.lt_succ_iff_lt_or_eq.1 hq with h' | h'
     ·exact Zb HN q h'
     ·subst h'; exact hb
    have HNX:=Ze next;clear bad hrd next;generalize hy:ns.getD k 0=y at cc HRD HCT;clear hy;by_cases h0:0<=y
    ·by_cases h1:y<c
     ·generalize hm:decide (y ∈ ns.take k)=yes at HCT;have hrr:Zfb ns c k=!yes:=by rw [Zb HRD,← hm]; simp [h0,h1]
      have HRR:=Ze hrr;clear hrr hm;go_wp2_with fail
      refine(Zb HCT _).mono ?_;rintro e w2 ⟨rfl,h2⟩;subst w2;cases yes with
      | true=>have hrr:=Ze (Zb HBAD (Zb HRR));go_wp2;go_ret;exact⟨by simp [Zb hrr],rfl⟩
      | false =>
       have hrr:=Ze (Zb HNX (Zb HRR));go_wp2;go_roundw
       case rel=>exact⟨k+1,by go_num,by omega,trivial,Zb hrr⟩
       case measure=>simp [intOf]; omega
     ·have hrr:=Ze (Zb HBAD (by rw [Zb HRD]; simp; omega));go_wp2;go_ret;exact⟨by simp [Zb hrr],rfl⟩
    ·have hrr:=Ze (Zb HBAD (by rw [Zb HRD]; simp; omega));go_wp2;go_ret;exact⟨by simp [Zb hrr],rfl⟩
   ·obtain rfl:k=ns.length:=by omega
    have HT:=Ze (show Xz ns c=true by unfold Xz; rw [List.all_eq_true]; exact fun q hq=>Zb HN q (List.mem_range.1 hq));go_wp2;go_ret;exact⟨by simp [Zb HT],rfl⟩
set_option maxHeartbeats 2000000
def Zaf (r al sh by_:Int):Bool:=decide (4<=r∧r<=16∧(al=8∨al=16∨al=32)∧0<=sh∧sh<=32∧sh % 8=0∧0<=by_∧by_<=4)
theorem Zht (r sp lk t0 t1:Int)(va vr vs:Value)(al sh by_:Int)(pr:Bool)(w:World):Calls Tryz.prog 74 #[.agg (Zu r sp lk t0 t1 va vr vs al sh by_ pr)] w fun e w'=>e=.returned (.bool (Zaf r al sh by_))∧Below w.heap.size w w':=by
 unfold Zu;have no:∀ p:Prop,¬ (4<=r∧r<=16∧(al=8∨al=16∨al=32)∧0<=sh∧sh<=32∧sh % 8=0∧0<=by_∧by_<=4)->Zaf r al sh by_=false:=fun _ h=>decide_eq_false h;have NO:=Ze no;clear no;by_cases h1:4<=r
 ·by_cases h2:r<=16
  ·by_cases h3:al=8∨al=16∨al=32
   ·by_cases h4:0<=sh
    ·by_cases h5:sh<=32
     ·by_cases h6:sh % 8=0
      ·have z6:(sh % 8==0)=true:=by simp [h6]
       by_cases h7:0<=by_
       ·by_cases h8:by_<=4
        ·have hy:Zaf r al sh by_=true:=decide_eq_true ⟨h1,h2,h3,h4,h5,h6,h7,h8⟩;rw [hy];clear hy h6;rcases h3 with rfl | rfl | rfl;all_goals
          go_enter Tryz.func74,Tryz.ntmps74
          go_wp2;go_ret;exact⟨rfl,by go_grown⟩
        ·rw [Zb NO True (by omega)];clear h6;rcases h3 with rfl | rfl | rfl;all_goals
          go_enter Tryz.func74,Tryz.ntmps74
          go_wp2;go_ret;exact⟨rfl,by go_grown⟩
       ·rw [Zb NO True (by omega)];clear h6;rcases h3 with rfl | rfl | rfl;all_goals
         go_enter Tryz.func74,Tryz.ntmps74
         go_wp2;go_ret;exact⟨rfl,by go_grown⟩
      ·have z6:(sh % 8==0)=false:=by simp [h6]
       rw [Zb NO True (by omega)];clear h6;rcases h3 with rfl | rfl | rfl;all_goals
        go_enter Tryz.func74,Tryz.ntmps74
        go_wp2;go_ret;exact⟨rfl,by go_grown⟩
     ·rw [Zb NO True (by omega)];rcases h3 with rfl | rfl | rfl;all_goals
       go_enter Tryz.func74,Tryz.ntmps74
       go_wp2;go_ret;exact⟨rfl,by go_grown⟩
    ·rw [Zb NO True (by omega)];rcases h3 with rfl | rfl | rfl;all_goals
      go_enter Tryz.func74,Tryz.ntmps74
      go_wp2;go_ret;exact⟨rfl,by go_grown⟩
   ·rw [Zb NO True (by omega)];have z1:(al==8)=false:=by simp; omega
    have z2:(al==16)=false:=by simp; omega
    have z3:(al==32)=false:=by simp; omega
    clear h3;go_enter Tryz.func74,Tryz.ntmps74
    go_wp2;go_ret;exact⟨rfl,by go_grown⟩
  ·rw [Zb NO True (by omega)];go_enter Tryz.func74,Tryz.ntmps74
   go_wp2;go_ret;exact⟨rfl,by go_grown⟩
 ·rw [Zb NO True (by omega)];go_enter Tryz.func74,Tryz.ntmps74
  go_wp2;go_ret;exact⟨rfl,by go_grown⟩
theorem Rs.shape {w:World}{v:Value}{ns:List Int}(h:Rs w v ns):∃ p cap,v=.slice p ns.length cap:=by
 rcases h with⟨rfl,p,cap,e⟩ | ⟨sb,so,cap,e,_⟩
 ·exact⟨p,cap,e⟩
 ·exact⟨_,_,e⟩
def Zeh (ag rs ss:List Int):Bool:=decide (ag.length<=8∧rs.length<=4∧ss.length<=12)
theorem Znn (r sp lk t0 t1:Int)(va vr vs:Value)(al sh by_:Int)(pr:Bool)(ag rs ss:List Int)(w:World)(ha:∃ p cap,va=.slice p ag.length cap)(hr:∃ p cap,vr=.slice p rs.length cap)(hs:∃ p cap,vs=.slice p ss.length cap):Calls Tryz.prog 75 #[.agg (Zu r sp lk t0 t1 va vr vs al sh by_ pr)] w fun e w'=>e=.returned (.bool (Zeh ag rs ss))∧Below w.heap.size w w':=by
 unfold Zu;obtain⟨pa,ca,rfl⟩:=ha;obtain⟨pr',cr,rfl⟩:=hr;obtain⟨ps,cs,rfl⟩:=hs;unfold Zeh;generalize ag.length=na;generalize rs.length=nr;generalize ss.length=ns;by_cases h1:na<=8
 ·by_cases h2:nr<=4
  ·by_cases h3:ns<=12
   ·rw [decide_eq_true ⟨h1,h2,h3⟩];go_enter Tryz.func75,Tryz.ntmps75
    go_wp2;go_ret;exact⟨by show Ending.returned (.bool (decide ((ns:Int)<=12)))=_; rw [decide_eq_true (by omega)],by go_grown⟩
   ·rw [decide_eq_false (fun h=>h3 h.2.2)];go_enter Tryz.func75,Tryz.ntmps75
    go_wp2;go_ret;exact⟨by show Ending.returned (.bool (decide ((ns:Int)<=12)))=_; rw [decide_eq_false (by omega)],by go_grown⟩
  ·rw [decide_eq_false (fun h=>h2 h.2.1)];go_enter Tryz.func75,Tryz.ntmps75
   go_wp2;go_ret;exact⟨rfl,by go_grown⟩
 ·rw [decide_eq_false (fun h=>h1 h.1)];go_enter Tryz.func75,Tryz.ntmps75
  go_wp2;go_ret;exact⟨rfl,by go_grown⟩
set_option maxHeartbeats 2000000
set_option maxRecDepth 100000
def Yp (sp lk t0 t1:Int):List Int:=if lk=-1 then [sp,t0,t1] else [sp,t0,t1,lk]
theorem Zxi (sp lk t0 t1:Int):(Yp sp lk t0 t1).length<=4:=by unfold Yp; split <;> simp
theorem Du {w:World}{base:Nat}{v:Value}{ns:List Int}(h:w.ownsRow base 3 1 v ns.length (Yz ns)):Rs w v ns:=by
 rcases h.2 with⟨e,e0⟩ | ⟨g,cap,cur,e,-⟩
 ·exact Or.inl ⟨List.eq_nil_of_length_eq_zero e0,none,0,by rw [e]⟩
 ·refine Or.inr ⟨g,0,cap,e,fun i hi=>?_⟩;subst e;have:=h.cellAt i (by omega);simp only [Nat.zero_add] at this ⊢;rw [this];simp [Yz,hi]
theorem Uh {w:World}{base n:Nat}{v:Value}{xs:List Value}(h:w.ownsRow base 3 1 v n xs):∀ a n cap,v=.slice a n cap->n<=cap:=by
 intro a m cap e;rcases h.2 with⟨e1,e0⟩ | ⟨g,cap',cur,e1,_,_,hc,_⟩
 ·rw [e1] at e; injection e with _ h2 h3; omega
 ·rw [e1] at e; injection e with _ h2 h3; omega
theorem Zeg (r sp lk t0 t1:Int)(va vr vs:Value)(al sh by_:Int)(pr:Bool)(w:World):Calls Tryz.prog 114 #[.agg (Zu r sp lk t0 t1 va vr vs al sh by_ pr)] w fun e w'=>∃ v,e=.returned v∧Rs w' v (Yp sp lk t0 t1)∧(∀ a n cap,v=.slice a n cap->n<=cap)∧Below w.heap.size w w':=by
 obtain⟨ti,hti,hz0,hz1,hz2⟩:=Xy Tryz.infoI;unfold Zu;have HOW:=Ze (fun X:Obj=>show((w.alloc X).alloc (.cells #[.int .i64 sp,.int .i64 t0,.int .i64 t1] 3)).ownsRow w.heap.size 3 1 (.slice (some ⟨w.heap.size+1,0,none⟩) 3 3) ([sp,t0,t1]:List Int).length (Yz [sp,t0,t1]) from
  ⟨rfl,Or.inr ⟨w.heap.size+1,3,#[.int .i64 sp,.int .i64 t0,.int .i64 t1],rfl,by omega,by have:=heap_alloc_new (w.alloc X) (.cells #[.int .i64 sp,.int .i64 t0,.int .i64 t1] 3); simpa using this,by simp,by unfold maxLen; omega,rfl,rfl⟩⟩)
 by_cases hk:lk=-1
 ·have hO:Yp sp lk t0 t1=[sp,t0,t1]:=by unfold Yp; rw [if_pos hk]
  rw [hO];clear hO;subst hk;go_enter Tryz.func114,Tryz.ntmps114
  go_wp2;go_ret;exact⟨_,rfl,Du (Zb HOW _),Uh (Zb HOW (.cells #[] 3)),by go_grown⟩
 ·have hO:Yp sp lk t0 t1=[sp,t0,t1]++[lk]:=by unfold Yp; rw [if_neg hk]; rfl
  rw [hO];clear hO;have zk:(lk==-1)=false:=by simpa using hk
  go_enter Tryz.func114,Tryz.ntmps114
  go_wp2_with (at_builtin; refine wpList_append_own _ rfl _ _ 23 rfl w.heap.size 3 ti _ 1 8 Tryz.underlying23 hti hz0 hz1 hz2 rfl (by decide) _ _ _ rfl ((Zb HOW _).alloc _) ⟨w.heap.size+2,0,none⟩ 1 1 [.int .i64 lk] rfl rfl (by intro j u hj; match j,hj with | 0,hj=>(simp at hj; subst hj; exact(World.cell?_alloc_at _ _ _ _ (by simp)).trans rfl)) (by intro u hu; simp at hu; subst hu; rfl) ?c3 ?c4 ?c5 ?_)
  case c3=>unfold maxLen; simp
  case c4=>simp
  case c5=>simp; omega
  intro v' w7 hown hgr _;have HOWN:=Ze hown;have HB:=Ze (show Below w.heap.size w w7 from((((Below.refl w.heap.size w).alloc (Nat.le_refl _) _).alloc (by simp) _).alloc (by simp; omega) _).trans ⟨hgr.os,hgr.tape,hgr.output,hgr.size,fun q hq=>hgr.block q (by simp; omega) (fun e=>by simp [Value.ownBlock] at e; omega)⟩);clear hown hgr;go_wp2;go_ret;have h1:w7.ownsRow w.heap.size 3 1 v' ([sp,t0,t1]++[lk]:List Int).length (Yz ([sp,t0,t1]++[lk])):=Zb HOWN;exact⟨_,rfl,Du h1,Uh h1,Zb HB⟩
end Go.Proofs.YtkenknfgeoecbaaGreatDoor
