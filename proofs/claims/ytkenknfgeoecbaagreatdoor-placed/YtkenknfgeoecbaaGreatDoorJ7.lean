import Derived.Test.YtkenknfgeoecbaaGreatDoorPsAdd
namespace Go.Proofs.YtkenknfgeoecbaaGreatDoor
open Go.RowKit
theorem Zwb (p q:Nat→Bool)(i:Nat):∀ l:List Nat,i ∈ l→(∀ j,q j=true→p j=true)→p i=true→q i=false→l.countP q<l.countP p
 | [],hi,_,_,_=>by cases hi
 | x :: r,hi,hpq,hp,hq=>by
  have hm:r.countP q≤r.countP p:=List.countP_mono_left (fun j _ h=>hpq j h);by_cases hx:x=i
  ·subst hx; simp [hp,hq]; omega
  ·have hi':i ∈ r:=(List.mem_cons.1 hi).resolve_left (fun e=>hx e.symm);have ih:=Zwb p q i r hi' hpq hp hq;cases hqx:q x with
   | false=>simp [List.countP_cons,hqx]; omega
   | true=>simp [hqx,hpq x hqx]; omega
def unl (n:Nat)(L:Array Bool):Nat:=(List.range n).countP fun j=>!L.getD j true
theorem Zag {P:Program}{md:Region.Mode}{ops:Array Oper}{Q:Exit→Act→World→Prop}(I:Array Bool→Act→World→Prop)
 (step:∀ L a w i,I L a w→i ∈ Region.ready md ops L→wpOp P ops Q i (fun a' w'=>I (L.setIfInBounds i true) a' w') a w)
 (fin:∀ L a w,I L a w→Region.ready md ops L=[]→Q .normal a w) :
 ∀(fuel:Nat) (L:Array Bool) (a:Act) (w:World),unl ops.size L≤fuel→I L a w→wpAny P md ops Q fuel L a w
 | 0,L,a,w,h,hI=>by
  have hr:Region.ready md ops L=[]:=by
   apply List.eq_nil_iff_forall_not_mem.2
   intro i hi;have h1:=(mem_ready.1 hi).1;have hlt:i<ops.size:=by obtain⟨_,o,ho,_⟩:=mem_ready.1 hi;exact(Array.getElem?_eq_some_iff.1 ho).1
   have h0:unl ops.size L=0:=by omega
   unfold unl at h0;have:=List.countP_eq_zero.1 h0 i (List.mem_range.2 hlt);rw [h1] at this;simp at this
  exact⟨hr,fin L a w hI hr⟩
 | fuel+1,L,a,w,h,hI=>by
  refine⟨fin L a w hI,fun i hi=>wpOp_mono (fun a' w' h'=>Zag I step fin fuel _ a' w' ?_ h') (step L a w i hI hi)⟩;have h1:=(mem_ready.1 hi).1;have hlt:i<ops.size:=by obtain⟨_,o,ho,_⟩:=mem_ready.1 hi;exact(Array.getElem?_eq_some_iff.1 ho).1
  have hLs:i<L.size:=by
   rcases Nat.lt_or_ge i L.size with h' | h'
   ·exact h'
   ·simp [Array.getElem?_eq_none h'] at h1
  have:=Zwb (fun j=>!L.getD j true) (fun j=>!(L.setIfInBounds i true).getD j true) i (List.range ops.size) (List.mem_range.2 hlt)
   (fun j hj=>by
    by_cases hji:i=j
    ·subst hji; simp [hLs] at hj
    ·simpa [Array.getElem?_setIfInBounds,hji] using hj)
   (by simp only [h1]; rfl) (by simp [hLs])
  unfold unl at h ⊢;omega
theorem Kr (a:Act)(d:Nat)(v:Value)(h:d<a.tmps.size):(a.put (some d) v).eval (.tmp d)=v:=by simp [Act.put,Act.eval,h]
theorem Nj (a:Act)(d t:Nat)(v:Value)(h:d≠t):(a.put (some d) v).eval (.tmp t)=a.eval (.tmp t):=by simp [Act.put,Act.eval,h]
theorem Zz {P:Program}{o:Oper}{a:Act}{w w':World}{v:Value}{Q:Exit→Act→World→Prop}{F:Value→World→Prop}(h:(execOp a.eval o).run P w=.ok (.value v) w')(hF:F v w'):o.wp P a w (fun a' w'=>∃ v,a'=a.put o.dst v∧F v w') Q:=by unfold Oper.wp;rw [h];exact⟨v,rfl,hF⟩
theorem Yem {P:Program}{o:Oper}{a:Act}{w w':World}{Q:Exit→Act→World→Prop}{F:Value→World→Prop}(h:(execOp a.eval o).run P w=.ok .skip w')(hF:F undef w'):o.wp P a w (fun a' w'=>∃ v,a'=a.put o.dst v∧F v w') Q:=by unfold Oper.wp;rw [h];exact⟨undef,rfl,hF⟩
theorem Zgz {P:Program}{o:Oper}{a:Act}{w w1:World}{f:FuncId}{args:Array Value}{Q:Exit→Act→World→Prop}{F:Value→World→Prop}(h:(execOp a.eval o).run P w=.ok (.enter f args) w1)(hF:Calls P f args w1 fun e w'=>∃ v,e=.returned v∧F v w'):o.wp P a w (fun a' w'=>∃ v,a'=a.put o.dst v∧F v w') Q:=by unfold Oper.wp;rw [h];refine hF.mono ?_;rintro e w' ⟨v,rfl,hv⟩;exact⟨v,rfl,hv⟩
theorem Zwi {P:Program}{ops:Array Oper}{Q:Exit→Act→World→Prop}{id:Nat}(hm:P.follows .mixedOrders=true)(base:Nat)(a0:Act)(Ok:Nat→Value→World→Prop)(S:World→Prop)(R:World→World→Prop)
 (hd:∀(i:Nat) (o:Oper),ops[i]?=some o→(o.dst=some (base+i)∨o.dst=none)∧o.guard=none)
 (hsz:∀(i:Nat) (o:Oper),ops[i]?=some o→o.dst=some (base+i)→base+i<a0.tmps.size)
 (hle:∀(i:Nat) (o:Oper),ops[i]?=some o→∀ e ∈ o.after,e.on<i)
 (stab:∀ i v w w',Ok i v w→R w w'→Ok i v w')
 (stabS:∀ w w',S w→R w w'→S w')
 (step:∀(i:Nat) (o:Oper),ops[i]?=some o→∀(a:Act) (w:World),S w→(∀ t,t<base→a.eval (.tmp t)=a0.eval (.tmp t))→(∀ e ∈ o.after,Region.binds .any e=true→(∃ o',ops[e.on]?=some o'∧o'.dst=some (base+e.on))→Ok e.on (a.eval (.tmp (base+e.on))) w) →
  o.wp P a w (fun a' w'=>∃ v,a'=a.put o.dst v∧R w w'∧Ok i v w') Q)
 (fin:∀(a:Act) (w:World),S w→a.defers=a0.defers→a.tmps.size=a0.tmps.size→(∀ t,t<base∨base+ops.size≤t→a.eval (.tmp t)=a0.eval (.tmp t))→(∀(i:Nat) (o:Oper),ops[i]?=some o→o.dst=some (base+i)→Ok i (a.eval (.tmp (base+i))) w)→(∀(i:Nat) (o:Oper),ops[i]?=some o→o.dst=none→a.eval (.tmp (base+i))=a0.eval (.tmp (base+i))∧∃ v,Ok i v w)→Q .normal a w)
 {w:World} (hS:S w.drew):(Code.region id ops true).wp P Q a0 w:=by
 refine wp_region_any hm (Zag (fun L a w=>S w∧L.size=ops.size∧a.defers=a0.defers∧a.tmps.size=a0.tmps.size∧(∀ t,t<base∨base+ops.size≤t→a.eval (.tmp t)=a0.eval (.tmp t))∧(∀ i,i<ops.size→L.getD i true=true→∀ o,ops[i]?=some o→o.dst=some (base+i)→Ok i (a.eval (.tmp (base+i))) w)∧(∀(i:Nat) (o:Oper),ops[i]?=some o→o.dst=none→a.eval (.tmp (base+i))=a0.eval (.tmp (base+i))∧(L.getD i true=true→∃ v,Ok i v w))) ?_ ?_ _ _ _ _ ?_ ?_)
 ·rintro L a w i ⟨h1,h2,h3,h4,h5,h6,h7⟩ hi;obtain⟨hl,o,ho,hdeps⟩:=mem_ready.1 hi;have hlt:i<ops.size:=(Array.getElem?_eq_some_iff.1 ho).1;obtain⟨hdst,hgd⟩:=hd i o ho;have hwp:=step i o ho a w h1 (fun t ht=>h5 t (Or.inl ht)) (fun e he hb hh=>by
   obtain⟨o',ho',hdo⟩:=hh;have hel:L.getD e.on true=true:=by
    have:=hdeps e he hb;have hes:e.on<L.size:=by have:=hle i o ho e he; omega
    simpa [hes] using this
   exact h6 e.on (Nat.lt_trans (hle i o ho e he) hlt) hel o' ho' hdo)
  unfold wpOp;simp only [ho];rw [if_pos (by unfold Region.wanted; rw [hgd])];refine Or.inl ?_;refine Oper.wp_mono ?_ hwp;rintro a' w' ⟨v,rfl,hbl,hok⟩;have key:(fun a' w'=>S w'∧(L.setIfInBounds i true).size=ops.size∧a'.defers=a0.defers∧a'.tmps.size=a0.tmps.size∧(∀ t,t<base∨base+ops.size≤t→a'.eval (.tmp t)=a0.eval (.tmp t))∧(∀ j,j<ops.size→(L.setIfInBounds i true).getD j true=true→∀ o,ops[j]?=some o→o.dst=some (base+j)→Ok j (a'.eval (.tmp (base+j))) w')∧(∀(j:Nat) (o:Oper),ops[j]?=some o→o.dst=none→a'.eval (.tmp (base+j))=a0.eval (.tmp (base+j))∧((L.setIfInBounds i true).getD j true=true→∃ v,Ok j v w'))) (a.put o.dst v) w':=by
   rcases hdst with hdst | hdst
   ·simp only [hdst];refine⟨stabS _ _ h1 hbl,by simpa using h2,by simpa [Act.put] using h3,by simpa [Act.put] using h4,fun t ht=>?_,fun j hj hlj o' ho' hdo=>?_,fun j o' ho' hdo=>?_⟩
    ·rw [Nj _ _ _ _ (by omega)]; exact h5 t ht
    ·by_cases hji:j=i
     ·subst hji; rw [Kr _ _ _ (by have:=hsz j o' ho' hdo; omega)]; exact hok
     ·rw [Nj _ _ _ _ (by omega)];exact stab _ _ _ _ (h6 j hj (by simpa [Array.getElem?_setIfInBounds,Ne.symm hji] using hlj) o' ho' hdo) hbl
    ·have hji:¬ j=i:=fun e=>by subst e; rw [ho'] at ho; injection ho with ho; subst ho; rw [hdo] at hdst; cases hdst
     rw [Nj a (base+i) (base+j) v (by omega)];refine⟨(h7 j o' ho' hdo).1,fun hlj=>?_⟩;obtain⟨v',hv'⟩:=(h7 j o' ho' hdo).2 (by simpa [Array.getElem?_setIfInBounds,Ne.symm hji] using hlj);exact⟨v',stab _ _ _ _ hv' hbl⟩
   ·simp only [hdst,Act.put];refine⟨stabS _ _ h1 hbl,by simpa using h2,h3,h4,h5,fun j hj hlj o' ho' hdo=>?_,fun j o' ho' hdo=>⟨(h7 j o' ho' hdo).1,fun hlj=>?_⟩⟩
    ·have hji:¬ j=i:=fun e=>by subst e; rw [ho'] at ho; injection ho with ho; subst ho; rw [hdo] at hdst; cases hdst
     exact stab _ _ _ _ (h6 j hj (by simpa [Array.getElem?_setIfInBounds,Ne.symm hji] using hlj) o' ho' hdo) hbl
    ·by_cases hji:j=i
     ·subst hji; exact⟨v,hok⟩
     ·obtain⟨v',hv'⟩:=(h7 j o' ho' hdo).2 (by simpa [Array.getElem?_setIfInBounds,Ne.symm hji] using hlj);exact⟨v',stab _ _ _ _ hv' hbl⟩
  exact key
 ·rintro L a w ⟨h1,h2,h3,h4,h5,h6,h7⟩ hr;have all:∀ n j,j<n→j<ops.size→L.getD j true=true:=by
   intro n;induction n with
   | zero=>intro j hj; omega
   | succ n ih =>
    intro j hj hjs;cases hlj:L.getD j true with
    | true=>rfl
    | false =>
     exfalso
     have ho:ops[j]?=some ops[j]:=Array.getElem?_eq_getElem hjs;have:j ∈ Region.ready .any ops L:=mem_ready.2 ⟨hlj,ops[j],ho,fun e he _=>by
      have hlt:=hle j _ ho e he;have:=ih e.on (by omega) (by omega);have hes:e.on<L.size:=by omega
      simpa [hes] using this⟩
     rw [hr] at this;cases this
  exact fin a w h1 h3 h4 h5 (fun i o ho hdo=>h6 i (Array.getElem?_eq_some_iff.1 ho).1 (all (i+1) i (by omega) (Array.getElem?_eq_some_iff.1 ho).1) o ho hdo) (fun i o ho hdo=>⟨(h7 i o ho hdo).1,(h7 i o ho hdo).2 (all (i+1) i (by omega) (Array.getElem?_eq_some_iff.1 ho).1)⟩)
 ·unfold unl;exact Nat.le_trans List.countP_le_length (by simp)
 ·exact⟨hS,by simp,rfl,rfl,fun _ _=>rfl,fun i hi h=>by simp [hi] at h,fun i o ho _=>⟨rfl,fun h=>by simp [(Array.getElem?_eq_some_iff.1 ho).1] at h⟩⟩
theorem Yar (a a0:Act)(base:Nat)(vs:List Value)(hd:a.defers=a0.defers)(hs:a.tmps.size=a0.tmps.size)(hb:base+vs.length≤a0.tmps.size)
 (hout:∀ t,t<base∨base+vs.length≤t→a.eval (.tmp t)=a0.eval (.tmp t)) (hin:∀ i,i<vs.length→a.eval (.tmp (base+i))=vs.getD i undef) :
 a=⟨(a0.tmps.toList.take base++(vs++a0.tmps.toList.drop (base+vs.length))).toArray,a0.defers⟩:=by
 obtain⟨ts,df⟩:=a;simp only at hd hs;subst hd;congr 1
 apply Array.ext
 ·simp; omega
 ·intro t h1 h2;have hmin:min base a0.tmps.size=base:=by omega
  have e0:ts[t]=(⟨ts,a0.defers⟩:Act).eval (.tmp t):=by simp [Act.eval,h1]
  rw [e0];by_cases c1:t<base
  ·rw [hout t (Or.inl c1)];simp [Act.eval,hmin,c1,show t<a0.tmps.size by omega]
  ·by_cases c2:t<base+vs.length
   ·have:=hin (t-base) (by omega);rw [show base+(t-base)=t by omega] at this;rw [this];simp [List.getElem_append,c1,hmin,show t-base<vs.length by omega,List.getD]
   ·rw [hout t (Or.inr (by omega))];simp [Act.eval,List.getElem_append,c1,hmin,show ¬ t-base<vs.length by omega,show t<a0.tmps.size by omega];congr 1
    omega
theorem Zsj {P:Program}(w:World)(T:Nat)(t:TypeId)(cs arr:Array Value)(hsz:(sizeOf t).run P w=.ok arr.size w)(hc:cs.size=arr.size)(h:w.heap[T]?=some (.cells cs t (0,0)))(h1:∀ v ∈ arr.toList,v.oneCell'=true) :
 (Instr.storeAt t (.pointer (some ⟨T,0,none⟩)) (.agg arr)).run P w=.ok () (w.setRow T arr):=by
 have key:=run_storeCells_at (P:=P) T 0 t arr.toList 0 cs w h (by simp [hc]) h1;have e1:cs.toList.drop (0+0+arr.toList.length)=[]:=List.drop_of_length_le (by simp [hc]);rw [e1] at key;simp only [Nat.add_zero,List.take_zero,List.nil_append,List.append_nil,Array.toArray_toList] at key;have e2:(Instr.storeAt t (.pointer (some ⟨T,0,none⟩)) (.agg arr))=storeVar t ⟨T,0,none⟩ (.agg arr):=rfl;rw [e2];unfold storeVar;rw [Sem.run_bind,hsz];simp only [Result.andThen_ok,Value.cells,ne_eq,not_true_eq_false,if_false];exact key
set_option maxHeartbeats 1000000
set_option maxRecDepth 100000
theorem Zpe {α:Type}:∀(l:List α),l=[]∨∃ l0 t,l=l0++[t]
 | []=>Or.inl rfl
 | a :: r=>Or.inr ⟨(a :: r).dropLast,(a :: r).getLast (by simp),(List.dropLast_concat_getLast (by simp)).symm⟩
theorem Zsg (base:Nat)(l:List Tk)(v:Value)(k p:Nat)(w:World)(h:Yt w base v l)(hl:l.length≤400)(hp:p≤400)(hb:base≤w.heap.size)(hk:3≤k∧k≤6) :
 Calls Tryz.prog 109 #[v,.int .i64 k,.int .i64 p] w fun e w'=>∃ v',e=.returned v'∧Yt w' base v' (Sr l k p)∧Below base w w':=by
 by_cases h56:k=5∨k=6
 ·have hs:∃ a cap,v=.slice a l.length cap:=by
   rcases h.shape with⟨e,rfl⟩ | ⟨g,cap,rfl⟩
   ·subst e; exact⟨_,_,rfl⟩
   ·exact⟨_,_,rfl⟩
  obtain⟨a,cap,rfl⟩:=hs;have e:Sr l k p=l++[⟨k,p,p+1⟩]:=Zkc l k p (fun t _ h3=>by omega);rw [e];rcases h56 with rfl | rfl
  ·exact Zgx base _ cap p a l w h rfl (by omega) hp hb
  ·exact Zgy base _ cap p a l w h rfl (by omega) hp hb
 have h34:k=3∨k=4:=by omega
 rcases Zpe l with rfl | ⟨l0,t,rfl⟩
 ·have hs:∃ a cap,v=.slice a 0 cap:=by
   rcases h.shape with⟨e,rfl⟩ | ⟨g,cap,rfl⟩
   ·exact⟨_,_,rfl⟩
   ·exact⟨_,_,rfl⟩
  obtain⟨a,cap,rfl⟩:=hs;rcases h34 with rfl | rfl
  ·exact Zgv base a cap p w h hp hb
  ·exact Zgw base a cap p w h hp hb
 ·obtain⟨g,cap,rfl⟩:∃ g cap,v=.slice (some ⟨g,0,none⟩) (l0.length+1) cap:=by
   rcases h.shape with⟨e,_⟩ | ⟨g,cap,e⟩
   ·simp at e
   ·exact⟨g,cap,by simpa using e⟩
  have hl0:l0.length≤400:=by simp at hl; omega
  by_cases c1:t.k=k
  ·by_cases c2:t.e=p
   ·have e:Sr (l0++[t]) k p=l0++[⟨t.k,t.a,p+1⟩]:=by simp [Sr,c1,c2,h34]
    rw [e];rcases h34 with rfl | rfl
    ·exact Zjq base g cap p l0 t w h hl0 hp hb c1 c2
    ·exact Zjr base g cap p l0 t w h hl0 hp hb c1 c2
   ·have e:Sr (l0++[t]) k p=l0++[t]++[⟨k,p,p+1⟩]:=by simp [Sr,c2]
    rw [e];rcases h34 with rfl | rfl
    ·exact Zmr base g cap p l0 t w h hl0 hp hb c1 (by omega)
    ·exact Zmt base g cap p l0 t w h hl0 hp hb c1 (by omega)
  ·have e:Sr (l0++[t]) k p=l0++[t]++[⟨k,p,p+1⟩]:=by simp [Sr,c1]
   rw [e];rcases h34 with rfl | rfl
   ·exact Zmq base g cap p l0 t w h hl0 hp hb (by omega)
   ·exact Zms base g cap p l0 t w h hl0 hp hb (by omega)
theorem Zjs (l:List Tk)(k p:Nat):(Sr l k p).length≤l.length+1:=by
 unfold Sr;split
 ·split
  ·simp
  ·simp
 ·simp
theorem Zwd (s:ByteArray)(i:Nat)(h:s.size≤i):s.get! i=0:=by obtain⟨d⟩:=s;have h':d.size≤i:=h;simp [ByteArray.get!,show ¬ i<d.size by omega];rfl
theorem Zjt (s:ByteArray)(p k:Nat)(hp:p≤s.size):(s.extract p s.size).get! k=s.get! (p+k):=by
 by_cases h:p+k<s.size
 ·rw [Utf8W.get!_of_lt _ _ (by simp; omega),Utf8W.get!_of_lt _ _ h];simp [ByteArray.getElem_extract]
 ·have h1:¬ k<(s.extract p s.size).size:=by simp; omega
  have e1:=Zwd (s.extract p s.size) k (by omega);have e2:=Zwd s (p+k) (by omega);rw [e1,e2]
theorem Zju (s:ByteArray)(p:Nat)(hp:p<s.size):Lib.decodeGo (s.extract p s.size)=Utf8.decode s p:=by unfold Lib.decodeGo;rw [if_neg (by simp; omega),Lib.decode_at,Lib.decode_at];simp only [Zjt s p _ (by omega)];simp
theorem Zwe (s:ByteArray)(w:World)(hs:0<s.size)(hT:Lib.Utf8Tabs 3 4 w) :
 Calls Tryz.prog 157 #[.string s] w fun e w'=>e=.returned (.tuple #[.int .i32 (Lib.decodeGo s).1,.int .i64 (Lib.decodeGo s).2])∧Below w.heap.size w w':=by
 have HC:=Ze (Tryz.utf8_decodeRuneInStringSlow s w hT);clear hT;have hne:s.toList.isEmpty=false:=by
  rw [Lib.toList_data];cases h:s.data.toList with
  | nil=>exact absurd hs (by rw [Lib.size_eq,h]; simp)
  | cons _ _=>rfl
 obtain⟨x0,hx0⟩:∃ x0,s.get! 0=x0:=⟨_,rfl⟩;have hs0:s[0]'hs=x0:=by rw [← hx0]; exact(Utf8W.get!_of_lt s 0 hs).symm
 have hz0:(0:Int)<(s.size:Int):=by omega
 by_cases ha:x0.toNat<128
 ·have hd:Lib.decodeGo s=(x0.toNat,1):=by simp only [Lib.decodeGo,show s.size≠0 by omega,if_false];rw [Lib.decode_at,hx0];simp [Lib.decodeN,ha]
  rw [hd];clear HC;have haz:(x0.toNat:Int)<128:=by omega
  go_enter Tryz.func157,Tryz.ntmps157
  go_wp2;go_ret2;exact⟨rfl,Below.refl _ _⟩
 ·have haz:¬ ((x0.toNat:Int)<128):=by omega
  generalize (Lib.decodeGo s).1=R at HC;generalize (Lib.decodeGo s).2=K at HC;go_enter Tryz.func157,Tryz.ntmps157
  go_wp2_with fail
  refine(Zb HC).mono ?_;rintro e w' ⟨rfl,hb⟩;have HB:=Ze hb;clear hb;go_wp2;go_ret2;exact⟨rfl,Zb HB⟩
theorem Zmu (s:ByteArray)(r:Nat)(w:World)(hs:0<s.size)(hT:Lib.Utf8Tabs 3 4 w) :
 Calls Tryz.prog 107 #[.string s,.int .i32 r] w fun e w'=>e=.returned (.bool (decide (r=65533∧(Lib.decodeGo s).2=1)))∧Below w.heap.size w w':=by
 by_cases h:r=65533
 ·have HC:=Ze (Zwe s w hs hT);clear hT;subst h;go_enter Tryz.func107,Tryz.ntmps107
  go_wp2_with fail
  refine(Zb HC).mono ?_;rintro e w' ⟨rfl,hb⟩;have HB:=Ze hb;clear hb;go_wp2;go_ret;refine⟨?_,Zb HB⟩;simp
  first | done | omega | (rw [Bool.eq_iff_iff]; simp; omega)
 ·have h':(r:Int)≠65533:=by omega
  go_enter Tryz.func107,Tryz.ntmps107
  go_wp2;go_ret;exact⟨by simp [h],Below.refl _ _⟩
set_option maxHeartbeats 4000000
set_option maxRecDepth 100000
def U8 (w:World):Prop:=Lib.Utf8Tabs 3 4 w
theorem U8.lt {w:World}(h:U8 w):3<w.heap.size∧4<w.heap.size :=
 ⟨World.block_lt_of_cell? w _ (h.1 0 (by decide)),World.block_lt_of_cell? w _ (h.2 0 (by decide)).1⟩
theorem U8.below {w w':World}{B:Nat}(h:U8 w)(hb:Below B w w')(hB:3<B∧4<B):U8 w' :=
 ⟨fun c hc=>(World.cell?_of_block (hb.block _ hB.1)).trans (h.1 c hc),fun i hi=>⟨(World.cell?_of_block (hb.block _ hB.2)).trans (h.2 i hi).1,(World.cell?_of_block (hb.block _ hB.2)).trans (h.2 i hi).2⟩⟩
theorem Yek (s:ByteArray)(p:Nat):(Utf8.decode s p).1<2147483648:=by
 rw [Lib.decode_at];have:=(s.get! p).toNat_lt;unfold Lib.decodeN;repeat' split
 all_goals first | omega | (simp; omega) | simp
theorem Yt.mono {w:World}{b c:Nat}{v:Value}{l:List Tk}(h:Yt w b v l)(hc:c≤b):Yt w c v l:=by
 refine⟨h.1,?_⟩;rcases h.2 with h' | ⟨g,cap,cur,h1,h2,h3⟩
 ·exact Or.inl h'
 ·exact Or.inr ⟨g,cap,cur,h1,by omega,h3⟩
theorem Yt.below {w w':World}{b:Nat}{v:Value}{l:List Tk}(h:Yt w b v l)(hb:Below w.heap.size w w'):Yt w' b v l:=by
 refine⟨h.1,?_⟩;rcases h.2 with h' | ⟨g,cap,cur,h1,h2,h3,h4⟩
 ·exact Or.inl h'
 ·refine Or.inr ⟨g,cap,cur,h1,h2,?_,h4⟩;have hg:g<w.heap.size:=by
   rcases Nat.lt_or_ge g w.heap.size with x | x
   ·exact x
   ·simp [Array.getElem?_eq_none x] at h3
  rw [hb.block g hg]; exact h3
structure Zwf (s:ByteArray)(w wr:World)(v:Value)(c:Bool)(pos f:Nat)(l:List Tk):Prop where
 it:wr.heap[w.heap.size]?=some (.stringIter s pos)
 own:Yt wr (w.heap.size+1) v l
 low:Below w.heap.size w wr
 eq:Lg s f pos c l=Lg s s.size 0 false []
 fuel:s.size≤pos+f
 len:l.length≤pos
theorem Zwf.lt {s:ByteArray}{w wr:World}{v:Value}{c:Bool}{pos f:Nat}{l:List Tk}(h:Zwf s w wr v c pos f l):w.heap.size<wr.heap.size:=(Array.getElem?_eq_some_iff.1 h.it).1
theorem Zwf.step {s:ByteArray}{w wr:World}{v:Value}{c:Bool}{pos f:Nat}{l:List Tk}(h:Zwf s w wr v c pos f l)(q:Nat) :
 (wr.iterAt w.heap.size s q).heap[w.heap.size]?=some (.stringIter s q)∧Yt (wr.iterAt w.heap.size s q) (w.heap.size+1) v l∧Below w.heap.size w (wr.iterAt w.heap.size s q)∧(wr.iterAt w.heap.size s q).heap.size=wr.heap.size :=
 ⟨Lib.iterAt_heap _ _ _ _ _ h.it,ownsRow_iterAt h.own (by omega) _ _,Lib.below_iterAt h.low (Nat.le_refl _) _ _,Lib.iterAt_size _ _ _ _⟩
def Yhn (s:ByteArray)(w:World)(e:Ending)(w':World):Prop :=
 ∃ v r,e=.returned (.tuple #[v,.int .i64 r])∧Below w.heap.size w w'∧(match Lg s s.size 0 false [] with | .inl p=>r=p | .inr l=>r=-1∧Yt w' w.heap.size v l)
theorem Zjv (r:Nat):Ja r≤6:=by
 unfold Ja;repeat' split
 all_goals omega
theorem Yal {s:ByteArray}{f p r n:Nat}{l:List Tk}(hp:p<s.size)(hd:Utf8.decode s p=(r,n))(hk:Ja r=0):Lg s (f+1) p false l=.inl p:=by simp [Lg,hp,hd,hk]
theorem Yam {s:ByteArray}{f p r n:Nat}{l:List Tk}(hp:p<s.size)(hd:Utf8.decode s p=(r,n))(hk:Ja r=1):Lg s (f+1) p false l=Lg s f (p+n) false l:=by simp [Lg,hp,hd,hk]
theorem Yan {s:ByteArray}{f p r n:Nat}{l:List Tk}(hp:p<s.size)(hd:Utf8.decode s p=(r,n))(hk:Ja r=2):Lg s (f+1) p false l=Lg s f (p+n) true l:=by simp [Lg,hp,hd,hk]
theorem Yao {s:ByteArray}{f p r n:Nat}{l:List Tk}(k:Nat)(hp:p<s.size)(hd:Utf8.decode s p=(r,n))(hk:Ja r=k)(h3:3≤k):Lg s (f+1) p false l=Lg s f (p+n) false (Sr l k p):=by simp only [Lg,hp,hd,hk,if_true];rw [if_neg (by decide),if_neg (by omega),if_neg (by omega),if_neg (by omega)]
theorem Yap {s:ByteArray}{f p r n:Nat}{l:List Tk}(hp:p<s.size)(hd:Utf8.decode s p=(r,n))(hk:r=65533∧n=1):Lg s (f+1) p true l=.inl p:=by simp [Lg,hp,hd,hk]
theorem Yaq {s:ByteArray}{f p r n:Nat}{l:List Tk}(hp:p<s.size)(hd:Utf8.decode s p=(r,n))(hk:¬ (r=65533∧n=1)):Lg s (f+1) p true l=Lg s f (p+n) (decide (r≠10)) l:=by simp [Lg,hp,hd,hk]
theorem Ygq (s:ByteArray)(w:World)(hs:s.size≤400)(hT:U8 w):Calls Tryz.prog 67 #[.string s] w (Yhn s w):=by
 have HT:=Ze hT;clear hT;go_enter Tryz.func67,Tryz.ntmps67
 go_wp2_with fail
 go_loopw [4,5] (fun v c wr=>∃(cc:Bool) (pos f:Nat) (l:List Tk),c=.bool cc∧Zwf s w wr v cc pos f l) (fun _ _ wr=>s.size-wr.iterPos w.heap.size)
 case atStart=>exact⟨false,0,s.size,[],rfl,⟨heap_alloc_new w _,World.ownsRow_nil _ _ _ _,(Below.refl _ _).alloc (Nat.le_refl _) _,rfl,by omega,by simp⟩⟩
 case round =>
  obtain⟨cc,pos,f,l,rfl,hI⟩:=hrel;have hit:=hI.it;by_cases hp:pos<s.size
  ·obtain⟨r,n,hd⟩:∃ r n,Utf8.decode s pos=(r,n):=⟨_,_,rfl⟩;have hn1:1≤n:=by have:=Zpi s pos; rw [hd] at this; exact this
   have hr:=Yek s pos;rw [hd] at hr;have hnx:∀ ty,(Instr.next (.pointer (some ⟨w.heap.size,0,none⟩)) true ty).run Tryz.prog _=.ok (.tuple #[.bool true,.int .i64 pos,.int .i32 r]) _:=fun ty=>by have:=Lib.run_next_any_at (P:=Tryz.prog) _ w.heap.size s pos ty hit hp; rw [hd] at this; exact this
   obtain⟨g1,g2,g3,g4⟩:=hI.step (pos+n);have hm:=iterPos_of hit;have hm2:=iterPos_of g1;have hU:=(Zb HT).below g3 (Zb HT).lt;have hlt:=hI.lt;obtain⟨f,rfl⟩:∃ f',f=f'+1:=⟨f-1,by have:=hI.fuel; omega⟩;have HI:=Ze hI;have hlen:=hI.len;have G1:=Ze g1;have G2:=Ze g2;have G3:=Ze g3;clear hI g1 g2 g3 hit;cases cc with
   | true =>
    have HC:=Ze (Zmu (s.extract pos s.size) r _ (by simp; omega) hU);rw [Zju s pos hp,hd] at HC;clear hU;go_wp2_with fail
    refine(Zb HC).mono ?_;rintro e w1 ⟨rfl,hb1⟩;have k1:=(hb1.block w.heap.size (by rw [g4]; exact hlt)).trans (Zb G1);have K2:=Ze ((Zb G2).below hb1);have K3:=Ze ((Zb G3).trans (hb1.mono (by rw [g4]; omega)));have hm3:=iterPos_of k1;have K1:=Ze k1;clear hb1 HC k1;by_cases hbk:r=65533∧n=1
    ·have hE:=(Yap (f:=f) (l:=l) hp hd hbk).symm.trans (Zb HI).eq;simp only [hbk,and_self,decide_true];go_wp2;go_ret2;exact⟨_,_,rfl,Zb K3,by rw [← hE]⟩
    ·have hE:=(Yaq (f:=f) (l:=l) hp hd hbk).symm.trans (Zb HI).eq;simp only [hbk,decide_false];go_wp2;go_roundw
     case rel=>exact⟨decide (r≠10),pos+n,f,l,by rw [Value.bool.injEq,Bool.eq_iff_iff]; simp; try omega,⟨Zb K1,Zb K2,Zb K3,hE,by have:=(Zb HI).fuel; omega,by omega⟩⟩
     case measure=>omega
   | false =>
    have HC:=Ze (Zwg r (wr.iterAt w.heap.size s (pos+n)) hr);have h6:=Zjv r;clear hU;go_wp2_with fail
    refine(Zb HC).mono ?_;rintro e w1 ⟨rfl,rfl⟩;clear HC;have hcs:Ja r=0∨Ja r=1∨Ja r=2∨3≤Ja r:=by omega
    rcases hcs with hk | hk | hk | hk
    ·have hE:=(Yal (f:=f) (l:=l) hp hd hk).symm.trans (Zb HI).eq;rw [hk];clear hk;go_wp2;go_ret2;exact⟨_,_,rfl,Zb G3,by rw [← hE]⟩
    ·have hE:=(Yam (f:=f) (l:=l) hp hd hk).symm.trans (Zb HI).eq;rw [hk];clear hk;go_wp2;go_roundw
     case rel=>exact⟨false,pos+n,f,l,rfl,⟨Zb G1,Zb G2,Zb G3,hE,by have:=(Zb HI).fuel; omega,by omega⟩⟩
     case measure=>omega
    ·have hE:=(Yan (f:=f) (l:=l) hp hd hk).symm.trans (Zb HI).eq;rw [hk];clear hk;go_wp2;go_roundw
     case rel=>exact⟨true,pos+n,f,l,rfl,⟨Zb G1,Zb G2,Zb G3,hE,by have:=(Zb HI).fuel; omega,by omega⟩⟩
     case measure=>omega
    ·have hE:=(Yao (f:=f) (l:=l) (Ja r) hp hd rfl hk).symm.trans (Zb HI).eq;have hl2:=Zjs l (Ja r) pos;have HA:=Ze (Zsg (w.heap.size+1) l u4 (Ja r) pos _ (Zb G2) (by omega) (by omega) (by rw [g4]; omega) ⟨hk,h6⟩);generalize Ja r=kk at *;have hcs:kk=3∨kk=4∨kk=5∨kk=6:=by omega
     rcases hcs with rfl | rfl | rfl | rfl;all_goals
      go_wp2_with fail
      refine(Zb HA).mono ?_;rintro e w1 ⟨v',rfl,hO,hb1⟩;have k1:=(hb1.block w.heap.size (by omega)).trans (Zb G1);have K3:=Ze ((Zb G3).trans (hb1.mono (by omega)));have K2:=Ze hO;have hm3:=iterPos_of k1;have K1:=Ze k1;clear hb1 HA k1 hO;go_wp2;go_roundw
      case rel=>exact⟨false,pos+n,f,_,rfl,⟨Zb K1,Zb K2,Zb K3,hE,by have:=(Zb HI).fuel; omega,by omega⟩⟩
      case measure=>omega
  ·have hnx:∀ ty,(Instr.next (.pointer (some ⟨w.heap.size,0,none⟩)) true ty).run Tryz.prog _=_:=fun ty=>Lib.run_next_end_at _ w.heap.size s pos ty hit hp;have HI:=Ze hI;clear hI;go_wp2;go_ret2;have h:=Zb HI;have e:=h.eq;rw [Zwo s f pos cc l hp] at e;exact⟨_,_,rfl,h.low,by rw [← e]; exact⟨rfl,h.own.mono (by omega)⟩⟩
def Rs (w:World)(v:Value)(ns:List Int):Prop:=(ns=[]∧∃ p cap,v=.slice p 0 cap)∨∃ sb so cap,v=.slice (some ⟨sb,so,none⟩) ns.length cap∧∀ i,i<ns.length→w.cell? ⟨sb,so+i,none⟩=some (.int .i64 (ns.getD i 0))
theorem Rs.below {w w':World}{v:Value}{ns:List Int}(h:Rs w v ns)(hb:Below w.heap.size w w'):Rs w' v ns:=by
 rcases h with h | ⟨sb,so,cap,e,hc⟩
 ·exact Or.inl h
 ·exact Or.inr ⟨sb,so,cap,e,fun i hi=>(hb.cell (p:=⟨sb,so+i,none⟩) (ltc (hc i hi))).trans (hc i hi)⟩
def Yhm (r sp lk t0 t1:Int)(ag rs ss:List Int)(al sh by_:Int)(k:Nat):List Int:=[[r],[sp],[lk],[t0,t1],ag,rs,ss,[al],[sh],[by_]].getD k []
def pre (r sp lk t0 t1:Int)(ag rs ss:List Int)(al sh by_:Int):Nat→List UInt8
 | 0=>[]
 | k+1=>pre r sp lk t0 t1 ag rs ss al sh by_ k++Ys k (Yhm r sp lk t0 t1 ag rs ss al sh by_ k)
theorem Rs.form {w:World}{v:Value}{ns:List Int}(h:Rs w v ns):∃ p n cap,v=.slice p n cap:=by
 rcases h with⟨_,p,cap,e⟩ | ⟨sb,so,cap,e,_⟩
 ·exact⟨_,_,_,e⟩
 ·exact⟨_,_,_,e⟩
theorem Rs.get {w:World}{v:Value}{ns:List Int}(h:Rs w v ns)(hn:ns≠[]):∃ sb so cap,v=.slice (some ⟨sb,so,none⟩) ns.length cap∧∀ i,i<ns.length→w.cell? ⟨sb,so+i,none⟩=some (.int .i64 (ns.getD i 0)):=by
 rcases h with⟨e,_⟩ | h
 ·exact absurd e hn
 ·exact h
theorem Zhe {ns:List Int}{x:Int}{k:Nat}(hk:k<ns.length)(h:¬ x ∈ ns.take k)(hx:ns.getD k 0≠x):¬ x ∈ ns.take (k+1):=by
 rw [List.take_succ_eq_append_getElem hk];intro hm;rcases List.mem_append.1 hm with h' | h'
 ·exact h h'
 ·simp at h';exact hx (by simp [List.getD,hk,h'])
theorem Zkh {ns:List Int}{x:Int}{k:Nat}(hk:k<ns.length)(hx:ns.getD k 0=x):x ∈ ns:=by
 have:ns[k]=x:=by simpa [List.getD,hk] using hx
 exact this ▸ List.getElem_mem hk
set_option maxHeartbeats 1000000
set_option maxRecDepth 100000
theorem Mx (ns:List Int)(x:Int)(v:Value)(w:World)(h:Rs w v ns)(hn:ns.length≤1000000):Calls Tryz.prog 163 #[v,.int .i64 x] w fun e w'=>e=.returned (.bool (decide (x ∈ ns)))∧w'=w:=by
 by_cases hne:ns=[]
 ·obtain⟨p,cap,rfl⟩:∃ p cap,v=.slice p 0 cap:=by
   rcases h with⟨_,p,cap,e⟩ | ⟨sb,so,cap,e,_⟩
   ·exact⟨p,cap,e⟩
   ·rw [hne] at e; exact⟨_,_,e⟩
  refine(Tryz.slices_Contains_int_empty p cap x w).mono ?_;rintro e w' ⟨rfl,rfl⟩;exact⟨by rw [hne]; simp,rfl⟩
 ·obtain⟨sb,so,cap,rfl,hc⟩:=h.get hne;refine(Tryz.slices_Contains_int sb so ns.length cap ns x w (Nat.le_refl _) (by omega) hc).mono ?_;rintro e w' ⟨rfl,rfl⟩;exact⟨by rw [List.take_length]; simp,rfl⟩
def Mj (al bs:List Int):Bool:=al.any fun r=>decide (r ∈ bs)
theorem Zeb (al bs:List Int)(va vb:Value)(w:World)(ha:Rs w va al)(hb:Rs w vb bs)(hna:al.length≤1000000)(hnb:bs.length≤1000000):Calls Tryz.prog 116 #[va,vb] w fun e w'=>e=.returned (.bool (Mj al bs))∧w'=w:=by
 have HB:=Ze hb;clear hb;by_cases hne:al=[]
 ·obtain⟨p,cap,rfl⟩:∃ p cap,va=.slice p 0 cap:=by
   rcases ha with⟨_,p,cap,e⟩ | ⟨sb,so,cap,e,_⟩
   ·exact⟨p,cap,e⟩
   ·rw [hne] at e; exact⟨_,_,e⟩
  subst hne;clear ha;go_enter Tryz.func116,Tryz.ntmps116
  go_wp2_with fail
  refine wp_loop_rounds 1 ?_;rw [rounds_succ];go_wp2;go_ret;exact⟨rfl,rfl⟩
 ·obtain⟨sb,so,cap,rfl,hc⟩:=ha.get hne;have HC:=Ze hc;clear ha hc;go_enter Tryz.func116,Tryz.ntmps116
  go_wp2_with fail
  go_loopw [9] (fun j w'=>∃ k:Nat,j=.int .i64 k∧k≤al.length∧w'=w∧Mj (al.take k) bs=false) (fun j _=>al.length-(intOf j).toNat)
  case atStart=>exact⟨0,rfl,by omega,rfl,by simp [Mj]⟩
  case round =>
   obtain⟨k,rfl,hk,rfl,hno⟩:=hrel;have HN:=Ze hno;clear hno;by_cases hlt:k<al.length
   ·have c:=Zb HC k hlt;have HD:=Ze (Mx bs (al.getD k 0) vb wr (Zb HB) hnb);have hg:al.getD k 0=al[k]:=by simp [List.getD,hlt]
    have hst:Mj (al.take (k+1)) bs=decide (al.getD k 0 ∈ bs):=by rw [List.take_succ_eq_append_getElem hlt];unfold Mj;rw [List.any_append];have:=Zb HN;unfold Mj at this;rw [this,hg];simp
    have hall:decide (al.getD k 0 ∈ bs)=true→Mj al bs=true:=fun h=>by
     unfold Mj;rw [List.any_eq_true];exact⟨al[k],List.getElem_mem hlt,by rw [← hg]; exact h⟩
    have HS:=Ze hst;have HA:=Ze hall;clear hst hall hg;generalize decide (al.getD k 0 ∈ bs)=yes at *;generalize al.getD k 0=y at *;go_wp2_with fail
    refine(Zb HD).mono ?_;rintro e w2 ⟨rfl,h2⟩;subst w2;cases yes with
    | true=>go_wp2;go_ret;exact⟨by simp [Zb HA trivial],rfl⟩
    | false =>
     go_wp2;go_roundw
     case rel=>exact⟨k+1,by go_num,by omega,trivial,Zb HS⟩
     case measure=>simp [intOf]; omega
   ·obtain rfl:k=al.length:=by omega
    have HT:=Ze (show Mj al bs=false by have:=Zb HN; rwa [List.take_length] at this);go_wp2;go_ret;exact⟨by simp [Zb HT],rfl⟩
set_option maxHeartbeats 2000000
set_option maxRecDepth 100000
def Zhf (l:List Int)(c:Int)(i:Nat):Bool:=decide (0≤l.getD i 0∧l.getD i 0<c∧¬ l.getD i 0 ∈ l.take i)
def Jp (l:List Int)(c:Int):Bool:=(List.range l.length).all (Zhf l c)
theorem Rs.take {w:World}{sb so:Nat}{ns:List Int}(hc:∀ i,i<ns.length→w.cell? ⟨sb,so+i,none⟩=some (.int .i64 (ns.getD i 0)))(k cap':Nat)(hk:k≤ns.length):Rs w (.slice (some ⟨sb,so,none⟩) k cap') (ns.take k):=by
 have hl:(ns.take k).length=k:=by simp; omega
 refine Or.inr ⟨sb,so,cap',by rw [hl],fun i hi=>?_⟩;rw [hl] at hi;rw [hc i (by omega)];simp [List.getD,hi]
theorem Mk (ns:List Int)(c:Int)(v:Value)(w:World)(h:Rs w v ns)(hn:ns.length≤1000000)(hcap:∀ a n cap,v=.slice a n cap→n≤cap):Calls Tryz.prog 115 #[v,.int .i64 c] w fun e w'=>e=.returned (.bool (Jp ns c))∧w'=w:=by
 by_cases hne:ns=[]
 ·obtain⟨p,cap,rfl⟩:∃ p cap,v=.slice p 0 cap:=by
   rcases h with⟨_,p,cap,e⟩ | ⟨sb,so,cap,e,_⟩
   ·exact⟨p,cap,e⟩
   ·rw [hne] at e; exact⟨_,_,e⟩
  subst hne;clear h hcap;go_enter Tryz.func115,Tryz.ntmps115
  go_wp2_with fail
  refine wp_loop_rounds 1 ?_;rw [rounds_succ];go_wp2;go_ret;exact⟨rfl,rfl⟩
 ·obtain⟨sb,so,cap,rfl,hc⟩:=h.get hne;have hcp:=hcap _ _ _ rfl;have HC:=Ze hc;clear h hc hcap;go_enter Tryz.func115,Tryz.ntmps115
  go_wp2_with fail
  go_loopw [9] (fun j w'=>∃ k:Nat,j=.int .i64 k∧k≤ns.length∧w'=w∧∀ q,q<k→Zhf ns c q=true) (fun j _=>ns.length-(intOf j).toNat)
  case atStart=>exact⟨0,rfl,by omega,rfl,fun q hq=>by omega⟩
  case round =>
   obtain⟨k,rfl,hk,rfl,hno⟩:=hrel;have HN:=Ze hno;clear hno;by_cases hlt:k<ns.length
   ·have cc:=Zb HC k hlt;have bad:Zhf ns c k=false→Jp ns c=false:=fun hb=>by
     unfold Jp;rw [List.all_eq_false];exact⟨k,List.mem_range.2 hlt,by simp [hb]⟩
    have HBAD:=Ze bad;have hrd:Zhf ns c k=decide (0≤ns.getD k 0∧ns.getD k 0<c∧¬ ns.getD k 0 ∈ ns.take k):=rfl;have HRD:=Ze hrd;have HCT:=Ze (fun cap'=>Mx (ns.take k) (ns.getD k 0) _ wr (Rs.take (Zb HC) k cap' (by omega)) (by simp; omega));have next:Zhf ns c k=true→∀ q,q<k+1→Zhf ns c q=true:=fun hb q hq=>by
     rcases Nat.lt_succ_iff_lt_or_eq.1 hq with h' | h'
     ·exact Zb HN q h'
     ·subst h'; exact hb
    have HNX:=Ze next;clear bad hrd next;generalize hy:ns.getD k 0=y at cc HRD HCT;clear hy;by_cases h0:0≤y
    ·by_cases h1:y<c
     ·generalize hm:decide (y ∈ ns.take k)=yes at HCT;have hrr:Zhf ns c k=!yes:=by rw [Zb HRD,← hm]; simp [h0,h1]
      have HRR:=Ze hrr;clear hrr hm;go_wp2_with fail
      refine(Zb HCT _).mono ?_;rintro e w2 ⟨rfl,h2⟩;subst w2;cases yes with
      | true=>have hrr:=Ze (Zb HBAD (Zb HRR));go_wp2;go_ret;exact⟨by simp [Zb hrr],rfl⟩
      | false =>
       have hrr:=Ze (Zb HNX (Zb HRR));go_wp2;go_roundw
       case rel=>exact⟨k+1,by go_num,by omega,trivial,Zb hrr⟩
       case measure=>simp [intOf]; omega
     ·have hrr:=Ze (Zb HBAD (by rw [Zb HRD]; simp; omega));go_wp2;go_ret;exact⟨by simp [Zb hrr],rfl⟩
    ·have hrr:=Ze (Zb HBAD (by rw [Zb HRD]; simp; omega));go_wp2;go_ret;exact⟨by simp [Zb hrr],rfl⟩
   ·obtain rfl:k=ns.length:=by omega
    have HT:=Ze (show Jp ns c=true by unfold Jp; rw [List.all_eq_true]; exact fun q hq=>Zb HN q (List.mem_range.1 hq));go_wp2;go_ret;exact⟨by simp [Zb HT],rfl⟩
set_option maxHeartbeats 2000000
def Ig (r al sh by_:Int):Bool:=decide (4≤r∧r≤16∧(al=8∨al=16∨al=32)∧0≤sh∧sh≤32∧sh % 8=0∧0≤by_∧by_≤4)
theorem Zhd (r sp lk t0 t1:Int)(va vr vs:Value)(al sh by_:Int)(pr:Bool)(w:World):Calls Tryz.prog 74 #[.agg (Zu r sp lk t0 t1 va vr vs al sh by_ pr)] w fun e w'=>e=.returned (.bool (Ig r al sh by_))∧Below w.heap.size w w':=by
 unfold Zu;have no:∀ p:Prop,¬ (4≤r∧r≤16∧(al=8∨al=16∨al=32)∧0≤sh∧sh≤32∧sh % 8=0∧0≤by_∧by_≤4)→Ig r al sh by_=false:=fun _ h=>decide_eq_false h;have NO:=Ze no;clear no;by_cases h1:4≤r
 ·by_cases h2:r≤16
  ·by_cases h3:al=8∨al=16∨al=32
   ·by_cases h4:0≤sh
    ·by_cases h5:sh≤32
     ·by_cases h6:sh % 8=0
      ·have z6:(sh % 8==0)=true:=by simp [h6]
       by_cases h7:0≤by_
       ·by_cases h8:by_≤4
        ·have hy:Ig r al sh by_=true:=decide_eq_true ⟨h1,h2,h3,h4,h5,h6,h7,h8⟩;rw [hy];clear hy h6;rcases h3 with rfl | rfl | rfl;all_goals
          go_enter Tryz.func74,Tryz.ntmps74
          go_wp2;go_ret;exact⟨rfl,by go_grown⟩
        ·rw [Zb NO True (by omega)];clear h6;rcases h3 with rfl | rfl | rfl;all_goals
          go_enter Tryz.func74,Tryz.ntmps74
          go_wp2;go_ret;exact⟨rfl,by go_grown⟩
       ·rw [Zb NO True (by omega)];clear h6;rcases h3 with rfl | rfl | rfl;all_goals
         go_enter Tryz.func74,Tryz.ntmps74
         go_wp2;go_ret;exact⟨rfl,by go_grown⟩
      ·have z6:(sh % 8==0)=false:=by simp [h6]
       rw [Zb NO True (by omega)];clear h6;rcases h3 with rfl | rfl | rfl;all_goals
        go_enter Tryz.func74,Tryz.ntmps74
        go_wp2;go_ret;exact⟨rfl,by go_grown⟩
     ·rw [Zb NO True (by omega)];rcases h3 with rfl | rfl | rfl;all_goals
       go_enter Tryz.func74,Tryz.ntmps74
       go_wp2;go_ret;exact⟨rfl,by go_grown⟩
    ·rw [Zb NO True (by omega)];rcases h3 with rfl | rfl | rfl;all_goals
      go_enter Tryz.func74,Tryz.ntmps74
      go_wp2;go_ret;exact⟨rfl,by go_grown⟩
   ·rw [Zb NO True (by omega)];have z1:(al==8)=false:=by simp; omega
    have z2:(al==16)=false:=by simp; omega
    have z3:(al==32)=false:=by simp; omega
    clear h3;go_enter Tryz.func74,Tryz.ntmps74
    go_wp2;go_ret;exact⟨rfl,by go_grown⟩
  ·rw [Zb NO True (by omega)];go_enter Tryz.func74,Tryz.ntmps74
   go_wp2;go_ret;exact⟨rfl,by go_grown⟩
 ·rw [Zb NO True (by omega)];go_enter Tryz.func74,Tryz.ntmps74
  go_wp2;go_ret;exact⟨rfl,by go_grown⟩
theorem Rs.shape {w:World}{v:Value}{ns:List Int}(h:Rs w v ns):∃ p cap,v=.slice p ns.length cap:=by
 rcases h with⟨rfl,p,cap,e⟩ | ⟨sb,so,cap,e,_⟩
 ·exact⟨p,cap,e⟩
 ·exact⟨_,_,e⟩
def Zea (ag rs ss:List Int):Bool:=decide (ag.length≤8∧rs.length≤4∧ss.length≤12)
theorem Zne (r sp lk t0 t1:Int)(va vr vs:Value)(al sh by_:Int)(pr:Bool)(ag rs ss:List Int)(w:World)(ha:∃ p cap,va=.slice p ag.length cap)(hr:∃ p cap,vr=.slice p rs.length cap)(hs:∃ p cap,vs=.slice p ss.length cap):Calls Tryz.prog 75 #[.agg (Zu r sp lk t0 t1 va vr vs al sh by_ pr)] w fun e w'=>e=.returned (.bool (Zea ag rs ss))∧Below w.heap.size w w':=by
 unfold Zu;obtain⟨pa,ca,rfl⟩:=ha;obtain⟨pr',cr,rfl⟩:=hr;obtain⟨ps,cs,rfl⟩:=hs;unfold Zea;generalize ag.length=na;generalize rs.length=nr;generalize ss.length=ns;by_cases h1:na≤8
 ·by_cases h2:nr≤4
  ·by_cases h3:ns≤12
   ·rw [decide_eq_true ⟨h1,h2,h3⟩];go_enter Tryz.func75,Tryz.ntmps75
    go_wp2;go_ret;exact⟨by show Ending.returned (.bool (decide ((ns:Int)≤12)))=_; rw [decide_eq_true (by omega)],by go_grown⟩
   ·rw [decide_eq_false (fun h=>h3 h.2.2)];go_enter Tryz.func75,Tryz.ntmps75
    go_wp2;go_ret;exact⟨by show Ending.returned (.bool (decide ((ns:Int)≤12)))=_; rw [decide_eq_false (by omega)],by go_grown⟩
  ·rw [decide_eq_false (fun h=>h2 h.2.1)];go_enter Tryz.func75,Tryz.ntmps75
   go_wp2;go_ret;exact⟨rfl,by go_grown⟩
 ·rw [decide_eq_false (fun h=>h1 h.1)];go_enter Tryz.func75,Tryz.ntmps75
  go_wp2;go_ret;exact⟨rfl,by go_grown⟩
end Go.Proofs.YtkenknfgeoecbaaGreatDoor
