import Derived.Deep.Slices
import Derived.Test.YtkenknfgeoecbaaGreatDoorOrP
import Derived.Test.YtkenknfgeoecbaaGreatDoorJ23
import Derived.Test.YtkenknfgeoecbaaGreatDoorJ19
import Derived.Test.YtkenknfgeoecbaaGreatDoorTie
import Derived.Deep.DeepHandedRow
import Derived.Deep.CutRange
namespace Go.Proofs.YtkenknfgeoecbaaGreatDoor
open Go.ChangeShapes Go.WideShapes Go.ChangeAt Go.RowKit Go.Deep
def Zny (n:Int):Prop:=-9223372036854775808<=n∧n<=9223372036854775807
namespace bulkE
theorem one_le {H:Type}(d:DataW H):1<=Rows.uptoBulk d:=by
 cases d with
 | lit l=>cases l <;> simp [Rows.uptoBulk]
 | _=>simp [Rows.uptoBulk]
end bulkE
theorem Tryz.cellsIntE:Tryz.prog.cellsOf 3=1:=by kernel_rfl
theorem Zel {α:Type}{tr:TypeId->List Value->Option α}{fs:Array Field}{cs:List Value}{xs:List α}{c:Nat}{i:Nat}{f:Field}{y:α}
 (hf:∀(i:Nat) (f:Field),fs[i]?=some f->tr f.type ((cs.drop f.offset).take (Tryz.prog.cellsOf f.type))=xs[i]?) (hi:fs[i]?=some f) (hc:Tryz.prog.cellsOf f.type=c) (hy:xs[i]?=some y):tr f.type ((cs.drop f.offset).take c)=some y:=by
 rw [← hy,← hf i f hi,hc]
theorem Zlr {α:Type}{l:List α}(h:l.length=2):∃ a0 a1,l=[a0,a1]:=by
 match l,h with
 | [a0,a1],_=>exact⟨_,_,rfl⟩
theorem Zfu {n:Nat}(h:n<=maxLen):n<Jw:=by unfold maxLen at h; unfold Jw; omega
section
variable {H:Type} {enc:TypeId×Value->H} {w:World} {held:Bool}
abbrev TrE (enc:TypeId×Value->H)(w:World)(held:Bool)(n:Nat)(t:TypeId)(cs:List Value)(y:DataW H×List MemPlace):Prop:=DataW.trod enc Tryz.prog w 0 (fun _=>true) held n t cs=some y
theorem Cy {n:Nat}{v:Value}{y:DataW H×List MemPlace}(h:TrE enc w held n 3 [v] y):∃ x:Int,v=.int .i64 x∧Zny x:=by obtain⟨x,e,-,hw⟩:=DataW.trod_int Tryz.underlying3 h;have hb:=bounds_i64 hw;exact⟨x,List.head_eq_of_cons_eq e,by unfold Zny; omega⟩
theorem Zem {t:TypeId}{fs:Array Field}{f0 f1:Field}(ht:Tryz.prog.underlying t=some (.struct fs))(hf:fs=#[f0,f1])(t0:f0.type=3)(t1:f1.type=3)(o0:f0.offset=0)(o1:f1.offset=1)
 {n:Nat} {cs:List Value} {y:DataW H×List MemPlace} (hl:cs.length=2) (h:TrE enc w held n t cs y):∃ x:Int×Int,(cs.toArray=#[.int .i64 x.1,.int .i64 x.2]∧Zny x.1∧Zny x.2)∧3<=Rows.uptoBulk y.1:=by
 obtain⟨c0,c1,rfl⟩:=Zlr hl;obtain⟨xs,k,-,hx,-,hxl,hall⟩:=DataW.trod_struct ht h;subst hf;obtain⟨y0,y1,rfl⟩:=Zlr hxl;have g0:=hall 0 f0 rfl;have g1:=hall 1 f1 rfl;rw [t0,o0,Tryz.cellsIntE] at g0;rw [t1,o1,Tryz.cellsIntE] at g1;obtain⟨x0,rfl,b0⟩:=Cy (v:=c0) (y:=y0) g0;obtain⟨x1,rfl,b1⟩:=Cy (v:=c1) (y:=y1) g1;refine⟨(x0,x1),⟨rfl,b0,b1⟩,?_⟩;rw [congrArg Prod.fst hx];have:=bulkE.one_le y0.1;have:=bulkE.one_le y1.1;simp only [List.map_cons,List.map_nil,Rows.uptoBulk,Rows.uptoBulkAll];omega
end
end Go.Proofs.YtkenknfgeoecbaaGreatDoor
namespace Go.Proofs.YtkenknfgeoecbaaGreatDoor
open Go.RowKit Go.MapKept
set_option maxRecDepth 100000
def kP (p:Yp):Value:=.agg #[.int .i64 p.1,.int .i64 p.2]
theorem Ybi (p q:Yp)(w:World):(Op.equal 34 (kP p) (kP q)).run Tryz.prog w=.ok (decide (p=q)) w:=by
 obtain⟨a,b⟩:=p;obtain⟨a',b'⟩:=q;have u3:=Tryz.underlying3;have a3:=Tryz.isAgg3;have z3:=Tryz.sizeOf3;have hS:Tryz.prog.underlying 34=some (.struct (Tryz.prog.fieldsOf 34)):=by kernel_rfl
 have hp:Tryz.prog.stoodInHeld 34=false:=by kernel_rfl
 show(Op.equalIn 10000 _ _ _).run _ _=_;unfold kP;rw [show(10000:Nat)=9999+1 from rfl,run_equalIn_agg w 9999 34 _ _ hS hp];simp only [Program.fieldsOf,Tryz.underlying34];go_simp;by_cases h1:a=a' <;> by_cases h2:b=b' <;> simp [h1,h2]
theorem Il (p:Yp)(e:Bool)(w:World):(Instr.checkKey e 10000 34 (kP p)).run Tryz.prog w=.ok () w:=by
 have u3:=Tryz.underlying3;have a3:=Tryz.isAgg3;have z3:=Tryz.sizeOf3;have hk:∀(v:Int) (n:Nat) (w:World),(Instr.checkKey e (n+1) 3 (.int .i64 v)).run Tryz.prog w=.ok () w:=fun v n w=>by
  unfold Instr.checkKey;simp only [Sem.run_bind,run_underlying u3,Result.andThen];rfl
 unfold kP;rw [show(10000:Nat)=9998+1+1 from rfl,Instr.checkKey];simp only [Sem.run_bind,run_underlying Tryz.underlying34,Result.andThen_ok];go_simp
section
variable {α:Type} (f:α->Value)
def Nw (m:List (Yp×α))(p:Yp):Option α:=match m with
 | []=>none
 | (q,v) :: r=>if q=p then some v else Nw r p
def Nb (m:List (Yp×α))(p:Yp)(v:α):List (Yp×α):=match m with
 | []=>[(p,v)]
 | (q,u) :: r=>if q=p then (q,v) :: r else (q,u) :: Nb r p v
theorem Zor (m:List (Yp×α))(p q:Yp)(v:α):Nw (Nb m p v) q=if q=p then some v else Nw m q:=by
 induction m with
 | nil =>
  unfold Nb Nw;by_cases h:q=p
  ·rw [if_pos h,if_pos h.symm]
  ·rw [if_neg h,if_neg (fun e=>h e.symm)];rfl
 | cons a r ih =>
  obtain⟨b,u⟩:=a;unfold Nb;by_cases hb:b=p
  ·rw [if_pos hb];unfold Nw;by_cases h:q=p
   ·rw [if_pos h,if_pos (hb.trans h.symm)]
   ·rw [if_neg h,if_neg (fun e=>h (e.symm.trans hb)),if_neg (fun e=>h (e.symm.trans hb))]
  ·rw [if_neg hb];unfold Nw;by_cases h2:b=q
   ·rw [if_pos h2,if_pos h2,if_neg (fun e=>hb (h2.trans e))]
   ·rw [if_neg h2,if_neg h2,ih]
def MpG:List (Yp×α)->List MapEntry->Prop
 | [],[]=>True
 | (q,v) :: m,e :: l=>e.key=kP q∧e.val=f v∧MpG m l
 | _,_=>False
theorem Zup (p:Yp)(w:World):∀(m:List (Yp×α)) (l:List MapEntry) (i:Nat),MpG f m l->∃ o,(Instr.findAsking 34 (kP p) l i).run Tryz.prog w=.ok o w∧(o=none∧Nw m p=none∧(∀ v x,x.key=kP p->x.val=f v->MpG f (Nb m p v) (l++[x]))∨∃ j v,o=some (i+j,f v)∧Nw m p=some v∧j<l.length∧(∃ x,l[j]?=some x∧x.key=kP p∧x.val=f v)∧∀ u,MpG f (Nb m p u) (l.modify j fun e=>{ e with key:=kP p,val:=f u }))
 | [],[],i,_=>⟨none,by simp [Instr.findAsking],.inl ⟨rfl,rfl,fun v x h1 h2=>⟨h1,h2,trivial⟩⟩⟩
 | [],e :: l,i,h=>h.elim
 | (q,v) :: m,[],i,h=>h.elim
 | (q,v) :: m,e :: l,i,h=>by
  obtain⟨h1,h2,h3⟩:=h;by_cases hq:q=p
  ·refine⟨some (i,e.val),?_,.inr ⟨0,v,by rw [h2]; rfl,by unfold Nw; rw [if_pos hq],by simp,⟨e,rfl,by rw [h1,hq],h2⟩,fun u=>?_⟩⟩
   ·rw [Instr.findAsking];simp only [Sem.run_bind,h1,Ybi,Result.andThen_ok];rw [decide_eq_true hq.symm];simp
   ·unfold Nb;rw [if_pos hq,List.modify_zero_cons];exact⟨by rw [hq],rfl,h3⟩
  ·obtain⟨o,r1,r2⟩:=Zup p w m l (i+1) h3;refine⟨o,?_,?_⟩
   ·rw [Instr.findAsking];simp only [Sem.run_bind,h1,Ybi,Result.andThen_ok];rw [decide_eq_false (fun e=>hq e.symm)];simpa using r1
   ·have eg:Nw ((q,v) :: m) p=Nw m p:=by rw [Nw,if_neg hq]
    rw [eg];rcases r2 with⟨a,b,c⟩ | ⟨j,u,a,b,c,d,g⟩
    ·refine .inl ⟨a,b,fun u x hx hy=>?_⟩;unfold Nb;rw [if_neg hq];exact⟨h1,h2,c u x hx hy⟩
    ·refine .inr ⟨j+1,u,by rw [a]; congr 2; omega,b,by simp; omega,by simpa using d,fun u=>?_⟩;unfold Nb;rw [if_neg hq,List.modify_succ_cons];exact⟨h1,h2,g u⟩
theorem Zbe (p:Yp)(w:World)(m:List (Yp×α))(l:List MapEntry)(h:MpG f m l):∃ o,(Instr.findKey 34 (kP p) l).run Tryz.prog w=.ok o w∧(o=none∧Nw m p=none∧(∀ v x,x.key=kP p->x.val=f v->MpG f (Nb m p v) (l++[x]))∨∃ j v,o=some (j,f v)∧Nw m p=some v∧j<l.length∧(∃ x,l[j]?=some x∧x.key=kP p∧x.val=f v)∧∀ u,MpG f (Nb m p u) (l.modify j fun e=>{ e with key:=kP p,val:=f u })):=by
 obtain⟨o,h1,h2⟩:=Zup f p w m l 0 h;simp only [Nat.zero_add] at h2;refine⟨o,?_,h2⟩;unfold Instr.findKey;simp only [Sem.run_bind,run_underlying Tryz.underlying34,Result.andThen_ok];cases l with
 | nil=>simp only [Instr.findNow];rw [Instr.findAsking] at h1;exact h1
 | cons e l =>
  have:Instr.sameNow (.struct (Tryz.prog.fieldsOf 34)) (kP p) e.key=none:=by unfold Instr.sameNow kP;rfl
  simp only [Instr.findNow];exact h1
end
def StE (es:Array MapEntry)(ck:Nat):Prop:=(∀ x ∈ es.toList,x.born<ck)∧(es.toList.map (·.born)).Nodup
def iV (n:Int):Value:=.int .i64 n
def MpO (o:Obj)(m:List (Yp×Int)):Prop:=∃ es ck,o=.map es ck∧MpG iV m es.toList∧StE es ck
def Dc (m:List (Yp×Int))(p:Yp):Int:=(Nw m p).getD 0
theorem Md (m:List (Yp×Int))(p q:Yp)(v:Int):Dc (Nb m p v) q=if q=p then v else Dc m q:=by unfold Dc;rw [Zor];split <;> rfl
theorem MpO.new:MpO (.map #[] 0) []:=⟨#[],0,rfl,trivial,fun x hx=>(by simp at hx),by simp⟩
theorem Ga {w:World}{r:Nat}{o:Obj}{m:List (Yp×Int)}(hb:w.heap[r]?=some o)(h:MpO o m)(p:Yp) :
 (Instr.lookup 38 (.map (some r)) (kP p) false).run Tryz.prog w=.ok (.int .i64 (Dc m p)) w:=by
 obtain⟨es,ck,rfl,hm,-⟩:=h;obtain⟨o,h1,h2⟩:=Zbe iV p w m es.toList hm;have hz:(zeroValue 3).run Tryz.prog w=.ok (.int .i64 0) w:=by kernel_rfl
 unfold Instr.lookup;simp only [Sem.run_bind,run_underlying Tryz.underlying38,Result.andThen_ok,Go.MapKept.run_getObj_map hb,Sem.run_pure,Il,h1];unfold Dc;rcases h2 with⟨rfl,e,-⟩ | ⟨j,v,rfl,e,-⟩
 ·simp only [Sem.run_bind,hz,Result.andThen_ok];rw [e];rfl
 ·rw [e];rfl
theorem Zzm (p:Yp):Instr.sameBits 10000 (kP p) (kP p)=true:=by unfold kP;rw [show(10000:Nat)=9999+1 from rfl,Instr.sameBits];simp [Instr.sameBits]
theorem Zjd (p:Yp)(w:World):(Instr.keyThatStays (kP p) (kP p)).run Tryz.prog w=.ok (kP p) w:=by unfold Instr.keyThatStays;rw [Zzm];rfl
theorem Zfc {es:Array MapEntry}(hn:(es.toList.map (·.born)).Nodup){j:Nat}{x:MapEntry}(hx:es[j]?=some x):es.findIdx? (fun e=>((e.born:Int)==(x.born:Int)))=some j:=by obtain⟨l⟩:=es;rw [List.findIdx?_toArray,List.findIdx?_eq_some_iff_getElem];rw [← Array.getElem?_toList] at hx;obtain⟨hj,e⟩:=List.getElem?_eq_some_iff.1 hx;refine⟨hj,by simp [e],fun i hi=>?_⟩;have:=List.pairwise_iff_getElem.1 hn i j (by rw [List.length_map]; exact Nat.lt_trans hi hj) (by simpa using hj) hi;simp only [List.getElem_map] at this;rw [e] at this;intro hc;have h2:=beq_iff_eq.1 hc;exact this (Int.ofNat_inj.1 h2)
theorem Oq {es:Array MapEntry}{ck:Nat}(h:StE es ck)(j:Nat)(f:MapEntry->MapEntry)(hf:∀ e,(f e).born=e.born):StE (es.modify j f) ck:=by
 have e:((es.modify j f).toList.map (·.born))=es.toList.map (·.born):=by
  rw [Array.toList_modify];apply List.ext_getElem
  ·simp
  ·intro i h1 h2;simp only [List.getElem_map,List.getElem_modify];split
   ·exact hf _
   ·rfl
 refine⟨fun x hx=>?_,by rw [e]; exact h.2⟩;have:x.born ∈ (es.modify j f).toList.map (·.born):=List.mem_map.2 ⟨x,hx,rfl⟩;rw [e] at this;obtain⟨y,hy,e2⟩:=List.mem_map.1 this;rw [← e2];exact h.1 y hy
theorem Zcs {es:Array MapEntry}{ck:Nat}(h:StE es ck)(k v:Value):StE (es.push { key:=k,val:=v,born:=ck }) (ck+1):=by
 refine⟨fun x hx=>?_,?_⟩
 ·rw [Array.toList_push] at hx;rcases List.mem_append.1 hx with hx | hx
  ·have:=h.1 x hx; omega
  ·rw [List.mem_singleton.1 hx]; exact Nat.lt_succ_self _
 ·rw [Array.toList_push,List.map_append,List.nodup_append];refine⟨h.2,by simp,fun a ha b hb=>?_⟩;obtain⟨x,hx,rfl⟩:=List.mem_map.1 ha;have:=h.1 x hx;simp at hb;omega
theorem Zuq {w:World}{r:Nat}{o:Obj}{m:List (Yp×Int)}(hb:w.heap[r]?=some o)(h:MpO o m)(p:Yp):∃(v:Value) (s:Int) (o1:Obj),(Instr.mapEntry 38 (.map (some r)) (kP p)).run Tryz.prog w=.ok (.tuple #[v,.int .i64 s]) { w with heap:=w.heap.setIfInBounds r o1 }∧(∃ m1,MpO o1 m1∧∀ q,Dc m1 q=Dc m q) ∧
 ∀(V:World) (n:Int),V.heap[r]?=some o1->∃ o2,(Instr.entryStore 38 (.map (some r)) (.int .i64 s) (.int .i64 n)).run Tryz.prog V=.ok () { V with heap:=V.heap.setIfInBounds r o2 }∧MpO o2 (Nb m p n):=by
 obtain⟨es,ck,rfl,hm,hs⟩:=h;obtain⟨o,h1,h2⟩:=Zbe iV p w m es.toList hm;have hz:(zeroValue 3).run Tryz.prog w=.ok (.int .i64 0) w:=by kernel_rfl
 rcases h2 with⟨rfl,hgn,hput⟩ | ⟨j,v,rfl,hgv,hj,⟨x,hx,hk,hxv⟩,hput⟩
 ·refine⟨.int .i64 0,ck,.map (es.push { key:=kP p,val:=.int .i64 0,born:=ck }) (ck+1),?_,⟨Nb m p 0,⟨_,_,rfl,by rw [Array.toList_push]; exact hput 0 _ rfl rfl,Zcs hs _ _⟩,fun q=>?_⟩,fun V n hV=>?_⟩
  ·unfold Instr.mapEntry;simp only [Sem.run_bind,run_underlying Tryz.underlying38,Result.andThen_ok,Go.MapKept.run_getObj_map hb,Il,h1,hz,Go.MapKept.run_setObj_map _ hb];rfl
  ·rw [Md];split
   ·rename_i e;unfold Dc;rw [e,hgn];rfl
   ·rfl
  ·have hp:=Zcs hs (kP p) (.int .i64 0);have hi:(es.push { key:=kP p,val:=.int .i64 0,born:=ck })[es.size]?=some { key:=kP p,val:=.int .i64 0,born:=ck }:=by simp
   have hf:(es.push { key:=kP p,val:=.int .i64 0,born:=ck }).findIdx? (fun e=>((e.born:Int)==(ck:Int)))=some es.size:=Zfc hp.2 hi;refine⟨.map ((es.push { key:=kP p,val:=.int .i64 0,born:=ck }).modify es.size fun e=>{ e with val:=.int .i64 n }) (ck+1),?_,_,_,rfl,?_,Oq hp _ _ (fun _=>rfl)⟩
   ·unfold Instr.entryStore;simp only [Sem.run_bind,Result.andThen_ok,Go.MapKept.run_getObj_map hV,asInt,asIntOf,Sem.run_pure];simp only [hf,Go.MapKept.run_setObj_map _ hV]
   ·have:=hput n { key:=kP p,val:=.int .i64 n,born:=ck } rfl rfl;have e:((es.push { key:=kP p,val:=.int .i64 0,born:=ck }).modify es.size fun e=>{ e with val:=.int .i64 n }).toList=es.toList++[{ key:=kP p,val:=.int .i64 n,born:=ck }]:=by
     rw [Array.toList_modify,Array.toList_push];apply List.ext_getElem
     ·simp
     ·intro i h1 h2;rw [List.getElem_modify];by_cases hi:es.size=i
      ·subst hi; simp
      ·have:i<es.size:=by simp at h2; omega
       simp [hi,List.getElem_append_left,this]
    rw [e];exact this
 ·have hx':es[j]?=some x:=by rw [← Array.getElem?_toList]; exact hx
  refine⟨iV v,x.born,.map (es.modify j fun e=>{ e with key:=kP p }) ck,?_,⟨Nb m p v,⟨_,_,rfl,?_,Oq hs _ _ (fun _=>rfl)⟩,fun q=>?_⟩,fun V n hV=>?_⟩
  ·unfold Instr.mapEntry;simp only [Sem.run_bind,run_underlying Tryz.underlying38,Result.andThen_ok,Go.MapKept.run_getObj_map hb,Il,h1,hx',Option.map_some,Option.getD_some,hk,Zjd,Go.MapKept.run_setObj_map _ hb];rfl
  ·have:=hput v;have e:(es.modify j fun e=>{ e with key:=kP p }).toList=es.toList.modify j fun e=>{ e with key:=kP p,val:=iV v }:=by
    rw [Array.toList_modify];apply List.ext_getElem
    ·simp
    ·intro i h1 h2;rw [List.getElem_modify,List.getElem_modify];by_cases hi:j=i
     ·subst hi;have hjl:j<es.toList.length:=hj;have hx2:=Option.some.inj ((List.getElem?_eq_getElem hjl).symm.trans hx);rw [if_pos rfl,if_pos rfl];show({ es.toList[j] with key:=kP p }:MapEntry)={ es.toList[j] with key:=kP p,val:=iV v };rw [show iV v=(es.toList[j]).val by rw [hx2,hxv]]
     ·simp [hi]
   rw [e];exact this
  ·rw [Md];split
   ·rename_i e;unfold Dc;rw [e,hgv];rfl
   ·rfl
  ·have hp:=Oq hs j (fun e=>{ e with key:=kP p }) (fun _=>rfl);have hi:(es.modify j fun e=>{ e with key:=kP p })[j]?=some { x with key:=kP p }:=by rw [Array.getElem?_modify,if_pos rfl,hx'];rfl
   have hf:(es.modify j fun e=>{ e with key:=kP p }).findIdx? (fun e=>((e.born:Int)==(x.born:Int)))=some j:=by have h0:=Zfc hp.2 hi;exact h0
   refine⟨.map ((es.modify j fun e=>{ e with key:=kP p }).modify j fun e=>{ e with val:=.int .i64 n }) ck,?_,_,_,rfl,?_,Oq hp _ _ (fun _=>rfl)⟩
   ·unfold Instr.entryStore;simp only [Sem.run_bind,Result.andThen_ok,Go.MapKept.run_getObj_map hV,asInt,asIntOf,Sem.run_pure];simp only [hf,Go.MapKept.run_setObj_map _ hV]
   ·have:=hput n;have e:((es.modify j fun e=>{ e with key:=kP p }).modify j fun e=>{ e with val:=.int .i64 n }).toList=es.toList.modify j fun e=>{ e with key:=kP p,val:=iV n }:=by
     rw [Array.toList_modify,Array.toList_modify];apply List.ext_getElem
     ·simp
     ·intro i h1 h2;rw [List.getElem_modify,List.getElem_modify,List.getElem_modify];by_cases hi:j=i <;> simp [hi,iV]
    rw [e];exact this
def Ydm (w V:World)(r:Nat)(o:Obj):Prop:=V.heap[r]?=some o∧(∀ g,g≠r->V.heap[g]?=w.heap[g]?)∧V.os=w.os∧V.tape=w.tape∧V.output=w.output∧V.heap.size=w.heap.size
theorem Zos {w:World}{r:Nat}{o o':Obj}(h:w.heap[r]?=some o'):Ydm w { w with heap:=w.heap.setIfInBounds r o } r o :=
 ⟨(Go.MapKept.heap_set h).1,(Go.MapKept.heap_set h).2,rfl,rfl,rfl,by simp⟩
theorem Cg {w:World}{r:Nat}{o:Obj}{m:List (Yp×Int)}(hb:w.heap[r]?=some o)(h:MpO o m)(p:Yp):∃(v:Value) (s:Int) (V1:World) (o1:Obj),(Instr.mapEntry 38 (.map (some r)) (.agg #[.int .i64 p.1,.int .i64 p.2])).run Tryz.prog w=.ok (.tuple #[v,.int .i64 s]) V1∧Ydm w V1 r o1∧(∃ m1,MpO o1 m1∧∀ q,Dc m1 q=Dc m q) ∧
 ∀(V:World) (n:Int),V.heap[r]?=some o1->∃ V2 o2,(Instr.entryStore 38 (.map (some r)) (.int .i64 s) (.int .i64 n)).run Tryz.prog V=.ok () V2∧Ydm V V2 r o2∧MpO o2 (Nb m p n):=by
 obtain⟨v,s,o1,h1,h2,h3⟩:=Zuq hb h p;refine⟨v,s,_,o1,h1,Zos hb,h2,fun V n hV=>?_⟩;obtain⟨o2,h4,h5⟩:=h3 V n hV;exact⟨_,o2,h4,Zos hV,h5⟩
end Go.Proofs.YtkenknfgeoecbaaGreatDoor
namespace Go.Proofs.YtkenknfgeoecbaaGreatDoor
open Go.RowKit
theorem al1 (w:World)(X:Obj):(w.alloc X).heap[w.heap.size]?=some X∧Below w.heap.size w (w.alloc X)∧(w.alloc X).heap.size=w.heap.size+1 :=
 ⟨heap_alloc_new w _,(Below.refl w.heap.size w).alloc (Nat.le_refl _) _,by simp⟩
theorem Li.setRow {w:World}{T:Nat}{cs:Array Value}{v:Value}{ns:List Int}(h:Li w v ns)(hne:∀ sb so n c,v=.slice (some ⟨sb,so,none⟩) n c->0<ns.length->sb≠T):Li (w.setRow T cs) v ns:=by obtain⟨p,cap,h1,h2,h3,h4⟩:=h;refine⟨p,cap,h1,h2,h3,fun h0=>?_⟩;obtain⟨sb,so,e,hc⟩:=h4 h0;subst e;have hn:=hne sb so _ _ h1 h0;refine⟨sb,so,rfl,fun i hi=>?_⟩;rw [← hc i hi];unfold World.cell?;simp only [setRow_other w T sb cs hn]
theorem Yeh (w:World)(X0 X1 X2 X3 X4:Obj):(((((w.alloc X0).alloc X1).alloc X2).alloc X3).alloc X4).heap[w.heap.size]?=some X0∧(((((w.alloc X0).alloc X1).alloc X2).alloc X3).alloc X4).heap[w.heap.size+1]?=some X1∧(((((w.alloc X0).alloc X1).alloc X2).alloc X3).alloc X4).heap[w.heap.size+1+1]?=some X2∧(((((w.alloc X0).alloc X1).alloc X2).alloc X3).alloc X4).heap[w.heap.size+1+1+1]?=some X3∧(((((w.alloc X0).alloc X1).alloc X2).alloc X3).alloc X4).heap.size=w.heap.size+1+1+1+1+1:=by obtain⟨r0,b0,s0⟩:=al0 w X0;obtain⟨r1,b1,s1⟩:=al0 (w.alloc X0) X1;obtain⟨r2,b2,s2⟩:=al0 ((w.alloc X0).alloc X1) X2;obtain⟨r3,b3,s3⟩:=al0 (((w.alloc X0).alloc X1).alloc X2) X3;obtain⟨r4,b4,s4⟩:=al0 ((((w.alloc X0).alloc X1).alloc X2).alloc X3) X4;rw [s0] at r1;rw [s1,s0] at r2;rw [s2,s1,s0] at r3;exact⟨(b4.block _ (by omega)).trans ((b3.block _ (by omega)).trans ((b2.block _ (by omega)).trans ((b1.block _ (by omega)).trans r0))),(b4.block _ (by omega)).trans ((b3.block _ (by omega)).trans ((b2.block _ (by omega)).trans r1)),(b4.block _ (by omega)).trans ((b3.block _ (by omega)).trans r2),(b4.block _ (by omega)).trans r3,by omega⟩
theorem Zfz {V:World}{B n size g:Nat}{e t:TypeId}{v:Value}{xs:List Value}{cs:Array Value}{fr:Nat×Nat}(h:V.ownsRow B e size v n xs)(hr:V.heap[g]?=some (.cells cs t fr))(hne:e≠t):v.ownBlock≠some g:=fun hv=>by
 rcases h.2 with⟨e1,-⟩ | ⟨g1,c1,cur1,e1,-,r1,-⟩
 ·rw [e1] at hv; cases hv
 ·rw [e1] at hv;injection hv with hv;simp only at hv;rw [hv,hr] at r1;injection r1 with r1;injection r1 with _ r1 _;exact hne r1.symm
theorem Nl {V V':World}{B n size:Nat}{e:TypeId}{v:Value}{xs:List Value}(h:V.ownsRow B e size v n xs)(hk:∀ g,v.ownBlock=some g->V'.heap[g]?=V.heap[g]?):V'.ownsRow B e size v n xs:=by
 obtain⟨h1,h2 | ⟨g,cap,cur,e1,e2,e3,e4⟩⟩:=h
 ·exact⟨h1,Or.inl h2⟩
 ·exact⟨h1,Or.inr ⟨g,cap,cur,e1,e2,(hk g (by rw [e1]; rfl)).trans e3,e4⟩⟩
theorem Ztt (lo hi:Nat)(w:World):OnB lo hi w w:=⟨rfl,rfl,rfl,Nat.le_refl _,fun _ _ _=>rfl⟩
theorem Ig {lo hi:Nat}{a b c:World}(h:OnB lo hi a b)(k:OnB lo hi b c):OnB lo hi a c:=⟨k.os.trans h.os,k.tape.trans h.tape,k.output.trans h.output,Nat.le_trans h.size k.size,fun q hq hd=>(k.oth q (Nat.lt_of_lt_of_le hq h.size) hd).trans (h.oth q hq hd)⟩
theorem Zog {lo hi g:Nat}(w:World)(j:Nat)(v:Value)(h1:lo<=g)(h2:g<hi):OnB lo hi w (w.setCell ⟨g,j,none⟩ v):=⟨rfl,rfl,rfl,by simp,fun q _ hd=>heap_setCell_other _ _ _ _ (by show q≠g; omega)⟩
theorem Zev {lo hi:Nat}{w w':World}(h:Below w.heap.size w w'):OnB lo hi w w':=⟨h.os,h.tape,h.output,h.size,fun q hq _=>h.block q hq⟩
section
variable {w0 V V':World} {x:Ol} {q lo hi lg bc sc oc:Nat} {bp sp op:Option Addr} {gs:List Nat} {B:Nat->Value}
theorem Sc (h:Ko w0 V x q lo hi lg bp sp op bc sc oc gs B)(hk:∀ g,lo<=g->g<hi->V'.heap[g]?=V.heap[g]?)(hz:V.heap.size<=V'.heap.size):Ko w0 V' x q lo hi lg bp sp op bc sc oc gs B :=
 ⟨h.ql,h.qh,h.gl,h.gh,h.gq,Nat.le_trans h.hs hz,(hk q h.ql h.qh).trans h.row,(hk lg h.gl h.gh).trans h.loc,Nl h.slo (fun g e=>hk g (World.ownsRow.lt h.slo g e).1 (h.sb g e)),h.sb,h.len,fun k hk2=>⟨(hk _ (h.each k hk2).2.1 (h.each k hk2).2.2).trans (h.each k hk2).1,(h.each k hk2).2⟩,h.inj,h.bls,h.blk,h.ous⟩
theorem Zan (h:Ko w0 V x q lo hi lg bp sp op bc sc oc gs B){g:Nat}{t:TypeId}{cs:Array Value}(hr:V.heap[g]?=some (.cells cs t (0,0)))(ht:297≠t):∀ b,(Value.slice sp x.s.length sc).ownBlock=some b->b≠g:=fun b e hb=>Zfz h.slo hr ht (by rw [e,hb])
theorem Ih {V:World}{a b:Nat}{s t:TypeId}{c d:Array Value}(h:V.heap[a]?=some (.cells c s (0,0)))(k:V.heap[b]?=some (.cells d t (0,0)))(hne:s≠t):a≠b:=fun e=>by
 subst e;rw [h] at k;injection k with k;injection k with _ k _;exact hne k
theorem Yew (h:Ko w0 V x q lo hi lg bp sp op bc sc oc gs B){j:Nat}{v:Value}{y:Ol}(hv:y.v=x.v)(hs:y.s=x.s)(ho:y.o=x.o)(hf:y.fn=x.fn)
 (hrow:(V.setCell ⟨q,j,none⟩ v).heap[q]?=some (.cells #[.slice bp x.fn.blocks.length bc,.int .i64 y.b,.int .i64 y.i,.slice (some ⟨lg,0,none⟩) x.v.length x.v.length,.slice sp x.s.length sc,.slice op x.o.length oc] 328 (0,0))):Ko w0 (V.setCell ⟨q,j,none⟩ v) y q lo hi lg bp sp op bc sc oc gs B:=by
 obtain⟨yf,yb,yi,yv,ys,yo⟩:=y;simp only at hv hs ho hf;subst hv hs ho hf;have ot:∀ g,g≠q->(V.setCell ⟨q,j,none⟩ v).heap[g]?=V.heap[g]?:=fun g hg=>heap_setCell_other _ _ _ _ hg;exact⟨h.ql,h.qh,h.gl,h.gh,h.gq,by simpa using h.hs,hrow,(ot _ h.gq).trans h.loc,Nl h.slo (fun g e=>ot g (Zan h h.row (by decide) g e)),h.sb,h.len,fun k hk=>⟨(ot _ (Ih (h.each k hk).1 h.row (by decide))).trans (h.each k hk).1,(h.each k hk).2⟩,h.inj,h.bls,h.blk,h.ous⟩
theorem Yex (h:Ko w0 V x q lo hi lg bp sp op bc sc oc gs B)(n:Int):Ko w0 (V.setCell ⟨q,2,none⟩ (.int .i64 n)) { x with i:=n } q lo hi lg bp sp op bc sc oc gs B:=Yew h rfl rfl rfl rfl (heap_setCell_same _ _ 2 _ _ _ h.row)
theorem Ybc (h:Ko w0 V x q lo hi lg bp sp op bc sc oc gs B)(d:Nat)(n:Int):Ko w0 (V.setCell ⟨lg,d,none⟩ (.int .u64 n)) { x with v:=x.v.set d n } q lo hi lg bp sp op bc sc oc gs B:=by
 have ot:∀ g,g≠lg->(V.setCell ⟨lg,d,none⟩ (.int .u64 n)).heap[g]?=V.heap[g]?:=fun g hg=>heap_setCell_other _ _ _ _ hg;refine⟨h.ql,h.qh,h.gl,h.gh,h.gq,by simpa using h.hs,?_,?_,Nl h.slo (fun g e=>ot g (Zan h h.loc (by decide) g e)),h.sb,h.len,fun k hk=>⟨(ot _ (Ih (h.each k hk).1 h.loc (by decide))).trans (h.each k hk).1,(h.each k hk).2⟩,h.inj,h.bls,h.blk,h.ous⟩
 ·rw [show({ x with v:=x.v.set d n }:Ol).v.length=x.v.length by simp];exact(ot _ (Ne.symm h.gq)).trans h.row
 ·have:=heap_setCell_same _ _ d _ _ (.int .u64 n) h.loc;rw [Yct] at this;exact this
theorem Zyk (ss:List (List Int))(k:Nat)(l:List Int)(h:l.length=(ss.getD k []).length):(ss.set k l).map List.length=ss.map List.length:=by
 apply List.ext_getElem?
 intro j;rw [List.getElem?_map,List.getElem?_map,List.getElem?_set];by_cases hj:k=j
 ·subst hj;rw [if_pos rfl];by_cases hk:k<ss.length
  ·rw [if_pos hk,List.getElem?_eq_getElem hk];simp only [Option.map_some,h,List.getD,List.getElem?_eq_getElem hk,Option.getD_some]
  ·rw [if_neg hk,List.getElem?_eq_none (by omega)]
 ·rw [if_neg hj]
theorem Lp (h:Ko w0 V x q lo hi lg bp sp op bc sc oc gs B)(hb:Below V.heap.size V V'):Ko w0 V' x q lo hi lg bp sp op bc sc oc gs B :=
 ⟨h.ql,h.qh,h.gl,h.gh,h.gq,Nat.le_trans h.hs hb.size,(hb.block q (Zh h.row)).trans h.row,(hb.block lg (Zh h.loc)).trans h.loc,Nl h.slo (fun g e=>hb.block g (World.ownsRow.lt h.slo g e).2),h.sb,h.len,fun k hk=>⟨(hb.block _ (Zh (h.each k hk).1)).trans (h.each k hk).1,(h.each k hk).2⟩,h.inj,h.bls,h.blk,h.ous⟩
end
theorem Zyl {w0 V:World}{x:Ol}{q lo hi lg bc sc oc:Nat}{bp sp op:Option Addr}{gs:List Nat}{B:Nat->Value}(h:Ko w0 V x q lo hi lg bp sp op bc sc oc gs B){g:Nat}(hg:hi<=g)(cs:Array Value):Ko w0 (V.setRow g cs) x q lo hi lg bp sp op bc sc oc gs B :=
 Sc h (fun b _ h2=>setRow_other _ _ _ _ (by omega)) (by simp [World.setRow])
end Go.Proofs.YtkenknfgeoecbaaGreatDoor
namespace Go.Proofs.YtkenknfgeoecbaaGreatDoor
open Go.ChangeShapes Go.WideShapes Go.ChangeAt Go.RowKit
abbrev Zpo:List (String×DataW Unit):=Rows.togetherRow.laid.filter fun x=>x.2.handleName?.isNone
theorem Zhh (os:Os)(args:Array Value):laidMetH Tryz.prog Rows.togetherRow.laid ((Znx (World.laidAll Tryz.prog os Zpo)).forCall (fun _ _=>0) ⟨#[],args,[]⟩).memory :=
 laidMetH_of_parts (laidMet_of_run' 16 (by kernel_rfl) (by kernel_rfl)) (by kernel_rfl)
theorem Zkk:Rows.togetherRow.wf (OpenSpec.ofChange Rows.togetherSpec)=true:=by kernel_rfl
theorem Zkl:laidOutB Tryz.pinned.checked.prog=true:=by kernel_rfl
theorem Zkm:mapsRowed Tryz.pinned.checked.prog=true:=by kernel_rfl
theorem Zkn:Tryz.f3.params.all (Tryz.pinned.checked.prog.readableRec ·)=true:=by kernel_rfl
theorem Zko:namedTie Tryz.pinned.checked.prog Rows.togetherRow.named Rows.togetherSpec.vars=true:=by kernel_rfl
theorem Zkp:(Rows.togetherRow.stops==[])=true:=by kernel_rfl
theorem Zkq:(Tryz.pinned.checked.prog.stops==[])=true:=by kernel_rfl
theorem Zkr:(Rows.togetherRow.knobs==[])=true:=by kernel_rfl
theorem Zks:(Tryz.pinned.checked.prog.stopKnobs==[])=true:=by kernel_rfl
end Go.Proofs.YtkenknfgeoecbaaGreatDoor
