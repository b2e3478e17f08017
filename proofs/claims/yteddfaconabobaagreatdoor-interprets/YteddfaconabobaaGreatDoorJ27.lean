import Derived.Test.YteddfaconabobaaGreatDoorJ26
import Derived.Laws.OwnMore
import Derived.Test.YteddfaconabobaaGreatDoorJ13
import Derived.Test.YteddfaconabobaaGreatDoorFrL
import Derived.Test.YteddfaconabobaaGreatDoorPk
namespace Go.Proofs.YteddfaconabobaaGreatDoor
open Go.RowKit
def Zoa (i:Zw):Prop:=(0≤i.n∧i.n<18446744073709551616)∧i.args.length*16≤140737488351232∧i.outs.length*8≤140737488351232
def Zmd (l:List Zw):Prop:=l.length*96≤140737488351232∧∀ i ∈ l,Zoa i
structure Zob (f:Zn):Prop where
 p:f.params.length*16≤140737488351232
 h:f.homes.length*8≤140737488351232
 s:f.slots.length*8≤140737488351232
 b:f.blocks.length*24≤140737488351232
 e:∀ l ∈ f.blocks,Zmd l
structure Id (P:Zl):Prop where
 f:P.funcs.length*104≤140737488351232
 x:P.externs.length*32≤140737488351232
 fe:∀ f ∈ P.funcs,Zob f
 xe:∀ s ∈ P.externs,s.1.length*8≤140737488351232
def Lq (S:TypeId→Bool)(V V':World):Prop:=∀(g:Nat) (cs:Array Value) (t:TypeId),V.heap[g]?=some (.cells cs t (0,0))→S t=true→V'.heap[g]?=some (.cells cs t (0,0))
theorem Lq.own {S:TypeId→Bool}{V V':World}{B e size n:Nat}{v:Value}{xs:List Value}(hk:Lq S V V')(h:V.ownsRow B e size v n xs)(hs:S e=true):V'.ownsRow B e size v n xs :=
 Yq h fun g hg=>by
  obtain⟨cs,hr⟩:=own_row h hg;rw [hr];exact hk g cs e hr hs
theorem Lq.cp {S:TypeId→Bool}{V V':World}{g:Nat}{ns:List Int}(hk:Lq S V V')(h:Cp V g ns)(hs:S 3=true):Cp V' g ns:=⟨hk g _ _ h.row hs,h.lim⟩
theorem Lq.of_below {S:TypeId→Bool}{V V':World}(hb:Below V.heap.size V V'):Lq S V V':=fun g _ _ h _=>(hb.block g (Zd h)).trans h
theorem Lq.of_grown {S:TypeId→Bool}{V V':World}{B e size n:Nat}{v:Value}{xs:List Value}(ho:V.ownsRow B e size v n xs)(hg:V.grownBy V' v.ownBlock)(hs:S e=false):Lq S V V':=fun g cs t h ht=>by
 refine(hg.block g (Zd h) fun c=>?_).trans h;obtain⟨cs',hr⟩:=own_row ho c.symm;rw [h] at hr;injection hr with hr;injection hr with _ hr _;rw [← hr,ht] at hs;cases hs
theorem Lq.set {S:TypeId→Bool}{V:World}{g:Nat}{cs:Array Value}{t:TypeId}(hr:V.heap[g]?=some (.cells cs t (0,0)))(hs:S t=false)(j:Nat)(v:Value):Lq S V (V.setCell ⟨g,j,none⟩ v):=fun q cs' t' h ht=>by
 refine(heap_setCell_other _ _ _ _ fun c=>?_).trans h;subst c;rw [h] at hr;injection hr with hr;injection hr with _ hr _;rw [← hr,ht] at hs;cases hs
theorem Lq.row {S:TypeId→Bool}{V:World}{g:Nat}{cs:Array Value}{t:TypeId}(hr:V.heap[g]?=some (.cells cs t (0,0)))(hs:S t=false)(cs':Array Value):Lq S V (V.setRow g cs'):=fun q cs2 t' h ht=>by
 refine(setRow_other _ _ _ _ fun c=>?_).trans h;subst c;rw [h] at hr;injection hr with hr;injection hr with _ hr _;rw [← hr,ht] at hs;cases hs
theorem Lq.trans {S:TypeId→Bool}{V V' V2:World}(h:Lq S V V')(h':Lq S V' V2):Lq S V V2:=fun g cs t hr hs=>h' g cs t (h g cs t hr hs) hs
theorem Lq.mono {S S':TypeId→Bool}{V V':World}(h:Lq S V V')(hi:∀ t,S' t=true→S t=true):Lq S' V V':=fun g cs t hr hs=>h g cs t hr (hi t hs)
section
variable {α β:Type} {R R':α→β→Prop}
inductive Ch (R:α→β→Prop):List α→List β→Prop
 | nil:Ch R [] []
 | cons {a b l m}:R a b→Ch R l m→Ch R (a :: l) (b :: m)
theorem Ch.len {l:List α}{m:List β}(h:Ch R l m):l.length=m.length:=by
 induction h with
 | nil=>rfl
 | cons _ _ ih=>simp [ih]
theorem Ch.imp {l:List α}{m:List β}(h:Ch R l m)(hi:∀ a b,R a b→R' a b):Ch R' l m:=by
 induction h with
 | nil=>exact .nil
 | cons h _ ih=>exact .cons (hi _ _ h) ih
theorem Ch.snoc {l:List α}{m:List β}{a:α}{b:β}(h:Ch R l m)(hr:R a b):Ch R (l++[a]) (m++[b]):=by
 induction h with
 | nil=>exact .cons hr .nil
 | cons h _ ih=>exact .cons h ih
theorem Ch.get {l:List α}{m:List β}(h:Ch R l m)(d:α):∀ k (h2:k<m.length),R (l.getD k d) m[k]:=by
 induction h with
 | nil=>intro k h1; simp at h1
 | cons h _ ih =>
  intro k h2;cases k with
  | zero=>simpa using h
  | succ k=>simpa using ih k (by simpa using h2)
theorem Ch.mem {l:List α}{m:List β}(h:Ch R l m):∀ a ∈ l,∃ b,R a b:=by
 induction h with
 | nil=>intro a h1; cases h1
 | cons h _ ih =>
  intro a h2;rcases List.mem_cons.1 h2 with rfl | h2
  ·
   exact⟨_,h⟩
  ·
   exact ih a h2
end
def Ci (cs:List (Array Value)):List Value:=cs.flatMap (·.toList)
theorem Cj (cs:List (Array Value))(c:Array Value):Ci (cs++[c])=Ci cs++c.toList:=by simp [Ci]
theorem Zfq {size:Nat}:∀(cs:List (Array Value)),(∀ c ∈ cs,c.size=size)→∀ k j,k<cs.length→j<size→(Ci cs)[k*size+j]?=(cs.getD k #[]).toList[j]?
 | [],_,k,_,hk,_=>by simp at hk
 | c :: cs,h,0,j,_,hj=>by
  have h1:=h c (by simp);simp only [Ci,List.flatMap_cons,Nat.zero_mul,Nat.zero_add,List.getD_cons_zero];rw [List.getElem?_append_left (by rw [Array.length_toList,h1]; exact hj)]
 | c :: cs,h,k+1,j,hk,hj=>by
  have h1:=h c (by simp);have ih:=Zfq cs (fun d hd=>h d (by simp [hd])) k j (by simpa using hk) hj;simp only [Ci,List.flatMap_cons,List.getD_cons_succ] at ih ⊢;rw [List.getElem?_append_right (by rw [Array.length_toList,h1,Nat.succ_mul]; omega),Array.length_toList,h1,show(k+1)*size+j-size=k*size+j by rw [Nat.succ_mul]; omega];exact ih
theorem LS.of_flS {V:World}{B e size n:Nat}{v:Value}{As:List (Array Value)}(h:V.ownsRow B e size v n (Ci As))(hn:As.length=n)(hs:∀ A ∈ As,A.size=size):LS size V v n (fun k=>As.getD k #[]):=by
 rcases h.2 with⟨e1,e0⟩ | ⟨g,cap,cur,e1,h2,h3,h4,h5,h6,h7⟩
 ·
  subst e0;exact⟨none,0,e1,Nat.le_refl _,by show 0<Xa; decide,fun c=>absurd c (Nat.lt_irrefl 0)⟩
 ·
  refine⟨_,_,e1,h4,by show n<9223372036854775808; unfold maxLen at h5; omega,fun h0=>⟨g,0,rfl,Zd h3,fun i hi j x hx=>?_⟩⟩;have hA:(As.getD i #[]).size=size:=hs _ (by simp [List.getD,hn,hi]);have hj:j<size:=by
   have:=(List.getElem?_eq_some_iff.1 hx).1;rw [Array.length_toList,hA] at this;exact this
  have hlt:i*size+j<n*size:=Nat.lt_of_lt_of_le (Nat.add_lt_add_left hj _) (by rw [← Nat.succ_mul]; exact Nat.mul_le_mul_right _ hi);rw [Nat.zero_add,Zi h3,← Array.getElem?_toList];have e2:=Zfq As hs i j (by omega) hj;rw [← h7,List.getElem?_take,if_pos hlt] at e2;rw [e2];exact hx
theorem Zoc (xs:List (Int×Int)):plC xs=Ci (xs.map Yz):=by
 simp only [plC,Ci,List.flatMap_map];rfl
theorem LS.of_pl {V:World}{B e:Nat}{v:Value}{xs:List (Int×Int)}(h:V.ownsRow B e 2 v xs.length (plC xs)):LS 2 V v xs.length (fun k=>Yz (xs.getD k (0,0))):=by
 rw [Zoc] at h;obtain⟨p,cap,h1,h2,h3,h4⟩:=LS.of_flS h (by simp) (fun A hA=>by obtain⟨x,-,rfl⟩:=List.mem_map.1 hA; rfl);refine⟨p,cap,h1,h2,h3,fun h0=>?_⟩;obtain⟨sb,so,e1,hl,hc⟩:=h4 h0;refine⟨sb,so,e1,hl,fun i hi=>?_⟩;have:=hc i hi;simp only [List.getD,List.getElem?_map,List.getElem?_eq_getElem hi,Option.map_some,Option.getD_some] at this ⊢;exact this
def Ck (V:World)(A:Array Value)(i:Zw):Prop:=∃ av g,A=#[.int .i64 i.op,.int .i64 i.d,.int .i64 i.a,.int .i64 i.bb,.int .u64 i.n,.int .i64 i.f,av,cpV g i.outs]∧(∃ B,V.ownsRow B 139 2 av i.args.length (plC i.args))∧Cp V g i.outs
def Ie (V:World)(B:Nat)(v:Value)(l:List Zw):Prop:=∃ As,V.ownsRow B 65 8 v l.length (Ci As)∧Ch (Ck V) As l
def Ig (V:World)(v:Value)(l:List Zw):Prop:=∃ B,Ie V B v l
def Ih (V:World)(B:Nat)(v:Value)(bl:List (List Zw)):Prop:=∃ vs,V.ownsRow B 61 1 v bl.length vs∧Ch (Ig V) vs bl
def Sw (V:World)(A:Array Value)(f:Zn):Prop:=∃ pv gh gs bv,A=#[pv,.int .i64 f.results,cpV gh f.homes,cpV gs f.slots,bv]∧(∃ B,V.ownsRow B 99 2 pv f.params.length (plC f.params))∧Cp V gh f.homes∧Cp V gs f.slots∧∃ B,Ih V B bv f.blocks
def Uc (V:World)(B:Nat)(v:Value)(fs:List Zn):Prop:=∃ As,V.ownsRow B 60 5 v fs.length (Ci As)∧Ch (Sw V) As fs
def Ii (V:World)(A:Array Value)(s:List Int×Int):Prop:=∃ g,A=#[cpV g s.1,.int .i64 s.2]∧Cp V g s.1
def Ud (V:World)(B:Nat)(v:Value)(es:List (List Int×Int)):Prop:=∃ As,V.ownsRow B 56 2 v es.length (Ci As)∧Ch (Ii V) As es
abbrev kS0:TypeId→Bool:=fun t=>t==139||t==3
abbrev kS1:TypeId→Bool:=fun t=>t==65||kS0 t
abbrev kS2:TypeId→Bool:=fun t=>t==61||(t==99||kS1 t)
abbrev kS3:TypeId→Bool:=fun t=>t==3
abbrev kS4:TypeId→Bool:=fun t=>t==60||kS2 t
abbrev kS5:TypeId→Bool:=fun t=>t==56||kS3 t
theorem Ck.keep {V V':World}{A:Array Value}{i:Zw}(h:Ck V A i)(hk:Lq kS0 V V'):Ck V' A i:=by
 obtain⟨av,g,h1,⟨B,h2⟩,h3⟩:=h;exact⟨av,g,h1,⟨B,hk.own h2 (by decide)⟩,hk.cp h3 (by decide)⟩
theorem Zqz {t:TypeId}(h:kS0 t=true):kS1 t=true:=by simp only [kS1,h,Bool.or_true]
theorem Zra {t:TypeId}(h:kS1 t=true):kS2 t=true:=by simp only [kS2,h,Bool.or_true]
theorem Ie.keep {V V':World}{B:Nat}{v:Value}{l:List Zw}(h:Ie V B v l)(hk:Lq kS1 V V'):Ie V' B v l:=by
 obtain⟨As,h1,h2⟩:=h;exact⟨As,hk.own h1 (by decide),h2.imp fun _ _ h=>h.keep (hk.mono fun _=>Zqz)⟩
theorem Ig.keep {V V':World}{v:Value}{l:List Zw}(h:Ig V v l)(hk:Lq kS1 V V'):Ig V' v l:=by
 obtain⟨B,h⟩:=h;exact⟨B,h.keep hk⟩
theorem Ih.keep {V V':World}{B:Nat}{v:Value}{l:List (List Zw)}(h:Ih V B v l)(hk:Lq kS2 V V'):Ih V' B v l:=by
 obtain⟨vs,h1,h2⟩:=h;exact⟨vs,hk.own h1 (by decide),h2.imp fun _ _ h=>h.keep (hk.mono fun _=>Zra)⟩
theorem Sw.keep {V V':World}{A:Array Value}{f:Zn}(h:Sw V A f)(hk:Lq kS2 V V'):Sw V' A f:=by
 obtain⟨pv,gh,gs,bv,h1,⟨B,h2⟩,h3,h4,B',h5⟩:=h;exact⟨pv,gh,gs,bv,h1,⟨B,hk.own h2 (by decide)⟩,hk.cp h3 (by decide),hk.cp h4 (by decide),B',h5.keep hk⟩
theorem Ii.keep {V V':World}{A:Array Value}{s:List Int×Int}(h:Ii V A s)(hk:Lq kS3 V V'):Ii V' A s:=by
 obtain⟨g,h1,h2⟩:=h;exact⟨g,h1,hk.cp h2 (by decide)⟩
theorem Uc.keep {V V':World}{B:Nat}{v:Value}{fs:List Zn}(h:Uc V B v fs)(hk:Lq kS4 V V'):Uc V' B v fs:=by
 obtain⟨As,h1,h2⟩:=h;exact⟨As,hk.own h1 (by decide),h2.imp fun _ _ h=>h.keep (hk.mono fun t ht=>by simp only [kS4,ht,Bool.or_true])⟩
theorem Ud.keep {V V':World}{B:Nat}{v:Value}{es:List (List Int×Int)}(h:Ud V B v es)(hk:Lq kS5 V V'):Ud V' B v es:=by
 obtain⟨As,h1,h2⟩:=h;exact⟨As,hk.own h1 (by decide),h2.imp fun _ _ h=>h.keep (hk.mono fun t ht=>by simp only [kS5,ht,Bool.or_true])⟩
theorem Uc.below {V V':World}{B:Nat}{v:Value}{fs:List Zn}(h:Uc V B v fs)(hb:Below V.heap.size V V'):Uc V' B v fs:=by
 obtain⟨As,h1,h2⟩:=h;exact⟨As,Yq h1 fun g hg=>hb.block g (h1.lt g hg).2,h2.imp fun _ _ h=>h.keep (.of_below hb)⟩
theorem Ud.below {V V':World}{B:Nat}{v:Value}{es:List (List Int×Int)}(h:Ud V B v es)(hb:Below V.heap.size V V'):Ud V' B v es:=by
 obtain⟨As,h1,h2⟩:=h;exact⟨As,Yq h1 fun g hg=>hb.block g (h1.lt g hg).2,h2.imp fun _ _ h=>h.keep (.of_below hb)⟩
theorem Ie.nil (V:World)(B:Nat):Ie V B (.slice none 0 0) []:=⟨[],World.ownsRow_nil _ _ _ _,.nil⟩
theorem Ih.nil (V:World)(B:Nat):Ih V B (.slice none 0 0) []:=⟨[],World.ownsRow_nil _ _ _ _,.nil⟩
theorem Uc.nil (V:World)(B:Nat):Uc V B (.slice none 0 0) []:=⟨[],World.ownsRow_nil _ _ _ _,.nil⟩
theorem Ud.nil (V:World)(B:Nat):Ud V B (.slice none 0 0) []:=⟨[],World.ownsRow_nil _ _ _ _,.nil⟩
theorem Ck.c {V:World}{A:Array Value}{i:Zw}(h:Ck V A i):Zby V A i:=by
 obtain⟨av,g,h1,⟨B,h2⟩,h3⟩:=h;exact⟨av,_,h1,LS.of_pl h2,h3.li⟩
theorem Ck.size {V:World}{A:Array Value}{i:Zw}(h:Ck V A i):A.size=8:=by
 obtain⟨av,g,rfl,-⟩:=h;rfl
theorem Ig.c {V:World}{v:Value}{l:List Zw}(h:Ig V v l):Di V v l:=by
 obtain⟨B,As,h1,h2⟩:=h;exact⟨_,LS.of_flS h1 h2.len (fun A hA=>by obtain⟨b,hb⟩:=h2.mem A hA; exact hb.size),fun k hk=>(h2.get #[] k hk).c⟩
theorem Sw.size {V:World}{A:Array Value}{f:Zn}(h:Sw V A f):A.size=5:=by
 obtain⟨_,_,_,_,rfl,-⟩:=h;rfl
theorem Ii.size {V:World}{A:Array Value}{s:List Int×Int}(h:Ii V A s):A.size=2:=by
 obtain⟨_,rfl,-⟩:=h;rfl
theorem Zjr (vs:List Value):Ci (vs.map fun v=>#[v])=vs:=by
 induction vs with
 | nil=>rfl
 | cons v vs ih =>
  simp only [Ci,List.map_cons,List.flatMap_cons] at ih ⊢;rw [ih];rfl
theorem Sw.c {V:World}{A:Array Value}{f:Zn}(h:Sw V A f):Oy V A f:=by
 obtain⟨pv,gh,gs,bv,h1,⟨B,h2⟩,h3,h4,B',vs,h5,h6⟩:=h;rw [← Zjr vs] at h5;have hl:=LS.of_flS h5 (by simp [h6.len]) (fun A hA=>by obtain⟨x,-,rfl⟩:=List.mem_map.1 hA; rfl);refine⟨pv,_,_,bv,fun k=>vs.getD k .nilIface,h1,LS.of_pl h2,h3.li,h4.li,?_,fun k hk=>(h6.get .nilIface k hk).c⟩;obtain⟨p,cap,g1,g2,g3,g4⟩:=hl;refine⟨p,cap,g1,g2,g3,fun h0=>?_⟩;obtain⟨sb,so,e1,hl,hc⟩:=g4 h0;refine⟨sb,so,e1,hl,fun i hi=>?_⟩;have:=hc i hi;have hv:i<vs.length:=by rw [h6.len]; exact hi
 simp only [List.getD,List.getElem?_map,List.getElem?_eq_getElem hv,Option.map_some,Option.getD_some] at this ⊢;exact this
theorem Ii.c {V:World}{A:Array Value}{s:List Int×Int}(h:Ii V A s):Zbz V A s:=by
 obtain⟨g,h1,h2⟩:=h;exact⟨_,h1,h2.li⟩
theorem Zbn {V:World}{B B':Nat}{fv ev:Value}{P:Zl}(hf:Uc V B fv P.funcs)(he:Ud V B' ev P.externs):∃ A E,Lm V fv ev P A E:=by
 obtain⟨As,h1,h2⟩:=hf;obtain⟨Es,h3,h4⟩:=he;exact⟨_,_,⟨LS.of_flS h1 h2.len (fun A hA=>by obtain⟨b,hb⟩:=h2.mem A hA; exact hb.size),fun k hk=>(h2.get #[] k hk).c,LS.of_flS h3 h4.len (fun A hA=>by obtain⟨b,hb⟩:=h4.mem A hA; exact hb.size),fun k hk=>(h4.get #[] k hk).c⟩⟩
theorem Zej {P:Program}(w:World)(t ty e:TypeId)(i:TypeInfo)(z:Value)(size bytes:Nat)(ht:P.underlying t=some (.slice e))(hi:P.info? e=some i)(hz:i.zero=some z)
 (hsize:i.size=size) (hby:i.bytes=bytes) (hzs:z.cells.size=size) (hsz:0<size) (p:Option Addr) (m c:Nat) (news:List Value) (hl:news.length=m*size)
 (hs:0<m→∃ sb so,p=some ⟨sb,so,none⟩∧∀ j u,news[j]?=some u→w.cell? ⟨sb,so+j,none⟩=some u) (h1:∀ u ∈ news,u.oneCell'=true)
 (h63:m≤maxLen) (hbytes:m*bytes≤140737488355328) :
 ∃ v' w',(Builtin.append_ #[t,t] ty #[.slice none 0 0,.slice p m c]).run P w=.ok v' w'∧w'.ownsRow w.heap.size e size v' m news∧Below w.heap.size w w':=by
 cases p with
 | none =>
  have h0:m=0:=by
   rcases Nat.eq_zero_or_pos m with h0 | h0
   ·
    exact h0
   ·
    obtain⟨_,_,e,_⟩:=hs h0;cases e
  subst h0;have hn:news=[]:=List.eq_nil_of_length_eq_zero (by omega);subst hn;refine⟨.slice none 0 0,w,?_,World.ownsRow_nil _ _ _ _,Below.refl _ _⟩;simp [Builtin.append_,run_underlying ht,sizeOf,typeInfo,hi,Builtin.lenOf,Builtin.firstCells]
 | some a =>
  obtain⟨v',w',hr,ho,hg,-⟩:=run_append_own (P:=P) w w.heap.size t ty e i z size bytes ht hi hz hsize hby hzs hsz _ 0 [] (World.ownsRow_nil _ _ _ _) a m c news hl (fun j u hj=>by
   rcases Nat.eq_zero_or_pos m with h0 | h0
   ·
    subst h0;have hn:news=[]:=List.eq_nil_of_length_eq_zero (by omega);subst hn;cases hj
   ·
    obtain⟨sb,so,e1,hc⟩:=hs h0;injection e1 with e1;subst e1;rw [Go.WideShapes.add_plain];exact hc j u hj) h1 (by omega) (by rw [Nat.zero_add]; exact hbytes) (Nat.le_refl _)
  rw [Nat.zero_add,List.nil_append] at ho;exact⟨v',w',hr,ho,⟨hg.os,hg.tape,hg.output,hg.size,fun q hq=>hg.block q hq (by intro h; cases h)⟩⟩
theorem LS.pl {w:World}{p:Option Addr}{c:Nat}{xs:List (Int×Int)}(h:LS 2 w (.slice p xs.length c) xs.length (fun k=>Yz (xs.getD k (0,0))))(h0:0<xs.length):∃ sb so,p=some ⟨sb,so,none⟩∧∀ j u,(plC xs)[j]?=some u→w.cell? ⟨sb,so+j,none⟩=some u:=by
 obtain⟨p',c',e,h2,h3,h4⟩:=h;injection e with e1 e2 e3;obtain⟨sb,so,e4,hl,hc⟩:=h4 h0;refine⟨sb,so,e1.trans e4,fun j u hj=>?_⟩;have hj2:j<xs.length*2:=by
  have:=(List.getElem?_eq_some_iff.1 hj).1;rwa [Zap] at this
 have hk:j / 2<xs.length:=by omega
 have hr:=hc (j / 2) hk;have hg:=Zeu xs (j / 2) hk;rcases Nat.mod_two_eq_zero_or_one j with hm | hm
 ·
  have ej:j=j / 2*2:=by omega
  rw [ej] at hj ⊢;rw [hg.1] at hj;have:=hr 0 u (by simpa [Yz] using hj);simpa using this
 ·
  have ej:j=j / 2*2+1:=by omega
  rw [ej] at hj ⊢;rw [hg.2] at hj;have:=hr 1 u (by simpa [Yz] using hj);simpa [Nat.add_assoc] using this
theorem Zfr (xs:List (Int×Int)):∀ u ∈ plC xs,u.oneCell'=true:=fun u hu=>by
 simp only [plC,List.mem_flatMap] at hu;obtain⟨x,-,hx⟩:=hu;simp at hx;rcases hx with rfl | rfl <;> rfl
structure Ij (g:Nat)(W V:World):Prop where
 os:V.os=W.os
 tape:V.tape=W.tape
 output:V.output=W.output
 size:W.heap.size≤V.heap.size
 oth:∀ q:Nat,q<W.heap.size→q≠g→V.heap[q]?=W.heap[q]?
theorem Ij.refl (g:Nat)(W:World):Ij g W W:=⟨rfl,rfl,rfl,Nat.le_refl _,fun _ _ _=>rfl⟩
theorem Ij.next {g:Nat}{W V V':World}(h:Ij g W V)(hb:Below V.heap.size V V'):Ij g W V':=by
 have hs:=h.size;exact⟨hb.os.trans h.os,hb.tape.trans h.tape,hb.output.trans h.output,Nat.le_trans h.size hb.size,fun q hq hn=>(hb.block q (by omega)).trans (h.oth q hq hn)⟩
theorem Ij.grown {g e size n:Nat}{W V V':World}{v:Value}{xs:List Value}(h:Ij g W V)(ho:V.ownsRow W.heap.size e size v n xs)(hg:V.grownBy V' v.ownBlock):Ij g W V':=by
 have hs:=h.size;exact⟨hg.os.trans h.os,hg.tape.trans h.tape,hg.output.trans h.output,Nat.le_trans h.size hg.size,fun q hq hn=>(hg.block q (by omega) fun c=>by have:=(ho.lt q c.symm).1; omega).trans (h.oth q hq hn)⟩
theorem Ij.set {g:Nat}{W V:World}(h:Ij g W V)(j:Nat)(v:Value):Ij g W (V.setCell ⟨g,j,none⟩ v):=⟨h.os,h.tape,h.output,by simpa using h.size,fun q hq hn=>(heap_setCell_other _ _ _ _ hn).trans (h.oth q hq hn)⟩
theorem Ij.below {g b:Nat}{W V:World}(h:Ij g W V)(hb:b≤W.heap.size)(hg:b≤g):Below b W V:=⟨h.os,h.tape,h.output,h.size,fun q hq=>h.oth q (by omega) (by omega)⟩
theorem Ij.kp {g:Nat}{S:TypeId→Bool}{W V:World}{cs:Array Value}{t:TypeId}(h:Ij g W V)(hr:W.heap[g]?=some (.cells cs t (0,0)))(hs:S t=false):Lq S W V:=fun q cs' t' hq ht=>by
 refine(h.oth q (Zd hq) fun c=>?_).trans hq;subst c;rw [hq] at hr;injection hr with hr;injection hr with _ hr _;rw [← hr,ht] at hs;cases hs
theorem Sg {B g e size n:Nat}{t:TypeId}{V V':World}{v:Value}{xs:List Value}{cs:Array Value}(hr:V.heap[g]?=some (.cells cs t (0,0)))(ho:V.ownsRow B e size v n xs)(hg:V.grownBy V' v.ownBlock)(hne:e≠t):V'.heap[g]?=some (.cells cs t (0,0)) :=
 (hg.block g (Zd hr) fun c=>Xu ho hr hne c.symm).trans hr
theorem Jg {B e size n:Nat}{V V':World}{v:Value}{xs:List Value}(h:V.ownsRow B e size v n xs)(hb:Below V.heap.size V V'):V'.ownsRow B e size v n xs:=Yq h fun g hg=>hb.block g (h.lt g hg).2
theorem Zjs {B g j:Nat}{V V':World}{v v' x:Value}{As:List (Array Value)}{es:List (List Int×Int)}{s:List Int×Int}{A cs:Array Value}(ho:V.ownsRow B 56 2 v es.length (Ci As))(ha:Ch (Ii V) As es)(hA:Ii V A s)(hg:V.grownBy V' v.ownBlock)(ho':V'.ownsRow B 56 2 v' (es.length+1) (Ci As++A.toList))(hr:V'.heap[g]?=some (.cells cs 29 (0,0))):Ud (V'.setCell ⟨g,j,none⟩ x) B v' (es++[s]):=by
 have k1:Lq kS3 V V':=.of_grown ho hg (by decide);have k2:Lq kS3 V' (V'.setCell ⟨g,j,none⟩ x):=.set hr (by decide) _ _;refine⟨As++[A],?_,(ha.snoc hA).imp fun _ _ h=>h.keep (k1.trans k2)⟩;rw [Cj,List.length_append];exact Yq ho' fun q hq=>heap_setCell_other _ _ _ _ fun c=>Xu ho' hr (by decide) (by rw [hq,c])
theorem Zjt {B:Nat}{V V':World}{v v':Value}{As:List (Array Value)}{l:List Zw}{i:Zw}{A:Array Value}(ho:V.ownsRow B 65 8 v l.length (Ci As))(ha:Ch (Ck V) As l)(hA:Ck V A i)(hg:V.grownBy V' v.ownBlock)(ho':V'.ownsRow B 65 8 v' (l.length+1) (Ci As++A.toList)):Ie V' B v' (l++[i]):=by
 have k1:Lq kS0 V V':=.of_grown ho hg (by decide);refine⟨As++[A],?_,(ha.snoc hA).imp fun _ _ h=>h.keep k1⟩;rw [Cj,List.length_append];exact ho'
theorem Zju {B g j:Nat}{V V':World}{v v' x y:Value}{vs:List Value}{bl:List (List Zw)}{l:List Zw}{cs:Array Value}(ho:V.ownsRow B 61 1 v bl.length vs)(ha:Ch (Ig V) vs bl)(hA:Ig V y l)(hg:V.grownBy V' v.ownBlock)(ho':V'.ownsRow B 61 1 v' (bl.length+1) (vs++[y]))(hr:V'.heap[g]?=some (.cells cs 60 (0,0))):Ih (V'.setCell ⟨g,j,none⟩ x) B v' (bl++[l]):=by
 have k1:Lq kS1 V V':=.of_grown ho hg (by decide);have k2:Lq kS1 V' (V'.setCell ⟨g,j,none⟩ x):=.set hr (by decide) _ _;refine⟨vs++[y],?_,(ha.snoc hA).imp fun _ _ h=>h.keep (k1.trans k2)⟩;rw [List.length_append];exact Yq ho' fun q hq=>heap_setCell_other _ _ _ _ fun c=>Xu ho' hr (by decide) (by rw [hq,c])
theorem Zjv {B g j:Nat}{V V':World}{v v' x:Value}{As:List (Array Value)}{fs:List Zn}{f:Zn}{A cs:Array Value}(ho:V.ownsRow B 60 5 v fs.length (Ci As))(ha:Ch (Sw V) As fs)(hA:Sw V A f)(hg:V.grownBy V' v.ownBlock)(ho':V'.ownsRow B 60 5 v' (fs.length+1) (Ci As++A.toList))(hr:V'.heap[g]?=some (.cells cs 29 (0,0))):Uc (V'.setCell ⟨g,j,none⟩ x) B v' (fs++[f]):=by
 have k1:Lq kS2 V V':=.of_grown ho hg (by decide);have k2:Lq kS2 V' (V'.setCell ⟨g,j,none⟩ x):=.set hr (by decide) _ _;refine⟨As++[A],?_,(ha.snoc hA).imp fun _ _ h=>h.keep (k1.trans k2)⟩;rw [Cj,List.length_append];exact Yq ho' fun q hq=>heap_setCell_other _ _ _ _ fun c=>Xu ho' hr (by decide) (by rw [hq,c])
theorem Cl {P:Program}(w:World){ops:Array Oper}{rest:List Oper}{o:Oper}{a:Act}{Q:Exit→Act→World→Prop}(hgd:o.guard=none)(s x:Operand)(t:TypeId)
 (ho:o.op=.call { callee:=.builtin .append,args:=#[s,x],argTypes:=#[t,t] })
 (e:TypeId) (i:TypeInfo) (z:Value) (size bytes:Nat) (ht:P.underlying t=some (.slice e)) (hi:P.info? e=some i) (hz:i.zero=some z)
 (hsize:i.size=size) (hby:i.bytes=bytes) (hzs:z.cells.size=size) (hsz:0<size) (hs:a.eval s=.slice none 0 0) (p:Option Addr) (m c:Nat) (hx:a.eval x=.slice p m c) (news:List Value) (hl:news.length=m*size)
 (hc:0<m→∃ sb so,p=some ⟨sb,so,none⟩∧∀ j u,news[j]?=some u→w.cell? ⟨sb,so+j,none⟩=some u) (h1:∀ u ∈ news,u.oneCell'=true)
 (h63:m≤maxLen) (hbytes:m*bytes≤140737488355328)
 (h:∀ v' w',w'.ownsRow w.heap.size e size v' m news→Below w.heap.size w w'→wpList P ops Q rest (a.put o.dst v') w'):wpList P ops Q (o :: rest) a w :=
 wpList_plain hgd fun _ hK=>by
  obtain⟨v',w',hr,h2,h3⟩:=Zej (P:=P) w t o.type e i z size bytes ht hi hz hsize hby hzs hsz p m c news hl hc h1 h63 hbytes;unfold Oper.wp execOp;simp only [ho,resolve,invoke,builtin,Sem.run_bind,Sem.run_pure,Result.andThen_ok,List.map_toArray,List.map_cons,List.map_nil,hs,hx,hr];exact hK _ _ (h v' w' h2 h3)
theorem Tryz.infPrF:(Tryz.prog.info? 29).map (·.size)=some 2:=by kernel_rfl
theorem Tryz.infSgF:(Tryz.prog.info? 56).map (fun i=>(i.zero,i.size,i.bytes))=some (some (.agg #[.slice none 0 0,.int .i64 0]),2,32):=by kernel_rfl
theorem Tryz.infInF:(Tryz.prog.info? 65).map (fun i=>(i.zero,i.size,i.bytes))=some (some (.agg #[.int .i64 0,.int .i64 0,.int .i64 0,.int .i64 0,.int .u64 0,.int .i64 0,.slice none 0 0,.slice none 0 0]),8,96):=by kernel_rfl
theorem Tryz.infBlF:(Tryz.prog.info? 61).map (fun i=>(i.zero,i.size,i.bytes))=some (some (.slice none 0 0),1,24):=by kernel_rfl
theorem Tryz.infFnF:(Tryz.prog.info? 60).map (fun i=>(i.zero,i.size,i.bytes))=some (some (.agg #[.slice none 0 0,.int .i64 0,.slice none 0 0,.slice none 0 0,.slice none 0 0]),5,104):=by kernel_rfl
theorem Tryz.infPaF:(Tryz.prog.info? 99).map (fun i=>(i.zero,i.size,i.bytes))=some (some (.agg #[.int .i64 0,.int .i64 0]),2,16):=by kernel_rfl
theorem Tryz.infAgF:(Tryz.prog.info? 139).map (fun i=>(i.zero,i.size,i.bytes))=some (some (.agg #[.int .i64 0,.int .i64 0]),2,16):=by kernel_rfl
end Go.Proofs.YteddfaconabobaaGreatDoor
namespace Go.Proofs.YteddfaconabobaaGreatDoor
open Go.ChangeShapes Go.WideShapes Go.ChangeAt Go.RowKit Go.Deep
section
variable {H:Type} {enc:TypeId×Value→H} {w:World} {held:Bool}
theorem Le {n:Nat}{v:Value}{y:DataW H×List MemPlace}(h:Mc enc w held n 23 [v] y)(hw:Nd 23 y.1):∃ ns:List Int,Li w v ns∧ns.length*8≤reachBytes:=by
 obtain⟨ps,h1,h2,h3⟩:=Lb (b:=8) (Oj:=fun q:Array Value×Int=>q.1=#[.int .i64 q.2]) Tryz.underlying23 Tryz.cellsIntE (by decide) (by kernel_rfl) (fun n cs y hl hy _=>by
  match cs,hl with
  | [v],_ =>
   obtain⟨x,rfl,hx⟩:=Xq hy;exact⟨x,rfl⟩) h hw
 have hl:(ps.map (·.2)).length=ps.length:=by simp
 obtain⟨p,cap,g1,g2,g3,g4⟩:=(h1.congr (B:=fun k=>#[.int .i64 ((ps.map (·.2)).getD k default)]) (fun i hi=>by rw [Ru ps #[]]; exact h2 _ (Lh _ _ _ hi))).ones;refine⟨ps.map (·.2),⟨p,cap,by rw [hl]; exact g1,by rw [hl]; exact g2,by rw [hl]; exact g3,fun h0=>by rw [hl] at h0 ⊢; exact g4 h0⟩,by rw [hl]; exact h3⟩
set_option maxRecDepth 100000 in
theorem Zhe {n:Nat}{cs:List Value}{y:DataW H×List MemPlace}(hl:cs.length=8)(h:Mc enc w held n 65 cs y)(hw:Nd 65 y.1):∃ i:Zw,Zby w cs.toArray i∧Zoa i:=by
 obtain⟨c0,c1,c2,c3,c4,c5,c6,c7,rfl⟩:=Zdu hl;obtain⟨xs,k,-,hx,-,hxl,hall⟩:=DataW.trod_struct Tryz.underlying65 h;obtain⟨y0,y1,y2,y3,y4,y5,y6,y7,rfl⟩:=Zdu hxl;have f0:Mc enc w held k 3 [c0] y0:=Ym hall (i:=0) rfl Tryz.cellsIntE rfl;have f1:Mc enc w held k 3 [c1] y1:=Ym hall (i:=1) rfl Tryz.cellsIntE rfl;have f2:Mc enc w held k 3 [c2] y2:=Ym hall (i:=2) rfl Tryz.cellsIntE rfl;have f3:Mc enc w held k 3 [c3] y3:=Ym hall (i:=3) rfl Tryz.cellsIntE rfl;have f4:Mc enc w held k 62 [c4] y4:=Ym hall (i:=4) rfl Tryz.cellsU64E rfl;have f5:Mc enc w held k 3 [c5] y5:=Ym hall (i:=5) rfl Tryz.cellsIntE rfl;have f6:Mc enc w held k 63 [c6] y6:=Ym hall (i:=6) rfl Tryz.cellsArgsE rfl;have f7:Mc enc w held k 23 [c7] y7:=Ym hall (i:=7) rfl Tryz.cellsIntsE rfl;clear hall;rw [show y.1=_ from congrArg Prod.fst hx] at hw;unfold Nd at hw;simp only [DataW.weights,Tryz.underlying65,List.map_cons,List.map_nil,DataW.weightsEach,List.mem_append] at hw;obtain⟨x0,rfl,b0⟩:=Xq f0;obtain⟨x1,rfl,b1⟩:=Xq f1;obtain⟨x2,rfl,b2⟩:=Xq f2;obtain⟨x3,rfl,b3⟩:=Xq f3;obtain⟨x4,rfl,b4⟩:=Ix f4;obtain⟨x5,rfl,b5⟩:=Xq f5;obtain⟨gs,l6,m6⟩:=Zdo f6 (fun z hz=>hw z (by first | exact Or.inl hz | simp only [hz,true_or,or_true]));obtain⟨os,l7,m7⟩:=Le f7 (fun z hz=>hw z (by first | exact Or.inl hz | simp only [hz,true_or,or_true]));exact⟨⟨x0,x1,x2,x3,x4,x5,gs,os⟩,⟨c6,c7,rfl,l6,l7⟩,b4,m6,m7⟩
theorem Zdd {n:Nat}{cs:List Value}{y:DataW H×List MemPlace}(hl:cs.length=1)(h:Mc enc w held n 61 cs y)(hw:Nd 61 y.1) :
 ∃ l:List Zw,∃ v,cs=[v]∧Di w v l∧Zmd l:=by
 match cs,hl with
 | [v],_ =>
  haveI:Inhabited Zw:=⟨⟨0,0,0,0,0,0,[],[]⟩⟩
  obtain⟨ps,h1,h2,h3⟩:=Lb (b:=96) (Oj:=fun q:Array Value×Zw=>Zby w q.1 q.2∧Zoa q.2) Tryz.underlying61 Tryz.cellsInsE (by decide) (by kernel_rfl) (fun n cs y hl hy hw=>Zhe hl hy hw) h hw;have hl:(ps.map (·.2)).length=ps.length:=by simp
  refine⟨ps.map (·.2),v,rfl,⟨_,by rw [hl]; exact h1,fun k hk=>?_⟩,by rw [hl]; exact h3,fun i hi=>?_⟩
  ·
   rw [hl] at hk;have e1:(ps.getD k (#[],default))=ps[k]:=by simp [List.getD,hk]
   rw [e1,List.getElem_map];exact(h2 _ (List.getElem_mem hk)).1
  ·
   obtain⟨q,hq,rfl⟩:=List.mem_map.1 hi;exact(h2 q hq).2
theorem Zbq {n:Nat}{v:Value}{y:DataW H×List MemPlace}(h:Mc enc w held n 58 [v] y)(hw:Nd 58 y.1) :
 ∃(bl:List (List Zw)) (B:Nat→Value),LS 1 w v bl.length (fun k=>#[B k])∧(∀ k (hk:k<bl.length),Di w (B k) bl[k])∧bl.length*24≤reachBytes∧∀ l ∈ bl,Zmd l:=by
 obtain⟨ps,h1,h2,h3⟩:=Lb (b:=24) (Oj:=fun q:Array Value×List Zw=>∃ v,q.1=#[v]∧Di w v q.2∧Zmd q.2) Tryz.underlying58 Tryz.cellsInssE (by decide) (by kernel_rfl) (fun n cs y hl hy hw=>by
  obtain⟨l,v,rfl,g⟩:=Zdd hl hy hw;exact⟨l,v,rfl,g⟩) h hw
 have hl:(ps.map (·.2)).length=ps.length:=by simp
 refine⟨ps.map (·.2),fun k=>((ps.getD k (#[],default)).1).getD 0 undef,?_,fun k hk=>?_,by rw [hl]; exact h3,fun l hl=>?_⟩
 ·
  rw [hl];refine h1.congr (fun i hi=>?_);obtain⟨v',e,-⟩:=h2 _ (Lh ps (#[],default) i hi);show(ps.getD i (#[],default)).1=#[((ps.getD i (#[],default)).1).getD 0 undef];rw [e];rfl
 ·
  rw [hl] at hk;have e1:(ps.getD k (#[],default))=ps[k]:=by simp [List.getD,hk]
  obtain⟨v',e,g,-⟩:=h2 _ (List.getElem_mem hk);show Di w (((ps.getD k (#[],default)).1).getD 0 undef) (ps.map (·.2))[k];rw [e1,List.getElem_map,e];exact g
 ·
  obtain⟨q,hq,rfl⟩:=List.mem_map.1 hl;obtain⟨v',-,-,g⟩:=h2 q hq;exact g
theorem Zhf {n:Nat}{cs:List Value}{y:DataW H×List MemPlace}(hl:cs.length=2)(h:Mc enc w held n 56 cs y)(hw:Nd 56 y.1):∃ s:List Int×Int,Zbz w cs.toArray s∧s.1.length*8≤reachBytes:=by
 obtain⟨c0,c1,rfl⟩:=Kn hl;obtain⟨xs,k,-,hx,-,hxl,hall⟩:=DataW.trod_struct Tryz.underlying56 h;obtain⟨y0,y1,rfl⟩:=Kn hxl;have f0:Mc enc w held k 23 [c0] y0:=Ym hall (i:=0) rfl Tryz.cellsIntsE rfl;have f1:Mc enc w held k 3 [c1] y1:=Ym hall (i:=1) rfl Tryz.cellsIntE rfl;clear hall;rw [show y.1=_ from congrArg Prod.fst hx] at hw;unfold Nd at hw;simp only [DataW.weights,Tryz.underlying56,List.map_cons,List.map_nil,DataW.weightsEach,List.mem_append] at hw;obtain⟨ns,l0,m0⟩:=Le f0 (fun z hz=>hw z (by first | exact Or.inl hz | simp only [hz,true_or,or_true]));obtain⟨x1,rfl,b1⟩:=Xq f1;exact⟨(ns,x1),⟨c0,rfl,l0⟩,m0⟩
set_option maxRecDepth 100000 in
theorem Zem {n:Nat}{cs:List Value}{y:DataW H×List MemPlace}(hl:cs.length=5)(h:Mc enc w held n 60 cs y)(hw:Nd 60 y.1):∃ f:Zn,Oy w cs.toArray f∧Zob f:=by
 obtain⟨c0,c1,c2,c3,c4,rfl⟩:=Zie hl;obtain⟨xs,k,-,hx,-,hxl,hall⟩:=DataW.trod_struct Tryz.underlying60 h;obtain⟨y0,y1,y2,y3,y4,rfl⟩:=Zie hxl;have f0:Mc enc w held k 57 [c0] y0:=Ym hall (i:=0) rfl Tryz.cellsParamsE rfl;have f1:Mc enc w held k 3 [c1] y1:=Ym hall (i:=1) rfl Tryz.cellsIntE rfl;have f2:Mc enc w held k 23 [c2] y2:=Ym hall (i:=2) rfl Tryz.cellsIntsE rfl;have f3:Mc enc w held k 23 [c3] y3:=Ym hall (i:=3) rfl Tryz.cellsIntsE rfl;have f4:Mc enc w held k 58 [c4] y4:=Ym hall (i:=4) rfl Tryz.cellsBlocksE rfl;clear hall;rw [show y.1=_ from congrArg Prod.fst hx] at hw;unfold Nd at hw;simp only [DataW.weights,Tryz.underlying60,List.map_cons,List.map_nil,DataW.weightsEach,List.mem_append] at hw;obtain⟨pp,l0,m0⟩:=Zao f0 (fun z hz=>hw z (by first | exact Or.inl hz | simp only [hz,true_or,or_true]));obtain⟨x1,rfl,b1⟩:=Xq f1;obtain⟨hs,l2,m2⟩:=Le f2 (fun z hz=>hw z (by first | exact Or.inl hz | simp only [hz,true_or,or_true]));obtain⟨ss,l3,m3⟩:=Le f3 (fun z hz=>hw z (by first | exact Or.inl hz | simp only [hz,true_or,or_true]));obtain⟨bl,B,l4,l5,m4,v4⟩:=Zbq f4 (fun z hz=>hw z (by first | exact Or.inl hz | simp only [hz,true_or,or_true]));exact⟨⟨pp,x1,hs,ss,bl⟩,⟨c0,c2,c3,c4,B,rfl,⟨l0,l2,l3,l4,l5⟩⟩,⟨m0,m2,m3,m4,v4⟩⟩
theorem Zmj:Tryz.prog.bytesOf 60=104:=by kernel_rfl
theorem Zmk:Tryz.prog.bytesOf 56=32:=by kernel_rfl
set_option maxRecDepth 100000 in
theorem Zen {n:Nat}{c0 c1:Value}{y:DataW H×List MemPlace}(h:Mc enc w held n 29 [c0,c1] y)(hw:Nd 29 y.1) :
 ∃(P:Zl) (A E:Nat→Array Value),Lm w c0 c1 P A E∧Id P:=by
 obtain⟨xs,k,-,hx,-,hxl,hall⟩:=DataW.trod_struct Tryz.underlying29 h;obtain⟨y0,y1,rfl⟩:=Kn hxl;have f0:Mc enc w held k 26 [c0] y0:=Ym hall (i:=0) rfl Tryz.cellsFuncsE rfl;have f1:Mc enc w held k 27 [c1] y1:=Ym hall (i:=1) rfl Tryz.cellsSigsE rfl;clear hall;rw [show y.1=_ from congrArg Prod.fst hx] at hw;unfold Nd at hw;simp only [DataW.weights,Tryz.underlying29,List.map_cons,List.map_nil,DataW.weightsEach,List.mem_append] at hw;haveI:Inhabited Zn:=⟨Ze⟩
 obtain⟨pf,l0,v0,m0⟩:=Lb (Oj:=fun q:Array Value×Zn=>Oy w q.1 q.2∧Zob q.2) Tryz.underlying26 Tryz.cellsFuncE (by decide) Zmj (fun n cs y hl hy hw=>Zem hl hy hw) f0 (fun z hz=>hw z (by first | exact Or.inl hz | simp only [hz,true_or,or_true]));obtain⟨pe,l1,v1,m1⟩:=Lb (Oj:=fun q:Array Value×(List Int×Int)=>Zbz w q.1 q.2∧q.2.1.length*8≤reachBytes) Tryz.underlying27 Tryz.cellsSigE (by decide) Zmk (fun n cs y hl hy hw=>Zhf hl hy hw) f1 (fun z hz=>hw z (by first | exact Or.inl hz | simp only [hz,true_or,or_true]));have hl0:(pf.map (·.2)).length=pf.length:=by simp
 have hl1:(pe.map (·.2)).length=pe.length:=by simp
 refine⟨⟨pf.map (·.2),pe.map (·.2)⟩,_,_,⟨by rw [hl0]; exact l0,fun k hk=>?_,by rw [hl1]; exact l1,fun k hk=>?_⟩,⟨by rw [hl0]; exact m0,by rw [hl1]; exact m1,fun f hf=>?_,fun s hs=>?_⟩⟩
 ·
  have hk':k<pf.length:=by rw [← hl0]; exact hk
  have e1:(pf.getD k (#[],default))=pf[k]:=by simp [List.getD,hk']
  show Oy w (pf.getD k (#[],default)).1 (pf.map (·.2))[k];rw [e1,List.getElem_map];exact(v0 _ (List.getElem_mem hk')).1
 ·
  have hk':k<pe.length:=by rw [← hl1]; exact hk
  have e1:(pe.getD k (#[],default))=pe[k]:=by simp [List.getD,hk']
  show Zbz w (pe.getD k (#[],default)).1 (pe.map (·.2))[k];rw [e1,List.getElem_map];exact(v1 _ (List.getElem_mem hk')).1
 ·
  obtain⟨q,hq,rfl⟩:=List.mem_map.1 hf;exact(v0 q hq).2
 ·
  obtain⟨q,hq,rfl⟩:=List.mem_map.1 hs;exact(v1 q hq).2
theorem Id.word {P:Zl}(h:Id P):∀ f ∈ P.funcs,∀ l ∈ f.blocks,∀ i ∈ l,0≤i.n∧i.n<18446744073709551616:=fun f hf l hl i hi=>(((h.fe f hf).e l hl).2 i hi).1
theorem Id.num {P:Zl}(h:Id P):Zkg P:=fun k i j=>by
 by_cases hk:k<P.funcs.length
 ·
  have hf:=Lh P.funcs Ze k hk;generalize P.funcs.getD k Ze=f at hf ⊢;by_cases hi:i<f.blocks.length
  ·
   have hl:=Lh f.blocks [] i hi;generalize f.blocks.getD i []=l at hl ⊢;by_cases hj:j<l.length
   ·
    exact h.word f hf l hl _ (Lh _ _ _ hj)
   ·
    rw [show l.getD j Lt=Lt by simp [List.getD,Nat.le_of_not_lt hj]];exact⟨by decide,by decide⟩
  ·
   rw [show f.blocks.getD i []=[] by simp [List.getD,Nat.le_of_not_lt hi]];exact⟨Int.le_refl 0,by show(0:Int)<_; decide⟩
 ·
  rw [show P.funcs.getD k Ze=Ze by simp [List.getD,Nat.le_of_not_lt hk]];exact⟨Int.le_refl 0,by show(0:Int)<_; decide⟩
theorem Id.par {P:Zl}(h:Id P)(k:Nat):(P.funcs.getD k Ze).params.length≤8796093022208:=by
 by_cases hk:k<P.funcs.length
 ·
  have hf:=(h.fe _ (Lh P.funcs Ze k hk)).p;unfold reachBytes at hf;omega
 ·
  rw [show P.funcs.getD k Ze=Ze by simp [List.getD,Nat.le_of_not_lt hk]];simp [Ze]
end
end Go.Proofs.YteddfaconabobaaGreatDoor
namespace Go.Proofs.YteddfaconabobaaGreatDoor
open Go.RowKit
theorem My (w:World)(Z cs:Array Value)(T:TypeId):((w.alloc (.cells Z T)).setRow w.heap.size cs).heap[w.heap.size]?=some (.cells cs T (0,0))∧Below w.heap.size w ((w.alloc (.cells Z T)).setRow w.heap.size cs)∧(w.alloc (.cells Z T)).heap[w.heap.size]?=some (.cells Z T (0,0)):=by
 obtain⟨r,hb,-⟩:=Yj w (.cells Z T (0,0));exact⟨setRow_heap _ _ _ _ _ _ r,Zh hb (Nat.le_refl _),r⟩
theorem Gs {P:Zl}{w0 w:World}{rb b:Nat}{f:Mh}{R:List Mh}{frv tv:Value}{tr:List (Int×List Int)}{es:List Value}(hG:Yp P)(hW:Lp P f.x)(hS:Xc w0 w rb b (f :: R) frv tv tr es)(i:Zw)(hi:Zo f.x=i) :
 Calls Tryz.prog 82 #[.pointer (some ⟨f.q,0,none⟩)] w fun e w'=>∃ xap xac xop xoc,e=.returned (.agg #[.int .i64 i.op,.int .i64 i.d,.int .i64 i.a,.int .i64 i.bb,.int .u64 i.n,.int .i64 i.f,.slice xap i.args.length xac,.slice xop i.outs.length xoc])∧LS 2 w0 (.slice xap i.args.length xac) i.args.length (fun k=>Yz (i.args.getD k (0,0)))∧Li w0 (.slice xop i.outs.length xoc) i.outs∧Gn w0 w' (Zp f.x) f.q f.lo f.hi f.lg f.bp f.sp f.op f.bc f.sc f.oc f.gs f.B∧Sv f.lo f.hi w w':=by
 have hH:=hG.fnH hW.fn;have h1:=hW.b0;have h2:=hW.b1;have h3:=hW.i0;have h4:=hW.i1;obtain⟨bn,hb⟩:=Int.eq_ofNat_of_zero_le h1;obtain⟨nx,hn⟩:=Int.eq_ofNat_of_zero_le h3;rw [hb] at h2 h4;rw [hn] at h4;rw [Int.toNat_natCast] at h4;have:=Zld w0 f.x f.q f.lo f.hi f.lg f.bp f.sp f.op f.bc f.sc f.oc f.gs f.B bn nx w (hS.stk f List.mem_cons_self).1 hS.low hb hn (by omega) (by omega) hH.b12 (hH.bk bn (by omega)).2;rw [hi] at this;exact this
set_option maxHeartbeats 4000000 in
set_option maxRecDepth 100000 in
theorem Zgo {P:Zl}{w0 w:World}{rb b:Nat}{f:Mh}{R:List Mh}{frv tv fv scv vv:Value}{tr:List (Int×List Int)}{es:List Value}{kind steps:Int}(hG:Yp P)(hW:Lp P f.x)(hS:Xc w0 w rb b (f :: R) frv tv tr es)(hrow:Gv w rb fv scv frv kind vv tv steps){d a bb n F:Int}{args:List (Int×Int)}{outs:List Int}(hi:Zo f.x=⟨14,d,a,bb,n,F,args,outs⟩)  :
 Calls Tryz.prog 65 #[.pointer (some ⟨rb,0,none⟩),.pointer (some ⟨f.q,0,none⟩)] w fun e w'=>(∃ v,e=.returned v)∧Gv w' rb fv scv frv kind vv tv steps∧Xc w0 w' rb b ({ f with x:={ f.x with b:=a,i:=0 } } :: R) frv tv tr es∧Below b w w':=by
 have HFE:=J (Gs hG hW hS ⟨14,d,a,bb,n,F,args,outs⟩ hi);have hrlo:=(hS.stk f List.mem_cons_self).2;have hbrb:=hS.rbb;have HW:=J hW;have HS:=J hS;have HROW:=J hrow;have hrl:=Zd hrow;have HI:=J hi;clear hS hrow hi hW;go_enter Tryz.func65,Tryz.ntmps65
 go_wp2_with fail
 refine(G HFE).mono ?_;rintro e w1 ⟨xap,xac,xop,xoc,rfl,hxa,hxo,hF1,hO1⟩;have hBX:=My w1 #[.int .i64 0,.int .i64 0,.int .i64 0,.int .i64 0,.int .u64 0,.int .i64 0,.slice none 0 0,.slice none 0 0] #[.int .i64 14,.int .i64 d,.int .i64 a,.int .i64 bb,.int .u64 n,.int .i64 F,.slice xap args.length xac,.slice xop outs.length xoc] 65;have HR2:=J hBX.2.2;have HX2:=J hBX.1;have HB2:=J hBX.2.1;have HS2:=J (((G HS).top hF1 hO1).grow hBX.2.1);have HR:=J (show Gv ((w1.alloc (.cells #[.int .i64 0,.int .i64 0,.int .i64 0,.int .i64 0,.int .u64 0,.int .i64 0,.slice none 0 0,.slice none 0 0] 65)).setRow w1.heap.size #[.int .i64 14,.int .i64 d,.int .i64 a,.int .i64 bb,.int .u64 n,.int .i64 F,.slice xap args.length xac,.slice xop outs.length xoc]) rb fv scv frv kind vv tv steps from(hBX.2.1.block rb (Nat.lt_of_lt_of_le hrl hO1.size)).trans ((hO1.oth rb hrl (Or.inl hrlo)).trans (G HROW)));have HBL:=J (show Below b w ((w1.alloc (.cells #[.int .i64 0,.int .i64 0,.int .i64 0,.int .i64 0,.int .u64 0,.int .i64 0,.slice none 0 0,.slice none 0 0] 65)).setRow w1.heap.size #[.int .i64 14,.int .i64 d,.int .i64 a,.int .i64 bb,.int .u64 n,.int .i64 F,.slice xap args.length xac,.slice xop outs.length xoc]) from Below.trans (b:=w1) ⟨hO1.os,hO1.tape,hO1.output,hO1.size,fun k hk=>hO1.oth k (by omega) (Or.inl (by omega))⟩ (hBX.2.1.mono (by have:=hO1.size; omega)));have HIBW:=J hO1.size;have HXA:=J hxa;have HXO:=J hxo;clear hBX hxa hxo hF1 hO1 HS HROW HFE
 dsimp only;go_upto_region 1 with(refine wpList_store_row rfl 65 _ _ rfl w1.heap.size #[.int .i64 14,.int .i64 d,.int .i64 a,.int .i64 bb,.int .u64 n,.int .i64 F,.slice xap args.length xac,.slice xop outs.length xoc] rfl rfl 65 _ (G HR2) (Tryz.infInsI.trans rfl) rfl (by simp [Value.oneCell']) ?_)
 clear HR2;generalize hX:World.setRow (World.alloc w1 _) _ _=V2 at HX2 HB2 HS2 HR HBL ⊢;clear hX;generalize hib:w1.heap.size=ib at HX2 HB2 HIBW ⊢;clear hib;have o0:=cR (G HX2) 0;have hF2:Gn w0 V2 (Zp f.x) f.q f.lo f.hi f.lg f.bp f.sp f.op f.bc f.sc f.oc f.gs f.B:=((G HS2).stk _ List.mem_cons_self).1;have HF2:=J hF2;clear hF2;go_upto_region 16 with fail
 clear o0;have o2:=cR (G HX2) 2;have HC:=J (Zdw w0 (Zp f.x) f.q f.lo f.hi f.lg f.bp f.sp f.op f.bc f.sc f.oc f.gs f.B a V2 (G HF2));go_wp2_with fail
 refine(G HC).mono ?_;rintro e w5 ⟨⟨v5,rfl⟩,hF5,hO5⟩;have HF5:=J hF5;have HO5:=J hO5;clear hF5 hO5 HC o2;go_wp2;go_returns;have hS2:=G HS2;have hO5:=G HO5;refine⟨⟨_,rfl⟩,(hO5.oth rb (Zd (G HR)) (Or.inl hrlo)).trans (G HR),hS2.top (G HF5) hO5,(G HBL).trans ⟨hO5.os,hO5.tape,hO5.output,hO5.size,fun k hk=>hO5.oth k (by have:=Zd (G HR); omega) (Or.inl (by show k<f.lo; omega))⟩⟩
set_option maxHeartbeats 4000000 in
set_option maxRecDepth 100000 in
theorem Zgp {P:Zl}{w0 w:World}{rb b:Nat}{f:Mh}{R:List Mh}{frv tv fv scv vv:Value}{tr:List (Int×List Int)}{es:List Value}{kind steps:Int}(hG:Yp P)(hW:Lp P f.x)(hS:Xc w0 w rb b (f :: R) frv tv tr es)(hrow:Gv w rb fv scv frv kind vv tv steps){d a bb n F:Int}{args:List (Int×Int)}{outs:List Int}(hi:Zo f.x=⟨15,d,a,bb,n,F,args,outs⟩){t:Int}(ht:t=if f.x.v.getD d.toNat 0=0 then bb else a)(h0:0≤d)(h1:d<f.x.v.length) :
 Calls Tryz.prog 65 #[.pointer (some ⟨rb,0,none⟩),.pointer (some ⟨f.q,0,none⟩)] w fun e w'=>(∃ v,e=.returned v)∧Gv w' rb fv scv frv kind vv tv steps∧Xc w0 w' rb b ({ f with x:={ f.x with b:=t,i:=0 } } :: R) frv tv tr es∧Below b w w':=by
 have HFE:=J (Gs hG hW hS ⟨15,d,a,bb,n,F,args,outs⟩ hi);have hrlo:=(hS.stk f List.mem_cons_self).2;have hbrb:=hS.rbb;have HW:=J hW;have HS:=J hS;have HROW:=J hrow;have hrl:=Zd hrow;have HI:=J hi;clear hS hrow hi hW;go_enter Tryz.func65,Tryz.ntmps65
 go_wp2_with fail
 refine(G HFE).mono ?_;rintro e w1 ⟨xap,xac,xop,xoc,rfl,hxa,hxo,hF1,hO1⟩;have hBX:=My w1 #[.int .i64 0,.int .i64 0,.int .i64 0,.int .i64 0,.int .u64 0,.int .i64 0,.slice none 0 0,.slice none 0 0] #[.int .i64 15,.int .i64 d,.int .i64 a,.int .i64 bb,.int .u64 n,.int .i64 F,.slice xap args.length xac,.slice xop outs.length xoc] 65;have HR2:=J hBX.2.2;have HX2:=J hBX.1;have HB2:=J hBX.2.1;have HS2:=J (((G HS).top hF1 hO1).grow hBX.2.1);have HR:=J (show Gv ((w1.alloc (.cells #[.int .i64 0,.int .i64 0,.int .i64 0,.int .i64 0,.int .u64 0,.int .i64 0,.slice none 0 0,.slice none 0 0] 65)).setRow w1.heap.size #[.int .i64 15,.int .i64 d,.int .i64 a,.int .i64 bb,.int .u64 n,.int .i64 F,.slice xap args.length xac,.slice xop outs.length xoc]) rb fv scv frv kind vv tv steps from(hBX.2.1.block rb (Nat.lt_of_lt_of_le hrl hO1.size)).trans ((hO1.oth rb hrl (Or.inl hrlo)).trans (G HROW)));have HBL:=J (show Below b w ((w1.alloc (.cells #[.int .i64 0,.int .i64 0,.int .i64 0,.int .i64 0,.int .u64 0,.int .i64 0,.slice none 0 0,.slice none 0 0] 65)).setRow w1.heap.size #[.int .i64 15,.int .i64 d,.int .i64 a,.int .i64 bb,.int .u64 n,.int .i64 F,.slice xap args.length xac,.slice xop outs.length xoc]) from Below.trans (b:=w1) ⟨hO1.os,hO1.tape,hO1.output,hO1.size,fun k hk=>hO1.oth k (by omega) (Or.inl (by omega))⟩ (hBX.2.1.mono (by have:=hO1.size; omega)));have HIBW:=J hO1.size;have HXA:=J hxa;have HXO:=J hxo;clear hBX hxa hxo hF1 hO1 HS HROW HFE
 dsimp only;go_upto_region 1 with(refine wpList_store_row rfl 65 _ _ rfl w1.heap.size #[.int .i64 15,.int .i64 d,.int .i64 a,.int .i64 bb,.int .u64 n,.int .i64 F,.slice xap args.length xac,.slice xop outs.length xoc] rfl rfl 65 _ (G HR2) (Tryz.infInsI.trans rfl) rfl (by simp [Value.oneCell']) ?_)
 clear HR2;generalize hX:World.setRow (World.alloc w1 _) _ _=V2 at HX2 HB2 HS2 HR HBL ⊢;clear hX;generalize hib:w1.heap.size=ib at HX2 HB2 HIBW ⊢;clear hib;have o0:=cR (G HX2) 0;have hF2:Gn w0 V2 (Zp f.x) f.q f.lo f.hi f.lg f.bp f.sp f.op f.bc f.sc f.oc f.gs f.B:=((G HS2).stk _ List.mem_cons_self).1;have HF2:=J hF2;clear hF2;go_upto_region 18 with fail
 clear o0;have o0:=cR (G HX2) 0;have o1:=cR (G HX2) 1;have o2:=cR (G HX2) 2;have o3:=cR (G HX2) 3;have o4:=cR (G HX2) 4;have o5:=cR (G HX2) 5;have o6:=cR (G HX2) 6;have o7:=cR (G HX2) 7;have HC:=J (Znn w0 (Zp f.x) f.q f.lo f.hi f.lg f.bp f.sp f.op f.bc f.sc f.oc f.gs f.B ⟨15,d,a,bb,n,F,args,outs⟩ xap xop args.length xac outs.length xoc d.toNat t V2 (G HF2) (by show d=_; omega) (by show d.toNat<f.x.v.length; omega) ht);dsimp only at HC;clear ht;go_wp2_with fail
 refine(G HC).mono ?_;rintro e w5 ⟨⟨v5,rfl⟩,hF5,hO5⟩;have HF5:=J hF5;have HO5:=J hO5;clear hF5 hO5 HC o0 o1 o2 o3 o4 o5 o6 o7;go_wp2;go_returns;have hS2:=G HS2;have hO5:=G HO5;refine⟨⟨_,rfl⟩,(hO5.oth rb (Zd (G HR)) (Or.inl hrlo)).trans (G HR),hS2.top (G HF5) hO5,(G HBL).trans ⟨hO5.os,hO5.tape,hO5.output,hO5.size,fun k hk=>hO5.oth k (by have:=Zd (G HR); omega) (Or.inl (by show k<f.lo; omega))⟩⟩
set_option maxHeartbeats 4000000 in
set_option maxRecDepth 100000 in
theorem Zgq {P:Zl}{w0 w:World}{rb b:Nat}{f:Mh}{R:List Mh}{frv tv fv scv vv:Value}{tr:List (Int×List Int)}{es:List Value}{kind steps:Int}(hG:Yp P)(hW:Lp P f.x)(hS:Xc w0 w rb b (f :: R) frv tv tr es)(hrow:Gv w rb fv scv frv kind vv tv steps){d a bb n F:Int}{args:List (Int×Int)}{outs:List Int}(hi:Zo f.x=⟨10,d,a,bb,n,F,args,outs⟩)(h0:0≤d)(h1:d<f.x.v.length)(h2:0≤a)(h3:a<f.x.s.length)(h4:isW n=true)(h5:0≤bb)(h6:bb+n≤(f.x.s.getD a.toNat []).length)(h7:(f.x.s.getD a.toNat []).length≤65536)(hn:0≤n) :
 Calls Tryz.prog 65 #[.pointer (some ⟨rb,0,none⟩),.pointer (some ⟨f.q,0,none⟩)] w fun e w'=>(∃ v,e=.returned v)∧Gv w' rb fv scv frv kind vv tv steps∧Xc w0 w' rb b ({ f with x:={ Zp f.x with v:=f.x.v.set d.toNat (Ns (f.x.s.getD a.toNat []) bb.toNat n.toNat) } } :: R) frv tv tr es∧Below b w w':=by
 obtain⟨d,rfl⟩:=Int.eq_ofNat_of_zero_le h0;obtain⟨a,rfl⟩:=Int.eq_ofNat_of_zero_le h2;obtain⟨bb,rfl⟩:=Int.eq_ofNat_of_zero_le h5;obtain⟨n,rfl⟩:=Int.eq_ofNat_of_zero_le hn;simp only [Int.toNat_natCast] at h6 h7 ⊢;have hok:=J hW.ok;have HFE:=J (Gs hG hW hS ⟨10,d,a,bb,n,F,args,outs⟩ hi);have hrlo:=(hS.stk f List.mem_cons_self).2;have hbrb:=hS.rbb;have HW:=J hW;have HS:=J hS;have HROW:=J hrow;have hrl:=Zd hrow;have HI:=J hi;clear hS hrow hi hW;go_enter Tryz.func65,Tryz.ntmps65
 go_wp2_with fail
 refine(G HFE).mono ?_;rintro e w1 ⟨xap,xac,xop,xoc,rfl,hxa,hxo,hF1,hO1⟩;have hBX:=My w1 #[.int .i64 0,.int .i64 0,.int .i64 0,.int .i64 0,.int .u64 0,.int .i64 0,.slice none 0 0,.slice none 0 0] #[.int .i64 10,.int .i64 d,.int .i64 a,.int .i64 bb,.int .u64 n,.int .i64 F,.slice xap args.length xac,.slice xop outs.length xoc] 65;have HR2:=J hBX.2.2;have HX2:=J hBX.1;have HB2:=J hBX.2.1;have HS2:=J (((G HS).top hF1 hO1).grow hBX.2.1);have HR:=J (show Gv ((w1.alloc (.cells #[.int .i64 0,.int .i64 0,.int .i64 0,.int .i64 0,.int .u64 0,.int .i64 0,.slice none 0 0,.slice none 0 0] 65)).setRow w1.heap.size #[.int .i64 10,.int .i64 d,.int .i64 a,.int .i64 bb,.int .u64 n,.int .i64 F,.slice xap args.length xac,.slice xop outs.length xoc]) rb fv scv frv kind vv tv steps from(hBX.2.1.block rb (Nat.lt_of_lt_of_le hrl hO1.size)).trans ((hO1.oth rb hrl (Or.inl hrlo)).trans (G HROW)));have HBL:=J (show Below b w ((w1.alloc (.cells #[.int .i64 0,.int .i64 0,.int .i64 0,.int .i64 0,.int .u64 0,.int .i64 0,.slice none 0 0,.slice none 0 0] 65)).setRow w1.heap.size #[.int .i64 10,.int .i64 d,.int .i64 a,.int .i64 bb,.int .u64 n,.int .i64 F,.slice xap args.length xac,.slice xop outs.length xoc]) from Below.trans (b:=w1) ⟨hO1.os,hO1.tape,hO1.output,hO1.size,fun k hk=>hO1.oth k (by omega) (Or.inl (by omega))⟩ (hBX.2.1.mono (by have:=hO1.size; omega)));have HIBW:=J hO1.size;have HXA:=J hxa;have HXO:=J hxo;clear hBX hxa hxo hF1 hO1 HS HROW HFE
 dsimp only;go_upto_region 1 with(refine wpList_store_row rfl 65 _ _ rfl w1.heap.size #[.int .i64 10,.int .i64 d,.int .i64 a,.int .i64 bb,.int .u64 n,.int .i64 F,.slice xap args.length xac,.slice xop outs.length xoc] rfl rfl 65 _ (G HR2) (Tryz.infInsI.trans rfl) rfl (by simp [Value.oneCell']) ?_)
 clear HR2;generalize hX:World.setRow (World.alloc w1 _) _ _=V2 at HX2 HB2 HS2 HR HBL ⊢;clear hX;generalize hib:w1.heap.size=ib at HX2 HB2 HIBW ⊢;clear hib;have o0:=cR (G HX2) 0;have hF2:Gn w0 V2 (Zp f.x) f.q f.lo f.hi f.lg f.bp f.sp f.op f.bc f.sc f.oc f.gs f.B:=((G HS2).stk _ List.mem_cons_self).1;have HF2:=J hF2;clear hF2;go_upto_region 8 with fail
 clear o0;have o0:=cR (G HX2) 0;have o1:=cR (G HX2) 1;have o2:=cR (G HX2) 2;have o3:=cR (G HX2) 3;have o4:=cR (G HX2) 4;have o5:=cR (G HX2) 5;have o6:=cR (G HX2) 6;have o7:=cR (G HX2) 7;have HC:=J (Zno w0 (Zp f.x) f.q f.lo f.hi f.lg f.bp f.sp f.op f.bc f.sc f.oc f.gs f.B 10 F d a bb n xap xop args.length xac outs.length xoc V2 (G HF2) ⟨(G hok).v,(G hok).s⟩ (by show d<f.x.v.length; omega) (by show a<f.x.s.length; omega) h4 (by show bb+n≤(f.x.s.getD a []).length; omega) h7);go_wp2_with fail
 refine(G HC).mono ?_;rintro e w5 hx5;obtain⟨⟨v5,rfl⟩,hF5,hO5⟩:=hx5;have HF5:=J hF5;have HO5:=J hO5;clear hF5 hO5 HC o0 o1 o2 o3 o4 o5 o6 o7;go_wp2;go_returns;have hS2:=G HS2;have hO5:=G HO5;refine⟨⟨_,rfl⟩,(hO5.oth rb (Zd (G HR)) (Or.inl hrlo)).trans (G HR),hS2.top (G HF5) hO5,(G HBL).trans ⟨hO5.os,hO5.tape,hO5.output,hO5.size,fun k hk=>hO5.oth k (by have:=Zd (G HR); omega) (Or.inl (by show k<f.lo; omega))⟩⟩
set_option maxHeartbeats 4000000 in
set_option maxRecDepth 100000 in
theorem Zee {P:Zl}{w0 w:World}{rb b:Nat}{f:Mh}{R:List Mh}{frv tv fv scv vv:Value}{tr:List (Int×List Int)}{es:List Value}{kind steps:Int}(hG:Yp P)(hW:Lp P f.x)(hS:Xc w0 w rb b (f :: R) frv tv tr es)(hrow:Gv w rb fv scv frv kind vv tv steps){d a bb n F:Int}{args:List (Int×Int)}{outs:List Int}(hi:Zo f.x=⟨11,d,a,bb,n,F,args,outs⟩)(h0:0≤d)(h1:d<f.x.v.length)(h2:0≤a)(h3:a<f.x.s.length)(h4:isW n=true)(h5:0≤bb)(h6:bb+n≤(f.x.s.getD a.toNat []).length)(h7:(f.x.s.getD a.toNat []).length≤65536)(hn:0≤n) :
 Calls Tryz.prog 65 #[.pointer (some ⟨rb,0,none⟩),.pointer (some ⟨f.q,0,none⟩)] w fun e w'=>(∃ v,e=.returned v)∧Gv w' rb fv scv frv kind vv tv steps∧Xc w0 w' rb b ({ f with x:={ Zp f.x with s:=f.x.s.set a.toNat (Sb (f.x.s.getD a.toNat []) bb.toNat n.toNat (f.x.v.getD d.toNat 0)) } } :: R) frv tv tr es∧Below b w w':=by
 obtain⟨d,rfl⟩:=Int.eq_ofNat_of_zero_le h0;obtain⟨a,rfl⟩:=Int.eq_ofNat_of_zero_le h2;obtain⟨bb,rfl⟩:=Int.eq_ofNat_of_zero_le h5;obtain⟨n,rfl⟩:=Int.eq_ofNat_of_zero_le hn;simp only [Int.toNat_natCast] at h6 h7 ⊢;have hok:=J hW.ok;have HFE:=J (Gs hG hW hS ⟨11,d,a,bb,n,F,args,outs⟩ hi);have hrlo:=(hS.stk f List.mem_cons_self).2;have hbrb:=hS.rbb;have HW:=J hW;have HS:=J hS;have HROW:=J hrow;have hrl:=Zd hrow;have HI:=J hi;clear hS hrow hi hW;go_enter Tryz.func65,Tryz.ntmps65
 go_wp2_with fail
 refine(G HFE).mono ?_;rintro e w1 ⟨xap,xac,xop,xoc,rfl,hxa,hxo,hF1,hO1⟩;have hBX:=My w1 #[.int .i64 0,.int .i64 0,.int .i64 0,.int .i64 0,.int .u64 0,.int .i64 0,.slice none 0 0,.slice none 0 0] #[.int .i64 11,.int .i64 d,.int .i64 a,.int .i64 bb,.int .u64 n,.int .i64 F,.slice xap args.length xac,.slice xop outs.length xoc] 65;have HR2:=J hBX.2.2;have HX2:=J hBX.1;have HB2:=J hBX.2.1;have HS2:=J (((G HS).top hF1 hO1).grow hBX.2.1);have HR:=J (show Gv ((w1.alloc (.cells #[.int .i64 0,.int .i64 0,.int .i64 0,.int .i64 0,.int .u64 0,.int .i64 0,.slice none 0 0,.slice none 0 0] 65)).setRow w1.heap.size #[.int .i64 11,.int .i64 d,.int .i64 a,.int .i64 bb,.int .u64 n,.int .i64 F,.slice xap args.length xac,.slice xop outs.length xoc]) rb fv scv frv kind vv tv steps from(hBX.2.1.block rb (Nat.lt_of_lt_of_le hrl hO1.size)).trans ((hO1.oth rb hrl (Or.inl hrlo)).trans (G HROW)));have HBL:=J (show Below b w ((w1.alloc (.cells #[.int .i64 0,.int .i64 0,.int .i64 0,.int .i64 0,.int .u64 0,.int .i64 0,.slice none 0 0,.slice none 0 0] 65)).setRow w1.heap.size #[.int .i64 11,.int .i64 d,.int .i64 a,.int .i64 bb,.int .u64 n,.int .i64 F,.slice xap args.length xac,.slice xop outs.length xoc]) from Below.trans (b:=w1) ⟨hO1.os,hO1.tape,hO1.output,hO1.size,fun k hk=>hO1.oth k (by omega) (Or.inl (by omega))⟩ (hBX.2.1.mono (by have:=hO1.size; omega)));have HIBW:=J hO1.size;have HXA:=J hxa;have HXO:=J hxo;clear hBX hxa hxo hF1 hO1 HS HROW HFE
 dsimp only;go_upto_region 1 with(refine wpList_store_row rfl 65 _ _ rfl w1.heap.size #[.int .i64 11,.int .i64 d,.int .i64 a,.int .i64 bb,.int .u64 n,.int .i64 F,.slice xap args.length xac,.slice xop outs.length xoc] rfl rfl 65 _ (G HR2) (Tryz.infInsI.trans rfl) rfl (by simp [Value.oneCell']) ?_)
 clear HR2;generalize hX:World.setRow (World.alloc w1 _) _ _=V2 at HX2 HB2 HS2 HR HBL ⊢;clear hX;generalize hib:w1.heap.size=ib at HX2 HB2 HIBW ⊢;clear hib;have o0:=cR (G HX2) 0;have hF2:Gn w0 V2 (Zp f.x) f.q f.lo f.hi f.lg f.bp f.sp f.op f.bc f.sc f.oc f.gs f.B:=((G HS2).stk _ List.mem_cons_self).1;have HF2:=J hF2;clear hF2;go_upto_region 10 with fail
 clear o0;have o0:=cR (G HX2) 0;have o1:=cR (G HX2) 1;have o2:=cR (G HX2) 2;have o3:=cR (G HX2) 3;have o4:=cR (G HX2) 4;have o5:=cR (G HX2) 5;have o6:=cR (G HX2) 6;have o7:=cR (G HX2) 7;have HC:=J (Zle w0 (Zp f.x) f.q f.lo f.hi f.lg f.bp f.sp f.op f.bc f.sc f.oc f.gs f.B 11 F d a bb n xap xop args.length xac outs.length xoc V2 (G HF2) ⟨(G hok).v,(G hok).s⟩ (by show d<f.x.v.length; omega) (by show a<f.x.s.length; omega) h4 (by show bb+n≤(f.x.s.getD a []).length; omega) h7);go_wp2_with fail
 refine(G HC).mono ?_;rintro e w5 hx5;obtain⟨⟨v5,rfl⟩,hF5,hO5⟩:=hx5;have HF5:=J hF5;have HO5:=J hO5;clear hF5 hO5 HC o0 o1 o2 o3 o4 o5 o6 o7;go_wp2;go_returns;have hS2:=G HS2;have hO5:=G HO5;refine⟨⟨_,rfl⟩,(hO5.oth rb (Zd (G HR)) (Or.inl hrlo)).trans (G HR),hS2.top (G HF5) hO5,(G HBL).trans ⟨hO5.os,hO5.tape,hO5.output,hO5.size,fun k hk=>hO5.oth k (by have:=Zd (G HR); omega) (Or.inl (by show k<f.lo; omega))⟩⟩
end Go.Proofs.YteddfaconabobaaGreatDoor
