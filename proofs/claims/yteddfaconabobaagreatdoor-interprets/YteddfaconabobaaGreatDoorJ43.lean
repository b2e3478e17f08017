import Derived.Test.YteddfaconabobaaGreatDoorPk
import Derived.Test.YteddfaconabobaaGreatDoorDeO
import Derived.Test.YteddfaconabobaaGreatDoorJ7
import Derived.Test.YteddfaconabobaaGreatDoorJ24
namespace Go.Proofs.YteddfaconabobaaGreatDoor
open Go.RowKit
theorem Zew {w:World}{b:Nat}{ps:List (Array Value×Zn)}{is:List Zn}{p:Option Addr}{c n:Nat}(h:Rx 5 w b (.slice p n c) ps)(hm:ps.map (·.2)=is)(he:∀ q ∈ ps,Gk w b q)(k:Nat)(hk:k<is.length):∃ sb so A,p=some ⟨sb,so,none⟩∧sb<b∧w.rangeAt sb (so+k*5) A.toList∧Gk w b (A,is[k]):=by
 subst hm;have hk':k<ps.length:=by simpa using hk
 obtain⟨sb,so,cap,hv,hs,hc⟩:=h.resolve_left (fun c=>by rw [c.1] at hk'; simp at hk');injection hv with e1 e2 e3;exact⟨sb,so,ps[k].1,e1,hs,hc k hk',by simpa using he ps[k] (List.getElem_mem hk')⟩
set_option maxHeartbeats 8000000 in
set_option maxRecDepth 100000 in
theorem Zds (p:Zl)(fv1 ev1 fv2 ev2:Value)(pf1 pf2:List (Array Value×Zn))(pe1 pe2:List (Array Value×(List Int×Int)))(b:Nat)(w:World)(g1:Ub w b p fv1 ev1 pf1 pe1)(g2:Ub w b p fv2 ev2 pf2 pe2)(hb:b≤w.heap.size):Calls Tryz.prog 12 #[.agg #[fv1,ev1],.agg #[fv2,ev2]] w fun x w'=>x=.returned (.bool true)∧Below w.heap.size w w':=by
 obtain⟨q1,c1,z1⟩:=g1.fls.shape;obtain⟨q2,c2,z2⟩:=g2.fls.shape;obtain⟨q3,c3,z3⟩:=g1.els.shape;obtain⟨q4,c4,z4⟩:=g2.els.shape;obtain⟨t1,t2⟩:=Uj g1.funcs g2.funcs;obtain⟨t3,t4⟩:=Uj g1.externs g2.externs;rw [t1] at z1;rw [t2] at z2;rw [t3] at z3;rw [t4] at z4;have hs:=g1.lens;rw [t1,t3] at hs;obtain⟨hs1,hs2⟩:=hs;obtain⟨funcs,externs⟩:=p;simp only at *;subst z1 z2 z3 z4;have n1:=La funcs.length;have hn':funcs.length<9223372036854775808:=hs1;have HQ:=Zg (fun(V:World) (hV:∀ k,k<b→V.heap[k]?=w.heap[k]?)=>Znk externs pe1 pe2 (.slice q3 externs.length c3) (.slice q4 externs.length c4) b V (g1.els.same hV) (g2.els.same hV) g1.externs g2.externs (fun q hq=>(g1.eeach q hq).same hV) (fun q hq=>(g2.eeach q hq).same hV) hs2);have HG1:=Zg g1;have HG2:=Zg g2;clear g1 g2 hs1 hs2 t1 t2 t3 t4;go_enter Tryz.func12,Tryz.ntmps12
 go_wp2_with fail
 have hbl:Below w.heap.size w ((w.alloc (.cells #[.slice q1 funcs.length c1,.slice q3 externs.length c3] 29)).alloc (.cells #[.slice q2 funcs.length c2,.slice q4 externs.length c4] 29)):=by go_grown
 have hsz:((w.alloc (.cells #[.slice q1 funcs.length c1,.slice q3 externs.length c3] 29)).alloc (.cells #[.slice q2 funcs.length c2,.slice q4 externs.length c4] 29)).heap.size=w.heap.size+2:=by simp
 have hr0:((w.alloc (.cells #[.slice q1 funcs.length c1,.slice q3 externs.length c3] 29)).alloc (.cells #[.slice q2 funcs.length c2,.slice q4 externs.length c4] 29)).heap[w.heap.size]?=some (.cells #[.slice q1 funcs.length c1,.slice q3 externs.length c3] 29 (0,0)):=heap_alloc2_old _ _ _;have hr1:((w.alloc (.cells #[.slice q1 funcs.length c1,.slice q3 externs.length c3] 29)).alloc (.cells #[.slice q2 funcs.length c2,.slice q4 externs.length c4] 29)).heap[w.heap.size+1]?=some (.cells #[.slice q2 funcs.length c2,.slice q4 externs.length c4] 29 (0,0)):=heap_alloc2_new _ _ _;generalize (w.alloc _).alloc _=W at hbl hr0 hr1 hsz ⊢;have hlow:∀ k,k<b→W.heap[k]?=w.heap[k]?:=fun k hk=>hbl.block k (by omega);refine(Zb HQ W hlow).mono ?_;rintro e w2 ⟨rfl,m0,hw0⟩;have hh:w2.heap=W.heap:=by rw [hw0]; rfl
 have hb2:Below w.heap.size w w2:=by rw [hw0]; exact Lx hbl _
 have d1:=(World.cell?_of_block (by rw [hh])).trans ((cR hr0 0));have d2:=(World.cell?_of_block (by rw [hh])).trans ((cR hr1 0));have HB2:=Zg hb2;have HS2:=Zg ((congrArg (·.size) hh).trans hsz);have HR0:=Zg ((congrArg (·[w.heap.size]?) hh).trans hr0);have HR1:=Zg ((congrArg (·[w.heap.size+1]?) hh).trans hr1);have HLOW:=Zg (fun k (hk:k<b)=>(congrArg (·[k]?) hh).trans (hlow k hk));clear hw0 hh hb2 hsz hr0 hr1 hlow hbl;go_wp2;go_loopw [24] (fun j w'=>∃(k:Nat),j=.int .i64 k∧k≤funcs.length∧Below (w.heap.size+2) w2 w') (fun j _=>funcs.length-(intOf j).toNat)
 case atStart=>exact⟨0,rfl,by omega,Below.refl _ _⟩
 case round =>
  obtain⟨m,rfl,hm,hw⟩:=hrel;have HW2:=Zg hw;clear hw d1 d2;by_cases hlm:m<funcs.length
  ·
   obtain⟨sc,oc,A,rfl,hsc,rc,ic⟩:=Zew (Zb HG1).fls (Zb HG1).funcs (Zb HG1).feach m hlm;obtain⟨sd,od,B,rfl,hsd,rd,id⟩:=Zew (Zb HG2).fls (Zb HG2).funcs (Zb HG2).feach m hlm;simp only at ic id;generalize funcs[m]=y at ic id;have HI:=Zg (fun(V:World) (hV:Below (w.heap.size+2) w2 V)=>(Zch y A B b V (ic.same (fun k hk=>(hV.block k (by omega)).trans (Zb HLOW k hk))) (id.same (fun k hk=>(hV.block k (by omega)).trans (Zb HLOW k hk))) (by have:=hV.size; have:=Zb HS2; omega)).mono (R':=fun x w'=>x=.returned (.bool true)∧Below (w.heap.size+2) w2 w') (fun x w' h=>⟨h.1,hV.trans (h.2.mono (by have:=hV.size; have:=Zb HS2; omega))⟩));obtain⟨pv1,hv1,sv1,bv1,pp1,pb1,e1,l1⟩:=ic;obtain⟨pv2,hv2,sv2,bv2,pp2,pb2,e2,l2⟩:=id;simp only at e1 e2;subst e1 e2;have lo:∀ s,s<b→wr.heap[s]?=w.heap[s]?:=fun s hs=>((Zb HW2).block s (by omega)).trans (Zb HLOW s hs);have c5:=(World.cell?_of_block ((Zb HW2).block w.heap.size (by omega))).trans ((cR (Zb HR0) 0));have c6:=(World.cell?_of_block ((Zb HW2).block (w.heap.size+1) (by omega))).trans ((cR (Zb HR1) 0));have k0:=(World.cell?_of_block (lo sc hsc)).trans (rc 0 _ rfl);have k1:=(World.cell?_of_block (lo sc hsc)).trans (rc 1 _ rfl);have k2:=(World.cell?_of_block (lo sc hsc)).trans (rc 2 _ rfl);have k3:=(World.cell?_of_block (lo sc hsc)).trans (rc 3 _ rfl);have k4:=(World.cell?_of_block (lo sc hsc)).trans (rc 4 _ rfl);have j0:=(World.cell?_of_block (lo sd hsd)).trans (rd 0 _ rfl)
   have j1:=(World.cell?_of_block (lo sd hsd)).trans (rd 1 _ rfl);have j2:=(World.cell?_of_block (lo sd hsd)).trans (rd 2 _ rfl);have j3:=(World.cell?_of_block (lo sd hsd)).trans (rd 3 _ rfl);have j4:=(World.cell?_of_block (lo sd hsd)).trans (rd 4 _ rfl);rw [Nat.add_zero] at k0 j0;clear rc rd lo hsc hsd l1 l2;go_wp2;go_region_with (go_at_call 28; refine(Zb HI _ (Below.drew (Zb HW2))).mono ?_; rintro e w5 ⟨rfl,hb5⟩; have HB5:=Zg hb5; clear hb5)
   go_wp2;all_goals exact⟨⟨m+1,by go_num,by omega,Zb HB5⟩,by simp [intOf]; omega⟩
  ·
   obtain rfl:m=funcs.length:=by omega
   go_wp2;go_ret;exact⟨rfl,(Zb HB2).trans ((Zb HW2).mono (by omega))⟩
theorem Zbp {w:World}{v:Value}{ns:List Int}(h:Li w v ns):Dm w w.heap.size v ns:=by
 obtain⟨p,cap,e,h2,h3,h4⟩:=h;rcases Nat.eq_zero_or_pos ns.length with h0 | h0
 ·
  have:ns=[]:=List.eq_nil_of_length_eq_zero h0;subst this;exact Or.inl ⟨rfl,p,cap,e⟩
 ·
  obtain⟨sb,so,e1,hc⟩:=h4 h0;subst e1;refine Or.inr ⟨sb,so,cap,e,World.block_lt_of_cell? w _ (hc 0 h0),fun i hi=>?_⟩;exact hc i hi
theorem Co {α:Type}{size:Nat}{w:World}{v:Value}{xs:List α}{A:Nat→Array Value}(h:LS size w v xs.length A):Rx size w w.heap.size v (xs.mapIdx fun k x=>(A k,x)):=by
 obtain⟨p,cap,e,h2,h3,h4⟩:=h;rcases Nat.eq_zero_or_pos xs.length with h0 | h0
 ·
  have:xs=[]:=List.eq_nil_of_length_eq_zero h0;subst this;exact Or.inl ⟨rfl,p,cap,e⟩
 ·
  obtain⟨sb,so,e1,hl,hc⟩:=h4 h0;subst e1;refine Or.inr ⟨sb,so,cap,by rw [List.length_mapIdx]; exact e,hl,fun i hi=>?_⟩;rw [List.length_mapIdx] at hi;rw [List.getElem_mapIdx];exact hc i hi
theorem Zoh {α:Type}{w:World}{v:Value}{xs:List α}{B:Nat→Value}(h:LS 1 w v xs.length (fun k=>#[B k])):VsB w w.heap.size v (xs.mapIdx fun k x=>(B k,x)):=by
 obtain⟨p,cap,e,h2,h3,h4⟩:=h;rcases Nat.eq_zero_or_pos xs.length with h0 | h0
 ·
  have:xs=[]:=List.eq_nil_of_length_eq_zero h0;subst this;exact Or.inl ⟨rfl,p,cap,e⟩
 ·
  obtain⟨sb,so,e1,hl,hc⟩:=h4 h0;subst e1;refine Or.inr ⟨sb,so,cap,by rw [List.length_mapIdx]; exact e,hl,fun i hi=>?_⟩;rw [List.length_mapIdx] at hi;rw [List.getElem_mapIdx];have:=hc i hi 0 _ rfl;simpa using this
theorem Mb {α β:Type}(xs:List α)(f:Nat→β):(xs.mapIdx fun k x=>(f k,x)).map (·.2)=xs:=List.ext_getElem (by simp) (by intro i h1 h2; simp)
theorem Oi {size:Nat}{w:World}{v:Value}{n:Nat}{A:Nat→Array Value}(h:LS size w v n A):n<Xa:=by
 obtain⟨_,_,_,_,h,_⟩:=h;exact h
theorem Zjy {w:World}{A:Array Value}{i:Zw}(h:Zbz w A i):Lu w w.heap.size (A,i):=by
 obtain⟨av,ov,e,hl,ho⟩:=h;exact⟨av,ov,_,e,Mb _ _,fun q hq=>by
  obtain⟨k,hk,rfl⟩:=List.mem_mapIdx.1 hq;simp [Yz,List.getD,hk],Co hl,Zbp ho,Oi hl,ho.lt⟩
theorem Zjz {w:World}{v:Value}{l:List Zw}(h:Dk w v l):Nj w w.heap.size (v,l):=by
 obtain⟨A,hl,he⟩:=h;exact⟨_,Mb _ _,Co hl,fun q hq=>by
  obtain⟨k,hk,rfl⟩:=List.mem_mapIdx.1 hq;exact Zjy (he k hk),by rw [List.length_mapIdx]; exact Oi hl⟩
theorem Zhe {w:World}{A:Array Value}{f:Zn}(h:Oz w A f):Gk w w.heap.size (A,f):=by
 obtain⟨pv,hv,sv,bv,B,e,h⟩:=h;exact⟨pv,hv,sv,bv,_,_,e,⟨Mb _ _,fun q hq=>by
  obtain⟨k,hk,rfl⟩:=List.mem_mapIdx.1 hq;simp [Yz,List.getD,hk],Co h.ps,Zbp h.hs,Zbp h.ss,Zoh h.bs,Mb _ _,fun q hq=>by
  obtain⟨k,hk,rfl⟩:=List.mem_mapIdx.1 hq;exact Zjz (h.each k hk),⟨by rw [List.length_mapIdx]; exact Oi h.ps,h.hs.lt,h.ss.lt,by rw [List.length_mapIdx]; exact Oi h.bs⟩⟩⟩
theorem Zdb {w:World}{fv ev:Value}{P:Zl}{A E:Nat→Array Value}(h:Lm w fv ev P A E):Ub w w.heap.size P fv ev (P.funcs.mapIdx fun k x=>(A k,x)) (P.externs.mapIdx fun k x=>(E k,x)) :=
 ⟨Co h.fs,Co h.es,Mb _ _,Mb _ _,fun q hq=>by
  obtain⟨k,hk,rfl⟩:=List.mem_mapIdx.1 hq;exact Zhe (h.feach k hk),fun q hq=>by
  obtain⟨k,hk,rfl⟩:=List.mem_mapIdx.1 hq;obtain⟨lv,e1,e2⟩:=h.eeach k hk;exact⟨lv,e1,Zbp e2,e2.lt⟩,⟨by rw [List.length_mapIdx]; exact Oi h.fs,by rw [List.length_mapIdx]; exact Oi h.es⟩⟩
theorem Zem (P:Zl)(fv1 ev1 fv2 ev2:Value)(A1 E1 A2 E2:Nat→Array Value)(w:World)(g1:Lm w fv1 ev1 P A1 E1)(g2:Lm w fv2 ev2 P A2 E2):Calls Tryz.prog 12 #[.agg #[fv1,ev1],.agg #[fv2,ev2]] w fun x w'=>x=.returned (.bool true)∧Below w.heap.size w w' :=
 Zds P fv1 ev1 fv2 ev2 _ _ _ _ w.heap.size w (Zdb g1) (Zdb g2) (Nat.le_refl _)
section
variable {P:Zl} {x:Xk} {R:List Xk} {sc:List Int} {tr:List (Int×List Int)}
theorem Zoi (hG:Yp P)(h:Lp P x) :
 match Ot P x R sc tr with
 | .inl (_,_,t)=>t=tr∨∃ e:Int×List Int,t=tr++[e]∧e.2.length≤64
 | .inr (.inl (l,_,t))=>t=tr∧l.length≤4
 | .inr (.inr (_,_,t))=>t=tr:=by
 unfold Ot;by_cases h12:(Zo x).op=12
 ·
  rw [if_pos h12]; exact Or.inl rfl
 rw [if_neg h12];by_cases h13:(Zo x).op=13
 ·
  rw [if_pos h13];obtain⟨-,-,h3,h4⟩:=Zea hG h h13;exact Or.inr ⟨_,rfl,by have:=Uv x _ h4 _ (Nat.le_refl _); rw [List.take_length] at this; simp only; omega⟩
 rw [if_neg h13];by_cases h16:(Zo x).op=16
 ·
  rw [if_pos h16];have h3:=(Zbf hG h h16).2.1;cases R with
  | nil=>exact⟨rfl,by simp [Xf]; exact h3⟩
  | cons c R=>exact Or.inl rfl
 rw [if_neg h16];by_cases h17:(Zo x).op=17
 ·
  rw [if_pos h17]; exact Or.inl rfl
 rw [if_neg h17];by_cases h18:(Zo x).op=18
 ·
  rw [if_pos h18]
 rw [if_neg h18];exact Or.inl rfl
end
def BdR (m:Nat)(r:Zy):Prop:=(Zz r).length≤m∧(∀ e ∈ Zz r,e.2.length≤64)∧(Md r).length≤4
theorem Zka {P:Zl}(hG:Yp P):∀ n (x:Xk) (R:List Xk) (sc:List Int) (tr:List (Int×List Int)),WfS P (x :: R)→(∀ n ∈ sc,0≤n∧n<18446744073709551616)→(∀ e ∈ tr,e.2.length≤64)→BdR (tr.length+n) (ev P n (x :: R) sc tr)
 | 0,x,R,sc,tr,_,_,ht=>⟨by simp [ev,Zz],by simpa [ev,Zz] using ht,by simp [ev,Md]⟩
 | n+1,x,R,sc,tr,hw,hs,ht=>by
  rw [Ou];have h1:=Zoi (R:=R) (sc:=sc) (tr:=tr) hG hw.top;have h2:=@Zjg P x R hG hw sc hs tr;cases hq:Ot P x R sc tr using Ud.el with
  | go st sc' tr' =>
   rw [hq] at h1;obtain⟨hw',hs'⟩:=h2 hq;cases st with
   | nil=>exact hw'.elim
   | cons y R' =>
    simp only at h1;rcases h1 with rfl | ⟨e,rfl,he⟩
    ·
     have:=Zka hG n y R' sc' tr' hw' hs' ht;exact⟨by have:=this.1; simp only [Ud.run]; omega,this.2⟩
    ·
     have:=Zka hG n y R' sc' (tr++[e]) hw' hs' (fun z hz=>by
      rcases List.mem_append.1 hz with hz | hz
      ·
       exact ht z hz
      ·
       rw [List.mem_singleton.1 hz]; exact he)
     exact⟨by have:=this.1; simp only [Ud.run,List.length_append,List.length_singleton] at this ⊢; omega,this.2⟩
  | done l sc' tr' =>
   rw [hq] at h1;obtain⟨e1,e2⟩:=h1;subst e1;exact⟨by simp [Ud.run,Zz],ht,e2⟩
  | trap c sc' tr' =>
   rw [hq] at h1;simp only at h1;subst h1;exact⟨by simp [Ud.run,Zz],ht,by simp [Ud.run,Md]⟩
theorem Zmg {T:Lr}{P:Zl}{f fuel:Int}{args sc:List Int}(hwd:∀ f ∈ P.funcs,∀ l ∈ f.blocks,∀ i ∈ l,0≤i.n∧i.n<18446744073709551616)(har:∀ n ∈ args,0≤n∧n<18446744073709551616)(hsr:∀ n ∈ sc,0≤n∧n<18446744073709551616):(Gp T P f args sc fuel).vals.length≤4∧(Gp T P f args sc fuel).tr.length≤20000∧∀ k,k<(Gp T P f args sc fuel).tr.length→((Gp T P f args sc fuel).tr.getD k (0,[])).2.length≤64:=by
 by_cases hc:(Um T P).e=0
 ·
  by_cases hr:Oh P f args fuel
  ·
   rw [(Zeh sc hc hr).1];have hG:=Zbl hc hwd;obtain⟨h1,h2,h3,h4,h5⟩:=hr;have hb:=Zka hG fuel.toNat (Jj (P.funcs.getD f.toNat Ze) args []) [] sc [] ⟨Cd hG ⟨f.toNat,by omega,rfl⟩ har [],rfl⟩ hsr (fun e he=>by cases he);refine⟨hb.2.2,by have:=hb.1; simp only [List.length_nil] at this; show(Zz _).length≤_; unfold Mz; omega,fun k hk=>hb.2.1 _ ?_⟩;simp only [List.getD,List.getElem?_eq_getElem hk,Option.getD_some];exact List.getElem_mem hk
  ·
   rw [(Ow sc hc hr).1];exact⟨by simp [Up],by simp [Up],fun k hk=>by simp [Up] at hk⟩
 ·
  rw [(Zbk sc hc).1];exact⟨by simp [Up],by simp [Up],fun k hk=>by simp [Up] at hk⟩
end Go.Proofs.YteddfaconabobaaGreatDoor
