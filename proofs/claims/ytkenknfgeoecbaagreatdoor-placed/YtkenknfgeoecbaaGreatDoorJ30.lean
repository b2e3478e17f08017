import Derived.Test.YtkenknfgeoecbaaGreatDoorJ29
import Derived.Test.YtkenknfgeoecbaaGreatDoorJ52
import Derived.Deep.CutBlock
import Derived.Deep.DeepCutAuto
namespace Go.Proofs.YtkenknfgeoecbaaGreatDoor
open Go.RowKit
set_option maxHeartbeats 4000000
set_option maxRecDepth 100000
theorem Dk {P:Program}{fn:Func}{p q:Tmp}{px:TypeId}(h:fn.results=#[.cell p px,.tmp q])(tmps:Array Value)(w:World)(g:Nat)(t:TypeId)(cs:Array Value)(fr:Nat×Nat)(d:TypeDesc)
 (hp:tmps.getD p undef=.pointer (some ⟨g,0,none⟩)) (hg:w.heap[g]?=some (.cells cs t fr)) (hu:P.underlying px=some d) (hd:(match d with | .struct _ | .array _ _=>true | _=>false)=true) (hi:(P.info? px).map (·.size)=some cs.size) :
 (results fn tmps).run P w=.ok (.tuple #[.agg cs,tmps.getD q undef]) w:=by
 have e1:tmps[p]?.getD undef=.pointer (some ⟨g,0,none⟩):=by simpa using hp
 simp [results,h,e1,asAddr,run_loadVar_row w g t px cs fr d hg hu hd hi]
theorem Ztj (w:World)(X0 X1 X2:Obj):(((w.alloc X0).alloc X1).alloc X2).heap[w.heap.size]?=some X0∧(((w.alloc X0).alloc X1).alloc X2).heap[w.heap.size+1]?=some X1∧(((w.alloc X0).alloc X1).alloc X2).heap[w.heap.size+1+1]?=some X2∧(((w.alloc X0).alloc X1).alloc X2).heap.size=w.heap.size+1+1+1∧Below w.heap.size w (((w.alloc X0).alloc X1).alloc X2):=by obtain⟨r0,b0,s0⟩:=al0 w X0;obtain⟨r1,b1,s1⟩:=al0 (w.alloc X0) X1;obtain⟨r2,b2,s2⟩:=al0 ((w.alloc X0).alloc X1) X2;rw [s0] at r1;rw [s1,s0] at r2;exact⟨(b2.block _ (by omega)).trans ((b1.block _ (by omega)).trans r0),(b2.block _ (by omega)).trans r1,r2,by omega,Zd (Zd b0 b1 (by omega)) b2 (by omega)⟩
def Zcd:Zce:=⟨[],[],0,0⟩
theorem Uv.no (w:World)(B:Nat):Uv w B (.slice none 0 0) (.slice none 0 0) Zcd []:=⟨rfl,World.ownsRow_nil _ _ _ _,fun k hk=>absurd hk (by simp [Zcd]),World.ownsRow_nil _ _ _ _⟩
theorem Uv.row {w:World}{B B' b:Nat}{cs:Array Value}{av rv:Value}{l:Zce}{pvs:List Value}(h:Uv w B av rv l pvs)(hb:b<B)(hB:B'≤B):Uv (w.setRow b cs) B' av rv l pvs:=by
 have k:∀{n size:Nat} {e:TypeId} {v:Value} {xs:List Value},w.ownsRow B e size v n xs→(w.setRow b cs).ownsRow B' e size v n xs:=fun{n size e v xs} h=>by
  obtain⟨h1,h2 | ⟨g,cap,cur,e1,e2,e3,e4⟩⟩:=h
  ·exact⟨h1,Or.inl h2⟩
  ·exact⟨h1,Or.inr ⟨g,cap,cur,e1,Nat.le_trans hB e2,(setRow_other _ _ _ _ (by omega)).trans e3,e4⟩⟩
 exact⟨h.len,k h.args,fun j hj=>k (h.each j hj),k h.res⟩
theorem Uv.keep {w w':World}{B:Nat}{av rv:Value}{l:Zce}{pvs:List Value}(h:Uv w B av rv l pvs)(hb:Below w.heap.size w w'):Uv w' B av rv l pvs :=
 ⟨h.len,Yd h.args (Xe (o:=none) hb) (fun g _ e=>by cases e),fun j hj=>Yd (h.each j hj) (Xe (o:=none) hb) (fun g _ e=>by cases e),Yd h.res (Xe (o:=none) hb) (fun g _ e=>by cases e)⟩
theorem Uv.same {w w':World}{B B':Nat}{av rv:Value}{l:Zce}{pvs:List Value}(h:Uv w B av rv l pvs)(hs:∀ q,B≤q→w'.heap[q]?=w.heap[q]?)(hB:B'≤B):Uv w' B' av rv l pvs:=by
 have k:∀{n size:Nat} {e:TypeId} {v:Value} {xs:List Value},w.ownsRow B e size v n xs→w'.ownsRow B' e size v n xs:=fun{n size e v xs} h=>by
  obtain⟨h1,h2 | ⟨g,cap,cur,e1,e2,e3,e4⟩⟩:=h
  ·exact⟨h1,Or.inl h2⟩
  ·exact⟨h1,Or.inr ⟨g,cap,cur,e1,Nat.le_trans hB e2,(hs g e2).trans e3,e4⟩⟩
 exact⟨h.len,k h.args,fun j hj=>k (h.each j hj),k h.res⟩
theorem Uv.shapes {w:World}{B:Nat}{av rv:Value}{l:Zce}{pvs:List Value}(h:Uv w B av rv l pvs):(∃ p n c,av=.slice p n c)∧∃ p n c,rv=.slice p n c:=by
 refine⟨?_,Im h.res⟩;rcases h.args.2 with⟨e,-⟩ | ⟨g,cap,cur,e,-⟩
 ·exact⟨_,_,_,e⟩
 ·exact⟨_,_,_,e⟩
def Ro (T:Yh):Bool:=Jn T.r T.sp T.lk T.t0 T.t1 T.ag T.rs T.ss T.al T.sh T.br
def Ut (T:Yh)(ps:List Int)(n:Int):Int:=if Ro T=false then 2 else if Nl (ps,n)=false then 6 else 0
def Nc (T:Yh)(ps:List Int)(n:Int):Zce:=if Ut T ps n=0 then Nf T.ag T.rs T.br T.pairs T.sh ps n else Zcd
def Rl (n:Int):Value:=if n=0 then .nilIface else .iface 127 (.int .i64 n)
theorem Zev {T:Yh}(h:Ro T=true):T.ag.length≤100∧T.rs.length≤100∧0≤T.sh∧T.sh≤100:=by unfold Ro Jn Ig Zea at h;simp at h;omega
theorem Zew {ps:List Int}{n:Int}(h:Nl (ps,n)=true):ps.length≤8∧0≤n∧n≤4∧Xc ps 0 8=true:=by unfold Nl Gq at h;simp only [Bool.and_eq_true,decide_eq_true_eq] at h;exact⟨h.1,h.2.1.1,h.2.1.2,h.2.2⟩
structure TbO (w:World)(T:Yh):Prop where
 a:Li w (.slice T.pa T.ag.length T.ca) T.ag
 r:Li w (.slice T.pr T.rs.length T.cr) T.rs
 s:Li w (.slice T.ps T.ss.length T.cs) T.ss
theorem TbO.below {w w':World}{T:Yh}(h:TbO w T)(hb:Below w.heap.size w w'):TbO w' T:=⟨h.a.below hb,h.r.below hb,h.s.below hb⟩
theorem Li.low {w:World}{p:Option Addr}{c:Nat}{ns:List Int}(h:Li w (.slice p ns.length c) ns):Sv w w.heap.size (.slice p ns.length c) ns:=by
 obtain⟨p',c',e,h2,h3,h4⟩:=h;injection e with e1 e2 e3;subst e1 e3;by_cases h0:0<ns.length
 ·obtain⟨sb,so,e,hc⟩:=h4 h0;exact Or.inr ⟨sb,so,c,by rw [e],by have:=World.block_lt_of_cell? w _ (hc 0 h0); simpa using this,hc⟩
 ·have hn:ns=[]:=List.length_eq_zero_iff.1 (by omega);exact Or.inl ⟨hn,p,c,by rw [hn]; rfl⟩
theorem Li.cap {w:World}{p:Option Addr}{c:Nat}{ns:List Int}(h:Li w (.slice p ns.length c) ns):∀ a n cap,Value.slice p ns.length c=.slice a n cap→n≤cap:=fun a n cap e=>by
 obtain⟨p',c',e',h2,h3,h4⟩:=h;injection e' with e1 e2 e3;injection e with f1 f2 f3;omega
theorem TbO.low {w:World}{T:Yh}(h:TbO w T):TbR w w.heap.size T:=⟨h.a.low,h.r.low,h.s.low⟩
theorem Ycf (T:Yh)(ps:List Int)(pq:Option Addr)(cq:Nat)(n:Int)(w:World)(hT:TbO w T)(hps:Li w (.slice pq ps.length cq) ps) :
 Calls Tryz.prog 42 #[.agg T.box,.agg #[.slice pq ps.length cq,.int .i64 n]] w fun e w'=>∃ av rv pvs,e=.returned (.tuple #[.agg #[av,rv,.int .i64 (Nc T ps n).size,.int .i64 (Nc T ps n).copies],Rl (Ut T ps n)])∧Uv w' w.heap.size av rv (Nc T ps n) pvs∧Below w.heap.size w w':=by
 have hx:=Ztj w (.cells T.box 25 (0,0)) (.cells #[.slice pq ps.length cq,.int .i64 n] 43 (0,0)) (.cells #[.slice none 0 0,.slice none 0 0,.int .i64 0,.int .i64 0] 47 (0,0));obtain⟨r0,r1,r2,hZ,hB⟩:=hx;have HR0:=Za r0;have HR1:=Za r1;have HR2:=Za r2;have HB:=Za hB;have HT:=Za hT;have HPS:=Za hps;clear r0 r1 r2 hB hT hps;have HBX:=Za (show T.box=Zu T.r T.sp T.lk T.t0 T.t1 (.slice T.pa T.ag.length T.ca) (.slice T.pr T.rs.length T.cr) (.slice T.ps T.ss.length T.cs) T.al T.sh T.br T.pairs from rfl);unfold Yh.box at HR0 HR1 HR2 HB hZ ⊢;go_enter Tryz.func42,Tryz.ntmps42
 go_wp2_with fail
 generalize World.alloc (World.alloc (World.alloc w _) _) _=W at HR0 HR1 HR2 HB hZ ⊢;refine(Zbw T.r T.sp T.lk T.t0 T.t1 (.slice T.pa T.ag.length T.ca) (.slice T.pr T.rs.length T.cr) (.slice T.ps T.ss.length T.cs) T.al T.sh T.br T.pairs T.ag T.rs T.ss W ((J HT).below (J HB)).a.rs ((J HT).below (J HB)).r.rs ((J HT).below (J HB)).s.rs (J HT).a.cap (J HT).r.cap (J HT).s.cap).mono ?_;rintro e w2 ⟨rfl,hb2⟩;have hs2:=hb2.size;have HB2:=Za (Zd (J HB) hb2 (by omega));have HA0:=Za ((hb2.block w.heap.size (by omega)).trans (J HR0));have HA1:=Za ((hb2.block (w.heap.size+1) (by omega)).trans (J HR1));have HA2:=Za ((hb2.block (w.heap.size+1+1) (by omega)).trans (J HR2));clear hb2 HR0 HR1 HR2;cases ht:Jn T.r T.sp T.lk T.t0 T.t1 T.ag T.rs T.ss T.al T.sh T.br with
 | false =>
  have HN:=Za (show Ut T ps n=2 by unfold Ut Ro; rw [ht]; rfl);have HL:=Za (show Nc T ps n=Zcd by unfold Nc; rw [J HN]; rfl);clear ht;unfold Zhi;go_wp2_with (refine wpList_store_row rfl 47 _ _ rfl (w.heap.size+1+1) #[.slice none 0 0,.slice none 0 0,.int .i64 0,.int .i64 0] rfl rfl 47 _ (J HA2) (Tryz.infLyK.trans rfl) rfl (by simp [Value.oneCell']) ?_)
  refine bodyPost_ret (Dk (fn:=Tryz.f42) (p:=4) (q:=5) (px:=47) rfl _ _ (w.heap.size+1+1) 47 #[.slice none 0 0,.slice none 0 0,.int .i64 0,.int .i64 0] (0,0) _ rfl (setRow_heap _ _ _ _ _ _ (J HA2)) Tryz.underlying47 rfl (Tryz.infLyK.trans rfl)) rfl ?_;refine⟨_,_,[],by rw [J HL,J HN]; rfl,?_,Zg (J HB2) (by omega)⟩;rw [J HL];exact Uv.no _ _
 | true =>
  have HTT:=Za (show Ro T=true from ht);clear ht;have x0:=(cR (J HA1) 0);have x1:=(cR (J HA1) 1);unfold Zhi;go_wp2_with fail
  clear x0 x1;refine(Ik _ ps n w2 ((J HPS).below (J HB2))).mono ?_;rintro e w3 ⟨rfl,hb3⟩;have hs3:=hb3.size;have HB3:=Za (Zd (J HB2) hb3 (by omega));have HC0:=Za ((hb3.block w.heap.size (by omega)).trans (J HA0));have HC1:=Za ((hb3.block (w.heap.size+1) (by omega)).trans (J HA1));have HC2:=Za ((hb3.block (w.heap.size+1+1) (by omega)).trans (J HA2));clear hb3 HA0 HA1 HA2;cases hg:Nl (ps,n) with
  | false =>
   have HN:=Za (show Ut T ps n=6 by unfold Ut; rw [J HTT,hg]; rfl);have HL:=Za (show Nc T ps n=Zcd by unfold Nc; rw [J HN]; rfl);clear hg;go_wp2_with (refine wpList_store_row rfl 47 _ _ rfl (w.heap.size+1+1) #[.slice none 0 0,.slice none 0 0,.int .i64 0,.int .i64 0] rfl rfl 47 _ (J HC2) (Tryz.infLyK.trans rfl) rfl (by simp [Value.oneCell']) ?_)
   refine bodyPost_ret (Dk (fn:=Tryz.f42) (p:=4) (q:=5) (px:=47) rfl _ _ (w.heap.size+1+1) 47 #[.slice none 0 0,.slice none 0 0,.int .i64 0,.int .i64 0] (0,0) _ rfl (setRow_heap _ _ _ _ _ _ (J HC2)) Tryz.underlying47 rfl (Tryz.infLyK.trans rfl)) rfl ?_;refine⟨_,_,[],by rw [J HL,J HN]; rfl,?_,Zg (J HB3) (by omega)⟩;rw [J HL];exact Uv.no _ _
  | true =>
   have HN:=Za (show Ut T ps n=0 by unfold Ut; rw [J HTT,hg]; rfl);have HL:=Za (show Nc T ps n=Nf T.ag T.rs T.br T.pairs T.sh ps n by unfold Nc; rw [J HN]; rfl);obtain⟨q1,q2,q3,q4⟩:=Zew hg;obtain⟨t1,t2,t3,t4⟩:=Zev (J HTT);have HC:=Za (Yfe T ps pq cq n w3 ((J HT).below (J HB3)).low ((J HPS).below (J HB3)) q4 q1 q2 q3 t1 t2 t3 t4);unfold Yh.box at HC;clear hg q1 q2 q3 q4 t1 t2 t3 t4;have x0:=(cR (J HC1) 0);have x1:=(cR (J HC1) 1);obtain⟨b0,b1,b2,b3,b4,b5,b6,b7,b8,b9,b10,b11⟩:=cT12 (J HC0);go_wp2_with fail
   clear x0 x1 b0 b1 b2 b3 b4 b5 b6 b7 b8 b9 b10 b11;refine(J HC).mono ?_;rintro e w4 ⟨av,rv,pvs,rfl,hlay,hb4⟩;obtain⟨⟨ap,an,ac,rfl⟩,rp,rn,rc,rfl⟩:=hlay.shapes;have HLY:=Za hlay;have HB4:=Za (Zd (J HB3) hb4 (by omega));have HD2:=Za ((hb4.block (w.heap.size+1+1) (by omega)).trans (J HC2));clear hlay hb4;generalize Nf T.ag T.rs T.br T.pairs T.sh ps n=le at HL HLY ⊢;go_wp2_with (refine wpList_store_row rfl 47 _ _ rfl (w.heap.size+1+1) #[.slice ap an ac,.slice rp rn rc,.int .i64 le.size,.int .i64 le.copies] rfl rfl 47 _ (J HD2) (Tryz.infLyK.trans rfl) rfl (by simp [Value.oneCell']) ?_)
   refine bodyPost_ret (Dk (fn:=Tryz.f42) (p:=4) (q:=5) (px:=47) rfl _ _ (w.heap.size+1+1) 47 #[.slice ap an ac,.slice rp rn rc,.int .i64 le.size,.int .i64 le.copies] (0,0) _ rfl (setRow_heap _ _ _ _ _ _ (J HD2)) Tryz.underlying47 rfl (Tryz.infLyK.trans rfl)) rfl ?_;refine⟨_,_,pvs,by rw [J HL,J HN]; rfl,?_,Zg (J HB4) (by omega)⟩;rw [J HL];exact(J HLY).row (by omega) (by omega)
structure Zgi (s:List Int×Int):Prop where
 n:Xc s.1 0 8=true
 l:s.1.length≤8
 r0:0≤s.2
 r4:s.2≤4
structure Zqs (T:Yh):Prop where
 a:T.ag.length≤100
 r:T.rs.length≤100
 s0:0≤T.sh
 s1:T.sh≤100
def Ke (T:Yh)(s:List Int×Int):Zce:=Nf T.ag T.rs T.br T.pairs T.sh s.1 s.2
def Zaw (P:Zj)(i:Yj):Option (List Int×Int) :=
 if i.op=12∨i.op=17 then some (Ll (P.funcs.getD i.f.toNat Zl)) else if i.op=13 then some (P.externs.getD i.f.toNat ([],0)) else none
def Yfq (T:Yh)(own s:List Int×Int):Bool:=decide ((Ke T s).copies=0)&&(decide ((Ke T s).size≤(Ke T own).size)&&decide (s.2≤T.rs.length))
def Zax (T:Yh)(P:Zj)(own:List Int×Int)(i:Yj):Option (List Int×Int) :=
 match Zaw P i with
 | none=>none
 | some s=>if (decide (i.op=17)&&Yfq T own s)=true then none else some s
def Kf (T:Yh)(P:Zj)(own:List Int×Int)(bs:List (List Yj))(k:Nat):List (List Int×Int):=(bs.take k).flatMap fun b=>b.filterMap (Zax T P own)
def Iz (T:Yh)(P:Zj)(own:List Int×Int)(bs:List (List Yj))(k j:Nat):List (List Int×Int):=Kf T P own bs k++((bs.getD k []).take j).filterMap (Zax T P own)
theorem Zqt (T:Yh)(P:Zj)(own:List Int×Int)(bs:List (List Yj))(k:Nat):Iz T P own bs k 0=Kf T P own bs k:=by simp [Iz]
theorem Zqu (T:Yh)(P:Zj)(own:List Int×Int)(bs:List (List Yj))(k j:Nat)(h:j<(bs.getD k []).length) :
 Iz T P own bs k (j+1)=Iz T P own bs k j++(Zax T P own ((bs.getD k []).getD j Lj)).toList:=by
 unfold Iz;rw [List.append_assoc];congr 1
 rw [List.take_add_one,List.filterMap_append];congr 1
 generalize bs.getD k []=b at h ⊢;rw [List.getElem?_eq_getElem h,show b.getD j Lj=b[j] by simp [List.getD,h]];simp only [Option.toList_some,List.filterMap_cons,List.filterMap_nil];cases Zax T P own b[j] <;> rfl
theorem Zfe (T:Yh)(P:Zj)(own:List Int×Int)(bs:List (List Yj))(k:Nat)(h:k<bs.length):Iz T P own bs k (bs.getD k []).length=Kf T P own bs (k+1):=by unfold Iz Kf;rw [List.take_length,List.take_add_one,List.flatMap_append,List.getElem?_eq_getElem h,show bs.getD k []=bs[k] by simp [List.getD,h]];simp
def lyC (vs:List (Value×Value))(ls:List Zce):List Value:=(vs.zip ls).flatMap fun x=>[x.1.1,x.1.2,.int .i64 x.2.size,.int .i64 x.2.copies]
def LyO (w:World)(B:Nat)(v:Value)(T:Yh)(ss:List (List Int×Int)):Prop:=∃ vs:List (Value×Value),vs.length=ss.length∧(∀ x ∈ vs,x.1.oneCell'=true∧x.2.oneCell'=true)∧w.ownsRow B 47 4 v ss.length (lyC vs (ss.map (Ke T)))
theorem Zcv {P:Zj}{i:Yj}(h1:¬ (i.op=12∨i.op=17))(h2:¬ i.op=13):Zaw P i=none:=by unfold Zaw; rw [if_neg h1,if_neg h2]
def Yff (id:Nat)(X:Act→World→Prop):Exit→Act→World→Prop
 | .exit n,a,w=>n=id∧X a w
 | _,_,_=>False
theorem Zhv {P:Program}{c:Code}{id:Nat}{Q0:Exit→Act→World→Prop}{a:Act}{w:World}(h:c.wp P (Yff id fun a w=>Q0 (.exit id) a w) a w):c.wp P Q0 a w:=wp_mono h (fun e a w hq=>by
 cases e with
 | exit n=>obtain⟨rfl,hx⟩:=hq; exact hx
 | normal=>exact hq.elim
 | goto l=>exact hq.elim
 | ret=>exact hq.elim
 | panic c=>exact hq.elim
 | outgrown=>exact hq.elim)
def Rx:Code→List Code
 | .loop c=>.loop c :: Rx c
 | .seq a b=>Rx a++Rx b
 | .block _ c=>Rx c
 | .scope c=>Rx c
 | .cond _ a b=>Rx a++Rx b
 | _=>[]
theorem Zxz {w:World}{B e size n:Nat}{v:Value}{xs:List Value}(h:w.ownsRow B e size v n xs):n<9223372036854775808:=by
 rcases h.2 with⟨-,e0⟩ | ⟨g,cap,cur,e,-,-,h1,h2,-⟩
 ·omega
 ·unfold maxLen at h2; omega
theorem Ry {w:World}{B e size n:Nat}{v:Value}{xs:List Value}(h:w.ownsRow B e size v n xs)(hn:0<n):∃ g c,v=.slice (some ⟨g,0,none⟩) n c∧B≤g∧g<w.heap.size∧∀ j,j<n*size→w.cell? ⟨g,j,none⟩=xs[j]?:=by
 rcases h.2 with⟨-,e0⟩ | ⟨g,cap,cur,e,h2,h3,-⟩
 ·omega
 ·subst e;exact⟨g,cap,rfl,h2,Zi h3,fun j hj=>h.cellAt j hj⟩
theorem Zr {w:World}{B e size n:Nat}{v:Value}{xs:List Value}(h:w.ownsRow B e size v n xs):∃ p c,v=.slice p n c:=by
 rcases h.2 with⟨e,e0⟩ | ⟨g,cap,cur,e,-⟩
 ·exact⟨none,0,by rw [e0]; exact e⟩
 ·exact⟨_,_,e⟩
theorem Zhx:∀(pvs:List Value) (sps:List Zfx) (k:Nat),pvs.length=sps.length→k<sps.length→(Io pvs sps)[k*3]?=some (pvs.getD k undef)∧(Io pvs sps)[k*3+1]?=some (.bool (sps.getD k Ci).ref)∧(Io pvs sps)[k*3+2]?=some (.int .i64 (sps.getD k Ci).at_)
 | [],[],_,_,hk=>absurd hk (by simp)
 | [],_ :: _,_,hl,_=>by simp at hl
 | _ :: _,[],_,hl,_=>by simp at hl
 | p :: pr,s :: sr,0,_,_=>⟨rfl,rfl,rfl⟩
 | p :: pr,s :: sr,k+1,hl,hk=>by
  have ih:=Zhx pr sr k (by simpa using hl) (by simpa using hk);have e:Io (p :: pr) (s :: sr)=[p,.bool s.ref,.int .i64 s.at_]++Io pr sr:=rfl;rw [e];refine⟨?_,?_,?_⟩
  ·rw [List.getElem?_append_right (by simp; omega),show(k+1)*3-[p,Value.bool s.ref,.int .i64 s.at_].length=k*3 by simp; omega,ih.1];simp [List.getD]
  ·rw [List.getElem?_append_right (by simp; omega),show(k+1)*3+1-[p,Value.bool s.ref,.int .i64 s.at_].length=k*3+1 by simp; omega,ih.2.1];simp [List.getD]
  ·rw [List.getElem?_append_right (by simp; omega),show(k+1)*3+2-[p,Value.bool s.ref,.int .i64 s.at_].length=k*3+2 by simp; omega,ih.2.2];simp [List.getD]
theorem Ycj {w:World}{B:Nat}{av rv:Value}{l:Zce}{pvs:List Value}(h:Uv w B av rv l pvs){k:Nat}(hk:k<l.args.length):∃ g c,av=.slice (some ⟨g,0,none⟩) l.args.length c∧B≤g∧g<w.heap.size∧w.cell? ⟨g,k*3,none⟩=some (pvs.getD k undef)∧w.cell? ⟨g,k*3+1,none⟩=some (.bool (l.args.getD k Ci).ref)∧w.cell? ⟨g,k*3+2,none⟩=some (.int .i64 (l.args.getD k Ci).at_):=by obtain⟨g,c,e,hB,hlt,hc⟩:=Ry h.args (by omega);have hs:=Zhx pvs l.args k h.len hk;exact⟨g,c,e,hB,hlt,(hc _ (by omega)).trans hs.1,(hc _ (by omega)).trans hs.2.1,(hc _ (by omega)).trans hs.2.2⟩
theorem Uu.below {w w':World}{B:Nat}{v:Value}{xs:List (Int×Int)}(h:Uu w B v xs)(hb:Below w.heap.size w w'):Uu w' B v xs:=Yd h (Xe (o:=none) hb) (fun g _ e=>by cases e)
theorem Uu.heap {w w':World}{B:Nat}{v:Value}{xs:List (Int×Int)}(h:Uu w B v xs)(e:w'.heap=w.heap):Uu w' B v xs:=by unfold Uu World.ownsRow at h ⊢;rw [e];exact h
set_option maxHeartbeats 4000000
set_option maxRecDepth 100000
theorem Mq {P:Program}{fn:Func}{p q:Tmp}{px:TypeId}(h:fn.results=#[.cell p px,.tmp q])(tmps:Array Value)(w:World)(g:Nat)(t:TypeId)(cs:Array Value)(fr:Nat×Nat)(d:TypeDesc)
 (hp:tmps.getD p undef=.pointer (some ⟨g,0,none⟩)) (hg:w.heap[g]?=some (.cells cs t fr)) (hu:P.underlying px=some d) (hd:(match d with | .struct _ | .array _ _=>true | _=>false)=true) (hi:(P.info? px).map (·.size)=some cs.size) :
 (results fn tmps).run P w=.ok (.tuple #[.agg cs,tmps.getD q undef]) w:=by
 have e1:tmps[p]?.getD undef=.pointer (some ⟨g,0,none⟩):=by simpa using hp
 simp [results,h,e1,asAddr,run_loadVar_row w g t px cs fr d hg hu hd hi]
theorem Kz (w:World)(X0 X1 X2:Obj):(((w.alloc X0).alloc X1).alloc X2).heap[w.heap.size]?=some X0∧(((w.alloc X0).alloc X1).alloc X2).heap[w.heap.size+1]?=some X1∧(((w.alloc X0).alloc X1).alloc X2).heap[w.heap.size+1+1]?=some X2∧(((w.alloc X0).alloc X1).alloc X2).heap.size=w.heap.size+1+1+1∧Below w.heap.size w (((w.alloc X0).alloc X1).alloc X2):=by obtain⟨r0,b0,s0⟩:=al0 w X0;obtain⟨r1,b1,s1⟩:=al0 (w.alloc X0) X1;obtain⟨r2,b2,s2⟩:=al0 ((w.alloc X0).alloc X1) X2;rw [s0] at r1;rw [s1,s0] at r2;exact⟨(b2.block _ (by omega)).trans ((b1.block _ (by omega)).trans r0),(b2.block _ (by omega)).trans r1,r2,by omega,Zd (Zd b0 b1 (by omega)) b2 (by omega)⟩
theorem Zui (P:Zj)(i:Yj)(fv ev av ov:Value)(A E:Nat→Array Value)(w:World)(hP:Mm w fv ev P A E)(hon:i.op=3∨i.op=16∨i.op=0)(hav:∃ p n c,av=.slice p n c)(hov:∃ p n c,ov=.slice p n c) :
 Calls Tryz.prog 153 #[.agg #[fv,ev],.agg #[.int .i64 i.op,.int .i64 i.d,.int .i64 i.a,.int .i64 i.bb,.int .u64 i.n,.int .i64 i.f,av,ov]] w fun e w'=>∃ lv,e=.returned (.tuple #[.agg #[lv,.int .i64 ((Zaw P i).getD ([],0)).2],.bool (Zaw P i).isSome])∧Li w' lv ((Zaw P i).getD ([],0)).1∧Below w.heap.size w w':=by
 obtain⟨ap,an,ac,rfl⟩:=hav;obtain⟨op',on,oc,rfl⟩:=hov;obtain⟨r0,r1,r2,hZ,hB⟩:=Kz w (.cells #[fv,ev] 62 (0,0)) (.cells #[.int .i64 i.op,.int .i64 i.d,.int .i64 i.a,.int .i64 i.bb,.int .u64 i.n,.int .i64 i.f,.slice ap an ac,.slice op' on oc] 110 (0,0)) (.cells #[.slice none 0 0,.int .i64 0] 43 (0,0));obtain⟨pf,cf,hfs,-,hlf,hcf⟩:=(hP.below hB).fs;obtain⟨pe,ce,hes,-,hle,hce⟩:=(hP.below hB).es;subst hfs hes;have hlf':P.funcs.length<9223372036854775808:=hlf;have hle':P.externs.length<9223372036854775808:=hle;have HR2:=Za r2;have HB:=Za hB;clear r0 r1 r2 hB hcf hce hP hlf hle;obtain⟨iop,id_,ia,ib,iN,iF,iargs,iouts⟩:=i;simp only at *;have HSG:=Za (show Zaw P ⟨iop,id_,ia,ib,iN,iF,iargs,iouts⟩=none from Zcv (by simp only; omega) (by simp only; omega));have z1:(iop==12)=false:=by simp; omega
 have z2:(iop==17)=false:=by simp; omega
 have z3:(iop==13)=false:=by simp; omega
 clear hon;go_enter Tryz.func153,Tryz.ntmps153
 go_wp2_with (refine wpList_store_row rfl 43 _ _ rfl (w.heap.size+1+1) #[.slice none 0 0,.int .i64 0] rfl rfl 43 _ (J HR2) (Tryz.infSigK.trans rfl) rfl (by simp [Value.oneCell']) ?_)
 refine bodyPost_ret (Mq (fn:=Tryz.f153) (p:=4) (q:=5) (px:=43) rfl _ _ (w.heap.size+1+1) 43 #[.slice none 0 0,.int .i64 0] (0,0) _ rfl (setRow_heap _ _ _ _ _ _ (J HR2)) Tryz.underlying43 rfl (Tryz.infSigK.trans rfl)) rfl ?_;exact⟨_,by rw [J HSG]; rfl,by rw [J HSG]; exact Li.nil _,Zg (J HB) (by omega)⟩
structure Yfh (T:Yh):Prop where
 a:T.ag.length*8≤140737488351232
 r:T.rs.length*8≤140737488351232
 s:T.ss.length*8≤140737488351232
section
variable {P:Program} {ops:Array Oper} {Q:Exit→Act→World→Prop} {md:Region.Mode} {C:World→Prop} {d:Nat}
def Mn (P:Program)(md:Region.Mode)(ops:Array Oper)(Q:Exit→Act→World→Prop)(C:World→Prop)(d:Nat):Nat→Array Bool→Act→World→Prop
 | 0,L,a,w=>Region.ready md ops L=[]∧Q .normal a w
 | n+1,L,a,w=>(Region.ready md ops L=[]→Q .normal a w)∧∀ i ∈ Region.ready md ops L,wpOp P ops Q i (fun a' w'=>((L.setIfInBounds i true).getD d true=false→C w')∧Mn P md ops Q C d n (L.setIfInBounds i true) a' w') a w
theorem Zhy:∀(n:Nat) (L:Array Bool) (a:Act) (w:World),Mn P md ops Q C d n L a w→wpAny P md ops Q n L a w
 | 0,_,_,_,h=>h
 | n+1,_,_,_,h=>⟨h.1,fun i hi=>wpOp_mono (fun a' w' h'=>Zhy n _ a' w' h'.2) (h.2 i hi)⟩
theorem Zkt {i:Nat}{oi od:Oper}{v:Value}(hi:ops[i]?=some oi)(hd:ops[d]?=some od)(hwait:∃ e ∈ od.after,Region.binds md e=true∧e.on=i)
 (hsel:∀(j:Nat) (o:Oper) cs b,ops[j]?=some o→o.op≠.select cs b) (hQ:∀ c a w,Q (.panic c) (a.put oi.dst v) w→Q (.panic c) a w) :
 ∀(n:Nat) (L:Array Bool) (a:Act) (w:World),(∀ j oj,ops[j]?=some oj→j≠i→L.getD j true=false→(∀ e ∈ oj.after,Region.binds md e=true→e.on≠i)→oi.apart ops oj=true) →
  i ∈ Region.ready md ops L→YieldsIf P ops C oi v a→L.getD d true=false→C w→Mn P md ops Q C d n (L.setIfInBounds i true) (a.put oi.dst v) w→Mn P md ops Q C d (n+1) L a w:=by
 intro n;induction n with
 | zero =>
  intro L a w _ hr hy _ hC H;refine⟨fun h=>(by rw [h] at hr; cases hr),fun j hj=>?_⟩;by_cases hji:j=i
  ·subst hji;exact hy.wpOp hi hC ⟨fun _=>hC,H⟩
  ·have hx:=ready_mono hj hji;rw [H.1] at hx;cases hx
 | succ n ih =>
  intro L a w hfree hr hy hLd hC H;refine⟨fun h=>(by rw [h] at hr; cases hr),fun j hj=>?_⟩;by_cases hji:j=i
  ·subst hji;exact hy.wpOp hi hC ⟨fun _=>hC,H⟩
  ·have h1:=H.2 j (ready_mono hj hji);obtain⟨hun,oj,hoj,hall⟩:=mem_ready.1 hj;have hiu:=(mem_ready.1 hr).1;have hnot:∀ e ∈ oj.after,Region.binds md e=true→e.on≠i:=fun e he hb hq=>by
    have k1:=hall e he hb;rw [hq] at k1;rcases Nat.lt_or_ge i L.size with h' | h'
    ·simp [h'] at hiu k1;rw [hiu] at k1;cases k1
    ·simp [Array.getElem?_eq_none h'] at k1
   have hjd:j≠d:=fun e=>by
    subst e;rw [hoj] at hd;injection hd with hd;subst hd;obtain⟨e,he,hb,hq⟩:=hwait;exact hnot e he hb hq
   have h2:=wpOp_putIf hoj (hfree j oj hoj hji hun hnot) (fun cs b=>hsel i oi cs b hi) (fun cs b=>hsel j oj cs b hoj) hQ hy h1;refine wpOp_mono (fun a' w' h3=>?_) h2;have hLj:(L.setIfInBounds j true).getD d true=false:=by rw [getD_set_ne true hjd]; exact hLd
   have hid:i≠d:=fun e=>by
    subst e;rw [hi] at hd;injection hd with hd;subst hd;obtain⟨e,he,hb,hq⟩:=hwait;obtain⟨-,oi',hoi',hall'⟩:=mem_ready.1 hr;rw [hi] at hoi';injection hoi' with hoi';subst hoi';have k1:=hall' e he hb;rw [hq] at k1;rcases Nat.lt_or_ge i L.size with h' | h'
    ·simp [h'] at hiu k1;rw [hiu] at k1;cases k1
    ·simp [Array.getElem?_eq_none h'] at k1
   have hC':C w':=h3.2.1 (by rw [getD_set_ne true hjd,getD_set_ne true hid]; exact hLd);refine⟨fun _=>hC',ih (L.setIfInBounds j true) a' w' (fun k ok hk hki hku hno=>?_) (ready_mono hr (Ne.symm hji)) h3.1 hLj hC' ?_⟩
   ·refine hfree k ok hk hki ?_ hno;by_cases hjk:j=k
    ·subst hjk; exact hun
    ·rw [getD_set_ne true hjk] at hku; exact hku
   ·rw [Array.setIfInBounds_comm _ _ hji];exact h3.2.2
theorem Ls {i:Nat}{oi od:Oper}{v:Value}{n:Nat}{L:Array Bool}{a:Act}{w:World}(hi:ops[i]?=some oi)(hd:ops[d]?=some od)(hw:(od.after.any fun e=>Region.binds md e&&e.on==i)=true)
 (hs:Region.noSelect ops=true) (hf:Region.free md ops L i=true) (hr:(Region.ready md ops L).contains i=true) (hLd:L.getD d true=false)
 (hQ:∀ c a w,Q (.panic c) (a.put oi.dst v) w→Q (.panic c) a w) (hy:YieldsIf P ops C oi v a) (hC:C w)
 (h:Mn P md ops Q C d n (L.setIfInBounds i true) (a.put oi.dst v) w):Mn P md ops Q C d (n+1) L a w :=
 Zkt hi hd (by
  obtain⟨k,hk,hq⟩:=Array.any_eq_true.1 hw;simp only [Bool.and_eq_true,beq_iff_eq] at hq;exact⟨_,Array.getElem_mem hk,hq.1,hq.2⟩) (Region.noSelect_spec hs) hQ n L a w (Region.free_spec hi hf) (by simpa using hr) hy hLd hC h
theorem Nd {i:Nat}{o:Oper}{n:Nat}{L:Array Bool}{a:Act}{w:World}(hr:Region.ready md ops L=[i])(ho:ops[i]?=some o)
 (h:∀ K':Act→World→Prop,_root_.Go.Shut (∀ a w,((L.setIfInBounds i true).getD d true=false→C w)→Mn P md ops Q C d n (L.setIfInBounds i true) a w→K' a w)→if Region.wanted o (yielded ops a.tmps)=true then Oper.wp P o a w K' Q else K' (a.put o.dst undef) w):Mn P md ops Q C d (n+1) L a w:=by
 refine⟨fun h0=>(by rw [hr] at h0; cases h0),fun j hj=>?_⟩;rw [hr] at hj;obtain rfl:j=i:=by simpa using hj
 exact wpOp_step ho (fun K' hK=>h K' (fun a w h1 h2=>hK a w ⟨h1,h2⟩))
theorem Xw {L:Array Bool}{a:Act}{w:World}(hr:Region.ready md ops L=[])(h:Q .normal a w):∀ n,Mn P md ops Q C d n L a w
 | 0=>⟨hr,h⟩
 | _+1=>⟨fun _=>h,by rw [hr]; simp⟩
theorem Yx {id:Nat}{a:Act}{w:World}(hm:P.follows .mixedOrders=true)(h:Mn P .any ops Q C d ops.size (Array.replicate ops.size false) a w.drew):(Code.region id ops true).wp P Q a w :=
 wp_region_any hm (Zhy _ _ _ _ h)
end
section
variable {P:Program} {ops:Array Oper} {Q:Exit→Act→World→Prop} {md:Region.Mode} {C:World→Prop} {d:Nat}
theorem Zli {i:Nat}{oi:Oper}{v:Value}(hi:ops[i]?=some oi)(B:Nat→Bool)(hB:∀ j oj,ops[j]?=some oj→B j=true→∃ e ∈ oj.after,Region.binds md e=true∧(e.on=i∨B e.on=true))(hBi:B i=false)(hBd:B d=true)
 (hsel:∀(j:Nat) (o:Oper) cs b,ops[j]?=some o→o.op≠.select cs b) (hQ:∀ c a w,Q (.panic c) (a.put oi.dst v) w→Q (.panic c) a w) :
 ∀(n:Nat) (L:Array Bool) (a:Act) (w:World),(∀ j oj,ops[j]?=some oj→j≠i→L.getD j true=false→(∀ e ∈ oj.after,Region.binds md e=true→e.on≠i)→oi.apart ops oj=true) →
  i ∈ Region.ready md ops L→YieldsIf P ops C oi v a→(∀ j,B j=true→L.getD j true=false)→C w→Mn P md ops Q C d n (L.setIfInBounds i true) (a.put oi.dst v) w→Mn P md ops Q C d (n+1) L a w:=by
 intro n;have hid:i≠d:=fun e=>by rw [e,hBd] at hBi; cases hBi
 induction n with
 | zero =>
  intro L a w _ hr hy _ hC H;refine⟨fun h=>(by rw [h] at hr; cases hr),fun j hj=>?_⟩;by_cases hji:j=i
  ·subst hji;exact hy.wpOp hi hC ⟨fun _=>hC,H⟩
  ·have hx:=ready_mono hj hji;rw [H.1] at hx;cases hx
 | succ n ih =>
  intro L a w hfree hr hy hL hC H;refine⟨fun h=>(by rw [h] at hr; cases hr),fun j hj=>?_⟩;by_cases hji:j=i
  ·subst hji;exact hy.wpOp hi hC ⟨fun _=>hC,H⟩
  ·have h1:=H.2 j (ready_mono hj hji);obtain⟨hun,oj,hoj,hall⟩:=mem_ready.1 hj;have hiu:=(mem_ready.1 hr).1;have hno:∀ e ∈ oj.after,Region.binds md e=true→∀ x,L.getD x true=false→e.on≠x:=fun e he hb x hx hq=>by
    have k1:=hall e he hb;rw [hq] at k1;rcases Nat.lt_or_ge x L.size with h' | h'
    ·simp [h'] at hx k1;rw [hx] at k1;cases k1
    ·simp [Array.getElem?_eq_none h'] at k1
   have hnot:∀ e ∈ oj.after,Region.binds md e=true→e.on≠i:=fun e he hb=>hno e he hb i hiu;have hjB:B j=false:=by
    cases hb:B j with
    | false=>rfl
    | true =>
     obtain⟨e,he,hb1,hq⟩:=hB j oj hoj hb;rcases hq with hq | hq
     ·exact absurd hq (hnot e he hb1)
     ·exact absurd rfl (hno e he hb1 e.on (hL _ hq))
   have hjd:j≠d:=fun e=>by rw [e,hBd] at hjB; cases hjB
   have h2:=wpOp_putIf hoj (hfree j oj hoj hji hun hnot) (fun cs b=>hsel i oi cs b hi) (fun cs b=>hsel j oj cs b hoj) hQ hy h1;refine wpOp_mono (fun a' w' h3=>?_) h2;have hLj:∀ k,B k=true→(L.setIfInBounds j true).getD k true=false:=fun k hk=>by
    have hjk:j≠k:=fun e=>by rw [e,hk] at hjB; cases hjB
    rw [getD_set_ne true hjk]; exact hL k hk
   have hC':C w':=h3.2.1 (by rw [getD_set_ne true hjd,getD_set_ne true hid]; exact hL d hBd);refine⟨fun _=>hC',ih (L.setIfInBounds j true) a' w' (fun k ok hk hki hku hno=>?_) (ready_mono hr (Ne.symm hji)) h3.1 hLj hC' ?_⟩
   ·refine hfree k ok hk hki ?_ hno;by_cases hjk:j=k
    ·subst hjk; exact hun
    ·rw [getD_set_ne true hjk] at hku; exact hku
   ·rw [Array.setIfInBounds_comm _ _ hji];exact h3.2.2
def upV (md:Region.Mode)(ops:Array Oper)(i:Nat):List Nat:=(List.range ops.size).foldl (fun acc j=>match ops[j]? with
 | some oj=>if (oj.after.any fun e=>Region.binds md e&&(e.on==i||acc.contains e.on))=true then acc++[j] else acc
 | none=>acc) []
def okV (md:Region.Mode)(ops:Array Oper)(L:Array Bool)(d i:Nat)(B:List Nat):Bool :=
 B.contains d&&(!(B.contains i)&&B.all fun j=>!(L.getD j true)&&(match ops[j]? with
  | some oj=>oj.after.any fun e=>Region.binds md e&&(e.on==i||B.contains e.on)
  | none=>false))
theorem vT (i:Nat){oi:Oper}{v:Value}{n:Nat}{L:Array Bool}{a a':Act}{w:World}(hC:C w)(h:Mn P md ops Q C d n (L.setIfInBounds i true) a' w)(hi:ops[i]?=some oi:=by rfl)
 (hk:(okV md ops L d i (upV md ops i)&&(Region.noSelect ops&&(Region.free md ops L i&&(Region.ready md ops L).contains i)))=true:=by kernel_rfl) (hg:Region.wanted oi (yielded ops a.tmps)=true:=by rfl)
 (hy:∀(w:World),C w→Sem.run P (execOp a.eval oi) w=Result.ok (Next.value v) w:=by intro V hV; (try dsimp only at hV); go_simp; all_goals (with_reducible rfl)) (hQ:∀ c a w,Q (.panic c) (a.put oi.dst v) w→Q (.panic c) a w:=by exact fun _ _ _ h=>h) (ha:a.put oi.dst v=a':=by(try simp only [Act.put,zA,zB,zC,zD,zE,zF]); with_reducible rfl):Mn P md ops Q C d (n+1) L a w:=by
 subst ha;simp only [Bool.and_eq_true] at hk;obtain⟨h1,h2,h3,h4⟩:=hk;unfold okV at h1;simp only [Bool.and_eq_true] at h1;obtain⟨b1,b2,b3⟩:=h1;have b2:(upV md ops i).contains i=false:=by simpa using b2
 rw [List.all_eq_true] at b3;refine Zli hi (fun j=>(upV md ops i).contains j) (fun j oj hoj hj=>?_) b2 b1 (Region.noSelect_spec h2) hQ n L a w (Region.free_spec hi h3) (by simpa using h4) (Or.inl ⟨hg,hy⟩) (fun j hj=>?_) hC h
 ·have h5:=b3 j (by simpa using hj);rw [hoj] at h5;simp only [Bool.and_eq_true] at h5;obtain⟨k,hk,hq⟩:=Array.any_eq_true.1 h5.2;simp only [Bool.and_eq_true,Bool.or_eq_true,beq_iff_eq] at hq;exact⟨_,Array.getElem_mem hk,hq.1,hq.2⟩
 ·have h5:=b3 j (by simpa using hj);simp only [Bool.and_eq_true] at h5;simpa using h5.1
theorem vD (i:Nat){oi:Oper}{v:Value}{n:Nat}{L:Array Bool}{a a':Act}{w:World}(hC:C w)(h:Mn P md ops Q C d n (L.setIfInBounds i true) a' w)(hi:ops[i]?=some oi:=by rfl)
 (hk:(okV md ops L d i (upV md ops i)&&(Region.noSelect ops&&(Region.free md ops L i&&(Region.ready md ops L).contains i)))=true:=by kernel_rfl) (hg:Region.wanted oi (yielded ops a.tmps)=true:=by rfl)
 (hy:∀(w:World),C w→Sem.run P (execOp a.eval oi) w=Result.ok (Next.value v) w:=by intro V hV; (repeat obtain⟨_,hV⟩:=hV); go_simp; all_goals (with_reducible rfl)) (hQ:∀ c a w,Q (.panic c) (a.put oi.dst v) w→Q (.panic c) a w:=by exact fun _ _ _ h=>h) (ha:a.put oi.dst v=a':=by(try simp only [Act.put,zA,zB,zC,zD,zE,zF]); with_reducible rfl):Mn P md ops Q C d (n+1) L a w :=
 vT i hC h hi hk hg hy hQ ha
theorem vO (i:Nat){oi:Oper}{n:Nat}{L:Array Bool}{a:Act}{w:World}(h:∀ K':Act→World→Prop,_root_.Go.Shut (∀ a w,((L.setIfInBounds i true).getD d true=false→C w)→Mn P md ops Q C d n (L.setIfInBounds i true) a w→K' a w)→if Region.wanted oi (yielded ops a.tmps)=true then Oper.wp P oi a w K' Q else K' (a.put oi.dst undef) w)(hr:Region.ready md ops L=[i]:=by kernel_rfl)(ho:ops[i]?=some oi:=by rfl):Mn P md ops Q C d (n+1) L a w:=Nd hr ho h
theorem tE (i:Nat){W:World}{oi:Oper}{v:Value}{n:Nat}{L:Array Bool}{a a':Act}{j:Nat}(h:wpAnyH P md ops Q (fun V=>∃ k,V=W.drewN k) n (L.setIfInBounds i true) a' (W.drewN j))(h0:ops[i]?=some oi:=by rfl)(h1:(Region.noSelect ops&&(Region.free md ops L i&&(Region.ready md ops L).contains i))=true:=by kernel_rfl)(hg:Region.wanted oi (yielded ops a.tmps)=true:=by rfl)
 (hy:∀ k,Sem.run P (execOp a.eval oi) (W.drewN k)=Result.ok (Next.value v) (W.drewN k):=by intro k; go_simp; all_goals (with_reducible rfl)) (hq:∀(c:List PanicEntry) (a:Act) (w:World),Q (Exit.panic c) (a.put oi.dst v) w→Q (Exit.panic c) a w:=by exact fun _ _ _ h=>h) (ha:a.put oi.dst v=a':=by(try simp only [Act.put,zA,zB,zC,zD,zE,zF]); with_reducible rfl):wpAnyH P md ops Q (fun V=>∃ k,V=W.drewN k) (n+1) L a (W.drewN j):=by
 subst ha;simp only [Bool.and_eq_true] at h1;exact wpAnyH_take h0 h1.1 h1.2.1 h1.2.2 hq (Or.inl ⟨hg,fun V hV=>by obtain⟨k,rfl⟩:=hV; exact hy k⟩) ⟨j,rfl⟩ h
end
end Go.Proofs.YtkenknfgeoecbaaGreatDoor
