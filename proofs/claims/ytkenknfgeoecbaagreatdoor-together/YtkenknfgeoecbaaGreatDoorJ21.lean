import Derived.Test.YtkenknfgeoecbaaGreatDoorCkQ
import Derived.Test.YtkenknfgeoecbaaGreatDoorJ17
import Derived.Test.YtkenknfgeoecbaaGreatDoorJ13
namespace Go.Proofs.YtkenknfgeoecbaaGreatDoor
open Go.RowKit
set_option maxHeartbeats 2000000
set_option maxRecDepth 100000
theorem Ybp (r sp lk t0 t1:Int)(va vr vs:Value)(al sh by_:Int)(pr:Bool)(ag rs ss:List Int)(p:Zj)(fv ev:Value)(A E:Nat->Array Value)(w:World)(hT:Zkz w va vr vs ag rs ss)(hP:Mk w fv ev p A E)(hnn:Zpu p)(hN:Zo w)(h1w:2<w.heap.size) :
 Calls Tryz.prog 36 #[.agg (Zt r sp lk t0 t1 va vr vs al sh by_ pr),.agg #[fv,ev]] w fun e w'=>∃ v,e=.returned v∧Gy w' v (Od (Jj r sp lk t0 t1 ag rs ss al sh by_) r (Yn sp lk t0 t1) p)∧Below w.heap.size w w':=by
 have hx:=al0 w (.cells (Zt r sp lk t0 t1 va vr vs al sh by_ pr) 25 (0,0));generalize hW1:World.alloc w (.cells (Zt r sp lk t0 t1 va vr vs al sh by_ pr) 25 (0,0))=W1 at hx;have hx2:=al0 W1 (.cells #[fv,ev] 62 (0,0));have hs1:=hx.2.2;have hs2:=hx2.2.2;have hb12:=Zd hx.2.1 hx2.2.1 (by omega);have HCK:=Za (Zbl r sp lk t0 t1 va vr vs al sh by_ pr ag rs ss p fv ev A E _ (hT.below hb12) (hP.below hb12) hnn (hN.keep hb12) (by omega));have HW:=Za hb12;have HSZ:=Za (show w.heap.size<=(W1.alloc (.cells #[fv,ev] 62 (0,0))).heap.size by omega);obtain⟨pf,cf,rfl⟩:=hP.fs.shape;obtain⟨pe,ce,rfl⟩:=hP.es.shape;obtain⟨pva,cva,rfl⟩:=hT.a.shape;obtain⟨pvr,cvr,rfl⟩:=hT.r.shape;obtain⟨pvs,cvs,rfl⟩:=hT.s.shape;clear hx hx2 hs1 hs2 hb12 hT hP hnn hN h1w;subst hW1;unfold Zt at HCK HW HSZ ⊢;go_enter Tryz.func36,Tryz.ntmps36
 go_wp2_with fail
 generalize World.alloc (World.alloc w _) _=W at HCK HW HSZ ⊢;refine(J HCK).mono ?_;rintro e w2 ⟨v,rfl,he,hb⟩;have HE:=Za he;have HB:=Za (Zd (J HW) hb (J HSZ));clear he hb;go_wp2;go_ret;exact⟨_,rfl,J HE,J HB⟩
theorem Zbm {w:World}{v:Value}{x:Zbk}(hE:Zz w)(h:Gy w v x):Calls Tryz.prog 26 #[v] w fun e w'=>e=.returned (Dt x.e x.f x.b x.a)∧Below w.heap.size w w':=by
 rcases h with⟨rfl,rfl⟩ | ⟨n,-,rfl,rfl⟩ | ⟨q,-,rfl,hb⟩
 ·exact Ln w
 ·exact Lo n w hE
 ·exact Ia _ _ _ _ q w hE hb
theorem Zz.keep {w w':World}(h:Zz w)(hb:Below w.heap.size w w'):Zz w':=(hb.cell (World.block_lt_of_cell? w _ h)).trans h
theorem Gy.shape {w:World}{v:Value}{x:Zbk}(h:Gy w v x):v=.nilIface∨∃ t u,v=.iface t u:=by
 rcases h with⟨rfl,rfl⟩ | ⟨n,-,rfl,rfl⟩ | ⟨q,-,rfl,hb⟩
 ·exact Or.inl rfl
 ·exact Or.inr ⟨_,_,rfl⟩
 ·exact Or.inr ⟨_,_,rfl⟩
theorem Tryz.infFltK:(Tryz.prog.info? 29).map (·.size)=some 4:=by kernel_rfl
theorem Zxb (r sp lk t0 t1:Int)(va vr vs:Value)(al sh by_:Int)(pr:Bool)(ag rs ss:List Int)(p:Zj)(fv ev:Value)(A E:Nat->Array Value)(w:World)(hT:Zkz w va vr vs ag rs ss)(hP:Mk w fv ev p A E)(hnn:Zpu p)(hN:Zo w)(h1w:2<w.heap.size)(hE:Zz w) :
 Calls Tryz.prog 23 #[.agg (Zt r sp lk t0 t1 va vr vs al sh by_ pr),.agg #[fv,ev]] w fun e w'=>e=.returned (Dt (Od (Jj r sp lk t0 t1 ag rs ss al sh by_) r (Yn sp lk t0 t1) p).e (Od (Jj r sp lk t0 t1 ag rs ss al sh by_) r (Yn sp lk t0 t1) p).f (Od (Jj r sp lk t0 t1 ag rs ss al sh by_) r (Yn sp lk t0 t1) p).b (Od (Jj r sp lk t0 t1 ag rs ss al sh by_) r (Yn sp lk t0 t1) p).a)∧Below w.heap.size w w':=by
 have hx:=al0 w (.cells (Zt r sp lk t0 t1 va vr vs al sh by_ pr) 25 (0,0));generalize hW1:World.alloc w (.cells (Zt r sp lk t0 t1 va vr vs al sh by_ pr) 25 (0,0))=W1 at hx;have hx2:=al0 W1 (.cells #[fv,ev] 62 (0,0));generalize hW2:World.alloc W1 (.cells #[fv,ev] 62 (0,0))=W2 at hx2;have hx3:=al0 W2 (.cells #[.int .i64 0,.int .i64 0,.int .i64 0,.int .i64 0] 29 (0,0));have hs1:=hx.2.2;have hs2:=hx2.2.2;have hs3:=hx3.2.2;have hb12:=Zd (Zd hx.2.1 hx2.2.1 (by omega)) hx3.2.1 (by omega);have HCK:=Za (Ybp r sp lk t0 t1 va vr vs al sh by_ pr ag rs ss p fv ev A E _ (hT.below hb12) (hP.below hb12) hnn (hN.keep hb12) (by omega));have HW:=Za hb12;have HE:=Za (hE.keep hb12);have hr3:=hx3.1;rw [hs2,hs1] at hr3 hs3;have HR:=Za hr3;have HSZ:=Za hs3;obtain⟨pf,cf,rfl⟩:=hP.fs.shape;obtain⟨pe,ce,rfl⟩:=hP.es.shape;obtain⟨pva,cva,rfl⟩:=hT.a.shape;obtain⟨pvr,cvr,rfl⟩:=hT.r.shape;obtain⟨pvs,cvs,rfl⟩:=hT.s.shape;clear hx hx2 hx3 hs1 hs2 hs3 hr3 hb12 hT hP hnn hN h1w hE;subst hW1 hW2;unfold Zt at HCK HW HSZ HE HR ⊢;generalize (Od (Jj r sp lk t0 t1 ag rs ss al sh by_) r (Yn sp lk t0 t1) p)=x at HCK ⊢;obtain⟨xe,xf,xb,xa⟩:=x;go_enter Tryz.func23,Tryz.ntmps23
 go_wp2_with fail
 generalize World.alloc (World.alloc (World.alloc w _) _) _=W at HCK HW HSZ HE HR ⊢;refine(J HCK).mono ?_;rintro e w2 ⟨v,rfl,he,hb⟩;have HER:=Za (Zbm ((J HE).keep hb) he);have hz:=J HSZ;have HB:=Za (Zd (J HW) hb (by omega));have HR2:=Za ((hb.block (w.heap.size+1+1) (by omega)).trans (J HR));have hb2z:=hb.size;have HZ2:=Za (show w.heap.size+1+1<w2.heap.size by omega);clear he hb hz hb2z;go_wp2_with fail
 refine(J HER).mono ?_;rintro e w3 ⟨rfl,hb3⟩;have HB3:=Za (Zd (J HB) hb3 (J HB).size);have HR3:=Za ((hb3.block (w.heap.size+1+1) (J HZ2)).trans (J HR2));clear hb3;unfold Dt;go_wp2_with (refine wpList_store_row rfl 29 (.tmp 4) (.tmp 8) rfl (w.heap.size+1+1) #[.int .i64 xe,.int .i64 xf,.int .i64 xb,.int .i64 xa] rfl rfl 29 _ (J HR3) (Tryz.infFltK.trans rfl) rfl (by simp [Value.oneCell']) ?_)
 refine bodyPost_ret (Jo (fn:=Tryz.f23) (q:=4) (uy:=29) rfl _ _ (w.heap.size+1+1) 29 #[.int .i64 xe,.int .i64 xf,.int .i64 xb,.int .i64 xa] (0,0) _ rfl (setRow_heap _ _ _ _ _ _ (J HR3)) Tryz.underlying29 rfl (Tryz.infFltK.trans rfl)) rfl ?_;exact⟨rfl,Zg (J HB3) (by omega)⟩
end Go.Proofs.YtkenknfgeoecbaaGreatDoor
namespace Go.Proofs.YtkenknfgeoecbaaGreatDoor
open Go.ChangeShapes Go.WideShapes Go.ChangeAt Go.RowKit Go.Deep
theorem Rm {H:Type}{P:Program}{e:TypeId}{d:DataW H}{x:Nat}:∀{l:List (DataW H)},d ∈ l->x ∈ d.weights P e->x ∈ DataW.weightsAll P e l
 | a :: r,hd,hx=>by
  rw [DataW.weightsAll];rcases List.mem_cons.1 hd with rfl | h
  ·exact List.mem_append.2 (Or.inl hx)
  ·exact List.mem_append.2 (Or.inr (Rm h hx))
theorem LS.congr {size:Nat}{w:World}{v:Value}{n:Nat}{A B:Nat->Array Value}(h:LS size w v n A)(e:∀ i,i<n->A i=B i):LS size w v n B:=by obtain⟨p,cap,h1,h2,h3,h4⟩:=h;refine⟨p,cap,h1,h2,h3,fun h0=>?_⟩;obtain⟨sb,so,e1,hl,hc⟩:=h4 h0;exact⟨sb,so,e1,hl,fun i hi=>by rw [← e i hi]; exact hc i hi⟩
section
variable {H:Type} {enc:TypeId×Value->H} {w:World} {held:Bool}
abbrev Zla (t:TypeId)(d:DataW H):Prop:=∀ x ∈ d.weights Tryz.prog t,x<=reachBytes
theorem Zbn {t e:TypeId}{α:Type}[Inhabited α]{size b:Nat}{One:Array Value×α->Prop}(ht:Tryz.prog.underlying t=some (.slice e))(hc:Tryz.prog.cellsOf e=size)(hs:0<size)(hby:Tryz.prog.bytesOf e=b)
 (elem:∀ n cs y,cs.length=size->TrE enc w held n e cs y->Zla e y.1->∃ x:α,One (cs.toArray,x))
 {n:Nat} {v:Value} {y:DataW H×List MemPlace} (h:TrE enc w held n t [v] y) (hw:Zla t y.1) :
 ∃ ps:List (Array Value×α),LS size w v ps.length (fun k=>(ps.getD k (#[],default)).1)∧(∀ q ∈ ps,One q)∧ps.length*b<=reachBytes:=by
 rcases open_slice ht h with⟨h0,h1⟩ | ⟨a,len,cap,m,k,D,Pl,h0,-,hl,hm,hmm,h1,hx⟩
 ·simp at h0;subst h0 h1;exact⟨[],⟨none,0,rfl,Nat.le_refl _,by show 0<Jw; decide,fun h=>absurd h (Nat.lt_irrefl 0)⟩,fun q hq=>(by cases hq),(by simp)⟩
 ·simp at h0;subst h0 h1;simp at hmm;subst hmm;unfold Zla at hw;simp only [DataW.weights,ht,List.length_map,List.length_range,hby] at hw;have hb0:=hw _ List.mem_cons_self;have each:∀ i,i<len->∃ q:Array Value×α,One q∧w.cells? 0 (a.add (i*size)) size=some q.1.toList:=by intro i hi;obtain⟨cs',g1,g2⟩:=hx i (by omega);rw [hc] at g1;obtain⟨-,hlen,-⟩:=World.cells?_some g1;obtain⟨x,g3⟩:=elem k cs' _ hlen g2 (fun z hz=>hw z (List.mem_cons.2 (Or.inr (List.mem_append.2 (Or.inl (Rm (List.mem_map.2 ⟨i,List.mem_range.2 hi,rfl⟩) hz))))));exact⟨(cs'.toArray,x),g3,by simpa using g1⟩
  haveI:Inhabited (Array Value×α):=⟨(#[],default)⟩
  obtain⟨f,hf⟩:=choose_lt each;have hlenp:((List.range len).map f).length=len:=by simp
  refine⟨(List.range len).map f,?_,?_,?_⟩
  ·rw [hlenp];refine⟨_,_,rfl,hl,Zfu (by omega),fun hpos=>?_⟩;obtain⟨sb,so,spot⟩:=a;have g:=World.cells?_some (hf 0 hpos).2;have hcell:=g.2.2 0 hs;have hlt:0<(f 0).1.toList.length:=by rw [g.2.1]; exact hs
   have hsp:spot=none:=by rw [List.getElem?_eq_getElem hlt] at hcell;simpa [Addr.add] using World.cell?_spot hcell
   subst hsp;have hbk:sb<w.heap.size:=by rw [List.getElem?_eq_getElem hlt] at hcell;have:=World.block_lt_of_cell? w _ hcell;simpa [Addr.add] using this
   refine⟨sb,so,rfl,hbk,fun i hi=>?_⟩;have g:=World.cells?_some (hf i hi).2;have e1:(((List.range len).map f).getD i (#[],default)).1=(f i).1:=by simp [List.getD,hi]
   show w.rangeAt sb (so+i*size) (((List.range len).map f).getD i (#[],default)).1.toList;rw [e1];intro j x hx';have hj:j<size:=by have:=(List.getElem?_eq_some_iff.1 hx').1;rw [g.2.1] at this;exact this
   have:=g.2.2 j hj;rw [hx'] at this;rw [Go.WideShapes.add_plain,Go.WideShapes.add_plain] at this;exact this
  ·intro q hq;obtain⟨i,hi,rfl⟩:=List.mem_map.1 hq;exact(hf i (List.mem_range.1 hi)).1
  ·rw [hlenp];exact Nat.le_trans (Nat.mul_le_mul_right _ (Nat.le_add_right _ _)) hb0
theorem Zef {α β:Type}(ps:List (α×β))(a:α)(b:β)(k:Nat):(ps.map (·.2)).getD k b=(ps.getD k (a,b)).2:=by simp only [List.getD,List.getElem?_map];cases ps[k]? <;> rfl
theorem Zeg {α:Type}(ps:List α)(d:α)(k:Nat)(h:k<ps.length):ps.getD k d ∈ ps:=by simp [List.getD,h]
end
end Go.Proofs.YtkenknfgeoecbaaGreatDoor
namespace Go.Proofs.YtkenknfgeoecbaaGreatDoor
open Go.RowKit
structure Yh where
 r:Int
 sp:Int
 lk:Int
 t0:Int
 t1:Int
 pa:Option Addr
 ag:List Int
 ca:Nat
 pr:Option Addr
 rs:List Int
 cr:Nat
 ps:Option Addr
 ss:List Int
 cs:Nat
 al:Int
 sh:Int
 br:Int
 pairs:Bool
def Yh.box (T:Yh):Array Value:=#[.int .i64 T.r,.int .i64 T.sp,.int .i64 T.lk,.int .i64 T.t0,.int .i64 T.t1,.slice T.pa T.ag.length T.ca,.slice T.pr T.rs.length T.cr,.slice T.ps T.ss.length T.cs,.int .i64 T.al,.int .i64 T.sh,.int .i64 T.br,.bool T.pairs]
structure TbR (w:World)(b:Nat)(T:Yh):Prop where
 a:Sk w b (.slice T.pa T.ag.length T.ca) T.ag
 r:Sk w b (.slice T.pr T.rs.length T.cr) T.rs
 s:Sk w b (.slice T.ps T.ss.length T.cs) T.ss
theorem Sk.at {w:World}{b:Nat}{p:Option Addr}{c:Nat}{ns:List Int}(h:Sk w b (.slice p ns.length c) ns){k:Nat}(hk:k<ns.length):∃ sb so,p=some ⟨sb,so,none⟩∧sb<b∧∀ i,i<ns.length->w.cell? ⟨sb,so+i,none⟩=some (.int .i64 (ns.getD i 0)):=by
 rcases h with⟨e,-⟩ | ⟨sb,so,cap,hv,hb,hc⟩
 ·rw [e] at hk; simp at hk
 ·injection hv with h1 h2 h3;exact⟨sb,so,h1,hb,hc⟩
theorem TbR.gb {w w':World}{b:Nat}{T:Yh}(h:TbR w b T)(hw:w.grownBy w' (some b))(hb:b<w.heap.size):TbR w' b T:=⟨h.a.gb hw hb,h.r.gb hw hb,h.s.gb hw hb⟩
def Zic (T:Yh)(s:Jq):Array Value:=#[.int .i64 T.r,.int .i64 T.sp,.int .i64 T.lk,.int .i64 T.t0,.int .i64 T.t1,.slice T.pa T.ag.length T.ca,.slice T.pr T.rs.length T.cr,.slice T.ps T.ss.length T.cs,.int .i64 T.al,.int .i64 T.sh,.int .i64 T.br,.bool T.pairs,.int .i64 s.u,.int .i64 s.c,.int .i64 s.p]
def Yo (w:World)(G:Nat)(T:Yh)(s:Jq):Prop:=w.heap[G]?=some (.cells (Zic T s) 231 (0,0))
def Ki (w:World)(B:Nat)(v:Value)(xs:List (Int×Int)):Prop:=w.ownsRow B 34 2 v xs.length (plC xs)
def Zsp:Zia:=⟨[],false,0⟩
def Zid (pvs:List Value)(sps:List Zia):List Value:=(pvs.zip sps).flatMap fun x=>[x.1,.bool x.2.ref,.int .i64 x.2.at_]
structure Dj (w:World)(B:Nat)(av rv:Value)(l:Zdm)(pvs:List Value):Prop where
 len:pvs.length=l.args.length
 args:w.ownsRow B 52 3 av l.args.length (Zid pvs l.args)
 each:∀ k,k<l.args.length->Ki w B (pvs.getD k undef) (l.args.getD k Zsp).pl
 res:Ki w B rv l.res
theorem Zpx (pvs:List Value)(sps:List Zia)(pv:Value)(sp:Zia)(h:pvs.length=sps.length):Zid (pvs++[pv]) (sps++[sp])=Zid pvs sps++[pv,.bool sp.ref,.int .i64 sp.at_]:=by unfold Zid;rw [List.zip_append h];simp
theorem Xh {w w':World}{B n size:Nat}{e:TypeId}{v:Value}{xs:List Value}{o:Option Nat}(h:w.ownsRow B e size v n xs)(hg:w.grownBy w' o)(hne:∀ g,v.ownBlock=some g->o≠some g):w'.ownsRow B e size v n xs :=
 h.kept hg (by
  cases hv:v.ownBlock with
  | none=>exact Or.inl rfl
  | some g=>exact Or.inr (fun e=>hne g hv e.symm))
theorem Ud {w u:World}{b j:Nat}{v:Value}(h:w.grownBy u (some b)):w.grownBy (u.setCell ⟨b,j,none⟩ v) (some b) :=
 ⟨h.os,h.tape,h.output,by simpa using h.size,fun q hq hne=>(heap_setCell_other _ _ _ _ (by intro e; exact hne (by rw [e]))).trans (h.block q hq hne)⟩
theorem Zxm {w u:World}{b:Nat}(X:Obj)(h:w.grownBy u (some b)):w.grownBy (u.alloc X) (some b) :=
 ⟨h.os,h.tape,h.output,by have:=h.size; simp; omega,fun q hq hne=>((al0 u X).2.1.block q (Nat.lt_of_lt_of_le hq h.size)).trans (h.block q hq hne)⟩
theorem Of (w:World)(o:Option Nat):w.grownBy w o:=⟨rfl,rfl,rfl,Nat.le_refl _,fun _ _ _=>rfl⟩
theorem Yo.lt {w:World}{G:Nat}{T:Yh}{s:Jq}(h:Yo w G T s):G<w.heap.size:=Zh h
theorem Yo.new {w:World}{G:Nat}{T:Yh}{s:Jq}(h:Yo w G T s)(X:Obj):Yo (w.alloc X) G T s:=((al0 w X).2.1.block G h.lt).trans h
theorem Yo.gb {w w':World}{G:Nat}{T:Yh}{s:Jq}(h:Yo w G T s)(hg:w.grownBy w' none):Yo w' G T s:=(hg.block G h.lt (by simp)).trans h
theorem Yo.u {w:World}{G:Nat}{T:Yh}{s:Jq}(h:Yo w G T s)(n:Nat):Yo (w.setCell ⟨G,12,none⟩ (.int .i64 n)) G T ⟨n,s.c,s.p⟩:=heap_setCell_same _ _ _ _ _ _ h
theorem Yo.c {w:World}{G:Nat}{T:Yh}{s:Jq}(h:Yo w G T s)(n:Int):Yo (w.setCell ⟨G,13,none⟩ (.int .i64 n)) G T ⟨s.u,n,s.p⟩:=heap_setCell_same _ _ _ _ _ _ h
theorem Yo.p {w:World}{G:Nat}{T:Yh}{s:Jq}(h:Yo w G T s)(n:Int):Yo (w.setCell ⟨G,14,none⟩ (.int .i64 n)) G T ⟨s.u,s.c,n⟩:=heap_setCell_same _ _ _ _ _ _ h
theorem Yo.cell {w:World}{G:Nat}{T:Yh}{s:Jq}(h:Yo w G T s)(j:Nat):w.cell? ⟨G,j,none⟩=(Zic T s)[j]?:=Zi h j
theorem Yo.oth {w:World}{G b j:Nat}{v:Value}{T:Yh}{s:Jq}(h:Yo w G T s)(hne:G≠b):Yo (w.setCell ⟨b,j,none⟩ v) G T s:=(heap_setCell_other _ _ _ _ hne).trans h
theorem Mu {w u:World}{b j:Nat}{v:Value}{o:Option Nat}(h:w.grownBy u o)(hb:w.heap.size<=b):w.grownBy (u.setCell ⟨b,j,none⟩ v) o :=
 ⟨h.os,h.tape,h.output,by simpa using h.size,fun q hq hne=>(heap_setCell_other _ _ _ _ (by show q≠b; omega)).trans (h.block q hq hne)⟩
theorem Zay {w u:World}{T:Nat}{cs:Array Value}{o:Option Nat}(h:w.grownBy u o)(hb:w.heap.size<=T):w.grownBy (u.setRow T cs) o :=
 ⟨h.os,h.tape,h.output,by have:=h.size; simpa [World.setRow] using this,fun q hq hne=>(setRow_other u T q cs (by omega)).trans (h.block q hq hne)⟩
theorem Zie {w u:World}{o:Option Nat}(h:w.grownBy u o)(k:Nat):w.grownBy (u.drewN k) o:=⟨h.os,h.tape,h.output,h.size,h.block⟩
theorem Yo.k5 {w:World}{G:Nat}{T:Yh}{s:Jq}(h:Yo w G T s):w.cell? ⟨G,5,none⟩=some (.slice T.pa T.ag.length T.ca):=Zi h 5
theorem Yo.k6 {w:World}{G:Nat}{T:Yh}{s:Jq}(h:Yo w G T s):w.cell? ⟨G,6,none⟩=some (.slice T.pr T.rs.length T.cr):=Zi h 6
theorem Yo.k10 {w:World}{G:Nat}{T:Yh}{s:Jq}(h:Yo w G T s):w.cell? ⟨G,10,none⟩=some (.int .i64 T.br):=Zi h 10
theorem Yo.k11 {w:World}{G:Nat}{T:Yh}{s:Jq}(h:Yo w G T s):w.cell? ⟨G,11,none⟩=some (.bool T.pairs):=Zi h 11
theorem Yo.k12 {w:World}{G:Nat}{T:Yh}{s:Jq}(h:Yo w G T s):w.cell? ⟨G,12,none⟩=some (.int .i64 s.u):=Zi h 12
theorem Yo.k13 {w:World}{G:Nat}{T:Yh}{s:Jq}(h:Yo w G T s):w.cell? ⟨G,13,none⟩=some (.int .i64 s.c):=Zi h 13
theorem Yo.k14 {w:World}{G:Nat}{T:Yh}{s:Jq}(h:Yo w G T s):w.cell? ⟨G,14,none⟩=some (.int .i64 s.p):=Zi h 14
theorem Yo.fz {w:World}{G:Nat}{T:Yh}{s:Jq}(h:Yo w G T s)(j:Nat):w.frozen? ⟨G,j,none⟩=false:=frozen_of_row _ _ j _ _ h
theorem Ge {a b c:World}{o:Option Nat}(h:a.grownBy b o)(k:b.grownBy c o):a.grownBy c o :=
 ⟨k.os.trans h.os,k.tape.trans h.tape,k.output.trans h.output,Nat.le_trans h.size k.size,fun q hq hne=>(k.block q (Nat.lt_of_lt_of_le hq h.size) hne).trans (h.block q hq hne)⟩
theorem Jl {a b:World}{o:Option Nat}(h:Below a.heap.size a b):a.grownBy b o:=⟨h.os,h.tape,h.output,h.size,fun q hq _=>h.block q hq⟩
set_option maxHeartbeats 4000000
set_option maxRecDepth 100000
theorem Zco (p:Yp)(w:World):Calls Tryz.prog 143 #[.agg #[.int .i64 p.1,.int .i64 p.2]] w fun e w'=>e=.returned (.bool (Oy p))∧Below w.heap.size w w':=by
 obtain⟨a,b⟩:=p;by_cases h:a=-1
 ·subst h;go_enter Tryz.func143,Tryz.ntmps143
  go_wp2;go_returns;exact⟨rfl,by go_grown⟩
 ·have h1:(a==-1)=false:=by simpa using h
  have HC:=Za (show Oy (a,b)=false from decide_eq_false h);go_enter Tryz.func143,Tryz.ntmps143
  go_wp2;go_returns;exact⟨by rw [J HC]; rfl,by go_grown⟩
def Mi (T:Yh)(p:Yp):Bool:=if p.1=-1 then decide (0<=p.2∧p.2<65536∧p.2 % 8=0) else decide (0<=p.1∧p.1<T.r∧p.2=0∧p.1≠T.sp∧p.1≠T.t0∧p.1≠T.t1)
theorem Sm {T:Yh}{b:Int}:Mi T (-1,b)=decide (0<=b∧b<65536∧b % 8=0):=if_pos rfl
theorem Na {T:Yh}{a b:Int}(h:¬ a=-1):Mi T (a,b)=decide (0<=a∧a<T.r∧b=0∧a≠T.sp∧a≠T.t0∧a≠T.t1):=if_neg h
theorem Zez (T:Yh)(p:Yp)(w:World):Calls Tryz.prog 95 #[.agg #[.int .i64 T.r,.int .i64 T.sp,.int .i64 T.lk,.int .i64 T.t0,.int .i64 T.t1,.slice T.pa T.ag.length T.ca,.slice T.pr T.rs.length T.cr,.slice T.ps T.ss.length T.cs,.int .i64 T.al,.int .i64 T.sh,.int .i64 T.br,.bool T.pairs],.agg #[.int .i64 p.1,.int .i64 p.2]] w fun e w'=>e=.returned (.bool (Mi T p))∧Below w.heap.size w w':=by
 obtain⟨a,b⟩:=p;obtain⟨r0,r1,hB,hZ⟩:=Np w (.cells #[.int .i64 T.r,.int .i64 T.sp,.int .i64 T.lk,.int .i64 T.t0,.int .i64 T.t1,.slice T.pa T.ag.length T.ca,.slice T.pr T.rs.length T.cr,.slice T.ps T.ss.length T.cs,.int .i64 T.al,.int .i64 T.sh,.int .i64 T.br,.bool T.pairs] 25 (0,0)) (.cells #[.int .i64 a,.int .i64 b] 34 (0,0));have HR0:=Za r0;have HR1:=Za r1;have HB:=Za hB;have HZ:=Za hZ;clear r0 r1 hB hZ;go_enter Tryz.func95,Tryz.ntmps95
 go_wp2_with fail
 generalize World.alloc (World.alloc w _) _=W at HR0 HR1 HB HZ ⊢;refine(Zco (a,b) W).mono ?_;rintro e w1 ⟨rfl,hb1⟩;have HB1:=Za (Zd (J HB) hb1 (by have:=J HZ; omega));have q0:=(hb1.block w.heap.size (by have:=J HZ; omega)).trans (J HR0);have q1:=(hb1.block (w.heap.size+1) (by have:=J HZ; omega)).trans (J HR1);have t0:=cR q0 0;have t1:=cR q0 1;have t3:=cR q0 3;have t4:=cR q0 4;have s0:=cR q1 0;have s1:=cR q1 1;clear q0 q1 hb1 HR0 HR1;by_cases ha:a=-1
 ·subst ha;rw [show Oy ((-1:Int),b)=true from rfl];by_cases h1:0<=b
  ·by_cases h2:b<65536
   ·by_cases h3:b % 8=0
    ·have h4:(b % 8==0)=true:=by simpa using h3
     have HD:=Za (decide_eq_true (show 0<=b∧b<65536∧b % 8=0 from⟨h1,h2,h3⟩));clear h3;go_wp2;go_returns;exact⟨by rw [Sm,J HD]; rfl,J HB1⟩
    ·have h4:(b % 8==0)=false:=by simpa using h3
     have HD:=Za (decide_eq_false (show ¬ (0<=b∧b<65536∧b % 8=0) from fun h=>h3 h.2.2));clear h3;go_wp2;go_returns;exact⟨by rw [Sm,J HD]; rfl,J HB1⟩
   ·have HD:=Za (decide_eq_false (show ¬ (0<=b∧b<65536∧b % 8=0) from fun h=>h2 h.2.1));go_wp2;go_returns;exact⟨by rw [Sm,J HD]; rfl,J HB1⟩
  ·have HD:=Za (decide_eq_false (show ¬ (0<=b∧b<65536∧b % 8=0) from fun h=>h1 h.1));go_wp2;go_returns;exact⟨by rw [Sm,J HD]; rfl,J HB1⟩
 ·rw [show Oy (a,b)=false from decide_eq_false ha];have HA:=Za ha;clear ha;by_cases h0:¬ (0<=a)
  ·have HD:=Za (decide_eq_false (show ¬ (0<=a∧a<T.r∧b=0∧a≠T.sp∧a≠T.t0∧a≠T.t1) from fun h=>h0 h.1));have h0:=Int.not_le.1 h0;go_wp2;go_returns;exact⟨by rw [Na (J HA),J HD]; rfl,J HB1⟩
  have h0:=Decidable.not_not.1 h0;by_cases h1:¬ (a<T.r)
  ·have HD:=Za (decide_eq_false (show ¬ (0<=a∧a<T.r∧b=0∧a≠T.sp∧a≠T.t0∧a≠T.t1) from fun h=>h1 h.2.1));have h1:=Int.not_lt.1 h1;go_wp2;go_returns;exact⟨by rw [Na (J HA),J HD]; rfl,J HB1⟩
  have h1:=Decidable.not_not.1 h1;by_cases h2:¬ (b=0)
  ·have HD:=Za (decide_eq_false (show ¬ (0<=a∧a<T.r∧b=0∧a≠T.sp∧a≠T.t0∧a≠T.t1) from fun h=>h2 h.2.2.1));have e2:(b==0)=false:=by simpa using h2
   clear h2;go_wp2;go_returns;exact⟨by rw [Na (J HA),J HD]; rfl,J HB1⟩
  have h2:=Decidable.not_not.1 h2;have e2:(b==0)=true:=by simpa using h2
  have H2:=Za h2;clear h2;by_cases h3:¬ (a≠T.sp)
  ·have HD:=Za (decide_eq_false (show ¬ (0<=a∧a<T.r∧b=0∧a≠T.sp∧a≠T.t0∧a≠T.t1) from fun h=>h3 h.2.2.2.1));have e3:(a != T.sp)=false:=by simpa using h3
   clear h3;go_wp2;go_returns;exact⟨by rw [Na (J HA),J HD]; rfl,J HB1⟩
  have h3:=Decidable.not_not.1 h3;have e3:(a != T.sp)=true:=by simpa using h3
  have H3:=Za h3;clear h3;by_cases h4:¬ (a≠T.t0)
  ·have HD:=Za (decide_eq_false (show ¬ (0<=a∧a<T.r∧b=0∧a≠T.sp∧a≠T.t0∧a≠T.t1) from fun h=>h4 h.2.2.2.2.1));have e4:(a != T.t0)=false:=by simpa using h4
   clear h4;go_wp2;go_returns;exact⟨by rw [Na (J HA),J HD]; rfl,J HB1⟩
  have h4:=Decidable.not_not.1 h4;have e4:(a != T.t0)=true:=by simpa using h4
  have H4:=Za h4;clear h4;by_cases h5:¬ (a≠T.t1)
  ·have HD:=Za (decide_eq_false (show ¬ (0<=a∧a<T.r∧b=0∧a≠T.sp∧a≠T.t0∧a≠T.t1) from fun h=>h5 h.2.2.2.2.2));have e5:(a != T.t1)=false:=by simpa using h5
   clear h5;go_wp2;go_returns;exact⟨by rw [Na (J HA),J HD]; rfl,J HB1⟩
  have h5:=Decidable.not_not.1 h5;have e5:(a != T.t1)=true:=by simpa using h5
  have H5:=Za h5;clear h5;have HD:=Za (decide_eq_true (show 0<=a∧a<T.r∧b=0∧a≠T.sp∧a≠T.t0∧a≠T.t1 from⟨h0,h1,J H2,J H3,J H4,J H5⟩));go_wp2;go_returns;exact⟨by rw [Na (J HA),J HD]; rfl,J HB1⟩
set_option maxHeartbeats 4000000
set_option maxRecDepth 100000
theorem Ll {α:Type}(l:List α)(d:α)(k:Nat)(h:k<l.length):l.getD k d=l[k]:=by simp [List.getD,h]
theorem Tryz.infInsI:(Tryz.prog.info? 110).map (·.size)=some 8:=by kernel_rfl
def FtS (q bb bo ib io:Nat)(R:Array Value)(bv:Value)(I:Array Value)(V:World):Prop :=
 V.heap[q]?=some (.cells R 328 (0,0))∧V.cell? ⟨bb,bo,none⟩=some bv∧∀ j y,I[j]?=some y->V.cell? ⟨ib,io+j,none⟩=some y
theorem Db {q bb bo ib io:Nat}{R I:Array Value}{bv:Value}{V V':World}(h:FtS q bb bo ib io R bv I V)(hb:Below V.heap.size V V'):FtS q bb bo ib io R bv I V':=by obtain⟨h0,h1,h2⟩:=h;exact⟨(hb.block _ (Zh h0)).trans h0,(hb.cell (World.block_lt_of_cell? V _ h1)).trans h1,fun j y hy=>(hb.cell (World.block_lt_of_cell? V _ (h2 j y hy))).trans (h2 j y hy)⟩
theorem Zym (w0:World)(x:Ol)(q lo hi lg:Nat)(bp sp op:Option Addr)(bc sc oc:Nat)(gs:List Nat)(B:Nat->Value)(bn nx:Nat)(w:World)(h:Ko w0 w x q lo hi lg bp sp op bc sc oc gs B)(hbw:Below w0.heap.size w0 w)(hb:x.b=bn)(hi_:x.i=nx)(hbl:bn<x.fn.blocks.length)(hnl:nx<(x.fn.blocks.getD bn []).length)(hsm:x.fn.blocks.length<=12)(hsk:(x.fn.blocks.getD bn []).length<=24) :
 Calls Tryz.prog 184 #[.pointer (some ⟨q,0,none⟩)] w fun e w'=>∃ xap xac xop xoc,e=.returned (.agg #[.int .i64 (Yf x).op,.int .i64 (Yf x).d,.int .i64 (Yf x).a,.int .i64 (Yf x).bb,.int .u64 (Yf x).n,.int .i64 (Yf x).f,.slice xap (Yf x).args.length xac,.slice xop (Yf x).outs.length xoc])∧LS 2 w0 (.slice xap (Yf x).args.length xac) (Yf x).args.length (fun k=>Nq ((Yf x).args.getD k (0,0)))∧Li w0 (.slice xop (Yf x).outs.length xoc) (Yf x).outs∧Ko w0 w' (Jh x) q lo hi lg bp sp op bc sc oc gs B∧OnB lo hi w w':=by
 have hins:Yf x=(x.fn.blocks.getD bn []).getD nx Lc:=by unfold Yf; rw [hb,hi_]; rfl
 have hnxt:Jh x={ x with i:=(nx:Int)+1 }:=by unfold Jh; rw [hi_]
 obtain⟨bp',bcap,hbe,-,-,hbc⟩:=h.bls.ones;injection hbe with e1 e2 e3;subst e1 e3;obtain⟨bb,bo,hbp,hbcell⟩:=hbc (by omega);subst hbp;obtain⟨IA,hIL,hIE⟩:=h.blk bn hbl;have hge:x.fn.blocks.getD bn []=x.fn.blocks[bn]:=Ll _ _ _ hbl;rw [hge] at hnl hins hsk;obtain⟨ip,ic,hBk⟩:=hIL.shape;rw [hBk] at hIL;obtain⟨ip',ic',hie,-,-,hicell⟩:=hIL;injection hie with f1 f2 f3;subst f1 f3;obtain⟨isb,iso,hip,-,hic2⟩:=hicell (by omega);subst hip;have hrg:=hic2 nx hnl;obtain⟨av,ov,hIA,hxa,hxo⟩:=hIE nx hnl;have hgi:(x.fn.blocks[bn]).getD nx Lc=(x.fn.blocks[bn])[nx]:=Ll _ _ _ hnl;rw [hgi] at hins;have hc1:=hbcell bn hbl;rw [hBk] at hc1;generalize hbk:x.fn.blocks[bn]=bk at *;generalize hii:bk[nx]=i at *;obtain⟨xap,xac,rfl⟩:=hxa.shape;obtain⟨xop,xoc,rfl⟩:=hxo.shape;rw [hIA] at hrg;have hrow:=h.row;rw [hb,hi_] at hrow;have HS0:=Za (show FtS q bb (bo+bn) isb (iso+nx*8) #[.slice (some ⟨bb,bo,none⟩) x.fn.blocks.length bc,.int .i64 (bn:Int),.int .i64 (nx:Int),.slice (some ⟨lg,0,none⟩) x.v.length x.v.length,.slice sp x.s.length sc,.slice op x.o.length oc] (.slice (some ⟨isb,iso,none⟩) bk.length ic) #[.int .i64 i.op,.int .i64 i.d,.int .i64 i.a,.int .i64 i.bb,.int .u64 i.n,.int .i64 i.f,.slice xap i.args.length xac,.slice xop i.outs.length xoc] w from⟨hrow,(hbw.cell (World.block_lt_of_cell? _ _ hc1)).trans hc1,fun j y hy=>by
  have:=hrg j y (by simpa using hy);exact(hbw.cell (World.block_lt_of_cell? _ _ this)).trans this⟩)
 have HXA:=Za hxa;have HXO:=Za hxo;have H:=Za h;have HNX:=Za hnxt;have hqw:=Zh h.row;rw [hins];obtain⟨r0,hb0,hz0⟩:=al0 w (.cells #[.int .i64 0,.int .i64 0,.int .i64 0,.int .i64 0,.int .u64 0,.int .i64 0,.slice none 0 0,.slice none 0 0] 110 (0,0));have HR0:=Za r0;have HB0:=Za hb0;clear h hbw hb hi_ hins hnxt hbc hbcell hIE hge hBk hicell hic2 hrg hIA hxa hxo hgi hc1 hrow hbk hii r0 hb0 e2 f2;go_enter Tryz.func184,Tryz.ntmps184
 go_upto_region 1 with fail
 generalize World.alloc w _=W at HR0 HB0 hz0 ⊢;have HZ0:=Za hz0;clear hz0;have HSW:=Za (Db (Db (J HS0) (J HB0)) (Below.refl _ _).drew);refine wp_region_held_drew (S:=FtS q bb (bo+bn) isb (iso+nx*8) #[.slice (some ⟨bb,bo,none⟩) x.fn.blocks.length bc,.int .i64 (bn:Int),.int .i64 (nx:Int),.slice (some ⟨lg,0,none⟩) x.v.length x.v.length,.slice sp x.s.length sc,.slice op x.o.length oc] (.slice (some ⟨isb,iso,none⟩) bk.length ic) #[.int .i64 i.op,.int .i64 i.d,.int .i64 i.a,.int .i64 i.bb,.int .u64 i.n,.int .i64 i.f,.slice xap i.args.length xac,.slice xop i.outs.length xoc]) (by kernel_rfl) (J HSW) (fun hHeld=>?_);refine tV 0 ?v0 ?hy0 ?_;case hy0=>intro V hV;obtain⟨g0,g1,g2⟩:=hV;clear g0 g1 g2;go_simp;all_goals (with_reducible rfl)
 simp only [Act.put,zA,zB,zC,zD,zE];refine tV 1 ?v1 ?hy1 ?_;case hy1=>intro V hV;obtain⟨g0,g1,g2⟩:=hV;clear g0 g1 g2;go_simp;all_goals (with_reducible rfl)
 simp only [Act.put,zA,zB,zC,zD,zE,zF];refine tV 2 ?v2 ?hy2 ?_;case hy2=>intro V hV;obtain⟨g0,g1,g2⟩:=hV;clear g0 g1 g2;go_simp;all_goals (with_reducible rfl)
 simp only [Act.put,zA,zB,zC,zD,zE,zF];refine tV 3 ?v3 ?hy3 ?_;case hy3=>intro V hV;obtain⟨g0,g1,g2⟩:=hV;have c0:=cR g0 0;clear g0 g1 g2;go_simp;all_goals (with_reducible rfl)
 simp only [Act.put,zA,zB,zC,zD,zE,zF];refine tV 4 ?v4 ?hy4 ?_;case hy4=>intro V hV;obtain⟨g0,g1,g2⟩:=hV;clear g0 g1 g2;go_simp;all_goals (with_reducible rfl)
 simp only [Act.put,zA,zB,zC,zD,zE,zF];refine tV 5 ?v5 ?hy5 ?_;case hy5=>intro V hV;obtain⟨g0,g1,g2⟩:=hV;clear g0 g1 g2;go_simp;all_goals (with_reducible rfl)
 simp only [Act.put,zA,zB,zC,zD,zE,zF];refine tV 6 ?v6 ?hy6 ?_;case hy6=>intro V hV;obtain⟨g0,g1,g2⟩:=hV;clear g0 g1 g2;go_simp;all_goals (with_reducible rfl)
 simp only [Act.put,zA,zB,zC,zD,zE,zF];refine tV 7 ?v7 ?hy7 ?_;case hy7=>intro V hV;obtain⟨g0,g1,g2⟩:=hV;have c1:=cR g0 1;clear g0 g1 g2;go_simp;all_goals (with_reducible rfl)
 simp only [Act.put,zA,zB,zC,zD,zE,zF];refine tV 8 ?v8 ?hy8 ?_;case hy8=>intro V hV;obtain⟨g0,g1,g2⟩:=hV;clear g0 g1 g2;go_simp;all_goals (with_reducible rfl)
 simp only [Act.put,zA,zB,zC,zD,zE,zF];refine tV 9 ?v9 ?hy9 ?_;case hy9=>intro V hV;obtain⟨g0,g1,g2⟩:=hV;have d:=g1;clear g0 g1 g2;go_simp;all_goals (with_reducible rfl)
 simp only [Act.put,zA,zB,zC,zD,zE,zF];refine tV 10 ?v10 ?hy10 ?_;case hy10=>intro V hV;obtain⟨g0,g1,g2⟩:=hV;clear g0 g1 g2;go_simp;all_goals (with_reducible rfl)
 simp only [Act.put,zA,zB,zC,zD,zE,zF];refine tV 11 ?v11 ?hy11 ?_;case hy11=>intro V hV;obtain⟨g0,g1,g2⟩:=hV;clear g0 g1 g2;go_simp;all_goals (with_reducible rfl)
 simp only [Act.put,zA,zB,zC,zD,zE,zF];refine tV 12 ?v12 ?hy12 ?_;case hy12=>intro V hV;obtain⟨g0,g1,g2⟩:=hV;clear g0 g1 g2;go_simp;all_goals (with_reducible rfl)
 simp only [Act.put,zA,zB,zC,zD,zE,zF];refine tV 13 ?v13 ?hy13 ?_;case hy13=>intro V hV;obtain⟨g0,g1,g2⟩:=hV;have c2:=cR g0 2;clear g0 g1 g2;go_simp;all_goals (with_reducible rfl)
 simp only [Act.put,zA,zB,zC,zD,zE,zF];refine tV 14 ?v14 ?hy14 ?_;case hy14=>intro V hV;obtain⟨g0,g1,g2⟩:=hV;clear g0 g1 g2;go_simp;all_goals (with_reducible rfl)
 simp only [Act.put,zA,zB,zC,zD,zE,zF];refine tV 15 ?v15 ?hy15 ?_;case hy15=>intro V hV;obtain⟨g0,g1,g2⟩:=hV;have c0:=g2 0 _ rfl;have c1:=g2 1 _ rfl;have c2:=g2 2 _ rfl;have c3:=g2 3 _ rfl;have c4:=g2 4 _ rfl;have c5:=g2 5 _ rfl;have c6:=g2 6 _ rfl;have c7:=g2 7 _ rfl;rw [Nat.add_zero] at c0;clear g0 g1 g2;go_simp;all_goals (with_reducible rfl)
 simp only [Act.put,zA,zB,zC,zD,zE,zF];refine tO 16 fun K hK=>?_;go_simp;obtain⟨r1,hb1,hz1⟩:=al0 W.drew (.cells #[.int .i64 0,.int .i64 0,.int .i64 0,.int .i64 0,.int .u64 0,.int .i64 0,.slice none 0 0,.slice none 0 0] 110 (0,0));have HR1:=Za r1;have HB1:=Za hb1;have hz1':(W.drew.alloc (.cells #[.int .i64 0,.int .i64 0,.int .i64 0,.int .i64 0,.int .u64 0,.int .i64 0,.slice none 0 0,.slice none 0 0] 110 (0,0))).heap.size=W.heap.size+1:=hz1;clear r1 hb1 hz1;refine kO hK (Db (J HSW) (J HB1)) (fun hHeld2=>?_);clear hK K;refine tO 17 fun K hK=>?_;rw [if_pos (by rfl)];refine wp_store_row 110 _ _ rfl W.heap.size #[.int .i64 i.op,.int .i64 i.d,.int .i64 i.a,.int .i64 i.bb,.int .u64 i.n,.int .i64 i.f,.slice xap i.args.length xac,.slice xop i.outs.length xoc] rfl rfl 110 _ (J HR1) (Tryz.infInsI.trans rfl) rfl (by simp [Value.oneCell']) ?_;have HR2:=Za (show((W.alloc (.cells #[.int .i64 0,.int .i64 0,.int .i64 0,.int .i64 0,.int .u64 0,.int .i64 0,.slice none 0 0,.slice none 0 0] 110 (0,0))).drew.setRow W.heap.size #[.int .i64 i.op,.int .i64 i.d,.int .i64 i.a,.int .i64 i.bb,.int .u64 i.n,.int .i64 i.f,.slice xap i.args.length xac,.slice xop i.outs.length xoc]).heap[W.heap.size]?=some (.cells #[.int .i64 i.op,.int .i64 i.d,.int .i64 i.a,.int .i64 i.bb,.int .u64 i.n,.int .i64 i.f,.slice xap i.args.length xac,.slice xop i.outs.length xoc] 110 (0,0)) from setRow_heap _ _ _ #[.int .i64 i.op,.int .i64 i.d,.int .i64 i.a,.int .i64 i.bb,.int .u64 i.n,.int .i64 i.f,.slice xap i.args.length xac,.slice xop i.outs.length xoc] _ _ (J HR1))
 have HB2:=Za (show Below W.drew.heap.size W.drew ((W.alloc (.cells #[.int .i64 0,.int .i64 0,.int .i64 0,.int .i64 0,.int .u64 0,.int .i64 0,.slice none 0 0,.slice none 0 0] 110 (0,0))).drew.setRow W.heap.size #[.int .i64 i.op,.int .i64 i.d,.int .i64 i.a,.int .i64 i.bb,.int .u64 i.n,.int .i64 i.f,.slice xap i.args.length xac,.slice xop i.outs.length xoc]) from Zg (T:=W.drew.heap.size) (cs:=#[.int .i64 i.op,.int .i64 i.d,.int .i64 i.a,.int .i64 i.bb,.int .u64 i.n,.int .i64 i.f,.slice xap i.args.length xac,.slice xop i.outs.length xoc]) (J HB1) (Nat.le_refl _));refine hK.out _ _ (Db (J HSW) (J HB2)) (fun hHeld2=>?_);clear hK K hHeld hHeld2;try simp only [Act.put]
 refine wpAnyH_done (by kernel_rfl) ?_ _;generalize World.setRow (World.drew (World.alloc W _)) _ _=V3 at HR2 HB2 ⊢;have hBW:Below W.heap.size W V3:=Zd (Below.refl W.heap.size W).drew (J HB2) (Nat.le_refl _);have hz0:=J HZ0;have hBw3:=Zd (J HB0) hBW (by omega);have hF3:=Lp (J H) hBw3;have c2:V3.cell? ⟨q,2,none⟩=some (.int .i64 (nx:Int)):=by have:=(Db (J HSW) (J HB2)).1; exact(cR this 2)
 have z2:=frozen_of_row _ _ 2 _ _ hF3.row;have hRT:V3.heap[w.heap.size]?=some (.cells #[.int .i64 0,.int .i64 0,.int .i64 0,.int .i64 0,.int .u64 0,.int .i64 0,.slice none 0 0,.slice none 0 0] 110 (0,0)):=(hBW.block _ (by omega)).trans (J HR0);have hF4:=Yex hF3 ((nx:Int)+1);rw [← J HNX] at hF4;have HF4:=Za hF4;have hqne:W.heap.size≠q:=by omega
 have hqn2:w.heap.size≠q:=by omega
 have hR4:=(heap_setCell_other V3 ⟨q,2,none⟩ W.heap.size (.int .i64 ((nx:Int)+1)) hqne).trans (J HR2);have hT4:=(heap_setCell_other V3 ⟨q,2,none⟩ w.heap.size (.int .i64 ((nx:Int)+1)) hqn2).trans hRT;have HO4:=Za (Ig (Zev (lo:=lo) (hi:=hi) hBw3) (Zog V3 2 (.int .i64 ((nx:Int)+1)) (J H).ql (J H).qh));have HT4:=Za hT4;clear hz0;clear hBW hBw3 hF3 hF4 HR2 HB2 hRT HSW HS0 HR1 HB1;go_upto_region 3 with fail
 clear c2 z2;generalize World.setCell V3 _ _=V4 at HF4 hR4 HT4 HO4 ⊢;obtain⟨i0,i1,i2,i3,i4,i5,i6,i7⟩:=cT8 hR4;have hlt4:=Zh (J HT4);go_wp2_with (refine wpList_store_row rfl 110 _ _ rfl w.heap.size #[.int .i64 i.op,.int .i64 i.d,.int .i64 i.a,.int .i64 i.bb,.int .u64 i.n,.int .i64 i.f,.slice xap i.args.length xac,.slice xop i.outs.length xoc] rfl rfl 110 _ (J HT4) (Tryz.infInsI.trans rfl) rfl (by simp [Value.oneCell']) ?_)
 refine bodyPost_ret (Jo (fn:=Tryz.f184) (q:=2) (uy:=110) rfl _ _ w.heap.size 110 #[.int .i64 i.op,.int .i64 i.d,.int .i64 i.a,.int .i64 i.bb,.int .u64 i.n,.int .i64 i.f,.slice xap i.args.length xac,.slice xop i.outs.length xoc] (0,0) _ rfl (setRow_heap _ _ _ _ _ _ (J HT4)) Tryz.underlying110 rfl (Tryz.infInsI.trans rfl)) rfl ?_;have hF:=J HF4;have hO:=J HO4;have hz0:=J HZ0;refine⟨xap,xac,xop,xoc,rfl,J HXA,J HXO,Zyl hF (by have:=(J H).hs; omega) _,⟨hO.os,hO.tape,hO.output,by have:=hO.size; simpa [World.setRow] using this,fun g hg hd=>(setRow_other _ _ _ _ (by omega)).trans (hO.oth g hg hd)⟩⟩
set_option maxHeartbeats 4000000
set_option maxRecDepth 100000
theorem Tryz.infoU64:(Tryz.prog.info? 90).map (fun i=>(i.zero,i.size,i.bytes))=some (some (.int .u64 0),1,8):=by kernel_rfl
theorem Zyn (l:List Int)(n:Int):uC (l++[n])=uC l++[.int .u64 n]:=by simp [uC]
theorem Js {w:World}{B e size n:Nat}{v:Value}{xs:List Value}(h:w.ownsRow B e size v n xs):∃ p c,v=.slice p n c:=by
 rcases h.2 with⟨e,e0⟩ | ⟨g,cap,cur,e,-⟩
 ·exact⟨none,0,by rw [e0]; exact e⟩
 ·exact⟨_,_,e⟩
theorem Zly (v ls:List Int)(k:Nat)(h:k<ls.length):Lr v (ls.take (k+1))=Lr v (ls.take k)++[v.getD (ls.getD k 0).toNat 0]:=by unfold Lr;rw [List.take_add_one,List.getElem?_eq_getElem h,List.map_append,Ll ls 0 k h];rfl
theorem Ztu (v ds vs:List Int):(Zga v ds vs).length=v.length:=by
 unfold Zga;generalize ds.zip vs=l;induction l generalizing v with
 | nil=>rfl
 | cons a l ih=>rw [List.foldl_cons,ih]; simp
theorem Zis {w:World}{B e n k:Nat}{p:Option Addr}{c:Nat}{xs:List Value}(h:w.ownsRow B e 1 (.slice p n c) n xs)(hk:k<n):∃ g,p=some ⟨g,0,none⟩∧B<=g∧w.cell? ⟨g,k,none⟩=xs[k]?:=by
 rcases h.2 with⟨-,e0⟩ | ⟨g,cap,cur,e1,h2,h3,h4,-,h6,h7⟩
 ·omega
 ·injection e1 with e1 _ _;refine⟨g,e1,h2,(Zi h3 k).trans ?_⟩;rw [← h7,List.getElem?_take,if_pos (by omega)];simp
theorem Ztv (w0:World)(x:Ol)(q lo hi lg:Nat)(bp sp op:Option Addr)(bc sc oc:Nat)(gs:List Nat)(B:Nat->Value)(ls:List Int)(lp:Option Addr)(lc:Nat)(w:World)(h:Ko w0 w x q lo hi lg bp sp op bc sc oc gs B)(hl:Li w (.slice lp ls.length lc) ls)(hln:ls.length<=1000)(hin:∀ k,k<ls.length->0<=ls.getD k 0∧ls.getD k 0<x.v.length) :
 Calls Tryz.prog 192 #[.pointer (some ⟨q,0,none⟩),.slice lp ls.length lc] w fun e w'=>∃ v,e=.returned v∧w'.ownsRow w.heap.size 90 1 v ls.length (uC (Lr x.v ls))∧Below w.heap.size w w':=by
 obtain⟨ti,hti,hty0,hty1,hty2⟩:=Ly Tryz.infoU64;have H:=Za h;have HL:=Za hl;have HIN:=Za hin;clear h hl hin;go_enter Tryz.func192,Tryz.ntmps192
 go_wp2;go_loopw [10,5] (fun sk sv w'=>∃(k:Nat) (v:Value),sk=.int .i64 k∧sv=v∧k<=ls.length∧w'.ownsRow w.heap.size 90 1 v k (uC (Lr x.v (ls.take k)))∧Below w.heap.size w w') (fun sk _ _=>ls.length-(intOf sk).toNat)
 case atStart=>exact⟨0,_,rfl,rfl,by omega,World.ownsRow_nil _ _ _ _,Below.refl _ _⟩
 case round =>
  obtain⟨k,v0,rfl,rfl,hk,how,hbw⟩:=hrel;obtain⟨vp,vc,rfl⟩:=Js how;by_cases hk2:k<ls.length
  ·obtain⟨p',c',e1,-,-,hcc⟩:=(J HL).below hbw;injection e1 with f1 f2 f3;obtain⟨sb,so,hsp,hcell⟩:=hcc (by omega);rw [← f1] at hsp;subst hsp;have d:=hcell k hk2;obtain⟨hx0,hx1⟩:=J HIN k hk2;obtain⟨m,hm⟩:∃ m:Nat,ls.getD k 0=m:=⟨(ls.getD k 0).toNat,by omega⟩;have HNX:=Za (show Lr x.v (ls.take (k+1))=Lr x.v (ls.take k)++[x.v.getD m 0] by rw [Zly _ _ _ hk2,hm,Int.toNat_natCast]);rw [hm] at d hx1;have hF:=Lp (J H) hbw;have c3:=cR hF.row 3;have hml:m<x.v.length:=by omega
   have v0:wr.cell? ⟨lg,m,none⟩=some (.int .u64 (x.v.getD m 0)):=(Zi hF.loc m).trans (by simp [uC,List.getD,hml]);have hwz:=hbw.size;have HOW:=Za how;have HBW:=Za hbw;clear f1 f2 f3 hcc hcell hx0 hx1 hm hF how hbw;obtain⟨y,hy⟩:∃ y,y=x.v.getD m 0:=⟨_,rfl⟩;rw [← hy] at v0 HNX;clear hy;go_wp2_with (at_builtin; refine wpList_append_own _ rfl _ _ 84 rfl w.heap.size 90 ti _ 1 8 Tryz.underlying84 hti hty0 hty1 hty2 rfl (by decide) _ _ _ rfl (World.ownsRow.alloc (J HOW) _) ⟨wr.heap.size,0,none⟩ 1 1 [.int .u64 y] rfl rfl (by intro j u hj; match j,hj with | 0,hj=>(simp at hj; subst hj; simp [Addr.add])) (by intro u hu; simp at hu; subst hu; rfl) ?c3 ?c4 ?c5 ?_)
   case c3=>unfold maxLen; omega
   case c4=>omega
   case c5=>first | omega | (simp; omega)
   intro v7 w7 hown7 hgr7 _;have hb7:Below w.heap.size w w7:=by have ha:=(al0 wr (.cells #[.int .u64 y] 90 (0,0)));have hzz:=(J HBW).size;refine⟨hgr7.os.trans (ha.2.1.os.trans (J HBW).os),hgr7.tape.trans (ha.2.1.tape.trans (J HBW).tape),hgr7.output.trans (ha.2.1.output.trans (J HBW).output),by have:=hgr7.size; rw [ha.2.2] at this; omega,fun q hq=>?_⟩;exact(hgr7.block q (by rw [ha.2.2]; omega) (fun e=>by have:=(World.ownsRow.lt (J HOW) q e.symm).1; omega)).trans ((ha.2.1.block q (by omega)).trans ((J HBW).block q hq))
   have HX:=Za (show w7.ownsRow w.heap.size 90 1 v7 (k+1) (uC (Lr x.v (ls.take (k+1)))) by rw [J HNX,Zyn]; exact hown7);have HB7:=Za hb7;clear hown7 hgr7 hb7 d c3 v0 HOW HBW HNX;go_wp2;go_roundw
   case rel=>exact⟨k+1,_,by go_num,rfl,by omega,J HX,J HB7⟩
   case measure=>simp [intOf]; omega
  ·have hkn:k=ls.length:=by omega
   subst hkn;rw [List.take_length] at how;have HOW:=Za how;have HBW:=Za hbw;clear how hbw;go_wp2;go_ret;exact⟨_,rfl,J HOW,J HBW⟩
set_option maxHeartbeats 2000000
def plW (ag:List Int)(s:Jq):Int×Int:=if s.u<ag.length then (ag.getD s.u 0,0) else (-1,s.c)
def nxW (ag:List Int)(s:Jq):Jq:=if s.u<ag.length then ⟨s.u+1,s.c,s.p⟩ else ⟨s.u,s.c+8,s.p⟩
theorem Zno (T:Yh)(s:Jq)(G:Nat)(w:World)(hG:Yo w G T s)(hc0:-1000000<=s.c)(hc1:s.c<=1000000) :
 Calls Tryz.prog 149 #[.pointer (some ⟨G,0,none⟩)] w fun e w'=>e=.returned (.agg #[.int .i64 (-1),.int .i64 s.c])∧Yo w' G T ⟨s.u,s.c+8,s.p⟩∧w.grownBy w' (some G):=by
 have HG:=Za hG;have y:=fun X:Obj=>(hG.new X).k13;have fz:=fun X:Obj=>(hG.new X).fz 13;clear hG;go_enter Tryz.func149,Tryz.ntmps149
 go_wp2;go_returns;have hlt:=(J HG).lt;exact⟨rfl,((((J HG).new _).c _).oth (by omega)).oth (by omega),Mu (Mu (Ud (Zxm _ (Of w _))) (Nat.le_refl _)) (Nat.le_refl _)⟩
theorem Zxd (T:Yh)(s:Jq)(G:Nat)(n:Int)(w:World)(hG:Yo w G T s)(hc0:0<=s.p)(hc1:s.p<=1000000)(hn0:0<=n)(hn1:n<=1000) :
 Calls Tryz.prog 147 #[.pointer (some ⟨G,0,none⟩),.int .i64 n] w fun e w'=>e=.returned (.int .i64 s.p)∧Yo w' G T ⟨s.u,s.c,s.p+8*n⟩∧w.grownBy w' (some G):=by
 have HG:=Za hG;have y:=hG.k14;have fz:=hG.fz 14;clear hG;go_enter Tryz.func147,Tryz.ntmps147
 go_wp2;go_ret;exact⟨rfl,(J HG).p _,Ud (Of w _)⟩
theorem Tryz.infPlK:(Tryz.prog.info? 34).map (·.size)=some 2:=by kernel_rfl
theorem Znp (T:Yh)(s:Jq)(G:Nat)(w:World)(hG:Yo w G T s)(hT:TbR w G T)(hL:T.ag.length<=1000000)(hu:s.u<=1000000)(hc0:-1000000<=s.c)(hc1:s.c<=1000000) :
 Calls Tryz.prog 146 #[.pointer (some ⟨G,0,none⟩)] w fun e w'=>e=.returned (.agg #[.int .i64 (plW T.ag s).1,.int .i64 (plW T.ag s).2])∧Yo w' G T (nxW T.ag s)∧w.grownBy w' (some G):=by
 have HG:=Za hG;have HT:=Za hT;have hlt:=hG.lt;have y:=fun X:Obj=>(hG.new X).k12;have y5:=fun X:Obj=>(hG.new X).k5;have hl:T.ag.length<9223372036854775808:=by omega
 clear hG hT;go_enter Tryz.func146,Tryz.ntmps146
 go_wp2_with fail
 go_quiet (fail)
 clear y y5;obtain⟨hR,hB,hs⟩:=al0 w (.cells #[.int .i64 0,.int .i64 0] 34 (0,0));have HGV:=Za (fun k:Nat=>show Yo ((w.alloc (.cells #[.int .i64 0,.int .i64 0] 34 (0,0))).drewN k) G T s from(J HG).new _);have HTV:=Za (fun k:Nat=>(J HT).gb (Jl (o:=some G) (Gl hB k)) hlt);have HRV:=Za (fun k:Nat=>show((w.alloc (.cells #[.int .i64 0,.int .i64 0] 34 (0,0))).drewN k).heap[w.heap.size]?=_ from hR);have HBV:=Za (fun k:Nat=>Jl (o:=some G) (Gl hB k));have HSV:=Za (fun k:Nat=>show((w.alloc (.cells #[.int .i64 0,.int .i64 0] 34 (0,0))).drewN k).heap.size=w.heap.size+1 from hs);clear hR hB hs HG HT;generalize World.alloc w _=V0 at HGV HTV HRV HBV HSV ⊢;generalize hk:V0.drewN _=V;obtain⟨hGV,hTV,hRV,hBV,hSV⟩:Yo V G T s∧TbR V G T∧V.heap[w.heap.size]?=some (.cells #[.int .i64 0,.int .i64 0] 34 (0,0))∧w.grownBy V (some G)∧V.heap.size=w.heap.size+1:=by subst hk;exact⟨J HGV _,J HTV _,J HRV _,J HBV _,J HSV _⟩
 clear hk HGV HTV HRV HBV HSV;have HG:=Za hGV;have HR:=Za hRV;have HB:=Za hBV;by_cases h:s.u<T.ag.length
 ·have HP:=Za (show plW T.ag s=(T.ag.getD s.u 0,0) by unfold plW; rw [if_pos h]);have HX:=Za (show nxW T.ag s=⟨s.u+1,s.c,s.p⟩ by unfold nxW; rw [if_pos h]);obtain⟨sb,so,hpa,-,hc⟩:=hTV.a.at h;have c:=hc s.u h;have y:=hGV.k12;have y5:=hGV.k5;rw [hpa] at y5;have fz:=hGV.fz 12;have r0:=(cR hRV 0);have r1:=(cR hRV 1);have z0:=frozen_of_row _ _ 0 _ _ hRV;have z1:=frozen_of_row _ _ 1 _ _ hRV;clear hGV hTV hRV hBV hc;generalize T.ag.getD s.u 0=x at HP c;go_wp2_with fail
  go_quiet (fail)
  go_wp2;refine bodyPost_ret (Jo (fn:=Tryz.f146) (q:=2) (uy:=34) rfl _ _ w.heap.size 34 #[.int .i64 x,.int .i64 0] (0,0) _ rfl (heap_setCell_same _ _ 1 _ _ _ (heap_setCell_same _ _ 0 _ _ _ ((heap_setCell_other _ _ _ _ (by show w.heap.size≠G; omega)).trans (J HR)))) Tryz.underlying34 rfl (Tryz.infPlK.trans rfl)) rfl ?_;refine⟨by rw [J HP],?_,?_⟩
  ·rw [J HX];exact((Yo.u (w:=V.drewN _) (s:=s) (J HG) (s.u+1)).oth (by omega)).oth (by omega)
  ·exact Mu (Mu (Ud (Zie (J HB) _)) (Nat.le_refl _)) (Nat.le_refl _)
 ·have HP:=Za (show plW T.ag s=(-1,s.c) by unfold plW; rw [if_neg h]);have HX:=Za (show nxW T.ag s=⟨s.u,s.c+8,s.p⟩ by unfold nxW; rw [if_neg h]);clear hGV hTV hRV hBV;go_wp2_with fail
  refine(Zno T s G _ (J HG) hc0 hc1).mono ?_;rintro e w2 ⟨rfl,hg2,hgb⟩;have hs2:=hgb.size;have HR2:=Za ((hgb.block w.heap.size (by omega) (by intro e; injection e with e; omega)).trans (J HR));have HG2:=Za hg2;have HGB:=Za (Ge (J HB) hgb);clear hgb hg2 hs2;go_wp2_with (refine wpList_store_row rfl 34 _ _ rfl w.heap.size #[.int .i64 (-1),.int .i64 s.c] rfl rfl 34 _ (J HR2) (Tryz.infPlK.trans rfl) rfl (by simp [Value.oneCell']) ?_)
  refine bodyPost_ret (Jo (fn:=Tryz.f146) (q:=2) (uy:=34) rfl _ _ w.heap.size 34 #[.int .i64 (-1),.int .i64 s.c] (0,0) _ rfl (setRow_heap _ _ _ _ _ _ (J HR2)) Tryz.underlying34 rfl (Tryz.infPlK.trans rfl)) rfl ?_;refine⟨by rw [J HP],?_,?_⟩
  ·rw [J HX];exact(setRow_other _ _ _ _ (by omega)).trans (J HG2)
  ·exact Zay (J HGB) (Nat.le_refl _)
set_option maxHeartbeats 4000000
set_option maxRecDepth 100000
theorem Zof (f:Zm)(pv b c d:Value)(w:World)(hp:LS 2 w pv f.params.length (fun k=>Nq (f.params.getD k (0,0))))(hn:f.params.length<=8796093022208) :
 Calls Tryz.prog 85 #[.agg #[pv,.int .i64 f.results,b,c,d]] w fun e w'=>∃ v,e=.returned (.agg #[v,.int .i64 f.results])∧Li w' v (Le f).1∧Below w.heap.size w w'∧(∀ sb so n c,v=.slice (some ⟨sb,so,none⟩) n c->w.heap.size<=sb):=by
 obtain⟨ti,hti,hz0,hz1,hz2⟩:=Ly Tryz.infoInt;have hx:=al0 w (.cells #[pv,.int .i64 f.results,b,c,d] 71 (0,0));have hp1:=hp.below hx.2.1;have hx2:=al0 (w.alloc (.cells #[pv,.int .i64 f.results,b,c,d] 71 (0,0))) (.cells #[.slice none 0 0,.int .i64 0] 43 (0,0));have hp2:=hp1.below hx2.2.1;have hx3:=al0 ((w.alloc (.cells #[pv,.int .i64 f.results,b,c,d] 71 (0,0))).alloc (.cells #[.slice none 0 0,.int .i64 0] 43 (0,0))) (.cells #[.slice none 0 0,.int .i64 f.results] 43 (0,0));have hp3:=hp2.below hx3.2.1;have hs1:=hx.2.2;have hs2:=hx2.2.2;have hs3:=hx3.2.2;have hW1:=Zd (Zd hx.2.1 hx2.2.1 (by omega)) hx3.2.1 (by omega);have hrr:=(hx3.2.1.block (w.heap.size+1) (by omega)).trans (hs1 ▸ hx2.1);have hrs:=hx3.1;rw [hs2,hs1] at hrs hs3;obtain⟨p,cap,rfl,hcap,hlt,hc⟩:=hp3.pairs;have hpb:=hp;have HC:=Za hc;have HW1:=Za hW1;have HRS:=Za hrs;have HRR:=Za hrr;have HS3:=Za hs3;have HPB:=Za hp.pairs;clear hc hx hp hp1 hx2 hp2 hW1 hrs hrr hx3 hp3 hs1 hs2 hs3 hpb;go_enter Tryz.func85,Tryz.ntmps85
 go_wp2_with fail
 generalize World.alloc (World.alloc (World.alloc w _) _) _=W at HC HW1 HRS HRR HS3 ⊢;go_loopw [12] (fun j w'=>∃(k:Nat) (v:Value),j=.int .i64 k∧k<=f.params.length∧w'.heap[w.heap.size+1+1]?=some (.cells #[v,.int .i64 f.results] 43 (0,0))∧w'.ownsRow W.heap.size 3 1 v k (wTk f.params k)∧Below (w.heap.size+2) W w') (fun j _=>f.params.length-(intOf j).toNat)
 case atStart=>exact⟨0,_,rfl,by omega,J HRS,World.ownsRow_nil _ _ _ _,Below.refl _ _⟩
 case round =>
  obtain⟨k,v,rfl,hk,hrow,how,hbw⟩:=hrel;have hws:=hbw.size;have cv:=(cR hrow 0);have r0:=fun X:Obj=>(Gm hrow 0 X).trans rfl;have fz:=fun j=>frozen_of_row _ _ j _ _ hrow;obtain⟨vp,vn,vc,hvs⟩:∃ vp vn vc,v=.slice vp vn vc:=by
   rcases how.2 with⟨e,_⟩ | ⟨g,cap,cur,e,_⟩
   ·exact⟨_,_,_,e⟩
   ·exact⟨_,_,_,e⟩
  subst hvs;by_cases hk2:k<f.params.length
  ·obtain⟨p',cap',he,-,-,hcc0⟩:=J HPB;injection he with e1 e2 e3;subst e1 e3;obtain⟨sb,so,rfl,hcc⟩:=hcc0 (by omega);have hsb:sb<w.heap.size:=World.block_lt_of_cell? w _ (hcc k hk2).1;have hbb:Below w.heap.size w wr:=(J HW1).trans (hbw.mono (Nat.le_add_right _ _));have c1:=(hbb.cell (p:=⟨sb,so+k*2,none⟩) hsb).trans (hcc k hk2).1;have c2:=(hbb.cell (p:=⟨sb,so+k*2+1,none⟩) hsb).trans (hcc k hk2).2;have hT:=J HS3;have hTl:w.heap.size+1+1<wr.heap.size:=by omega
   have HTL:=Za hTl;have HTK:=Za (Zbi f.params k hk2);have HOW:=Za how;have HBW:=Za hbw;have HROW:=Za hrow;clear hcc hcc0 how hbw hbb hrow hT hTl e2 fz cv HC;generalize f.params.getD k (0,0)=xy at c1 c2 HTK;obtain⟨x,y⟩:=xy;simp only at c1 c2;go_wp2_with (at_builtin; refine wpList_append_own _ rfl _ _ 23 rfl W.heap.size 3 ti _ 1 8 Tryz.underlying23 hti hz0 hz1 hz2 rfl (by decide) _ _ _ rfl (((J HOW).alloc _).alloc _) ⟨wr.heap.size+1,0,none⟩ 1 1 [.int .i64 x] rfl rfl (by intro j u hj; match j,hj with | 0,hj=>(simp at hj; subst hj; exact(World.cell?_alloc_at _ _ _ _ (by simp)).trans rfl)) (by intro u hu; simp at hu; subst hu; rfl) ?c3 ?c4 ?c5 ?_)
   case c3=>unfold maxLen; omega
   case c4=>omega
   case c5=>first | omega | (simp; omega)
   intro v' w7 hown hgr _;obtain⟨g2,cap2,rfl⟩:=Cs hown;have hTl:=J HTL;have hT:=J HS3;have hne:∀ q,q<W.heap.size->some q≠(Value.slice vp vn vc).ownBlock:=fun q hq e=>by have:=((J HOW).lt q e.symm).1; omega
   have hrow7:=(hgr.block (w.heap.size+1+1) (by simp; omega) (hne _ (by omega))).trans ((((Below.refl wr.heap.size wr).alloc (Nat.le_refl _) _).alloc (by simp) _).block (w.heap.size+1+1) hTl |>.trans (J HROW));have c7:=(cR hrow7 0);have f7:=frozen_of_row _ _ 0 _ _ hrow7;have HNR:=Za (heap_setCell_same w7 (w.heap.size+1+1) 0 _ _ (.slice (some ⟨g2,0,none⟩) (k+1) cap2) hrow7);have HNW:=Za (show w7.ownsRow W.heap.size 3 1 (.slice (some ⟨g2,0,none⟩) (k+1) cap2) (k+1) (wTk f.params (k+1)) by rw [J HTK]; exact hown);have HN2:=Za (Si (w':=w7.setCell ⟨w.heap.size+1+1,0,none⟩ (.slice (some ⟨g2,0,none⟩) (k+1) cap2)) (J HNW) (fun g hg=>heap_setCell_other _ _ _ _ (by show g≠w.heap.size+1+1; omega)));have HB7:=Za (show Below (w.heap.size+2) W (w7.setCell ⟨w.heap.size+1+1,0,none⟩ (.slice (some ⟨g2,0,none⟩) (k+1) cap2)) from
    have hb7:Below (w.heap.size+2) W w7:=(((J HBW).alloc (by omega) _).alloc (by simp; omega) _).trans ⟨hgr.os,hgr.tape,hgr.output,hgr.size,fun q hq=>hgr.block q (by simp; omega) (hne q (by omega))⟩;⟨hb7.os,hb7.tape,hb7.output,by simpa using hb7.size,fun q hq=>(heap_setCell_other _ _ _ _ (by show q≠w.heap.size+1+1; omega)).trans (hb7.block q hq)⟩)
   clear hown hgr hne hTl hT hrow7 r0 c1 c2;go_wp2;go_roundw
   case rel=>exact⟨k+1,_,by go_num,by omega,J HNR,J HN2,J HB7⟩
   case measure=>simp [intOf]; omega
  ·obtain rfl:k=f.params.length:=by omega
   have hvn:vn=f.params.length:=by
    rcases how.2 with⟨e,e0⟩ | ⟨g,cap,cur,e,_⟩
    ·injection e with _ e2 _; omega
    ·injection e with _ e2 _
   subst vn;unfold wTk at how;rw [List.take_length] at how;have hT:=J HS3;have HRR2:=Za ((hbw.block (w.heap.size+1) (by omega)).trans (J HRR));have HRS2:=Za hrow;have HOW:=Za how;have HBW:=Za hbw;clear hrow how hbw hT r0 fz cv;go_wp2_with (first | (refine wpList_load_row rfl 43 (.tmp 3) rfl (w.heap.size+1+1) rfl 43 #[.slice vp f.params.length vc,.int .i64 f.results] (0,0) _ (J HRS2) Tryz.underlying43 rfl (Tryz.infSigK.trans rfl) ?_) | (refine wpList_store_row rfl 43 (.tmp 2) (.tmp 24) rfl (w.heap.size+1) #[.slice vp f.params.length vc,.int .i64 f.results] rfl rfl 43 _ (J HRR2) (Tryz.infSigK.trans rfl) rfl (by simp [Value.oneCell']) ?_))
   refine bodyPost_ret (Jo (fn:=Tryz.f85) (q:=2) (uy:=43) rfl _ _ (w.heap.size+1) 43 #[.slice vp f.params.length vc,.int .i64 f.results] (0,0) _ rfl (setRow_heap _ _ _ _ _ _ (J HRR2)) Tryz.underlying43 rfl (Tryz.infSigK.trans rfl)) rfl ?_;have hT:=J HS3;refine⟨_,rfl,Li.of_own (base:=W.heap.size) (by rw [show((Le f).1).length=f.params.length by simp [Le]]; exact Si (J HOW) (fun g hg=>setRow_other _ _ _ _ (by omega))) (by simp [Le]; omega),Zg ((J HW1).trans ((J HBW).mono (by omega))) (by omega),fun sb so n c e=>by have h:=((J HOW).lt sb (by rw [e]; rfl)).1; omega⟩
end Go.Proofs.YtkenknfgeoecbaaGreatDoor
