import Derived.Test.YtkenknfgeoecbaaGreatDoorCkQ
import Derived.Test.YtkenknfgeoecbaaGreatDoorJ14
import Derived.Test.YtkenknfgeoecbaaGreatDoorJ28
namespace Go.Proofs.YtkenknfgeoecbaaGreatDoor
open Go.RowKit
set_option maxHeartbeats 2000000
set_option maxRecDepth 100000
theorem Ycb (r sp lk t0 t1:Int)(va vr vs:Value)(al sh by_:Int)(pr:Bool)(ag rs ss:List Int)(p:Zj)(fv ev:Value)(A E:Nat→Array Value)(w:World)(hT:Zkp w va vr vs ag rs ss)(hP:Mm w fv ev p A E)(hnn:Zps p)(hN:Zo w)(h1w:2<w.heap.size) :
 Calls Tryz.prog 36 #[.agg (Zu r sp lk t0 t1 va vr vs al sh by_ pr),.agg #[fv,ev]] w fun e w'=>∃ v,e=.returned v∧Lc w' v (Oi (Jn r sp lk t0 t1 ag rs ss al sh by_) r (Yu sp lk t0 t1) p)∧Below w.heap.size w w':=by
 have hx:=al0 w (.cells (Zu r sp lk t0 t1 va vr vs al sh by_ pr) 25 (0,0));generalize hW1:World.alloc w (.cells (Zu r sp lk t0 t1 va vr vs al sh by_ pr) 25 (0,0))=W1 at hx;have hx2:=al0 W1 (.cells #[fv,ev] 62 (0,0));have hs1:=hx.2.2;have hs2:=hx2.2.2;have hb12:=Zd hx.2.1 hx2.2.1 (by omega);have HCK:=Za (Zca r sp lk t0 t1 va vr vs al sh by_ pr ag rs ss p fv ev A E _ (hT.below hb12) (hP.below hb12) hnn (hN.keep hb12) (by omega));have HW:=Za hb12;have HSZ:=Za (show w.heap.size≤(W1.alloc (.cells #[fv,ev] 62 (0,0))).heap.size by omega);obtain⟨pf,cf,rfl⟩:=hP.fs.shape;obtain⟨pe,ce,rfl⟩:=hP.es.shape;obtain⟨pva,cva,rfl⟩:=hT.a.shape;obtain⟨pvr,cvr,rfl⟩:=hT.r.shape;obtain⟨pvs,cvs,rfl⟩:=hT.s.shape;clear hx hx2 hs1 hs2 hb12 hT hP hnn hN h1w;subst hW1;unfold Zu at HCK HW HSZ ⊢;go_enter Tryz.func36,Tryz.ntmps36
 go_wp2_with fail
 generalize World.alloc (World.alloc w _) _=W at HCK HW HSZ ⊢;refine(J HCK).mono ?_;rintro e w2 ⟨v,rfl,he,hb⟩;have HE:=Za he;have HB:=Za (Zd (J HW) hb (J HSZ));clear he hb;go_wp2;go_ret;exact⟨_,rfl,J HE,J HB⟩
theorem Zcb {w:World}{v:Value}{x:Zbz}(hE:Ya w)(h:Lc w v x):Calls Tryz.prog 26 #[v] w fun e w'=>e=.returned (Dw x.e x.f x.b x.a)∧Below w.heap.size w w':=by
 rcases h with⟨rfl,rfl⟩ | ⟨n,-,rfl,rfl⟩ | ⟨q,-,rfl,hb⟩
 ·exact Lu w
 ·exact Lv n w hE
 ·exact Iv _ _ _ _ q w hE hb
theorem Ya.keep {w w':World}(h:Ya w)(hb:Below w.heap.size w w'):Ya w':=(hb.cell (World.block_lt_of_cell? w _ h)).trans h
theorem Lc.shape {w:World}{v:Value}{x:Zbz}(h:Lc w v x):v=.nilIface∨∃ t u,v=.iface t u:=by
 rcases h with⟨rfl,rfl⟩ | ⟨n,-,rfl,rfl⟩ | ⟨q,-,rfl,hb⟩
 ·exact Or.inl rfl
 ·exact Or.inr ⟨_,_,rfl⟩
 ·exact Or.inr ⟨_,_,rfl⟩
theorem Tryz.infFltK:(Tryz.prog.info? 29).map (·.size)=some 4:=by kernel_rfl
theorem Zxt (r sp lk t0 t1:Int)(va vr vs:Value)(al sh by_:Int)(pr:Bool)(ag rs ss:List Int)(p:Zj)(fv ev:Value)(A E:Nat→Array Value)(w:World)(hT:Zkp w va vr vs ag rs ss)(hP:Mm w fv ev p A E)(hnn:Zps p)(hN:Zo w)(h1w:2<w.heap.size)(hE:Ya w) :
 Calls Tryz.prog 23 #[.agg (Zu r sp lk t0 t1 va vr vs al sh by_ pr),.agg #[fv,ev]] w fun e w'=>e=.returned (Dw (Oi (Jn r sp lk t0 t1 ag rs ss al sh by_) r (Yu sp lk t0 t1) p).e (Oi (Jn r sp lk t0 t1 ag rs ss al sh by_) r (Yu sp lk t0 t1) p).f (Oi (Jn r sp lk t0 t1 ag rs ss al sh by_) r (Yu sp lk t0 t1) p).b (Oi (Jn r sp lk t0 t1 ag rs ss al sh by_) r (Yu sp lk t0 t1) p).a)∧Below w.heap.size w w':=by
 have hx:=al0 w (.cells (Zu r sp lk t0 t1 va vr vs al sh by_ pr) 25 (0,0));generalize hW1:World.alloc w (.cells (Zu r sp lk t0 t1 va vr vs al sh by_ pr) 25 (0,0))=W1 at hx;have hx2:=al0 W1 (.cells #[fv,ev] 62 (0,0));generalize hW2:World.alloc W1 (.cells #[fv,ev] 62 (0,0))=W2 at hx2;have hx3:=al0 W2 (.cells #[.int .i64 0,.int .i64 0,.int .i64 0,.int .i64 0] 29 (0,0));have hs1:=hx.2.2;have hs2:=hx2.2.2;have hs3:=hx3.2.2;have hb12:=Zd (Zd hx.2.1 hx2.2.1 (by omega)) hx3.2.1 (by omega);have HCK:=Za (Ycb r sp lk t0 t1 va vr vs al sh by_ pr ag rs ss p fv ev A E _ (hT.below hb12) (hP.below hb12) hnn (hN.keep hb12) (by omega));have HW:=Za hb12;have HE:=Za (hE.keep hb12);have hr3:=hx3.1;rw [hs2,hs1] at hr3 hs3;have HR:=Za hr3;have HSZ:=Za hs3;obtain⟨pf,cf,rfl⟩:=hP.fs.shape;obtain⟨pe,ce,rfl⟩:=hP.es.shape;obtain⟨pva,cva,rfl⟩:=hT.a.shape;obtain⟨pvr,cvr,rfl⟩:=hT.r.shape;obtain⟨pvs,cvs,rfl⟩:=hT.s.shape;clear hx hx2 hx3 hs1 hs2 hs3 hr3 hb12 hT hP hnn hN h1w hE;subst hW1 hW2;unfold Zu at HCK HW HSZ HE HR ⊢;generalize (Oi (Jn r sp lk t0 t1 ag rs ss al sh by_) r (Yu sp lk t0 t1) p)=x at HCK ⊢;obtain⟨xe,xf,xb,xa⟩:=x;go_enter Tryz.func23,Tryz.ntmps23
 go_wp2_with fail
 generalize World.alloc (World.alloc (World.alloc w _) _) _=W at HCK HW HSZ HE HR ⊢;refine(J HCK).mono ?_;rintro e w2 ⟨v,rfl,he,hb⟩;have HER:=Za (Zcb ((J HE).keep hb) he);have hz:=J HSZ;have HB:=Za (Zd (J HW) hb (by omega));have HR2:=Za ((hb.block (w.heap.size+1+1) (by omega)).trans (J HR));have hb2z:=hb.size;have HZ2:=Za (show w.heap.size+1+1<w2.heap.size by omega);clear he hb hz hb2z;go_wp2_with fail
 refine(J HER).mono ?_;rintro e w3 ⟨rfl,hb3⟩;have HB3:=Za (Zd (J HB) hb3 (J HB).size);have HR3:=Za ((hb3.block (w.heap.size+1+1) (J HZ2)).trans (J HR2));clear hb3;unfold Dw;go_wp2_with (refine wpList_store_row rfl 29 (.tmp 4) (.tmp 8) rfl (w.heap.size+1+1) #[.int .i64 xe,.int .i64 xf,.int .i64 xb,.int .i64 xa] rfl rfl 29 _ (J HR3) (Tryz.infFltK.trans rfl) rfl (by simp [Value.oneCell']) ?_)
 refine bodyPost_ret (Gs (fn:=Tryz.f23) (q:=4) (uy:=29) rfl _ _ (w.heap.size+1+1) 29 #[.int .i64 xe,.int .i64 xf,.int .i64 xb,.int .i64 xa] (0,0) _ rfl (setRow_heap _ _ _ _ _ _ (J HR3)) Tryz.underlying29 rfl (Tryz.infFltK.trans rfl)) rfl ?_;exact⟨rfl,Zg (J HB3) (by omega)⟩
end Go.Proofs.YtkenknfgeoecbaaGreatDoor
namespace Go.Proofs.YtkenknfgeoecbaaGreatDoor
open Go.ChangeShapes Go.WideShapes Go.ChangeAt Go.RowKit Go.Deep
theorem Rw {H:Type}{P:Program}{e:TypeId}{d:DataW H}{x:Nat}:∀{l:List (DataW H)},d ∈ l→x ∈ d.weights P e→x ∈ DataW.weightsAll P e l
 | a :: r,hd,hx=>by
  rw [DataW.weightsAll];rcases List.mem_cons.1 hd with rfl | h
  ·exact List.mem_append.2 (Or.inl hx)
  ·exact List.mem_append.2 (Or.inr (Rw h hx))
theorem LS.congr {size:Nat}{w:World}{v:Value}{n:Nat}{A B:Nat→Array Value}(h:LS size w v n A)(e:∀ i,i<n→A i=B i):LS size w v n B:=by obtain⟨p,cap,h1,h2,h3,h4⟩:=h;refine⟨p,cap,h1,h2,h3,fun h0=>?_⟩;obtain⟨sb,so,e1,hl,hc⟩:=h4 h0;exact⟨sb,so,e1,hl,fun i hi=>by rw [← e i hi]; exact hc i hi⟩
section
variable {H:Type} {enc:TypeId×Value→H} {w:World} {held:Bool}
abbrev Zhr (t:TypeId)(d:DataW H):Prop:=∀ x ∈ d.weights Tryz.prog t,x≤reachBytes
theorem Zkq {t e:TypeId}{α:Type}[Inhabited α]{size b:Nat}{One:Array Value×α→Prop}(ht:Tryz.prog.underlying t=some (.slice e))(hc:Tryz.prog.cellsOf e=size)(hs:0<size)(hby:Tryz.prog.bytesOf e=b)
 (elem:∀ n cs y,cs.length=size→TrE enc w held n e cs y→Zhr e y.1→∃ x:α,One (cs.toArray,x))
 {n:Nat} {v:Value} {y:DataW H×List MemPlace} (h:TrE enc w held n t [v] y) (hw:Zhr t y.1) :
 ∃ ps:List (Array Value×α),LS size w v ps.length (fun k=>(ps.getD k (#[],default)).1)∧(∀ q ∈ ps,One q)∧ps.length*b≤reachBytes:=by
 rcases open_slice ht h with⟨h0,h1⟩ | ⟨a,len,cap,m,k,D,Pl,h0,-,hl,hm,hmm,h1,hx⟩
 ·simp at h0;subst h0 h1;exact⟨[],⟨none,0,rfl,Nat.le_refl _,by show 0<Jy; decide,fun h=>absurd h (Nat.lt_irrefl 0)⟩,fun q hq=>(by cases hq),(by simp)⟩
 ·simp at h0;subst h0 h1;simp at hmm;subst hmm;unfold Zhr at hw;simp only [DataW.weights,ht,List.length_map,List.length_range,hby] at hw;have hb0:=hw _ List.mem_cons_self;have each:∀ i,i<len→∃ q:Array Value×α,One q∧w.cells? 0 (a.add (i*size)) size=some q.1.toList:=by intro i hi;obtain⟨cs',g1,g2⟩:=hx i (by omega);rw [hc] at g1;obtain⟨-,hlen,-⟩:=World.cells?_some g1;obtain⟨x,g3⟩:=elem k cs' _ hlen g2 (fun z hz=>hw z (List.mem_cons.2 (Or.inr (List.mem_append.2 (Or.inl (Rw (List.mem_map.2 ⟨i,List.mem_range.2 hi,rfl⟩) hz))))));exact⟨(cs'.toArray,x),g3,by simpa using g1⟩
  haveI:Inhabited (Array Value×α):=⟨(#[],default)⟩
  obtain⟨f,hf⟩:=choose_lt each;have hlenp:((List.range len).map f).length=len:=by simp
  refine⟨(List.range len).map f,?_,?_,?_⟩
  ·rw [hlenp];refine⟨_,_,rfl,hl,Zgd (by omega),fun hpos=>?_⟩;obtain⟨sb,so,spot⟩:=a;have g:=World.cells?_some (hf 0 hpos).2;have hcell:=g.2.2 0 hs;have hlt:0<(f 0).1.toList.length:=by rw [g.2.1]; exact hs
   have hsp:spot=none:=by rw [List.getElem?_eq_getElem hlt] at hcell;simpa [Addr.add] using World.cell?_spot hcell
   subst hsp;have hbk:sb<w.heap.size:=by rw [List.getElem?_eq_getElem hlt] at hcell;have:=World.block_lt_of_cell? w _ hcell;simpa [Addr.add] using this
   refine⟨sb,so,rfl,hbk,fun i hi=>?_⟩;have g:=World.cells?_some (hf i hi).2;have e1:(((List.range len).map f).getD i (#[],default)).1=(f i).1:=by simp [List.getD,hi]
   show w.rangeAt sb (so+i*size) (((List.range len).map f).getD i (#[],default)).1.toList;rw [e1];intro j x hx';have hj:j<size:=by have:=(List.getElem?_eq_some_iff.1 hx').1;rw [g.2.1] at this;exact this
   have:=g.2.2 j hj;rw [hx'] at this;rw [Go.WideShapes.add_plain,Go.WideShapes.add_plain] at this;exact this
  ·intro q hq;obtain⟨i,hi,rfl⟩:=List.mem_map.1 hq;exact(hf i (List.mem_range.1 hi)).1
  ·rw [hlenp];exact Nat.le_trans (Nat.mul_le_mul_right _ (Nat.le_add_right _ _)) hb0
theorem Zpt {α β:Type}(ps:List (α×β))(a:α)(b:β)(k:Nat):(ps.map (·.2)).getD k b=(ps.getD k (a,b)).2:=by simp only [List.getD,List.getElem?_map];cases ps[k]? <;> rfl
theorem Zpu {α:Type}(ps:List α)(d:α)(k:Nat)(h:k<ps.length):ps.getD k d ∈ ps:=by simp [List.getD,h]
end
end Go.Proofs.YtkenknfgeoecbaaGreatDoor
namespace Go.Proofs.YtkenknfgeoecbaaGreatDoor
open Go.RowKit
structure Yh where
 r:Int
 sp:Int
 lk:Int
 t0:Int
 t1:Int
 pa:Option Addr
 ag:List Int
 ca:Nat
 pr:Option Addr
 rs:List Int
 cr:Nat
 ps:Option Addr
 ss:List Int
 cs:Nat
 al:Int
 sh:Int
 br:Int
 pairs:Bool
def Yh.box (T:Yh):Array Value:=#[.int .i64 T.r,.int .i64 T.sp,.int .i64 T.lk,.int .i64 T.t0,.int .i64 T.t1,.slice T.pa T.ag.length T.ca,.slice T.pr T.rs.length T.cr,.slice T.ps T.ss.length T.cs,.int .i64 T.al,.int .i64 T.sh,.int .i64 T.br,.bool T.pairs]
structure TbR (w:World)(b:Nat)(T:Yh):Prop where
 a:Sv w b (.slice T.pa T.ag.length T.ca) T.ag
 r:Sv w b (.slice T.pr T.rs.length T.cr) T.rs
 s:Sv w b (.slice T.ps T.ss.length T.cs) T.ss
theorem Sv.at {w:World}{b:Nat}{p:Option Addr}{c:Nat}{ns:List Int}(h:Sv w b (.slice p ns.length c) ns){k:Nat}(hk:k<ns.length):∃ sb so,p=some ⟨sb,so,none⟩∧sb<b∧∀ i,i<ns.length→w.cell? ⟨sb,so+i,none⟩=some (.int .i64 (ns.getD i 0)):=by
 rcases h with⟨e,-⟩ | ⟨sb,so,cap,hv,hb,hc⟩
 ·rw [e] at hk; simp at hk
 ·injection hv with h1 h2 h3;exact⟨sb,so,h1,hb,hc⟩
theorem TbR.gb {w w':World}{b:Nat}{T:Yh}(h:TbR w b T)(hw:w.grownBy w' (some b))(hb:b<w.heap.size):TbR w' b T:=⟨h.a.gb hw hb,h.r.gb hw hb,h.s.gb hw hb⟩
def Zia (T:Yh)(s:Jq):Array Value:=#[.int .i64 T.r,.int .i64 T.sp,.int .i64 T.lk,.int .i64 T.t0,.int .i64 T.t1,.slice T.pa T.ag.length T.ca,.slice T.pr T.rs.length T.cr,.slice T.ps T.ss.length T.cs,.int .i64 T.al,.int .i64 T.sh,.int .i64 T.br,.bool T.pairs,.int .i64 s.u,.int .i64 s.c,.int .i64 s.p]
def Yn (w:World)(G:Nat)(T:Yh)(s:Jq):Prop:=w.heap[G]?=some (.cells (Zia T s) 231 (0,0))
def Uu (w:World)(B:Nat)(v:Value)(xs:List (Int×Int)):Prop:=w.ownsRow B 34 2 v xs.length (Rr xs)
def Ci:Zfx:=⟨[],false,0⟩
def Io (pvs:List Value)(sps:List Zfx):List Value:=(pvs.zip sps).flatMap fun x=>[x.1,.bool x.2.ref,.int .i64 x.2.at_]
structure Uv (w:World)(B:Nat)(av rv:Value)(l:Zce)(pvs:List Value):Prop where
 len:pvs.length=l.args.length
 args:w.ownsRow B 52 3 av l.args.length (Io pvs l.args)
 each:∀ k,k<l.args.length→Uu w B (pvs.getD k undef) (l.args.getD k Ci).pl
 res:Uu w B rv l.res
theorem Zpx (pvs:List Value)(sps:List Zfx)(pv:Value)(sp:Zfx)(h:pvs.length=sps.length):Io (pvs++[pv]) (sps++[sp])=Io pvs sps++[pv,.bool sp.ref,.int .i64 sp.at_]:=by unfold Io;rw [List.zip_append h];simp
theorem Yd {w w':World}{B n size:Nat}{e:TypeId}{v:Value}{xs:List Value}{o:Option Nat}(h:w.ownsRow B e size v n xs)(hg:w.grownBy w' o)(hne:∀ g,v.ownBlock=some g→o≠some g):w'.ownsRow B e size v n xs :=
 h.kept hg (by
  cases hv:v.ownBlock with
  | none=>exact Or.inl rfl
  | some g=>exact Or.inr (fun e=>hne g hv e.symm))
theorem Ud {w u:World}{b j:Nat}{v:Value}(h:w.grownBy u (some b)):w.grownBy (u.setCell ⟨b,j,none⟩ v) (some b) :=
 ⟨h.os,h.tape,h.output,by simpa using h.size,fun q hq hne=>(heap_setCell_other _ _ _ _ (by intro e; exact hne (by rw [e]))).trans (h.block q hq hne)⟩
theorem Zyd {w u:World}{b:Nat}(X:Obj)(h:w.grownBy u (some b)):w.grownBy (u.alloc X) (some b) :=
 ⟨h.os,h.tape,h.output,by have:=h.size; simp; omega,fun q hq hne=>((al0 u X).2.1.block q (Nat.lt_of_lt_of_le hq h.size)).trans (h.block q hq hne)⟩
theorem Ol (w:World)(o:Option Nat):w.grownBy w o:=⟨rfl,rfl,rfl,Nat.le_refl _,fun _ _ _=>rfl⟩
theorem Yn.lt {w:World}{G:Nat}{T:Yh}{s:Jq}(h:Yn w G T s):G<w.heap.size:=Zi h
theorem Yn.new {w:World}{G:Nat}{T:Yh}{s:Jq}(h:Yn w G T s)(X:Obj):Yn (w.alloc X) G T s:=((al0 w X).2.1.block G h.lt).trans h
theorem Yn.gb {w w':World}{G:Nat}{T:Yh}{s:Jq}(h:Yn w G T s)(hg:w.grownBy w' none):Yn w' G T s:=(hg.block G h.lt (by simp)).trans h
theorem Yn.u {w:World}{G:Nat}{T:Yh}{s:Jq}(h:Yn w G T s)(n:Nat):Yn (w.setCell ⟨G,12,none⟩ (.int .i64 n)) G T ⟨n,s.c,s.p⟩:=heap_setCell_same _ _ _ _ _ _ h
theorem Yn.c {w:World}{G:Nat}{T:Yh}{s:Jq}(h:Yn w G T s)(n:Int):Yn (w.setCell ⟨G,13,none⟩ (.int .i64 n)) G T ⟨s.u,n,s.p⟩:=heap_setCell_same _ _ _ _ _ _ h
theorem Yn.p {w:World}{G:Nat}{T:Yh}{s:Jq}(h:Yn w G T s)(n:Int):Yn (w.setCell ⟨G,14,none⟩ (.int .i64 n)) G T ⟨s.u,s.c,n⟩:=heap_setCell_same _ _ _ _ _ _ h
theorem Yn.cell {w:World}{G:Nat}{T:Yh}{s:Jq}(h:Yn w G T s)(j:Nat):w.cell? ⟨G,j,none⟩=(Zia T s)[j]?:=Zh h j
theorem Yn.oth {w:World}{G b j:Nat}{v:Value}{T:Yh}{s:Jq}(h:Yn w G T s)(hne:G≠b):Yn (w.setCell ⟨b,j,none⟩ v) G T s:=(heap_setCell_other _ _ _ _ hne).trans h
theorem Mz {w u:World}{b j:Nat}{v:Value}{o:Option Nat}(h:w.grownBy u o)(hb:w.heap.size≤b):w.grownBy (u.setCell ⟨b,j,none⟩ v) o :=
 ⟨h.os,h.tape,h.output,by simpa using h.size,fun q hq hne=>(heap_setCell_other _ _ _ _ (by show q≠b; omega)).trans (h.block q hq hne)⟩
theorem Zbj {w u:World}{T:Nat}{cs:Array Value}{o:Option Nat}(h:w.grownBy u o)(hb:w.heap.size≤T):w.grownBy (u.setRow T cs) o :=
 ⟨h.os,h.tape,h.output,by have:=h.size; simpa [World.setRow] using this,fun q hq hne=>(setRow_other u T q cs (by omega)).trans (h.block q hq hne)⟩
theorem Zib {w u:World}{o:Option Nat}(h:w.grownBy u o)(k:Nat):w.grownBy (u.drewN k) o:=⟨h.os,h.tape,h.output,h.size,h.block⟩
theorem Yn.k5 {w:World}{G:Nat}{T:Yh}{s:Jq}(h:Yn w G T s):w.cell? ⟨G,5,none⟩=some (.slice T.pa T.ag.length T.ca):=Zh h 5
theorem Yn.k6 {w:World}{G:Nat}{T:Yh}{s:Jq}(h:Yn w G T s):w.cell? ⟨G,6,none⟩=some (.slice T.pr T.rs.length T.cr):=Zh h 6
theorem Yn.k10 {w:World}{G:Nat}{T:Yh}{s:Jq}(h:Yn w G T s):w.cell? ⟨G,10,none⟩=some (.int .i64 T.br):=Zh h 10
theorem Yn.k11 {w:World}{G:Nat}{T:Yh}{s:Jq}(h:Yn w G T s):w.cell? ⟨G,11,none⟩=some (.bool T.pairs):=Zh h 11
theorem Yn.k12 {w:World}{G:Nat}{T:Yh}{s:Jq}(h:Yn w G T s):w.cell? ⟨G,12,none⟩=some (.int .i64 s.u):=Zh h 12
theorem Yn.k13 {w:World}{G:Nat}{T:Yh}{s:Jq}(h:Yn w G T s):w.cell? ⟨G,13,none⟩=some (.int .i64 s.c):=Zh h 13
theorem Yn.k14 {w:World}{G:Nat}{T:Yh}{s:Jq}(h:Yn w G T s):w.cell? ⟨G,14,none⟩=some (.int .i64 s.p):=Zh h 14
theorem Yn.fz {w:World}{G:Nat}{T:Yh}{s:Jq}(h:Yn w G T s)(j:Nat):w.frozen? ⟨G,j,none⟩=false:=frozen_of_row _ _ j _ _ h
theorem Gh {a b c:World}{o:Option Nat}(h:a.grownBy b o)(k:b.grownBy c o):a.grownBy c o :=
 ⟨k.os.trans h.os,k.tape.trans h.tape,k.output.trans h.output,Nat.le_trans h.size k.size,fun q hq hne=>(k.block q (Nat.lt_of_lt_of_le hq h.size) hne).trans (h.block q hq hne)⟩
theorem Xe {a b:World}{o:Option Nat}(h:Below a.heap.size a b):a.grownBy b o:=⟨h.os,h.tape,h.output,h.size,fun q hq _=>h.block q hq⟩
set_option maxHeartbeats 2000000
def plW (ag:List Int)(s:Jq):Int×Int:=if s.u<ag.length then (ag.getD s.u 0,0) else (-1,s.c)
def nxW (ag:List Int)(s:Jq):Jq:=if s.u<ag.length then ⟨s.u+1,s.c,s.p⟩ else ⟨s.u,s.c+8,s.p⟩
theorem Zno (T:Yh)(s:Jq)(G:Nat)(w:World)(hG:Yn w G T s)(hc0:-1000000≤s.c)(hc1:s.c≤1000000) :
 Calls Tryz.prog 149 #[.pointer (some ⟨G,0,none⟩)] w fun e w'=>e=.returned (.agg #[.int .i64 (-1),.int .i64 s.c])∧Yn w' G T ⟨s.u,s.c+8,s.p⟩∧w.grownBy w' (some G):=by
 have HG:=Za hG;have y:=fun X:Obj=>(hG.new X).k13;have fz:=fun X:Obj=>(hG.new X).fz 13;clear hG;go_enter Tryz.func149,Tryz.ntmps149
 go_wp2;go_returns;have hlt:=(J HG).lt;exact⟨rfl,((((J HG).new _).c _).oth (by omega)).oth (by omega),Mz (Mz (Ud (Zyd _ (Ol w _))) (Nat.le_refl _)) (Nat.le_refl _)⟩
theorem Zxv (T:Yh)(s:Jq)(G:Nat)(n:Int)(w:World)(hG:Yn w G T s)(hc0:0≤s.p)(hc1:s.p≤1000000)(hn0:0≤n)(hn1:n≤1000) :
 Calls Tryz.prog 147 #[.pointer (some ⟨G,0,none⟩),.int .i64 n] w fun e w'=>e=.returned (.int .i64 s.p)∧Yn w' G T ⟨s.u,s.c,s.p+8*n⟩∧w.grownBy w' (some G):=by
 have HG:=Za hG;have y:=hG.k14;have fz:=hG.fz 14;clear hG;go_enter Tryz.func147,Tryz.ntmps147
 go_wp2;go_ret;exact⟨rfl,(J HG).p _,Ud (Ol w _)⟩
theorem Tryz.infPlK:(Tryz.prog.info? 34).map (·.size)=some 2:=by kernel_rfl
theorem Znp (T:Yh)(s:Jq)(G:Nat)(w:World)(hG:Yn w G T s)(hT:TbR w G T)(hL:T.ag.length≤1000000)(hu:s.u≤1000000)(hc0:-1000000≤s.c)(hc1:s.c≤1000000) :
 Calls Tryz.prog 146 #[.pointer (some ⟨G,0,none⟩)] w fun e w'=>e=.returned (.agg #[.int .i64 (plW T.ag s).1,.int .i64 (plW T.ag s).2])∧Yn w' G T (nxW T.ag s)∧w.grownBy w' (some G):=by
 have HG:=Za hG;have HT:=Za hT;have hlt:=hG.lt;have y:=fun X:Obj=>(hG.new X).k12;have y5:=fun X:Obj=>(hG.new X).k5;have hl:T.ag.length<9223372036854775808:=by omega
 clear hG hT;go_enter Tryz.func146,Tryz.ntmps146
 go_wp2_with fail
 go_quiet (fail)
 clear y y5;obtain⟨hR,hB,hs⟩:=al0 w (.cells #[.int .i64 0,.int .i64 0] 34 (0,0));have HGV:=Za (fun k:Nat=>show Yn ((w.alloc (.cells #[.int .i64 0,.int .i64 0] 34 (0,0))).drewN k) G T s from(J HG).new _);have HTV:=Za (fun k:Nat=>(J HT).gb (Xe (o:=some G) (Oz hB k)) hlt);have HRV:=Za (fun k:Nat=>show((w.alloc (.cells #[.int .i64 0,.int .i64 0] 34 (0,0))).drewN k).heap[w.heap.size]?=_ from hR);have HBV:=Za (fun k:Nat=>Xe (o:=some G) (Oz hB k));have HSV:=Za (fun k:Nat=>show((w.alloc (.cells #[.int .i64 0,.int .i64 0] 34 (0,0))).drewN k).heap.size=w.heap.size+1 from hs);clear hR hB hs HG HT;generalize World.alloc w _=V0 at HGV HTV HRV HBV HSV ⊢;generalize hk:V0.drewN _=V;obtain⟨hGV,hTV,hRV,hBV,hSV⟩:Yn V G T s∧TbR V G T∧V.heap[w.heap.size]?=some (.cells #[.int .i64 0,.int .i64 0] 34 (0,0))∧w.grownBy V (some G)∧V.heap.size=w.heap.size+1:=by subst hk;exact⟨J HGV _,J HTV _,J HRV _,J HBV _,J HSV _⟩
 clear hk HGV HTV HRV HBV HSV;have HG:=Za hGV;have HR:=Za hRV;have HB:=Za hBV;by_cases h:s.u<T.ag.length
 ·have HP:=Za (show plW T.ag s=(T.ag.getD s.u 0,0) by unfold plW; rw [if_pos h]);have HX:=Za (show nxW T.ag s=⟨s.u+1,s.c,s.p⟩ by unfold nxW; rw [if_pos h]);obtain⟨sb,so,hpa,-,hc⟩:=hTV.a.at h;have c:=hc s.u h;have y:=hGV.k12;have y5:=hGV.k5;rw [hpa] at y5;have fz:=hGV.fz 12;have r0:=(cR hRV 0);have r1:=(cR hRV 1);have z0:=frozen_of_row _ _ 0 _ _ hRV;have z1:=frozen_of_row _ _ 1 _ _ hRV;clear hGV hTV hRV hBV hc;generalize T.ag.getD s.u 0=x at HP c;go_wp2_with fail
  go_quiet (fail)
  go_wp2;refine bodyPost_ret (Gs (fn:=Tryz.f146) (q:=2) (uy:=34) rfl _ _ w.heap.size 34 #[.int .i64 x,.int .i64 0] (0,0) _ rfl (heap_setCell_same _ _ 1 _ _ _ (heap_setCell_same _ _ 0 _ _ _ ((heap_setCell_other _ _ _ _ (by show w.heap.size≠G; omega)).trans (J HR)))) Tryz.underlying34 rfl (Tryz.infPlK.trans rfl)) rfl ?_;refine⟨by rw [J HP],?_,?_⟩
  ·rw [J HX];exact((Yn.u (w:=V.drewN _) (s:=s) (J HG) (s.u+1)).oth (by omega)).oth (by omega)
  ·exact Mz (Mz (Ud (Zib (J HB) _)) (Nat.le_refl _)) (Nat.le_refl _)
 ·have HP:=Za (show plW T.ag s=(-1,s.c) by unfold plW; rw [if_neg h]);have HX:=Za (show nxW T.ag s=⟨s.u,s.c+8,s.p⟩ by unfold nxW; rw [if_neg h]);clear hGV hTV hRV hBV;go_wp2_with fail
  refine(Zno T s G _ (J HG) hc0 hc1).mono ?_;rintro e w2 ⟨rfl,hg2,hgb⟩;have hs2:=hgb.size;have HR2:=Za ((hgb.block w.heap.size (by omega) (by intro e; injection e with e; omega)).trans (J HR));have HG2:=Za hg2;have HGB:=Za (Gh (J HB) hgb);clear hgb hg2 hs2;go_wp2_with (refine wpList_store_row rfl 34 _ _ rfl w.heap.size #[.int .i64 (-1),.int .i64 s.c] rfl rfl 34 _ (J HR2) (Tryz.infPlK.trans rfl) rfl (by simp [Value.oneCell']) ?_)
  refine bodyPost_ret (Gs (fn:=Tryz.f146) (q:=2) (uy:=34) rfl _ _ w.heap.size 34 #[.int .i64 (-1),.int .i64 s.c] (0,0) _ rfl (setRow_heap _ _ _ _ _ _ (J HR2)) Tryz.underlying34 rfl (Tryz.infPlK.trans rfl)) rfl ?_;refine⟨by rw [J HP],?_,?_⟩
  ·rw [J HX];exact(setRow_other _ _ _ _ (by omega)).trans (J HG2)
  ·exact Zbj (J HGB) (Nat.le_refl _)
end Go.Proofs.YtkenknfgeoecbaaGreatDoor
