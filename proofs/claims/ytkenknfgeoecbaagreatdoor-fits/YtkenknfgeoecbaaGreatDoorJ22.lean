import Derived.Test.YtkenknfgeoecbaaGreatDoorJ18
import Derived.Test.YtkenknfgeoecbaaGreatDoorJ21
namespace Go.Proofs.YtkenknfgeoecbaaGreatDoor
open Go.RowKit
structure Yc where
 r:Int
 sp:Int
 lk:Int
 t0:Int
 t1:Int
 pa:Option Addr
 ag:List Int
 ca:Nat
 pr:Option Addr
 rs:List Int
 cr:Nat
 ps:Option Addr
 ss:List Int
 cs:Nat
 al:Int
 sh:Int
 br:Int
 pairs:Bool
def Yc.box (T:Yc):Array Value:=#[.int .i64 T.r,.int .i64 T.sp,.int .i64 T.lk,.int .i64 T.t0,.int .i64 T.t1,.slice T.pa T.ag.length T.ca,.slice T.pr T.rs.length T.cr,.slice T.ps T.ss.length T.cs,.int .i64 T.al,.int .i64 T.sh,.int .i64 T.br,.bool T.pairs]
structure TbR (w:World)(b:Nat)(T:Yc):Prop where
 a:Kl w b (.slice T.pa T.ag.length T.ca) T.ag
 r:Kl w b (.slice T.pr T.rs.length T.cr) T.rs
 s:Kl w b (.slice T.ps T.ss.length T.cs) T.ss
theorem Kl.at {w:World}{b:Nat}{p:Option Addr}{c:Nat}{ns:List Int}(h:Kl w b (.slice p ns.length c) ns){k:Nat}(hk:k<ns.length):∃ sb so,p=some ⟨sb,so,none⟩∧sb<b∧∀ i,i<ns.length->w.cell? ⟨sb,so+i,none⟩=some (.int .i64 (ns.getD i 0)):=by
 rcases h with⟨e,-⟩ | ⟨sb,so,cap,hv,hb,hc⟩
 ·rw [e] at hk; simp at hk
 ·injection hv with h1 h2 h3;exact⟨sb,so,h1,hb,hc⟩
theorem TbR.gb {w w':World}{b:Nat}{T:Yc}(h:TbR w b T)(hw:w.grownBy w' (some b))(hb:b<w.heap.size):TbR w' b T:=⟨h.a.gb hw hb,h.r.gb hw hb,h.s.gb hw hb⟩
def Zis (T:Yc)(s:Jy):Array Value:=#[.int .i64 T.r,.int .i64 T.sp,.int .i64 T.lk,.int .i64 T.t0,.int .i64 T.t1,.slice T.pa T.ag.length T.ca,.slice T.pr T.rs.length T.cr,.slice T.ps T.ss.length T.cs,.int .i64 T.al,.int .i64 T.sh,.int .i64 T.br,.bool T.pairs,.int .i64 s.u,.int .i64 s.c,.int .i64 s.p]
def Yn (w:World)(G:Nat)(T:Yc)(s:Jy):Prop:=w.heap[G]?=some (.cells (Zis T s) 231 (0,0))
def Cq (w:World)(B:Nat)(v:Value)(xs:List (Int×Int)):Prop:=w.ownsRow B 34 2 v xs.length (plC xs)
def Zsz:Zir:=⟨[],false,0⟩
def Zit (pvs:List Value)(sps:List Zir):List Value:=(pvs.zip sps).flatMap fun x=>[x.1,.bool x.2.ref,.int .i64 x.2.at_]
structure Oq (w:World)(B:Nat)(av rv:Value)(l:Cp)(pvs:List Value):Prop where
 len:pvs.length=l.args.length
 args:w.ownsRow B 52 3 av l.args.length (Zit pvs l.args)
 each:∀ k,k<l.args.length->Cq w B (pvs.getD k undef) (l.args.getD k Zsz).pl
 res:Cq w B rv l.res
theorem Zqc (pvs:List Value)(sps:List Zir)(pv:Value)(sp:Zir)(h:pvs.length=sps.length):Zit (pvs++[pv]) (sps++[sp])=Zit pvs sps++[pv,.bool sp.ref,.int .i64 sp.at_]:=by unfold Zit;rw [List.zip_append h];simp
theorem Xc {w w':World}{B n size:Nat}{e:TypeId}{v:Value}{xs:List Value}{o:Option Nat}(h:w.ownsRow B e size v n xs)(hg:w.grownBy w' o)(hne:∀ g,v.ownBlock=some g->o≠some g):w'.ownsRow B e size v n xs :=
 h.kept hg (by
  cases hv:v.ownBlock with
  | none=>exact Or.inl rfl
  | some g=>exact Or.inr (fun e=>hne g hv e.symm))
theorem Uo {w u:World}{b j:Nat}{v:Value}(h:w.grownBy u (some b)):w.grownBy (u.setCell ⟨b,j,none⟩ v) (some b) :=
 ⟨h.os,h.tape,h.output,by simpa using h.size,fun q hq hne=>(heap_setCell_other _ _ _ _ (by intro e; exact hne (by rw [e]))).trans (h.block q hq hne)⟩
theorem Zyk {w u:World}{b:Nat}(X:Obj)(h:w.grownBy u (some b)):w.grownBy (u.alloc X) (some b) :=
 ⟨h.os,h.tape,h.output,by have:=h.size; simp; omega,fun q hq hne=>((al0 u X).2.1.block q (Nat.lt_of_lt_of_le hq h.size)).trans (h.block q hq hne)⟩
theorem Ot (w:World)(o:Option Nat):w.grownBy w o:=⟨rfl,rfl,rfl,Nat.le_refl _,fun _ _ _=>rfl⟩
theorem Yn.lt {w:World}{G:Nat}{T:Yc}{s:Jy}(h:Yn w G T s):G<w.heap.size:=Zi h
theorem Yn.new {w:World}{G:Nat}{T:Yc}{s:Jy}(h:Yn w G T s)(X:Obj):Yn (w.alloc X) G T s:=((al0 w X).2.1.block G h.lt).trans h
theorem Yn.gb {w w':World}{G:Nat}{T:Yc}{s:Jy}(h:Yn w G T s)(hg:w.grownBy w' none):Yn w' G T s:=(hg.block G h.lt (by simp)).trans h
theorem Yn.u {w:World}{G:Nat}{T:Yc}{s:Jy}(h:Yn w G T s)(n:Nat):Yn (w.setCell ⟨G,12,none⟩ (.int .i64 n)) G T ⟨n,s.c,s.p⟩:=heap_setCell_same _ _ _ _ _ _ h
theorem Yn.c {w:World}{G:Nat}{T:Yc}{s:Jy}(h:Yn w G T s)(n:Int):Yn (w.setCell ⟨G,13,none⟩ (.int .i64 n)) G T ⟨s.u,n,s.p⟩:=heap_setCell_same _ _ _ _ _ _ h
theorem Yn.p {w:World}{G:Nat}{T:Yc}{s:Jy}(h:Yn w G T s)(n:Int):Yn (w.setCell ⟨G,14,none⟩ (.int .i64 n)) G T ⟨s.u,s.c,n⟩:=heap_setCell_same _ _ _ _ _ _ h
theorem Yn.cell {w:World}{G:Nat}{T:Yc}{s:Jy}(h:Yn w G T s)(j:Nat):w.cell? ⟨G,j,none⟩=(Zis T s)[j]?:=Zl h j
theorem Yn.oth {w:World}{G b j:Nat}{v:Value}{T:Yc}{s:Jy}(h:Yn w G T s)(hne:G≠b):Yn (w.setCell ⟨b,j,none⟩ v) G T s:=(heap_setCell_other _ _ _ _ hne).trans h
theorem Nj {w u:World}{b j:Nat}{v:Value}{o:Option Nat}(h:w.grownBy u o)(hb:w.heap.size<=b):w.grownBy (u.setCell ⟨b,j,none⟩ v) o :=
 ⟨h.os,h.tape,h.output,by simpa using h.size,fun q hq hne=>(heap_setCell_other _ _ _ _ (by show q≠b; omega)).trans (h.block q hq hne)⟩
theorem Zcb {w u:World}{T:Nat}{cs:Array Value}{o:Option Nat}(h:w.grownBy u o)(hb:w.heap.size<=T):w.grownBy (u.setRow T cs) o :=
 ⟨h.os,h.tape,h.output,by have:=h.size; simpa [World.setRow] using this,fun q hq hne=>(setRow_other u T q cs (by omega)).trans (h.block q hq hne)⟩
theorem Ziu {w u:World}{o:Option Nat}(h:w.grownBy u o)(k:Nat):w.grownBy (u.drewN k) o:=⟨h.os,h.tape,h.output,h.size,h.block⟩
theorem Yn.k5 {w:World}{G:Nat}{T:Yc}{s:Jy}(h:Yn w G T s):w.cell? ⟨G,5,none⟩=some (.slice T.pa T.ag.length T.ca):=Zl h 5
theorem Yn.k6 {w:World}{G:Nat}{T:Yc}{s:Jy}(h:Yn w G T s):w.cell? ⟨G,6,none⟩=some (.slice T.pr T.rs.length T.cr):=Zl h 6
theorem Yn.k10 {w:World}{G:Nat}{T:Yc}{s:Jy}(h:Yn w G T s):w.cell? ⟨G,10,none⟩=some (.int .i64 T.br):=Zl h 10
theorem Yn.k11 {w:World}{G:Nat}{T:Yc}{s:Jy}(h:Yn w G T s):w.cell? ⟨G,11,none⟩=some (.bool T.pairs):=Zl h 11
theorem Yn.k12 {w:World}{G:Nat}{T:Yc}{s:Jy}(h:Yn w G T s):w.cell? ⟨G,12,none⟩=some (.int .i64 s.u):=Zl h 12
theorem Yn.k13 {w:World}{G:Nat}{T:Yc}{s:Jy}(h:Yn w G T s):w.cell? ⟨G,13,none⟩=some (.int .i64 s.c):=Zl h 13
theorem Yn.k14 {w:World}{G:Nat}{T:Yc}{s:Jy}(h:Yn w G T s):w.cell? ⟨G,14,none⟩=some (.int .i64 s.p):=Zl h 14
theorem Yn.fz {w:World}{G:Nat}{T:Yc}{s:Jy}(h:Yn w G T s)(j:Nat):w.frozen? ⟨G,j,none⟩=false:=frozen_of_row _ _ j _ _ h
theorem Gn {a b c:World}{o:Option Nat}(h:a.grownBy b o)(k:b.grownBy c o):a.grownBy c o :=
 ⟨k.os.trans h.os,k.tape.trans h.tape,k.output.trans h.output,Nat.le_trans h.size k.size,fun q hq hne=>(k.block q (Nat.lt_of_lt_of_le hq h.size) hne).trans (h.block q hq hne)⟩
theorem Jj {a b:World}{o:Option Nat}(h:Below a.heap.size a b):a.grownBy b o:=⟨h.os,h.tape,h.output,h.size,fun q hq _=>h.block q hq⟩
set_option maxHeartbeats 2000000
def plW (ag:List Int)(s:Jy):Int×Int:=if s.u<ag.length then (ag.getD s.u 0,0) else (-1,s.c)
def nxW (ag:List Int)(s:Jy):Jy:=if s.u<ag.length then ⟨s.u+1,s.c,s.p⟩ else ⟨s.u,s.c+8,s.p⟩
theorem Znx (T:Yc)(s:Jy)(G:Nat)(w:World)(hG:Yn w G T s)(hc0:-1000000<=s.c)(hc1:s.c<=1000000) :
 Calls Tryz.prog 149 #[.pointer (some ⟨G,0,none⟩)] w fun e w'=>e=.returned (.agg #[.int .i64 (-1),.int .i64 s.c])∧Yn w' G T ⟨s.u,s.c+8,s.p⟩∧w.grownBy w' (some G):=by
 have HG:=O hG;have y:=fun X:Obj=>(hG.new X).k13;have fz:=fun X:Obj=>(hG.new X).fz 13;clear hG;go_enter Tryz.func149,Tryz.ntmps149
 go_wp2;go_returns;have hlt:=(J HG).lt;exact⟨rfl,((((J HG).new _).c _).oth (by omega)).oth (by omega),Nj (Nj (Uo (Zyk _ (Ot w _))) (Nat.le_refl _)) (Nat.le_refl _)⟩
theorem Zyb (T:Yc)(s:Jy)(G:Nat)(n:Int)(w:World)(hG:Yn w G T s)(hc0:0<=s.p)(hc1:s.p<=1000000)(hn0:0<=n)(hn1:n<=1000) :
 Calls Tryz.prog 147 #[.pointer (some ⟨G,0,none⟩),.int .i64 n] w fun e w'=>e=.returned (.int .i64 s.p)∧Yn w' G T ⟨s.u,s.c,s.p+8*n⟩∧w.grownBy w' (some G):=by
 have HG:=O hG;have y:=hG.k14;have fz:=hG.fz 14;clear hG;go_enter Tryz.func147,Tryz.ntmps147
 go_wp2;go_ret;exact⟨rfl,(J HG).p _,Uo (Ot w _)⟩
theorem Tryz.infPlK:(Tryz.prog.info? 34).map (·.size)=some 2:=by kernel_rfl
theorem Zny (T:Yc)(s:Jy)(G:Nat)(w:World)(hG:Yn w G T s)(hT:TbR w G T)(hL:T.ag.length<=1000000)(hu:s.u<=1000000)(hc0:-1000000<=s.c)(hc1:s.c<=1000000) :
 Calls Tryz.prog 146 #[.pointer (some ⟨G,0,none⟩)] w fun e w'=>e=.returned (.agg #[.int .i64 (plW T.ag s).1,.int .i64 (plW T.ag s).2])∧Yn w' G T (nxW T.ag s)∧w.grownBy w' (some G):=by
 have HG:=O hG;have HT:=O hT;have hlt:=hG.lt;have y:=fun X:Obj=>(hG.new X).k12;have y5:=fun X:Obj=>(hG.new X).k5;have hl:T.ag.length<9223372036854775808:=by omega
 clear hG hT;go_enter Tryz.func146,Tryz.ntmps146
 go_wp2_with fail
 go_quiet (fail)
 clear y y5;obtain⟨hR,hB,hs⟩:=al0 w (.cells #[.int .i64 0,.int .i64 0] 34 (0,0));have HGV:=O (fun k:Nat=>show Yn ((w.alloc (.cells #[.int .i64 0,.int .i64 0] 34 (0,0))).drewN k) G T s from(J HG).new _);have HTV:=O (fun k:Nat=>(J HT).gb (Jj (o:=some G) (Ge hB k)) hlt);have HRV:=O (fun k:Nat=>show((w.alloc (.cells #[.int .i64 0,.int .i64 0] 34 (0,0))).drewN k).heap[w.heap.size]?=_ from hR);have HBV:=O (fun k:Nat=>Jj (o:=some G) (Ge hB k));have HSV:=O (fun k:Nat=>show((w.alloc (.cells #[.int .i64 0,.int .i64 0] 34 (0,0))).drewN k).heap.size=w.heap.size+1 from hs);clear hR hB hs HG HT;generalize World.alloc w _=V0 at HGV HTV HRV HBV HSV ⊢;generalize hk:V0.drewN _=V;obtain⟨hGV,hTV,hRV,hBV,hSV⟩:Yn V G T s∧TbR V G T∧V.heap[w.heap.size]?=some (.cells #[.int .i64 0,.int .i64 0] 34 (0,0))∧w.grownBy V (some G)∧V.heap.size=w.heap.size+1:=by subst hk;exact⟨J HGV _,J HTV _,J HRV _,J HBV _,J HSV _⟩
 clear hk HGV HTV HRV HBV HSV;have HG:=O hGV;have HR:=O hRV;have HB:=O hBV;by_cases h:s.u<T.ag.length
 ·have HP:=O (show plW T.ag s=(T.ag.getD s.u 0,0) by unfold plW; rw [if_pos h]);have HX:=O (show nxW T.ag s=⟨s.u+1,s.c,s.p⟩ by unfold nxW; rw [if_pos h]);obtain⟨sb,so,hpa,-,hc⟩:=hTV.a.at h;have c:=hc s.u h;have y:=hGV.k12;have y5:=hGV.k5;rw [hpa] at y5;have fz:=hGV.fz 12;have r0:=(cR hRV 0);have r1:=(cR hRV 1);have z0:=frozen_of_row _ _ 0 _ _ hRV;have z1:=frozen_of_row _ _ 1 _ _ hRV;clear hGV hTV hRV hBV hc;generalize T.ag.getD s.u 0=x at HP c;go_wp2_with fail
  go_quiet (fail)
  go_wp2;refine bodyPost_ret (Gx (fn:=Tryz.f146) (q:=2) (uy:=34) rfl _ _ w.heap.size 34 #[.int .i64 x,.int .i64 0] (0,0) _ rfl (heap_setCell_same _ _ 1 _ _ _ (heap_setCell_same _ _ 0 _ _ _ ((heap_setCell_other _ _ _ _ (by show w.heap.size≠G; omega)).trans (J HR)))) Tryz.underlying34 rfl (Tryz.infPlK.trans rfl)) rfl ?_;refine⟨by rw [J HP],?_,?_⟩
  ·rw [J HX];exact((Yn.u (w:=V.drewN _) (s:=s) (J HG) (s.u+1)).oth (by omega)).oth (by omega)
  ·exact Nj (Nj (Uo (Ziu (J HB) _)) (Nat.le_refl _)) (Nat.le_refl _)
 ·have HP:=O (show plW T.ag s=(-1,s.c) by unfold plW; rw [if_neg h]);have HX:=O (show nxW T.ag s=⟨s.u,s.c+8,s.p⟩ by unfold nxW; rw [if_neg h]);clear hGV hTV hRV hBV;go_wp2_with fail
  refine(Znx T s G _ (J HG) hc0 hc1).mono ?_;rintro e w2 ⟨rfl,hg2,hgb⟩;have hs2:=hgb.size;have HR2:=O ((hgb.block w.heap.size (by omega) (by intro e; injection e with e; omega)).trans (J HR));have HG2:=O hg2;have HGB:=O (Gn (J HB) hgb);clear hgb hg2 hs2;go_wp2_with (refine wpList_store_row rfl 34 _ _ rfl w.heap.size #[.int .i64 (-1),.int .i64 s.c] rfl rfl 34 _ (J HR2) (Tryz.infPlK.trans rfl) rfl (by simp [Value.oneCell']) ?_)
  refine bodyPost_ret (Gx (fn:=Tryz.f146) (q:=2) (uy:=34) rfl _ _ w.heap.size 34 #[.int .i64 (-1),.int .i64 s.c] (0,0) _ rfl (setRow_heap _ _ _ _ _ _ (J HR2)) Tryz.underlying34 rfl (Tryz.infPlK.trans rfl)) rfl ?_;refine⟨by rw [J HP],?_,?_⟩
  ·rw [J HX];exact(setRow_other _ _ _ _ (by omega)).trans (J HG2)
  ·exact Zcb (J HGB) (Nat.le_refl _)
set_option maxHeartbeats 4000000
set_option maxRecDepth 100000
theorem Zsv {xs:List Value}{n:Nat}(f:Nat->Int×Int)(hl:xs.length=n*2)(h:∀ j,j<n->xs[j*2]?=some (.int .i64 (f j).1)∧xs[j*2+1]?=some (.int .i64 (f j).2)):xs=plC ((List.range n).map f):=by
 apply List.ext_getElem?
 intro i;have hlen:(plC ((List.range n).map f)).length=n*2:=by rw [Kj]; simp
 by_cases hi:i<n*2
 ·have hg:=Zca ((List.range n).map f) (i / 2) (by simp; omega);have hd:((List.range n).map f).getD (i / 2) (0,0)=f (i / 2):=by simp [List.getD,show i / 2<n by omega]
  rw [hd] at hg;have hx:=h (i / 2) (by omega);rcases Nat.mod_two_eq_zero_or_one i with hm | hm
  ·have e:i=i / 2*2:=by omega
   rw [e,hx.1,hg.1]
  ·have e:i=i / 2*2+1:=by omega
   rw [e,hx.2,hg.2]
 ·rw [List.getElem?_eq_none (by omega),List.getElem?_eq_none (by omega)]
def Dz (L n:Nat)(u1:Nat)(s:Jy)(k:Nat):Jy:=⟨if rgS L n u1=true then u1+k else L,if rgS L n u1=true then s.c else s.c+8*k,s.p⟩
theorem Zii {ag:List Int}{n u1:Nat}{s:Jy}{k:Nat}(hk:k<n):plW ag (Dz ag.length n u1 s k)=plS ag (rgS ag.length n u1) u1 s.c k∧nxW ag (Dz ag.length n u1 s k)=Dz ag.length n u1 s (k+1):=by
 unfold plW nxW Dz plS;cases hr:rgS ag.length n u1 with
 | true =>
  have:u1+n<=ag.length:=by unfold rgS at hr; exact of_decide_eq_true hr
  simp only [if_true];rw [if_pos (by omega),if_pos (by omega)];exact⟨rfl,rfl⟩
 | false=>simp only [Bool.false_eq_true,if_false];rw [if_neg (by omega),if_neg (by omega)];refine⟨rfl,?_⟩;simp only [Jy.mk.injEq,true_and,and_true];omega
theorem Tryz.infoPl:(Tryz.prog.info? 34).map (fun i=>(i.zero,i.size,i.bytes))=some (some (.agg #[.int .i64 0,.int .i64 0]),2,16):=by kernel_rfl
theorem Ygb (n:Nat)(hn:n<=1000)(w:World):(Instr.makeSlice 45 (.int .i64 (n:Int)) (.int .i64 (n:Int))).run Tryz.prog w=.ok (.slice (some ⟨w.heap.size,0,none⟩) n n) (w.alloc (.cells (madeCells #[.int .i64 0,.int .i64 0] (n*2)) 34)):=by obtain⟨ti,hti,hz0,hz1,hz2⟩:=Gy Tryz.infoPl;have h:=run_make (P:=Tryz.prog) w 45 34 ti _ Tryz.underlying45 hti hz0 .i64 .i64 (n:Int) (n:Int) (by omega) (Int.le_refl _) (by rw [hz2]; omega) (by omega);rw [hz1,Int.toNat_natCast] at h;exact h
theorem Zsw (T:Yc)(s:Jy)(G n:Nat)(w:World)(hG:Yn w G T s)(hT:TbR w G T)(hn1:1<=n)(hn8:n<=8)(hu:s.u<=T.ag.length)(hL:T.ag.length<=1000)(hc0:0<=s.c)(hc1:s.c<=1000) :
 Calls Tryz.prog 148 #[.pointer (some ⟨G,0,none⟩),.int .i64 n] w fun e w'=>∃ v,e=.returned v∧Cq w' w.heap.size v ((List.range n).map (plS T.ag (rgS T.ag.length n (Sh T.pairs n s.u)) (Sh T.pairs n s.u) s.c))∧Yn w' G T (Dz T.ag.length n (Sh T.pairs n s.u) s n)∧w.grownBy w' (some G):=by
 obtain⟨ti,hti,hz0,hz1,hz2⟩:=Gy Tryz.infoPl;have HG:=O hG;have HT:=O hT;have hlt:=hG.lt;have hu1:Sh T.pairs n s.u<=s.u+1:=by unfold Sh; split <;> omega
 clear hG hT;go_enter Tryz.func148,Tryz.ntmps148
 go_upto_region 1 with fail
 go_cut [23] from 7 (fun b wc=>wc=w∧b=.bool (decide (1<n)&&(T.pairs&&decide (s.u % 2=1))))
 case first =>
  have y12:=(J HG).k12;have y11:=(J HG).k11;have HN:=O (True.intro);cases hp:T.pairs with
  | false =>
   rw [hp] at y11;have HPP:=O hp;clear hp;go_wp2;go_meet
   case rel=>exact⟨rfl,by rw [J HPP]; simp⟩
  | true =>
   rw [hp] at y11;have HPP:=O hp;clear hp;by_cases h2:2<=n
   ·by_cases h3:s.u % 2=1
    ·have zz:((s.u:Int) % 2==1)=true:=by simp; omega
     have hx:=O h3;clear h3;go_wp2;go_meet
     case rel=>exact⟨rfl,by rw [J HPP,decide_eq_true (J hx),decide_eq_true (show 1<n by omega)]; rfl⟩
    ·have zz:((s.u:Int) % 2==1)=false:=by simp; omega
     have hx:=O h3;clear h3;go_wp2;go_meet
     case rel=>exact⟨rfl,by rw [decide_eq_false (J hx)]; simp⟩
   ·go_wp2;go_meet
    case rel=>exact⟨rfl,by rw [decide_eq_false (show ¬ 1<n by omega)]; rfl⟩
 case rest =>
  obtain⟨hwc,rfl⟩:=hcut;subst wc;go_upto_if 23 with fail
  go_cut [] from 7 (fun wd=>Yn wd G T ⟨Sh T.pairs n s.u,s.c,s.p⟩∧w.grownBy wd (some G))
  case first =>
   have y12:=(J HG).k12;have fz:=(J HG).fz 12;cases hb:(decide (1<n)&&(T.pairs&&decide (s.u % 2=1))) with
   | false =>
    have hx:=O (show Yn w G T ⟨Sh T.pairs n s.u,s.c,s.p⟩∧w.grownBy w (some G) by rw [show Sh T.pairs n s.u=s.u by unfold Sh; rw [hb]; rfl]; exact⟨J HG,Ot w _⟩);clear hb;go_wp2;go_meet
    case rel=>exact J hx
   | true =>
    have hx:=O (show Yn (w.setCell ⟨G,12,none⟩ (.int .i64 ((s.u+1:Nat):Int))) G T ⟨Sh T.pairs n s.u,s.c,s.p⟩∧w.grownBy (w.setCell ⟨G,12,none⟩ (.int .i64 ((s.u+1:Nat):Int))) (some G) by rw [show Sh T.pairs n s.u=s.u+1 by unfold Sh; rw [hb]; rfl]; exact⟨(J HG).u _,Uo (Ot w _)⟩);clear hb;go_wp2;go_meet
    case rel=>exact J hx
  case rest =>
   obtain⟨hG1,hgb1⟩:=hcut;have HG1:=O hG1;have HGB1:=O hgb1;obtain⟨u1,hue⟩:∃ u1,u1=Sh T.pairs n s.u:=⟨_,rfl⟩;rw [← hue] at hG1 HG1 hu1;have HUE:=O hue;clear hue;have y12:=(J HG1).k12;have y5:=(J HG1).k5;go_wp2_with fail
   go_quiet (fail)
   clear y12 y5;generalize hk:World.drewN _ _=wq;obtain⟨hGq,hgbq⟩:Yn wq G T ⟨u1,s.c,s.p⟩∧w.grownBy wq (some G):=by subst hk; exact⟨J HG1,Ziu (J HGB1) _⟩
   have HGq:=O hGq;have HGBq:=O hgbq;clear hk hGq hgbq HG1 HGB1 hG1 hgb1;go_upto_if 43 with fail
   go_cut [] from 31 (fun wd=>Yn wd G T (Dz T.ag.length n u1 s 0)∧w.grownBy wd (some G))
   case first =>
    have fz:=(J HGq).fz 12;have y12:=(J HGq).k12;have y5:=(J HGq).k5;by_cases h:u1+n<=T.ag.length
    ·have hx:=O (show Yn wq G T (Dz T.ag.length n u1 s 0)∧w.grownBy wq (some G) by rw [show Dz T.ag.length n u1 s 0=⟨u1,s.c,s.p⟩ by unfold Dz rgS; simp [h]]; exact⟨J HGq,J HGBq⟩);go_wp2;go_meet
     case rel=>exact J hx
    ·have hx:=O (show Yn (wq.setCell ⟨G,12,none⟩ (.int .i64 (T.ag.length:Int))) G T (Dz T.ag.length n u1 s 0)∧w.grownBy (wq.setCell ⟨G,12,none⟩ (.int .i64 (T.ag.length:Int))) (some G) by rw [show Dz T.ag.length n u1 s 0=⟨T.ag.length,s.c,s.p⟩ by unfold Dz rgS; simp [h]]; exact⟨(J HGq).u _,Uo (J HGBq)⟩);go_wp2;go_meet
     case rel=>exact J hx
   case rest =>
    obtain⟨hG2,hgb2⟩:=hcut;have HG2:=O hG2;have HGB2:=O hgb2;clear hG2 hgb2;have hmk:=fun V=>Ygb n (by omega) V;go_wp2_with fail
    clear hmk;obtain⟨hR,hB,hs⟩:=al0 wc (.cells (madeCells #[.int .i64 0,.int .i64 0] (n*2)) 34 (0,0));have hgs:=(J HGB2).size;have hwT:w.heap.size<=wc.heap.size:=hgs;have HGB3:=O (Gn (J HGB2) (Jj (o:=some G) hB));have HG3:=O ((J HG2).new (.cells (madeCells #[.int .i64 0,.int .i64 0] (n*2)) 34 (0,0)));have HR3:=O hR;clear HG2 HGB2 hR hB hgs HGq HGBq;generalize hTp:wc.heap.size=Tp at HR3 hs hwT ⊢;generalize World.alloc wc _=V at HG3 HGB3 HR3 hs ⊢;clear hTp;go_loopw [57] (fun j w'=>∃(k:Nat) (cs:Array Value),j=.int .i64 k∧k<=n∧w'.heap[Tp]?=some (.cells cs 34 (0,0))∧cs.size=n*2∧(∀ q,q<k->cs[q*2]?=some (.int .i64 (plS T.ag (rgS T.ag.length n u1) u1 s.c q).1)∧cs[q*2+1]?=some (.int .i64 (plS T.ag (rgS T.ag.length n u1) u1 s.c q).2))∧Yn w' G T (Dz T.ag.length n u1 s k)∧w.grownBy w' (some G)) (fun j _=>n-(intOf j).toNat)
    case atStart=>exact⟨0,_,rfl,by omega,J HR3,size_madeCells _ _,fun q hq=>by omega,J HG3,J HGB3⟩
    case round =>
     clear HG3 HGB3 HR3;obtain⟨k,cs,rfl,hk,hrow,hsz,hcs,hGk,hgb⟩:=hrel;have HRW:=O hrow;have HCS:=O hcs;have HGK:=O hGk;have HGB:=O hgb;have hgsz:=hgb.size;have hTw:=Zi hrow;clear hrow hcs hGk hgb;by_cases hk2:k<n
     ·have hw1:=(Zii (ag:=T.ag) (u1:=u1) (s:=s) hk2).1;have hw2:=(Zii (ag:=T.ag) (u1:=u1) (s:=s) hk2).2;have HC:=O (Zny T (Dz T.ag.length n u1 s k) G wr (J HGK) ((J HT).gb (J HGB) hlt) (by omega) (by unfold Dz; simp only; split <;> omega) (by unfold Dz; simp only; split <;> omega) (by unfold Dz; simp only; split <;> omega));rw [hw1,hw2] at HC;have HW2:=O hw2;clear hw1 hw2;generalize hpl:plS T.ag (rgS T.ag.length n u1) u1 s.c k=xy at HC;have HPL:=O hpl;clear hpl;obtain⟨x,y⟩:=xy;simp only at HC;go_wp2_with fail
      refine(J HC).mono ?_;rintro e w2 ⟨rfl,hG5,hgb5⟩;have hTG:Tp≠G:=by omega
      have hr5:=(hgb5.block Tp hTw (by intro e; injection e with e; omega)).trans (J HRW);obtain⟨x0,hx0⟩:∃ x0,cs[k*2]?=some x0:=⟨_,Array.getElem?_eq_getElem (by omega)⟩;obtain⟨x1,hx1⟩:∃ x1,cs[k*2+1]?=some x1:=⟨_,Array.getElem?_eq_getElem (by omega)⟩;have c0:=(Zl hr5 (k*2)).trans hx0;have c1:=(Zl hr5 (k*2+1)).trans hx1;have z0:=frozen_of_row _ _ (k*2) _ _ hr5;have z1:=frozen_of_row _ _ (k*2+1) _ _ hr5;have HR6:=O (heap_setCell_same _ _ (k*2+1) _ _ (.int .i64 y) (heap_setCell_same _ _ (k*2) _ _ (.int .i64 x) hr5));have HG6:=O ((hG5.oth (b:=Tp) (j:=k*2) (v:=.int .i64 x) (by omega)).oth (b:=Tp) (j:=k*2+1) (v:=.int .i64 y) (by omega));have HGB6:=O (Nj (b:=Tp) (j:=k*2+1) (v:=.int .i64 y) (Nj (b:=Tp) (j:=k*2) (v:=.int .i64 x) (Gn (J HGB) hgb5) (by omega)) (by omega));have HNX:=O (show ∀ q,q<k+1->((cs.setIfInBounds (k*2) (.int .i64 x)).setIfInBounds (k*2+1) (.int .i64 y))[q*2]?=some (.int .i64 (plS T.ag (rgS T.ag.length n u1) u1 s.c q).1)∧((cs.setIfInBounds (k*2) (.int .i64 x)).setIfInBounds (k*2+1) (.int .i64 y))[q*2+1]?=some (.int .i64 (plS T.ag (rgS T.ag.length n u1) u1 s.c q).2) from fun q hq=>by
       by_cases hqk:q=k
       ·subst hqk;rw [J HPL];refine⟨?_,?_⟩
        ·rw [Array.getElem?_setIfInBounds_ne (by omega),Array.getElem?_setIfInBounds_self_of_lt (by omega)]
        ·rw [Array.getElem?_setIfInBounds_self_of_lt (by simp; omega)]
       ·have h:=J HCS q (by omega);refine⟨?_,?_⟩
        ·rw [Array.getElem?_setIfInBounds_ne (by omega),Array.getElem?_setIfInBounds_ne (by omega)]; exact h.1
        ·rw [Array.getElem?_setIfInBounds_ne (by omega),Array.getElem?_setIfInBounds_ne (by omega)]; exact h.2)
      clear hr5 hx0 hx1 hG5 hgb5;go_wp2;go_roundw
      case rel=>exact⟨k+1,_,by go_num,by omega,J HR6,by simp; omega,J HNX,J HG6,J HGB6⟩
      case measure=>simp [intOf]; omega
     ·obtain rfl:k=n:=by omega
      go_wp2;go_ret;rw [← J HUE];have he:=Zsv (xs:=cs.toList) (n:=k) (plS T.ag (rgS T.ag.length k u1) u1 s.c) (by simp; omega) (fun j hj=>by have h:=J HCS j hj; simpa using h);refine⟨_,rfl,⟨by rw [Kj],Or.inr ⟨Tp,k,cs,by simp,hwT,J HRW,by simp,by simp [maxLen]; omega,hsz,?_⟩⟩,J HGK,J HGB⟩;rw [← he];simp only [List.length_map,List.length_range];rw [List.take_of_length_le (by simp; omega)]
set_option maxHeartbeats 4000000
set_option maxRecDepth 100000
theorem Tryz.infSpK:(Tryz.prog.info? 52).map (·.size)=some 3:=by kernel_rfl
theorem Znz {V:World}{B b:Nat}{x:Int×Int}(h:V.heap[b]?=some (.cells #[.int .i64 x.1,.int .i64 x.2] 34 (0,0)))(hb:B<=b):Cq V B (.slice (some ⟨b,0,none⟩) 1 1) [x] :=
 ⟨rfl,Or.inr ⟨b,1,_,rfl,hb,h,Nat.le_refl _,by simp [maxLen],rfl,rfl⟩⟩
theorem Zoa {V:World}{B B' T:Nat}{cs:Array Value}{v:Value}{xs:List (Int×Int)}(h:Cq V B v xs)(hb:T<B)(hB:B'<=B):Cq (V.setRow T cs) B' v xs:=by
 obtain⟨h1,h2 | ⟨g,cap,cur,e1,e2,e3,e4⟩⟩:=h
 ·exact⟨h1,Or.inl h2⟩
 ·exact⟨h1,Or.inr ⟨g,cap,cur,e1,Nat.le_trans hB e2,(setRow_other _ _ _ _ (by omega)).trans e3,e4⟩⟩
theorem Zfi {ag:List Int}{br:Int}{pr:Bool}{n:Int}{s:Jy}(h:n=0∨br<n):Ie ag br pr n s=⟨[plW ag s],decide (br<n),if br<n then s.p else 0⟩∧Mp ag.length br pr n s=⟨(nxW ag s).u,(nxW ag s).c,if br<n then s.p+8*n else s.p⟩:=by
 have hw:Dd br n=1:=by unfold Dd; rw [if_pos h]
 unfold Ie Mp;rw [hw,Zgn];have hr:rgS ag.length 1 s.u=decide (s.u<ag.length):=by unfold rgS; exact decide_eq_decide.2 (by omega)
 rw [hr];by_cases hu:s.u<ag.length
 ·simp only [decide_eq_true hu,if_true];refine⟨?_,?_⟩
  ·simp only [List.range_succ,List.range_zero,List.nil_append,List.map_cons,List.map_nil,plS,plW,if_pos hu,if_true,Nat.add_zero]
  ·simp only [nxW,if_pos hu]
 ·simp only [decide_eq_false hu,Bool.false_eq_true,if_false];refine⟨?_,?_⟩
  ·simp only [List.range_succ,List.range_zero,List.nil_append,List.map_cons,List.map_nil,plS,plW,if_neg hu,Bool.false_eq_true,if_false];simp
  ·simp only [nxW,if_neg hu];simp
theorem Zlj {ag:List Int}{br:Int}{pr:Bool}{n:Nat}{s:Jy}(h0:0<n)(h1:(n:Int)<=br)(hu:s.u<=ag.length):Ie ag br pr n s=⟨(List.range n).map (plS ag (rgS ag.length n (Sh pr n s.u)) (Sh pr n s.u) s.c),false,0⟩∧Mp ag.length br pr n s=Dz ag.length n (Sh pr n s.u) s n:=by
 have hw:Dd br n=n:=by unfold Dd; rw [if_neg (by omega)]; omega
 unfold Ie Mp Dz;rw [hw];refine⟨?_,?_⟩
 ·rw [decide_eq_false (by omega),if_neg (by omega)]
 ·cases hr:rgS ag.length n (Sh pr n s.u) with
  | true=>simp only [if_true]; rw [if_neg (show ¬ br<(n:Int) by omega)]
  | false =>
   simp only [Bool.false_eq_true,if_false];rw [if_neg (show ¬ br<(n:Int) by omega)];by_cases h2:1<n
   ·rw [if_pos h2]
   ·obtain rfl:n=1:=by omega
    rw [if_neg (by omega)];rw [Zgn] at hr ⊢;unfold rgS at hr;have:=of_decide_eq_false hr;rw [show s.u=ag.length by omega]
theorem Ydd (T:Yc)(s:Jy)(G:Nat)(n:Int)(w:World)(hG:Yn w G T s)(hT:TbR w G T)(hn0:0<=n)(hn8:n<=8)(hu:s.u<=T.ag.length)(hL:T.ag.length<=1000)(hc0:0<=s.c)(hc1:s.c<=1000)(hp0:0<=s.p)(hp1:s.p<=1000) :
 Calls Tryz.prog 101 #[.pointer (some ⟨G,0,none⟩),.int .i64 n] w fun e w'=>∃ pv,e=.returned (.agg #[pv,.bool (Ie T.ag T.br T.pairs n s).ref,.int .i64 (Ie T.ag T.br T.pairs n s).at_])∧Cq w' w.heap.size pv (Ie T.ag T.br T.pairs n s).pl∧Yn w' G T (Mp T.ag.length T.br T.pairs n s)∧w.grownBy w' (some G):=by
 have HG:=O hG;have HT:=O hT;have hlt:=hG.lt;have y10:=fun X:Obj=>(hG.new X).k10;have HW:=O (fun V (hg:Yn V G T s) (hgb:w.grownBy V (some G))=>Zny T s G V hg (hT.gb hgb hlt) (by omega) (by omega) (by omega) (by omega));clear hG hT;obtain⟨hR,hB,hs⟩:=al0 w (.cells #[.slice none 0 0,.bool false,.int .i64 0] 52 (0,0));have HR:=O hR;have HB:=O (Jj (o:=some G) hB);have HG0:=O ((J HG).new (.cells #[.slice none 0 0,.bool false,.int .i64 0] 52 (0,0)));clear hR hB HG;by_cases h1:T.br<n
 ·have hs9:=Zfi (ag:=T.ag) (pr:=T.pairs) (s:=s) (Or.inr h1);rw [hs9.1,hs9.2];clear hs9;simp only [decide_eq_true h1,if_pos h1];have hp2:(nxW T.ag s).p=s.p:=by unfold nxW; split <;> rfl
  generalize plW T.ag s=xy at HW ⊢;generalize nxW T.ag s=s2 at HW hp2 ⊢;obtain⟨x,y⟩:=xy;simp only at HW;go_enter Tryz.func101,Tryz.ntmps101
  go_wp2_with fail
  clear y10;generalize World.alloc w _=W at HR HB HG0 hs ⊢;refine(J HW W (J HG0) (J HB)).mono ?_;rintro e w2 ⟨rfl,hG2,hgb2⟩;have hz2:=hgb2.size;obtain⟨hR3,hB3,hs3⟩:=al0 w2 (.cells #[.int .i64 x,.int .i64 y] 34 (0,0));have HC:=O (Zyb T s2 G n _ (hG2.new (.cells #[.int .i64 x,.int .i64 y] 34 (0,0))) (by omega) (by omega) hn0 (by omega));have HRA:=O ((hB3.block w.heap.size (by omega)).trans ((hgb2.block w.heap.size (by omega) (by intro e; injection e with e; omega)).trans (J HR)));have HRB:=O hR3;have HGB:=O (Gn (J HB) (Gn hgb2 (Jj (o:=some G) hB3)));clear hG2 hgb2 hR3 hB3 HW;go_wp2_with fail
  generalize hTb:w2.heap.size=Tb at HRB hs3 hz2 ⊢;generalize World.alloc w2 _=W3 at HC HRA HRB HGB hs3 ⊢;refine(J HC).mono ?_;rintro e w4 ⟨rfl,hG4,hgb4⟩;rw [hp2] at hG4 ⊢;have HR4:=O ((hgb4.block w.heap.size (by omega) (by intro e; injection e with e; omega)).trans (J HRA));have HP4:=O ((hgb4.block Tb (by omega) (by intro e; injection e with e; omega)).trans (J HRB));have HG4:=O hG4;have HGB4:=O (Gn (J HGB) hgb4);clear hG4 hgb4 HC HRA HRB HGB;go_wp2_with (refine wpList_store_row rfl 52 _ _ rfl w.heap.size #[.slice (some ⟨Tb,0,none⟩) 1 1,.bool true,.int .i64 s.p] rfl rfl 52 _ (J HR4) (Tryz.infSpK.trans rfl) rfl (by simp [Value.oneCell']) ?_)
  refine bodyPost_ret (Gx (fn:=Tryz.f101) (q:=4) (uy:=52) rfl _ _ w.heap.size 52 #[.slice (some ⟨Tb,0,none⟩) 1 1,.bool true,.int .i64 s.p] (0,0) _ rfl (setRow_heap _ _ _ _ _ _ (J HR4)) Tryz.underlying52 rfl (Tryz.infSpK.trans rfl)) rfl ?_;exact⟨_,rfl,Znz ((setRow_other _ _ _ _ (by omega)).trans (J HP4)) (by omega),(setRow_other _ _ _ _ (by omega)).trans (J HG4),Zcb (J HGB4) (Nat.le_refl _)⟩
 ·by_cases h2:0<n
  ·obtain⟨m,rfl⟩:∃ m:Nat,n=m:=⟨n.toNat,by omega⟩;have hs9:=Zlj (ag:=T.ag) (pr:=T.pairs) (s:=s) (show 0<m by omega) (show(m:Int)<=T.br by omega) hu;rw [hs9.1,hs9.2];clear hs9 HW;simp only;go_enter Tryz.func101,Tryz.ntmps101
   go_wp2_with fail
   clear y10;generalize World.alloc w _=W at HR HB HG0 hs ⊢;refine(Zsw T s G m W (J HG0) ((J HT).gb (J HB) hlt) (by omega) (by omega) hu hL hc0 hc1).mono ?_;rintro e w2 ⟨v,rfl,hP2,hG2,hgb2⟩;obtain⟨pb,pn,pc,hv⟩:∃ pb pn pc,v=.slice pb pn pc:=by
    rcases hP2.2 with⟨e,_⟩ | ⟨g,cap,cur,e,_⟩
    ·exact⟨_,_,_,e⟩
    ·exact⟨_,_,_,e⟩
   subst hv;have HR4:=O ((hgb2.block w.heap.size (by omega) (by intro e; injection e with e; omega)).trans (J HR));have HP4:=O hP2;have HG4:=O hG2;have HGB4:=O (Gn (J HB) hgb2);clear hP2 hG2 hgb2;go_wp2_with (refine wpList_store_row rfl 52 _ _ rfl w.heap.size #[.slice pb pn pc,.bool false,.int .i64 0] rfl rfl 52 _ (J HR4) (Tryz.infSpK.trans rfl) rfl (by simp [Value.oneCell']) ?_)
   refine bodyPost_ret (Gx (fn:=Tryz.f101) (q:=4) (uy:=52) rfl _ _ w.heap.size 52 #[.slice pb pn pc,.bool false,.int .i64 0] (0,0) _ rfl (setRow_heap _ _ _ _ _ _ (J HR4)) Tryz.underlying52 rfl (Tryz.infSpK.trans rfl)) rfl ?_;exact⟨_,rfl,Zoa (J HP4) (by omega) (by omega),(setRow_other _ _ _ _ (by omega)).trans (J HG4),Zcb (J HGB4) (Nat.le_refl _)⟩
  ·obtain rfl:n=0:=by omega
   have hs9:=Zfi (ag:=T.ag) (br:=T.br) (pr:=T.pairs) (n:=0) (s:=s) (Or.inl rfl);rw [hs9.1,hs9.2];clear hs9;simp only [decide_eq_false h1,if_neg h1];have hp2:(nxW T.ag s).p=s.p:=by unfold nxW; split <;> rfl
   generalize plW T.ag s=xy at HW ⊢;generalize nxW T.ag s=s2 at HW hp2 ⊢;obtain⟨x,y⟩:=xy;simp only at HW;go_enter Tryz.func101,Tryz.ntmps101
   go_wp2_with fail
   clear y10;generalize World.alloc w _=W at HR HB HG0 hs ⊢;refine(J HW W (J HG0) (J HB)).mono ?_;rintro e w2 ⟨rfl,hG2,hgb2⟩;have hz2:=hgb2.size;obtain⟨hR3,hB3,hs3⟩:=al0 w2 (.cells #[.int .i64 x,.int .i64 y] 34 (0,0));have HR4:=O ((hB3.block w.heap.size (by omega)).trans ((hgb2.block w.heap.size (by omega) (by intro e; injection e with e; omega)).trans (J HR)));have HP4:=O hR3;have HG4:=O (hG2.new (.cells #[.int .i64 x,.int .i64 y] 34 (0,0)));have HGB4:=O (Gn (J HB) (Gn hgb2 (Jj (o:=some G) hB3)));clear hG2 hgb2 hR3 hB3 HW;go_wp2_with (refine wpList_store_row rfl 52 _ _ rfl w.heap.size #[.slice (some ⟨w2.heap.size,0,none⟩) 1 1,.bool false,.int .i64 0] rfl rfl 52 _ (J HR4) (Tryz.infSpK.trans rfl) rfl (by simp [Value.oneCell']) ?_)
   refine bodyPost_ret (Gx (fn:=Tryz.f101) (q:=4) (uy:=52) rfl _ _ w.heap.size 52 #[.slice (some ⟨w2.heap.size,0,none⟩) 1 1,.bool false,.int .i64 0] (0,0) _ rfl (setRow_heap _ _ _ _ _ _ (J HR4)) Tryz.underlying52 rfl (Tryz.infSpK.trans rfl)) rfl ?_;refine⟨_,rfl,Znz ((setRow_other _ _ _ _ (by omega)).trans (J HP4)) (by omega),?_,Zcb (J HGB4) (Nat.le_refl _)⟩;rw [← hp2];exact(setRow_other _ _ _ _ (by omega)).trans (J HG4)
set_option maxHeartbeats 4000000
set_option maxRecDepth 100000
theorem Zij {cs:Array Value}{n k:Nat}{f:Nat->Int×Int}{x y:Int}(hsz:cs.size=n*2)(hk:k<n)(hxy:f k=(x,y))(hcs:∀ q,q<k->cs[q*2]?=some (.int .i64 (f q).1)∧cs[q*2+1]?=some (.int .i64 (f q).2)) :
 ∀ q,q<k+1->((cs.setIfInBounds (k*2) (.int .i64 x)).setIfInBounds (k*2+1) (.int .i64 y))[q*2]?=some (.int .i64 (f q).1)∧((cs.setIfInBounds (k*2) (.int .i64 x)).setIfInBounds (k*2+1) (.int .i64 y))[q*2+1]?=some (.int .i64 (f q).2):=fun q hq=>by
 by_cases hqk:q=k
 ·subst hqk;rw [hxy];refine⟨?_,?_⟩
  ·rw [Array.getElem?_setIfInBounds_ne (by omega),Array.getElem?_setIfInBounds_self_of_lt (by omega)]
  ·rw [Array.getElem?_setIfInBounds_self_of_lt (by simp; omega)]
 ·have h:=hcs q (by omega);refine⟨?_,?_⟩
  ·rw [Array.getElem?_setIfInBounds_ne (by omega),Array.getElem?_setIfInBounds_ne (by omega)]; exact h.1
  ·rw [Array.getElem?_setIfInBounds_ne (by omega),Array.getElem?_setIfInBounds_ne (by omega)]; exact h.2
theorem Yde (T:Yc)(s:Jy)(G n:Nat)(w:World)(hG:Yn w G T s)(hT:TbR w G T)(hn4:n<=8)(hL:T.rs.length<=1000)(hc0:0<=s.c)(hc1:s.c<=1000) :
 Calls Tryz.prog 102 #[.pointer (some ⟨G,0,none⟩),.int .i64 n] w fun e w'=>∃ v,e=.returned v∧Cq w' w.heap.size v ((List.range n).map (Kt T.rs s.c))∧Yn w' G T ⟨s.u,Xg T.rs s.c n,s.p⟩∧w.grownBy w' (some G):=by
 have HG:=O hG;have HT:=O hT;have hlt:=hG.lt;have hmk:=fun V=>Ygb n (by omega) V;clear hG hT;go_enter Tryz.func102,Tryz.ntmps102
 go_wp2_with fail
 clear hmk;obtain⟨hR,hB,hs⟩:=al0 w (.cells (madeCells #[.int .i64 0,.int .i64 0] (n*2)) 34 (0,0));have HGB3:=O (Jj (o:=some G) hB);have HG3:=O ((J HG).new (.cells (madeCells #[.int .i64 0,.int .i64 0] (n*2)) 34 (0,0)));have HR3:=O hR;clear hR hB;generalize World.alloc w _=V at HG3 HGB3 HR3 hs ⊢;go_loopw [11] (fun j w'=>∃(k:Nat) (cs:Array Value),j=.int .i64 k∧k<=n∧w'.heap[w.heap.size]?=some (.cells cs 34 (0,0))∧cs.size=n*2∧(∀ q,q<k->cs[q*2]?=some (.int .i64 (Kt T.rs s.c q).1)∧cs[q*2+1]?=some (.int .i64 (Kt T.rs s.c q).2))∧Yn w' G T ⟨s.u,Xg T.rs s.c k,s.p⟩∧w.grownBy w' (some G)) (fun j _=>n-(intOf j).toNat)
 case atStart=>exact⟨0,_,rfl,by omega,J HR3,size_madeCells _ _,fun q hq=>by omega,by rw [show Xg T.rs s.c 0=s.c by unfold Xg; simp]; exact J HG3,J HGB3⟩
 case round =>
  clear HG3 HGB3 HR3;obtain⟨k,cs,rfl,hk,hrow,hsz,hcs,hGk,hgb⟩:=hrel;have HRW:=O hrow;have HCS:=O hcs;have HGK:=O hGk;have HGB:=O hgb;have hgsz:=hgb.size;have hTw:=Zi hrow;by_cases hk2:k<n
  ·have y6:=hGk.k6;obtain⟨x0,hx0⟩:∃ x0,cs[k*2]?=some x0:=⟨_,Array.getElem?_eq_getElem (by omega)⟩;obtain⟨x1,hx1⟩:∃ x1,cs[k*2+1]?=some x1:=⟨_,Array.getElem?_eq_getElem (by omega)⟩;by_cases hr:k<T.rs.length
   ·have hrs:=(J HT).gb hgb hlt;obtain⟨sb,so,hpa,-,hc⟩:=hrs.r.at hr;have c:=hc k hr;rw [hpa] at y6;have hres:Kt T.rs s.c k=(T.rs.getD k 0,0):=by unfold Kt; rw [if_pos hr]
    have hrc:Xg T.rs s.c (k+1)=Xg T.rs s.c k:=by unfold Xg; rw [show k+1-T.rs.length=0 by omega,show k-T.rs.length=0 by omega]
    generalize T.rs.getD k 0=x at hres c;have c0:=(Zl hrow (k*2)).trans hx0;have c1:=(Zl hrow (k*2+1)).trans hx1;have z0:=frozen_of_row _ _ (k*2) _ _ hrow;have z1:=frozen_of_row _ _ (k*2+1) _ _ hrow;have HR6:=O (heap_setCell_same _ _ (k*2+1) _ _ (.int .i64 0) (heap_setCell_same _ _ (k*2) _ _ (.int .i64 x) hrow));have HG6:=O (show Yn _ G T ⟨s.u,Xg T.rs s.c (k+1),s.p⟩ by rw [hrc]; exact(hGk.oth (b:=w.heap.size) (j:=k*2) (v:=.int .i64 x) (by omega)).oth (b:=w.heap.size) (j:=k*2+1) (v:=.int .i64 0) (by omega));have HGB6:=O (Nj (b:=w.heap.size) (j:=k*2+1) (v:=.int .i64 0) (Nj (b:=w.heap.size) (j:=k*2) (v:=.int .i64 x) hgb (Nat.le_refl _)) (Nat.le_refl _));have HNX:=O (Zij hsz hk2 hres hcs);clear hrow hx0 hx1 hcs hGk hgb hres hrc hc hrs;go_wp2;go_roundw
    case rel=>exact⟨k+1,_,by go_num,by omega,J HR6,by simp; omega,J HNX,J HG6,J HGB6⟩
    case measure=>simp [intOf]; omega
   ·have hres:Kt T.rs s.c k=(-1,Xg T.rs s.c k):=by unfold Kt Xg; rw [if_neg hr]
    have hrc:Xg T.rs s.c (k+1)=Xg T.rs s.c k+8:=by unfold Xg; rw [show k+1-T.rs.length=(k-T.rs.length)+1 by omega]; omega
    have hrb:0<=Xg T.rs s.c k∧Xg T.rs s.c k<=2000:=by unfold Xg; omega
    have HNX:=O (Zij hsz hk2 hres hcs);have HRC:=O hrc;clear hres hrc hrow hcs hGk hgb;generalize Xg T.rs s.c k=y at HNX HRC HGK hrb;go_wp2_with fail
    refine(Znx T ⟨s.u,y,s.p⟩ G wr (J HGK) (by show -1000000<=y; omega) (by show y<=1000000; omega)).mono ?_;rintro e w2 ⟨rfl,hG5,hgb5⟩;have hr5:=(hgb5.block w.heap.size hTw (by intro e; injection e with e; omega)).trans (J HRW);have c0:=(Zl hr5 (k*2)).trans hx0;have c1:=(Zl hr5 (k*2+1)).trans hx1;have z0:=frozen_of_row _ _ (k*2) _ _ hr5;have z1:=frozen_of_row _ _ (k*2+1) _ _ hr5;have HR6:=O (heap_setCell_same _ _ (k*2+1) _ _ (.int .i64 y) (heap_setCell_same _ _ (k*2) _ _ (.int .i64 (-1)) hr5));have HG6:=O (show Yn _ G T ⟨s.u,Xg T.rs s.c (k+1),s.p⟩ by rw [J HRC]; exact(hG5.oth (b:=w.heap.size) (j:=k*2) (v:=.int .i64 (-1)) (by omega)).oth (b:=w.heap.size) (j:=k*2+1) (v:=.int .i64 y) (by omega));have HGB6:=O (Nj (b:=w.heap.size) (j:=k*2+1) (v:=.int .i64 y) (Nj (b:=w.heap.size) (j:=k*2) (v:=.int .i64 (-1)) (Gn (J HGB) hgb5) (Nat.le_refl _)) (Nat.le_refl _));clear hr5 hG5 hgb5 hx0 hx1 y6;go_wp2;go_roundw
    case rel=>exact⟨k+1,_,by go_num,by omega,J HR6,by simp; omega,J HNX,J HG6,J HGB6⟩
    case measure=>simp [intOf]; omega
  ·obtain rfl:k=n:=by omega
   clear hrow hcs hGk hgb;go_wp2;go_ret;have he:=Zsv (xs:=cs.toList) (n:=k) (Kt T.rs s.c) (by simp; omega) (fun j hj=>by have h:=J HCS j hj; simpa using h);refine⟨_,rfl,⟨by rw [Kj],Or.inr ⟨w.heap.size,k,cs,by simp,Nat.le_refl _,J HRW,by simp,by simp [maxLen]; omega,hsz,?_⟩⟩,J HGK,J HGB⟩;rw [← he];simp only [List.length_map,List.length_range];rw [List.take_of_length_le (by simp; omega)]
end Go.Proofs.YtkenknfgeoecbaaGreatDoor
