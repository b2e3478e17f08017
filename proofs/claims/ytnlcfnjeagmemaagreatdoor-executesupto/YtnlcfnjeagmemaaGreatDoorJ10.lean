import Derived.Test.YtnlcfnjeagmemaaGreatDoorProg
import Derived.Tactics
import Derived.Tactics2
import Derived.Defers
import Derived.Laws.Pointers
import Derived.Laws.LoneSync
import Derived.RegionTactic
import Derived.RegionCalls
import Derived.ChangeAlike
import Derived.Test.YtnlcfnjeagmemaaGreatDoorJ4
import Derived.Orders
import Derived.Laws.CopyRow
import Derived.Laws.CopyOwn
import Derived.Test.YtnlcfnjeagmemaaGreatDoorJ8
import Derived.Laws.ResultCell
import Derived.Deep.MidRow
import Derived.Test.YtnlcfnjeagmemaaGreatDoorTblRef
import Derived.Deep.CutRange
import Derived.Test.YtnlcfnjeagmemaaGreatDoorJ3
import Derived.Test.YtnlcfnjeagmemaaGreatDoorRows
import Derived.WideShapes
import Derived.SizedLaws
import Derived.ChangeSlices
import Derived.Deep.Slices
import Derived.Test.YtnlcfnjeagmemaaGreatDoorCards
import Derived.Test.YtnlcfnjeagmemaaGreatDoorTie
import Derived.ProofKit
import Derived.OpenShut
import Derived.ChangeSame
import Derived.ChangeVars
import Derived.JoinedOf
import Derived.RowKit
import Derived.RowKitTokens
import Derived.LaidLaws
import Derived.LaidHandle
import Derived.LaidSub
import Derived.Stop.Joined
import Derived.SevenTiedAt
import Derived.MakeChecks
import Derived.Lib.LaidU8
import Derived.Lay
import Derived.Deep.RegionWith
import Derived.Deep.Onto
import Derived.Lib.LaidTab
import Derived.Laws.AppendOwn
import Derived.Laws.OwnMore
namespace Go.Proofs.YtnlcfnjeagmemaaGreatDoor
open Go.RowKit
theorem Rs.slice {w:World}{v:Value}{ns:List Int}(h:Rs w v ns):∃ a n p,v=.slice a n p:=by
 obtain⟨p,cap,e⟩:=h.shape;exact⟨_,_,_,e⟩
structure Zm where
 r:Int
 sp:Int
 lk:Int
 t0:Int
 t1:Int
 pa:Option Addr
 ag:List Int
 ca:Nat
 pr:Option Addr
 rs:List Int
 cr:Nat
 ps:Option Addr
 ss:List Int
 cs:Nat
 al:Int
 sh:Int
 br:Int
 pairs:Bool
def Zm.box (T:Zm):Array Value:=#[.int .i64 T.r,.int .i64 T.sp,.int .i64 T.lk,.int .i64 T.t0,.int .i64 T.t1,.slice T.pa T.ag.length T.ca,.slice T.pr T.rs.length T.cr,.slice T.ps T.ss.length T.cs,.int .i64 T.al,.int .i64 T.sh,.int .i64 T.br,.bool T.pairs]
structure TbR (w:World)(b:Nat)(T:Zm):Prop where
 a:Lj w b (.slice T.pa T.ag.length T.ca) T.ag
 r:Lj w b (.slice T.pr T.rs.length T.cr) T.rs
 s:Lj w b (.slice T.ps T.ss.length T.cs) T.ss
theorem Lj.at {w:World}{b:Nat}{p:Option Addr}{c:Nat}{ns:List Int}(h:Lj w b (.slice p ns.length c) ns){k:Nat}(hk:k<ns.length):∃ sb so,p=some ⟨sb,so,none⟩∧sb<b∧∀ i,i<ns.length→w.cell? ⟨sb,so+i,none⟩=some (.int .i64 (ns.getD i 0)):=by
 rcases h with⟨e,-⟩ | ⟨sb,so,cap,hv,hb,hc⟩
 ·
  rw [e] at hk; simp at hk
 ·
  injection hv with h1 h2 h3;exact⟨sb,so,h1,hb,hc⟩
theorem TbR.gb {w w':World}{b:Nat}{T:Zm}(h:TbR w b T)(hw:w.grownBy w' (some b))(hb:b<w.heap.size):TbR w' b T:=⟨h.a.gb hw hb,h.r.gb hw hb,h.s.gb hw hb⟩
def Zem (T:Zm)(s:Xv):Array Value:=#[.int .i64 T.r,.int .i64 T.sp,.int .i64 T.lk,.int .i64 T.t0,.int .i64 T.t1,.slice T.pa T.ag.length T.ca,.slice T.pr T.rs.length T.cr,.slice T.ps T.ss.length T.cs,.int .i64 T.al,.int .i64 T.sh,.int .i64 T.br,.bool T.pairs,.int .i64 s.u,.int .i64 s.c,.int .i64 s.p]
def Ym (w:World)(G:Nat)(T:Zm)(s:Xv):Prop:=w.heap[G]?=some (.cells (Zem T s) 182 (0,0))
def Gt (w:World)(B:Nat)(v:Value)(xs:List (Int×Int)):Prop:=w.ownsRow B 91 2 v xs.length (plC xs)
def Xs:Xm:=⟨[],false,0⟩
def Dg (pvs:List Value)(sps:List Xm):List Value:=(pvs.zip sps).flatMap fun x=>[x.1,.bool x.2.ref,.int .i64 x.2.at_]
structure Yo (w:World)(B:Nat)(av rv:Value)(l:Yc)(pvs:List Value):Prop where
 len:pvs.length=l.args.length
 args:w.ownsRow B 87 3 av l.args.length (Dg pvs l.args)
 each:∀ k,k<l.args.length→Gt w B (pvs.getD k undef) (l.args.getD k Xs).pl
 res:Gt w B rv l.res
theorem Zbl (pvs:List Value)(sps:List Xm)(pv:Value)(sp:Xm)(h:pvs.length=sps.length):Dg (pvs++[pv]) (sps++[sp])=Dg pvs sps++[pv,.bool sp.ref,.int .i64 sp.at_]:=by
 unfold Dg;rw [List.zip_append h];simp
theorem Oy {w w':World}{B n size:Nat}{e:TypeId}{v:Value}{xs:List Value}{o:Option Nat}(h:w.ownsRow B e size v n xs)(hg:w.grownBy w' o)(hne:∀ g,v.ownBlock=some g→o≠some g):w'.ownsRow B e size v n xs :=
 h.kept hg (by
  cases hv:v.ownBlock with
  | none=>exact Or.inl rfl
  | some g=>exact Or.inr (fun e=>hne g hv e.symm))
theorem Rd {w u:World}{b j:Nat}{v:Value}(h:w.grownBy u (some b)):w.grownBy (u.setCell ⟨b,j,none⟩ v) (some b) :=
 ⟨h.os,h.tape,h.output,by simpa using h.size,fun q hq hne=>(heap_setCell_other _ _ _ _ (by intro e; exact hne (by rw [e]))).trans (h.block q hq hne)⟩
theorem Zrk {w u:World}{b:Nat}(X:Obj)(h:w.grownBy u (some b)):w.grownBy (u.alloc X) (some b) :=
 ⟨h.os,h.tape,h.output,by have:=h.size; simp; omega,fun q hq hne=>((Zs u X).2.1.block q (Nat.lt_of_lt_of_le hq h.size)).trans (h.block q hq hne)⟩
theorem Re (w:World)(o:Option Nat):w.grownBy w o:=⟨rfl,rfl,rfl,Nat.le_refl _,fun _ _ _=>rfl⟩
theorem Ym.lt {w:World}{G:Nat}{T:Zm}{s:Xv}(h:Ym w G T s):G<w.heap.size:=Zc h
theorem Ym.new {w:World}{G:Nat}{T:Zm}{s:Xv}(h:Ym w G T s)(X:Obj):Ym (w.alloc X) G T s:=((Zs w X).2.1.block G h.lt).trans h
theorem Ym.gb {w w':World}{G:Nat}{T:Zm}{s:Xv}(h:Ym w G T s)(hg:w.grownBy w' none):Ym w' G T s:=(hg.block G h.lt (by simp)).trans h
theorem Ym.u {w:World}{G:Nat}{T:Zm}{s:Xv}(h:Ym w G T s)(n:Nat):Ym (w.setCell ⟨G,12,none⟩ (.int .i64 n)) G T ⟨n,s.c,s.p⟩:=heap_setCell_same _ _ _ _ _ _ h
theorem Ym.c {w:World}{G:Nat}{T:Zm}{s:Xv}(h:Ym w G T s)(n:Int):Ym (w.setCell ⟨G,13,none⟩ (.int .i64 n)) G T ⟨s.u,n,s.p⟩:=heap_setCell_same _ _ _ _ _ _ h
theorem Ym.p {w:World}{G:Nat}{T:Zm}{s:Xv}(h:Ym w G T s)(n:Int):Ym (w.setCell ⟨G,14,none⟩ (.int .i64 n)) G T ⟨s.u,s.c,n⟩:=heap_setCell_same _ _ _ _ _ _ h
theorem Ym.cell {w:World}{G:Nat}{T:Zm}{s:Xv}(h:Ym w G T s)(j:Nat):w.cell? ⟨G,j,none⟩=(Zem T s)[j]?:=Zd h j
theorem Ym.oth {w:World}{G b j:Nat}{v:Value}{T:Zm}{s:Xv}(h:Ym w G T s)(hne:G≠b):Ym (w.setCell ⟨b,j,none⟩ v) G T s:=(heap_setCell_other _ _ _ _ hne).trans h
theorem Lu {w u:World}{b j:Nat}{v:Value}{o:Option Nat}(h:w.grownBy u o)(hb:w.heap.size≤b):w.grownBy (u.setCell ⟨b,j,none⟩ v) o :=
 ⟨h.os,h.tape,h.output,by simpa using h.size,fun q hq hne=>(heap_setCell_other _ _ _ _ (by show q≠b; omega)).trans (h.block q hq hne)⟩
theorem Ci {w u:World}{T:Nat}{cs:Array Value}{o:Option Nat}(h:w.grownBy u o)(hb:w.heap.size≤T):w.grownBy (u.setRow T cs) o :=
 ⟨h.os,h.tape,h.output,by have:=h.size; simpa [World.setRow] using this,fun q hq hne=>(setRow_other u T q cs (by omega)).trans (h.block q hq hne)⟩
theorem Zen {w u:World}{o:Option Nat}(h:w.grownBy u o)(k:Nat):w.grownBy (u.drewN k) o:=⟨h.os,h.tape,h.output,h.size,h.block⟩
theorem Ym.k5 {w:World}{G:Nat}{T:Zm}{s:Xv}(h:Ym w G T s):w.cell? ⟨G,5,none⟩=some (.slice T.pa T.ag.length T.ca):=Zd h 5
theorem Ym.k6 {w:World}{G:Nat}{T:Zm}{s:Xv}(h:Ym w G T s):w.cell? ⟨G,6,none⟩=some (.slice T.pr T.rs.length T.cr):=Zd h 6
theorem Ym.k10 {w:World}{G:Nat}{T:Zm}{s:Xv}(h:Ym w G T s):w.cell? ⟨G,10,none⟩=some (.int .i64 T.br):=Zd h 10
theorem Ym.k11 {w:World}{G:Nat}{T:Zm}{s:Xv}(h:Ym w G T s):w.cell? ⟨G,11,none⟩=some (.bool T.pairs):=Zd h 11
theorem Ym.k12 {w:World}{G:Nat}{T:Zm}{s:Xv}(h:Ym w G T s):w.cell? ⟨G,12,none⟩=some (.int .i64 s.u):=Zd h 12
theorem Ym.k13 {w:World}{G:Nat}{T:Zm}{s:Xv}(h:Ym w G T s):w.cell? ⟨G,13,none⟩=some (.int .i64 s.c):=Zd h 13
theorem Ym.k14 {w:World}{G:Nat}{T:Zm}{s:Xv}(h:Ym w G T s):w.cell? ⟨G,14,none⟩=some (.int .i64 s.p):=Zd h 14
theorem Ym.fz {w:World}{G:Nat}{T:Zm}{s:Xv}(h:Ym w G T s)(j:Nat):w.frozen? ⟨G,j,none⟩=false:=frozen_of_row _ _ j _ _ h
theorem Jo {a b c:World}{o:Option Nat}(h:a.grownBy b o)(k:b.grownBy c o):a.grownBy c o :=
 ⟨k.os.trans h.os,k.tape.trans h.tape,k.output.trans h.output,Nat.le_trans h.size k.size,fun q hq hne=>(k.block q (Nat.lt_of_lt_of_le hq h.size) hne).trans (h.block q hq hne)⟩
theorem Me {a b:World}{o:Option Nat}(h:Below a.heap.size a b):a.grownBy b o:=⟨h.os,h.tape,h.output,h.size,fun q hq _=>h.block q hq⟩
set_option maxHeartbeats 2000000
def plW (ag:List Int)(s:Xv):Int×Int:=if s.u<ag.length then (ag.getD s.u 0,0) else (-1,s.c)
def nxW (ag:List Int)(s:Xv):Xv:=if s.u<ag.length then ⟨s.u+1,s.c,s.p⟩ else ⟨s.u,s.c+8,s.p⟩
theorem Ziu (T:Zm)(s:Xv)(G:Nat)(w:World)(hG:Ym w G T s)(hc0:-1000000≤s.c)(hc1:s.c≤1000000) :
 Calls Tryz.prog 128 #[.pointer (some ⟨G,0,none⟩)] w fun e w'=>e=.returned (.agg #[.int .i64 (-1),.int .i64 s.c])∧Ym w' G T ⟨s.u,s.c+8,s.p⟩∧w.grownBy w' (some G):=by
 have HG:=Y hG;have y:=fun X:Obj=>(hG.new X).k13;have fz:=fun X:Obj=>(hG.new X).fz 13;clear hG;go_enter Tryz.func128,Tryz.ntmps128
 go_wp2;go_returns;have hlt:=(O HG).lt;exact⟨rfl,((((O HG).new _).c _).oth (by omega)).oth (by omega),Lu (Lu (Rd (Zrk _ (Re w _))) (Nat.le_refl _)) (Nat.le_refl _)⟩
theorem Zrf (T:Zm)(s:Xv)(G:Nat)(n:Int)(w:World)(hG:Ym w G T s)(hc0:0≤s.p)(hc1:s.p≤1000000)(hn0:0≤n)(hn1:n≤1000) :
 Calls Tryz.prog 126 #[.pointer (some ⟨G,0,none⟩),.int .i64 n] w fun e w'=>e=.returned (.int .i64 s.p)∧Ym w' G T ⟨s.u,s.c,s.p+8*n⟩∧w.grownBy w' (some G):=by
 have HG:=Y hG;have y:=hG.k14;have fz:=hG.fz 14;clear hG;go_enter Tryz.func126,Tryz.ntmps126
 go_wp2;go_ret;exact⟨rfl,(O HG).p _,Rd (Re w _)⟩
theorem Tryz.infPlK:(Tryz.prog.info? 91).map (·.size)=some 2:=by kernel_rfl
theorem Ziv (T:Zm)(s:Xv)(G:Nat)(w:World)(hG:Ym w G T s)(hT:TbR w G T)(hL:T.ag.length≤1000000)(hu:s.u≤1000000)(hc0:-1000000≤s.c)(hc1:s.c≤1000000) :
 Calls Tryz.prog 125 #[.pointer (some ⟨G,0,none⟩)] w fun e w'=>e=.returned (.agg #[.int .i64 (plW T.ag s).1,.int .i64 (plW T.ag s).2])∧Ym w' G T (nxW T.ag s)∧w.grownBy w' (some G):=by
 have HG:=Y hG;have HT:=Y hT;have hlt:=hG.lt;have y:=fun X:Obj=>(hG.new X).k12;have y5:=fun X:Obj=>(hG.new X).k5;have hl:T.ag.length<9223372036854775808:=by omega
 clear hG hT;go_enter Tryz.func125,Tryz.ntmps125
 go_wp2_with fail
 go_quiet (fail)
 clear y y5;obtain⟨hR,hB,hs⟩:=Zs w (.cells #[.int .i64 0,.int .i64 0] 91 (0,0));have HGV:=Y (fun k:Nat=>show Ym ((w.alloc (.cells #[.int .i64 0,.int .i64 0] 91 (0,0))).drewN k) G T s from(O HG).new _);have HTV:=Y (fun k:Nat=>(O HT).gb (Me (o:=some G) (Yk hB k)) hlt);have HRV:=Y (fun k:Nat=>show((w.alloc (.cells #[.int .i64 0,.int .i64 0] 91 (0,0))).drewN k).heap[w.heap.size]?=_ from hR);have HBV:=Y (fun k:Nat=>Me (o:=some G) (Yk hB k));have HSV:=Y (fun k:Nat=>show((w.alloc (.cells #[.int .i64 0,.int .i64 0] 91 (0,0))).drewN k).heap.size=w.heap.size+1 from hs);clear hR hB hs HG HT;generalize World.alloc w _=V0 at HGV HTV HRV HBV HSV ⊢;generalize hk:V0.drewN _=V;obtain⟨hGV,hTV,hRV,hBV,hSV⟩:Ym V G T s∧TbR V G T∧V.heap[w.heap.size]?=some (.cells #[.int .i64 0,.int .i64 0] 91 (0,0))∧w.grownBy V (some G)∧V.heap.size=w.heap.size+1:=by
  subst hk;exact⟨O HGV _,O HTV _,O HRV _,O HBV _,O HSV _⟩
 clear hk HGV HTV HRV HBV HSV;have HG:=Y hGV;have HR:=Y hRV;have HB:=Y hBV;by_cases h:s.u<T.ag.length
 ·
  have HP:=Y (show plW T.ag s=(T.ag.getD s.u 0,0) by unfold plW; rw [if_pos h]);have HX:=Y (show nxW T.ag s=⟨s.u+1,s.c,s.p⟩ by unfold nxW; rw [if_pos h]);obtain⟨sb,so,hpa,-,hc⟩:=hTV.a.at h;have c:=hc s.u h;have y:=hGV.k12;have y5:=hGV.k5;rw [hpa] at y5;have fz:=hGV.fz 12;have r0:=(cR hRV 0);have r1:=(cR hRV 1);have z0:=frozen_of_row _ _ 0 _ _ hRV;have z1:=frozen_of_row _ _ 1 _ _ hRV;clear hGV hTV hRV hBV hc;generalize T.ag.getD s.u 0=x at HP c;go_wp2_with fail
  go_quiet (fail)
  go_wp2;refine bodyPost_ret (Xu (fn:=Tryz.f125) (q:=2) (uy:=91) rfl _ _ w.heap.size 91 #[.int .i64 x,.int .i64 0] (0,0) _ rfl (heap_setCell_same _ _ 1 _ _ _ (heap_setCell_same _ _ 0 _ _ _ ((heap_setCell_other _ _ _ _ (by show w.heap.size≠G; omega)).trans (O HR)))) Tryz.underlying91 rfl (Tryz.infPlK.trans rfl)) rfl ?_;refine⟨by rw [O HP],?_,?_⟩
  ·
   rw [O HX];exact((Ym.u (w:=V.drewN _) (s:=s) (O HG) (s.u+1)).oth (by omega)).oth (by omega)
  ·
   exact Lu (Lu (Rd (Zen (O HB) _)) (Nat.le_refl _)) (Nat.le_refl _)
 ·
  have HP:=Y (show plW T.ag s=(-1,s.c) by unfold plW; rw [if_neg h]);have HX:=Y (show nxW T.ag s=⟨s.u,s.c+8,s.p⟩ by unfold nxW; rw [if_neg h]);clear hGV hTV hRV hBV;go_wp2_with fail
  refine(Ziu T s G _ (O HG) hc0 hc1).mono ?_;rintro e w2 ⟨rfl,hg2,hgb⟩;have hs2:=hgb.size;have HR2:=Y ((hgb.block w.heap.size (by omega) (by intro e; injection e with e; omega)).trans (O HR));have HG2:=Y hg2;have HGB:=Y (Jo (O HB) hgb);clear hgb hg2 hs2;go_wp2_with (refine wpList_store_row rfl 91 _ _ rfl w.heap.size #[.int .i64 (-1),.int .i64 s.c] rfl rfl 91 _ (O HR2) (Tryz.infPlK.trans rfl) rfl (by simp [Value.oneCell']) ?_)
  refine bodyPost_ret (Xu (fn:=Tryz.f125) (q:=2) (uy:=91) rfl _ _ w.heap.size 91 #[.int .i64 (-1),.int .i64 s.c] (0,0) _ rfl (setRow_heap _ _ _ _ _ _ (O HR2)) Tryz.underlying91 rfl (Tryz.infPlK.trans rfl)) rfl ?_;refine⟨by rw [O HP],?_,?_⟩
  ·
   rw [O HX];exact(setRow_other _ _ _ _ (by omega)).trans (O HG2)
  ·
   exact Ci (O HGB) (Nat.le_refl _)
set_option maxHeartbeats 4000000
set_option maxRecDepth 100000
theorem Znk {xs:List Value}{n:Nat}(f:Nat→Int×Int)(hl:xs.length=n*2)(h:∀ j,j<n→xs[j*2]?=some (.int .i64 (f j).1)∧xs[j*2+1]?=some (.int .i64 (f j).2)):xs=plC ((List.range n).map f):=by
 apply List.ext_getElem?
 intro i;have hlen:(plC ((List.range n).map f)).length=n*2:=by rw [Zco]; simp
 by_cases hi:i<n*2
 ·
  have hg:=Ch ((List.range n).map f) (i / 2) (by simp; omega);have hd:((List.range n).map f).getD (i / 2) (0,0)=f (i / 2):=by simp [List.getD,show i / 2<n by omega]
  rw [hd] at hg;have hx:=h (i / 2) (by omega);rcases Nat.mod_two_eq_zero_or_one i with hm | hm
  ·
   have e:i=i / 2*2:=by omega
   rw [e,hx.1,hg.1]
  ·
   have e:i=i / 2*2+1:=by omega
   rw [e,hx.2,hg.2]
 ·
  rw [List.getElem?_eq_none (by omega),List.getElem?_eq_none (by omega)]
def Od (L n:Nat)(u1:Nat)(s:Xv)(k:Nat):Xv:=⟨if Rb L n u1=true then u1+k else L,if Rb L n u1=true then s.c else s.c+8*k,s.p⟩
theorem Zeg {ag:List Int}{n u1:Nat}{s:Xv}{k:Nat}(hk:k<n):plW ag (Od ag.length n u1 s k)=Rc ag (Rb ag.length n u1) u1 s.c k∧nxW ag (Od ag.length n u1 s k)=Od ag.length n u1 s (k+1):=by
 unfold plW nxW Od Rc;cases hr:Rb ag.length n u1 with
 | true =>
  have:u1+n≤ag.length:=by unfold Rb at hr; exact of_decide_eq_true hr
  simp only [if_true];rw [if_pos (by omega),if_pos (by omega)];exact⟨rfl,rfl⟩
 | false =>
  simp only [Bool.false_eq_true,if_false];rw [if_neg (by omega),if_neg (by omega)];refine⟨rfl,?_⟩;simp only [Xv.mk.injEq,true_and,and_true];omega
theorem Tryz.infoPl:(Tryz.prog.info? 91).map (fun i=>(i.zero,i.size,i.bytes))=some (some (.agg #[.int .i64 0,.int .i64 0]),2,16):=by kernel_rfl
theorem Zxf (n:Nat)(hn:n≤1000)(w:World):(Instr.makeSlice 74 (.int .i64 (n:Int)) (.int .i64 (n:Int))).run Tryz.prog w=.ok (.slice (some ⟨w.heap.size,0,none⟩) n n) (w.alloc (.cells (madeCells #[.int .i64 0,.int .i64 0] (n*2)) 91)):=by
 obtain⟨ti,hti,hz0,hz1,hz2⟩:=Yr Tryz.infoPl;have h:=run_make (P:=Tryz.prog) w 74 91 ti _ Tryz.underlying74 hti hz0 .i64 .i64 (n:Int) (n:Int) (by omega) (Int.le_refl _) (by rw [hz2]; omega) (by omega);rw [hz1,Int.toNat_natCast] at h;exact h
theorem Znl (T:Zm)(s:Xv)(G n:Nat)(w:World)(hG:Ym w G T s)(hT:TbR w G T)(hn1:1≤n)(hn8:n≤8)(hu:s.u≤T.ag.length)(hL:T.ag.length≤1000)(hc0:0≤s.c)(hc1:s.c≤1000) :
 Calls Tryz.prog 127 #[.pointer (some ⟨G,0,none⟩),.int .i64 n] w fun e w'=>∃ v,e=.returned v∧Gt w' w.heap.size v ((List.range n).map (Rc T.ag (Rb T.ag.length n (Oq T.pairs n s.u)) (Oq T.pairs n s.u) s.c))∧Ym w' G T (Od T.ag.length n (Oq T.pairs n s.u) s n)∧w.grownBy w' (some G):=by
 obtain⟨ti,hti,hz0,hz1,hz2⟩:=Yr Tryz.infoPl;have HG:=Y hG;have HT:=Y hT;have hlt:=hG.lt;have hu1:Oq T.pairs n s.u≤s.u+1:=by unfold Oq; split <;> omega
 clear hG hT;go_enter Tryz.func127,Tryz.ntmps127
 go_upto_region 1 with fail
 go_cut [23] from 7 (fun b wc=>wc=w∧b=.bool (decide (1<n)&&(T.pairs&&decide (s.u % 2=1))))
 case first =>
  have y12:=(O HG).k12;have y11:=(O HG).k11;have HN:=Y (True.intro);cases hp:T.pairs with
  | false =>
   rw [hp] at y11;have HPP:=Y hp;clear hp;go_wp2;go_meet
   case rel=>exact⟨rfl,by rw [O HPP]; simp⟩
  | true =>
   rw [hp] at y11;have HPP:=Y hp;clear hp;by_cases h2:2≤n
   ·
    by_cases h3:s.u % 2=1
    ·
     have zz:((s.u:Int) % 2==1)=true:=by simp; omega
     have hx:=Y h3;clear h3;go_wp2;go_meet
     case rel=>exact⟨rfl,by rw [O HPP,decide_eq_true (O hx),decide_eq_true (show 1<n by omega)]; rfl⟩
    ·
     have zz:((s.u:Int) % 2==1)=false:=by simp; omega
     have hx:=Y h3;clear h3;go_wp2;go_meet
     case rel=>exact⟨rfl,by rw [decide_eq_false (O hx)]; simp⟩
   ·
    go_wp2;go_meet
    case rel=>exact⟨rfl,by rw [decide_eq_false (show ¬ 1<n by omega)]; rfl⟩
 case rest =>
  obtain⟨hwc,rfl⟩:=hcut;subst wc;go_upto_if 23 with fail
  go_cut [] from 7 (fun wd=>Ym wd G T ⟨Oq T.pairs n s.u,s.c,s.p⟩∧w.grownBy wd (some G))
  case first =>
   have y12:=(O HG).k12;have fz:=(O HG).fz 12;cases hb:(decide (1<n)&&(T.pairs&&decide (s.u % 2=1))) with
   | false =>
    have hx:=Y (show Ym w G T ⟨Oq T.pairs n s.u,s.c,s.p⟩∧w.grownBy w (some G) by rw [show Oq T.pairs n s.u=s.u by unfold Oq; rw [hb]; rfl]; exact⟨O HG,Re w _⟩);clear hb;go_wp2;go_meet
    case rel=>exact O hx
   | true =>
    have hx:=Y (show Ym (w.setCell ⟨G,12,none⟩ (.int .i64 ((s.u+1:Nat):Int))) G T ⟨Oq T.pairs n s.u,s.c,s.p⟩∧w.grownBy (w.setCell ⟨G,12,none⟩ (.int .i64 ((s.u+1:Nat):Int))) (some G) by rw [show Oq T.pairs n s.u=s.u+1 by unfold Oq; rw [hb]; rfl]; exact⟨(O HG).u _,Rd (Re w _)⟩);clear hb;go_wp2;go_meet
    case rel=>exact O hx
  case rest =>
   obtain⟨hG1,hgb1⟩:=hcut;have HG1:=Y hG1;have HGB1:=Y hgb1;obtain⟨u1,hue⟩:∃ u1,u1=Oq T.pairs n s.u:=⟨_,rfl⟩;rw [← hue] at hG1 HG1 hu1;have HUE:=Y hue;clear hue;have y12:=(O HG1).k12;have y5:=(O HG1).k5;go_wp2_with fail
   go_quiet (fail)
   clear y12 y5;generalize hk:World.drewN _ _=wq;obtain⟨hGq,hgbq⟩:Ym wq G T ⟨u1,s.c,s.p⟩∧w.grownBy wq (some G):=by subst hk; exact⟨O HG1,Zen (O HGB1) _⟩
   have HGq:=Y hGq;have HGBq:=Y hgbq;clear hk hGq hgbq HG1 HGB1 hG1 hgb1;go_upto_if 43 with fail
   go_cut [] from 31 (fun wd=>Ym wd G T (Od T.ag.length n u1 s 0)∧w.grownBy wd (some G))
   case first =>
    have fz:=(O HGq).fz 12;have y12:=(O HGq).k12;have y5:=(O HGq).k5;by_cases h:u1+n≤T.ag.length
    ·
     have hx:=Y (show Ym wq G T (Od T.ag.length n u1 s 0)∧w.grownBy wq (some G) by rw [show Od T.ag.length n u1 s 0=⟨u1,s.c,s.p⟩ by unfold Od Rb; simp [h]]; exact⟨O HGq,O HGBq⟩);go_wp2;go_meet
     case rel=>exact O hx
    ·
     have hx:=Y (show Ym (wq.setCell ⟨G,12,none⟩ (.int .i64 (T.ag.length:Int))) G T (Od T.ag.length n u1 s 0)∧w.grownBy (wq.setCell ⟨G,12,none⟩ (.int .i64 (T.ag.length:Int))) (some G) by rw [show Od T.ag.length n u1 s 0=⟨T.ag.length,s.c,s.p⟩ by unfold Od Rb; simp [h]]; exact⟨(O HGq).u _,Rd (O HGBq)⟩);go_wp2;go_meet
     case rel=>exact O hx
   case rest =>
    obtain⟨hG2,hgb2⟩:=hcut;have HG2:=Y hG2;have HGB2:=Y hgb2;clear hG2 hgb2;have hmk:=fun V=>Zxf n (by omega) V;go_wp2_with fail
    clear hmk;obtain⟨hR,hB,hs⟩:=Zs wc (.cells (madeCells #[.int .i64 0,.int .i64 0] (n*2)) 91 (0,0));have hgs:=(O HGB2).size;have hwT:w.heap.size≤wc.heap.size:=hgs;have HGB3:=Y (Jo (O HGB2) (Me (o:=some G) hB));have HG3:=Y ((O HG2).new (.cells (madeCells #[.int .i64 0,.int .i64 0] (n*2)) 91 (0,0)));have HR3:=Y hR;clear HG2 HGB2 hR hB hgs HGq HGBq;generalize hTp:wc.heap.size=Tp at HR3 hs hwT ⊢;generalize World.alloc wc _=V at HG3 HGB3 HR3 hs ⊢;clear hTp;go_loopw [57] (fun j w'=>∃(k:Nat) (cs:Array Value),j=.int .i64 k∧k≤n∧w'.heap[Tp]?=some (.cells cs 91 (0,0))∧cs.size=n*2∧(∀ q,q<k→cs[q*2]?=some (.int .i64 (Rc T.ag (Rb T.ag.length n u1) u1 s.c q).1)∧cs[q*2+1]?=some (.int .i64 (Rc T.ag (Rb T.ag.length n u1) u1 s.c q).2))∧Ym w' G T (Od T.ag.length n u1 s k)∧w.grownBy w' (some G)) (fun j _=>n-(intOf j).toNat)
    case atStart=>exact⟨0,_,rfl,by omega,O HR3,size_madeCells _ _,fun q hq=>by omega,O HG3,O HGB3⟩
    case round =>
     clear HG3 HGB3 HR3;obtain⟨k,cs,rfl,hk,hrow,hsz,hcs,hGk,hgb⟩:=hrel;have HRW:=Y hrow;have HCS:=Y hcs;have HGK:=Y hGk;have HGB:=Y hgb;have hgsz:=hgb.size;have hTw:=Zc hrow;clear hrow hcs hGk hgb;by_cases hk2:k<n
     ·
      have hw1:=(Zeg (ag:=T.ag) (u1:=u1) (s:=s) hk2).1;have hw2:=(Zeg (ag:=T.ag) (u1:=u1) (s:=s) hk2).2;have HC:=Y (Ziv T (Od T.ag.length n u1 s k) G wr (O HGK) ((O HT).gb (O HGB) hlt) (by omega) (by unfold Od; simp only; split <;> omega) (by unfold Od; simp only; split <;> omega) (by unfold Od; simp only; split <;> omega));rw [hw1,hw2] at HC;have HW2:=Y hw2;clear hw1 hw2;generalize hpl:Rc T.ag (Rb T.ag.length n u1) u1 s.c k=xy at HC;have HPL:=Y hpl;clear hpl;obtain⟨x,y⟩:=xy;simp only at HC;go_wp2_with fail
      refine(O HC).mono ?_;rintro e w2 ⟨rfl,hG5,hgb5⟩;have hTG:Tp≠G:=by omega
      have hr5:=(hgb5.block Tp hTw (by intro e; injection e with e; omega)).trans (O HRW);obtain⟨x0,hx0⟩:∃ x0,cs[k*2]?=some x0:=⟨_,Array.getElem?_eq_getElem (by omega)⟩;obtain⟨x1,hx1⟩:∃ x1,cs[k*2+1]?=some x1:=⟨_,Array.getElem?_eq_getElem (by omega)⟩;have c0:=(Zd hr5 (k*2)).trans hx0;have c1:=(Zd hr5 (k*2+1)).trans hx1;have z0:=frozen_of_row _ _ (k*2) _ _ hr5;have z1:=frozen_of_row _ _ (k*2+1) _ _ hr5;have HR6:=Y (heap_setCell_same _ _ (k*2+1) _ _ (.int .i64 y) (heap_setCell_same _ _ (k*2) _ _ (.int .i64 x) hr5));have HG6:=Y ((hG5.oth (b:=Tp) (j:=k*2) (v:=.int .i64 x) (by omega)).oth (b:=Tp) (j:=k*2+1) (v:=.int .i64 y) (by omega));have HGB6:=Y (Lu (b:=Tp) (j:=k*2+1) (v:=.int .i64 y) (Lu (b:=Tp) (j:=k*2) (v:=.int .i64 x) (Jo (O HGB) hgb5) (by omega)) (by omega));have HNX:=Y (show ∀ q,q<k+1→((cs.setIfInBounds (k*2) (.int .i64 x)).setIfInBounds (k*2+1) (.int .i64 y))[q*2]?=some (.int .i64 (Rc T.ag (Rb T.ag.length n u1) u1 s.c q).1)∧((cs.setIfInBounds (k*2) (.int .i64 x)).setIfInBounds (k*2+1) (.int .i64 y))[q*2+1]?=some (.int .i64 (Rc T.ag (Rb T.ag.length n u1) u1 s.c q).2) from fun q hq=>by
       by_cases hqk:q=k
       ·
        subst hqk;rw [O HPL];refine⟨?_,?_⟩
        ·
         rw [Array.getElem?_setIfInBounds_ne (by omega),Array.getElem?_setIfInBounds_self_of_lt (by omega)]
        ·
         rw [Array.getElem?_setIfInBounds_self_of_lt (by simp; omega)]
       ·
        have h:=O HCS q (by omega);refine⟨?_,?_⟩
        ·
         rw [Array.getElem?_setIfInBounds_ne (by omega),Array.getElem?_setIfInBounds_ne (by omega)]; exact h.1
        ·
         rw [Array.getElem?_setIfInBounds_ne (by omega),Array.getElem?_setIfInBounds_ne (by omega)]; exact h.2)
      clear hr5 hx0 hx1 hG5 hgb5;go_wp2;go_roundw
      case rel=>exact⟨k+1,_,by go_num,by omega,O HR6,by simp; omega,O HNX,O HG6,O HGB6⟩
      case measure=>simp [intOf]; omega
     ·
      obtain rfl:k=n:=by omega
      go_wp2;go_ret;rw [← O HUE];have he:=Znk (xs:=cs.toList) (n:=k) (Rc T.ag (Rb T.ag.length k u1) u1 s.c) (by simp; omega) (fun j hj=>by have h:=O HCS j hj; simpa using h);refine⟨_,rfl,⟨by rw [Zco],Or.inr ⟨Tp,k,cs,by simp,hwT,O HRW,by simp,by simp [maxLen]; omega,hsz,?_⟩⟩,O HGK,O HGB⟩;rw [← he];simp only [List.length_map,List.length_range];rw [List.take_of_length_le (by simp; omega)]
set_option maxHeartbeats 4000000
set_option maxRecDepth 100000
theorem Tryz.infSpK:(Tryz.prog.info? 87).map (·.size)=some 3:=by kernel_rfl
theorem Ziw {V:World}{B b:Nat}{x:Int×Int}(h:V.heap[b]?=some (.cells #[.int .i64 x.1,.int .i64 x.2] 91 (0,0)))(hb:B≤b):Gt V B (.slice (some ⟨b,0,none⟩) 1 1) [x] :=
 ⟨rfl,Or.inr ⟨b,1,_,rfl,hb,h,Nat.le_refl _,by simp [maxLen],rfl,rfl⟩⟩
theorem Zch {V:World}{B B' T:Nat}{cs:Array Value}{v:Value}{xs:List (Int×Int)}(h:Gt V B v xs)(hb:T<B)(hB:B'≤B):Gt (V.setRow T cs) B' v xs:=by
 obtain⟨h1,h2 | ⟨g,cap,cur,e1,e2,e3,e4⟩⟩:=h
 ·
  exact⟨h1,Or.inl h2⟩
 ·
  exact⟨h1,Or.inr ⟨g,cap,cur,e1,Nat.le_trans hB e2,(setRow_other _ _ _ _ (by omega)).trans e3,e4⟩⟩
theorem Zbi {ag:List Int}{br:Int}{pr:Bool}{n:Int}{s:Xv}(h:n=0∨br<n):Lx ag br pr n s=⟨[plW ag s],decide (br<n),if br<n then s.p else 0⟩∧Jv ag.length br pr n s=⟨(nxW ag s).u,(nxW ag s).c,if br<n then s.p+8*n else s.p⟩:=by
 have hw:Ox br n=1:=by unfold Ox; rw [if_pos h]
 unfold Lx Jv;rw [hw,Zcm];have hr:Rb ag.length 1 s.u=decide (s.u<ag.length):=by unfold Rb; exact decide_eq_decide.2 (by omega)
 rw [hr];by_cases hu:s.u<ag.length
 ·
  simp only [decide_eq_true hu,if_true];refine⟨?_,?_⟩
  ·
   simp only [List.range_succ,List.range_zero,List.nil_append,List.map_cons,List.map_nil,Rc,plW,if_pos hu,if_true,Nat.add_zero]
  ·
   simp only [nxW,if_pos hu]
 ·
  simp only [decide_eq_false hu,Bool.false_eq_true,if_false];refine⟨?_,?_⟩
  ·
   simp only [List.range_succ,List.range_zero,List.nil_append,List.map_cons,List.map_nil,Rc,plW,if_neg hu,Bool.false_eq_true,if_false];simp
  ·
   simp only [nxW,if_neg hu];simp
theorem Zhl {ag:List Int}{br:Int}{pr:Bool}{n:Nat}{s:Xv}(h0:0<n)(h1:(n:Int)≤br)(hu:s.u≤ag.length):Lx ag br pr n s=⟨(List.range n).map (Rc ag (Rb ag.length n (Oq pr n s.u)) (Oq pr n s.u) s.c),false,0⟩∧Jv ag.length br pr n s=Od ag.length n (Oq pr n s.u) s n:=by
 have hw:Ox br n=n:=by unfold Ox; rw [if_neg (by omega)]; omega
 unfold Lx Jv Od;rw [hw];refine⟨?_,?_⟩
 ·
  rw [decide_eq_false (by omega),if_neg (by omega)]
 ·
  cases hr:Rb ag.length n (Oq pr n s.u) with
  | true=>simp only [if_true]; rw [if_neg (show ¬ br<(n:Int) by omega)]
  | false =>
   simp only [Bool.false_eq_true,if_false];rw [if_neg (show ¬ br<(n:Int) by omega)];by_cases h2:1<n
   ·
    rw [if_pos h2]
   ·
    obtain rfl:n=1:=by omega
    rw [if_neg (by omega)];rw [Zcm] at hr ⊢;unfold Rb at hr;have:=of_decide_eq_false hr;rw [show s.u=ag.length by omega]
theorem Zup (T:Zm)(s:Xv)(G:Nat)(n:Int)(w:World)(hG:Ym w G T s)(hT:TbR w G T)(hn0:0≤n)(hn8:n≤8)(hu:s.u≤T.ag.length)(hL:T.ag.length≤1000)(hc0:0≤s.c)(hc1:s.c≤1000)(hp0:0≤s.p)(hp1:s.p≤1000) :
 Calls Tryz.prog 106 #[.pointer (some ⟨G,0,none⟩),.int .i64 n] w fun e w'=>∃ pv,e=.returned (.agg #[pv,.bool (Lx T.ag T.br T.pairs n s).ref,.int .i64 (Lx T.ag T.br T.pairs n s).at_])∧Gt w' w.heap.size pv (Lx T.ag T.br T.pairs n s).pl∧Ym w' G T (Jv T.ag.length T.br T.pairs n s)∧w.grownBy w' (some G):=by
 have HG:=Y hG;have HT:=Y hT;have hlt:=hG.lt;have y10:=fun X:Obj=>(hG.new X).k10;have HW:=Y (fun V (hg:Ym V G T s) (hgb:w.grownBy V (some G))=>Ziv T s G V hg (hT.gb hgb hlt) (by omega) (by omega) (by omega) (by omega));clear hG hT;obtain⟨hR,hB,hs⟩:=Zs w (.cells #[.slice none 0 0,.bool false,.int .i64 0] 87 (0,0));have HR:=Y hR;have HB:=Y (Me (o:=some G) hB);have HG0:=Y ((O HG).new (.cells #[.slice none 0 0,.bool false,.int .i64 0] 87 (0,0)));clear hR hB HG;by_cases h1:T.br<n
 ·
  have hs9:=Zbi (ag:=T.ag) (pr:=T.pairs) (s:=s) (Or.inr h1);rw [hs9.1,hs9.2];clear hs9;simp only [decide_eq_true h1,if_pos h1];have hp2:(nxW T.ag s).p=s.p:=by unfold nxW; split <;> rfl
  generalize plW T.ag s=xy at HW ⊢;generalize nxW T.ag s=s2 at HW hp2 ⊢;obtain⟨x,y⟩:=xy;simp only at HW;go_enter Tryz.func106,Tryz.ntmps106
  go_wp2_with fail
  clear y10;generalize World.alloc w _=W at HR HB HG0 hs ⊢;refine(O HW W (O HG0) (O HB)).mono ?_;rintro e w2 ⟨rfl,hG2,hgb2⟩;have hz2:=hgb2.size;obtain⟨hR3,hB3,hs3⟩:=Zs w2 (.cells #[.int .i64 x,.int .i64 y] 91 (0,0));have HC:=Y (Zrf T s2 G n _ (hG2.new (.cells #[.int .i64 x,.int .i64 y] 91 (0,0))) (by omega) (by omega) hn0 (by omega));have HRA:=Y ((hB3.block w.heap.size (by omega)).trans ((hgb2.block w.heap.size (by omega) (by intro e; injection e with e; omega)).trans (O HR)));have HRB:=Y hR3;have HGB:=Y (Jo (O HB) (Jo hgb2 (Me (o:=some G) hB3)));clear hG2 hgb2 hR3 hB3 HW;go_wp2_with fail
  generalize hTb:w2.heap.size=Tb at HRB hs3 hz2 ⊢;generalize World.alloc w2 _=W3 at HC HRA HRB HGB hs3 ⊢;refine(O HC).mono ?_;rintro e w4 ⟨rfl,hG4,hgb4⟩;rw [hp2] at hG4 ⊢;have HR4:=Y ((hgb4.block w.heap.size (by omega) (by intro e; injection e with e; omega)).trans (O HRA));have HP4:=Y ((hgb4.block Tb (by omega) (by intro e; injection e with e; omega)).trans (O HRB));have HG4:=Y hG4;have HGB4:=Y (Jo (O HGB) hgb4);clear hG4 hgb4 HC HRA HRB HGB;go_wp2_with (refine wpList_store_row rfl 87 _ _ rfl w.heap.size #[.slice (some ⟨Tb,0,none⟩) 1 1,.bool true,.int .i64 s.p] rfl rfl 87 _ (O HR4) (Tryz.infSpK.trans rfl) rfl (by simp [Value.oneCell']) ?_)
  refine bodyPost_ret (Xu (fn:=Tryz.f106) (q:=4) (uy:=87) rfl _ _ w.heap.size 87 #[.slice (some ⟨Tb,0,none⟩) 1 1,.bool true,.int .i64 s.p] (0,0) _ rfl (setRow_heap _ _ _ _ _ _ (O HR4)) Tryz.underlying87 rfl (Tryz.infSpK.trans rfl)) rfl ?_;exact⟨_,rfl,Ziw ((setRow_other _ _ _ _ (by omega)).trans (O HP4)) (by omega),(setRow_other _ _ _ _ (by omega)).trans (O HG4),Ci (O HGB4) (Nat.le_refl _)⟩
 ·
  by_cases h2:0<n
  ·
   obtain⟨m,rfl⟩:∃ m:Nat,n=m:=⟨n.toNat,by omega⟩;have hs9:=Zhl (ag:=T.ag) (pr:=T.pairs) (s:=s) (show 0<m by omega) (show(m:Int)≤T.br by omega) hu;rw [hs9.1,hs9.2];clear hs9 HW;simp only;go_enter Tryz.func106,Tryz.ntmps106
   go_wp2_with fail
   clear y10;generalize World.alloc w _=W at HR HB HG0 hs ⊢;refine(Znl T s G m W (O HG0) ((O HT).gb (O HB) hlt) (by omega) (by omega) hu hL hc0 hc1).mono ?_;rintro e w2 ⟨v,rfl,hP2,hG2,hgb2⟩;obtain⟨pb,pn,pc,hv⟩:∃ pb pn pc,v=.slice pb pn pc:=by
    rcases hP2.2 with⟨e,_⟩ | ⟨g,cap,cur,e,_⟩
    ·
     exact⟨_,_,_,e⟩
    ·
     exact⟨_,_,_,e⟩
   subst hv;have HR4:=Y ((hgb2.block w.heap.size (by omega) (by intro e; injection e with e; omega)).trans (O HR));have HP4:=Y hP2;have HG4:=Y hG2;have HGB4:=Y (Jo (O HB) hgb2);clear hP2 hG2 hgb2;go_wp2_with (refine wpList_store_row rfl 87 _ _ rfl w.heap.size #[.slice pb pn pc,.bool false,.int .i64 0] rfl rfl 87 _ (O HR4) (Tryz.infSpK.trans rfl) rfl (by simp [Value.oneCell']) ?_)
   refine bodyPost_ret (Xu (fn:=Tryz.f106) (q:=4) (uy:=87) rfl _ _ w.heap.size 87 #[.slice pb pn pc,.bool false,.int .i64 0] (0,0) _ rfl (setRow_heap _ _ _ _ _ _ (O HR4)) Tryz.underlying87 rfl (Tryz.infSpK.trans rfl)) rfl ?_;exact⟨_,rfl,Zch (O HP4) (by omega) (by omega),(setRow_other _ _ _ _ (by omega)).trans (O HG4),Ci (O HGB4) (Nat.le_refl _)⟩
  ·
   obtain rfl:n=0:=by omega
   have hs9:=Zbi (ag:=T.ag) (br:=T.br) (pr:=T.pairs) (n:=0) (s:=s) (Or.inl rfl);rw [hs9.1,hs9.2];clear hs9;simp only [decide_eq_false h1,if_neg h1];have hp2:(nxW T.ag s).p=s.p:=by unfold nxW; split <;> rfl
   generalize plW T.ag s=xy at HW ⊢;generalize nxW T.ag s=s2 at HW hp2 ⊢;obtain⟨x,y⟩:=xy;simp only at HW;go_enter Tryz.func106,Tryz.ntmps106
   go_wp2_with fail
   clear y10;generalize World.alloc w _=W at HR HB HG0 hs ⊢;refine(O HW W (O HG0) (O HB)).mono ?_;rintro e w2 ⟨rfl,hG2,hgb2⟩;have hz2:=hgb2.size;obtain⟨hR3,hB3,hs3⟩:=Zs w2 (.cells #[.int .i64 x,.int .i64 y] 91 (0,0));have HR4:=Y ((hB3.block w.heap.size (by omega)).trans ((hgb2.block w.heap.size (by omega) (by intro e; injection e with e; omega)).trans (O HR)));have HP4:=Y hR3;have HG4:=Y (hG2.new (.cells #[.int .i64 x,.int .i64 y] 91 (0,0)));have HGB4:=Y (Jo (O HB) (Jo hgb2 (Me (o:=some G) hB3)));clear hG2 hgb2 hR3 hB3 HW;go_wp2_with (refine wpList_store_row rfl 87 _ _ rfl w.heap.size #[.slice (some ⟨w2.heap.size,0,none⟩) 1 1,.bool false,.int .i64 0] rfl rfl 87 _ (O HR4) (Tryz.infSpK.trans rfl) rfl (by simp [Value.oneCell']) ?_)
   refine bodyPost_ret (Xu (fn:=Tryz.f106) (q:=4) (uy:=87) rfl _ _ w.heap.size 87 #[.slice (some ⟨w2.heap.size,0,none⟩) 1 1,.bool false,.int .i64 0] (0,0) _ rfl (setRow_heap _ _ _ _ _ _ (O HR4)) Tryz.underlying87 rfl (Tryz.infSpK.trans rfl)) rfl ?_;refine⟨_,rfl,Ziw ((setRow_other _ _ _ _ (by omega)).trans (O HP4)) (by omega),?_,Ci (O HGB4) (Nat.le_refl _)⟩;rw [← hp2];exact(setRow_other _ _ _ _ (by omega)).trans (O HG4)
set_option maxHeartbeats 4000000
set_option maxRecDepth 100000
theorem Zeh {cs:Array Value}{n k:Nat}{f:Nat→Int×Int}{x y:Int}(hsz:cs.size=n*2)(hk:k<n)(hxy:f k=(x,y))(hcs:∀ q,q<k→cs[q*2]?=some (.int .i64 (f q).1)∧cs[q*2+1]?=some (.int .i64 (f q).2)) :
 ∀ q,q<k+1→((cs.setIfInBounds (k*2) (.int .i64 x)).setIfInBounds (k*2+1) (.int .i64 y))[q*2]?=some (.int .i64 (f q).1)∧((cs.setIfInBounds (k*2) (.int .i64 x)).setIfInBounds (k*2+1) (.int .i64 y))[q*2+1]?=some (.int .i64 (f q).2):=fun q hq=>by
 by_cases hqk:q=k
 ·
  subst hqk;rw [hxy];refine⟨?_,?_⟩
  ·
   rw [Array.getElem?_setIfInBounds_ne (by omega),Array.getElem?_setIfInBounds_self_of_lt (by omega)]
  ·
   rw [Array.getElem?_setIfInBounds_self_of_lt (by simp; omega)]
 ·
  have h:=hcs q (by omega);refine⟨?_,?_⟩
  ·
   rw [Array.getElem?_setIfInBounds_ne (by omega),Array.getElem?_setIfInBounds_ne (by omega)]; exact h.1
  ·
   rw [Array.getElem?_setIfInBounds_ne (by omega),Array.getElem?_setIfInBounds_ne (by omega)]; exact h.2
theorem Zuq (T:Zm)(s:Xv)(G n:Nat)(w:World)(hG:Ym w G T s)(hT:TbR w G T)(hn4:n≤8)(hL:T.rs.length≤1000)(hc0:0≤s.c)(hc1:s.c≤1000) :
 Calls Tryz.prog 107 #[.pointer (some ⟨G,0,none⟩),.int .i64 n] w fun e w'=>∃ v,e=.returned v∧Gt w' w.heap.size v ((List.range n).map (My T.rs s.c))∧Ym w' G T ⟨s.u,Yj T.rs s.c n,s.p⟩∧w.grownBy w' (some G):=by
 have HG:=Y hG;have HT:=Y hT;have hlt:=hG.lt;have hmk:=fun V=>Zxf n (by omega) V;clear hG hT;go_enter Tryz.func107,Tryz.ntmps107
 go_wp2_with fail
 clear hmk;obtain⟨hR,hB,hs⟩:=Zs w (.cells (madeCells #[.int .i64 0,.int .i64 0] (n*2)) 91 (0,0));have HGB3:=Y (Me (o:=some G) hB);have HG3:=Y ((O HG).new (.cells (madeCells #[.int .i64 0,.int .i64 0] (n*2)) 91 (0,0)));have HR3:=Y hR;clear hR hB;generalize World.alloc w _=V at HG3 HGB3 HR3 hs ⊢;go_loopw [11] (fun j w'=>∃(k:Nat) (cs:Array Value),j=.int .i64 k∧k≤n∧w'.heap[w.heap.size]?=some (.cells cs 91 (0,0))∧cs.size=n*2∧(∀ q,q<k→cs[q*2]?=some (.int .i64 (My T.rs s.c q).1)∧cs[q*2+1]?=some (.int .i64 (My T.rs s.c q).2))∧Ym w' G T ⟨s.u,Yj T.rs s.c k,s.p⟩∧w.grownBy w' (some G)) (fun j _=>n-(intOf j).toNat)
 case atStart=>exact⟨0,_,rfl,by omega,O HR3,size_madeCells _ _,fun q hq=>by omega,by rw [show Yj T.rs s.c 0=s.c by unfold Yj; simp]; exact O HG3,O HGB3⟩
 case round =>
  clear HG3 HGB3 HR3;obtain⟨k,cs,rfl,hk,hrow,hsz,hcs,hGk,hgb⟩:=hrel;have HRW:=Y hrow;have HCS:=Y hcs;have HGK:=Y hGk;have HGB:=Y hgb;have hgsz:=hgb.size;have hTw:=Zc hrow;by_cases hk2:k<n
  ·
   have y6:=hGk.k6;obtain⟨x0,hx0⟩:∃ x0,cs[k*2]?=some x0:=⟨_,Array.getElem?_eq_getElem (by omega)⟩;obtain⟨x1,hx1⟩:∃ x1,cs[k*2+1]?=some x1:=⟨_,Array.getElem?_eq_getElem (by omega)⟩;by_cases hr:k<T.rs.length
   ·
    have hrs:=(O HT).gb hgb hlt;obtain⟨sb,so,hpa,-,hc⟩:=hrs.r.at hr;have c:=hc k hr;rw [hpa] at y6;have hres:My T.rs s.c k=(T.rs.getD k 0,0):=by unfold My; rw [if_pos hr]
    have hrc:Yj T.rs s.c (k+1)=Yj T.rs s.c k:=by unfold Yj; rw [show k+1-T.rs.length=0 by omega,show k-T.rs.length=0 by omega]
    generalize T.rs.getD k 0=x at hres c;have c0:=(Zd hrow (k*2)).trans hx0;have c1:=(Zd hrow (k*2+1)).trans hx1;have z0:=frozen_of_row _ _ (k*2) _ _ hrow;have z1:=frozen_of_row _ _ (k*2+1) _ _ hrow;have HR6:=Y (heap_setCell_same _ _ (k*2+1) _ _ (.int .i64 0) (heap_setCell_same _ _ (k*2) _ _ (.int .i64 x) hrow));have HG6:=Y (show Ym _ G T ⟨s.u,Yj T.rs s.c (k+1),s.p⟩ by rw [hrc]; exact(hGk.oth (b:=w.heap.size) (j:=k*2) (v:=.int .i64 x) (by omega)).oth (b:=w.heap.size) (j:=k*2+1) (v:=.int .i64 0) (by omega));have HGB6:=Y (Lu (b:=w.heap.size) (j:=k*2+1) (v:=.int .i64 0) (Lu (b:=w.heap.size) (j:=k*2) (v:=.int .i64 x) hgb (Nat.le_refl _)) (Nat.le_refl _));have HNX:=Y (Zeh hsz hk2 hres hcs);clear hrow hx0 hx1 hcs hGk hgb hres hrc hc hrs;go_wp2;go_roundw
    case rel=>exact⟨k+1,_,by go_num,by omega,O HR6,by simp; omega,O HNX,O HG6,O HGB6⟩
    case measure=>simp [intOf]; omega
   ·
    have hres:My T.rs s.c k=(-1,Yj T.rs s.c k):=by unfold My Yj; rw [if_neg hr]
    have hrc:Yj T.rs s.c (k+1)=Yj T.rs s.c k+8:=by unfold Yj; rw [show k+1-T.rs.length=(k-T.rs.length)+1 by omega]; omega
    have hrb:0≤Yj T.rs s.c k∧Yj T.rs s.c k≤2000:=by unfold Yj; omega
    have HNX:=Y (Zeh hsz hk2 hres hcs);have HRC:=Y hrc;clear hres hrc hrow hcs hGk hgb;generalize Yj T.rs s.c k=y at HNX HRC HGK hrb;go_wp2_with fail
    refine(Ziu T ⟨s.u,y,s.p⟩ G wr (O HGK) (by show -1000000≤y; omega) (by show y≤1000000; omega)).mono ?_;rintro e w2 ⟨rfl,hG5,hgb5⟩;have hr5:=(hgb5.block w.heap.size hTw (by intro e; injection e with e; omega)).trans (O HRW);have c0:=(Zd hr5 (k*2)).trans hx0;have c1:=(Zd hr5 (k*2+1)).trans hx1;have z0:=frozen_of_row _ _ (k*2) _ _ hr5;have z1:=frozen_of_row _ _ (k*2+1) _ _ hr5;have HR6:=Y (heap_setCell_same _ _ (k*2+1) _ _ (.int .i64 y) (heap_setCell_same _ _ (k*2) _ _ (.int .i64 (-1)) hr5));have HG6:=Y (show Ym _ G T ⟨s.u,Yj T.rs s.c (k+1),s.p⟩ by rw [O HRC]; exact(hG5.oth (b:=w.heap.size) (j:=k*2) (v:=.int .i64 (-1)) (by omega)).oth (b:=w.heap.size) (j:=k*2+1) (v:=.int .i64 y) (by omega));have HGB6:=Y (Lu (b:=w.heap.size) (j:=k*2+1) (v:=.int .i64 y) (Lu (b:=w.heap.size) (j:=k*2) (v:=.int .i64 (-1)) (Jo (O HGB) hgb5) (Nat.le_refl _)) (Nat.le_refl _));clear hr5 hG5 hgb5 hx0 hx1 y6;go_wp2;go_roundw
    case rel=>exact⟨k+1,_,by go_num,by omega,O HR6,by simp; omega,O HNX,O HG6,O HGB6⟩
    case measure=>simp [intOf]; omega
  ·
   obtain rfl:k=n:=by omega
   clear hrow hcs hGk hgb;go_wp2;go_ret;have he:=Znk (xs:=cs.toList) (n:=k) (My T.rs s.c) (by simp; omega) (fun j hj=>by have h:=O HCS j hj; simpa using h);refine⟨_,rfl,⟨by rw [Zco],Or.inr ⟨w.heap.size,k,cs,by simp,Nat.le_refl _,O HRW,by simp,by simp [maxLen]; omega,hsz,?_⟩⟩,O HGK,O HGB⟩;rw [← he];simp only [List.length_map,List.length_range];rw [List.take_of_length_le (by simp; omega)]
end Go.Proofs.YtnlcfnjeagmemaaGreatDoor
