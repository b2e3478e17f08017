import Derived.Deep.RegionHeld3
import Derived.Test.YtkenknfgeoecbaaGreatDoorJ16
import Derived.BigQuiet
import Derived.Test.YtkenknfgeoecbaaGreatDoorJ8
namespace Go.Proofs.YtkenknfgeoecbaaGreatDoor
section
variable {α:Type}
theorem zA (l:List α)(i:Nat)(a:α):l.toArray.setIfInBounds i a=(l.set i a).toArray:=List.setIfInBounds_toArray l i a
theorem zB {x:α}{xs:List α}{a:α}:(x :: xs).set 0 a=a :: xs:=rfl
theorem zC {x:α}{xs:List α}{i:Nat}{a:α}:(x :: xs).set (i+1) a=x :: xs.set i a:=rfl
theorem zD {xs:List α}{i:Nat}(h:i<xs.toArray.size):xs.toArray[i]=xs[i]'h:=rfl
theorem zE (a:α)(l:List α)(h:0<(a :: l).length):(a :: l)[0]=a:=rfl
theorem zF (a:α)(l:List α)(i:Nat)(h:i+1<(a :: l).length):(a :: l)[i+1]=l[i]'(Nat.lt_of_succ_lt_succ h):=rfl
end
def nth:List Value->Nat->Option Value
 | [],_=>none
 | a :: _,0=>some a
 | _ :: l,k+1=>nth l k
theorem Zpa:∀(l:List Value) (k:Nat),nth l k=l[k]?
 | [],_=>rfl
 | _ :: _,0=>rfl
 | _ :: l,k+1=>(Zpa l k).trans (by simp)
theorem cR {w:World}{g:Nat}{cs:Array Value}{t:TypeId}{fr:Nat×Nat}(h:w.heap[g]?=some (.cells cs t fr))(k:Nat){v:Value}(hv:nth cs.toList k=some v:=by rfl):w.cell? ⟨g,k,none⟩=some v:=by rw [cell_of_row w g k cs t fr h,← Array.getElem?_toList,← Zpa];exact hv
section
variable {P:Program} {ops:Array Oper} {Q:Exit->Act->World->Prop} {md:Region.Mode} {S:World->Prop} {oi:Oper} {fuel:Nat} {listed:Array Bool} {a:Act} {w:World}
theorem tT (i:Nat){a':Act}{v:Value}(h:wpAnyH P md ops Q S fuel (listed.setIfInBounds i true) a' w)(h0:ops[i]?=some oi:=by rfl)(h1:(Region.noSelect ops&&(Region.free md ops listed i&&(Region.ready md ops listed).contains i))=true:=by kernel_rfl)(hg:Region.wanted oi (yielded ops a.tmps)=true:=by rfl)(hy:∀(w:World),S w->Sem.run P (execOp a.eval oi) w=Result.ok (Next.value v) w:=by intro V hV; (try dsimp only at hV); go_simp; all_goals (with_reducible rfl))(hq:∀(c:List PanicEntry) (a:Act) (w:World),Q (Exit.panic c) (a.put oi.dst v) w->Q (Exit.panic c) a w:=by exact fun _ _ _ h=>h)(hs:S w:=by assumption)(ha:a.put oi.dst v=a':=by(try simp only [Act.put,zA,zB,zC,zD,zE,zF]); with_reducible rfl):wpAnyH P md ops Q S (fuel+1) listed a w:=by subst ha;simp only [Bool.and_eq_true] at h1;exact wpAnyH_take h0 h1.1 h1.2.1 h1.2.2 hq (Or.inl ⟨hg,hy⟩) hs h
theorem tW (i:Nat){a':Act}{v:Value}(hy:∀(w:World),S w->Sem.run P (execOp a.eval oi) w=Result.ok (Next.value v) w)(h:wpAnyH P md ops Q S fuel (listed.setIfInBounds i true) a' w)(h0:ops[i]?=some oi:=by rfl)(h1:(Region.noSelect ops&&(Region.free md ops listed i&&(Region.ready md ops listed).contains i))=true:=by kernel_rfl)(hg:Region.wanted oi (yielded ops a.tmps)=true:=by rfl)(hq:∀(c:List PanicEntry) (a:Act) (w:World),Q (Exit.panic c) (a.put oi.dst v) w->Q (Exit.panic c) a w:=by exact fun _ _ _ h=>h)(hs:S w:=by assumption)(ha:a.put oi.dst v=a':=by(try simp only [Act.put,zA,zB,zC,zD,zE,zF]); with_reducible rfl):wpAnyH P md ops Q S (fuel+1) listed a w:=by subst ha;simp only [Bool.and_eq_true] at h1;exact wpAnyH_take h0 h1.1 h1.2.1 h1.2.2 hq (Or.inl ⟨hg,hy⟩) hs h
theorem tX (i:Nat){a':Act}{v:Value}(h:wpAnyH P md ops Q S fuel (listed.setIfInBounds i true) a' w)(h0:ops[i]?=some oi:=by rfl)(h1:(Region.noSelect ops&&(Region.free md ops listed i&&(Region.ready md ops listed).contains i))=true:=by kernel_rfl)(hg:Region.wanted oi (yielded ops a.tmps)=true:=by rfl)(hy:∀(w:World),S w->Sem.run P (execOp a.eval oi) w=Result.ok (Next.value v) w:=by rintro V ⟨-,-,g2⟩; go_simp; all_goals (with_reducible rfl))(hq:∀(c:List PanicEntry) (a:Act) (w:World),Q (Exit.panic c) (a.put oi.dst v) w->Q (Exit.panic c) a w:=by exact fun _ _ _ h=>h)(hs:S w:=by assumption)(ha:a.put oi.dst v=a':=by(try simp only [Act.put,zA,zB,zC,zD,zE,zF]); with_reducible rfl):wpAnyH P md ops Q S (fuel+1) listed a w:=by subst ha;simp only [Bool.and_eq_true] at h1;exact wpAnyH_take h0 h1.1 h1.2.1 h1.2.2 hq (Or.inl ⟨hg,hy⟩) hs h
theorem tS (i:Nat){a':Act}(h:wpAnyH P md ops Q S fuel (listed.setIfInBounds i true) a' w)(h0:ops[i]?=some oi:=by rfl)(h1:(Region.noSelect ops&&(Region.free md ops listed i&&(Region.ready md ops listed).contains i))=true:=by kernel_rfl)(hg:Region.wanted oi (yielded ops a.tmps)=false:=by rfl)(hq:∀(c:List PanicEntry) (a:Act) (w:World),Q (Exit.panic c) (a.put oi.dst undef) w->Q (Exit.panic c) a w:=by exact fun _ _ _ h=>h)(hs:S w:=by assumption)(ha:a.put oi.dst undef=a':=by(try simp only [Act.put,zA,zB,zC,zD,zE,zF]); with_reducible rfl):wpAnyH P md ops Q S (fuel+1) listed a w:=by subst ha;simp only [Bool.and_eq_true] at h1;exact wpAnyH_take h0 h1.1 h1.2.1 h1.2.2 hq (Or.inr ⟨hg,rfl⟩) hs h
theorem kO {K:Act->World->Prop}{A B:Act->World->Prop}{a':Act}(hK:_root_.Go.Shut (∀ a w,A a w->B a w->K a w))(h1:A a w)(h2:B a' w)(ha:a=a':=by(try simp only [Act.put,zA,zB,zC,zD,zE,zF]); with_reducible rfl):K a w:=by subst ha;exact hK.out _ _ h1 h2
theorem tO (i:Nat)(h:∀ K:Act->World->Prop,_root_.Go.Shut (∀ a w,S w->(S w->wpAnyH P md ops Q S fuel (listed.setIfInBounds i true) a w)->K a w)->if Region.wanted oi (yielded ops a.tmps)=true then Oper.wp P oi a w K Q else K (a.put oi.dst undef) w)(h0:ops[i]?=some oi:=by rfl)(h1:Region.ready md ops listed=[i]:=by kernel_rfl):wpAnyH P md ops Q S (fuel+1) listed a w:=wpAnyH_ready h1 (by simp) (AllReadyH.cons h0 h AllReadyH.nil)
end
theorem oR {α:Type}{a b:α}(h:some a=some b):b=a:=(Option.some.inj h).symm
theorem tV {P:Program}{ops:Array Oper}{Q:Exit->Act->World->Prop}{md:Region.Mode}{S:World->Prop}{oi:Oper}{fuel:Nat}{listed:Array Bool}{a:Act}{w:World}(i:Nat)(v:Value)(hy:∀(w:World),S w->Sem.run P (execOp a.eval oi) w=Result.ok (Next.value v) w)(h:wpAnyH P md ops Q S fuel (listed.setIfInBounds i true) (a.put oi.dst v) w)(h0:ops[i]?=some oi:=by rfl)(h1:(Region.noSelect ops&&(Region.free md ops listed i&&(Region.ready md ops listed).contains i))=true:=by kernel_rfl)(hg:Region.wanted oi (yielded ops a.tmps)=true:=by rfl)(hq:∀(c:List PanicEntry) (a:Act) (w:World),Q (Exit.panic c) (a.put oi.dst v) w->Q (Exit.panic c) a w:=by exact fun _ _ _ h=>h)(hs:S w:=by assumption):wpAnyH P md ops Q S (fuel+1) listed a w:=by simp only [Bool.and_eq_true] at h1;exact wpAnyH_take h0 h1.1 h1.2.1 h1.2.2 hq (Or.inl ⟨hg,hy⟩) hs h
theorem cT3 {w:World}{g:Nat}{cs:Array Value}{t:TypeId}{fr:Nat×Nat}(h:w.heap[g]?=some (.cells cs t fr)){v0 v1 v2:Value}(h0:nth cs.toList 0=some v0:=by rfl)(h1:nth cs.toList 1=some v1:=by rfl)(h2:nth cs.toList 2=some v2:=by rfl):w.cell? ⟨g,0,none⟩=some v0∧w.cell? ⟨g,1,none⟩=some v1∧w.cell? ⟨g,2,none⟩=some v2:=⟨cR h 0 h0,cR h 1 h1,cR h 2 h2⟩
theorem cT4 {w:World}{g:Nat}{cs:Array Value}{t:TypeId}{fr:Nat×Nat}(h:w.heap[g]?=some (.cells cs t fr)){v0 v1 v2 v3:Value}(h0:nth cs.toList 0=some v0:=by rfl)(h1:nth cs.toList 1=some v1:=by rfl)(h2:nth cs.toList 2=some v2:=by rfl)(h3:nth cs.toList 3=some v3:=by rfl):w.cell? ⟨g,0,none⟩=some v0∧w.cell? ⟨g,1,none⟩=some v1∧w.cell? ⟨g,2,none⟩=some v2∧w.cell? ⟨g,3,none⟩=some v3:=⟨cR h 0 h0,cR h 1 h1,cR h 2 h2,cR h 3 h3⟩
theorem cT5 {w:World}{g:Nat}{cs:Array Value}{t:TypeId}{fr:Nat×Nat}(h:w.heap[g]?=some (.cells cs t fr)){v0 v1 v2 v3 v4:Value}(h0:nth cs.toList 0=some v0:=by rfl)(h1:nth cs.toList 1=some v1:=by rfl)(h2:nth cs.toList 2=some v2:=by rfl)(h3:nth cs.toList 3=some v3:=by rfl)(h4:nth cs.toList 4=some v4:=by rfl):w.cell? ⟨g,0,none⟩=some v0∧w.cell? ⟨g,1,none⟩=some v1∧w.cell? ⟨g,2,none⟩=some v2∧w.cell? ⟨g,3,none⟩=some v3∧w.cell? ⟨g,4,none⟩=some v4:=⟨cR h 0 h0,cR h 1 h1,cR h 2 h2,cR h 3 h3,cR h 4 h4⟩
theorem cT6 {w:World}{g:Nat}{cs:Array Value}{t:TypeId}{fr:Nat×Nat}(h:w.heap[g]?=some (.cells cs t fr)){v0 v1 v2 v3 v4 v5:Value}(h0:nth cs.toList 0=some v0:=by rfl)(h1:nth cs.toList 1=some v1:=by rfl)(h2:nth cs.toList 2=some v2:=by rfl)(h3:nth cs.toList 3=some v3:=by rfl)(h4:nth cs.toList 4=some v4:=by rfl)(h5:nth cs.toList 5=some v5:=by rfl):w.cell? ⟨g,0,none⟩=some v0∧w.cell? ⟨g,1,none⟩=some v1∧w.cell? ⟨g,2,none⟩=some v2∧w.cell? ⟨g,3,none⟩=some v3∧w.cell? ⟨g,4,none⟩=some v4∧w.cell? ⟨g,5,none⟩=some v5:=⟨cR h 0 h0,cR h 1 h1,cR h 2 h2,cR h 3 h3,cR h 4 h4,cR h 5 h5⟩
theorem cT7 {w:World}{g:Nat}{cs:Array Value}{t:TypeId}{fr:Nat×Nat}(h:w.heap[g]?=some (.cells cs t fr)){v0 v1 v2 v3 v4 v5 v6:Value}(h0:nth cs.toList 0=some v0:=by rfl)(h1:nth cs.toList 1=some v1:=by rfl)(h2:nth cs.toList 2=some v2:=by rfl)(h3:nth cs.toList 3=some v3:=by rfl)(h4:nth cs.toList 4=some v4:=by rfl)(h5:nth cs.toList 5=some v5:=by rfl)(h6:nth cs.toList 6=some v6:=by rfl):w.cell? ⟨g,0,none⟩=some v0∧w.cell? ⟨g,1,none⟩=some v1∧w.cell? ⟨g,2,none⟩=some v2∧w.cell? ⟨g,3,none⟩=some v3∧w.cell? ⟨g,4,none⟩=some v4∧w.cell? ⟨g,5,none⟩=some v5∧w.cell? ⟨g,6,none⟩=some v6:=⟨cR h 0 h0,cR h 1 h1,cR h 2 h2,cR h 3 h3,cR h 4 h4,cR h 5 h5,cR h 6 h6⟩
theorem cT8 {w:World}{g:Nat}{cs:Array Value}{t:TypeId}{fr:Nat×Nat}(h:w.heap[g]?=some (.cells cs t fr)){v0 v1 v2 v3 v4 v5 v6 v7:Value}(h0:nth cs.toList 0=some v0:=by rfl)(h1:nth cs.toList 1=some v1:=by rfl)(h2:nth cs.toList 2=some v2:=by rfl)(h3:nth cs.toList 3=some v3:=by rfl)(h4:nth cs.toList 4=some v4:=by rfl)(h5:nth cs.toList 5=some v5:=by rfl)(h6:nth cs.toList 6=some v6:=by rfl)(h7:nth cs.toList 7=some v7:=by rfl):w.cell? ⟨g,0,none⟩=some v0∧w.cell? ⟨g,1,none⟩=some v1∧w.cell? ⟨g,2,none⟩=some v2∧w.cell? ⟨g,3,none⟩=some v3∧w.cell? ⟨g,4,none⟩=some v4∧w.cell? ⟨g,5,none⟩=some v5∧w.cell? ⟨g,6,none⟩=some v6∧w.cell? ⟨g,7,none⟩=some v7:=⟨cR h 0 h0,cR h 1 h1,cR h 2 h2,cR h 3 h3,cR h 4 h4,cR h 5 h5,cR h 6 h6,cR h 7 h7⟩
theorem cT12 {w:World}{g:Nat}{cs:Array Value}{t:TypeId}{fr:Nat×Nat}(h:w.heap[g]?=some (.cells cs t fr)){v0 v1 v2 v3 v4 v5 v6 v7 v8 v9 v10 v11:Value}(h0:nth cs.toList 0=some v0:=by rfl)(h1:nth cs.toList 1=some v1:=by rfl)(h2:nth cs.toList 2=some v2:=by rfl)(h3:nth cs.toList 3=some v3:=by rfl)(h4:nth cs.toList 4=some v4:=by rfl)(h5:nth cs.toList 5=some v5:=by rfl)(h6:nth cs.toList 6=some v6:=by rfl)(h7:nth cs.toList 7=some v7:=by rfl)(h8:nth cs.toList 8=some v8:=by rfl)(h9:nth cs.toList 9=some v9:=by rfl)(h10:nth cs.toList 10=some v10:=by rfl)(h11:nth cs.toList 11=some v11:=by rfl):w.cell? ⟨g,0,none⟩=some v0∧w.cell? ⟨g,1,none⟩=some v1∧w.cell? ⟨g,2,none⟩=some v2∧w.cell? ⟨g,3,none⟩=some v3∧w.cell? ⟨g,4,none⟩=some v4∧w.cell? ⟨g,5,none⟩=some v5∧w.cell? ⟨g,6,none⟩=some v6∧w.cell? ⟨g,7,none⟩=some v7∧w.cell? ⟨g,8,none⟩=some v8∧w.cell? ⟨g,9,none⟩=some v9∧w.cell? ⟨g,10,none⟩=some v10∧w.cell? ⟨g,11,none⟩=some v11:=⟨cR h 0 h0,cR h 1 h1,cR h 2 h2,cR h 3 h3,cR h 4 h4,cR h 5 h5,cR h 6 h6,cR h 7 h7,cR h 8 h8,cR h 9 h9,cR h 10 h10,cR h 11 h11⟩
end Go.Proofs.YtkenknfgeoecbaaGreatDoor
namespace Go.Proofs.YtkenknfgeoecbaaGreatDoor
open Go.RowKit
set_option maxHeartbeats 1000000
set_option maxRecDepth 100000
theorem Jk (n lo hi:Int)(w:World):Calls Tryz.prog 100 #[.int .i64 n,.int .i64 lo,.int .i64 hi] w fun e w'=>e=.returned (.bool (Gn n lo hi))∧w'=w:=by
 unfold Gn;by_cases h1:lo<=n
 ·by_cases h2:n<=hi
  ·have hd:decide (lo<=n∧n<=hi)=true:=by simp; omega
   rw [hd];clear hd;go_enter Tryz.func100,Tryz.ntmps100
   go_wp2;go_ret;exact⟨rfl,rfl⟩
  ·have hd:decide (lo<=n∧n<=hi)=false:=by simp; omega
   rw [hd];clear hd;go_enter Tryz.func100,Tryz.ntmps100
   go_wp2;go_ret;exact⟨rfl,rfl⟩
 ·have hd:decide (lo<=n∧n<=hi)=false:=by simp; omega
  rw [hd];clear hd;go_enter Tryz.func100,Tryz.ntmps100
  go_wp2;go_ret;exact⟨rfl,rfl⟩
theorem Zkv (v:Value)(ns:List Int)(w:World)(h:Li w v ns):Calls Tryz.prog 129 #[v] w fun e w'=>e=.returned (.bool (Gg ns 1 8))∧w'=w:=by
 obtain⟨p,cap,rfl,hcap,hlt,hc⟩:=h;have hlt:ns.length<9223372036854775808:=hlt;have HC:=Za hc;clear hc;go_enter Tryz.func129,Tryz.ntmps129
 go_wp2_with fail
 go_loopw [7] (fun j w'=>∃ k:Nat,j=.int .i64 k∧k<=ns.length∧w'=w∧∀ q,q<k->Gn (ns.getD q 0) 1 8=true) (fun j _=>ns.length-(intOf j).toNat)
 case atStart=>exact⟨0,rfl,by omega,rfl,fun q hq=>by omega⟩
 case round =>
  obtain⟨k,rfl,hk,rfl,hno⟩:=hrel;have HN:=Za hno;clear hno;by_cases hk2:k<ns.length
  ·obtain⟨sb,so,rfl,hcc⟩:=J HC (by omega);have c:=hcc k hk2;have HW:=Za (Jk (ns.getD k 0) 1 8 wr);have HBAD:=Za (fun hb:Gn (ns.getD k 0) 1 8=false=>show Gg ns 1 8=false from Gd hk2 hb);have HNX:=Za (fun hb:Gn (ns.getD k 0) 1 8=true=>Jc (q:=fun q=>Gn (ns.getD q 0) 1 8) (J HN) hb);clear hcc HC;generalize Gn (ns.getD k 0) 1 8=yes at HW HBAD HNX;generalize ns.getD k 0=y at c HW;go_wp2_with fail
   refine(J HW).mono ?_;rintro e w2 ⟨rfl,h2⟩;subst w2;cases yes with
   | false=>have hx:=Za (J HBAD rfl);go_wp2;go_ret;exact⟨by rw [J hx]; rfl,rfl⟩
   | true =>
    have hx:=Za (J HNX rfl);go_wp2;go_roundw
    case rel=>exact⟨k+1,by go_num,by omega,trivial,J hx⟩
    case measure=>simp [intOf]; omega
  ·have HT:=Za (show Gg ns 1 8=true from Ld (fun q hq=>J HN q (by omega)));obtain rfl:k=ns.length:=by omega
   go_wp2;go_ret;exact⟨by rw [J HT]; rfl,rfl⟩
theorem al0 (w:World)(X:Obj):(w.alloc X).heap[w.heap.size]?=some X∧Below w.heap.size w (w.alloc X)∧(w.alloc X).heap.size=w.heap.size+1 :=
 ⟨heap_alloc_new w _,(Below.refl w.heap.size w).alloc (Nat.le_refl _) _,by simp⟩
theorem Gl {a w:World}{n:Nat}(h:Below n a w)(m:Nat):Below n a (w.drewN m):=⟨h.os,h.tape,h.output,h.size,h.block⟩
theorem Zd {a c d:World}{n:Nat}(h:Below n a c)(k:Below c.heap.size c d)(hn:n<=c.heap.size):Below n a d:=h.trans (k.mono hn)
theorem LS.pairs {w:World}{v:Value}{xs:List (Int×Int)}(h:LS 2 w v xs.length (fun k=>Nq (xs.getD k (0,0)))):∃ p cap,v=.slice p xs.length cap∧xs.length<=cap∧xs.length<9223372036854775808∧(0<xs.length->∃ sb so,p=some ⟨sb,so,none⟩∧∀ k,k<xs.length->w.cell? ⟨sb,so+k*2,none⟩=some (.int .i64 (xs.getD k (0,0)).1)∧w.cell? ⟨sb,so+k*2+1,none⟩=some (.int .i64 (xs.getD k (0,0)).2)):=by obtain⟨p,cap,h1,h2,h3,h4⟩:=h;refine⟨p,cap,h1,h2,h3,fun h0=>?_⟩;obtain⟨sb,so,e,-,hc⟩:=h4 h0;exact⟨sb,so,e,fun k hk=>⟨hc k hk 0 _ rfl,hc k hk 1 _ rfl⟩⟩
theorem Cr (v:Value)(ns:List Int)(r:Int)(w:World)(h:Li w v ns):Calls Tryz.prog 62 #[.agg #[v,.int .i64 r]] w fun e w'=>e=.returned (.bool (Ns (ns,r)))∧Below w.heap.size w w':=by
 have hx:=al0 w (.cells #[v,.int .i64 r] 43 (0,0));have h':=h.below hx.2.1;obtain⟨p,cap,rfl,hcap,hlt,hc⟩:=h';have hlt:ns.length<9223372036854775808:=hlt;have HC:=Za hc;have HX:=Za hx;clear hc hx h;by_cases h8:ns.length<=8
 ·have HS:=Za (show Ns (ns,r)=(Gn r 0 4&&Gg ns 0 8) by unfold Ns; simp [h8]);go_enter Tryz.func62,Tryz.ntmps62
  go_wp2_with fail
  refine(Jk r 0 4 _).mono ?_;rintro e w2 ⟨rfl,h2⟩;subst w2;cases hr:Gn r 0 4 with
  | false=>have HR:=Za hr;clear hr;go_wp2;go_ret;exact⟨by rw [J HS,J HR]; rfl,(J HX).2.1⟩
  | true =>
   have HR:=Za hr;clear hr;go_wp2_with fail
   generalize World.alloc w _=W at HC HX ⊢;go_loopw [18] (fun j w'=>∃ k:Nat,j=.int .i64 k∧k<=ns.length∧w'=W∧∀ q,q<k->Gn (ns.getD q 0) 0 8=true) (fun j _=>ns.length-(intOf j).toNat)
   case atStart=>exact⟨0,rfl,by omega,rfl,fun q hq=>by omega⟩
   case round =>
    obtain⟨k,rfl,hk,rfl,hno⟩:=hrel;have HN:=Za hno;clear hno;by_cases hk2:k<ns.length
    ·obtain⟨sb,so,rfl,hcc⟩:=J HC (by omega);have c:=hcc k hk2;have HW:=Za (Jk (ns.getD k 0) 0 8 wr);have HBAD:=Za (fun hb:Gn (ns.getD k 0) 0 8=false=>show Gg ns 0 8=false from Gd hk2 hb);have HNX:=Za (fun hb:Gn (ns.getD k 0) 0 8=true=>Jc (q:=fun q=>Gn (ns.getD q 0) 0 8) (J HN) hb);clear hcc HC;generalize Gn (ns.getD k 0) 0 8=yes at HW HBAD HNX;generalize ns.getD k 0=y at c HW;go_wp2_with fail
     refine(J HW).mono ?_;rintro e w2 ⟨rfl,h2⟩;subst w2;cases yes with
     | false=>have hx:=Za (J HBAD rfl);go_wp2;go_ret;exact⟨by rw [J HS,J HR,J hx]; rfl,(J HX).2.1⟩
     | true =>
      have hx:=Za (J HNX rfl);go_wp2;go_roundw
      case rel=>exact⟨k+1,by go_num,by omega,trivial,J hx⟩
      case measure=>simp [intOf]; omega
    ·have HT:=Za (show Gg ns 0 8=true from Ld (fun q hq=>J HN q (by omega)));obtain rfl:k=ns.length:=by omega
     go_wp2;go_ret;exact⟨by rw [J HS,J HR,J HT]; rfl,(J HX).2.1⟩
 ·have HS:=Za (show Ns (ns,r)=false by unfold Ns; simp [h8]);go_enter Tryz.func62,Tryz.ntmps62
  go_wp2;go_ret;exact⟨by rw [J HS]; rfl,(J HX).2.1⟩
theorem Zhk (f:Zm)(a v u c:Value)(r:Int)(x:Int×Int)(w:World)(hh:Li w v f.homes)(hs:Li w u f.slots):Calls Tryz.prog 196 #[.agg #[a,.int .i64 r,v,u,c],.agg #[.int .i64 x.1,.int .i64 x.2]] w fun e w'=>e=.returned (.bool (Rl f x))∧Below w.heap.size w w':=by
 obtain⟨x,y⟩:=x;obtain⟨p,cap,rfl,hcap,hlt,hc⟩:=hh;have hlt:f.homes.length<9223372036854775808:=hlt;have hx:=al0 w (.cells #[a,.int .i64 r,.slice p f.homes.length cap,u,c] 71 (0,0));have hs':=hs.below hx.2.1;have hs1:=hx.2.2;have HX:=Za hx.2.1;generalize hW:World.alloc w (.cells #[a,.int .i64 r,.slice p f.homes.length cap,u,c] 71 (0,0))=W at hs' HX hs1;have hy:=al0 W (.cells #[.int .i64 x,.int .i64 y] 107 (0,0));have hs'':=hs'.below hy.2.1;have HB:=Za (Zd (J HX) hy.2.1 (by omega));obtain⟨p2,cap2,rfl,hcap2,hlt2,hc2⟩:=hs'';have hlt2:f.slots.length<9223372036854775808:=hlt2;have HC2:=Za hc2;clear hc hc2 hs hs' hx hy;subst hW;by_cases h0:x=0
 ·have HS:=Za (show Rl f (x,y)=Gn y 0 (f.homes.length-1) by unfold Rl; simp [h0]);have HW:=Za (fun V=>Jk y 0 (f.homes.length-1) V);generalize Gn y 0 (f.homes.length-1)=yes at HS HW;subst h0;go_enter Tryz.func196,Tryz.ntmps196
  go_wp2_with fail
  refine(J HW _).mono ?_;rintro e w2 ⟨rfl,h2⟩;subst w2;go_wp2;go_ret;exact⟨by rw [J HS]; rfl,J HB⟩
 ·have hz:(x==0)=false:=by simpa using h0
  have HS:=Za (show Rl f (x,y)=(Gn y 0 (f.slots.length-1)&&decide (f.slots.getD y.toNat 0=x)) by unfold Rl; simp [h0]);have HW:=Za (fun V=>Jk y 0 (f.slots.length-1) V);go_enter Tryz.func196,Tryz.ntmps196
  go_wp2_with fail
  cases hr:Gn y 0 (f.slots.length-1) with
  | false =>
   rw [hr] at HW HS;go_quiet ((go_at_call 100; exact Calls.quiet_of_same (J HW _)))
   go_wp2;go_ret;exact⟨by rw [J HS]; rfl,Gl (J HB) _⟩
  | true =>
   rw [hr] at HW HS;have hr2:=hr;unfold Gn at hr2;have hr3:=of_decide_eq_true hr2;obtain⟨g0,g1⟩:=hr3;obtain⟨sb,so,rfl,hcc⟩:=J HC2 (by omega);obtain⟨n,rfl⟩:∃ n:Nat,y=n:=⟨y.toNat,by omega⟩;have hn:n<f.slots.length:=by omega
   have cc:=hcc n hn;rw [Int.toNat_natCast] at HS;clear hr hr2 hcc HC2 g0 g1;generalize f.slots.getD n 0=z at cc HS;go_quiet ((go_at_call 100; exact Calls.quiet_of_same (J HW _)))
   go_wp2;go_ret;exact⟨by rw [J HS]; rfl,Gl (J HB) _⟩
set_option maxHeartbeats 4000000
set_option maxRecDepth 100000
theorem LS.ones {w:World}{v:Value}{n:Nat}{B:Nat->Value}(h:LS 1 w v n (fun k=>#[B k])):∃ p cap,v=.slice p n cap∧n<=cap∧n<9223372036854775808∧(0<n->∃ sb so,p=some ⟨sb,so,none⟩∧∀ k,k<n->w.cell? ⟨sb,so+k,none⟩=some (B k)):=by obtain⟨p,cap,h1,h2,h3,h4⟩:=h;refine⟨p,cap,h1,h2,h3,fun h0=>?_⟩;obtain⟨sb,so,e,-,hc⟩:=h4 h0;refine⟨sb,so,e,fun k hk=>?_⟩;have:=hc k hk 0 _ rfl;rwa [Nat.mul_one,Nat.add_zero] at this
theorem Gm {w:World}{T:Nat}{cs:Array Value}{t:TypeId}{fr:Nat×Nat}(h:w.heap[T]?=some (.cells cs t fr))(j:Nat)(X:Obj):(w.alloc X).cell? ⟨T,j,none⟩=cs[j]?:=by
 have hlt:T<w.heap.size:=by
  rcases Nat.lt_or_ge T w.heap.size with y | y
  ·exact y
  ·simp [Array.getElem?_eq_none y] at h
 exact(World.cell?_of_block (a:=⟨T,j,none⟩) ((al0 w X).2.1.block T hlt)).trans (Zi h j)
theorem Li.rs {w:World}{v:Value}{ns:List Int}(h:Li w v ns):Rs w v ns:=by
 obtain⟨p,cap,h1,h2,h3,h4⟩:=h;rcases Nat.eq_zero_or_pos ns.length with h0 | h0
 ·exact Or.inl ⟨List.eq_nil_of_length_eq_zero h0,p,cap,by rw [h1,h0]⟩
 ·obtain⟨sb,so,e,hc⟩:=h4 h0;exact Or.inr ⟨sb,so,cap,by rw [h1,e],hc⟩
theorem Zhl (v:Value)(bs:List (List Yj))(B:Nat->Value)(w:World)(h:LS 1 w v bs.length (fun k=>#[B k]))(hB:∀ k,k<bs.length->∃ q c,B k=.slice q (bs.getD k []).length c∧(bs.getD k []).length<9223372036854775808):Calls Tryz.prog 130 #[v] w fun e w'=>e=.returned (.bool (Ua bs))∧w'=w:=by
 obtain⟨p,cap,rfl,hcap,hlt,hc⟩:=h.ones;have HC:=Za hc;have HB:=Za hB;clear hc h hB;go_enter Tryz.func130,Tryz.ntmps130
 go_wp2_with fail
 go_loopw [7] (fun j w'=>∃ k:Nat,j=.int .i64 k∧k<=bs.length∧w'=w∧∀ q,q<k->Gn ((bs.getD q []).length) 1 24=true) (fun j _=>bs.length-(intOf j).toNat)
 case atStart=>exact⟨0,rfl,by omega,rfl,fun q hq=>by omega⟩
 case round =>
  obtain⟨k,rfl,hk,rfl,hno⟩:=hrel;have HN:=Za hno;clear hno;by_cases hk2:k<bs.length
  ·obtain⟨sb,so,rfl,hcc⟩:=J HC (by omega);have c:=hcc k hk2;obtain⟨q,cp,hq,hql⟩:=J HB k hk2;rw [hq] at c;have HW:=Za (Jk ((bs.getD k []).length) 1 24 wr);have HBAD:=Za (fun hb:Gn ((bs.getD k []).length) 1 24=false=>show Ua bs=false from Gd hk2 hb);have HNX:=Za (fun hb:Gn ((bs.getD k []).length) 1 24=true=>Jc (q:=fun q=>Gn ((bs.getD q []).length) 1 24) (J HN) hb);clear hcc HC hq HB;generalize Gn ((bs.getD k []).length) 1 24=yes at HW HBAD HNX;generalize (bs.getD k []).length=y at c HW hql;go_wp2_with fail
   refine(J HW).mono ?_;rintro e w2 ⟨rfl,h2⟩;subst w2;cases yes with
   | false=>have hx:=Za (J HBAD rfl);go_wp2;go_ret;exact⟨by rw [J hx]; rfl,rfl⟩
   | true =>
    have hx:=Za (J HNX rfl);go_wp2;go_roundw
    case rel=>exact⟨k+1,by go_num,by omega,trivial,J hx⟩
    case measure=>simp [intOf]; omega
  ·have HT:=Za (show Ua bs=true from Ld (fun q hq=>J HN q (by omega)));obtain rfl:k=bs.length:=by omega
   go_wp2;go_ret;exact⟨by rw [J HT]; rfl,rfl⟩
theorem Zhm (f:Zm)(pv hv sv bv:Value)(w:World)(hp:LS 2 w pv f.params.length (fun k=>Nq (f.params.getD k (0,0))))(hh:Li w hv f.homes)(hs:Li w sv f.slots):Calls Tryz.prog 131 #[.agg #[pv,.int .i64 f.results,hv,sv,bv]] w fun e w'=>e=.returned (.bool (Ub f))∧Below w.heap.size w w':=by
 have hx:=al0 w (.cells #[pv,.int .i64 f.results,hv,sv,bv] 71 (0,0));have HH:=Za (hh.below hx.2.1);have HS:=Za (hs.below hx.2.1);obtain⟨p,cap,rfl,hcap,hlt,hc⟩:=(hp.below hx.2.1).pairs;obtain⟨ph,ch,rfl⟩:=hh.shape;obtain⟨ps,cs,rfl⟩:=hs.shape;have HC:=Za hc;have HX:=Za hx;clear hc hx hp hh hs;go_enter Tryz.func131,Tryz.ntmps131
 go_wp2_with fail
 generalize World.alloc w _=W at HH HS HC HX ⊢;go_loopw [10] (fun j w'=>∃ k:Nat,j=.int .i64 k∧k<=f.params.length∧Below W.heap.size W w'∧∀ q,q<k->Ke f q=true) (fun j _=>f.params.length-(intOf j).toNat)
 case atStart=>exact⟨0,rfl,by omega,Below.refl _ _,fun q hq=>by omega⟩
 case round =>
  obtain⟨k,rfl,hk,hbw,hno⟩:=hrel;have HN:=Za hno;clear hno;by_cases hk2:k<f.params.length
  ·obtain⟨sb,so,rfl,hcc⟩:=J HC (by omega);have hWs:=(J HX).2.2;have hws:=hbw.size;have hsb:sb<W.heap.size:=World.block_lt_of_cell? W _ (hcc k hk2).1;have c1:=(hbw.cell (p:=⟨sb,so+k*2,none⟩) hsb).trans (hcc k hk2).1;have c2:=(hbw.cell (p:=⟨sb,so+k*2+1,none⟩) hsb).trans (hcc k hk2).2;have hrow:=(hbw.block w.heap.size (by omega)).trans (J HX).1;have HROW:=Za hrow;have r0:=fun X:Obj=>(Gm hrow 0 X).trans rfl;have r1:=fun X:Obj=>(Gm hrow 1 X).trans rfl;have r2:=fun X:Obj=>(Gm hrow 2 X).trans rfl;have r3:=fun X:Obj=>(Gm hrow 3 X).trans rfl;have r4:=fun X:Obj=>(Gm hrow 4 X).trans rfl;have HCC:=Za hcc;have HBW:=Za hbw;clear hcc hrow;generalize hxy:f.params.getD k (0,0)=xy at c1 c2;have HXY:=Za hxy;clear hxy;obtain⟨x,y⟩:=xy;simp only at c1 c2;go_wp2_with fail
   have hy:=al0 wr (.cells #[.int .i64 x,.int .i64 y] 107 (0,0));have hbY:Below W.heap.size W (wr.alloc (.cells #[.int .i64 x,.int .i64 y] 107 (0,0))):=Zd hbw hy.2.1 hws;refine(Zhk f _ _ _ _ _ (x,y) _ ((J HH).below hbY) ((J HS).below hbY)).mono ?_;rintro e w2 ⟨rfl,hb2⟩;have hb2s:=hb2.size;have hrx:=(hb2.block wr.heap.size (by omega)).trans hy.1;have hrf:=(hb2.block w.heap.size (by omega)).trans ((hy.2.1.block w.heap.size (by omega)).trans (J HROW));have hys:=hy.2.2;have hbZ:Below W.heap.size W w2:=Zd hbY hb2 (by omega);have HBZ:=Za hbZ;have HRX:=Za hrx;have HB2:=Za hb2;clear hb2 hy hbY r0 r1 r2 r3 r4 c1 c2 hbw hbZ;have f0:=(cR hrf 0);clear hrf hrx;cases hsp:Rl f (x,y) with
   | false=>have HT:=Za (show Ub f=false from Gd hk2 (by unfold Ke; rw [J HXY,hsp]; rfl));clear hsp;go_wp2;go_ret;exact⟨by rw [J HT]; rfl,Zd (J HX).2.1 (J HBZ) (by omega)⟩
   | true =>
    have HSP:=Za hsp;clear hsp;go_wp2_with fail
    clear f0;generalize hg:wr.heap.size=Tx at HRX hys hws ⊢;have hTx:Tx<w2.heap.size:=by omega
    clear hg hb2s hys;go_loopw [24] (fun j w'=>∃ m:Nat,j=.int .i64 m∧m<=k∧Below w2.heap.size w2 w'∧∀ q,q<m->(!Zbj (x,y) (f.params.getD q (0,0)))=true) (fun j _=>k-(intOf j).toNat)
    case atStart=>exact⟨0,rfl,by omega,Below.refl _ _,fun q hq=>by omega⟩
    case round =>
     obtain⟨m,rfl,hm,hbm,hmo⟩:=hrel;have HM:=Za hmo;clear hmo;have hms:=hbm.size;by_cases hm2:m<k
     ·have hq:=(J HCC) m (by omega);have hwm:Below W.heap.size W wr:=Zd (J HBZ) hbm (by have:=(J HBZ).size; omega);have c1:=(hwm.cell (p:=⟨sb,so+m*2,none⟩) hsb).trans hq.1;have c2:=(hwm.cell (p:=⟨sb,so+m*2+1,none⟩) hsb).trans hq.2;have hrow:=(hbm.block Tx hTx).trans (J HRX);have r0:=fun X:Obj=>(Gm hrow 0 X).trans rfl;have r1:=fun X:Obj=>(Gm hrow 1 X).trans rfl;have HBM:=Za hbm;clear hrow hq hwm hbm;generalize hxy:f.params.getD m (0,0)=xy at c1 c2;have HXZ:=Za hxy;clear hxy;obtain⟨x2,y2⟩:=xy;simp only at c1 c2;have hme:Zbj (x,y) (x2,y2)=(decide (y=y2)&&(decide (x=0)==decide (x2=0))):=rfl;have HBAD:=Za (fun hb:(decide (y=y2)&&(decide (x=0)==decide (x2=0)))=true=>show Ub f=false from Gd hk2 (by unfold Ke; rw [J HXY]; simp only [Bool.and_eq_false_iff]; exact Or.inr (Gd hm2 (by rw [J HXZ,hme,hb]; rfl))));have HNX:=Za (fun hb:(decide (y=y2)&&(decide (x=0)==decide (x2=0)))=false=>Jc (q:=fun q=>!Zbj (x,y) (f.params.getD q (0,0))) (J HM) (by show(!Zbj (x,y) (f.params.getD m (0,0)))=true; rw [J HXZ,hme,hb]; rfl));have HBA:=Za (Zd (J HBM) (al0 wr (.cells #[.int .i64 x2,.int .i64 y2] 107 (0,0))).2.1 hms);clear hme;by_cases e1:y=y2
      ·subst e1;by_cases e2:x=0
       ·by_cases e3:x2=0
        ·subst e2 e3;have hx:=Za (J HBAD (by simp));go_wp2;go_ret;exact⟨by rw [J hx]; rfl,Zd (J HX).2.1 (Zd (J HBZ) (J HBA) (by have:=(J HBZ).size; omega)) (by omega)⟩
        ·subst e2;have z3:(x2==0)=false:=by simpa using e3
         have hx:=Za (J HNX (by simp [e3]));go_wp2;go_roundw
         case rel=>exact⟨m+1,by go_num,by omega,J HBA,J hx⟩
         case measure=>simp [intOf]; omega
       ·have z2:(x==0)=false:=by simpa using e2
        by_cases e3:x2=0
        ·subst e3;have hx:=Za (J HNX (by simp [e2]));go_wp2;go_roundw
         case rel=>exact⟨m+1,by go_num,by omega,J HBA,J hx⟩
         case measure=>simp [intOf]; omega
        ·have z3:(x2==0)=false:=by simpa using e3
         have hx:=Za (J HBAD (by simp [e2,e3]));go_wp2;go_ret;exact⟨by rw [J hx]; rfl,Zd (J HX).2.1 (Zd (J HBZ) (J HBA) (by have:=(J HBZ).size; omega)) (by omega)⟩
      ·have z1:(y==y2)=false:=by simpa using e1
       have hx:=Za (J HNX (by simp [e1]));go_wp2;go_roundw
       case rel=>exact⟨m+1,by go_num,by omega,J HBA,J hx⟩
       case measure=>simp [intOf]; omega
     ·obtain rfl:m=k:=by omega
      have hx:=Za (Jc (q:=Ke f) (J HN) (by unfold Ke; rw [J HXY,J HSP,Ld (J HM)]; rfl));have HBM:=Za (Zd (J HBZ) hbm (by have:=(J HBZ).size; omega));clear hbm;go_wp2;go_roundw
      case rel=>exact⟨m+1,by go_num,by omega,J HBM,J hx⟩
      case measure=>simp [intOf]; omega
  ·have HT:=Za (show Ub f=true from Ld (fun q hq=>J HN q (by omega)));obtain rfl:k=f.params.length:=by omega
   have HBW:=Za hbw;have hWs:=(J HX).2.2;clear hbw;go_wp2;go_ret;exact⟨by rw [J HT]; rfl,Zd (J HX).2.1 (J HBW) (by omega)⟩
set_option maxHeartbeats 4000000
set_option maxRecDepth 100000
theorem Zkw (r sp lk t0 t1:Int)(va vr vs:Value)(al sh by_:Int)(pr:Bool)(v:Value)(hs:List Int)(w:World)(hr:4<=r∧r<=16)(h:Li w v hs)(hn:hs.length<=1000000):Calls Tryz.prog 128 #[.agg (Zt r sp lk t0 t1 va vr vs al sh by_ pr),v] w fun e w'=>e=.returned (.bool (Kd r (Yn sp lk t0 t1) hs))∧Below w.heap.size w w':=by
 have hx:=al0 w (.cells (Zt r sp lk t0 t1 va vr vs al sh by_ pr) 25 (0,0));have HL:=Za (h.below hx.2.1);obtain⟨p,cap,rfl,hcap,hlt,-⟩:=h;have HX:=Za hx;have HRES:=Za (fun V=>Zdf r sp lk t0 t1 va vr vs al sh by_ pr V);have hr1:=hr.1;have hr2:=hr.2;clear hx hr;unfold Zt at HX HL HRES ⊢;go_enter Tryz.func128,Tryz.ntmps128
 go_wp2_with fail
 generalize World.alloc w _=W at HL HX ⊢;refine(J HRES W).mono ?_;rintro e w2 ⟨vo,rfl,hro,hco,hb2⟩;obtain⟨po,co,rfl⟩:=hro.shape;have HRO:=Za hro;have HB2:=Za hb2;have HW2:=Za (Zd (J HX).2.1 hb2 (by have:=(J HX).2.2; omega));have HL2:=Za ((J HL).below hb2);have hrow:=(hb2.block w.heap.size (by have:=(J HX).2.2; omega)).trans (J HX).1;have r0:=(cR hrow 0);have hol:(Yn sp lk t0 t1).length<=1000000:=by unfold Yn; split <;> simp
 clear hro hco hb2 hrow;generalize hO:Yn sp lk t0 t1=own at HRO hol;have HOW:=Za hO;clear hO;go_wp2_with fail
 go_loopw [12] (fun j w'=>∃ k:Nat,j=.int .i64 k∧k<=hs.length∧w'=w2∧∀ q,q<k->Zee r own hs q=true) (fun j _=>hs.length-(intOf j).toNat)
 case atStart=>exact⟨0,rfl,by omega,rfl,fun q hq=>by omega⟩
 case round =>
  obtain⟨k,rfl,hk,rfl,hno⟩:=hrel;have HN:=Za hno;clear hno;by_cases hk2:k<hs.length
  ·have HCT:=Za (fun x=>Ms (hs.take k) x (.slice p k cap) wr ((J HL2).take k (by omega)).rs (by simp; omega));have HCO:=Za (fun x=>Ms own x (.slice po own.length co) wr (J HRO) hol);obtain⟨p',cap',he,-,-,hcc⟩:=J HL2;injection he with e1 e2 e3;subst e1 e3;obtain⟨sb,so,rfl,hc⟩:=hcc (by omega);have c:=hc k hk2;have hho:Zee r own hs k=(decide (hs.getD k 0=-1)||(Gn (hs.getD k 0) 0 (r-1)&&(!decide (hs.getD k 0 ∈ own)&&!decide (hs.getD k 0 ∈ hs.take k)))):=rfl;have HHO:=Za hho;have HBAD:=Za (fun hb:Zee r own hs k=false=>show Kd r own hs=false from Gd hk2 hb);have HNX:=Za (fun hb:Zee r own hs k=true=>Jc (J HN) hb);clear hho hc hcc e2;generalize Zee r own hs k=yes at HHO HBAD HNX;generalize hs.getD k 0=y at c HHO;by_cases hm:y=-1
   ·subst hm;have hx:=Za (J HNX (by rw [J HHO]; rfl));go_wp2;go_roundw
    case rel=>exact⟨k+1,by go_num,by omega,trivial,J hx⟩
    case measure=>simp [intOf]; omega
   ·have z:(y==-1)=false:=by simpa using hm
    have HH2:=Za (show yes=(Gn y 0 (r-1)&&(!decide (y ∈ own)&&!decide (y ∈ hs.take k))) by rw [J HHO]; simp [hm]);clear HHO hm;go_wp2_with fail
    refine(Jk y 0 (r-1) _).mono ?_;rintro e w3 ⟨rfl,h3⟩;subst w3;cases hi:Gn y 0 (r-1) with
    | false=>have hx:=Za (J HBAD (by rw [J HH2,hi]; rfl));clear hi;go_wp2;go_ret;exact⟨by rw [J HOW,J hx]; rfl,J HW2⟩
    | true =>
     have HI:=Za hi;clear hi;go_wp2_with fail
     refine(J HCO y).mono ?_;rintro e w3 ⟨rfl,h3⟩;subst w3;cases hi:decide (y ∈ own) with
     | true=>have hx:=Za (J HBAD (by rw [J HH2,hi]; simp));clear hi;go_wp2;go_ret;exact⟨by rw [J HOW,J hx]; rfl,J HW2⟩
     | false =>
      have HI2:=Za hi;clear hi;go_wp2_with fail
      refine(J HCT y).mono ?_;rintro e w3 ⟨rfl,h3⟩;subst w3;cases hi:decide (y ∈ hs.take k) with
      | true=>have hx:=Za (J HBAD (by rw [J HH2,hi]; simp));clear hi;go_wp2;go_ret;exact⟨by rw [J HOW,J hx]; rfl,J HW2⟩
      | false =>
       have hx:=Za (J HNX (by rw [J HH2,hi,J HI2,J HI]; rfl));clear hi;go_wp2;go_roundw
       case rel=>exact⟨k+1,by go_num,by omega,trivial,J hx⟩
       case measure=>simp [intOf]; omega
  ·have HT:=Za (show Kd r own hs=true from Ld (fun q hq=>J HN q (by omega)));obtain rfl:k=hs.length:=by omega
   go_wp2;go_ret;exact⟨by rw [J HOW,J HT]; rfl,J HW2⟩
end Go.Proofs.YtkenknfgeoecbaaGreatDoor
