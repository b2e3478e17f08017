import Derived.Deep.RegionHeld3
import Derived.WalkKit
import Derived.Test.YtedemloocadimaaGreatDoorJ22
import Derived.Test.YtedemloocadimaaGreatDoorShelf
import Derived.Laws.AppendOwn
import Derived.Deep.QuietTactic
import Derived.BigQuiet
import Derived.Test.YtedemloocadimaaGreatDoorJ9
namespace Go.Proofs.YtedemloocadimaaGreatDoor
section
variable {α:Type}
theorem zA (l:List α)(i:Nat)(a:α):l.toArray.setIfInBounds i a=(l.set i a).toArray:=List.setIfInBounds_toArray l i a
theorem zB {x:α}{xs:List α}{a:α}:(x :: xs).set 0 a=a :: xs:=rfl
theorem zC {x:α}{xs:List α}{i:Nat}{a:α}:(x :: xs).set (i+1) a=x :: xs.set i a:=rfl
theorem zD {xs:List α}{i:Nat}(h:i<xs.toArray.size):xs.toArray[i]=xs[i]'h:=rfl
theorem zE (a:α)(l:List α)(h:0<(a :: l).length):(a :: l)[0]=a:=rfl
theorem zF (a:α)(l:List α)(i:Nat)(h:i+1<(a :: l).length):(a :: l)[i+1]=l[i]'(Nat.lt_of_succ_lt_succ h):=rfl
end
def nth:List Value→Nat→Option Value
 | [],_=>none
 | a :: _,0=>some a
 | _ :: l,k+1=>nth l k
theorem Zph:∀(l:List Value) (k:Nat),nth l k=l[k]?
 | [],_=>rfl
 | _ :: _,0=>rfl
 | _ :: l,k+1=>(Zph l k).trans (by simp)
theorem cR {w:World}{g:Nat}{cs:Array Value}{t:TypeId}{fr:Nat×Nat}(h:w.heap[g]?=some (.cells cs t fr))(k:Nat){v:Value}(hv:nth cs.toList k=some v:=by rfl):w.cell? ⟨g,k,none⟩=some v:=by
 rw [cell_of_row w g k cs t fr h,← Array.getElem?_toList,← Zph];exact hv
section
variable {P:Program} {ops:Array Oper} {Q:Exit→Act→World→Prop} {md:Region.Mode} {S:World→Prop} {oi:Oper} {fuel:Nat} {listed:Array Bool} {a:Act} {w:World}
theorem tT (i:Nat){a':Act}{v:Value}(h:wpAnyH P md ops Q S fuel (listed.setIfInBounds i true) a' w)(h0:ops[i]?=some oi:=by rfl)(h1:(Region.noSelect ops&&(Region.free md ops listed i&&(Region.ready md ops listed).contains i))=true:=by kernel_rfl)(hg:Region.wanted oi (yielded ops a.tmps)=true:=by rfl)(hy:∀(w:World),S w→Sem.run P (execOp a.eval oi) w=Result.ok (Next.value v) w:=by intro V hV; (try dsimp only at hV); go_simp; all_goals (with_reducible rfl))(hq:∀(c:List PanicEntry) (a:Act) (w:World),Q (Exit.panic c) (a.put oi.dst v) w→Q (Exit.panic c) a w:=by exact fun _ _ _ h=>h)(hs:S w:=by assumption)(ha:a.put oi.dst v=a':=by(try simp only [Act.put,zA,zB,zC,zD,zE,zF]); with_reducible rfl):wpAnyH P md ops Q S (fuel+1) listed a w:=by
 subst ha;simp only [Bool.and_eq_true] at h1;exact wpAnyH_take h0 h1.1 h1.2.1 h1.2.2 hq (Or.inl ⟨hg,hy⟩) hs h
theorem tW (i:Nat){a':Act}{v:Value}(hy:∀(w:World),S w→Sem.run P (execOp a.eval oi) w=Result.ok (Next.value v) w)(h:wpAnyH P md ops Q S fuel (listed.setIfInBounds i true) a' w)(h0:ops[i]?=some oi:=by rfl)(h1:(Region.noSelect ops&&(Region.free md ops listed i&&(Region.ready md ops listed).contains i))=true:=by kernel_rfl)(hg:Region.wanted oi (yielded ops a.tmps)=true:=by rfl)(hq:∀(c:List PanicEntry) (a:Act) (w:World),Q (Exit.panic c) (a.put oi.dst v) w→Q (Exit.panic c) a w:=by exact fun _ _ _ h=>h)(hs:S w:=by assumption)(ha:a.put oi.dst v=a':=by(try simp only [Act.put,zA,zB,zC,zD,zE,zF]); with_reducible rfl):wpAnyH P md ops Q S (fuel+1) listed a w:=by
 subst ha;simp only [Bool.and_eq_true] at h1;exact wpAnyH_take h0 h1.1 h1.2.1 h1.2.2 hq (Or.inl ⟨hg,hy⟩) hs h
theorem tX (i:Nat){a':Act}{v:Value}(h:wpAnyH P md ops Q S fuel (listed.setIfInBounds i true) a' w)(h0:ops[i]?=some oi:=by rfl)(h1:(Region.noSelect ops&&(Region.free md ops listed i&&(Region.ready md ops listed).contains i))=true:=by kernel_rfl)(hg:Region.wanted oi (yielded ops a.tmps)=true:=by rfl)(hy:∀(w:World),S w→Sem.run P (execOp a.eval oi) w=Result.ok (Next.value v) w:=by rintro V ⟨-,-,g2⟩; go_simp; all_goals (with_reducible rfl))(hq:∀(c:List PanicEntry) (a:Act) (w:World),Q (Exit.panic c) (a.put oi.dst v) w→Q (Exit.panic c) a w:=by exact fun _ _ _ h=>h)(hs:S w:=by assumption)(ha:a.put oi.dst v=a':=by(try simp only [Act.put,zA,zB,zC,zD,zE,zF]); with_reducible rfl):wpAnyH P md ops Q S (fuel+1) listed a w:=by
 subst ha;simp only [Bool.and_eq_true] at h1;exact wpAnyH_take h0 h1.1 h1.2.1 h1.2.2 hq (Or.inl ⟨hg,hy⟩) hs h
theorem tS (i:Nat){a':Act}(h:wpAnyH P md ops Q S fuel (listed.setIfInBounds i true) a' w)(h0:ops[i]?=some oi:=by rfl)(h1:(Region.noSelect ops&&(Region.free md ops listed i&&(Region.ready md ops listed).contains i))=true:=by kernel_rfl)(hg:Region.wanted oi (yielded ops a.tmps)=false:=by rfl)(hq:∀(c:List PanicEntry) (a:Act) (w:World),Q (Exit.panic c) (a.put oi.dst undef) w→Q (Exit.panic c) a w:=by exact fun _ _ _ h=>h)(hs:S w:=by assumption)(ha:a.put oi.dst undef=a':=by(try simp only [Act.put,zA,zB,zC,zD,zE,zF]); with_reducible rfl):wpAnyH P md ops Q S (fuel+1) listed a w:=by
 subst ha;simp only [Bool.and_eq_true] at h1;exact wpAnyH_take h0 h1.1 h1.2.1 h1.2.2 hq (Or.inr ⟨hg,rfl⟩) hs h
theorem kO {K:Act→World→Prop}{A B:Act→World→Prop}{a':Act}(hK:_root_.Go.Shut (∀ a w,A a w→B a w→K a w))(h1:A a w)(h2:B a' w)(ha:a=a':=by(try simp only [Act.put,zA,zB,zC,zD,zE,zF]); with_reducible rfl):K a w:=by
 subst ha;exact hK.out _ _ h1 h2
theorem tO (i:Nat)(h:∀ K:Act→World→Prop,_root_.Go.Shut (∀ a w,S w→(S w→wpAnyH P md ops Q S fuel (listed.setIfInBounds i true) a w)→K a w)→if Region.wanted oi (yielded ops a.tmps)=true then Oper.wp P oi a w K Q else K (a.put oi.dst undef) w)(h0:ops[i]?=some oi:=by rfl)(h1:Region.ready md ops listed=[i]:=by kernel_rfl):wpAnyH P md ops Q S (fuel+1) listed a w:=wpAnyH_ready h1 (by simp) (AllReadyH.cons h0 h AllReadyH.nil)
end
end Go.Proofs.YtedemloocadimaaGreatDoor
namespace Go.Proofs.YtedemloocadimaaGreatDoor
open Go.RowKit
set_option maxHeartbeats 1000000
set_option maxRecDepth 100000
theorem Xz (n lo hi:Int)(w:World):Calls Tryz.prog 114 #[.int .i64 n,.int .i64 lo,.int .i64 hi] w fun e w'=>e=.returned (.bool (Gm n lo hi))∧w'=w:=by
 unfold Gm;by_cases h1:lo≤n
 ·
  by_cases h2:n≤hi
  ·
   have hd:decide (lo≤n∧n≤hi)=true:=by simp; omega
   rw [hd];clear hd;go_enter Tryz.func114,Tryz.ntmps114
   go_wp2;go_ret;exact⟨rfl,rfl⟩
  ·
   have hd:decide (lo≤n∧n≤hi)=false:=by simp; omega
   rw [hd];clear hd;go_enter Tryz.func114,Tryz.ntmps114
   go_wp2;go_ret;exact⟨rfl,rfl⟩
 ·
  have hd:decide (lo≤n∧n≤hi)=false:=by simp; omega
  rw [hd];clear hd;go_enter Tryz.func114,Tryz.ntmps114
  go_wp2;go_ret;exact⟨rfl,rfl⟩
theorem Zlk (v:Value)(ns:List Int)(w:World)(h:Li w v ns):Calls Tryz.prog 116 #[v] w fun e w'=>e=.returned (.bool (Ob ns 1 8))∧w'=w:=by
 obtain⟨p,cap,rfl,hcap,hlt,hc⟩:=h;have hlt:ns.length<9223372036854775808:=hlt;have HC:=Za hc;clear hc;go_enter Tryz.func116,Tryz.ntmps116
 go_wp2_with fail
 go_loopw [7] (fun j w'=>∃ k:Nat,j=.int .i64 k∧k≤ns.length∧w'=w∧∀ q,q<k→Gm (ns.getD q 0) 1 8=true) (fun j _=>ns.length-(intOf j).toNat)
 case atStart=>exact⟨0,rfl,by omega,rfl,fun q hq=>by omega⟩
 case round =>
  obtain⟨k,rfl,hk,rfl,hno⟩:=hrel;have HN:=Za hno;clear hno;by_cases hk2:k<ns.length
  ·
   obtain⟨sb,so,rfl,hcc⟩:=J HC (by omega);have c:=hcc k hk2;have HW:=Za (Xz (ns.getD k 0) 1 8 wr);have HBAD:=Za (fun hb:Gm (ns.getD k 0) 1 8=false=>show Ob ns 1 8=false from Lc hk2 hb);have HNX:=Za (fun hb:Gm (ns.getD k 0) 1 8=true=>Gi (q:=fun q=>Gm (ns.getD q 0) 1 8) (J HN) hb);clear hcc HC;generalize Gm (ns.getD k 0) 1 8=yes at HW HBAD HNX;generalize ns.getD k 0=y at c HW;go_wp2_with fail
   refine(J HW).mono ?_;rintro e w2 ⟨rfl,h2⟩;subst w2;cases yes with
   | false =>
    have hx:=Za (J HBAD rfl);go_wp2;go_ret;exact⟨by rw [J hx]; rfl,rfl⟩
   | true =>
    have hx:=Za (J HNX rfl);go_wp2;go_roundw
    case rel=>exact⟨k+1,by go_num,by omega,trivial,J hx⟩
    case measure=>simp [intOf]; omega
  ·
   have HT:=Za (show Ob ns 1 8=true from Md (fun q hq=>J HN q (by omega)));obtain rfl:k=ns.length:=by omega
   go_wp2;go_ret;exact⟨by rw [J HT]; rfl,rfl⟩
theorem Gk (w:World)(X:Obj):(w.alloc X).heap[w.heap.size]?=some X∧Below w.heap.size w (w.alloc X)∧(w.alloc X).heap.size=w.heap.size+1 :=
 ⟨heap_alloc_new w _,(Below.refl w.heap.size w).alloc (Nat.le_refl _) _,by simp⟩
theorem Lw {a w:World}{n:Nat}(h:Below n a w)(m:Nat):Below n a (w.drewN m):=⟨h.os,h.tape,h.output,h.size,h.block⟩
theorem Zd {a c d:World}{n:Nat}(h:Below n a c)(k:Below c.heap.size c d)(hn:n≤c.heap.size):Below n a d:=h.trans (k.mono hn)
theorem LS.pairs {w:World}{v:Value}{xs:List (Int×Int)}(h:LS 2 w v xs.length (fun k=>Me (xs.getD k (0,0)))):∃ p cap,v=.slice p xs.length cap∧xs.length≤cap∧xs.length<9223372036854775808∧(0<xs.length→∃ sb so,p=some ⟨sb,so,none⟩∧∀ k,k<xs.length→w.cell? ⟨sb,so+k*2,none⟩=some (.int .i64 (xs.getD k (0,0)).1)∧w.cell? ⟨sb,so+k*2+1,none⟩=some (.int .i64 (xs.getD k (0,0)).2)):=by
 obtain⟨p,cap,h1,h2,h3,h4⟩:=h;refine⟨p,cap,h1,h2,h3,fun h0=>?_⟩;obtain⟨sb,so,e,-,hc⟩:=h4 h0;exact⟨sb,so,e,fun k hk=>⟨hc k hk 0 _ rfl,hc k hk 1 _ rfl⟩⟩
theorem Zfb (v:Value)(ns:List Int)(r:Int)(w:World)(h:Li w v ns):Calls Tryz.prog 79 #[.agg #[v,.int .i64 r]] w fun e w'=>e=.returned (.bool (Rn (ns,r)))∧Below w.heap.size w w':=by
 have hx:=Gk w (.cells #[v,.int .i64 r] 59 (0,0));have h':=h.below hx.2.1;obtain⟨p,cap,rfl,hcap,hlt,hc⟩:=h';have hlt:ns.length<9223372036854775808:=hlt;have HC:=Za hc;have HX:=Za hx;clear hc hx h;by_cases h8:ns.length≤8
 ·
  have HS:=Za (show Rn (ns,r)=(Gm r 0 4&&Ob ns 0 8) by unfold Rn; simp [h8]);go_enter Tryz.func79,Tryz.ntmps79
  go_wp2_with fail
  refine(Xz r 0 4 _).mono ?_;rintro e w2 ⟨rfl,h2⟩;subst w2;cases hr:Gm r 0 4 with
  | false =>
   have HR:=Za hr;clear hr;go_wp2;go_ret;exact⟨by rw [J HS,J HR]; rfl,(J HX).2.1⟩
  | true =>
   have HR:=Za hr;clear hr;go_wp2_with fail
   generalize World.alloc w _=W at HC HX ⊢;go_loopw [18] (fun j w'=>∃ k:Nat,j=.int .i64 k∧k≤ns.length∧w'=W∧∀ q,q<k→Gm (ns.getD q 0) 0 8=true) (fun j _=>ns.length-(intOf j).toNat)
   case atStart=>exact⟨0,rfl,by omega,rfl,fun q hq=>by omega⟩
   case round =>
    obtain⟨k,rfl,hk,rfl,hno⟩:=hrel;have HN:=Za hno;clear hno;by_cases hk2:k<ns.length
    ·
     obtain⟨sb,so,rfl,hcc⟩:=J HC (by omega);have c:=hcc k hk2;have HW:=Za (Xz (ns.getD k 0) 0 8 wr);have HBAD:=Za (fun hb:Gm (ns.getD k 0) 0 8=false=>show Ob ns 0 8=false from Lc hk2 hb);have HNX:=Za (fun hb:Gm (ns.getD k 0) 0 8=true=>Gi (q:=fun q=>Gm (ns.getD q 0) 0 8) (J HN) hb);clear hcc HC;generalize Gm (ns.getD k 0) 0 8=yes at HW HBAD HNX;generalize ns.getD k 0=y at c HW;go_wp2_with fail
     refine(J HW).mono ?_;rintro e w2 ⟨rfl,h2⟩;subst w2;cases yes with
     | false =>
      have hx:=Za (J HBAD rfl);go_wp2;go_ret;exact⟨by rw [J HS,J HR,J hx]; rfl,(J HX).2.1⟩
     | true =>
      have hx:=Za (J HNX rfl);go_wp2;go_roundw
      case rel=>exact⟨k+1,by go_num,by omega,trivial,J hx⟩
      case measure=>simp [intOf]; omega
    ·
     have HT:=Za (show Ob ns 0 8=true from Md (fun q hq=>J HN q (by omega)));obtain rfl:k=ns.length:=by omega
     go_wp2;go_ret;exact⟨by rw [J HS,J HR,J HT]; rfl,(J HX).2.1⟩
 ·
  have HS:=Za (show Rn (ns,r)=false by unfold Rn; simp [h8]);go_enter Tryz.func79,Tryz.ntmps79
  go_wp2;go_ret;exact⟨by rw [J HS]; rfl,(J HX).2.1⟩
theorem Zhz (f:Zy)(a v u c:Value)(r:Int)(x:Int×Int)(w:World)(hh:Li w v f.homes)(hs:Li w u f.slots):Calls Tryz.prog 177 #[.agg #[a,.int .i64 r,v,u,c],.agg #[.int .i64 x.1,.int .i64 x.2]] w fun e w'=>e=.returned (.bool (Mo f x))∧Below w.heap.size w w':=by
 obtain⟨x,y⟩:=x;obtain⟨p,cap,rfl,hcap,hlt,hc⟩:=hh;have hlt:f.homes.length<9223372036854775808:=hlt;have hx:=Gk w (.cells #[a,.int .i64 r,.slice p f.homes.length cap,u,c] 93 (0,0));have hs':=hs.below hx.2.1;have hs1:=hx.2.2;have HX:=Za hx.2.1;generalize hW:World.alloc w (.cells #[a,.int .i64 r,.slice p f.homes.length cap,u,c] 93 (0,0))=W at hs' HX hs1;have hy:=Gk W (.cells #[.int .i64 x,.int .i64 y] 85 (0,0));have hs'':=hs'.below hy.2.1;have HB:=Za (Zd (J HX) hy.2.1 (by omega));obtain⟨p2,cap2,rfl,hcap2,hlt2,hc2⟩:=hs'';have hlt2:f.slots.length<9223372036854775808:=hlt2;have HC2:=Za hc2;clear hc hc2 hs hs' hx hy;subst hW;by_cases h0:x=0
 ·
  have HS:=Za (show Mo f (x,y)=Gm y 0 (f.homes.length-1) by unfold Mo; simp [h0]);have HW:=Za (fun V=>Xz y 0 (f.homes.length-1) V);generalize Gm y 0 (f.homes.length-1)=yes at HS HW;subst h0;go_enter Tryz.func177,Tryz.ntmps177
  go_wp2_with fail
  refine(J HW _).mono ?_;rintro e w2 ⟨rfl,h2⟩;subst w2;go_wp2;go_ret;exact⟨by rw [J HS]; rfl,J HB⟩
 ·
  have hz:(x==0)=false:=by simpa using h0
  have HS:=Za (show Mo f (x,y)=(Gm y 0 (f.slots.length-1)&&decide (f.slots.getD y.toNat 0=x)) by unfold Mo; simp [h0]);have HW:=Za (fun V=>Xz y 0 (f.slots.length-1) V);go_enter Tryz.func177,Tryz.ntmps177
  go_wp2_with fail
  cases hr:Gm y 0 (f.slots.length-1) with
  | false =>
   rw [hr] at HW HS;go_quiet ((go_at_call 114; exact Calls.quiet_of_same (J HW _)))
   go_wp2;go_ret;exact⟨by rw [J HS]; rfl,Lw (J HB) _⟩
  | true =>
   rw [hr] at HW HS;have hr2:=hr;unfold Gm at hr2;have hr3:=of_decide_eq_true hr2;obtain⟨g0,g1⟩:=hr3;obtain⟨sb,so,rfl,hcc⟩:=J HC2 (by omega);obtain⟨n,rfl⟩:∃ n:Nat,y=n:=⟨y.toNat,by omega⟩;have hn:n<f.slots.length:=by omega
   have cc:=hcc n hn;rw [Int.toNat_natCast] at HS;clear hr hr2 hcc HC2 g0 g1;generalize f.slots.getD n 0=z at cc HS;go_quiet ((go_at_call 114; exact Calls.quiet_of_same (J HW _)))
   go_wp2;go_ret;exact⟨by rw [J HS]; rfl,Lw (J HB) _⟩
set_option maxHeartbeats 4000000
set_option maxRecDepth 100000
theorem LS.ones {w:World}{v:Value}{n:Nat}{B:Nat→Value}(h:LS 1 w v n (fun k=>#[B k])):∃ p cap,v=.slice p n cap∧n≤cap∧n<9223372036854775808∧(0<n→∃ sb so,p=some ⟨sb,so,none⟩∧∀ k,k<n→w.cell? ⟨sb,so+k,none⟩=some (B k)):=by
 obtain⟨p,cap,h1,h2,h3,h4⟩:=h;refine⟨p,cap,h1,h2,h3,fun h0=>?_⟩;obtain⟨sb,so,e,-,hc⟩:=h4 h0;refine⟨sb,so,e,fun k hk=>?_⟩;have:=hc k hk 0 _ rfl;rwa [Nat.mul_one,Nat.add_zero] at this
theorem Nj {w:World}{T:Nat}{cs:Array Value}{t:TypeId}{fr:Nat×Nat}(h:w.heap[T]?=some (.cells cs t fr))(j:Nat)(X:Obj):(w.alloc X).cell? ⟨T,j,none⟩=cs[j]?:=by
 have hlt:T<w.heap.size:=by
  rcases Nat.lt_or_ge T w.heap.size with y | y
  ·
   exact y
  ·
   simp [Array.getElem?_eq_none y] at h
 exact(World.cell?_of_block (a:=⟨T,j,none⟩) ((Gk w X).2.1.block T hlt)).trans (Zr h j)
theorem Li.rs {w:World}{v:Value}{ns:List Int}(h:Li w v ns):Rs w v ns:=by
 obtain⟨p,cap,h1,h2,h3,h4⟩:=h;rcases Nat.eq_zero_or_pos ns.length with h0 | h0
 ·
  exact Or.inl ⟨List.eq_nil_of_length_eq_zero h0,p,cap,by rw [h1,h0]⟩
 ·
  obtain⟨sb,so,e,hc⟩:=h4 h0;exact Or.inr ⟨sb,so,cap,by rw [h1,e],hc⟩
theorem Zia (v:Value)(bs:List (List Zq))(B:Nat→Value)(w:World)(h:LS 1 w v bs.length (fun k=>#[B k]))(hB:∀ k,k<bs.length→∃ q c,B k=.slice q (bs.getD k []).length c∧(bs.getD k []).length<9223372036854775808):Calls Tryz.prog 117 #[v] w fun e w'=>e=.returned (.bool (Si bs))∧w'=w:=by
 obtain⟨p,cap,rfl,hcap,hlt,hc⟩:=h.ones;have HC:=Za hc;have HB:=Za hB;clear hc h hB;go_enter Tryz.func117,Tryz.ntmps117
 go_wp2_with fail
 go_loopw [7] (fun j w'=>∃ k:Nat,j=.int .i64 k∧k≤bs.length∧w'=w∧∀ q,q<k→Gm ((bs.getD q []).length) 1 24=true) (fun j _=>bs.length-(intOf j).toNat)
 case atStart=>exact⟨0,rfl,by omega,rfl,fun q hq=>by omega⟩
 case round =>
  obtain⟨k,rfl,hk,rfl,hno⟩:=hrel;have HN:=Za hno;clear hno;by_cases hk2:k<bs.length
  ·
   obtain⟨sb,so,rfl,hcc⟩:=J HC (by omega);have c:=hcc k hk2;obtain⟨q,cp,hq,hql⟩:=J HB k hk2;rw [hq] at c;have HW:=Za (Xz ((bs.getD k []).length) 1 24 wr);have HBAD:=Za (fun hb:Gm ((bs.getD k []).length) 1 24=false=>show Si bs=false from Lc hk2 hb);have HNX:=Za (fun hb:Gm ((bs.getD k []).length) 1 24=true=>Gi (q:=fun q=>Gm ((bs.getD q []).length) 1 24) (J HN) hb);clear hcc HC hq HB;generalize Gm ((bs.getD k []).length) 1 24=yes at HW HBAD HNX;generalize (bs.getD k []).length=y at c HW hql;go_wp2_with fail
   refine(J HW).mono ?_;rintro e w2 ⟨rfl,h2⟩;subst w2;cases yes with
   | false =>
    have hx:=Za (J HBAD rfl);go_wp2;go_ret;exact⟨by rw [J hx]; rfl,rfl⟩
   | true =>
    have hx:=Za (J HNX rfl);go_wp2;go_roundw
    case rel=>exact⟨k+1,by go_num,by omega,trivial,J hx⟩
    case measure=>simp [intOf]; omega
  ·
   have HT:=Za (show Si bs=true from Md (fun q hq=>J HN q (by omega)));obtain rfl:k=bs.length:=by omega
   go_wp2;go_ret;exact⟨by rw [J HT]; rfl,rfl⟩
theorem Zib (f:Zy)(pv hv sv bv:Value)(w:World)(hp:LS 2 w pv f.params.length (fun k=>Me (f.params.getD k (0,0))))(hh:Li w hv f.homes)(hs:Li w sv f.slots):Calls Tryz.prog 118 #[.agg #[pv,.int .i64 f.results,hv,sv,bv]] w fun e w'=>e=.returned (.bool (Dy f))∧Below w.heap.size w w':=by
 have hx:=Gk w (.cells #[pv,.int .i64 f.results,hv,sv,bv] 93 (0,0));have HH:=Za (hh.below hx.2.1);have HS:=Za (hs.below hx.2.1);obtain⟨p,cap,rfl,hcap,hlt,hc⟩:=(hp.below hx.2.1).pairs;obtain⟨ph,ch,rfl⟩:=hh.shape;obtain⟨ps,cs,rfl⟩:=hs.shape;have HC:=Za hc;have HX:=Za hx;clear hc hx hp hh hs;go_enter Tryz.func118,Tryz.ntmps118
 go_wp2_with fail
 generalize World.alloc w _=W at HH HS HC HX ⊢;go_loopw [10] (fun j w'=>∃ k:Nat,j=.int .i64 k∧k≤f.params.length∧Below W.heap.size W w'∧∀ q,q<k→Ia f q=true) (fun j _=>f.params.length-(intOf j).toNat)
 case atStart=>exact⟨0,rfl,by omega,Below.refl _ _,fun q hq=>by omega⟩
 case round =>
  obtain⟨k,rfl,hk,hbw,hno⟩:=hrel;have HN:=Za hno;clear hno;by_cases hk2:k<f.params.length
  ·
   obtain⟨sb,so,rfl,hcc⟩:=J HC (by omega);have hWs:=(J HX).2.2;have hws:=hbw.size;have hsb:sb<W.heap.size:=World.block_lt_of_cell? W _ (hcc k hk2).1;have c1:=(hbw.cell (p:=⟨sb,so+k*2,none⟩) hsb).trans (hcc k hk2).1;have c2:=(hbw.cell (p:=⟨sb,so+k*2+1,none⟩) hsb).trans (hcc k hk2).2;have hrow:=(hbw.block w.heap.size (by omega)).trans (J HX).1;have HROW:=Za hrow;have r0:=fun X:Obj=>(Nj hrow 0 X).trans rfl;have r1:=fun X:Obj=>(Nj hrow 1 X).trans rfl;have r2:=fun X:Obj=>(Nj hrow 2 X).trans rfl;have r3:=fun X:Obj=>(Nj hrow 3 X).trans rfl;have r4:=fun X:Obj=>(Nj hrow 4 X).trans rfl;have HCC:=Za hcc;have HBW:=Za hbw;clear hcc hrow;generalize hxy:f.params.getD k (0,0)=xy at c1 c2;have HXY:=Za hxy;clear hxy;obtain⟨x,y⟩:=xy;simp only at c1 c2;go_wp2_with fail
   have hy:=Gk wr (.cells #[.int .i64 x,.int .i64 y] 85 (0,0));have hbY:Below W.heap.size W (wr.alloc (.cells #[.int .i64 x,.int .i64 y] 85 (0,0))):=Zd hbw hy.2.1 hws;refine(Zhz f _ _ _ _ _ (x,y) _ ((J HH).below hbY) ((J HS).below hbY)).mono ?_;rintro e w2 ⟨rfl,hb2⟩;have hb2s:=hb2.size;have hrx:=(hb2.block wr.heap.size (by omega)).trans hy.1;have hrf:=(hb2.block w.heap.size (by omega)).trans ((hy.2.1.block w.heap.size (by omega)).trans (J HROW));have hys:=hy.2.2;have hbZ:Below W.heap.size W w2:=Zd hbY hb2 (by omega);have HBZ:=Za hbZ;have HRX:=Za hrx;have HB2:=Za hb2;clear hb2 hy hbY r0 r1 r2 r3 r4 c1 c2 hbw hbZ;have f0:=(cR hrf 0);clear hrf hrx;cases hsp:Mo f (x,y) with
   | false =>
    have HT:=Za (show Dy f=false from Lc hk2 (by unfold Ia; rw [J HXY,hsp]; rfl));clear hsp;go_wp2;go_ret;exact⟨by rw [J HT]; rfl,Zd (J HX).2.1 (J HBZ) (by omega)⟩
   | true =>
    have HSP:=Za hsp;clear hsp;go_wp2_with fail
    clear f0;generalize hg:wr.heap.size=Tx at HRX hys hws ⊢;have hTx:Tx<w2.heap.size:=by omega
    clear hg hb2s hys;go_loopw [24] (fun j w'=>∃ m:Nat,j=.int .i64 m∧m≤k∧Below w2.heap.size w2 w'∧∀ q,q<m→(!Zcp (x,y) (f.params.getD q (0,0)))=true) (fun j _=>k-(intOf j).toNat)
    case atStart=>exact⟨0,rfl,by omega,Below.refl _ _,fun q hq=>by omega⟩
    case round =>
     obtain⟨m,rfl,hm,hbm,hmo⟩:=hrel;have HM:=Za hmo;clear hmo;have hms:=hbm.size;by_cases hm2:m<k
     ·
      have hq:=(J HCC) m (by omega);have hwm:Below W.heap.size W wr:=Zd (J HBZ) hbm (by have:=(J HBZ).size; omega);have c1:=(hwm.cell (p:=⟨sb,so+m*2,none⟩) hsb).trans hq.1;have c2:=(hwm.cell (p:=⟨sb,so+m*2+1,none⟩) hsb).trans hq.2;have hrow:=(hbm.block Tx hTx).trans (J HRX);have r0:=fun X:Obj=>(Nj hrow 0 X).trans rfl;have r1:=fun X:Obj=>(Nj hrow 1 X).trans rfl;have HBM:=Za hbm;clear hrow hq hwm hbm;generalize hxy:f.params.getD m (0,0)=xy at c1 c2;have HXZ:=Za hxy;clear hxy;obtain⟨x2,y2⟩:=xy;simp only at c1 c2;have hme:Zcp (x,y) (x2,y2)=(decide (y=y2)&&(decide (x=0)==decide (x2=0))):=rfl;have HBAD:=Za (fun hb:(decide (y=y2)&&(decide (x=0)==decide (x2=0)))=true=>show Dy f=false from Lc hk2 (by unfold Ia; rw [J HXY]; simp only [Bool.and_eq_false_iff]; exact Or.inr (Lc hm2 (by rw [J HXZ,hme,hb]; rfl))));have HNX:=Za (fun hb:(decide (y=y2)&&(decide (x=0)==decide (x2=0)))=false=>Gi (q:=fun q=>!Zcp (x,y) (f.params.getD q (0,0))) (J HM) (by show(!Zcp (x,y) (f.params.getD m (0,0)))=true; rw [J HXZ,hme,hb]; rfl));have HBA:=Za (Zd (J HBM) (Gk wr (.cells #[.int .i64 x2,.int .i64 y2] 85 (0,0))).2.1 hms);clear hme;by_cases e1:y=y2
      ·
       subst e1;by_cases e2:x=0
       ·
        by_cases e3:x2=0
        ·
         subst e2 e3;have hx:=Za (J HBAD (by simp));go_wp2;go_ret;exact⟨by rw [J hx]; rfl,Zd (J HX).2.1 (Zd (J HBZ) (J HBA) (by have:=(J HBZ).size; omega)) (by omega)⟩
        ·
         subst e2;have z3:(x2==0)=false:=by simpa using e3
         have hx:=Za (J HNX (by simp [e3]));go_wp2;go_roundw
         case rel=>exact⟨m+1,by go_num,by omega,J HBA,J hx⟩
         case measure=>simp [intOf]; omega
       ·
        have z2:(x==0)=false:=by simpa using e2
        by_cases e3:x2=0
        ·
         subst e3;have hx:=Za (J HNX (by simp [e2]));go_wp2;go_roundw
         case rel=>exact⟨m+1,by go_num,by omega,J HBA,J hx⟩
         case measure=>simp [intOf]; omega
        ·
         have z3:(x2==0)=false:=by simpa using e3
         have hx:=Za (J HBAD (by simp [e2,e3]));go_wp2;go_ret;exact⟨by rw [J hx]; rfl,Zd (J HX).2.1 (Zd (J HBZ) (J HBA) (by have:=(J HBZ).size; omega)) (by omega)⟩
      ·
       have z1:(y==y2)=false:=by simpa using e1
       have hx:=Za (J HNX (by simp [e1]));go_wp2;go_roundw
       case rel=>exact⟨m+1,by go_num,by omega,J HBA,J hx⟩
       case measure=>simp [intOf]; omega
     ·
      obtain rfl:m=k:=by omega
      have hx:=Za (Gi (q:=Ia f) (J HN) (by unfold Ia; rw [J HXY,J HSP,Md (J HM)]; rfl));have HBM:=Za (Zd (J HBZ) hbm (by have:=(J HBZ).size; omega));clear hbm;go_wp2;go_roundw
      case rel=>exact⟨m+1,by go_num,by omega,J HBM,J hx⟩
      case measure=>simp [intOf]; omega
  ·
   have HT:=Za (show Dy f=true from Md (fun q hq=>J HN q (by omega)));obtain rfl:k=f.params.length:=by omega
   have HBW:=Za hbw;have hWs:=(J HX).2.2;clear hbw;go_wp2;go_ret;exact⟨by rw [J HT]; rfl,Zd (J HX).2.1 (J HBW) (by omega)⟩
set_option maxHeartbeats 4000000
set_option maxRecDepth 100000
theorem Zll (r sp lk t0 t1:Int)(va vr vs:Value)(al sh by_:Int)(pr:Bool)(v:Value)(hs:List Int)(w:World)(hr:4≤r∧r≤16)(h:Li w v hs)(hn:hs.length≤1000000):Calls Tryz.prog 115 #[.agg (Yt r sp lk t0 t1 va vr vs al sh by_ pr),v] w fun e w'=>e=.returned (.bool (Cz r (Jg sp lk t0 t1) hs))∧Below w.heap.size w w':=by
 have hx:=Gk w (.cells (Yt r sp lk t0 t1 va vr vs al sh by_ pr) 37 (0,0));have HL:=Za (h.below hx.2.1);obtain⟨p,cap,rfl,hcap,hlt,-⟩:=h;have HX:=Za hx;have HRES:=Za (fun V=>Zef r sp lk t0 t1 va vr vs al sh by_ pr V);have hr1:=hr.1;have hr2:=hr.2;clear hx hr;unfold Yt at HX HL HRES ⊢;go_enter Tryz.func115,Tryz.ntmps115
 go_wp2_with fail
 generalize World.alloc w _=W at HL HX ⊢;refine(J HRES W).mono ?_;rintro e w2 ⟨vo,rfl,hro,hco,hb2⟩;obtain⟨po,co,rfl⟩:=hro.shape;have HRO:=Za hro;have HB2:=Za hb2;have HW2:=Za (Zd (J HX).2.1 hb2 (by have:=(J HX).2.2; omega));have HL2:=Za ((J HL).below hb2);have hrow:=(hb2.block w.heap.size (by have:=(J HX).2.2; omega)).trans (J HX).1;have r0:=(cR hrow 0);have hol:(Jg sp lk t0 t1).length≤1000000:=by unfold Jg; split <;> simp
 clear hro hco hb2 hrow;generalize hO:Jg sp lk t0 t1=own at HRO hol;have HOW:=Za hO;clear hO;go_wp2_with fail
 go_loopw [12] (fun j w'=>∃ k:Nat,j=.int .i64 k∧k≤hs.length∧w'=w2∧∀ q,q<k→Zfg r own hs q=true) (fun j _=>hs.length-(intOf j).toNat)
 case atStart=>exact⟨0,rfl,by omega,rfl,fun q hq=>by omega⟩
 case round =>
  obtain⟨k,rfl,hk,rfl,hno⟩:=hrel;have HN:=Za hno;clear hno;by_cases hk2:k<hs.length
  ·
   have HCT:=Za (fun x=>Dt (hs.take k) x (.slice p k cap) wr ((J HL2).take k (by omega)).rs (by simp; omega));have HCO:=Za (fun x=>Dt own x (.slice po own.length co) wr (J HRO) hol);obtain⟨p',cap',he,-,-,hcc⟩:=J HL2;injection he with e1 e2 e3;subst e1 e3;obtain⟨sb,so,rfl,hc⟩:=hcc (by omega);have c:=hc k hk2;have hho:Zfg r own hs k=(decide (hs.getD k 0=-1)||(Gm (hs.getD k 0) 0 (r-1)&&(!decide (hs.getD k 0 ∈ own)&&!decide (hs.getD k 0 ∈ hs.take k)))):=rfl;have HHO:=Za hho;have HBAD:=Za (fun hb:Zfg r own hs k=false=>show Cz r own hs=false from Lc hk2 hb);have HNX:=Za (fun hb:Zfg r own hs k=true=>Gi (J HN) hb);clear hho hc hcc e2;generalize Zfg r own hs k=yes at HHO HBAD HNX;generalize hs.getD k 0=y at c HHO;by_cases hm:y=-1
   ·
    subst hm;have hx:=Za (J HNX (by rw [J HHO]; rfl));go_wp2;go_roundw
    case rel=>exact⟨k+1,by go_num,by omega,trivial,J hx⟩
    case measure=>simp [intOf]; omega
   ·
    have z:(y==-1)=false:=by simpa using hm
    have HH2:=Za (show yes=(Gm y 0 (r-1)&&(!decide (y ∈ own)&&!decide (y ∈ hs.take k))) by rw [J HHO]; simp [hm]);clear HHO hm;go_wp2_with fail
    refine(Xz y 0 (r-1) _).mono ?_;rintro e w3 ⟨rfl,h3⟩;subst w3;cases hi:Gm y 0 (r-1) with
    | false =>
     have hx:=Za (J HBAD (by rw [J HH2,hi]; rfl));clear hi;go_wp2;go_ret;exact⟨by rw [J HOW,J hx]; rfl,J HW2⟩
    | true =>
     have HI:=Za hi;clear hi;go_wp2_with fail
     refine(J HCO y).mono ?_;rintro e w3 ⟨rfl,h3⟩;subst w3;cases hi:decide (y ∈ own) with
     | true =>
      have hx:=Za (J HBAD (by rw [J HH2,hi]; simp));clear hi;go_wp2;go_ret;exact⟨by rw [J HOW,J hx]; rfl,J HW2⟩
     | false =>
      have HI2:=Za hi;clear hi;go_wp2_with fail
      refine(J HCT y).mono ?_;rintro e w3 ⟨rfl,h3⟩;subst w3;cases hi:decide (y ∈ hs.take k) with
      | true =>
       have hx:=Za (J HBAD (by rw [J HH2,hi]; simp));clear hi;go_wp2;go_ret;exact⟨by rw [J HOW,J hx]; rfl,J HW2⟩
      | false =>
       have hx:=Za (J HNX (by rw [J HH2,hi,J HI2,J HI]; rfl));clear hi;go_wp2;go_roundw
       case rel=>exact⟨k+1,by go_num,by omega,trivial,J hx⟩
       case measure=>simp [intOf]; omega
  ·
   have HT:=Za (show Cz r own hs=true from Md (fun q hq=>J HN q (by omega)));obtain rfl:k=hs.length:=by omega
   go_wp2;go_ret;exact⟨by rw [J HOW,J HT]; rfl,J HW2⟩
set_option maxHeartbeats 4000000
set_option maxRecDepth 100000
def iC (ns:List Int):List Value:=ns.map fun n=>.int .i64 n
def wTk (xs:List (Int×Int))(k:Nat):List Value:=iC ((xs.take k).map (·.1))
theorem Zcn (xs:List (Int×Int))(k:Nat)(hk:k<xs.length):wTk xs (k+1)=wTk xs k++[.int .i64 (xs.getD k (0,0)).1]:=by
 unfold wTk;rw [List.take_succ_eq_append_getElem hk,List.map_append];simp [iC,List.getD,hk]
theorem Iy {P:Program}{fn:Func}{q:Tmp}{uy:TypeId}(h:fn.results=#[.cell q uy])(tmps:Array Value)(w:World)(g':Nat)(t':TypeId)(cs':Array Value)(fr':Nat×Nat)(d':TypeDesc)
 (hp':tmps.getD q undef=.pointer (some ⟨g',0,none⟩)) (hg':w.heap[g']?=some (.cells cs' t' fr')) (hu':P.underlying uy=some d') (hd':(match d' with | .struct _ | .array _ _=>true | _=>false)=true) (hi':(P.info? uy).map (·.size)=some cs'.size) :
 (results fn tmps).run P w=.ok (.agg cs') w:=by
 have e2:tmps[q]?.getD undef=.pointer (some ⟨g',0,none⟩):=by simpa using hp'
 simp [results,h,e2,asAddr,run_loadVar_row w g' t' uy cs' fr' d' hg' hu' hd' hi']
theorem Tryz.infoInt:(Tryz.prog.info? 3).map (fun i=>(i.zero,i.size,i.bytes))=some (some (.int .i64 0),1,8):=by kernel_rfl
theorem Tryz.infSigK:(Tryz.prog.info? 59).map (·.size)=some 2:=by kernel_rfl
theorem Sh {P:Program}{t:TypeId}{z:Value}{n b:Nat}(h:(P.info? t).map (fun i=>(i.zero,i.size,i.bytes))=some (some z,n,b)):∃ i,P.info? t=some i∧i.zero=some z∧i.size=n∧i.bytes=b:=by
 cases hi:P.info? t with
 | none=>simp [hi] at h
 | some i=>simp [hi] at h; exact⟨i,rfl,h.1,h.2.1,h.2.2⟩
theorem Li.of_own {w:World}{base:Nat}{v:Value}{ns:List Int}(h:w.ownsRow base 3 1 v ns.length (iC ns))(hn:ns.length<9223372036854775808):Li w v ns:=by
 rcases h.2 with⟨e,e0⟩ | ⟨g,cap,cur,e,-,-,hc,-⟩
 ·
  exact⟨none,0,by rw [e,e0],by omega,hn,fun h0=>by omega⟩
 ·
  refine⟨_,cap,e,hc,hn,fun h0=>⟨g,0,rfl,fun i hi=>?_⟩⟩;subst e;have:=h.cellAt i (by omega);simp only [Nat.zero_add] at this ⊢;rw [this];simp [iC,hi]
theorem Ky {w w':World}{base n size:Nat}{e:TypeId}{v:Value}{xs:List Value}(h:w.ownsRow base e size v n xs)(hk:∀ g,base≤g→w'.heap[g]?=w.heap[g]?):w'.ownsRow base e size v n xs:=by
 obtain⟨h1,h2 | ⟨g,cap,cur,e1,e2,e3,e4⟩⟩:=h
 ·
  exact⟨h1,Or.inl h2⟩
 ·
  exact⟨h1,Or.inr ⟨g,cap,cur,e1,e2,(hk g e2).trans e3,e4⟩⟩
theorem Zx {a w:World}{n T:Nat}{cs:Array Value}(h:Below n a w)(hT:n≤T):Below n a (w.setRow T cs):=⟨h.os,h.tape,h.output,by have:=h.size; simpa [World.setRow] using this,fun k hk=>(setRow_other w T k cs (by omega)).trans (h.block k hk)⟩
theorem Zfc {w:World}{base n:Nat}{v:Value}{xs:List Value}(h:w.ownsRow base 3 1 v (n+1) xs):∃ g cap,v=.slice (some ⟨g,0,none⟩) (n+1) cap:=by
 rcases h.2 with⟨_,e0⟩ | ⟨g,cap,cur,e,-⟩
 ·
  omega
 ·
  exact⟨g,cap,e⟩
theorem Zlm (f:Zy)(pv b c d:Value)(w:World)(hp:LS 2 w pv f.params.length (fun k=>Me (f.params.getD k (0,0))))(hn:f.params.length≤8796093022208) :
 Calls Tryz.prog 72 #[.agg #[pv,.int .i64 f.results,b,c,d]] w fun e w'=>∃ v,e=.returned (.agg #[v,.int .i64 f.results])∧Li w' v (Oc f).1∧Below w.heap.size w w':=by
 obtain⟨ti,hti,hz0,hz1,hz2⟩:=Sh Tryz.infoInt;have hx:=Gk w (.cells #[pv,.int .i64 f.results,b,c,d] 93 (0,0));have hp1:=hp.below hx.2.1;have hx2:=Gk (w.alloc (.cells #[pv,.int .i64 f.results,b,c,d] 93 (0,0))) (.cells #[.slice none 0 0,.int .i64 0] 59 (0,0));have hp2:=hp1.below hx2.2.1;have hx3:=Gk ((w.alloc (.cells #[pv,.int .i64 f.results,b,c,d] 93 (0,0))).alloc (.cells #[.slice none 0 0,.int .i64 0] 59 (0,0))) (.cells #[.slice none 0 0,.int .i64 f.results] 59 (0,0));have hp3:=hp2.below hx3.2.1;have hs1:=hx.2.2;have hs2:=hx2.2.2;have hs3:=hx3.2.2;have hW1:=Zd (Zd hx.2.1 hx2.2.1 (by omega)) hx3.2.1 (by omega);have hrr:=(hx3.2.1.block (w.heap.size+1) (by omega)).trans (hs1 ▸ hx2.1);have hrs:=hx3.1;rw [hs2,hs1] at hrs hs3;obtain⟨p,cap,rfl,hcap,hlt,hc⟩:=hp3.pairs;have hpb:=hp;have HC:=Za hc;have HW1:=Za hW1;have HRS:=Za hrs;have HRR:=Za hrr;have HS3:=Za hs3;have HPB:=Za hp.pairs;clear hc hx hp hp1 hx2 hp2 hW1 hrs hrr hx3 hp3 hs1 hs2 hs3 hpb;go_enter Tryz.func72,Tryz.ntmps72
 go_wp2_with fail
 generalize World.alloc (World.alloc (World.alloc w _) _) _=W at HC HW1 HRS HRR HS3 ⊢;go_loopw [12] (fun j w'=>∃(k:Nat) (v:Value),j=.int .i64 k∧k≤f.params.length∧w'.heap[w.heap.size+1+1]?=some (.cells #[v,.int .i64 f.results] 59 (0,0))∧w'.ownsRow W.heap.size 3 1 v k (wTk f.params k)∧Below (w.heap.size+2) W w') (fun j _=>f.params.length-(intOf j).toNat)
 case atStart=>exact⟨0,_,rfl,by omega,J HRS,World.ownsRow_nil _ _ _ _,Below.refl _ _⟩
 case round =>
  obtain⟨k,v,rfl,hk,hrow,how,hbw⟩:=hrel;have hws:=hbw.size;have cv:=(cR hrow 0);have r0:=fun X:Obj=>(Nj hrow 0 X).trans rfl;have fz:=fun j=>frozen_of_row _ _ j _ _ hrow;obtain⟨vp,vn,vc,hvs⟩:∃ vp vn vc,v=.slice vp vn vc:=by
   rcases how.2 with⟨e,_⟩ | ⟨g,cap,cur,e,_⟩
   ·
    exact⟨_,_,_,e⟩
   ·
    exact⟨_,_,_,e⟩
  subst hvs;by_cases hk2:k<f.params.length
  ·
   obtain⟨p',cap',he,-,-,hcc0⟩:=J HPB;injection he with e1 e2 e3;subst e1 e3;obtain⟨sb,so,rfl,hcc⟩:=hcc0 (by omega);have hsb:sb<w.heap.size:=World.block_lt_of_cell? w _ (hcc k hk2).1;have hbb:Below w.heap.size w wr:=(J HW1).trans (hbw.mono (Nat.le_add_right _ _));have c1:=(hbb.cell (p:=⟨sb,so+k*2,none⟩) hsb).trans (hcc k hk2).1;have c2:=(hbb.cell (p:=⟨sb,so+k*2+1,none⟩) hsb).trans (hcc k hk2).2;have hT:=J HS3;have hTl:w.heap.size+1+1<wr.heap.size:=by omega
   have HTL:=Za hTl;have HTK:=Za (Zcn f.params k hk2);have HOW:=Za how;have HBW:=Za hbw;have HROW:=Za hrow;clear hcc hcc0 how hbw hbb hrow hT hTl e2 fz cv HC;generalize f.params.getD k (0,0)=xy at c1 c2 HTK;obtain⟨x,y⟩:=xy;simp only at c1 c2;go_wp2_with (at_builtin; refine wpList_append_own _ rfl _ _ 35 rfl W.heap.size 3 ti _ 1 8 Tryz.underlying35 hti hz0 hz1 hz2 rfl (by decide) _ _ _ rfl (((J HOW).alloc _).alloc _) ⟨wr.heap.size+1,0,none⟩ 1 1 [.int .i64 x] rfl rfl (by intro j u hj; match j,hj with | 0,hj=>(simp at hj; subst hj; exact(World.cell?_alloc_at _ _ _ _ (by simp)).trans rfl)) (by intro u hu; simp at hu; subst hu; rfl) ?c3 ?c4 ?c5 ?_)
   case c3=>unfold maxLen; omega
   case c4=>omega
   case c5=>first | omega | (simp; omega)
   intro v' w7 hown hgr _;obtain⟨g2,cap2,rfl⟩:=Zfc hown;have hTl:=J HTL;have hT:=J HS3;have hne:∀ q,q<W.heap.size→some q≠(Value.slice vp vn vc).ownBlock:=fun q hq e=>by have:=((J HOW).lt q e.symm).1; omega
   have hrow7:=(hgr.block (w.heap.size+1+1) (by simp; omega) (hne _ (by omega))).trans ((((Below.refl wr.heap.size wr).alloc (Nat.le_refl _) _).alloc (by simp) _).block (w.heap.size+1+1) hTl |>.trans (J HROW));have c7:=(cR hrow7 0);have f7:=frozen_of_row _ _ 0 _ _ hrow7;have HNR:=Za (heap_setCell_same w7 (w.heap.size+1+1) 0 _ _ (.slice (some ⟨g2,0,none⟩) (k+1) cap2) hrow7);have HNW:=Za (show w7.ownsRow W.heap.size 3 1 (.slice (some ⟨g2,0,none⟩) (k+1) cap2) (k+1) (wTk f.params (k+1)) by rw [J HTK]; exact hown);have HN2:=Za (Ky (w':=w7.setCell ⟨w.heap.size+1+1,0,none⟩ (.slice (some ⟨g2,0,none⟩) (k+1) cap2)) (J HNW) (fun g hg=>heap_setCell_other _ _ _ _ (by show g≠w.heap.size+1+1; omega)));have HB7:=Za (show Below (w.heap.size+2) W (w7.setCell ⟨w.heap.size+1+1,0,none⟩ (.slice (some ⟨g2,0,none⟩) (k+1) cap2)) from
    have hb7:Below (w.heap.size+2) W w7:=(((J HBW).alloc (by omega) _).alloc (by simp; omega) _).trans ⟨hgr.os,hgr.tape,hgr.output,hgr.size,fun q hq=>hgr.block q (by simp; omega) (hne q (by omega))⟩;⟨hb7.os,hb7.tape,hb7.output,by simpa using hb7.size,fun q hq=>(heap_setCell_other _ _ _ _ (by show q≠w.heap.size+1+1; omega)).trans (hb7.block q hq)⟩)
   clear hown hgr hne hTl hT hrow7 r0 c1 c2;go_wp2;go_roundw
   case rel=>exact⟨k+1,_,by go_num,by omega,J HNR,J HN2,J HB7⟩
   case measure=>simp [intOf]; omega
  ·
   obtain rfl:k=f.params.length:=by omega
   have hvn:vn=f.params.length:=by
    rcases how.2 with⟨e,e0⟩ | ⟨g,cap,cur,e,_⟩
    ·
     injection e with _ e2 _; omega
    ·
     injection e with _ e2 _
   subst vn;unfold wTk at how;rw [List.take_length] at how;have hT:=J HS3;have HRR2:=Za ((hbw.block (w.heap.size+1) (by omega)).trans (J HRR));have HRS2:=Za hrow;have HOW:=Za how;have HBW:=Za hbw;clear hrow how hbw hT r0 fz cv;go_wp2_with (first | (refine wpList_load_row rfl 59 (.tmp 3) rfl (w.heap.size+1+1) rfl 59 #[.slice vp f.params.length vc,.int .i64 f.results] (0,0) _ (J HRS2) Tryz.underlying59 rfl (Tryz.infSigK.trans rfl) ?_) | (refine wpList_store_row rfl 59 (.tmp 2) (.tmp 24) rfl (w.heap.size+1) #[.slice vp f.params.length vc,.int .i64 f.results] rfl rfl 59 _ (J HRR2) (Tryz.infSigK.trans rfl) rfl (by simp [Value.oneCell']) ?_))
   refine bodyPost_ret (Iy (fn:=Tryz.f72) (q:=2) (uy:=59) rfl _ _ (w.heap.size+1) 59 #[.slice vp f.params.length vc,.int .i64 f.results] (0,0) _ rfl (setRow_heap _ _ _ _ _ _ (J HRR2)) Tryz.underlying59 rfl (Tryz.infSigK.trans rfl)) rfl ?_;have hT:=J HS3;refine⟨_,rfl,Li.of_own (base:=W.heap.size) (by rw [show((Oc f).1).length=f.params.length by simp [Oc]]; exact Ky (J HOW) (fun g hg=>setRow_other _ _ _ _ (by omega))) (by simp [Oc]; omega),Zx ((J HW1).trans ((J HBW).mono (by omega))) (by omega)⟩
end Go.Proofs.YtedemloocadimaaGreatDoor
