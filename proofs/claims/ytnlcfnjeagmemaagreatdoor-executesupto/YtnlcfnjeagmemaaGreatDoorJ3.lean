import Derived.Deep.RegionHeld3
import Derived.WalkKit
import Derived.Test.YtnlcfnjeagmemaaGreatDoorJ8
import Derived.Deep.OwnRows
import Derived.Laws.BitsLemmas
import Derived.Laws.Bits64
import Derived.Test.YtnlcfnjeagmemaaGreatDoorJ4
import Derived.Laws.CopyOwn
import Derived.Test.YtnlcfnjeagmemaaGreatDoorCards
import Derived.Test.YtnlcfnjeagmemaaGreatDoorTie
import Derived.RegionCalls
import Derived.Test.YtnlcfnjeagmemaaGreatDoorRows
import Derived.WideShapes
import Derived.SizedLaws
import Derived.ChangeSlices
import Derived.Deep.Slices
import Derived.Deep.RegionWith
import Derived.Deep.Onto
import Derived.ProofKit
import Derived.OpenShut
import Derived.LaidLaws
import Derived.LaidHandle
import Derived.LaidSub
import Derived.Lib.LaidTab
import Derived.Lib.LaidU8
import Derived.Lay
import Derived.Carry
import Derived.Deep.DeepHandedRow
import Derived.SevenTiedAt
import Derived.Deep.CutRange
import Derived.Test.YtnlcfnjeagmemaaGreatDoorChecked
namespace Go.Proofs.YtnlcfnjeagmemaaGreatDoor
section
variable {α:Type}
theorem zA (l:List α)(i:Nat)(a:α):l.toArray.setIfInBounds i a=(l.set i a).toArray:=List.setIfInBounds_toArray l i a
theorem zB {x:α}{xs:List α}{a:α}:(x :: xs).set 0 a=a :: xs:=rfl
theorem zC {x:α}{xs:List α}{i:Nat}{a:α}:(x :: xs).set (i+1) a=x :: xs.set i a:=rfl
theorem zD {xs:List α}{i:Nat}(h:i<xs.toArray.size):xs.toArray[i]=xs[i]'h:=rfl
theorem zE (a:α)(l:List α)(h:0<(a :: l).length):(a :: l)[0]=a:=rfl
theorem zF (a:α)(l:List α)(i:Nat)(h:i+1<(a :: l).length):(a :: l)[i+1]=l[i]'(Nat.lt_of_succ_lt_succ h):=rfl
end
def nth:List Value→Nat→Option Value
 | [],_=>none
 | a :: _,0=>some a
 | _ :: l,k+1=>nth l k
theorem Zjs:∀(l:List Value) (k:Nat),nth l k=l[k]?
 | [],_=>rfl
 | _ :: _,0=>rfl
 | _ :: l,k+1=>(Zjs l k).trans (by simp)
theorem cR {w:World}{g:Nat}{cs:Array Value}{t:TypeId}{fr:Nat×Nat}(h:w.heap[g]?=some (.cells cs t fr))(k:Nat){v:Value}(hv:nth cs.toList k=some v:=by rfl):w.cell? ⟨g,k,none⟩=some v:=by
 rw [cell_of_row w g k cs t fr h,← Array.getElem?_toList,← Zjs];exact hv
section
variable {P:Program} {ops:Array Oper} {Q:Exit→Act→World→Prop} {md:Region.Mode} {S:World→Prop} {oi:Oper} {fuel:Nat} {listed:Array Bool} {a:Act} {w:World}
theorem tT (i:Nat){a':Act}{v:Value}(h:wpAnyH P md ops Q S fuel (listed.setIfInBounds i true) a' w)(h0:ops[i]?=some oi:=by rfl)(h1:(Region.noSelect ops&&(Region.free md ops listed i&&(Region.ready md ops listed).contains i))=true:=by kernel_rfl)(hg:Region.wanted oi (yielded ops a.tmps)=true:=by rfl)(hy:∀(w:World),S w→Sem.run P (execOp a.eval oi) w=Result.ok (Next.value v) w:=by intro V hV; (try dsimp only at hV); go_simp; all_goals (with_reducible rfl))(hq:∀(c:List PanicEntry) (a:Act) (w:World),Q (Exit.panic c) (a.put oi.dst v) w→Q (Exit.panic c) a w:=by exact fun _ _ _ h=>h)(hs:S w:=by assumption)(ha:a.put oi.dst v=a':=by(try simp only [Act.put,zA,zB,zC,zD,zE,zF]); with_reducible rfl):wpAnyH P md ops Q S (fuel+1) listed a w:=by
 subst ha;simp only [Bool.and_eq_true] at h1;exact wpAnyH_take h0 h1.1 h1.2.1 h1.2.2 hq (Or.inl ⟨hg,hy⟩) hs h
theorem tW (i:Nat){a':Act}{v:Value}(hy:∀(w:World),S w→Sem.run P (execOp a.eval oi) w=Result.ok (Next.value v) w)(h:wpAnyH P md ops Q S fuel (listed.setIfInBounds i true) a' w)(h0:ops[i]?=some oi:=by rfl)(h1:(Region.noSelect ops&&(Region.free md ops listed i&&(Region.ready md ops listed).contains i))=true:=by kernel_rfl)(hg:Region.wanted oi (yielded ops a.tmps)=true:=by rfl)(hq:∀(c:List PanicEntry) (a:Act) (w:World),Q (Exit.panic c) (a.put oi.dst v) w→Q (Exit.panic c) a w:=by exact fun _ _ _ h=>h)(hs:S w:=by assumption)(ha:a.put oi.dst v=a':=by(try simp only [Act.put,zA,zB,zC,zD,zE,zF]); with_reducible rfl):wpAnyH P md ops Q S (fuel+1) listed a w:=by
 subst ha;simp only [Bool.and_eq_true] at h1;exact wpAnyH_take h0 h1.1 h1.2.1 h1.2.2 hq (Or.inl ⟨hg,hy⟩) hs h
theorem tX (i:Nat){a':Act}{v:Value}(h:wpAnyH P md ops Q S fuel (listed.setIfInBounds i true) a' w)(h0:ops[i]?=some oi:=by rfl)(h1:(Region.noSelect ops&&(Region.free md ops listed i&&(Region.ready md ops listed).contains i))=true:=by kernel_rfl)(hg:Region.wanted oi (yielded ops a.tmps)=true:=by rfl)(hy:∀(w:World),S w→Sem.run P (execOp a.eval oi) w=Result.ok (Next.value v) w:=by rintro V ⟨-,-,g2⟩; go_simp; all_goals (with_reducible rfl))(hq:∀(c:List PanicEntry) (a:Act) (w:World),Q (Exit.panic c) (a.put oi.dst v) w→Q (Exit.panic c) a w:=by exact fun _ _ _ h=>h)(hs:S w:=by assumption)(ha:a.put oi.dst v=a':=by(try simp only [Act.put,zA,zB,zC,zD,zE,zF]); with_reducible rfl):wpAnyH P md ops Q S (fuel+1) listed a w:=by
 subst ha;simp only [Bool.and_eq_true] at h1;exact wpAnyH_take h0 h1.1 h1.2.1 h1.2.2 hq (Or.inl ⟨hg,hy⟩) hs h
theorem tS (i:Nat){a':Act}(h:wpAnyH P md ops Q S fuel (listed.setIfInBounds i true) a' w)(h0:ops[i]?=some oi:=by rfl)(h1:(Region.noSelect ops&&(Region.free md ops listed i&&(Region.ready md ops listed).contains i))=true:=by kernel_rfl)(hg:Region.wanted oi (yielded ops a.tmps)=false:=by rfl)(hq:∀(c:List PanicEntry) (a:Act) (w:World),Q (Exit.panic c) (a.put oi.dst undef) w→Q (Exit.panic c) a w:=by exact fun _ _ _ h=>h)(hs:S w:=by assumption)(ha:a.put oi.dst undef=a':=by(try simp only [Act.put,zA,zB,zC,zD,zE,zF]); with_reducible rfl):wpAnyH P md ops Q S (fuel+1) listed a w:=by
 subst ha;simp only [Bool.and_eq_true] at h1;exact wpAnyH_take h0 h1.1 h1.2.1 h1.2.2 hq (Or.inr ⟨hg,rfl⟩) hs h
theorem kO {K:Act→World→Prop}{A B:Act→World→Prop}{a':Act}(hK:_root_.Go.Shut (∀ a w,A a w→B a w→K a w))(h1:A a w)(h2:B a' w)(ha:a=a':=by(try simp only [Act.put,zA,zB,zC,zD,zE,zF]); with_reducible rfl):K a w:=by
 subst ha;exact hK.out _ _ h1 h2
theorem tO (i:Nat)(h:∀ K:Act→World→Prop,_root_.Go.Shut (∀ a w,S w→(S w→wpAnyH P md ops Q S fuel (listed.setIfInBounds i true) a w)→K a w)→if Region.wanted oi (yielded ops a.tmps)=true then Oper.wp P oi a w K Q else K (a.put oi.dst undef) w)(h0:ops[i]?=some oi:=by rfl)(h1:Region.ready md ops listed=[i]:=by kernel_rfl):wpAnyH P md ops Q S (fuel+1) listed a w:=wpAnyH_ready h1 (by simp) (AllReadyH.cons h0 h AllReadyH.nil)
end
end Go.Proofs.YtnlcfnjeagmemaaGreatDoor
namespace Go.Proofs.YtnlcfnjeagmemaaGreatDoor
open Go.RowKit
theorem Zfh {p:Prop}(h:p):Hid p:=h
theorem Ud {p:Prop}(h:Hid p):p:=h
def ldv (m:Nat→Int):Nat→Nat→Int
 | _,0=>0
 | a,n+1=>m a+256*ldv m (a+1) n
def byt (v:Int)(k:Nat):Int:=v / 256 ^ k % 256
theorem Zsb (v:Int)(k:Nat):v / 2 ^ (8*k) % 256=byt v k:=by
 unfold byt; rw [Int.pow_mul]; rfl
theorem Zcy {m:Nat→Int}(hm:∀ i,0≤m i∧m i<256):∀(n a:Nat),0≤ldv m a n∧ldv m a n<256 ^ n
 | 0,a=>by simp [ldv]
 | n+1,a=>by
  have h:=Zcy hm n (a+1);have h0:=hm a;simp only [ldv,Int.pow_succ];omega
def upd (m:Nat→Int)(a:Nat)(v:Int)(n:Nat):Nat→Int:=fun i=>if a≤i∧i<a+n then byt v (i-a) else m i
theorem Zfi (m:Nat→Int)(a:Nat)(v:Int):upd m a v 0=m:=by
 funext i; unfold upd; rw [if_neg (by omega)]
theorem Ix (m:Nat→Int)(a:Nat)(v:Int)(n i:Nat):upd m a v (n+1) i=if i=a+n then byt v n else upd m a v n i:=by
 unfold upd;by_cases h:i=a+n
 ·
  subst h; rw [if_pos (by omega),if_pos rfl]; congr 1; omega
 ·
  rw [if_neg h];by_cases h2:a≤i∧i<a+n
  ·
   rw [if_pos (by omega),if_pos h2]
  ·
   rw [if_neg (by omega),if_neg h2]
theorem Zsc (n:Int)(h₀:0≤n)(h₁:n<2 ^ 64):IntKind.u64.wrap n=n:=by rw [IntKind.wrap_u64]; omega
theorem or8 (x y:Int)(h0:0≤x)(h1:x<72057594037927936)(h2:0≤y)(h3:y<256):bits .or .u64 (x*256) y=y+256*x:=by
 rw [bits_join .u64 64 (by decide) Zsc 8 (x*256) y (by omega) (by omega) (by omega) h2 (by omega) (by omega)];omega
theorem Zmi (k:Nat)(hk:k≤7):(256:Int) ^ k≤72057594037927936:=by
 match k,hk with
 | 0,_ | 1,_ | 2,_ | 3,_ | 4,_ | 5,_ | 6,_ | 7,_=>decide
def stw (w:World)(d a:Nat)(v:Int):Nat→World
 | 0=>w
 | k+1=>(stw w d a v k).setCell ⟨d,a+k,none⟩ (.int .u8 (byt v k))
theorem Iy (w:World)(d a:Nat)(v:Int):∀ k,(stw w d a v k).heap.size=w.heap.size
 | 0=>rfl
 | k+1=>by simp [stw,Iy w d a v k]
theorem Iz (w:World)(d a:Nat)(v:Int)(x:Addr):∀ k,(stw w d a v k).frozen? x=w.frozen? x
 | 0=>rfl
 | k+1=>by simp only [stw,World.frozen?_setCell]; exact Iz w d a v x k
theorem Co (w:World)(d a:Nat)(v:Int)(x:Nat)(h:x≠d):∀ k,(stw w d a v k).heap[x]?=w.heap[x]?
 | 0=>rfl
 | k+1=>by
  simp only [stw];rw [Below.heap_setCell _ _ _ _ h];exact Co w d a v x h k
theorem Zfj (w:World)(d a:Nat)(v:Int)(n:Nat)(m:Nat→Int)(hc:∀ i,i<n→w.cell? ⟨d,i,none⟩=some (.int .u8 (m i))) :
 ∀ k,a+k≤n→∀ i,i<n→(stw w d a v k).cell? ⟨d,i,none⟩=some (.int .u8 (upd m a v k i))
 | 0,_,i,hi=>by rw [Zfi]; exact hc i hi
 | k+1,hk,i,hi=>by
  simp only [stw];rw [Ix];have ih:=Zfj w d a v n m hc k (by omega);by_cases h:i=a+k
  ·
   subst h;rw [if_pos rfl,World.cell?_setCell_same _ _ _ (ih _ hi)]
  ·
   rw [if_neg h,World.cell?_setCell_other _ _ _ _ (by intro e; cases e; exact h rfl)];exact ih i hi
structure IFr where
 fn:Ybd
 b:Int
 i:Int
 v:List Int
 s:List (List Int)
 o:List Int
def ldB (bs:List Int)(a k:Nat):Int:=ldv (fun i=>bs.getD i 0) a k
def stB (bs:List Int)(a k:Nat)(v:Int):List Int:=(List.range bs.length).map (upd (fun i=>bs.getD i 0) a v k)
def Lr (op a b:Int):Int :=
 if op=3 then IntKind.u64.wrap (a+b) else if op=4 then IntKind.u64.wrap (a-b) else if op=5 then IntKind.u64.wrap (a*b) else if op=6 then bits .and .u64 a b else if op=7 then bits .xor .u64 a b else if op=8 then (if a<b then 1 else 0) else if op=9 then (if a=b then 1 else 0) else 0
structure Xv where
 u:Nat
 c:Int
 p:Int
structure Xm where
 pl:List (Int×Int)
 ref:Bool
 at_:Int
structure Yc where
 args:List Xm
 res:List (Int×Int)
 size:Int
 copies:Int
def Ox (br n:Int):Nat:=if n=0∨br<n then 1 else n.toNat
def Oq (pr:Bool)(w u:Nat):Nat:=if (decide (1<w)&&(pr&&decide (u % 2=1)))=true then u+1 else u
def Rb (L w u1:Nat):Bool:=decide (u1+w≤L)
def Rc (ag:List Int)(rg:Bool)(u1:Nat)(c:Int)(i:Nat):Int×Int:=if rg=true then (ag.getD (u1+i) 0,0) else (-1,c+8*i)
def Jv (L:Nat)(br:Int)(pr:Bool)(n:Int)(s:Xv):Xv :=
 ⟨if Rb L (Ox br n) (Oq pr (Ox br n) s.u)=true then Oq pr (Ox br n) s.u+Ox br n else if 1<Ox br n then L else Oq pr (Ox br n) s.u,
  if Rb L (Ox br n) (Oq pr (Ox br n) s.u)=true then s.c else s.c+8*Ox br n,if br<n then s.p+8*n else s.p⟩
def Lx (ag:List Int)(br:Int)(pr:Bool)(n:Int)(s:Xv):Xm :=
 ⟨(List.range (Ox br n)).map (Rc ag (Rb ag.length (Ox br n) (Oq pr (Ox br n) s.u)) (Oq pr (Ox br n) s.u) s.c),decide (br<n),if br<n then s.p else 0⟩
def Ln (L:Nat)(br:Int)(pr:Bool)(ps:List Int)(sh:Int):Nat→Xv
 | 0=>⟨0,sh,0⟩
 | k+1=>Jv L br pr (ps.getD k 0) (Ln L br pr ps sh k)
def Gx (ag:List Int)(br:Int)(pr:Bool)(ps:List Int)(sh:Int)(k:Nat):Xm:=Lx ag br pr (ps.getD k 0) (Ln ag.length br pr ps sh k)
def My (rs:List Int)(c:Int)(k:Nat):Int×Int:=if k<rs.length then (rs.getD k 0,0) else (-1,c+8*((k-rs.length:Nat):Int))
def Yj (rs:List Int)(c:Int)(k:Nat):Int:=c+8*((k-rs.length:Nat):Int)
def St (ag rs:List Int)(br:Int)(pr:Bool)(sh:Int)(ps:List Int)(n:Int):Yc :=
 ⟨(List.range ps.length).map (Gx ag br pr ps sh),(List.range n.toNat).map (My rs (Ln ag.length br pr ps sh ps.length).c),Yj rs (Ln ag.length br pr ps sh ps.length).c n.toNat,(Ln ag.length br pr ps sh ps.length).p⟩
theorem Zja (br n:Int)(h:0≤n):1≤Ox br n:=by unfold Ox; split <;> omega
theorem Znq (br n:Int)(h:n≤8):Ox br n≤8:=by unfold Ox; split <;> omega
theorem Zcm (pr:Bool)(u:Nat):Oq pr 1 u=u:=by unfold Oq; simp
theorem Zrj {L:Nat}{br:Int}{pr:Bool}{n:Int}{s:Xv}(hn:0≤n)(hu:s.u≤L):(Jv L br pr n s).u≤L:=by
 unfold Jv;simp only;split
 ·
  rename_i h;unfold Rb at h;exact of_decide_eq_true h
 ·
  split
  ·
   exact Nat.le_refl _
  ·
   have h1:Ox br n=1:=by have:=Zja br n hn; omega
   rw [h1,Zcm];exact hu
theorem Zjb {L:Nat}{br:Int}{pr:Bool}{n:Int}{s:Xv}(hn:n≤8):s.c≤(Jv L br pr n s).c∧(Jv L br pr n s).c≤s.c+64:=by
 have:=Znq br n hn;unfold Jv;simp only;split <;> omega
theorem Zjc {L:Nat}{br:Int}{pr:Bool}{n:Int}{s:Xv}(h0:0≤n)(hn:n≤8):s.p≤(Jv L br pr n s).p∧(Jv L br pr n s).p≤s.p+64:=by
 unfold Jv;simp only;split <;> omega
structure Zzs (L:Nat)(sh:Int)(k:Nat)(s:Xv):Prop where
 u:s.u≤L
 c0:sh≤s.c
 c1:s.c≤sh+64*k
 p0:0≤s.p
 p1:s.p≤64*k
theorem Zcn {L:Nat}{br:Int}{pr:Bool}{ps:List Int}{sh:Int}(hps:Gu ps 0 8=true):∀ k,k≤ps.length→Zzs L sh k (Ln L br pr ps sh k)
 | 0,_=>⟨Nat.zero_le _,Int.le_refl _,by show sh≤sh+64*((0:Nat):Int); omega,Int.le_refl _,by show(0:Int)≤64*((0:Nat):Int); omega⟩
 | k+1,h=>by
  have ih:=Zcn (L:=L) (br:=br) (pr:=pr) (sh:=sh) hps k (by omega);have hk:=Ut hps (k:=k) (by omega);unfold Nf at hk;obtain⟨h0,h8⟩:=of_decide_eq_true hk;have hc:=Zjb (L:=L) (br:=br) (pr:=pr) (s:=Ln L br pr ps sh k) h8;have hp:=Zjc (L:=L) (br:=br) (pr:=pr) (s:=Ln L br pr ps sh k) h0 h8;have i1:=ih.c0;have i2:=ih.c1;have i3:=ih.p0;have i4:=ih.p1;refine⟨Zrj h0 ih.u,?_,?_,?_,?_⟩ <;> simp only [Ln] <;> omega
theorem Jd {α:Type}(f:Nat→α)(k:Nat):(List.range (k+1)).map f=(List.range k).map f++[f k]:=by rw [List.range_succ,List.map_append]; rfl
def plC (xs:List (Int×Int)):List Value:=xs.flatMap fun x=>[.int .i64 x.1,.int .i64 x.2]
theorem Zel (xs:List (Int×Int))(x:Int×Int):plC (xs++[x])=plC xs++[.int .i64 x.1,.int .i64 x.2]:=by simp [plC]
theorem Zco (xs:List (Int×Int)):(plC xs).length=xs.length*2:=by
 induction xs with
 | nil=>rfl
 | cons a r ih=>simp only [plC,List.flatMap_cons,List.length_append,List.length_cons,List.length_nil] at ih ⊢; omega
theorem Ch:∀(xs:List (Int×Int)) (k:Nat),k<xs.length→(plC xs)[k*2]?=some (.int .i64 (xs.getD k (0,0)).1)∧(plC xs)[k*2+1]?=some (.int .i64 (xs.getD k (0,0)).2)
 | a :: r,0,_=>⟨rfl,rfl⟩
 | a :: r,k+1,h=>by
  have ih:=Ch r k (by simpa using h);have e:plC (a :: r)=[.int .i64 a.1,.int .i64 a.2]++plC r:=rfl;rw [e];refine⟨?_,?_⟩
  ·
   rw [List.getElem?_append_right (by simp; omega)];rw [show(k+1)*2-[Value.int .i64 a.1,.int .i64 a.2].length=k*2 by simp; omega,ih.1];simp [List.getD]
  ·
   rw [List.getElem?_append_right (by simp; omega)];rw [show(k+1)*2+1-[Value.int .i64 a.1,.int .i64 a.2].length=k*2+1 by simp; omega,ih.2];simp [List.getD]
theorem Li.list {w:World}(ns:List Int)(hs:ns.length<Zeo):Li (w.alloc (.cells (ns.map fun n=>Value.int .i64 n).toArray 3 (0,0))) (.slice (some ⟨w.heap.size,0,none⟩) ns.length ns.length) ns:=Li.new (heap_alloc_new w _) hs
theorem Jk.keep {w w':World}(h:Jk w)(hb:Below w.heap.size w w'):Jk w':=(hb.cell (World.block_lt_of_cell? w _ h)).trans h
set_option maxHeartbeats 1000000
set_option maxRecDepth 100000
theorem Mq (n lo hi:Int)(w:World):Calls Tryz.prog 22 #[.int .i64 n,.int .i64 lo,.int .i64 hi] w fun e w'=>e=.returned (.bool (Nf n lo hi))∧w'=w:=Zzt n lo hi w
theorem Zuo (v:Value)(ns:List Int)(r:Int)(w:World)(h:Li w v ns):Calls Tryz.prog 39 #[.agg #[v,.int .i64 r]] w fun e w'=>e=.returned (.bool (Xy (ns,r)))∧Below w.heap.size w w':=by
 have hx:=Zs w (.cells #[v,.int .i64 r] 59 (0,0));obtain⟨p,cap,rfl,hcap,hlt,hc⟩:=h.below hx.2.1;have hlt:ns.length<9223372036854775808:=hlt;have HC:=Y hc;have HX:=Y hx;clear hc hx h;go_enter Tryz.func39,Tryz.ntmps39
 go_wp2_with fail
 generalize World.alloc w _=W at HC HX ⊢;go_loopw [8] (fun j w'=>∃ k:Nat,j=.int .i64 k∧k≤ns.length∧w'=W∧∀ q,q<k→Nf (ns.getD q 0) 0 8=true) (fun j _=>ns.length-(intOf j).toNat)
 case atStart=>exact⟨0,rfl,by omega,rfl,fun q hq=>by omega⟩
 case round =>
  obtain⟨k,rfl,hk,rfl,hno⟩:=hrel;have HN:=Y hno;clear hno;have r0:=(cR (O HX).1 0);have r1:=(cR (O HX).1 1);by_cases hk2:k<ns.length
  ·
   obtain⟨sb,so,rfl,hcc⟩:=O HC (by omega);have c:=hcc k hk2;have HW:=Y (Mq (ns.getD k 0) 0 8 wr);have HBAD:=Y (fun hb:Nf (ns.getD k 0) 0 8=false=>show Xy (ns,r)=false by have:Gu ns 0 8=false:=Zbg hk2 hb; unfold Xy; rw [this]; simp);have HNX:=Y (fun hb:Nf (ns.getD k 0) 0 8=true=>Zbh (q:=fun q=>Nf (ns.getD q 0) 0 8) (O HN) hb);clear hcc HC;generalize Nf (ns.getD k 0) 0 8=yes at HW HBAD HNX;generalize ns.getD k 0=y at c HW;go_wp2_with fail
   refine(O HW).mono ?_;rintro e w2 ⟨rfl,h2⟩;subst w2;cases yes with
   | false =>
    have hx:=Y (O HBAD rfl);go_wp2;go_ret;exact⟨by rw [O hx]; rfl,(O HX).2.1⟩
   | true =>
    have hx:=Y (O HNX rfl);go_wp2;go_roundw
    case rel=>exact⟨k+1,by go_num,by omega,trivial,O hx⟩
    case measure=>simp [intOf]; omega
  ·
   have HT:=Y (show Gu ns 0 8=true from Zef (fun q hq=>O HN q (by omega)));obtain rfl:k=ns.length:=by omega
   by_cases h8:ns.length≤8
   ·
    have HS:=Y (show Xy (ns,r)=Nf r 0 4 by unfold Xy; rw [O HT]; simp [h8]);go_wp2_with fail
    refine(Mq r 0 4 _).mono ?_;rintro e w2 ⟨rfl,h2⟩;subst w2;go_wp2;go_ret;exact⟨by rw [O HS]; rfl,(O HX).2.1⟩
   ·
    have HS:=Y (show Xy (ns,r)=false by unfold Xy; simp [h8]);go_wp2;go_ret;exact⟨by rw [O HS]; rfl,(O HX).2.1⟩
section
variable {w w':World} {b:Nat}
abbrev Zrl (b:Nat)(w w':World):Prop:=∀ k,k<b→w'.heap[k]?=w.heap[k]?
theorem Lj.same {v:Value}{ns:List Int}(h:Lj w b v ns)(hw:Zrl b w w'):Lj w' b v ns:=by
 rcases h with h | ⟨sb,so,cap,h1,h2,h3⟩
 ·
  exact Or.inl h
 ·
  exact Or.inr ⟨sb,so,cap,h1,h2,fun i hi=>(World.cell?_of_block (a:=⟨sb,so+i,none⟩) (hw sb h2)).trans (h3 i hi)⟩
end
theorem Li.setRow {w:World}{T:Nat}{cs:Array Value}{v:Value}{ns:List Int}(h:Li w v ns)(hne:∀ sb so n c,v=.slice (some ⟨sb,so,none⟩) n c→0<ns.length→sb≠T):Li (w.setRow T cs) v ns:=by
 obtain⟨p,cap,h1,h2,h3,h4⟩:=h;refine⟨p,cap,h1,h2,h3,fun h0=>?_⟩;obtain⟨sb,so,e,hc⟩:=h4 h0;subst e;have hn:=hne sb so _ _ h1 h0;refine⟨sb,so,rfl,fun i hi=>?_⟩;rw [← hc i hi];unfold World.cell?;simp only [setRow_other w T sb cs hn]
theorem Zxe (w:World)(X0 X1 X2 X3 X4:Obj):(((((w.alloc X0).alloc X1).alloc X2).alloc X3).alloc X4).heap[w.heap.size]?=some X0∧(((((w.alloc X0).alloc X1).alloc X2).alloc X3).alloc X4).heap[w.heap.size+1]?=some X1∧(((((w.alloc X0).alloc X1).alloc X2).alloc X3).alloc X4).heap[w.heap.size+1+1]?=some X2∧(((((w.alloc X0).alloc X1).alloc X2).alloc X3).alloc X4).heap[w.heap.size+1+1+1]?=some X3∧(((((w.alloc X0).alloc X1).alloc X2).alloc X3).alloc X4).heap.size=w.heap.size+1+1+1+1+1:=by
 obtain⟨r0,b0,s0⟩:=Zs w X0;obtain⟨r1,b1,s1⟩:=Zs (w.alloc X0) X1;obtain⟨r2,b2,s2⟩:=Zs ((w.alloc X0).alloc X1) X2;obtain⟨r3,b3,s3⟩:=Zs (((w.alloc X0).alloc X1).alloc X2) X3;obtain⟨r4,b4,s4⟩:=Zs ((((w.alloc X0).alloc X1).alloc X2).alloc X3) X4;rw [s0] at r1;rw [s1,s0] at r2;rw [s2,s1,s0] at r3;exact⟨(b4.block _ (by omega)).trans ((b3.block _ (by omega)).trans ((b2.block _ (by omega)).trans ((b1.block _ (by omega)).trans r0))),(b4.block _ (by omega)).trans ((b3.block _ (by omega)).trans ((b2.block _ (by omega)).trans r1)),(b4.block _ (by omega)).trans ((b3.block _ (by omega)).trans r2),(b4.block _ (by omega)).trans r3,by omega⟩
set_option maxHeartbeats 400000
def Cb (n:Int):Bool:=n==1||n==2||n==4||n==8
theorem Ry (n:Int):Cb n=true↔n=1∨n=2∨n=4∨n=8:=by unfold Cb; simp; omega
theorem Nv (n:Int)(w:World):Calls Tryz.prog 137 #[.int .i64 n] w fun e w'=>e=.returned (.bool (Cb n))∧w'=w:=by
 by_cases h1:n=1
 ·
  subst h1; go_enter Tryz.func137,Tryz.ntmps137; go_wp2; go_ret; exact⟨rfl,rfl⟩
 by_cases h2:n=2
 ·
  subst h2; go_enter Tryz.func137,Tryz.ntmps137; go_wp2; go_ret; exact⟨rfl,rfl⟩
 by_cases h4:n=4
 ·
  subst h4; go_enter Tryz.func137,Tryz.ntmps137; go_wp2; go_ret; exact⟨rfl,rfl⟩
 by_cases h8:n=8
 ·
  subst h8; go_enter Tryz.func137,Tryz.ntmps137; go_wp2; go_ret; exact⟨rfl,rfl⟩
 have e1:(n==1)=false:=by simp [h1]
 have e2:(n==2)=false:=by simp [h2]
 have e4:(n==4)=false:=by simp [h4]
 have e8:(n==8)=false:=by simp [h8]
 have e:Cb n=false:=by simp [Cb,h1,h2,h4,h8]
 rw [e]; clear e;go_enter Tryz.func137,Tryz.ntmps137; go_wp2; go_ret; exact⟨rfl,rfl⟩
def uC (l:List Int):List Value:=l.map fun n=>.int .u64 n
def yC (l:List Int):List Value:=l.map fun n=>.int .u8 n
set_option maxHeartbeats 4000000
theorem Cm (b:Bool)(w:World):Calls Tryz.prog 132 #[.bool b] w fun e w'=>e=.returned (.int .u64 (if b=true then 1 else 0))∧w'=w:=by
 cases b with
 | true =>
  go_enter Tryz.func132,Tryz.ntmps132
  go_wp2;go_ret;exact⟨rfl,rfl⟩
 | false =>
  go_enter Tryz.func132,Tryz.ntmps132
  go_wp2;go_ret;exact⟨rfl,rfl⟩
theorem Zos (op a b:Int)(w:World):Calls Tryz.prog 117 #[.int .i64 op,.int .u64 a,.int .u64 b] w fun e w'=>e=.returned (.int .u64 (Lr op a b))∧w'=w:=by
 by_cases h3:op=3
 ·
  subst h3;go_enter Tryz.func117,Tryz.ntmps117
  go_wp2;go_ret;exact⟨rfl,rfl⟩
 by_cases h4:op=4
 ·
  subst h4;go_enter Tryz.func117,Tryz.ntmps117
  go_wp2;go_ret;exact⟨rfl,rfl⟩
 by_cases h5:op=5
 ·
  subst h5;go_enter Tryz.func117,Tryz.ntmps117
  go_wp2;go_ret;exact⟨rfl,rfl⟩
 by_cases h6:op=6
 ·
  subst h6;go_enter Tryz.func117,Tryz.ntmps117
  go_wp2;go_ret;exact⟨rfl,rfl⟩
 by_cases h7:op=7
 ·
  subst h7;go_enter Tryz.func117,Tryz.ntmps117
  go_wp2;go_ret;exact⟨rfl,rfl⟩
 by_cases h8:op=8
 ·
  subst h8;by_cases hx:a<b
  ·
   skip
   have HX:=Y hx;go_enter Tryz.func117,Tryz.ntmps117
   go_wp2_with fail
   refine(Cm _ _).mono ?_;rintro e w1 ⟨rfl,hw⟩;subst w1;go_wp2;go_ret;exact⟨by unfold Lr; simp [O HX],rfl⟩
  ·
   skip
   have HX:=Y hx;go_enter Tryz.func117,Tryz.ntmps117
   go_wp2_with fail
   refine(Cm _ _).mono ?_;rintro e w1 ⟨rfl,hw⟩;subst w1;go_wp2;go_ret;exact⟨by unfold Lr; simp [O HX],rfl⟩
 by_cases h9:op=9
 ·
  subst h9;by_cases hx:a=b
  ·
   have hz:(a==b)=true:=by simp [hx]
   have HX:=Y hx;go_enter Tryz.func117,Tryz.ntmps117
   go_wp2_with fail
   refine(Cm _ _).mono ?_;rintro e w1 ⟨rfl,hw⟩;subst w1;go_wp2;go_ret;exact⟨by unfold Lr; simp [O HX],rfl⟩
  ·
   have hz:(a==b)=false:=by simp [hx]
   have HX:=Y hx;go_enter Tryz.func117,Tryz.ntmps117
   go_wp2_with fail
   refine(Cm _ _).mono ?_;rintro e w1 ⟨rfl,hw⟩;subst w1;go_wp2;go_ret;exact⟨by unfold Lr; simp [O HX],rfl⟩
 have z3:(op==3)=false:=by simp [h3]
 have z4:(op==4)=false:=by simp [h4]
 have z5:(op==5)=false:=by simp [h5]
 have z6:(op==6)=false:=by simp [h6]
 have z7:(op==7)=false:=by simp [h7]
 have z8:(op==8)=false:=by simp [h8]
 have z9:(op==9)=false:=by simp [h9]
 have HR:=Y (show Lr op a b=0 by unfold Lr; rw [if_neg h3,if_neg h4,if_neg h5,if_neg h6,if_neg h7,if_neg h8,if_neg h9]);clear h3 h4 h5 h6 h7 h8 h9;go_enter Tryz.func117,Tryz.ntmps117
 go_wp2;go_ret;exact⟨by rw [O HR]; rfl,rfl⟩
theorem Zye (op a b:Int)(w:World):Calls Tryz.prog 48 #[.int .i64 op,.int .u64 a,.int .u64 b] w fun e w'=>e=.returned (.int .u64 (Lr op a b))∧w'=w:=by
 by_cases h3:op=3
 ·
  subst h3;go_enter Tryz.func48,Tryz.ntmps48
  go_wp2;go_ret;exact⟨rfl,rfl⟩
 by_cases h4:op=4
 ·
  subst h4;go_enter Tryz.func48,Tryz.ntmps48
  go_wp2;go_ret;exact⟨rfl,rfl⟩
 by_cases h5:op=5
 ·
  subst h5;go_enter Tryz.func48,Tryz.ntmps48
  go_wp2;go_ret;exact⟨rfl,rfl⟩
 by_cases h6:op=6
 ·
  subst h6;go_enter Tryz.func48,Tryz.ntmps48
  go_wp2;go_ret;exact⟨rfl,rfl⟩
 by_cases h7:op=7
 ·
  subst h7;go_enter Tryz.func48,Tryz.ntmps48
  go_wp2;go_ret;exact⟨rfl,rfl⟩
 by_cases h8:op=8
 ·
  subst h8;by_cases hx:a<b
  ·
   skip
   go_enter Tryz.func48,Tryz.ntmps48
   go_wp2;go_ret;exact⟨by unfold Lr; simp [hx],rfl⟩
  ·
   skip
   go_enter Tryz.func48,Tryz.ntmps48
   go_wp2;go_ret;exact⟨by unfold Lr; simp [hx],rfl⟩
 by_cases h9:op=9
 ·
  subst h9;by_cases hx:a=b
  ·
   have hz:(a==b)=true:=by simp [hx]
   go_enter Tryz.func48,Tryz.ntmps48
   go_wp2;go_ret;exact⟨by unfold Lr; simp [hx],rfl⟩
  ·
   have hz:(a==b)=false:=by simp [hx]
   go_enter Tryz.func48,Tryz.ntmps48
   go_wp2;go_ret;exact⟨by unfold Lr; simp [hx],rfl⟩
 have z3:(op==3)=false:=by simp [h3]
 have z4:(op==4)=false:=by simp [h4]
 have z5:(op==5)=false:=by simp [h5]
 have z6:(op==6)=false:=by simp [h6]
 have z7:(op==7)=false:=by simp [h7]
 have z8:(op==8)=false:=by simp [h8]
 have z9:(op==9)=false:=by simp [h9]
 have HR:=Y (show Lr op a b=0 by unfold Lr; rw [if_neg h3,if_neg h4,if_neg h5,if_neg h6,if_neg h7,if_neg h8,if_neg h9]);clear h3 h4 h5 h6 h7 h8 h9;go_enter Tryz.func48,Tryz.ntmps48
 go_wp2;go_ret;exact⟨by rw [O HR]; rfl,rfl⟩
end Go.Proofs.YtnlcfnjeagmemaaGreatDoor
