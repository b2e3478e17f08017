import Derived.Test.YtnlcfnjeagmemaaGreatDoorJ3
import Derived.Test.YtnlcfnjeagmemaaGreatDoorJ4
import Derived.Deep.RegionHeld3
import Derived.Test.YtnlcfnjeagmemaaGreatDoorJ8
import Derived.Test.YtnlcfnjeagmemaaGreatDoorJ11
import Derived.Deep.RegionLaw
import Derived.WalkSmall
namespace Go.Proofs.YtnlcfnjeagmemaaGreatDoor
open Go.RowKit
set_option maxHeartbeats 2000000
theorem Zfg (m:Nat→Int):∀(n a:Nat),ldv m a (n+1)=ldv m a n+256 ^ n*m (a+n)
 | 0,a=>by simp [ldv]
 | n+1,a=>by
  have h:=Zfg m n (a+1);rw [show ldv m a (n+1+1)=m a+256*ldv m (a+1) (n+1) from rfl,h,show ldv m a (n+1)=m a+256*ldv m (a+1) n from rfl,Int.pow_succ,show a+1+n=a+(n+1) by omega,Int.mul_add,← Int.mul_assoc,Int.mul_comm (256 ^ n) 256];omega
theorem Sx:∀ j:Nat,j≤8→(256:Int) ^ j≤18446744073709551616
 | 0,_=>by decide
 | 1,_=>by decide
 | 2,_=>by decide
 | 3,_=>by decide
 | 4,_=>by decide
 | 5,_=>by decide
 | 6,_=>by decide
 | 7,_=>by decide
 | 8,_=>by decide
 | n+9,h=>by omega
theorem Sy {bs:List Int}{k:Nat}(h:k<bs.length):(yC bs).toArray[k]?=some (.int .u8 (bs.getD k 0)):=by
 simp [yC,List.getD,h]
theorem Iw {l:List Int}{k:Nat}(h:k<l.length)(d:Int):l.getD k d ∈ l:=by
 simp [List.getD,h]
theorem Rw {bs:List Int}(hb:∀ n ∈ bs,0≤n∧n<256)(i:Nat):0≤bs.getD i 0∧bs.getD i 0<256:=by
 by_cases h:i<bs.length
 ·
  exact hb _ (Iw h 0)
 ·
  simp [List.getD,h]
theorem Zow (bs:List Int)(g a k:Nat)(w:World)(hr:w.heap[g]?=some (.cells (yC bs).toArray 5 (0,0)))(hb:∀ n ∈ bs,0≤n∧n<256)(hk:k≤8)(hak:a+k≤bs.length)(hl:bs.length≤65536) :
 Calls Tryz.prog 67 #[.slice (some ⟨g,0,none⟩) bs.length bs.length,.int .i64 a,.int .i64 k] w fun e w'=>e=.returned (.int .u64 (ldB bs a k))∧w'=w:=by
 have HR:=Y hr;have HBD:=Y (Rw hb);have HLB:=Y (Zcy (m:=fun i=>bs.getD i 0) (Rw hb));clear hr hb;go_enter Tryz.func67,Tryz.ntmps67
 go_wp2;go_loop [9,7,8] (fun si sv sb=>∃ j:Nat,j≤k∧si=.int .i64 j∧sv=.int .u64 (ldB bs a j)∧sb=.int .u64 ((256:Int) ^ j % 18446744073709551616)) (fun si _ _=>k-(intOf si).toNat)
 case atStart=>exact⟨0,by omega,rfl,rfl,rfl⟩
 case round =>
  obtain⟨j,hj,rfl,rfl,rfl⟩:=hrel;by_cases hj2:j<k
  ·
   have c:w.cell? ⟨g,a+j,none⟩=some (.int .u8 (bs.getD (a+j) 0)):=(Zd (O HR) (a+j)).trans (Sy (by omega));obtain⟨hx0,hx1⟩:=O HBD (a+j);have h1:=O HLB j a;have h2:=O HLB (j+1) a;have h3:=Sx (j+1) (by omega);have h4:(256:Int) ^ j<18446744073709551616:=by have:=Sx (j+1) (by omega); rw [Int.pow_succ] at this; have h0:(0:Int)<256 ^ j:=Int.pow_pos (by decide); omega
   have h5:(0:Int)<256 ^ j:=Int.pow_pos (by decide);have hs:=Zfg (fun i=>bs.getD i 0) j a;have hm:(256:Int) ^ j % 18446744073709551616=256 ^ j:=Int.emod_eq_of_lt (by omega) h4;have HN:=Y (show ldB bs a (j+1)=ldB bs a j+256 ^ j*bs.getD (a+j) 0 from hs);change 0≤ldB bs a j∧_ at h1
   change 0≤ldB bs a (j+1)∧ldB bs a (j+1)<_ at h2
   rw [O HN] at h2;have HP:=Y (show(256:Int) ^ (j+1) % 18446744073709551616=IntKind.u64.wrap (256 ^ j*256) by rw [IntKind.wrap_u64,Int.pow_succ]);rw [hm];generalize bs.getD (a+j) 0=x at c hx0 hx1 h2 HN;generalize ldB bs a j=v at h1 h2 HN ⊢;generalize (256:Int) ^ j=y at h2 h4 h5 HN HP ⊢;have hp0:0≤y*x:=Int.mul_nonneg (by omega) hx0;have hw1:IntKind.u64.wrap (y*x)=y*x:=by rw [IntKind.wrap_u64]; omega
   have hw2:IntKind.u64.wrap (v+y*x)=v+y*x:=by rw [IntKind.wrap_u64]; omega
   clear h1 h2 h3 hs hm hp0;go_wp2;go_round
   case rel=>exact⟨j+1,by omega,by go_num,by rw [O HN],by rw [O HP]⟩
   case measure=>simp [intOf]; omega
  ·
   have hjk:j=k:=by omega
   subst hjk;go_wp2;go_ret;exact⟨rfl,rfl⟩
theorem Ux (bs:List Int)(a k:Nat)(v:Int):(stB bs a k v).length=bs.length:=by simp [stB]
theorem Zox (bs:List Int)(a:Nat)(v:Int):stB bs a 0 v=bs:=by
 unfold stB;rw [Zfi];apply List.ext_getElem?
 intro i;by_cases h:i<bs.length
 ·
  simp [List.getD,h]
 ·
  simp [h]
theorem Zoy (bs:List Int)(a k:Nat)(v:Int):stB bs a (k+1) v=(stB bs a k v).set (a+k) (byt v k):=by
 apply List.ext_getElem?
 intro i;rw [List.getElem?_set];unfold stB;by_cases h:i<bs.length
 ·
  by_cases he:a+k=i
  ·
   subst he;simp [h,Ix]
  ·
   rw [if_neg he];simp [h,Ix,Ne.symm he]
 ·
  by_cases he:a+k=i
  ·
   subst he;simp [h]
  ·
   rw [if_neg he];simp [h]
theorem Zhy (bs:List Int)(i:Nat)(x:Int):(yC bs).toArray.setIfInBounds i (.int .u8 x)=(yC (bs.set i x)).toArray:=by
 simp [yC,List.map_set]
theorem Cn (w:World)(d a:Nat)(v:Int)(bs:List Int)(h:w.heap[d]?=some (.cells (yC bs).toArray 5 (0,0))):∀ k,(stw w d a v k).heap[d]?=some (.cells (yC (stB bs a k v)).toArray 5 (0,0))
 | 0=>by rw [Zox]; exact h
 | k+1=>by
  have:=heap_setCell_same _ _ (a+k) _ _ (.int .u8 (byt v k)) (Cn w d a v bs h k);rw [Zhy,← Zoy] at this;exact this
theorem Zoz (v:Int)(k:Nat):v / 256 ^ k / 256=v / 256 ^ (k+1):=by
 rw [Int.pow_succ,Int.ediv_ediv,if_neg (fun h=>absurd h.1 (by have:(0:Int)<256 ^ k:=Int.pow_pos (by decide); omega)),Int.sub_zero]
theorem Zvr (bs:List Int)(g a k:Nat)(v:Int)(w:World)(hr:w.heap[g]?=some (.cells (yC bs).toArray 5 (0,0)))(hak:a+k≤bs.length)(hl:bs.length≤65536)(hv:0≤v)(hv1:v<18446744073709551616) :
 Calls Tryz.prog 41 #[.slice (some ⟨g,0,none⟩) bs.length bs.length,.int .i64 a,.int .i64 k,.int .u64 v] w fun e w'=>(∃ x,e=.returned x)∧w'=stw w g a v k:=by
 have HR:=Y hr;clear hr;go_enter Tryz.func41,Tryz.ntmps41
 go_wp2;go_loopw [8,3] (fun si sv w'=>∃ j:Nat,j≤k∧si=.int .i64 j∧sv=.int .u64 (v / 256 ^ j)∧w'=stw w g a v j) (fun si _ _=>k-(intOf si).toNat)
 case atStart=>exact⟨0,by omega,rfl,by simp,rfl⟩
 case round =>
  obtain⟨j,hj,rfl,rfl,hw⟩:=hrel;subst hw;by_cases hj2:j<k
  ·
   have hrow:=Cn w g a v bs (O HR) j;have c:(stw w g a v j).cell? ⟨g,a+j,none⟩=some (.int .u8 ((stB bs a j v).getD (a+j) 0)):=(Zd hrow (a+j)).trans (Sy (by rw [Ux]; omega));have z:=frozen_of_row _ _ (a+j) _ _ hrow;obtain⟨y,hy⟩:∃ y,y=v / 256 ^ j:=⟨_,rfl⟩;have hy0:0≤y:=by rw [hy]; exact Int.ediv_nonneg hv (Int.le_of_lt (Int.pow_pos (by decide)))
   have HB:=Y (show byt v j=y % 256 by rw [hy]; rfl);have HD:=Y (show v / 256 ^ (j+1)=y / 256 by rw [← Zoz,hy]);rw [← hy];have h1:Int.tmod y 256=y % 256:=Int.tmod_eq_emod_of_nonneg hy0;have h2:Int.tdiv y 256=y / 256:=Int.tdiv_eq_ediv_of_nonneg hy0;have hy1:y≤v:=by rw [hy]; exact Int.ediv_le_self _ hv
   have h4:IntKind.u64.wrap (y / 256)=y / 256:=by rw [IntKind.wrap_u64]; omega
   have h3:IntKind.u8.wrap (y % 256)=y % 256:=by rw [show IntKind.u8.wrap (y % 256)=(y % 256) % 256 from rfl]; omega
   have HW:=Y (show stw w g a v (j+1)=(stw w g a v j).setCell ⟨g,a+j,none⟩ (.int .u8 (y % 256)) by rw [← O HB]; rfl);clear hy hrow;generalize stw w g a v j=V at c z HW ⊢;go_wp2;go_roundw
   case rel=>exact⟨j+1,by omega,by go_num,by rw [O HD],by rw [O HW]⟩
   case measure=>simp [intOf]; omega
  ·
   have hjk:j=k:=by omega
   subst hjk;go_wp2;go_returns;exact⟨⟨_,rfl⟩,rfl⟩
theorem Zcx {V V':World}{B n size:Nat}{e:TypeId}{v:Value}{xs:List Value}(h:V.ownsRow B e size v n xs)(hk:∀ g,v.ownBlock=some g→V'.heap[g]?=V.heap[g]?):V'.ownsRow B e size v n xs:=by
 obtain⟨h1,h2 | ⟨g,cap,cur,e1,e2,e3,e4⟩⟩:=h
 ·
  exact⟨h1,Or.inl h2⟩
 ·
  exact⟨h1,Or.inr ⟨g,cap,cur,e1,e2,(hk g (by rw [e1]; rfl)).trans e3,e4⟩⟩
section
variable {w0 V V':World} {x:IFr} {q lo hi lg bc sc oc:Nat} {bp sp op:Option Addr} {gs:List Nat} {B:Nat→Value}
end
set_option maxHeartbeats 400000
theorem Zot (p:Option Addr)(n:Nat)(a k:Int)(w:World)(hn:n≤65536)(hw:Cb k=true)(ha0:0≤a)(hak:a+k≤n):Calls Tryz.prog 138 #[.slice p n n,.int .i64 a,.int .i64 k] w fun e w'=>e=.returned .nilIface∧w'=w:=by
 have hk:=(Ry k).1 hw;have hk1:1≤k:=by omega
 have hk8:k≤8:=by omega
 clear hk;have ha:¬ a<0:=by omega
 have hs:¬ (n:Int)-k<a:=by omega
 go_enter Tryz.func138,Tryz.ntmps138
 go_wp2_with (go_at_call 137; refine(Nv _ _).mono ?_; rintro e w' ⟨rfl,rfl⟩)
 go_ret;exact⟨rfl,rfl⟩
theorem Zry (d n:Nat)(m:Nat→Int)(a k:Nat)(w:World)(hn:n≤65536)(hk8:k≤8)(hak:a+k≤n)(hww:Cb k=true)(hc:∀ i,i<n→w.cell? ⟨d,i,none⟩=some (.int .u8 (m i)))(hm:∀ i,0≤m i∧m i<256) :
 Calls Tryz.prog 139 #[.slice (some ⟨d,0,none⟩) n n,.int .i64 a,.int .i64 k] w fun e w'=>e=.returned (.tuple #[.int .u64 (ldv m a k),.nilIface])∧w'=w:=by
 have hl:=Zot (some ⟨d,0,none⟩) n a k w hn hww (by omega) (by omega);have HL:=Zfh hl;have HM:=Zfh hm;have HC:=Zfh hc;clear hl hww hm hc;go_enter Tryz.func139,Tryz.ntmps139
 go_wp2_with (go_at_call 138; refine(Ud HL).mono ?_; rintro e w' ⟨rfl,rfl⟩)
 go_loop [9,10] (fun v i=>∃ j:Nat,j≤k∧i=.int .i64 ((j:Int)-1)∧v=.int .u64 (ldv m (a+j) (k-j))) (fun _ i=>(intOf i+1).toNat)
 case atStart=>exact⟨k,Nat.le_refl _,rfl,by simp [ldv]⟩
 case round =>
  obtain⟨j,hj,rfl,rfl⟩:=hrel;cases j with
  | zero =>
   have HE:=Zfh (show ldv m (a+0) (k-0)=ldv m a k from rfl);go_wp2;go_ret2;exact⟨rfl,rfl⟩
  | succ j =>
   have hcx:=Ud HC (a+j) (by omega);have hmx:=Ud HM (a+j);have hb:=Zcy (Ud HM) (k-(j+1)) (a+(j+1));have hp:=Zmi (k-(j+1)) (by omega);have hb2:ldv m (a+(j+1)) (k-(j+1))<72057594037927936:=by omega
   clear hp;obtain⟨hb0,-⟩:=hb;have HO:=Zfh (or8 _ _ hb0 hb2 hmx.1 hmx.2);go_wp2;go_round
   case rel =>
    refine⟨j,by omega,rfl,?_⟩;rw [Ud HO,show k-j=(k-(j+1))+1 by omega];rfl
   case measure=>simp [intOf]
theorem Zou (d n:Nat)(m:Nat→Int)(a k:Nat)(v:Int)(w:World)(hn:n≤65536)(hk8:k≤8)(hak:a+k≤n)(hww:Cb k=true)(hc:∀ i,i<n→w.cell? ⟨d,i,none⟩=some (.int .u8 (m i)))(hf:∀ i,i<n→w.frozen? ⟨d,i,none⟩=false) :
 Calls Tryz.prog 130 #[.slice (some ⟨d,0,none⟩) n n,.int .i64 a,.int .i64 k,.int .u64 v] w fun e w'=>e=.returned .nilIface∧w'=stw w d a v k:=by
 have hl:=Zot (some ⟨d,0,none⟩) n a k w hn hww (by omega) (by omega);have HL:=Zfh hl;have HF:=Zfh hf;have HC:=Zfh hc;clear hl hww hf hc;go_enter Tryz.func130,Tryz.ntmps130
 go_wp2_with (go_at_call 138; refine(Ud HL).mono ?_; rintro e w' ⟨rfl,hw'⟩; subst hw')
 go_loopw [19] (fun i wr=>∃ j:Nat,j≤k∧i=.int .i64 j∧wr=stw w' d a v j) (fun i _=>k-(intOf i).toNat)
 case atStart=>exact⟨0,by omega,rfl,rfl⟩
 case round =>
  obtain⟨j,hj,rfl,rfl⟩:=hrel;by_cases hlt:j<k
  ·
   have hcx:=Zfj w' d a v n m (Ud HC) j (by omega) (a+j) (by omega);have hfx:=(Iz w' d a v ⟨d,a+j,none⟩ j).trans (Ud HF (a+j) (by omega));go_wp2;go_roundw
   case rel=>exact⟨j+1,hlt,by go_num,by rw [Zsb]; rfl⟩
   case measure=>simp [intOf]; omega
  ·
   obtain rfl:j=k:=by omega
   go_wp2;go_ret;exact⟨rfl,rfl⟩
theorem Zrz (bs:List Int)(g a k:Nat)(w:World)(hr:w.heap[g]?=some (.cells (yC bs).toArray 5 (0,0)))(hb:∀ n ∈ bs,0≤n∧n<256)(hk:Cb k=true)(hak:a+k≤bs.length)(hn:bs.length≤65536) :
 Calls Tryz.prog 139 #[.slice (some ⟨g,0,none⟩) bs.length bs.length,.int .i64 a,.int .i64 k] w fun e w'=>e=.returned (.tuple #[.int .u64 (ldB bs a k),.nilIface])∧w'=w :=
 Zry g bs.length (fun i=>bs.getD i 0) a k w hn (by have:=(Ry k).1 hk; omega) hak hk (fun i hi=>(Zd hr i).trans (Sy hi)) (Rw hb)
theorem Zov (bs:List Int)(g a k:Nat)(v:Int)(w:World)(hr:w.heap[g]?=some (.cells (yC bs).toArray 5 (0,0)))(hk:Cb k=true)(hak:a+k≤bs.length)(hn:bs.length≤65536) :
 Calls Tryz.prog 130 #[.slice (some ⟨g,0,none⟩) bs.length bs.length,.int .i64 a,.int .i64 k,.int .u64 v] w fun e w'=>e=.returned .nilIface∧w'=stw w g a v k :=
 Zou g bs.length (fun i=>bs.getD i 0) a k v w hn (by have:=(Ry k).1 hk; omega) hak hk (fun i hi=>(Zd hr i).trans (Sy hi)) (fun i _=>frozen_of_row _ _ i _ _ hr)
theorem Tryz.infoU64:(Tryz.prog.info? 62).map (fun i=>(i.zero,i.size,i.bytes))=some (some (.int .u64 0),1,8):=by kernel_rfl
theorem Rx (l:List Int)(n:Int):uC (l++[n])=uC l++[.int .u64 n]:=by simp [uC]
theorem Ze {w:World}{B e size n:Nat}{v:Value}{xs:List Value}(h:w.ownsRow B e size v n xs):∃ p c,v=.slice p n c:=by
 rcases h.2 with⟨e,e0⟩ | ⟨g,cap,cur,e,-⟩
 ·
  exact⟨none,0,by rw [e0]; exact e⟩
 ·
  exact⟨_,_,e⟩
def LiU (w:World)(v:Value)(ws:List Int):Prop:=∃ p cap,v=.slice p ws.length cap∧ws.length≤cap∧ws.length<4611686018427387904∧(0<ws.length→∃ sb so,p=some ⟨sb,so,none⟩∧∀ i,i<ws.length→w.cell? ⟨sb,so+i,none⟩=some (.int .u64 (ws.getD i 0)))
structure Mc (g:Nat)(w w':World):Prop where
 os:w'.os=w.os
 tape:w'.tape=w.tape
 output:w'.output=w.output
 size:w'.heap.size=w.heap.size
 oth:∀ q:Nat,q≠g→w'.heap[q]?=w.heap[q]?
set_option maxHeartbeats 1000000
set_option maxRecDepth 100000
theorem Zcg (ns:List Int)(x:Int)(v:Value)(w:World)(h:Rs w v ns)(hn:ns.length<9223372036854775808):Calls Tryz.prog 32 #[v,.int .i64 x] w fun e w'=>e=.returned (.bool (decide (x ∈ ns)))∧w'=w:=by
 by_cases hne:ns=[]
 ·
  obtain⟨p,cap,rfl⟩:∃ p cap,v=.slice p 0 cap:=by
   rcases h with⟨_,p,cap,e⟩ | ⟨sb,so,cap,e,_⟩
   ·
    exact⟨p,cap,e⟩
   ·
    rw [hne] at e; exact⟨_,_,e⟩
  subst hne;clear h;go_enter Tryz.func32,Tryz.ntmps32
  go_wp2_with fail
  refine wp_loop_rounds 1 ?_;rw [rounds_succ];go_wp2;go_ret;exact⟨by simp,rfl⟩
 ·
  obtain⟨sb,so,cap,rfl,hc⟩:=h.get hne;have HC:=Y hc;clear h hc;go_enter Tryz.func32,Tryz.ntmps32
  go_wp2_with fail
  go_loopw [9] (fun j w'=>∃ k:Nat,j=.int .i64 k∧k≤ns.length∧w'=w∧¬ x ∈ ns.take k) (fun j _=>ns.length-(intOf j).toNat)
  case atStart=>exact⟨0,rfl,by omega,rfl,by simp⟩
  case round =>
   obtain⟨k,rfl,hk,rfl,hno⟩:=hrel;have HN:=Y hno;clear hno;by_cases hlt:k<ns.length
   ·
    have c:=O HC k hlt;by_cases hx:ns.getD k 0=x
    ·
     rw [hx] at c;have hm:=Y (Ks hlt hx);clear hx;go_wp2;go_ret;exact⟨by simp [O hm],rfl⟩
    ·
     have HT:=Y (Rz hlt (O HN) hx);generalize hy:ns.getD k 0=y at c hx;have z:(y==x)=false:=by simpa using hx
     clear hy;go_wp2;go_roundw
     case rel=>exact⟨k+1,by go_num,by omega,trivial,O HT⟩
     case measure=>simp [intOf]; omega
   ·
    obtain rfl:k=ns.length:=by omega
    have HT:=Y (show ¬ x ∈ ns by have:=O HN; rwa [List.take_length] at this);go_wp2;go_ret;exact⟨by simp [O HT],rfl⟩
set_option maxHeartbeats 8000000
set_option maxRecDepth 100000
theorem Zxl (T:Zm)(w0 u:World)(b0 Ta N u1:Nat)(c AT PP:Int)(av:Value)(bref:Bool)(Q0:Exit→Act→World→Prop)(s0 s1 s3 s4 s5 s8 s9 s10 s15 s16 s17 s18 s19 s20 s21 s22 s23 s24 s25 s26 s27 s28 s29 s30 s31 s32 s33 s34 s35 s36 s37 s38 s39 s40 s41 s42 s43 s44 s45 s46 s47 s48 s49 s50 s51 s52 s53 s54 s55 s56 s57 s58 s59 s60 s61 s62 s63 s64 s65 s66 s67 s68 s69 s70 s71 s72 s73 s74 s75 s76 s77 s78 s79 s80 s81 s82 s83 s84 s85 s86 s87 s88 s89 s90 s91 s92 s93 s94 s95 s96 s97 s98 s99 s100 s101 s102 s103 s104 s105 s106 s107 s108 s109 s110 s111 s112 s113 s114 s115 s116 s117 s118 s119 s120 s121 s122 s123 s124 s125 s126 s127 s128 s129 s130 s131 s132 s133 s134 s135 s136 s137 s138 s139 s140 s141 s142 s143 s144 s145 s146:Value)(hb:b0+3<Ta)(hN:N≤8)(hu:u1≤1000)(_hc0:0≤c)(_hc1:c≤100000)(hL:T.ag.length≤1000)
 (hR0:w0.heap[b0]?=some (.cells T.box 25 (0,0))) (hT:Lj w0 b0 (.slice T.pa T.ag.length T.ca) T.ag) (hJ:Id w0 b0 Ta av (.slice none 0 0) bref AT PP [] u) (hrg:u1+N≤T.ag.length)
 (hexit:∀(w':World) (pv:Value),Id w0 b0 Ta av pv bref AT PP ((List.range N).map (Rc T.ag true u1 c)) w'→∀(u14 u67 u68 u69 u70 u71 u72 u73 u74 u75 u76 u77 u78 u79 u80 u81 u82 u83 u84 u85 u86 u87 u88 u89 u90 u91 u92 u93 u94:Value),Q0 (.exit 2) ⟨List.toArray (s0 :: s1 :: .pointer (some ⟨b0,0,none⟩) :: s3 :: s4 :: s5 :: .int .i64 u1 :: .int .i64 c :: s8 :: s9 :: s10 :: .int .i64 N :: .pointer (some ⟨Ta,0,none⟩) :: .bool true :: u14 :: s15 :: s16 :: s17 :: s18 :: s19 :: s20 :: s21 :: s22 :: s23 :: s24 :: s25 :: s26 :: s27 :: s28 :: s29 :: s30 :: s31 :: s32 :: s33 :: s34 :: s35 :: s36 :: s37 :: s38 :: s39 :: s40 :: s41 :: s42 :: s43 :: s44 :: s45 :: s46 :: s47 :: s48 :: s49 :: s50 :: s51 :: s52 :: s53 :: s54 :: s55 :: s56 :: s57 :: s58 :: s59 :: s60 :: s61 :: s62 :: s63 :: s64 :: s65 :: s66 :: u67 :: u68 :: u69 :: u70 :: u71 :: u72 :: u73 :: u74 :: u75 :: u76 :: u77 :: u78 :: u79 :: u80 :: u81 :: u82 :: u83 :: u84 :: u85 :: u86 :: u87 :: u88 :: u89 :: u90 :: u91 :: u92 :: u93 :: u94 :: s95 :: s96 :: s97 :: s98 :: s99 :: s100 :: s101 :: s102 :: s103 :: s104 :: s105 :: s106 :: s107 :: s108 :: s109 :: s110 :: s111 :: s112 :: s113 :: s114 :: s115 :: s116 :: s117 :: s118 :: s119 :: s120 :: s121 :: s122 :: s123 :: s124 :: s125 :: s126 :: s127 :: s128 :: s129 :: s130 :: s131 :: s132 :: s133 :: s134 :: s135 :: s136 :: s137 :: s138 :: s139 :: s140 :: s141 :: s142 :: s143 :: s144 :: s145 :: s146 :: []),[]⟩ w') :
 Code.wp Tryz.prog (Cg Tryz.f24 1) Q0 ⟨List.toArray (s0 :: s1 :: .pointer (some ⟨b0,0,none⟩) :: s3 :: s4 :: s5 :: .int .i64 u1 :: .int .i64 c :: s8 :: s9 :: s10 :: .int .i64 N :: .pointer (some ⟨Ta,0,none⟩) :: .bool true :: .int .i64 0 :: s15 :: s16 :: s17 :: s18 :: s19 :: s20 :: s21 :: s22 :: s23 :: s24 :: s25 :: s26 :: s27 :: s28 :: s29 :: s30 :: s31 :: s32 :: s33 :: s34 :: s35 :: s36 :: s37 :: s38 :: s39 :: s40 :: s41 :: s42 :: s43 :: s44 :: s45 :: s46 :: s47 :: s48 :: s49 :: s50 :: s51 :: s52 :: s53 :: s54 :: s55 :: s56 :: s57 :: s58 :: s59 :: s60 :: s61 :: s62 :: s63 :: s64 :: s65 :: s66 :: s67 :: s68 :: s69 :: s70 :: s71 :: s72 :: s73 :: s74 :: s75 :: s76 :: s77 :: s78 :: s79 :: s80 :: s81 :: s82 :: s83 :: s84 :: s85 :: s86 :: s87 :: s88 :: s89 :: s90 :: s91 :: s92 :: s93 :: s94 :: s95 :: s96 :: s97 :: s98 :: s99 :: s100 :: s101 :: s102 :: s103 :: s104 :: s105 :: s106 :: s107 :: s108 :: s109 :: s110 :: s111 :: s112 :: s113 :: s114 :: s115 :: s116 :: s117 :: s118 :: s119 :: s120 :: s121 :: s122 :: s123 :: s124 :: s125 :: s126 :: s127 :: s128 :: s129 :: s130 :: s131 :: s132 :: s133 :: s134 :: s135 :: s136 :: s137 :: s138 :: s139 :: s140 :: s141 :: s142 :: s143 :: s144 :: s145 :: s146 :: []),[]⟩ u:=by
 obtain⟨tp,htp,hq0,hq1,hq2⟩:=Yr Tryz.infoPl;have HJ:=Y hJ;have HT:=Y hT;have HR0:=Y hR0;have HEX:=Y hexit;clear hJ hT hR0 hexit;refine Ie (id:=2) ?_;conv=>arg 2; whnf
 go_loopw [7,14] (fun sa si w'=>∃(i:Nat) (pv:Value),sa=.int .i64 c∧si=.int .i64 i∧i≤N∧Id w0 b0 Ta av pv bref AT PP ((List.range i).map (Rc T.ag true u1 c)) w') (fun _ si _=>N-(intOf si).toNat)
 case atStart=>exact⟨0,_,rfl,rfl,by omega,O HJ⟩
 case round =>
  obtain⟨i,pv,rfl,rfl,hi,hJ⟩:=hrel;by_cases hi2:i<N
  ·
   clear HEX HJ;obtain⟨qp,qc,hpv⟩:=Ov hJ.pl;rw [Gl] at hpv;subst hpv;obtain⟨sa,oa,hpa,hsa,hca⟩:=(O HT).at (k:=u1+i) (by omega);have ca:=hca (u1+i) (by omega);have cw2:wr.cell? ⟨sa,oa+(u1+i),none⟩=some (.int .i64 (T.ag.getD (u1+i) 0)):=(World.cell?_of_block (show wr.heap[sa]?=w0.heap[sa]? from hJ.oth sa (by omega) (by omega))).trans ca;have hrT:=(hJ.oth b0 (by omega) (by omega)).trans (O HR0);have t5:=cR hrT 5;rw [hpa] at t5;have hwrp:IntKind.i64.wrap ((u1:Int)+(i:Int))=((u1+i:Nat):Int):=by rw [IntKind.wrap_of_boundsK (by omega) (by omega)]; omega
   have hid0:0≤(u1:Int)+(i:Int):=by omega
   have hid1:(u1:Int)+(i:Int)<(T.ag.length:Int):=by omega
   have hid2:((u1:Int)+(i:Int)).toNat=u1+i:=by omega
   have a0:=(cR hJ.arow 0);have a0x:=fun X:Obj=>(Zcf hJ.arow 0 X).trans rfl;have HJ2:=Y hJ;have HR7:=Y (fun w7 (hgr:(wr.alloc (.cells #[.int .i64 (T.ag.getD (u1+i) 0),.int .i64 0] 91 (0,0))).grownBy w7 (Value.slice qp i qc).ownBlock)=>(hgr.block Ta (by have:=hJ.size; simp; omega) (by intro e; have:=(World.ownsRow.lt hJ.pl Ta e.symm).1; omega)).trans (((Zs wr (.cells #[.int .i64 (T.ag.getD (u1+i) 0),.int .i64 0] 91 (0,0))).2.1.block Ta hJ.size).trans hJ.arow));have HPX:=Y (Zxj T.ag u1 c i);have HOWP:=Y (show wr.ownsRow (Ta+1) 91 2 (.slice qp i qc) i (plC ((List.range i).map (Rc T.ag true u1 c))) by have h:=hJ.pl; unfold Gt at h; rw [Gl] at h; exact h);have hwz:=hJ.size;clear hJ hca ca hrT hpa;generalize T.ag.getD (u1+i) 0=x at cw2 HPX HR7;go_wp2_with fail
   go_region_law (first | (refine Zci rfl (.tmp 74) (.tmp 83) 74 rfl (Ta+1) 91 tp _ 2 16 Tryz.underlying74 htp hq0 hq1 hq2 rfl (by decide) (.slice qp i qc) i (plC ((List.range i).map (Rc T.ag true u1 c))) (by simp [Act.eval]) (World.ownsRow.alloc (w:=wr.drew) (O HOWP) _) ⟨wr.heap.size,0,none⟩ 1 1 [.int .i64 x,.int .i64 0] (by simp [Act.eval]) rfl (by intro j u hj; match j,hj with | 0,hj=>(simp at hj; subst hj; simp [Addr.add]) | 1,hj=>(simp at hj; subst hj; simp [Addr.add])) (by intro u hu; simp at hu; rcases hu with rfl | rfl <;> rfl) (by unfold maxLen; omega) (by omega) (by simp; omega) ?_; intro v7 w7 hown7 hgr7; have hJ7:=(O HJ2).next (x:=x) (y:=0) (v7:=v7) (w7:=w7) hb (Uv hgr7) (by rw [Gl]; exact hown7); have hr7:=O HR7 w7 (Uv hgr7); have j0:=(cR hr7 0); have g0:=frozen_of_row _ _ 0 _ _ hr7; obtain⟨gg7,cc7,rfl⟩:=Ll hown7; have HJ7:=Y hJ7; clear hown7 hgr7 hr7 hJ7))
   all_goals (
    have HRL:=Y (show Id w0 b0 Ta av (.slice (some ⟨gg7,0,none⟩) (i+1) cc7) bref AT PP ((List.range (i+1)).map (Rc T.ag true u1 c)) _ by rw [Jd,O HPX]; exact O HJ7);clear HR7 a0 a0x t5 cw2 HJ7 HPX HJ2 HOWP hwrp hid0 hid1 hid2;go_wp2;go_roundw
    case rel=>exact⟨i+1,_,rfl,by go_num,by omega,O HRL⟩
    case measure=>simp [intOf]; omega)
  ·
   have hiN:i=N:=by omega
   subst hiN;have HX:=Y (O HEX wr _ hJ);clear hJ HJ;go_wp2_with fail
   exact⟨rfl,O HX _ _ _ _ _ _ _ _ _ _ _ _ _ _ _ _ _ _ _ _ _ _ _ _ _ _ _ _ _⟩
theorem Zxm (T:Zm)(w0 u:World)(b0 Ta N u1:Nat)(c AT PP:Int)(av:Value)(bref:Bool)(Q0:Exit→Act→World→Prop)(s0 s1 s3 s4 s5 s8 s9 s10 s15 s16 s17 s18 s19 s20 s21 s22 s23 s24 s25 s26 s27 s28 s29 s30 s31 s32 s33 s34 s35 s36 s37 s38 s39 s40 s41 s42 s43 s44 s45 s46 s47 s48 s49 s50 s51 s52 s53 s54 s55 s56 s57 s58 s59 s60 s61 s62 s63 s64 s65 s66 s67 s68 s69 s70 s71 s72 s73 s74 s75 s76 s77 s78 s79 s80 s81 s82 s83 s84 s85 s86 s87 s88 s89 s90 s91 s92 s93 s94 s95 s96 s97 s98 s99 s100 s101 s102 s103 s104 s105 s106 s107 s108 s109 s110 s111 s112 s113 s114 s115 s116 s117 s118 s119 s120 s121 s122 s123 s124 s125 s126 s127 s128 s129 s130 s131 s132 s133 s134 s135 s136 s137 s138 s139 s140 s141 s142 s143 s144 s145 s146:Value)(hb:b0+3<Ta)(hN:N≤8)(_hu:u1≤1000)(hc0:0≤c)(hc1:c≤100000)(_hL:T.ag.length≤1000)
 (hR0:w0.heap[b0]?=some (.cells T.box 25 (0,0))) (hT:Lj w0 b0 (.slice T.pa T.ag.length T.ca) T.ag) (hJ:Id w0 b0 Ta av (.slice none 0 0) bref AT PP [] u)
 (hexit:∀(w':World) (pv:Value),Id w0 b0 Ta av pv bref AT PP ((List.range N).map (Rc T.ag false u1 c)) w'→∀(u14 u67 u68 u69 u70 u71 u72 u73 u74 u75 u76 u77 u78 u79 u80 u81 u82 u83 u84 u85 u86 u87 u88 u89 u90 u91 u92 u93 u94:Value),Q0 (.exit 2) ⟨List.toArray (s0 :: s1 :: .pointer (some ⟨b0,0,none⟩) :: s3 :: s4 :: s5 :: .int .i64 u1 :: .int .i64 (c+8*(N:Int)) :: s8 :: s9 :: s10 :: .int .i64 N :: .pointer (some ⟨Ta,0,none⟩) :: .bool false :: u14 :: s15 :: s16 :: s17 :: s18 :: s19 :: s20 :: s21 :: s22 :: s23 :: s24 :: s25 :: s26 :: s27 :: s28 :: s29 :: s30 :: s31 :: s32 :: s33 :: s34 :: s35 :: s36 :: s37 :: s38 :: s39 :: s40 :: s41 :: s42 :: s43 :: s44 :: s45 :: s46 :: s47 :: s48 :: s49 :: s50 :: s51 :: s52 :: s53 :: s54 :: s55 :: s56 :: s57 :: s58 :: s59 :: s60 :: s61 :: s62 :: s63 :: s64 :: s65 :: s66 :: u67 :: u68 :: u69 :: u70 :: u71 :: u72 :: u73 :: u74 :: u75 :: u76 :: u77 :: u78 :: u79 :: u80 :: u81 :: u82 :: u83 :: u84 :: u85 :: u86 :: u87 :: u88 :: u89 :: u90 :: u91 :: u92 :: u93 :: u94 :: s95 :: s96 :: s97 :: s98 :: s99 :: s100 :: s101 :: s102 :: s103 :: s104 :: s105 :: s106 :: s107 :: s108 :: s109 :: s110 :: s111 :: s112 :: s113 :: s114 :: s115 :: s116 :: s117 :: s118 :: s119 :: s120 :: s121 :: s122 :: s123 :: s124 :: s125 :: s126 :: s127 :: s128 :: s129 :: s130 :: s131 :: s132 :: s133 :: s134 :: s135 :: s136 :: s137 :: s138 :: s139 :: s140 :: s141 :: s142 :: s143 :: s144 :: s145 :: s146 :: []),[]⟩ w') :
 Code.wp Tryz.prog (Cg Tryz.f24 1) Q0 ⟨List.toArray (s0 :: s1 :: .pointer (some ⟨b0,0,none⟩) :: s3 :: s4 :: s5 :: .int .i64 u1 :: .int .i64 c :: s8 :: s9 :: s10 :: .int .i64 N :: .pointer (some ⟨Ta,0,none⟩) :: .bool false :: .int .i64 0 :: s15 :: s16 :: s17 :: s18 :: s19 :: s20 :: s21 :: s22 :: s23 :: s24 :: s25 :: s26 :: s27 :: s28 :: s29 :: s30 :: s31 :: s32 :: s33 :: s34 :: s35 :: s36 :: s37 :: s38 :: s39 :: s40 :: s41 :: s42 :: s43 :: s44 :: s45 :: s46 :: s47 :: s48 :: s49 :: s50 :: s51 :: s52 :: s53 :: s54 :: s55 :: s56 :: s57 :: s58 :: s59 :: s60 :: s61 :: s62 :: s63 :: s64 :: s65 :: s66 :: s67 :: s68 :: s69 :: s70 :: s71 :: s72 :: s73 :: s74 :: s75 :: s76 :: s77 :: s78 :: s79 :: s80 :: s81 :: s82 :: s83 :: s84 :: s85 :: s86 :: s87 :: s88 :: s89 :: s90 :: s91 :: s92 :: s93 :: s94 :: s95 :: s96 :: s97 :: s98 :: s99 :: s100 :: s101 :: s102 :: s103 :: s104 :: s105 :: s106 :: s107 :: s108 :: s109 :: s110 :: s111 :: s112 :: s113 :: s114 :: s115 :: s116 :: s117 :: s118 :: s119 :: s120 :: s121 :: s122 :: s123 :: s124 :: s125 :: s126 :: s127 :: s128 :: s129 :: s130 :: s131 :: s132 :: s133 :: s134 :: s135 :: s136 :: s137 :: s138 :: s139 :: s140 :: s141 :: s142 :: s143 :: s144 :: s145 :: s146 :: []),[]⟩ u:=by
 obtain⟨tp,htp,hq0,hq1,hq2⟩:=Yr Tryz.infoPl;have HJ:=Y hJ;have HT:=Y hT;have HR0:=Y hR0;have HEX:=Y hexit;clear hJ hT hR0 hexit;refine Ie (id:=2) ?_;conv=>arg 2; whnf
 go_loopw [7,14] (fun sa si w'=>∃(i:Nat) (pv:Value),sa=.int .i64 (c+8*(i:Int))∧si=.int .i64 i∧i≤N∧Id w0 b0 Ta av pv bref AT PP ((List.range i).map (Rc T.ag false u1 c)) w') (fun _ si _=>N-(intOf si).toNat)
 case atStart=>exact⟨0,_,by simp,rfl,by omega,O HJ⟩
 case round =>
  obtain⟨i,pv,rfl,rfl,hi,hJ⟩:=hrel;by_cases hi2:i<N
  ·
   clear HEX HJ;obtain⟨qp,qc,hpv⟩:=Ov hJ.pl;rw [Gl] at hpv;subst hpv;have a0:=(cR hJ.arow 0);have HJ2:=Y hJ;have HPX:=Y (Zxk T.ag u1 c i);have HOWP:=Y (show wr.ownsRow (Ta+1) 91 2 (.slice qp i qc) i (plC ((List.range i).map (Rc T.ag false u1 c))) by have h:=hJ.pl; unfold Gt at h; rw [Gl] at h; exact h);have hwz:=hJ.size;obtain⟨y,hy⟩:∃ y,y=c+8*(i:Int):=⟨_,rfl⟩;have hy0:0≤y:=by omega
   have hy1:y≤100064:=by omega
   have HY:=Y (show c+8*((i+1:Nat):Int)=y+8 by omega);rw [← hy] at HPX ⊢;have HR7:=Y (fun w7 (hgr:(wr.alloc (.cells #[.int .i64 (-1),.int .i64 y] 91 (0,0))).grownBy w7 (Value.slice qp i qc).ownBlock)=>(hgr.block Ta (by have:=hJ.size; simp; omega) (by intro e; have:=(World.ownsRow.lt hJ.pl Ta e.symm).1; omega)).trans (((Zs wr (.cells #[.int .i64 (-1),.int .i64 y] 91 (0,0))).2.1.block Ta hJ.size).trans hJ.arow));clear hJ hy;go_wp2_with (at_builtin; refine wpList_append_own _ rfl _ _ 74 rfl (Ta+1) 91 tp _ 2 16 Tryz.underlying74 htp hq0 hq1 hq2 rfl (by decide) _ _ _ rfl (World.ownsRow.alloc (O HOWP) _) ⟨wr.heap.size,0,none⟩ 1 1 [.int .i64 (-1),.int .i64 y] rfl rfl (by intro j u hj; match j,hj with | 0,hj=>(simp at hj; subst hj; simp [Addr.add]) | 1,hj=>(simp at hj; subst hj; simp [Addr.add])) (by intro u hu; simp at hu; rcases hu with rfl | rfl <;> rfl) ?c3 ?c4 ?c5 ?_)
   case c3=>unfold maxLen; omega
   case c4=>omega
   case c5=>first | omega | (simp; omega)
   intro v7 w7 hown7 hgr7 _;have hJ7:=(O HJ2).next (x:=-1) (y:=y) (v7:=v7) (w7:=w7) hb hgr7 (by rw [Gl]; exact hown7);have hr7:=O HR7 w7 hgr7;have j0:=(cR hr7 0);have g0:=frozen_of_row _ _ 0 _ _ hr7;obtain⟨gg7,cc7,rfl⟩:=Ll hown7;have HRL:=Y (show Id w0 b0 Ta av (.slice (some ⟨gg7,0,none⟩) (i+1) cc7) bref AT PP ((List.range (i+1)).map (Rc T.ag false u1 c)) _ by rw [Jd,O HPX]; exact hJ7);clear hown7 hgr7 hr7 hJ7 HR7 a0 HPX HJ2 HOWP;go_wp2;go_roundw
   case rel=>exact⟨i+1,_,by rw [O HY],by go_num,by omega,O HRL⟩
   case measure=>simp [intOf]; omega
  ·
   have hiN:i=N:=by omega
   subst hiN;have HX:=Y (O HEX wr _ hJ);clear hJ HJ;go_wp2_with fail
   exact⟨rfl,O HX _ _ _ _ _ _ _ _ _ _ _ _ _ _ _ _ _ _ _ _ _ _ _ _ _ _ _ _ _⟩
theorem Zzq (T:Zm)(w0 u:World)(b0 Ta N u1:Nat)(c AT PP:Int)(av:Value)(bref:Bool)(Q0:Exit→Act→World→Prop)(rg:Bool)(s0 s1 s3 s4 s5 s8 s9 s10 s15 s16 s17 s18 s19 s20 s21 s22 s23 s24 s25 s26 s27 s28 s29 s30 s31 s32 s33 s34 s35 s36 s37 s38 s39 s40 s41 s42 s43 s44 s45 s46 s47 s48 s49 s50 s51 s52 s53 s54 s55 s56 s57 s58 s59 s60 s61 s62 s63 s64 s65 s66 s67 s68 s69 s70 s71 s72 s73 s74 s75 s76 s77 s78 s79 s80 s81 s82 s83 s84 s85 s86 s87 s88 s89 s90 s91 s92 s93 s94 s95 s96 s97 s98 s99 s100 s101 s102 s103 s104 s105 s106 s107 s108 s109 s110 s111 s112 s113 s114 s115 s116 s117 s118 s119 s120 s121 s122 s123 s124 s125 s126 s127 s128 s129 s130 s131 s132 s133 s134 s135 s136 s137 s138 s139 s140 s141 s142 s143 s144 s145 s146:Value)(hb:b0+3<Ta)(hN:N≤8)(hu:u1≤1000)(hc0:0≤c)(hc1:c≤100000)(hL:T.ag.length≤1000)
 (hR0:w0.heap[b0]?=some (.cells T.box 25 (0,0))) (hT:Lj w0 b0 (.slice T.pa T.ag.length T.ca) T.ag) (hJ:Id w0 b0 Ta av (.slice none 0 0) bref AT PP [] u) (hrg:rg=true→u1+N≤T.ag.length)
 (hexit:∀(w':World) (pv:Value),Id w0 b0 Ta av pv bref AT PP ((List.range N).map (Rc T.ag rg u1 c)) w'→∀(u14 u67 u68 u69 u70 u71 u72 u73 u74 u75 u76 u77 u78 u79 u80 u81 u82 u83 u84 u85 u86 u87 u88 u89 u90 u91 u92 u93 u94:Value),Q0 (.exit 2) ⟨List.toArray (s0 :: s1 :: .pointer (some ⟨b0,0,none⟩) :: s3 :: s4 :: s5 :: .int .i64 u1 :: .int .i64 (if rg=true then c else c+8*(N:Int)) :: s8 :: s9 :: s10 :: .int .i64 N :: .pointer (some ⟨Ta,0,none⟩) :: .bool rg :: u14 :: s15 :: s16 :: s17 :: s18 :: s19 :: s20 :: s21 :: s22 :: s23 :: s24 :: s25 :: s26 :: s27 :: s28 :: s29 :: s30 :: s31 :: s32 :: s33 :: s34 :: s35 :: s36 :: s37 :: s38 :: s39 :: s40 :: s41 :: s42 :: s43 :: s44 :: s45 :: s46 :: s47 :: s48 :: s49 :: s50 :: s51 :: s52 :: s53 :: s54 :: s55 :: s56 :: s57 :: s58 :: s59 :: s60 :: s61 :: s62 :: s63 :: s64 :: s65 :: s66 :: u67 :: u68 :: u69 :: u70 :: u71 :: u72 :: u73 :: u74 :: u75 :: u76 :: u77 :: u78 :: u79 :: u80 :: u81 :: u82 :: u83 :: u84 :: u85 :: u86 :: u87 :: u88 :: u89 :: u90 :: u91 :: u92 :: u93 :: u94 :: s95 :: s96 :: s97 :: s98 :: s99 :: s100 :: s101 :: s102 :: s103 :: s104 :: s105 :: s106 :: s107 :: s108 :: s109 :: s110 :: s111 :: s112 :: s113 :: s114 :: s115 :: s116 :: s117 :: s118 :: s119 :: s120 :: s121 :: s122 :: s123 :: s124 :: s125 :: s126 :: s127 :: s128 :: s129 :: s130 :: s131 :: s132 :: s133 :: s134 :: s135 :: s136 :: s137 :: s138 :: s139 :: s140 :: s141 :: s142 :: s143 :: s144 :: s145 :: s146 :: []),[]⟩ w') :
 Code.wp Tryz.prog (Cg Tryz.f24 1) Q0 ⟨List.toArray (s0 :: s1 :: .pointer (some ⟨b0,0,none⟩) :: s3 :: s4 :: s5 :: .int .i64 u1 :: .int .i64 c :: s8 :: s9 :: s10 :: .int .i64 N :: .pointer (some ⟨Ta,0,none⟩) :: .bool rg :: .int .i64 0 :: s15 :: s16 :: s17 :: s18 :: s19 :: s20 :: s21 :: s22 :: s23 :: s24 :: s25 :: s26 :: s27 :: s28 :: s29 :: s30 :: s31 :: s32 :: s33 :: s34 :: s35 :: s36 :: s37 :: s38 :: s39 :: s40 :: s41 :: s42 :: s43 :: s44 :: s45 :: s46 :: s47 :: s48 :: s49 :: s50 :: s51 :: s52 :: s53 :: s54 :: s55 :: s56 :: s57 :: s58 :: s59 :: s60 :: s61 :: s62 :: s63 :: s64 :: s65 :: s66 :: s67 :: s68 :: s69 :: s70 :: s71 :: s72 :: s73 :: s74 :: s75 :: s76 :: s77 :: s78 :: s79 :: s80 :: s81 :: s82 :: s83 :: s84 :: s85 :: s86 :: s87 :: s88 :: s89 :: s90 :: s91 :: s92 :: s93 :: s94 :: s95 :: s96 :: s97 :: s98 :: s99 :: s100 :: s101 :: s102 :: s103 :: s104 :: s105 :: s106 :: s107 :: s108 :: s109 :: s110 :: s111 :: s112 :: s113 :: s114 :: s115 :: s116 :: s117 :: s118 :: s119 :: s120 :: s121 :: s122 :: s123 :: s124 :: s125 :: s126 :: s127 :: s128 :: s129 :: s130 :: s131 :: s132 :: s133 :: s134 :: s135 :: s136 :: s137 :: s138 :: s139 :: s140 :: s141 :: s142 :: s143 :: s144 :: s145 :: s146 :: []),[]⟩ u:=by
 cases rg with
 | true=>exact Zxl T w0 u b0 Ta N u1 c AT PP av bref Q0 s0 s1 s3 s4 s5 s8 s9 s10 s15 s16 s17 s18 s19 s20 s21 s22 s23 s24 s25 s26 s27 s28 s29 s30 s31 s32 s33 s34 s35 s36 s37 s38 s39 s40 s41 s42 s43 s44 s45 s46 s47 s48 s49 s50 s51 s52 s53 s54 s55 s56 s57 s58 s59 s60 s61 s62 s63 s64 s65 s66 s67 s68 s69 s70 s71 s72 s73 s74 s75 s76 s77 s78 s79 s80 s81 s82 s83 s84 s85 s86 s87 s88 s89 s90 s91 s92 s93 s94 s95 s96 s97 s98 s99 s100 s101 s102 s103 s104 s105 s106 s107 s108 s109 s110 s111 s112 s113 s114 s115 s116 s117 s118 s119 s120 s121 s122 s123 s124 s125 s126 s127 s128 s129 s130 s131 s132 s133 s134 s135 s136 s137 s138 s139 s140 s141 s142 s143 s144 s145 s146 hb hN hu hc0 hc1 hL hR0 hT hJ (hrg rfl) hexit
 | false=>exact Zxm T w0 u b0 Ta N u1 c AT PP av bref Q0 s0 s1 s3 s4 s5 s8 s9 s10 s15 s16 s17 s18 s19 s20 s21 s22 s23 s24 s25 s26 s27 s28 s29 s30 s31 s32 s33 s34 s35 s36 s37 s38 s39 s40 s41 s42 s43 s44 s45 s46 s47 s48 s49 s50 s51 s52 s53 s54 s55 s56 s57 s58 s59 s60 s61 s62 s63 s64 s65 s66 s67 s68 s69 s70 s71 s72 s73 s74 s75 s76 s77 s78 s79 s80 s81 s82 s83 s84 s85 s86 s87 s88 s89 s90 s91 s92 s93 s94 s95 s96 s97 s98 s99 s100 s101 s102 s103 s104 s105 s106 s107 s108 s109 s110 s111 s112 s113 s114 s115 s116 s117 s118 s119 s120 s121 s122 s123 s124 s125 s126 s127 s128 s129 s130 s131 s132 s133 s134 s135 s136 s137 s138 s139 s140 s141 s142 s143 s144 s145 s146 hb hN hu hc0 hc1 hL hR0 hT hJ hexit
end Go.Proofs.YtnlcfnjeagmemaaGreatDoor
