import Derived.Test.YtnlcfnjeagmemaaGreatDoorXeMa
import Derived.Test.YtnlcfnjeagmemaaGreatDoorXeMb
import Derived.Test.YtnlcfnjeagmemaaGreatDoorXeMc
import Derived.Test.YtnlcfnjeagmemaaGreatDoorXeMd
import Derived.Test.YtnlcfnjeagmemaaGreatDoorXeMe
import Derived.Test.YtnlcfnjeagmemaaGreatDoorJ39
import Derived.Test.YtnlcfnjeagmemaaGreatDoorJ29
import Derived.Test.YtnlcfnjeagmemaaGreatDoorXeMi
import Derived.Test.YtnlcfnjeagmemaaGreatDoorXeMj
import Derived.Test.YtnlcfnjeagmemaaGreatDoorJ14
namespace Go.Proofs.YtnlcfnjeagmemaaGreatDoor
open Go.RowKit
set_option maxHeartbeats 4000000
set_option maxRecDepth 100000
theorem Zfv (T:Zm)(i:Zt):Jq T i=true↔(1≤i.op∧i.op≤21)∧∀ q ∈ [i.r,i.a,i.b].take (Xc i.op),0≤q∧q<T.r:=by
 unfold Jq;simp only [Bool.and_eq_true,decide_eq_true_eq,List.all_eq_true]
def nxM (m:Zf):Zf:={ m with at_:=m.at_+1 }
theorem Xq {T:Zm}{C:Zk}{own:Yc}{was:Nat→Int}{m:Zf}{i:Zt}(hf:Zv C m=i)(h1:1≤i.op)(h2:i.op≤21)(h:∀ q ∈ [i.r,i.a,i.b].take (Xc i.op),0≤q∧q<T.r):Xg T C own was m=Yv T C own was (nxM m) i:=by
 unfold Xg;rw [hf,if_pos ((Zfv T i).2 ⟨⟨h1,h2⟩,h⟩)];rfl
theorem Gn {T:Zm}{C:Zk}{own:Yc}{was:Nat→Int}{m:Zf}{i:Zt}(hf:Zv C m=i)(h:¬ (1≤i.op∧i.op≤21)∨¬ ∀ q ∈ [i.r,i.a,i.b].take (Xc i.op),0≤q∧q<T.r):Xg T C own was m=m.fault 1:=by
 unfold Xg;rw [hf,if_neg (fun hk=>?_)];obtain⟨k1,k2⟩:=(Zfv T i).1 hk;rcases h with h | h
 ·
  exact h k1
 ·
  exact h k2
theorem Zwa (T:Zm)(C:Zk)(m:Zf)(f:Int):(Xk T C m f).f=m.f∧(Xk T C m f).bk=m.bk∧(Xk T C m f).at_=m.at_:=by
 have fin:∀ m',Sm m m'→m'.f=m.f∧m'.bk=m.bk∧m'.at_=m.at_:=fun m' h=>⟨h.f,h.bk,h.at_⟩;unfold Xk;split
 ·
  exact fin _ (Sh T m)
 ·
  split
  ·
   generalize Ng _ _=L;have hs:=Mv T L m [];split
   ·
    rename_i m' he;rw [he] at hs;exact fin _ hs
   ·
    rename_i m' ws he;rw [he] at hs;have hs:Sm m m':=hs;have h1:=fun z=>Md T { m' with tr:=m'.tr++[(f,ws)] } z;split
    ·
     unfold Xw;generalize (Zr T _).size=z;generalize (Zr T _).res=rs;have h2:=Nk T rs { (Zz T { m' with tr:=m'.tr++[(f,ws)] } z).1 with sc:=(Zz T { m' with tr:=m'.tr++[(f,ws)] } z).1.sc.drop rs.length } (Zz T { m' with tr:=m'.tr++[(f,ws)] } z).1.sc;exact⟨h2.f.trans ((h1 z).f.trans hs.f),h2.bk.trans ((h1 z).bk.trans hs.bk),h2.at_.trans ((h1 z).at_.trans hs.at_)⟩
    ·
     exact⟨(h1 _).f.trans hs.f,(h1 _).bk.trans hs.bk,(h1 _).at_.trans hs.at_⟩
  ·
   exact fin _ (Ga m 1)
theorem Zsk (T:Zm)(C:Zk)(m:Zf)(f:Int):Yx C (Xk T C m f)=Yx C m:=by
 obtain⟨h1,h2,h3⟩:=Zwa T C m f;unfold Yx;rw [h1,h2,h3]
theorem Zpo {P:Program}{Q:Exit→Act→World→Prop}{a:Act}{w:World}(h:Q .normal a w):Code.wp P (Gd Tryz.f31 15) Q a w:=by
 conv=>arg 2; whnf
 exact wp_skip h
theorem Zwb {w0 V:World}{A B N:Nat}{G:Ji}{eb rb sb:Nat}{a:Int}{m0 m:Zf}{xb fn:Nat}{op r x y n wd f:Int}{C:Zk}{Qx:Exit→Act→World→Prop}{a1 a2:Value}{s:Nat→Value}{own:Yc}{was:Nat→Int}(hS:Jt V A B N G eb rb sb a m xb ⟨op,r,x,y,n,wd,f⟩ fn)(hz:Q0 m)(hT:TK G.T)(hk0:Ke B eb rb sb w0 V)(ha:a=Yx C m)(hm:m=nxM m0)(hf:Zv C m0=⟨op,r,x,y,n,wd,f⟩)
 (hF:EF V B eb rb sb G C) (hfl:C.funcs.length<4611686018427387904) (hfn:fn<C.funcs.length) (hmf:m.f=(fn:Int)) (rr ck:Nat) (es:Array MapEntry) (hnt:G.nt=.map (some rr)) (hmp:V.heap[rr]?=some (.map es ck)) (hpe:MpI (Lg C) es.toList 1) (hnb:0≤Lh a (Lg C) 1∧Lh a (Lg C) 1<18446744073709551616) (hnu:Lh a (Lg C) 1=Jh (m.f,m.bk,m.at_) (Zg C) 1)
 (hout:Calls Tryz.prog 50 #[.pointer (some ⟨eb,0,none⟩),.int .i64 f] V (OuP V A B G eb rb sb a (Xk G.T C m f)))
 (hrt:Mx w0 A B G eb rb sb C (Xg G.T C own was m0) Qx) (hnm:¬ (1≤op∧op≤21)→∀ s',Qx .normal (Fs (.pointer (some ⟨eb,0,none⟩)) a1 a2 (.pointer (some ⟨xb,0,none⟩)) s') V) :
 Code.wp Tryz.prog (Gd Tryz.f31 0) Qx (Fs (.pointer (some ⟨eb,0,none⟩)) a1 a2 (.pointer (some ⟨xb,0,none⟩)) s) V:=by
 have d0:=hS.cs.1;have hne:∀ k:Int,op≠k→(op==k)=false:=fun k h=>by rw [beq_eq_false_iff_ne]; exact h
 have hfa:Xg G.T C own was m0=m0.fault 1→Mx w0 A B G eb rb sb C (m.fault 1) Qx:=fun e=>by
  rw [e] at hrt;rw [hm];exact hrt.flt _
 by_cases h1:op=1
 ·
  subst h1;refine Yab d0 (by rfl) fun _=>?_;have hd:Yv G.T C own was m ⟨1,r,x,y,n,wd,f⟩=(m.setR G.T r.toNat (IntKind.u64.wrap n)).1:=by simp [Yv,Xo]
  have hok:(∀ q ∈ ([r]:List Int),0≤q∧q<G.T.r)→Mx w0 A B G eb rb sb C ((m.setR G.T r.toNat (IntKind.u64.wrap n)).1) Qx:=fun hc=>by
   have e:=Xq (T:=G.T) (own:=own) (was:=was) hf (by show(1:Int)≤1; decide) (by show(1:Int)≤21; decide) (by show ∀ q ∈ ([r]:List Int),0≤q∧q<G.T.r; exact hc);rw [e,← hm,hd] at hrt;exact hrt
  have hno:¬ (∀ q ∈ ([r]:List Int),0≤q∧q<G.T.r)→Mx w0 A B G eb rb sb C (m.fault 1) Qx:=fun hc=>hfa (Gn hf (.inr (by show ¬ ∀ q ∈ ([r]:List Int),0≤q∧q<G.T.r; exact hc)));exact Yal hS hz hT hk0 ha hok hno
 by_cases h2:op=2
 ·
  subst h2;refine Dx d0 (hne 1 (by omega)) fun _=>?_;refine Yac d0 (by rfl) fun _=>?_;have hd:Yv G.T C own was m ⟨2,r,x,y,n,wd,f⟩=(m.setR G.T r.toNat (m.rg x.toNat)).1:=by simp [Yv,Xo]
  have hok:(∀ q ∈ ([r,x]:List Int),0≤q∧q<G.T.r)→Mx w0 A B G eb rb sb C ((m.setR G.T r.toNat (m.rg x.toNat)).1) Qx:=fun hc=>by
   have e:=Xq (T:=G.T) (own:=own) (was:=was) hf (by show(1:Int)≤2; decide) (by show(2:Int)≤21; decide) (by show ∀ q ∈ ([r,x]:List Int),0≤q∧q<G.T.r; exact hc);rw [e,← hm,hd] at hrt;exact hrt
  have hno:¬ (∀ q ∈ ([r,x]:List Int),0≤q∧q<G.T.r)→Mx w0 A B G eb rb sb C (m.fault 1) Qx:=fun hc=>hfa (Gn hf (.inr (by show ¬ ∀ q ∈ ([r,x]:List Int),0≤q∧q<G.T.r; exact hc)));exact Yam hS hz hT hk0 ha hok hno
 by_cases h10:op=10
 ·
  subst h10;refine Dx d0 (hne 1 (by omega)) fun _=>?_;refine Sg d0 (hne 2 (by omega)) fun _=>?_;refine Nx d0 (by omega) (by omega) fun _=>?_;refine Yae d0 (by rfl) fun _=>?_;have hd:Yv G.T C own was m ⟨10,r,x,y,n,wd,f⟩=Jb G.T m r (Xr (m.sp G.T) n) wd:=by simp [Yv,Xo,Xr]
  have hok:(∀ q ∈ ([r]:List Int),0≤q∧q<G.T.r)→Mx w0 A B G eb rb sb C (Jb G.T m r (Xr (m.sp G.T) n) wd) Qx:=fun hc=>by
   have e:=Xq (T:=G.T) (own:=own) (was:=was) hf (by show(1:Int)≤10; decide) (by show(10:Int)≤21; decide) (by show ∀ q ∈ ([r]:List Int),0≤q∧q<G.T.r; exact hc);rw [e,← hm,hd] at hrt;exact hrt
  have hno:¬ (∀ q ∈ ([r]:List Int),0≤q∧q<G.T.r)→Mx w0 A B G eb rb sb C (m.fault 1) Qx:=fun hc=>hfa (Gn hf (.inr (by show ¬ ∀ q ∈ ([r]:List Int),0≤q∧q<G.T.r; exact hc)));exact Zzc hS hz hT hk0 ha hok hno
 by_cases h11:op=11
 ·
  subst h11;refine Dx d0 (hne 1 (by omega)) fun _=>?_;refine Sg d0 (hne 2 (by omega)) fun _=>?_;refine Nx d0 (by omega) (by omega) fun _=>?_;refine Cc d0 (hne 10 (by omega)) fun _=>?_;refine Yaf d0 (by rfl) fun _=>?_;have hd:Yv G.T C own was m ⟨11,r,x,y,n,wd,f⟩=(m.store (Xr (m.sp G.T) n) wd (m.rg r.toNat)).1:=by simp [Yv,Xo,Xr]
  have hok:(∀ q ∈ ([r]:List Int),0≤q∧q<G.T.r)→Mx w0 A B G eb rb sb C ((m.store (Xr (m.sp G.T) n) wd (m.rg r.toNat)).1) Qx:=fun hc=>by
   have e:=Xq (T:=G.T) (own:=own) (was:=was) hf (by show(1:Int)≤11; decide) (by show(11:Int)≤21; decide) (by show ∀ q ∈ ([r]:List Int),0≤q∧q<G.T.r; exact hc);rw [e,← hm,hd] at hrt;exact hrt
  have hno:¬ (∀ q ∈ ([r]:List Int),0≤q∧q<G.T.r)→Mx w0 A B G eb rb sb C (m.fault 1) Qx:=fun hc=>hfa (Gn hf (.inr (by show ¬ ∀ q ∈ ([r]:List Int),0≤q∧q<G.T.r; exact hc)));exact Zyy hS hz hT hk0 ha hok hno
 by_cases h12:op=12
 ·
  subst h12;refine Dx d0 (hne 1 (by omega)) fun _=>?_;refine Sg d0 (hne 2 (by omega)) fun _=>?_;refine Nx d0 (by omega) (by omega) fun _=>?_;refine Cc d0 (hne 10 (by omega)) fun _=>?_;refine Zaf d0 (hne 11 (by omega)) fun _=>?_;refine Yag d0 (by rfl) fun _=>?_;have hd:Yv G.T C own was m ⟨12,r,x,y,n,wd,f⟩=Jb G.T m r (Xr (m.rg x.toNat) n) 8:=by simp [Yv,Xo,Xr]
  have hok:(∀ q ∈ ([r,x]:List Int),0≤q∧q<G.T.r)→Mx w0 A B G eb rb sb C (Jb G.T m r (Xr (m.rg x.toNat) n) 8) Qx:=fun hc=>by
   have e:=Xq (T:=G.T) (own:=own) (was:=was) hf (by show(1:Int)≤12; decide) (by show(12:Int)≤21; decide) (by show ∀ q ∈ ([r,x]:List Int),0≤q∧q<G.T.r; exact hc);rw [e,← hm,hd] at hrt;exact hrt
  have hno:¬ (∀ q ∈ ([r,x]:List Int),0≤q∧q<G.T.r)→Mx w0 A B G eb rb sb C (m.fault 1) Qx:=fun hc=>hfa (Gn hf (.inr (by show ¬ ∀ q ∈ ([r,x]:List Int),0≤q∧q<G.T.r; exact hc)));exact Zzd hS hz hT hk0 ha hok hno
 by_cases h13:op=13
 ·
  subst h13;refine Dx d0 (hne 1 (by omega)) fun _=>?_;refine Sg d0 (hne 2 (by omega)) fun _=>?_;refine Nx d0 (by omega) (by omega) fun _=>?_;refine Cc d0 (hne 10 (by omega)) fun _=>?_;refine Zaf d0 (hne 11 (by omega)) fun _=>?_;refine Zaz d0 (hne 12 (by omega)) fun _=>?_;refine Yah d0 (by rfl) fun _=>?_;have hd:Yv G.T C own was m ⟨13,r,x,y,n,wd,f⟩=(m.setR G.T r.toNat (IntKind.u64.wrap (m.sp G.T+IntKind.u64.wrap n))).1:=by simp [Yv,Xo]
  have hok:(∀ q ∈ ([r]:List Int),0≤q∧q<G.T.r)→Mx w0 A B G eb rb sb C ((m.setR G.T r.toNat (IntKind.u64.wrap (m.sp G.T+IntKind.u64.wrap n))).1) Qx:=fun hc=>by
   have e:=Xq (T:=G.T) (own:=own) (was:=was) hf (by show(1:Int)≤13; decide) (by show(13:Int)≤21; decide) (by show ∀ q ∈ ([r]:List Int),0≤q∧q<G.T.r; exact hc);rw [e,← hm,hd] at hrt;exact hrt
  have hno:¬ (∀ q ∈ ([r]:List Int),0≤q∧q<G.T.r)→Mx w0 A B G eb rb sb C (m.fault 1) Qx:=fun hc=>hfa (Gn hf (.inr (by show ¬ ∀ q ∈ ([r]:List Int),0≤q∧q<G.T.r; exact hc)));exact Zyx hS hz hT hk0 ha hok hno
 by_cases h14:op=14
 ·
  subst h14;refine Dx d0 (hne 1 (by omega)) fun _=>?_;refine Sg d0 (hne 2 (by omega)) fun _=>?_;refine Nx d0 (by omega) (by omega) fun _=>?_;refine Cc d0 (hne 10 (by omega)) fun _=>?_;refine Zaf d0 (hne 11 (by omega)) fun _=>?_;refine Zaz d0 (hne 12 (by omega)) fun _=>?_;refine Zdb d0 (hne 13 (by omega)) fun _=>?_;refine Yai d0 (by rfl) fun _=>?_;have hd:Yv G.T C own was m ⟨14,r,x,y,n,wd,f⟩=(m.setSP G.T (IntKind.u64.wrap (m.sp G.T+IntKind.u64.wrap n))).1:=by simp [Yv,Xo]
  have e:=Xq (T:=G.T) (own:=own) (was:=was) hf (by show(1:Int)≤14; decide) (by show(14:Int)≤21; decide) (by show ∀ q ∈ ([]:List Int),0≤q∧q<G.T.r; simp);rw [e,← hm,hd] at hrt;exact Zyz hS hz hT hk0 ha hrt
 by_cases h15:op=15
 ·
  subst h15;refine Dx d0 (hne 1 (by omega)) fun _=>?_;refine Sg d0 (hne 2 (by omega)) fun _=>?_;refine Nx d0 (by omega) (by omega) fun _=>?_;refine Cc d0 (hne 10 (by omega)) fun _=>?_;refine Zaf d0 (hne 11 (by omega)) fun _=>?_;refine Zaz d0 (hne 12 (by omega)) fun _=>?_;refine Zdb d0 (hne 13 (by omega)) fun _=>?_;refine Zfo d0 (hne 14 (by omega)) fun _=>?_;refine Yaj d0 (by rfl) fun _=>?_;have hd:Yv G.T C own was m ⟨15,r,x,y,n,wd,f⟩=(m.call G.T C.funcs.length f (Lh a (Lg C) 1)).1:=by rw [hnu]; simp [Yv,Xo]
  have e:=Xq (T:=G.T) (own:=own) (was:=was) hf (by show(1:Int)≤15; decide) (by show(15:Int)≤21; decide) (by show ∀ q ∈ ([]:List Int),0≤q∧q<G.T.r; simp);rw [e,← hm,hd] at hrt;exact Zza hS hz hT hk0 ha hF hfl rr ck es (Lg C) hnt hmp hpe hnb hrt
 by_cases h16:op=16
 ·
  subst h16;refine Dx d0 (hne 1 (by omega)) fun _=>?_;refine Sg d0 (hne 2 (by omega)) fun _=>?_;refine Nx d0 (by omega) (by omega) fun _=>?_;refine Cc d0 (hne 10 (by omega)) fun _=>?_;refine Zaf d0 (hne 11 (by omega)) fun _=>?_;refine Zaz d0 (hne 12 (by omega)) fun _=>?_;refine Zdb d0 (hne 13 (by omega)) fun _=>?_;refine Zfo d0 (hne 14 (by omega)) fun _=>?_;refine Zid d0 (hne 15 (by omega)) fun _=>?_;refine Yak d0 (by rfl) fun _=>?_;have hd:Yv G.T C own was m ⟨16,r,x,y,n,wd,f⟩=Xk G.T C m f:=by simp [Yv,Xo]
  have e:=Xq (T:=G.T) (own:=own) (was:=was) hf (by show(1:Int)≤16; decide) (by show(16:Int)≤21; decide) (by show ∀ q ∈ ([]:List Int),0≤q∧q<G.T.r; simp);rw [e,← hm,hd] at hrt;exact Zys hS hk0 ha hout (fun _=>Zsk _ _ _ _) hrt
 by_cases h17:op=17
 ·
  subst h17;refine Dx d0 (hne 1 (by omega)) fun _=>?_;refine Sg d0 (hne 2 (by omega)) fun _=>?_;refine Nx d0 (by omega) (by omega) fun _=>?_;refine Cc d0 (hne 10 (by omega)) fun _=>?_;refine Zaf d0 (hne 11 (by omega)) fun _=>?_;refine Zaz d0 (hne 12 (by omega)) fun _=>?_;refine Zdb d0 (hne 13 (by omega)) fun _=>?_;refine Zfo d0 (hne 14 (by omega)) fun _=>?_;refine Zid d0 (hne 15 (by omega)) fun _=>?_;refine Zmm d0 (hne 16 (by omega)) fun _=>?_;refine Zyl d0 (by rfl) fun _=>?_;have hd:Yv G.T C own was m ⟨17,r,x,y,n,wd,f⟩={ m with bk:=x,at_:=0 }:=by simp [Yv,Xo]
  have e:=Xq (T:=G.T) (own:=own) (was:=was) hf (by show(1:Int)≤17; decide) (by show(17:Int)≤21; decide) (by show ∀ q ∈ ([]:List Int),0≤q∧q<G.T.r; simp);rw [e,← hm,hd] at hrt;exact Zyt hS hk0 ha hF hfn hmf hrt
 by_cases h18:op=18
 ·
  subst h18;refine Dx d0 (hne 1 (by omega)) fun _=>?_;refine Sg d0 (hne 2 (by omega)) fun _=>?_;refine Nx d0 (by omega) (by omega) fun _=>?_;refine Cc d0 (hne 10 (by omega)) fun _=>?_;refine Zaf d0 (hne 11 (by omega)) fun _=>?_;refine Zaz d0 (hne 12 (by omega)) fun _=>?_;refine Zdb d0 (hne 13 (by omega)) fun _=>?_;refine Zfo d0 (hne 14 (by omega)) fun _=>?_;refine Zid d0 (hne 15 (by omega)) fun _=>?_;refine Zmm d0 (hne 16 (by omega)) fun _=>?_;refine Zfp d0 (hne 17 (by omega)) fun _=>?_;refine Zym d0 (by rfl) fun _=>?_;have hd:Yv G.T C own was m ⟨18,r,x,y,n,wd,f⟩={ m with bk:=if m.rg r.toNat=0 then y else x,at_:=0 }:=by simp [Yv,Xo]
  have hok:(∀ q ∈ ([r]:List Int),0≤q∧q<G.T.r)→Mx w0 A B G eb rb sb C ({ m with bk:=if m.rg r.toNat=0 then y else x,at_:=0 }) Qx:=fun hc=>by
   have e:=Xq (T:=G.T) (own:=own) (was:=was) hf (by show(1:Int)≤18; decide) (by show(18:Int)≤21; decide) (by show ∀ q ∈ ([r]:List Int),0≤q∧q<G.T.r; exact hc);rw [e,← hm,hd] at hrt;exact hrt
  have hno:¬ (∀ q ∈ ([r]:List Int),0≤q∧q<G.T.r)→Mx w0 A B G eb rb sb C (m.fault 1) Qx:=fun hc=>hfa (Gn hf (.inr (by show ¬ ∀ q ∈ ([r]:List Int),0≤q∧q<G.T.r; exact hc)));exact Zzb hS hz hT hk0 ha hF hfn hmf hok hno
 by_cases h19:op=19
 ·
  subst h19;refine Dx d0 (hne 1 (by omega)) fun _=>?_;refine Sg d0 (hne 2 (by omega)) fun _=>?_;refine Nx d0 (by omega) (by omega) fun _=>?_;refine Cc d0 (hne 10 (by omega)) fun _=>?_;refine Zaf d0 (hne 11 (by omega)) fun _=>?_;refine Zaz d0 (hne 12 (by omega)) fun _=>?_;refine Zdb d0 (hne 13 (by omega)) fun _=>?_;refine Zfo d0 (hne 14 (by omega)) fun _=>?_;refine Zid d0 (hne 15 (by omega)) fun _=>?_;refine Zmm d0 (hne 16 (by omega)) fun _=>?_;refine Zfp d0 (hne 17 (by omega)) fun _=>?_;refine Zkc d0 (hne 18 (by omega)) fun _=>?_;refine Zyn d0 (by rfl) fun _=>?_;have hd:Yv G.T C own was m ⟨19,r,x,y,n,wd,f⟩=Gk G.T C m:=by simp [Yv]
  have e:=Xq (T:=G.T) (own:=own) (was:=was) hf (by show(1:Int)≤19; decide) (by show(19:Int)≤21; decide) (by show ∀ q ∈ ([]:List Int),0≤q∧q<G.T.r; simp);rw [e,← hm,hd] at hrt;exact Zyu hS hz hT hk0 ha hF hrt
 by_cases h20:op=20
 ·
  subst h20;refine Dx d0 (hne 1 (by omega)) fun _=>?_;refine Sg d0 (hne 2 (by omega)) fun _=>?_;refine Nx d0 (by omega) (by omega) fun _=>?_;refine Cc d0 (hne 10 (by omega)) fun _=>?_;refine Zaf d0 (hne 11 (by omega)) fun _=>?_;refine Zaz d0 (hne 12 (by omega)) fun _=>?_;refine Zdb d0 (hne 13 (by omega)) fun _=>?_;refine Zfo d0 (hne 14 (by omega)) fun _=>?_;refine Zid d0 (hne 15 (by omega)) fun _=>?_;refine Zmm d0 (hne 16 (by omega)) fun _=>?_;refine Zfp d0 (hne 17 (by omega)) fun _=>?_;refine Zkc d0 (hne 18 (by omega)) fun _=>?_;refine Zpj d0 (hne 19 (by omega)) fun _=>?_;refine Zyo d0 (by rfl) fun _=>?_;have hd:Yv G.T C own was m ⟨20,r,x,y,n,wd,f⟩=(m.enter C.funcs.length f).1:=by simp [Yv,Xo]
  have e:=Xq (T:=G.T) (own:=own) (was:=was) hf (by show(1:Int)≤20; decide) (by show(20:Int)≤21; decide) (by show ∀ q ∈ ([]:List Int),0≤q∧q<G.T.r; simp);rw [e,← hm,hd] at hrt;exact Zyv hS hz hk0 ha hF hfl hrt
 by_cases h21:op=21
 ·
  subst h21;refine Dx d0 (hne 1 (by omega)) fun _=>?_;refine Sg d0 (hne 2 (by omega)) fun _=>?_;refine Nx d0 (by omega) (by omega) fun _=>?_;refine Cc d0 (hne 10 (by omega)) fun _=>?_;refine Zaf d0 (hne 11 (by omega)) fun _=>?_;refine Zaz d0 (hne 12 (by omega)) fun _=>?_;refine Zdb d0 (hne 13 (by omega)) fun _=>?_;refine Zfo d0 (hne 14 (by omega)) fun _=>?_;refine Zid d0 (hne 15 (by omega)) fun _=>?_;refine Zmm d0 (hne 16 (by omega)) fun _=>?_;refine Zfp d0 (hne 17 (by omega)) fun _=>?_;refine Zkc d0 (hne 18 (by omega)) fun _=>?_;refine Zpj d0 (hne 19 (by omega)) fun _=>?_;refine Zuc d0 (hne 20 (by omega)) fun _=>?_;refine Zyq d0 (by rfl) fun _=>?_;have hd:Yv G.T C own was m ⟨21,r,x,y,n,wd,f⟩=m.endK 2 [IntKind.u64.wrap n]:=by simp [Yv,Xo]
  have e:=Xq (T:=G.T) (own:=own) (was:=was) hf (by show(1:Int)≤21; decide) (by show(21:Int)≤21; decide) (by show ∀ q ∈ ([]:List Int),0≤q∧q<G.T.r; simp);rw [e,← hm,hd] at hrt;exact Zyw hS hz hk0 ha hrt
 by_cases h3:3≤op∧op≤9
 ·
  obtain⟨h3,h9⟩:=h3;refine Dx d0 (hne 1 (by omega)) fun _=>?_;refine Sg d0 (hne 2 (by omega)) fun _=>?_;refine Yad d0 h3 h9 fun _=>?_;have hnm3:Xc op=3:=by
   unfold Xc;rw [if_neg (by omega),if_neg (by omega),if_pos ⟨h3,h9⟩]
  have hd:Yv G.T C own was m ⟨op,r,x,y,n,wd,f⟩=(m.setR G.T r.toNat (Lr op (m.rg x.toNat) (m.rg y.toNat))).1:=by
   unfold Yv;rw [if_neg (by show ¬ op=19; omega)];unfold Xo;rw [if_neg (by show ¬ op=1; omega),if_neg (by show ¬ op=2; omega),if_pos (by exact⟨h3,h9⟩)]
  have hok:(∀ q ∈ ([r,x,y]:List Int),0≤q∧q<G.T.r)→Mx w0 A B G eb rb sb C ((m.setR G.T r.toNat (Lr op (m.rg x.toNat) (m.rg y.toNat))).1) Qx:=fun hc=>by
   have e:=Xq (T:=G.T) (own:=own) (was:=was) hf (by show(1:Int)≤op; omega) (by show op≤21; omega) (by show ∀ q ∈ ([r,x,y]:List Int).take (Xc op),0≤q∧q<G.T.r; rw [hnm3]; exact hc);rw [e,← hm,hd] at hrt;exact hrt
  have hno:¬ (∀ q ∈ ([r,x,y]:List Int),0≤q∧q<G.T.r)→Mx w0 A B G eb rb sb C (m.fault 1) Qx:=fun hc=>hfa (Gn hf (.inr (by show ¬ ∀ q ∈ ([r,x,y]:List Int).take (Xc op),0≤q∧q<G.T.r; rw [hnm3]; exact hc)));exact Yan hS hz hT hk0 ha hok hno
 have hb:¬ (1≤op∧op≤21):=by omega
 refine Dx d0 (hne 1 (by omega)) fun _=>?_;refine Sg d0 (hne 2 (by omega)) fun s2=>?_;have h2:∀ s',Code.wp Tryz.prog (Gd Tryz.f31 3) Qx (Fs (.pointer (some ⟨eb,0,none⟩)) a1 a2 (.pointer (some ⟨xb,0,none⟩)) s') V:=fun s'=>by
  refine Cc d0 (hne 10 (by omega)) fun _=>?_;refine Zaf d0 (hne 11 (by omega)) fun _=>?_;refine Zaz d0 (hne 12 (by omega)) fun _=>?_;refine Zdb d0 (hne 13 (by omega)) fun _=>?_;refine Zfo d0 (hne 14 (by omega)) fun _=>?_;refine Zid d0 (hne 15 (by omega)) fun _=>?_;refine Zmm d0 (hne 16 (by omega)) fun _=>?_;refine Zfp d0 (hne 17 (by omega)) fun _=>?_;refine Zkc d0 (hne 18 (by omega)) fun _=>?_;refine Zpj d0 (hne 19 (by omega)) fun _=>?_;refine Zuc d0 (hne 20 (by omega)) fun _=>?_;refine Zyp d0 (hne 21 (by omega)) fun _=>?_;exact Zpo (hnm hb _)
 by_cases hl:op<3
 ·
  exact Zyk d0 hl h2
 ·
  exact Nx d0 (by omega) (by omega) h2
end Go.Proofs.YtnlcfnjeagmemaaGreatDoor
