import Derived.Test.YtnlcfnjeagmemaaGreatDoorJ3
import Derived.Test.YtnlcfnjeagmemaaGreatDoorJ29
namespace Go.Proofs.YtnlcfnjeagmemaaGreatDoor
open Go.RowKit
set_option maxHeartbeats 4000000
set_option maxRecDepth 100000
theorem Yal {w0 V:World}{A B N:Nat}{G:Ji}{eb rb sb:Nat}{a:Int}{m:Zf}{xb fn:Nat}{r x y n wd f:Int}{C:Zk}{Qx:Exit→Act→World→Prop}{a1 a2:Value}{s:Nat→Value}(hS:Jt V A B N G eb rb sb a m xb ⟨1,r,x,y,n,wd,f⟩ fn)(hz:Q0 m)(hT:TK G.T)(hk0:Ke B eb rb sb w0 V)(ha:a=Yx C m)(hok:(∀ q ∈ ([r]:List Int),0≤q∧q<G.T.r)→Mx w0 A B G eb rb sb C ((m.setR G.T r.toNat (IntKind.u64.wrap n)).1) Qx)(hno:¬ (∀ q ∈ ([r]:List Int),0≤q∧q<G.T.r)→Mx w0 A B G eb rb sb C (m.fault 1) Qx) :
 Code.wp Tryz.prog (Nb Tryz.f31 0) Qx (Fs (.pointer (some ⟨eb,0,none⟩)) a1 a2 (.pointer (some ⟨xb,0,none⟩)) s) V:=by
 have hB:=hS.er.bd.2.2.2.2.2.2;have HS:=Y hS;have HK0:=Y hk0;have HA:=Y ha;clear ha hk0;by_cases hc:(∀ q ∈ ([r]:List Int),0≤q∧q<G.T.r)
 ·
  have HRT:=Y (hok hc);obtain⟨r0,r1⟩:=hc r (by simp);obtain⟨rk,rfl⟩:∃ k:Nat,r=k:=⟨r.toNat,by omega⟩;have rN:rk<G.T.r.toNat:=by omega
  have rI:(rk:Int)<(G.T.r.toNat:Int):=by omega
  have rM:(rk:Int)<max G.T.r 0:=by omega
  simp only [Int.toNat_natCast] at HRT;have HIS:=Y (show Calls Tryz.prog 46 #[.pointer (some ⟨eb,0,none⟩),.slice (some ⟨V.heap.size,0,none⟩) 1 1] (V.alloc (.cells #[.int .i64 (rk:Int)] 3 (0,0))) (fun e w'=>e=.returned (.bool true)∧ER w' A B N G eb rb sb a m∧Ke V.heap.size eb rb sb V w') from Lw (hS.er) hz hT [(rk:Int)] (by simp) hc);obtain⟨-,o1,-,-,-,-,-,-,-⟩:=hS.cs;clear hS hok hno hc;rw [Zy];refine Yf ?_;conv=>arg 2; whnf
  go_wp2_with fail
  clear o1;refine(O HIS).mono ?_;rintro e w1 ⟨rfl,h1,k1⟩;have hS1:=(O HS).ke h1 k1;obtain⟨-,o1,-,-,o4,-,-,-,-⟩:=hS1.cs;have HST:=Y (Kc h1 hz hT rk r1 (IntKind.u64.wrap n) (Mi _));have HK1:=Y ((O HK0).tr (k1.low hB));have hB1:=h1.bd.2.2.2.2.2.2;clear h1 k1 hS1 HIS;go_wp2_with fail
  clear o1 o4;refine(O HST).mono ?_;rintro e w2 ⟨rfl,h2,k2⟩;have HE2:=Y h2;have HK2:=Y ((O HK1).tr (k2.low hB1));clear h2 k2 HST;go_wp2;refine Zn (Q:=Qx .ret) (fun s'=>O HRT _ _ _ _ _ _ _ s' (fun _=>(O HA).trans (Uk (Jc _ _ _ _)).symm) (O HE2) (O HK2)) _ ?_;rfl
 ·
  have HRT:=Y (hno hc);have HIS:=Y (show Calls Tryz.prog 46 #[.pointer (some ⟨eb,0,none⟩),.slice (some ⟨V.heap.size,0,none⟩) 1 1] (V.alloc (.cells #[.int .i64 r] 3 (0,0))) (fun e w'=>e=.returned (.bool false)∧ER w' A B N G eb rb sb a (m.fault 1)∧Ke V.heap.size eb rb sb V w') from Ul (hS.er) hz hT [r] (by simp) hc);obtain⟨-,o1,-,-,-,-,-,-,-⟩:=hS.cs;clear hS hok hno hc;rw [Zy];refine Yf ?_;conv=>arg 2; whnf
  go_wp2_with fail
  clear o1;refine(O HIS).mono ?_;rintro e w1 ⟨rfl,h1,k1⟩;have HE:=Y h1;have HKE:=Y ((O HK0).tr (k1.low hB));clear h1 k1 HIS;go_wp2;refine Zn (Q:=Qx .ret) (fun s'=>O HRT _ _ _ _ _ _ _ s' (fun e=>absurd (show(5:Int)=0 from e) (by decide)) (O HE) (O HKE)) _ ?_;rfl
theorem Zys {w0 V:World}{A B N:Nat}{G:Ji}{eb rb sb:Nat}{a:Int}{m:Zf}{xb fn:Nat}{r x y n wd f:Int}{C:Zk}{Qx:Exit→Act→World→Prop}{a1 a2:Value}{s:Nat→Value}(hS:Jt V A B N G eb rb sb a m xb ⟨16,r,x,y,n,wd,f⟩ fn)(hk0:Ke B eb rb sb w0 V)(ha:a=Yx C m)(hout:Calls Tryz.prog 50 #[.pointer (some ⟨eb,0,none⟩),.int .i64 f] V (OuP V A B G eb rb sb a (Xk G.T C m f)))(hlin:(Xk G.T C m f).kind=0→Yx C (Xk G.T C m f)=Yx C m)(hrt:Mx w0 A B G eb rb sb C (Xk G.T C m f) Qx) :
 Code.wp Tryz.prog (Nb Tryz.f31 9) Qx (Fs (.pointer (some ⟨eb,0,none⟩)) a1 a2 (.pointer (some ⟨xb,0,none⟩)) s) V:=by
 have hB:=hS.er.bd.2.2.2.2.2.2;have HS:=Y hS;have HK0:=Y hk0;have HA:=Y ha;clear ha hk0;have HRT:=Y hrt;have HO:=Y hout;obtain⟨-,-,-,-,-,-,o6,-,-⟩:=hS.cs;clear hrt hS hout;rw [Zy];refine Yf ?_;conv=>arg 2; whnf
 go_wp2_with fail
 clear o6;refine(O HO).mono ?_;rintro e w1 ⟨b1,N1,rfl,h1,k1⟩;have HE:=Y h1;have HKE:=Y ((O HK0).tr k1);clear h1 k1 HO;go_wp2;refine Zn (Q:=Qx .ret) (fun s'=>O HRT _ _ _ _ _ _ _ s' (fun h0=>(O HA).trans (hlin h0).symm) (O HE) (O HKE)) _ ?_;rfl
theorem Zyt {w0 V:World}{A B N:Nat}{G:Ji}{eb rb sb:Nat}{a:Int}{m:Zf}{xb fn:Nat}{r x y n wd f:Int}{C:Zk}{Qx:Exit→Act→World→Prop}{a1 a2:Value}{s:Nat→Value}(hS:Jt V A B N G eb rb sb a m xb ⟨17,r,x,y,n,wd,f⟩ fn)(hk0:Ke B eb rb sb w0 V)(ha:a=Yx C m)(hF:EF V B eb rb sb G C)(hfn:fn<C.funcs.length)(hmf:m.f=(fn:Int))(hrt:Mx w0 A B G eb rb sb C ({ m with bk:=x,at_:=0 }) Qx) :
 Code.wp Tryz.prog (Nb Tryz.f31 10) Qx (Fs (.pointer (some ⟨eb,0,none⟩)) a1 a2 (.pointer (some ⟨xb,0,none⟩)) s) V:=by
 have hB:=hS.er.bd.2.2.2.2.2.2;have HS:=Y hS;have HK0:=Y hk0;have HA:=Y ha;clear ha hk0;have HRT:=Y hrt;have HBL:=Y (Kd hS.er C hF fn hfn x);obtain⟨-,-,o2,-,-,-,-,o7,-⟩:=hS.cs;clear hrt hS hF;rw [Zy];refine Yf ?_;conv=>arg 2; whnf
 go_wp2_with fail
 clear o2 o7;refine(O HBL).mono ?_;rintro e w1 ⟨rfl,h1,k1⟩;have HE:=Y (h1.goto m.f x 0);have HKE:=Y ((O HK0).tr (k1.low hB));clear h1 k1 HBL;go_wp2;refine Zn (Q:=Qx .ret) (fun s'=>O HRT _ _ _ _ _ _ _ s' (fun _=>by unfold Yx; rw [hmf]) (O HE) (O HKE)) _ ?_;rfl
theorem Zyu {w0 V:World}{A B N:Nat}{G:Ji}{eb rb sb:Nat}{a:Int}{m:Zf}{xb fn:Nat}{r x y n wd f:Int}{C:Zk}{Qx:Exit→Act→World→Prop}{a1 a2:Value}{s:Nat→Value}(hS:Jt V A B N G eb rb sb a m xb ⟨19,r,x,y,n,wd,f⟩ fn)(hz:Q0 m)(hT:TK G.T)(hk0:Ke B eb rb sb w0 V)(ha:a=Yx C m)(hF:EF V B eb rb sb G C)(hrt:Mx w0 A B G eb rb sb C (Gk G.T C m) Qx) :
 Code.wp Tryz.prog (Nb Tryz.f31 12) Qx (Fs (.pointer (some ⟨eb,0,none⟩)) a1 a2 (.pointer (some ⟨xb,0,none⟩)) s) V:=by
 have hB:=hS.er.bd.2.2.2.2.2.2;have HS:=Y hS;have HK0:=Y hk0;have HA:=Y ha;clear ha hk0;have HRT:=Y hrt;have HCM:=Y (Zpg hS.er hz hT C hF);clear hrt hS hF;rw [Zy];refine Yf ?_;conv=>arg 2; whnf
 go_wp2_with fail
 refine(O HCM).mono ?_;rintro e w1 ⟨b1,a9,rfl,ha9,h1,k1⟩;have HE:=Y h1;have HKE:=Y ((O HK0).tr (k1.low hB));have HA9:=Y ha9;clear h1 k1 HCM ha9;go_wp2;refine Zn (Q:=Qx .ret) (fun s'=>O HRT _ _ _ _ _ _ _ s' (O HA9) (O HE) (O HKE)) _ ?_;rfl
theorem Zmn {C:Zk}{m:Zf}{f a':Int}(h:(m.enter C.funcs.length f).2=true→a'=Ja C f 0 0)(h0:(m.enter C.funcs.length f).1.kind=0):a'=Yx C (m.enter C.funcs.length f).1:=by
 unfold Zf.enter at h h0 ⊢;split at h
 ·
  rename_i hc;rw [if_pos hc];exact h rfl
 ·
  rename_i hc;rw [if_neg hc] at h0;exact absurd (show(5:Int)=0 from h0) (by decide)
theorem Zyv {w0 V:World}{A B N:Nat}{G:Ji}{eb rb sb:Nat}{a:Int}{m:Zf}{xb fn:Nat}{r x y n wd f:Int}{C:Zk}{Qx:Exit→Act→World→Prop}{a1 a2:Value}{s:Nat→Value}(hS:Jt V A B N G eb rb sb a m xb ⟨20,r,x,y,n,wd,f⟩ fn)(hz:Q0 m)(hk0:Ke B eb rb sb w0 V)(ha:a=Yx C m)(hF:EF V B eb rb sb G C)(hfl:C.funcs.length<4611686018427387904)(hrt:Mx w0 A B G eb rb sb C ((m.enter C.funcs.length f).1) Qx) :
 Code.wp Tryz.prog (Nb Tryz.f31 13) Qx (Fs (.pointer (some ⟨eb,0,none⟩)) a1 a2 (.pointer (some ⟨xb,0,none⟩)) s) V:=by
 have hB:=hS.er.bd.2.2.2.2.2.2;have HS:=Y hS;have HK0:=Y hk0;have HA:=Y ha;clear ha hk0;have HRT:=Y hrt;have HLP:=Y (Zae hS.er hz C hF hfl f);obtain⟨-,-,-,-,-,-,o6,-,-⟩:=hS.cs;clear hrt hS hF;rw [Zy];refine Yf ?_;conv=>arg 2; whnf
 go_wp2_with fail
 clear o6;refine(O HLP).mono ?_;rintro e w1 ⟨a9,rfl,ha9,h1,k1⟩;have HE:=Y h1;have HKE:=Y ((O HK0).tr (k1.low hB));have HA9:=Y ha9;clear h1 k1 HLP ha9;go_wp2;refine Zn (Q:=Qx .ret) (fun s'=>O HRT _ _ _ _ _ _ _ s' (Zmn (O HA9)) (O HE) (O HKE)) _ ?_;rfl
theorem Zyw {w0 V:World}{A B N:Nat}{G:Ji}{eb rb sb:Nat}{a:Int}{m:Zf}{xb fn:Nat}{r x y n wd f:Int}{C:Zk}{Qx:Exit→Act→World→Prop}{a1 a2:Value}{s:Nat→Value}(hS:Jt V A B N G eb rb sb a m xb ⟨21,r,x,y,n,wd,f⟩ fn)(hz:Q0 m)(hk0:Ke B eb rb sb w0 V)(ha:a=Yx C m)(hrt:Mx w0 A B G eb rb sb C (m.endK 2 [IntKind.u64.wrap n]) Qx) :
 Code.wp Tryz.prog (Nb Tryz.f31 14) Qx (Fs (.pointer (some ⟨eb,0,none⟩)) a1 a2 (.pointer (some ⟨xb,0,none⟩)) s) V:=by
 have hB:=hS.er.bd.2.2.2.2.2.2;have HS:=Y hS;have HK0:=Y hk0;have HA:=Y ha;clear ha hk0;have HRT:=Y hrt;obtain⟨-,-,-,-,o4,-,-,-,-⟩:=hS.cs;obtain⟨P,es,hP⟩:=hS.er;have c26:V.cell? ⟨eb,26,none⟩=some P.vv:=(cR hP.ei 26);have z26:=frozen_of_row _ _ 26 _ _ hP.ei;obtain⟨hv1,hv2⟩:=hP.vals (IntKind.u64.wrap n);have hew:eb<V.heap.size:=Zc hP.ei;rw [World.setCell_alloc_past _ _ _ _ hew] at hv1 hv2;have HV1:=Y hv1;have HV2:=Y ((O HK0).tr hv2);have hzv:({ m with vals:=[IntKind.u64.wrap n] }:Zf).kind=0:=hz.kind;clear hrt hS hP hv1 hv2;rw [Zy];refine Yf ?_;conv=>arg 2; whnf
 go_upto_region 45 with fail
 clear o4 c26 z26;generalize World.alloc (World.setCell V _ _) _=U at HV1 HV2 ⊢;have hB1:=(O HV1).bd.2.2.2.2.2.2;go_wp2_with fail
 refine(Uz (O HV1) hzv 2 0).mono ?_;rintro e w2 ⟨rfl,h2,k2⟩;rw [Zvz m hz] at h2;have HE:=Y h2;have HKE:=Y ((O HV2).tr (k2.low hB1));clear h2 k2;go_wp2;refine Zn (Q:=Qx .ret) (fun s'=>O HRT _ _ _ _ _ _ _ s' (fun e=>absurd (show(2:Int)=0 from e) (by decide)) (O HE) (O HKE)) _ ?_;rfl
end Go.Proofs.YtnlcfnjeagmemaaGreatDoor
