import Derived.Test.YtnlcfnjeagmemaaGreatDoorJ3
import Derived.Test.YtnlcfnjeagmemaaGreatDoorJ29
namespace Go.Proofs.YtnlcfnjeagmemaaGreatDoor
open Go.RowKit
set_option maxHeartbeats 4000000
set_option maxRecDepth 100000
theorem Zzc {w0 V:World}{A B N:Nat}{G:Ji}{eb rb sb:Nat}{a:Int}{m:Zf}{xb fn:Nat}{r x y n wd f:Int}{C:Zk}{Qx:Exit→Act→World→Prop}{a1 a2:Value}{s:Nat→Value}(hS:Jt V A B N G eb rb sb a m xb ⟨10,r,x,y,n,wd,f⟩ fn)(hz:Q0 m)(hT:TK G.T)(hk0:Ke B eb rb sb w0 V)(ha:a=Yx C m)(hok:(∀ q ∈ ([r]:List Int),0≤q∧q<G.T.r)→Mx w0 A B G eb rb sb C (Jb G.T m r (Xr (m.sp G.T) n) wd) Qx)(hno:¬ (∀ q ∈ ([r]:List Int),0≤q∧q<G.T.r)→Mx w0 A B G eb rb sb C (m.fault 1) Qx) :
 Code.wp Tryz.prog (Nb Tryz.f31 3) Qx (Fs (.pointer (some ⟨eb,0,none⟩)) a1 a2 (.pointer (some ⟨xb,0,none⟩)) s) V:=by
 have hB:=hS.er.bd.2.2.2.2.2.2;have HS:=Y hS;have HK0:=Y hk0;have HA:=Y ha;clear ha hk0;by_cases hc:(∀ q ∈ ([r]:List Int),0≤q∧q<G.T.r)
 ·
  obtain⟨r0,r1⟩:=hc r (by simp);obtain⟨rk,rfl⟩:∃ k:Nat,r=k:=⟨r.toNat,by omega⟩;have rN:rk<G.T.r.toNat:=by omega
  have rI:(rk:Int)<(G.T.r.toNat:Int):=by omega
  have rM:(rk:Int)<max G.T.r 0:=by omega
  cases hld:(m.load (Xr (m.sp G.T) n) wd).2 with
  | none =>
   have HRT:=Y (hok hc);try simp only [Int.toNat_natCast] at HRT
   rw [Zfs hld] at HRT;try simp only [Int.toNat_natCast] at HRT
   have HIS:=Y (show Calls Tryz.prog 46 #[.pointer (some ⟨eb,0,none⟩),.slice (some ⟨V.heap.size,0,none⟩) 1 1] (V.alloc (.cells #[.int .i64 (rk:Int)] 3 (0,0))) (fun e w'=>e=.returned (.bool true)∧ER w' A B N G eb rb sb a m∧Ke V.heap.size eb rb sb V w') from Lw (hS.er) hz hT [(rk:Int)] (by simp) hc);obtain⟨-,o1,-,-,-,-,-,-,-⟩:=hS.cs;clear hS hok hno hc;rw [Zy];refine Yf ?_;conv=>arg 2; whnf
   go_wp2_with fail
   clear o1;refine(O HIS).mono ?_;rintro e w1 ⟨rfl,h1,k1⟩;have hS1:=(O HS).ke h1 k1;have HS1:=Y hS1;have HE1:=Y h1;have HK1:=Y ((O HK0).tr (k1.low hB));have hB1:=h1.bd.2.2.2.2.2.2;have HC1:=Y (show(fun V9=>∃ N9 a9 m9,m9.rg=m.rg∧Jt V9 A B N9 G eb rb sb a9 m9 xb ⟨10,(rk:Int),x,y,n,wd,f⟩ fn) (w1.drewN 1) from⟨N,a,m,rfl,hS1.dr 1⟩);clear h1 k1 hS1 HIS;go_upto_region 14 with fail
   refine Zh (C:=fun V9=>∃ N9 a9 m9,m9.rg=m.rg∧Jt V9 A B N9 G eb rb sb a9 m9 xb ⟨10,(rk:Int),x,y,n,wd,f⟩ fn) (d:=14) (by kernel_rfl) ?_;change Ye _ _ _ _ _ _ _ _ _ (w1.drewN 1)
   refine vU 0 (O HC1) ?_;refine vU 1 (O HC1) ?_;refine vU 3 (O HC1) ?_;refine vU 4 (O HC1) ?_;refine vU 5 (O HC1) ?_;refine vU 6 (O HC1) ?_;refine vU 7 (O HC1) ?_;refine vU 8 (O HC1) ?_;refine vO 2 fun K hK=>?_;go_simp;refine(Nh ((O HE1).dr 1) hT).mono ?_;rintro e w2 ⟨rfl,kk,hw2⟩;subst w2;have HC2:=Y (show(fun V9=>∃ N9 a9 m9,m9.rg=m.rg∧Jt V9 A B N9 G eb rb sb a9 m9 xb ⟨10,(rk:Int),x,y,n,wd,f⟩ fn) ((w1.drewN 1).drewN kk) from⟨N,a,m,rfl,((O HS1).dr 1).dr kk⟩);refine kO hK (fun _=>O HC2) ?_;clear hK K;refine vO 9 fun K hK=>?_;go_simp;refine(Zfu ((O HE1).dr (1+kk)) hz (m.sp G.T) n wd hld).mono ?_;rintro e w3 ⟨rfl,h2,k2⟩;have HC3:=Y (show(fun V9=>∃ N9 a9 m9,m9.rg=m.rg∧Jt V9 A B N9 G eb rb sb a9 m9 xb ⟨10,(rk:Int),x,y,n,wd,f⟩ fn) w3 from⟨N,a,(m.load (Xr (m.sp G.T) n) wd).1,Zpm _ _ _,((O HS1).dr (1+kk)).ke h2 k2⟩);have HS3:=Y (((O HS1).dr (1+kk)).ke h2 k2);have HE2:=Y h2;have HK2:=Y ((O HK1).tr (k2.ud.low hB1));have hB2:=h2.bd.2.2.2.2.2.2;clear h2 k2;refine kO hK (fun _=>O HC3) ?_;clear hK K;refine vU 10 (O HC3) ?_;refine vU 11 (O HC3) ?_;refine vU 12 (O HC3) ?_;refine vU 13 (O HC3) ?_;refine vO 14 fun K hK=>?_;go_simp;refine kO hK (fun hx=>by cases hx) ?_;clear hK K;refine Zi (by kernel_rfl) ?_ _;go_wp2;refine Zn (Q:=Qx .ret) (fun s'=>O HRT _ _ _ _ _ _ _ s' (fun e=>absurd e (Zkd hld)) (O HE2) (O HK2)) _ ?_;rfl
  | some v =>
   have HRT:=Y (hok hc);try simp only [Int.toNat_natCast] at HRT
   rw [Zbw hld] at HRT;try simp only [Int.toNat_natCast] at HRT
   have HIS:=Y (show Calls Tryz.prog 46 #[.pointer (some ⟨eb,0,none⟩),.slice (some ⟨V.heap.size,0,none⟩) 1 1] (V.alloc (.cells #[.int .i64 (rk:Int)] 3 (0,0))) (fun e w'=>e=.returned (.bool true)∧ER w' A B N G eb rb sb a m∧Ke V.heap.size eb rb sb V w') from Lw (hS.er) hz hT [(rk:Int)] (by simp) hc);obtain⟨-,o1,-,-,-,-,-,-,-⟩:=hS.cs;clear hS hok hno hc;rw [Zy];refine Yf ?_;conv=>arg 2; whnf
   go_wp2_with fail
   clear o1;refine(O HIS).mono ?_;rintro e w1 ⟨rfl,h1,k1⟩;have hS1:=(O HS).ke h1 k1;have HS1:=Y hS1;have HE1:=Y h1;have HK1:=Y ((O HK0).tr (k1.low hB));have hB1:=h1.bd.2.2.2.2.2.2;have HC1:=Y (show(fun V9=>∃ N9 a9 m9,m9.rg=m.rg∧Jt V9 A B N9 G eb rb sb a9 m9 xb ⟨10,(rk:Int),x,y,n,wd,f⟩ fn) (w1.drewN 1) from⟨N,a,m,rfl,hS1.dr 1⟩);clear h1 k1 hS1 HIS;go_upto_region 14 with fail
   refine Zh (C:=fun V9=>∃ N9 a9 m9,m9.rg=m.rg∧Jt V9 A B N9 G eb rb sb a9 m9 xb ⟨10,(rk:Int),x,y,n,wd,f⟩ fn) (d:=14) (by kernel_rfl) ?_;change Ye _ _ _ _ _ _ _ _ _ (w1.drewN 1)
   refine vU 0 (O HC1) ?_;refine vU 1 (O HC1) ?_;refine vU 3 (O HC1) ?_;refine vU 4 (O HC1) ?_;refine vU 5 (O HC1) ?_;refine vU 6 (O HC1) ?_;refine vU 7 (O HC1) ?_;refine vU 8 (O HC1) ?_;refine vO 2 fun K hK=>?_;go_simp;refine(Nh ((O HE1).dr 1) hT).mono ?_;rintro e w2 ⟨rfl,kk,hw2⟩;subst w2;have HC2:=Y (show(fun V9=>∃ N9 a9 m9,m9.rg=m.rg∧Jt V9 A B N9 G eb rb sb a9 m9 xb ⟨10,(rk:Int),x,y,n,wd,f⟩ fn) ((w1.drewN 1).drewN kk) from⟨N,a,m,rfl,((O HS1).dr 1).dr kk⟩);refine kO hK (fun _=>O HC2) ?_;clear hK K;refine vO 9 fun K hK=>?_;go_simp;refine(Zbx ((O HE1).dr (1+kk)) hz (m.sp G.T) n wd v hld).mono ?_;rintro e w3 ⟨rfl,h2,k2⟩;have HC3:=Y (show(fun V9=>∃ N9 a9 m9,m9.rg=m.rg∧Jt V9 A B N9 G eb rb sb a9 m9 xb ⟨10,(rk:Int),x,y,n,wd,f⟩ fn) w3 from⟨N,a,m,rfl,((O HS1).dr (1+kk)).ke h2 k2⟩);have HS3:=Y (((O HS1).dr (1+kk)).ke h2 k2);have HE2:=Y h2;have HK2:=Y ((O HK1).tr (k2.ud.low hB1));have hB2:=h2.bd.2.2.2.2.2.2;clear h2 k2;refine kO hK (fun _=>O HC3) ?_;clear hK K;refine vU 10 (O HC3) ?_;refine vU 11 (O HC3) ?_;refine vU 12 (O HC3) ?_;refine vU 13 (O HC3) ?_;refine vO 14 fun K hK=>?_;go_simp;refine kO hK (fun hx=>by cases hx) ?_;clear hK K;refine Zi (by kernel_rfl) ?_ _;obtain⟨-,u1,-,-,-,-,-,-,-⟩:=(O HS3).cs;have HST:=Y (Kc (O HE2) hz hT rk r1 v (Zft (O HE2) hld));go_wp2_with fail
   clear u1;refine(O HST).mono ?_;rintro e w4 ⟨rfl,h4,k4⟩;have HE4:=Y h4;have HK4:=Y ((O HK2).tr (k4.low hB2));clear h4 k4 HST;go_wp2;refine Zn (Q:=Qx .ret) (fun s'=>O HRT _ _ _ _ _ _ _ s' (fun _=>(O HA).trans (Uk (Jc _ _ _ _)).symm) (O HE4) (O HK4)) _ ?_;rfl
 ·
  have HRT:=Y (hno hc);have HIS:=Y (show Calls Tryz.prog 46 #[.pointer (some ⟨eb,0,none⟩),.slice (some ⟨V.heap.size,0,none⟩) 1 1] (V.alloc (.cells #[.int .i64 r] 3 (0,0))) (fun e w'=>e=.returned (.bool false)∧ER w' A B N G eb rb sb a (m.fault 1)∧Ke V.heap.size eb rb sb V w') from Ul (hS.er) hz hT [r] (by simp) hc);obtain⟨-,o1,-,-,-,-,-,-,-⟩:=hS.cs;clear hS hok hno hc;rw [Zy];refine Yf ?_;conv=>arg 2; whnf
  go_wp2_with fail
  clear o1;refine(O HIS).mono ?_;rintro e w1 ⟨rfl,h1,k1⟩;have HE:=Y h1;have HKE:=Y ((O HK0).tr (k1.low hB));clear h1 k1 HIS;go_wp2;refine Zn (Q:=Qx .ret) (fun s'=>O HRT _ _ _ _ _ _ _ s' (fun e=>absurd (show(5:Int)=0 from e) (by decide)) (O HE) (O HKE)) _ ?_;rfl
end Go.Proofs.YtnlcfnjeagmemaaGreatDoor
