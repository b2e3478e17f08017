import Derived.Test.YtnlcfnjeagmemaaGreatDoorJ3
import Derived.Test.YtnlcfnjeagmemaaGreatDoorJ29
namespace Go.Proofs.YtnlcfnjeagmemaaGreatDoor
open Go.RowKit
set_option maxHeartbeats 4000000
set_option maxRecDepth 100000
theorem Zmo (n:Int):0≤IntKind.u64.wrap n∧IntKind.u64.wrap n<18446744073709551616:=by
 have:IntKind.u64.wrap n=n % 18446744073709551616:=by simp [IntKind.wrap,IntKind.bits,IntKind.signed]
 omega
theorem Zpn (op a b:Int):0≤Lr op a b∧Lr op a b<18446744073709551616:=by
 unfold Lr;repeat' split
 all_goals first | exact Zmo _ | omega
theorem Yan {op:Int}{w0 V:World}{A B N:Nat}{G:Ji}{eb rb sb:Nat}{a:Int}{m:Zf}{xb fn:Nat}{r x y n wd f:Int}{C:Zk}{Qx:Exit→Act→World→Prop}{a1 a2:Value}{s:Nat→Value}(hS:Jt V A B N G eb rb sb a m xb ⟨op,r,x,y,n,wd,f⟩ fn)(hz:Q0 m)(hT:TK G.T)(hk0:Ke B eb rb sb w0 V)(ha:a=Yx C m)(hok:(∀ q ∈ ([r,x,y]:List Int),0≤q∧q<G.T.r)→Mx w0 A B G eb rb sb C ((m.setR G.T r.toNat (Lr op (m.rg x.toNat) (m.rg y.toNat))).1) Qx)(hno:¬ (∀ q ∈ ([r,x,y]:List Int),0≤q∧q<G.T.r)→Mx w0 A B G eb rb sb C (m.fault 1) Qx) :
 Code.wp Tryz.prog (Nb Tryz.f31 2) Qx (Fs (.pointer (some ⟨eb,0,none⟩)) a1 a2 (.pointer (some ⟨xb,0,none⟩)) s) V:=by
 have hB:=hS.er.bd.2.2.2.2.2.2;have HS:=Y hS;have HK0:=Y hk0;have HA:=Y ha;clear ha hk0;by_cases hc:(∀ q ∈ ([r,x,y]:List Int),0≤q∧q<G.T.r)
 ·
  rw [Zy];refine Yf ?_;conv=>arg 2; whnf
  have HRT:=Y (hok hc);obtain⟨r0,r1⟩:=hc r (by simp);obtain⟨rk,rfl⟩:∃ k:Nat,r=k:=⟨r.toNat,by omega⟩;have rN:rk<G.T.r.toNat:=by omega
  have rI:(rk:Int)<(G.T.r.toNat:Int):=by omega
  have rM:(rk:Int)<max G.T.r 0:=by omega
  obtain⟨x0,x1⟩:=hc x (by simp);obtain⟨xk,rfl⟩:∃ k:Nat,x=k:=⟨x.toNat,by omega⟩;have xN:xk<G.T.r.toNat:=by omega
  have xI:(xk:Int)<(G.T.r.toNat:Int):=by omega
  have xM:(xk:Int)<max G.T.r 0:=by omega
  obtain⟨y0,y1⟩:=hc y (by simp);obtain⟨yk,rfl⟩:∃ k:Nat,y=k:=⟨y.toNat,by omega⟩;have yN:yk<G.T.r.toNat:=by omega
  have yI:(yk:Int)<(G.T.r.toNat:Int):=by omega
  have yM:(yk:Int)<max G.T.r 0:=by omega
  simp only [Int.toNat_natCast] at HRT;have HIS:=Y (show Calls Tryz.prog 46 #[.pointer (some ⟨eb,0,none⟩),.slice (some ⟨(V.drewN 1).heap.size,0,none⟩) 3 3] ((V.drewN 1).alloc (.cells #[.int .i64 (rk:Int),.int .i64 (xk:Int),.int .i64 (yk:Int)] 3 (0,0))) (fun e w'=>e=.returned (.bool true)∧ER w' A B N G eb rb sb a m∧Ke (V.drewN 1).heap.size eb rb sb (V.drewN 1) w') from Lw ((hS.dr 1).er) hz hT [(rk:Int),(xk:Int),(yk:Int)] (by simp) hc);have HC0:=Y (show(fun V9=>∃ N9 a9 m9,m9.rg=m.rg∧Jt V9 A B N9 G eb rb sb a9 m9 xb ⟨op,(rk:Int),(xk:Int),(yk:Int),n,wd,f⟩ fn) (V.drewN 1) from⟨N,a,m,rfl,hS.dr 1⟩);clear hS hok hno hc;go_upto_region 10 with fail
  refine Zh (C:=fun V9=>∃ N9 a9 m9,m9.rg=m.rg∧Jt V9 A B N9 G eb rb sb a9 m9 xb ⟨op,(rk:Int),(xk:Int),(yk:Int),n,wd,f⟩ fn) (d:=39) (by kernel_rfl) ?_;change Ye _ _ _ _ _ _ _ _ _ (V.drewN 1)
  refine vU 0 (O HC0) ?_;refine vU 1 (O HC0) ?_;refine vU 2 (O HC0) ?_;refine vU 3 (O HC0) ?_;refine vU 4 (O HC0) ?_;refine vU 5 (O HC0) ?_;refine vU 6 (O HC0) ?_;refine vU 7 (O HC0) ?_;refine vU 8 (O HC0) ?_;refine vU 9 (O HC0) ?_;refine vO 10 fun K hK=>?_;go_simp;refine kO hK (fun _=>⟨N,a,m,rfl,((O HS).dr 1).al _⟩) ?_;clear hK K;refine vO 11 fun K hK=>?_;go_simp;refine(O HIS).mono ?_;rintro e w1 ⟨rfl,h1,k1⟩;have HE1:=Y h1;have hB1:=h1.bd.2.2.2.2.2.2;have HK1:=Y ((O HK0).tr (k1.ud.low hB));have HC1:=Y (show(fun V9=>∃ N9 a9 m9,m9.rg=m.rg∧Jt V9 A B N9 G eb rb sb a9 m9 xb ⟨op,(rk:Int),(xk:Int),(yk:Int),n,wd,f⟩ fn) w1 from⟨N,a,m,rfl,((O HS).dr 1).ke h1 k1⟩);have HST:=Y (Kc h1 hz hT rk r1 (Lr op (m.rg xk) (m.rg yk)) (Zpn _ _ _));clear h1 k1 HIS;refine kO hK (fun _=>O HC1) ?_;clear hK K;refine vU 12 (O HC1) ?_;refine vU 13 (O HC1) ?_;refine vU 14 (O HC1) ?_;refine vU 15 (O HC1) ?_;refine vU 16 (O HC1) ?_;refine vU 17 (O HC1) ?_;refine vU 18 (O HC1) ?_;refine vU 19 (O HC1) ?_;refine vU 20 (O HC1) ?_;refine vU 21 (O HC1) ?_;refine vU 22 (O HC1) ?_;refine vU 23 (O HC1) ?_;refine vU 24 (O HC1) ?_;refine vU 25 (O HC1) ?_;refine vU 26 (O HC1) ?_;refine vU 27 (O HC1) ?_;refine vT (v:=?vc28) 28 (O HC1) ?_ (hy:=?yc28);case yc28 =>
   rintro V9 ⟨N9,a9,m9,hr9,hV⟩;obtain⟨p0,p1,p2,p3,p4,p5,p6,p7,c19⟩:=hV.cs;have q:=hV.rg xk xN;rw [hr9] at q;go_simp;all_goals (with_reducible rfl)
  refine vU 29 (O HC1) ?_;refine vU 30 (O HC1) ?_;refine vU 31 (O HC1) ?_;refine vU 32 (O HC1) ?_;refine vU 33 (O HC1) ?_;refine vU 34 (O HC1) ?_;refine vU 35 (O HC1) ?_;refine vU 36 (O HC1) ?_;refine vT (v:=?vc37) 37 (O HC1) ?_ (hy:=?yc37);case yc37 =>
   rintro V9 ⟨N9,a9,m9,hr9,hV⟩;obtain⟨p0,p1,p2,p3,p4,p5,p6,p7,c19⟩:=hV.cs;have q:=hV.rg yk yN;rw [hr9] at q;go_simp;all_goals (with_reducible rfl)
  refine vO 38 fun K hK=>?_;go_simp;refine(Zye op (m.rg xk) (m.rg yk) w1).mono ?_;rintro e w1' ⟨rfl,hw⟩;subst hw;refine kO hK (fun _=>O HC1) ?_;clear hK K;refine vO 39 fun K hK=>?_;go_simp;refine(O HST).mono ?_;rintro e w2 ⟨rfl,h2,k2⟩;have HE2:=Y h2;have HK2:=Y ((O HK1).tr (k2.low hB1));clear h2 k2;refine kO hK (fun hx=>by cases hx) ?_;clear hK K;refine vO 40 fun K hK=>?_;go_simp;refine kO hK (fun hx=>by cases hx) ?_;clear hK K;refine vO 41 fun K hK=>?_;go_simp;refine kO hK (fun hx=>by cases hx) ?_;clear hK K;refine Zi (by kernel_rfl) ?_ _;go_wp2;refine Zn (Q:=Qx .ret) (fun s'=>O HRT _ _ _ _ _ _ _ s' (fun _=>(O HA).trans (Uk (Jc _ _ _ _)).symm) (O HE2) (O HK2)) _ ?_;rfl
 ·
  rw [Zy];refine Yf ?_;conv=>arg 2; whnf
  have HRT:=Y (hno hc);have HIS:=Y (show Calls Tryz.prog 46 #[.pointer (some ⟨eb,0,none⟩),.slice (some ⟨(V.drewN 1).heap.size,0,none⟩) 3 3] ((V.drewN 1).alloc (.cells #[.int .i64 r,.int .i64 x,.int .i64 y] 3 (0,0))) (fun e w'=>e=.returned (.bool false)∧ER w' A B N G eb rb sb a (m.fault 1)∧Ke (V.drewN 1).heap.size eb rb sb (V.drewN 1) w') from Ul ((hS.dr 1).er) hz hT [r,x,y] (by simp) hc);have HC0:=Y (show(fun V9=>∃ N9 a9 m9,m9.rg=m.rg∧Jt V9 A B N9 G eb rb sb a9 m9 xb ⟨op,r,x,y,n,wd,f⟩ fn) (V.drewN 1) from⟨N,a,m,rfl,hS.dr 1⟩);clear hS hok hno;go_upto_region 10 with fail
  refine Zh (C:=fun V9=>∃ N9 a9 m9,m9.rg=m.rg∧Jt V9 A B N9 G eb rb sb a9 m9 xb ⟨op,r,x,y,n,wd,f⟩ fn) (d:=39) (by kernel_rfl) ?_;change Ye _ _ _ _ _ _ _ _ _ (V.drewN 1)
  refine vU 0 (O HC0) ?_;refine vU 1 (O HC0) ?_;refine vU 2 (O HC0) ?_;refine vU 3 (O HC0) ?_;refine vU 4 (O HC0) ?_;refine vU 5 (O HC0) ?_;refine vU 6 (O HC0) ?_;refine vU 7 (O HC0) ?_;refine vU 8 (O HC0) ?_;refine vU 9 (O HC0) ?_;refine vO 10 fun K hK=>?_;go_simp;refine kO hK (fun _=>⟨N,a,m,rfl,((O HS).dr 1).al _⟩) ?_;clear hK K;refine vO 11 fun K hK=>?_;go_simp;refine(O HIS).mono ?_;rintro e w1 ⟨rfl,h1,k1⟩;have HE:=Y h1;have HKE:=Y ((O HK0).tr (k1.ud.low hB));have HC1:=Y (show(fun V9=>∃ N9 a9 m9,m9.rg=m.rg∧Jt V9 A B N9 G eb rb sb a9 m9 xb ⟨op,r,x,y,n,wd,f⟩ fn) w1 from⟨N,a,m.fault 1,rfl,((O HS).dr 1).ke h1 k1⟩);clear h1 k1 HIS;refine kO hK (fun _=>O HC1) ?_;clear hK K;refine vU 12 (O HC1) ?_;refine vS 13 (O HC1) ?_;refine vS 14 (O HC1) ?_;refine vS 15 (O HC1) ?_;refine vS 16 (O HC1) ?_;refine vS 17 (O HC1) ?_;refine vS 18 (O HC1) ?_;refine vS 19 (O HC1) ?_;refine vS 20 (O HC1) ?_;refine vS 21 (O HC1) ?_;refine vS 22 (O HC1) ?_;refine vS 23 (O HC1) ?_;refine vS 24 (O HC1) ?_;refine vS 25 (O HC1) ?_;refine vS 26 (O HC1) ?_;refine vS 27 (O HC1) ?_;refine vS 28 (O HC1) ?_;refine vS 29 (O HC1) ?_;refine vS 30 (O HC1) ?_;refine vS 31 (O HC1) ?_;refine vS 32 (O HC1) ?_;refine vS 33 (O HC1) ?_;refine vS 34 (O HC1) ?_;refine vS 35 (O HC1) ?_;refine vS 36 (O HC1) ?_;refine vS 37 (O HC1) ?_;refine vS 38 (O HC1) ?_;refine vO 39 fun K hK=>?_;go_simp;refine kO hK (fun hx=>by cases hx) ?_;clear hK K;refine vO 40 fun K hK=>?_;go_simp;refine kO hK (fun hx=>by cases hx) ?_
  clear hK K;refine vO 41 fun K hK=>?_;go_simp;refine kO hK (fun hx=>by cases hx) ?_;clear hK K;refine Zi (by kernel_rfl) ?_ _;go_wp2;refine Zn (Q:=Qx .ret) (fun s'=>O HRT _ _ _ _ _ _ _ s' (fun e=>absurd (show(5:Int)=0 from e) (by decide)) (O HE) (O HKE)) _ ?_;rfl
end Go.Proofs.YtnlcfnjeagmemaaGreatDoor
