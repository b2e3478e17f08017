import Derived.Test.YtnlcfnjeagmemaaGreatDoorJ3
import Derived.Test.YtnlcfnjeagmemaaGreatDoorJ12
namespace Go.Proofs.YtnlcfnjeagmemaaGreatDoor
open Go.RowKit
set_option maxHeartbeats 4000000
set_option maxRecDepth 100000
section
variable {w:World} {A B N:Nat} {G:Xn} {mb sb:Nat} {m:Zf}
theorem Zzx (h:MR w A B N G mb sb m)(hT:TK G.T)(op a b n wd f:Int)(r:Nat)(hr:r<16) :
 Calls Tryz.prog 91 #[.pointer (some ⟨mb,0,none⟩),.agg #[.int .i64 op,.int .i64 (r:Int),.int .i64 a,.int .i64 b,.int .i64 n,.int .i64 wd,.int .i64 f]] w fun e w'=>(∃ v,e=.returned v)∧MR w' A B N G mb sb ((m.setR G.T r (IntKind.u64.wrap n)).1)∧Kx w.heap.size mb sb w w':=by
 obtain⟨r0,hb0,hz0⟩:=Zs w (.cells #[.int .i64 op,.int .i64 (r:Int),.int .i64 a,.int .i64 b,.int .i64 n,.int .i64 wd,.int .i64 f] 103 (0,0));have HM:=Y (h.al (.cells #[.int .i64 op,.int .i64 (r:Int),.int .i64 a,.int .i64 b,.int .i64 n,.int .i64 wd,.int .i64 f] 103 (0,0)));have HR:=Y r0;have HK:=Y (Gh (a:=mb) (b:=sb) hb0);have RB:=Y h.rb;obtain⟨P,hmi⟩:=(O HM).row;clear r0 hb0 h hmi;go_enter Tryz.func91,Tryz.ntmps91
 go_upto_region 1 with fail
 generalize World.alloc w _=W at HM HR HK hz0 ⊢;have cr:W.cell? ⟨w.heap.size,1,none⟩=some (.int .i64 (r:Int)):=(cR (O HR) 1);have cn:W.cell? ⟨w.heap.size,4,none⟩=some (.int .i64 n):=(cR (O HR) 4);go_wp2_with fail
 refine(Dr (O HM) hT r hr _ (Mi _)).mono ?_;rintro e w2 ⟨rfl,h2,x2⟩;have H2:=Y h2;have X2:=Y x2;clear h2 x2;go_wp2;go_returns;exact⟨⟨_,rfl⟩,O H2,(O HK).tr ((O X2).low (show w.heap.size≤W.heap.size by omega))⟩
theorem Zxx (h:MR w A B N G mb sb m)(hT:TK G.T)(op b n wd f:Int)(r:Nat)(hr:r<16)(a:Nat)(ha:a<16) :
 Calls Tryz.prog 92 #[.pointer (some ⟨mb,0,none⟩),.agg #[.int .i64 op,.int .i64 (r:Int),.int .i64 (a:Int),.int .i64 b,.int .i64 n,.int .i64 wd,.int .i64 f]] w fun e w'=>(∃ v,e=.returned v)∧MR w' A B N G mb sb ((m.setR G.T r (m.rg a)).1)∧Kx w.heap.size mb sb w w':=by
 obtain⟨r0,hb0,hz0⟩:=Zs w (.cells #[.int .i64 op,.int .i64 (r:Int),.int .i64 (a:Int),.int .i64 b,.int .i64 n,.int .i64 wd,.int .i64 f] 103 (0,0));have HM:=Y (h.al (.cells #[.int .i64 op,.int .i64 (r:Int),.int .i64 (a:Int),.int .i64 b,.int .i64 n,.int .i64 wd,.int .i64 f] 103 (0,0)));have HR:=Y r0;have HK:=Y (Gh (a:=mb) (b:=sb) hb0);have RB:=Y h.rb;obtain⟨P,hmi⟩:=(O HM).row;have qa:=((Zd hmi (42+a)).trans (Js _ a ha):_=some (Value.int .u64 (m.rg a)));have ua:(a:Int)<16:=by omega
 clear r0 hb0 h hmi;go_enter Tryz.func92,Tryz.ntmps92
 go_upto_region 1 with fail
 generalize World.alloc w _=W at HM HR HK hz0 qa ⊢;have cr:W.cell? ⟨w.heap.size,1,none⟩=some (.int .i64 (r:Int)):=(cR (O HR) 1);have ca:W.cell? ⟨w.heap.size,2,none⟩=some (.int .i64 (a:Int)):=(cR (O HR) 2);refine Zh (C:=fun V=>∃ k,V=W.drewN k) (d:=10) (by kernel_rfl) ?_;change Ye _ _ _ _ _ _ _ _ _ (W.drewN 1)
 refine vE 0 ?_;refine vE 1 ?_;refine vE 2 ?_;refine vE 3 ?_;refine vE 4 ?_;refine vE 5 ?_;refine vE 6 ?_;refine vE 7 ?_;refine vE 8 ?_;refine vE 9 ?_;refine vO 10 fun K hK=>?_;go_simp;refine(Dr ((O HM).dr 1) hT r hr _ (O RB _)).mono ?_;rintro e w2 ⟨rfl,h2,x2⟩;have H2:=Y h2;have X2:=Y x2;clear h2 x2;refine kO hK (fun hx=>by cases hx) ?_;clear hK K;refine Zi (by kernel_rfl) ?_ _;go_returns;exact⟨⟨_,rfl⟩,O H2,((O HK).dr _).tr ((O X2).low (show w.heap.size≤W.heap.size by omega))⟩
theorem Zof (h:MR w A B N G mb sb m)(hT:TK G.T)(op n wd f:Int)(r:Nat)(hr:r<16)(a:Nat)(ha:a<16)(b:Nat)(hb:b<16) :
 Calls Tryz.prog 93 #[.pointer (some ⟨mb,0,none⟩),.agg #[.int .i64 op,.int .i64 (r:Int),.int .i64 (a:Int),.int .i64 (b:Int),.int .i64 n,.int .i64 wd,.int .i64 f]] w fun e w'=>(∃ v,e=.returned v)∧MR w' A B N G mb sb ((m.setR G.T r (Lr op (m.rg a) (m.rg b))).1)∧Kx w.heap.size mb sb w w':=by
 obtain⟨r0,hb0,hz0⟩:=Zs w (.cells #[.int .i64 op,.int .i64 (r:Int),.int .i64 (a:Int),.int .i64 (b:Int),.int .i64 n,.int .i64 wd,.int .i64 f] 103 (0,0));have HM:=Y (h.al (.cells #[.int .i64 op,.int .i64 (r:Int),.int .i64 (a:Int),.int .i64 (b:Int),.int .i64 n,.int .i64 wd,.int .i64 f] 103 (0,0)));have HR:=Y r0;have HK:=Y (Gh (a:=mb) (b:=sb) hb0);have RB:=Y h.rb;obtain⟨P,hmi⟩:=(O HM).row;have qa:=((Zd hmi (42+a)).trans (Js _ a ha):_=some (Value.int .u64 (m.rg a)));have ua:(a:Int)<16:=by omega
 have qb:=((Zd hmi (42+b)).trans (Js _ b hb):_=some (Value.int .u64 (m.rg b)));have ub:(b:Int)<16:=by omega
 clear r0 hb0 h hmi;go_enter Tryz.func93,Tryz.ntmps93
 go_upto_region 1 with fail
 generalize World.alloc w _=W at HM HR HK hz0 qa qb ⊢;have cop:W.cell? ⟨w.heap.size,0,none⟩=some (.int .i64 op):=(cR (O HR) 0);have cr:W.cell? ⟨w.heap.size,1,none⟩=some (.int .i64 (r:Int)):=(cR (O HR) 1);have ca:W.cell? ⟨w.heap.size,2,none⟩=some (.int .i64 (a:Int)):=(cR (O HR) 2);have cb:W.cell? ⟨w.heap.size,3,none⟩=some (.int .i64 (b:Int)):=(cR (O HR) 3);refine Zh (C:=fun V=>∃ k,V=W.drewN k) (d:=20) (by kernel_rfl) ?_;change Ye _ _ _ _ _ _ _ _ _ (W.drewN 1)
 refine vE 0 ?_;refine vE 1 ?_;refine vE 2 ?_;refine vE 3 ?_;refine vE 4 ?_;refine vE 5 ?_;refine vE 6 ?_;refine vE 7 ?_;refine vE 8 ?_;refine vE 9 ?_;refine vE 10 ?_;refine vE 11 ?_;refine vE 12 ?_;refine vE 13 ?_;refine vE 14 ?_;refine vE 15 ?_;refine vE 16 ?_;refine vE 17 ?_;refine vE 18 ?_;refine vO 19 fun K hK=>?_;go_simp;refine(Zos op _ _ (W.drewN 1)).mono ?_;rintro e w1 ⟨rfl,hw1⟩;subst w1;refine kO hK (fun _=>⟨_,rfl⟩) ?_;clear hK K;refine vO 20 fun K hK=>?_;go_simp;refine(Dr ((O HM).dr 1) hT r hr _ (Zxw _ _ _)).mono ?_;rintro e w2 ⟨rfl,h2,x2⟩;have H2:=Y h2;have X2:=Y x2;clear h2 x2;refine kO hK (fun hx=>by cases hx) ?_;clear hK K;refine Zi (by kernel_rfl) ?_ _;go_returns;exact⟨⟨_,rfl⟩,O H2,((O HK).dr _).tr ((O X2).low (show w.heap.size≤W.heap.size by omega))⟩
theorem Rl (h:MR w A B N G mb sb m)(hT:TK G.T)(r:Nat)(hr:r<16)(a k:Int) :
 Calls Tryz.prog 118 #[.pointer (some ⟨mb,0,none⟩),.int .i64 (r:Int),.int .u64 a,.int .i64 k] w fun e w'=>(∃ v,e=.returned v)∧MR w' A B N G mb sb (Jb G.T m r a k)∧Kx w.heap.size mb sb w w':=by
 have HL:=Y (Cl h a k);have HB:=Y h.byt;go_enter Tryz.func118,Tryz.ntmps118
 go_wp2_with fail
 refine(O HL).mono ?_;rintro e w1 ⟨rfl,h1,x1⟩;have H1:=Y h1;have X1:=Y x1;clear h1 x1 HL h;unfold Ly;cases hz:(m.load a k).2 with
 | none =>
  have HQ:=Y (show Jb G.T m r a k=(m.load a k).1 by unfold Jb; rw [if_neg (by rw [hz]; decide)]);simp only [Option.isSome_none,Option.getD_none];go_wp2;go_returns;rw [O HQ];exact⟨⟨_,rfl⟩,O H1,O X1⟩
 | some x =>
  have HQ:=Y (show Jb G.T m r a k=((m.load a k).1.setR G.T r x).1 by unfold Jb; rw [if_pos (by rw [hz]; rfl),hz]; rfl);have hx:0≤x∧x<18446744073709551616:=by
   unfold Zf.load at hz;split at hz
   ·
    rename_i hh;simp only [Option.some.injEq] at hz;rw [← hz];unfold Zf.reach at hh;refine ldX (O HB) _ _ ?_;split at hh
    ·
     cases hh
    ·
     rename_i hw;have:=(Ry k).1 (by simpa using hw);omega
   ·
    cases hz
  simp only [Option.isSome_some,Option.getD_some];go_wp2_with fail
  refine(Dr (O H1) hT r hr x hx).mono ?_;rintro e w2 ⟨rfl,h2,x2⟩;have H2:=Y h2;have X2:=Y ((O X1).tw x2);clear h2 x2;go_wp2;go_returns;rw [O HQ];exact⟨⟨_,rfl⟩,O H2,O X2⟩
theorem Zzy (h:MR w A B N G mb sb m)(hT:TK G.T)(op a b n wd f:Int)(r:Nat)(hr:r<16) :
 Calls Tryz.prog 94 #[.pointer (some ⟨mb,0,none⟩),.agg #[.int .i64 op,.int .i64 (r:Int),.int .i64 a,.int .i64 b,.int .i64 n,.int .i64 wd,.int .i64 f]] w fun e w'=>(∃ v,e=.returned v)∧MR w' A B N G mb sb (Jb G.T m r (IntKind.u64.wrap (m.sp G.T+IntKind.u64.wrap n)) wd)∧Kx w.heap.size mb sb w w':=by
 obtain⟨r0,hb0,hz0⟩:=Zs w (.cells #[.int .i64 op,.int .i64 (r:Int),.int .i64 a,.int .i64 b,.int .i64 n,.int .i64 wd,.int .i64 f] 103 (0,0));have HM:=Y (h.al (.cells #[.int .i64 op,.int .i64 (r:Int),.int .i64 a,.int .i64 b,.int .i64 n,.int .i64 wd,.int .i64 f] 103 (0,0)));have HR:=Y r0;have HK:=Y (Gh (a:=mb) (b:=sb) hb0);have RB:=Y h.rb;obtain⟨P,hmi⟩:=(O HM).row;clear r0 hb0 h hmi;go_enter Tryz.func94,Tryz.ntmps94
 go_upto_region 1 with fail
 generalize World.alloc w _=W at HM HR HK hz0 ⊢;have cr:W.cell? ⟨w.heap.size,1,none⟩=some (.int .i64 (r:Int)):=(cR (O HR) 1);have cn:W.cell? ⟨w.heap.size,4,none⟩=some (.int .i64 n):=(cR (O HR) 4);have cwd:W.cell? ⟨w.heap.size,5,none⟩=some (.int .i64 wd):=(cR (O HR) 5);refine Zh (C:=fun V=>∃ k,V=W.drewN k) (d:=11) (by kernel_rfl) ?_;change Ye _ _ _ _ _ _ _ _ _ (W.drewN 1)
 refine vE 0 ?_;refine vE 1 ?_;refine vE 2 ?_;refine vE 3 ?_;refine vE 5 ?_;refine vE 6 ?_;refine vE 7 ?_;refine vE 9 ?_;refine vE 10 ?_;refine vO 4 fun K hK=>?_;go_simp;refine(Ns ((O HM).dr 1) hT).mono ?_;rintro e w1 ⟨rfl,k1,hw1⟩;subst w1;rw [World.drewN_drewN];refine hK.out _ _ (fun _=>⟨1+k1,rfl⟩) ?_;clear hK K;change Ye _ _ _ _ _ _ _ _ _ (W.drewN (1+k1))
 try simp only [Act.put,zA,zB,zC,zD,zE,zF]
 refine vE 8 ?_;refine vO 11 fun K hK=>?_;go_simp;refine(Rl ((O HM).dr (1+k1)) hT r hr _ wd).mono ?_;rintro e w2 ⟨⟨v2,rfl⟩,h2,x2⟩;have H2:=Y h2;have X2:=Y x2;clear h2 x2;refine kO hK (fun hx=>by cases hx) ?_;clear hK K;refine Zi (by kernel_rfl) ?_ _;go_returns;exact⟨⟨_,rfl⟩,O H2,((O HK).dr _).tr ((O X2).low (show w.heap.size≤W.heap.size by omega))⟩
theorem Zzz (h:MR w A B N G mb sb m)(hT:TK G.T)(op a b n wd f:Int)(r:Nat)(hr:r<16) :
 Calls Tryz.prog 95 #[.pointer (some ⟨mb,0,none⟩),.agg #[.int .i64 op,.int .i64 (r:Int),.int .i64 a,.int .i64 b,.int .i64 n,.int .i64 wd,.int .i64 f]] w fun e w'=>(∃ v,e=.returned v)∧MR w' A B N G mb sb ((m.store (IntKind.u64.wrap (m.sp G.T+IntKind.u64.wrap n)) wd (m.rg r)).1)∧Kx w.heap.size mb sb w w':=by
 obtain⟨r0,hb0,hz0⟩:=Zs w (.cells #[.int .i64 op,.int .i64 (r:Int),.int .i64 a,.int .i64 b,.int .i64 n,.int .i64 wd,.int .i64 f] 103 (0,0));have HM:=Y (h.al (.cells #[.int .i64 op,.int .i64 (r:Int),.int .i64 a,.int .i64 b,.int .i64 n,.int .i64 wd,.int .i64 f] 103 (0,0)));have HR:=Y r0;have HK:=Y (Gh (a:=mb) (b:=sb) hb0);have RB:=Y h.rb;obtain⟨P,hmi⟩:=(O HM).row;have qr:=((Zd hmi (42+r)).trans (Js _ r hr):_=some (Value.int .u64 (m.rg r)));have ur:(r:Int)<16:=by omega
 clear r0 hb0 h hmi;go_enter Tryz.func95,Tryz.ntmps95
 go_upto_region 1 with fail
 generalize World.alloc w _=W at HM HR HK hz0 qr ⊢;have cr:W.cell? ⟨w.heap.size,1,none⟩=some (.int .i64 (r:Int)):=(cR (O HR) 1);have cn:W.cell? ⟨w.heap.size,4,none⟩=some (.int .i64 n):=(cR (O HR) 4);have cwd:W.cell? ⟨w.heap.size,5,none⟩=some (.int .i64 wd):=(cR (O HR) 5);refine Zh (C:=fun V=>∃ k,V=W.drewN k) (d:=16) (by kernel_rfl) ?_;change Ye _ _ _ _ _ _ _ _ _ (W.drewN 1)
 refine vE 0 ?_;refine vE 1 ?_;refine vE 3 ?_;refine vE 4 ?_;refine vE 5 ?_;refine vE 7 ?_;refine vE 8 ?_;refine vE 9 ?_;refine vE 10 ?_;refine vE 11 ?_;refine vE 12 ?_;refine vE 13 ?_;refine vE 14 ?_;refine vE 15 ?_;refine vO 2 fun K hK=>?_;go_simp;refine(Ns ((O HM).dr 1) hT).mono ?_;rintro e w1 ⟨rfl,k1,hw1⟩;subst w1;rw [World.drewN_drewN];refine hK.out _ _ (fun _=>⟨1+k1,rfl⟩) ?_;clear hK K;change Ye _ _ _ _ _ _ _ _ _ (W.drewN (1+k1))
 try simp only [Act.put,zA,zB,zC,zD,zE,zF]
 refine vE 6 ?_;refine vO 16 fun K hK=>?_;go_simp;refine(Uc ((O HM).dr (1+k1)) _ wd _).mono ?_;rintro e w2 ⟨rfl,h2,x2⟩;have H2:=Y h2;have X2:=Y x2;clear h2 x2;refine kO hK (fun hx=>by cases hx) ?_;clear hK K;refine Zi (by kernel_rfl) ?_ _;go_returns;exact⟨⟨_,rfl⟩,O H2,((O HK).dr _).tr ((O X2).low (show w.heap.size≤W.heap.size by omega))⟩
theorem Zxy (h:MR w A B N G mb sb m)(hT:TK G.T)(op b n wd f:Int)(r:Nat)(hr:r<16)(a:Nat)(ha:a<16) :
 Calls Tryz.prog 96 #[.pointer (some ⟨mb,0,none⟩),.agg #[.int .i64 op,.int .i64 (r:Int),.int .i64 (a:Int),.int .i64 b,.int .i64 n,.int .i64 wd,.int .i64 f]] w fun e w'=>(∃ v,e=.returned v)∧MR w' A B N G mb sb (Jb G.T m r (IntKind.u64.wrap (m.rg a+IntKind.u64.wrap n)) 8)∧Kx w.heap.size mb sb w w':=by
 obtain⟨r0,hb0,hz0⟩:=Zs w (.cells #[.int .i64 op,.int .i64 (r:Int),.int .i64 (a:Int),.int .i64 b,.int .i64 n,.int .i64 wd,.int .i64 f] 103 (0,0));have HM:=Y (h.al (.cells #[.int .i64 op,.int .i64 (r:Int),.int .i64 (a:Int),.int .i64 b,.int .i64 n,.int .i64 wd,.int .i64 f] 103 (0,0)));have HR:=Y r0;have HK:=Y (Gh (a:=mb) (b:=sb) hb0);have RB:=Y h.rb;obtain⟨P,hmi⟩:=(O HM).row;have qa:=((Zd hmi (42+a)).trans (Js _ a ha):_=some (Value.int .u64 (m.rg a)));have ua:(a:Int)<16:=by omega
 clear r0 hb0 h hmi;go_enter Tryz.func96,Tryz.ntmps96
 go_upto_region 1 with fail
 generalize World.alloc w _=W at HM HR HK hz0 qa ⊢;have cr:W.cell? ⟨w.heap.size,1,none⟩=some (.int .i64 (r:Int)):=(cR (O HR) 1);have ca:W.cell? ⟨w.heap.size,2,none⟩=some (.int .i64 (a:Int)):=(cR (O HR) 2);have cn:W.cell? ⟨w.heap.size,4,none⟩=some (.int .i64 n):=(cR (O HR) 4);refine Zh (C:=fun V=>∃ k,V=W.drewN k) (d:=14) (by kernel_rfl) ?_;change Ye _ _ _ _ _ _ _ _ _ (W.drewN 1)
 refine vE 0 ?_;refine vE 1 ?_;refine vE 2 ?_;refine vE 3 ?_;refine vE 4 ?_;refine vE 5 ?_;refine vE 6 ?_;refine vE 7 ?_;refine vE 8 ?_;refine vE 9 ?_;refine vE 10 ?_;refine vE 11 ?_;refine vE 12 ?_;refine vE 13 ?_;refine vO 14 fun K hK=>?_;go_simp;refine(Rl ((O HM).dr 1) hT r hr _ 8).mono ?_;rintro e w2 ⟨⟨v2,rfl⟩,h2,x2⟩;have H2:=Y h2;have X2:=Y x2;clear h2 x2;refine kO hK (fun hx=>by cases hx) ?_;clear hK K;refine Zi (by kernel_rfl) ?_ _;go_returns;exact⟨⟨_,rfl⟩,O H2,((O HK).dr _).tr ((O X2).low (show w.heap.size≤W.heap.size by omega))⟩
theorem Zxz (h:MR w A B N G mb sb m)(hT:TK G.T)(op a b n wd f:Int)(r:Nat)(hr:r<16) :
 Calls Tryz.prog 97 #[.pointer (some ⟨mb,0,none⟩),.agg #[.int .i64 op,.int .i64 (r:Int),.int .i64 a,.int .i64 b,.int .i64 n,.int .i64 wd,.int .i64 f]] w fun e w'=>(∃ v,e=.returned v)∧MR w' A B N G mb sb ((m.setR G.T r (IntKind.u64.wrap (m.sp G.T+IntKind.u64.wrap n))).1)∧Kx w.heap.size mb sb w w':=by
 obtain⟨r0,hb0,hz0⟩:=Zs w (.cells #[.int .i64 op,.int .i64 (r:Int),.int .i64 a,.int .i64 b,.int .i64 n,.int .i64 wd,.int .i64 f] 103 (0,0));have HM:=Y (h.al (.cells #[.int .i64 op,.int .i64 (r:Int),.int .i64 a,.int .i64 b,.int .i64 n,.int .i64 wd,.int .i64 f] 103 (0,0)));have HR:=Y r0;have HK:=Y (Gh (a:=mb) (b:=sb) hb0);have RB:=Y h.rb;obtain⟨P,hmi⟩:=(O HM).row;clear r0 hb0 h hmi;go_enter Tryz.func97,Tryz.ntmps97
 go_upto_region 1 with fail
 generalize World.alloc w _=W at HM HR HK hz0 ⊢;have cr:W.cell? ⟨w.heap.size,1,none⟩=some (.int .i64 (r:Int)):=(cR (O HR) 1);have cn:W.cell? ⟨w.heap.size,4,none⟩=some (.int .i64 n):=(cR (O HR) 4);refine Zh (C:=fun V=>∃ k,V=W.drewN k) (d:=9) (by kernel_rfl) ?_;change Ye _ _ _ _ _ _ _ _ _ (W.drewN 1)
 refine vE 0 ?_;refine vE 1 ?_;refine vE 2 ?_;refine vE 3 ?_;refine vE 5 ?_;refine vE 6 ?_;refine vE 7 ?_;refine vO 4 fun K hK=>?_;go_simp;refine(Ns ((O HM).dr 1) hT).mono ?_;rintro e w1 ⟨rfl,k1,hw1⟩;subst w1;rw [World.drewN_drewN];refine hK.out _ _ (fun _=>⟨1+k1,rfl⟩) ?_;clear hK K;change Ye _ _ _ _ _ _ _ _ _ (W.drewN (1+k1))
 try simp only [Act.put,zA,zB,zC,zD,zE,zF]
 refine vE 8 ?_;refine vO 9 fun K hK=>?_;go_simp;refine(Dr ((O HM).dr (1+k1)) hT r hr _ (Mi _)).mono ?_;rintro e w2 ⟨rfl,h2,x2⟩;have H2:=Y h2;have X2:=Y x2;clear h2 x2;refine kO hK (fun hx=>by cases hx) ?_;clear hK K;refine Zi (by kernel_rfl) ?_ _;go_returns;exact⟨⟨_,rfl⟩,O H2,((O HK).dr _).tr ((O X2).low (show w.heap.size≤W.heap.size by omega))⟩
theorem Zog (h:MR w A B N G mb sb m)(hT:TK G.T)(op r a b n wd f:Int) :
 Calls Tryz.prog 98 #[.pointer (some ⟨mb,0,none⟩),.agg #[.int .i64 op,.int .i64 r,.int .i64 a,.int .i64 b,.int .i64 n,.int .i64 wd,.int .i64 f]] w fun e w'=>(∃ v,e=.returned v)∧MR w' A B N G mb sb ((m.setSP G.T (IntKind.u64.wrap (m.sp G.T+IntKind.u64.wrap n))).1)∧Kx w.heap.size mb sb w w':=by
 obtain⟨r0,hb0,hz0⟩:=Zs w (.cells #[.int .i64 op,.int .i64 r,.int .i64 a,.int .i64 b,.int .i64 n,.int .i64 wd,.int .i64 f] 103 (0,0));have HM:=Y (h.al (.cells #[.int .i64 op,.int .i64 r,.int .i64 a,.int .i64 b,.int .i64 n,.int .i64 wd,.int .i64 f] 103 (0,0)));have HR:=Y r0;have HK:=Y (Gh (a:=mb) (b:=sb) hb0);have RB:=Y h.rb;obtain⟨P,hmi⟩:=(O HM).row;clear r0 hb0 h hmi;go_enter Tryz.func98,Tryz.ntmps98
 go_upto_region 1 with fail
 generalize World.alloc w _=W at HM HR HK hz0 ⊢;have cn:W.cell? ⟨w.heap.size,4,none⟩=some (.int .i64 n):=(cR (O HR) 4);refine Zh (C:=fun V=>∃ k,V=W.drewN k) (d:=7) (by kernel_rfl) ?_;change Ye _ _ _ _ _ _ _ _ _ (W.drewN 1)
 refine vE 0 ?_;refine vE 1 ?_;refine vE 3 ?_;refine vE 4 ?_;refine vE 5 ?_;refine vO 2 fun K hK=>?_;go_simp;refine(Ns ((O HM).dr 1) hT).mono ?_;rintro e w1 ⟨rfl,k1,hw1⟩;subst w1;rw [World.drewN_drewN];refine hK.out _ _ (fun _=>⟨1+k1,rfl⟩) ?_;clear hK K;change Ye _ _ _ _ _ _ _ _ _ (W.drewN (1+k1))
 try simp only [Act.put,zA,zB,zC,zD,zE,zF]
 refine vE 6 ?_;refine vO 7 fun K hK=>?_;go_simp;refine(Rj ((O HM).dr (1+k1)) hT _ (Mi _)).mono ?_;rintro e w2 ⟨rfl,h2,x2⟩;have H2:=Y h2;have X2:=Y x2;clear h2 x2;refine kO hK (fun hx=>by cases hx) ?_;clear hK K;refine Zi (by kernel_rfl) ?_ _;go_returns;exact⟨⟨_,rfl⟩,O H2,((O HK).dr _).tr ((O X2).low (show w.heap.size≤W.heap.size by omega))⟩
end
end Go.Proofs.YtnlcfnjeagmemaaGreatDoor
