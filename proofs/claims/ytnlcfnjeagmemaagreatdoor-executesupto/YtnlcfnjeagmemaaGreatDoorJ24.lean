import Derived.Test.YtnlcfnjeagmemaaGreatDoorJ3
import Derived.Test.YtnlcfnjeagmemaaGreatDoorExAe
namespace Go.Proofs.YtnlcfnjeagmemaaGreatDoor
open Go.RowKit
set_option maxHeartbeats 4000000
set_option maxRecDepth 100000
def Yq (a:Int):Zf→Nat→List Int→Zf
 | m,_,[]=>m
 | m,k,v :: r=>Yq a (m.store (IntKind.u64.wrap (a+8*(k:Int))) 8 v).1 (k+1) r
theorem Ua (a:Int):∀(ws:List Int) (m:Zf) (j k:Nat),k<ws.length→Yq a m j (ws.take (k+1))=((Yq a m j (ws.take k)).store (IntKind.u64.wrap (a+8*((j+k:Nat):Int))) 8 (ws.getD k 0)).1
 | v :: r,m,j,0,_=>by simp [Yq]
 | v :: r,m,j,k+1,h=>by
  have:=Ua a r (m.store (IntKind.u64.wrap (a+8*(j:Int))) 8 v).1 (j+1) k (by simpa using h);rw [show j+1+k=j+(k+1) by omega] at this;simpa [Yq] using this
theorem Nl {x:Int}(h:0≤x)(h2:x<9223372036854775808):IntKind.i64.wrap x=x:=by
 simp [IntKind.wrap,IntKind.bits,IntKind.signed];omega
theorem Znv {x:Int}(h:0≤x)(h2:x<9223372036854775808):wrap64 x=x:=by
 simp only [wrap64];omega
def Xb (T:Zm)(size:Int)(m:Zf)(x:Xm)(ws:List Int):Zf :=
 if x.ref=true then Xa T (Yq (IntKind.u64.wrap (m.sp T+IntKind.u64.wrap (size+x.at_))) m 0 ws) x.pl [IntKind.u64.wrap (m.sp T+IntKind.u64.wrap (size+x.at_))] else Xa T m x.pl ws
section
variable {w:World} {A B N:Nat} {G:Xn} {mb sb:Nat} {m:Zf}
theorem Zlx (h:MR w A B N G mb sb m)(hT:TK G.T)(x:Xm)(pv:Value)(L:Nat)(size:Int)(hpv:Gt w L pv x.pl)(hmL:mb<L)(hsL:sb<L)(hpl:∀ p ∈ x.pl,PlK G.T size p)(ws:List Int)(wp:Option Addr)(wc:Nat)(hw:Lz w A (.slice wp ws.length wc) ws)(hu:∀ k,0≤ws.getD k 0∧ws.getD k 0<18446744073709551616)(hl:ws.length≤8)(h1:x.ref=true→x.pl.length=1)(h2:x.ref=false→x.pl.length≤ws.length)(hos:0≤G.os∧G.os≤1000)(hat:x.ref=true→0≤x.at_∧x.at_≤1000) :
 Calls Tryz.prog 78 #[.pointer (some ⟨mb,0,none⟩),.agg #[pv,.bool x.ref,.int .i64 x.at_],.slice wp ws.length wc] w fun e w'=>(∃ v,e=.returned v)∧MR w' A B N G mb sb (Xb G.T G.os m x ws)∧Kx w.heap.size mb sb w w':=by
 have hbd:=h.bd;obtain⟨qp,qc,rfl⟩:=Ze hpv;obtain⟨r0,hb0,hz0⟩:=Zs w (.cells #[.slice qp x.pl.length qc,.bool x.ref,.int .i64 x.at_] 87 (0,0));have HM:=Y (h.al (.cells #[.slice qp x.pl.length qc,.bool x.ref,.int .i64 x.at_] 87 (0,0)));have HR0:=Y r0;have HK0:=Y (show Kx w.heap.size mb sb w (w.alloc (.cells #[.slice qp x.pl.length qc,.bool x.ref,.int .i64 x.at_] 87 (0,0))) from Gh hb0);have HZ0:=Y hz0;have HR:=Y (fun(V:World) (k:Kx w.heap.size mb sb w V)=>show Gt V L (.slice qp x.pl.length qc) x.pl from Xi hpv k (fun g hg=>(hpv.lt g hg).2) hmL hsL);have HW:=Y (fun(V:World) (k:Kx w.heap.size mb sb w V)=>show Lz V A (.slice wp ws.length wc) ws from hw.kx k (by omega) hbd.1 hbd.2.1);have HU:=Y hu;have HPL:=Y hpl;clear r0 hb0 hz0 h hpv hw hu hpl;go_enter Tryz.func78,Tryz.ntmps78
 go_upto_region 1 with fail
 generalize World.alloc w _=W at HM HR0 HK0 HZ0 ⊢;have q0:=((cR (O HR0) 0):_=some (Value.slice qp x.pl.length qc));have q1:=((cR (O HR0) 1):_=some (Value.bool x.ref));have q2:=((cR (O HR0) 2):_=some (Value.int .i64 x.at_));cases hx:x.ref with
 | true =>
  rw [hx] at q1;obtain⟨ha0,ha1⟩:=hat hx;have HX1:=Y (h1 hx);have HQ0:=Y (show Xb G.T G.os m x ws=Xa G.T (Yq (IntKind.u64.wrap (m.sp G.T+IntKind.u64.wrap (G.os+x.at_))) m 0 ws) x.pl [IntKind.u64.wrap (m.sp G.T+IntKind.u64.wrap (G.os+x.at_))] by unfold Xb; rw [if_pos hx]);clear h1 h2 hat hx;obtain⟨PM,hmi⟩:=(O HM).row;have c61:W.cell? ⟨mb,61,none⟩=some (.int .i64 G.os):=(cR hmi 61);have hb:=(O HM).rb G.T.spN;have hsum:IntKind.i64.wrap (G.os+x.at_)=G.os+x.at_:=Nl (by omega) (by omega);clear hmi;go_upto_region 2 with fail
  refine wp_region_held_drew (S:=fun V=>∃ k,V=W.drewN k) (by kernel_rfl) ⟨1,rfl⟩ (fun _=>?_);change wpAnyH _ _ _ _ _ _ _ _ (W.drewN 1)
  refine tE 0 ?_;refine tE 2 ?_;refine tE 3 ?_;refine tE 4 ?_;refine tE 5 ?_;refine tE 6 ?_;refine tE 7 ?_;refine tE 8 ?_;refine tE 9 ?_;refine tE 10 ?_;refine tO 1 fun K hK=>?_;go_simp;refine(Ns ((O HM).dr 1) hT).mono ?_;rintro e w1 ⟨rfl,k1,hw1⟩;subst w1;rw [World.drewN_drewN];refine hK.out _ _ ⟨1+k1,rfl⟩ (fun _=>?_);clear hK K;change wpAnyH _ _ _ _ _ _ _ _ (W.drewN (1+k1))
  try simp only [Act.put,zA,zB,zC,zD,zE,zF]
  refine tE 11 ?_;refine tE 12 ?_;refine wpAnyH_done (by kernel_rfl) ?_ _;obtain⟨a,ha⟩:∃ a,IntKind.u64.wrap (m.sp G.T+IntKind.u64.wrap (G.os+x.at_))=a:=⟨_,rfl⟩;rw [ha] at HQ0 ⊢;have hab:0≤a∧a<18446744073709551616:=by rw [← ha]; exact Mi _
  have p0:(W.drewN (1+k1)).cell? ⟨w.heap.size,0,none⟩=some (.slice qp x.pl.length qc):=q0;have HM1:=Y ((O HM).dr (1+k1));have HK1:=Y ((O HK0).dr (1+k1));have HR1:=Y (show(W.drewN (1+k1)).heap[w.heap.size]?=_ from O HR0);clear q0 q1 q2 c61 ha HM HK0 HR0 hsum hb;generalize W.drewN (1+k1)=W1 at HM1 HK1 HR1 p0 ⊢;go_wp2_with fail
  clear p0;go_loopw [27] (fun s27 V=>∃ k:Nat,s27=.int .i64 k∧k≤ws.length∧MR V A B N G mb sb (Yq a m 0 (ws.take k))∧Kx w.heap.size mb sb w V∧V.heap[w.heap.size]?=some (.cells #[.slice qp x.pl.length qc,.bool x.ref,.int .i64 x.at_] 87 (0,0))) (fun s27 _=>ws.length-(intOf s27).toNat)
  case atStart=>exact⟨0,rfl,by omega,O HM1,O HK1,O HR1⟩
  case round =>
   obtain⟨k,rfl,hk,hmr,hkx,hrow⟩:=hrel;by_cases hk2:k<ws.length
   ·
    obtain⟨p',c',e',-,-,h4⟩:=O HW wr hkx;injection e' with g1 g2 g3;subst g1;obtain⟨wg,wo,hwp,-,hwc⟩:=h4 (by omega);subst hwp;have tk:=hwc k (by omega);have hyb:=O HU k;have HNX:=Y (Ua a ws m 0 k hk2);rw [Nat.zero_add] at HNX;generalize ws.getD k 0=y at hyb tk HNX;have h8:wrap64 (8*(k:Int))=8*(k:Int):=Znv (by omega) (by omega);have h8u:IntKind.u64.wrap (8*(k:Int))=8*(k:Int):=Znu (by omega) (by omega);have HST:=Y (Uc hmr (IntKind.u64.wrap (a+8*(k:Int))) 8 y);have HRW:=Y hrow;have HKX:=Y hkx;have hzr:=hkx.size;have hwl:w.heap.size<wr.heap.size:=Zc hrow;clear h4 hwc g2 g3 hmr hrow hkx;go_wp2_with fail
    refine(O HST).mono ?_;rintro e w2 ⟨rfl,h2,x2⟩;have HM3:=Y (show MR w2 A B N G mb sb (Yq a m 0 (ws.take (k+1))) by rw [O HNX]; exact h2);have HK3:=Y ((O HKX).tr (x2.low hzr));have HR3:=Y ((x2.oth w.heap.size hwl (by omega) (by omega)).trans (O HRW));clear h2 x2 HST HNX tk;go_wp2;go_roundw
    case rel=>exact⟨k+1,by go_num,by omega,O HM3,O HK3,O HR3⟩
    case measure=>simp [intOf]; omega
   ·
    have hkn:k=ws.length:=by omega
    subst hkn;rw [List.take_length] at hmr;have p0:=((cR hrow 0):_=some (Value.slice qp x.pl.length qc));have HM4:=Y hmr;have HK4:=Y hkx;have hzr:=hkx.size;have hwl:w.heap.size<wr.heap.size:=Zc hrow;obtain⟨ra,hba,hza⟩:=Zs wr (.cells #[.int .u64 a] 62 (0,0));have HM5:=Y (hmr.al (.cells #[.int .u64 a] 62 (0,0)));have HK5:=Y (hkx.tr ((Gh (a:=mb) (b:=sb) hba).low hzr));have HRA:=Y ra;have hp5:=(World.cell?_of_block (hba.block w.heap.size hwl)).trans p0;have HZA:=Y (show wr.heap.size<(wr.alloc (.cells #[.int .u64 a] 62 (0,0))).heap.size by omega);have HQ:=Y (show Xb G.T G.os m x ws=Xa G.T (Yq a m 0 ws) x.pl [a] from O HQ0);have hab0:w.heap.size≤wr.heap.size:=hzr;generalize hm9:Yq a m 0 ws=m9 at HM4 HM5 HQ;clear hm9 hmr hrow hkx ra hba hza p0 HM4 HK4 HQ0;have p0:=hp5;clear hp5;go_upto_region 9 with fail
    generalize hwe:wr.heap.size=ab at HRA HZA hab0 ⊢;clear hwe;generalize World.alloc wr _=W5 at HM5 HK5 HRA HZA p0 ⊢;go_wp2_with fail
    clear p0;go_loopw [46] (fun s46 V=>∃ k:Nat,s46=.int .i64 k∧k≤x.pl.length∧MR V A B N G mb sb (Xa G.T m9 (x.pl.take k) [a])∧Kx w.heap.size mb sb w V∧V.heap[ab]?=some (.cells #[.int .u64 a] 62 (0,0))) (fun s46 _=>x.pl.length-(intOf s46).toNat)
    case atStart=>exact⟨0,rfl,by omega,O HM5,O HK5,O HRA⟩
    case round =>
     obtain⟨k,rfl,hk,hmr,hkx,hxt⟩:=hrel;by_cases hk2:k<x.pl.length
     ·
      obtain⟨g,cg,e1,hLg,d0,d1⟩:=Gv (O HR wr hkx) hk2;injection e1 with f1 f2 f3;subst f1;have hpk:=O HPL _ (Je hk2);have HNX:=Y (Nu G.T x.pl m9 [a] k hk2);obtain rfl:k=0:=by have:=O HX1; omega
      rw [show((0:Nat):Int)=(0:Int) from rfl];simp only [Nat.zero_mul,Nat.zero_add] at d0 d1;have tk:wr.cell? ⟨ab,0,none⟩=some (.int .u64 (([a]:List Int).getD 0 0)):=(cR hxt 0);have hyb:0≤([a]:List Int).getD 0 0∧([a]:List Int).getD 0 0<18446744073709551616:=hab;generalize [a].getD 0 0=y at hyb tk HNX;generalize x.pl.getD 0 (0,0)=p at d0 d1 hpk HNX;obtain⟨pa,pb⟩:=p;simp only at d0 d1;have hpa:pa=-1∨0≤pa∧pa<16:=by
       have:=hT.r16;rcases hpk with h | h <;> simp only at h <;> omega
      obtain⟨hra,hba,hsa⟩:=Zs wr (.cells #[.int .i64 pa,.int .i64 pb] 91 (0,0));have HMA:=Y (hmr.al (.cells #[.int .i64 pa,.int .i64 pb] 91 (0,0)));have g0:=((cR hra 0):_=some (Value.int .i64 pa));have g1:=((cR hra 1):_=some (Value.int .i64 pb));have hzr:=hkx.size;have tk2:=(World.cell?_of_block (hba.block _ (World.block_lt_of_cell? wr _ tk))).trans tk;have HK2:=Y (hkx.tr ((Gh (a:=mb) (b:=sb) hba).low hzr));have HSA:=Y (show wr.heap.size<(wr.alloc (.cells #[.int .i64 pa,.int .i64 pb] 91 (0,0))).heap.size by omega);have HXT2:=Y ((hba.block ab (Zc hxt)).trans hxt);have hxl:ab<wr.heap.size:=Zc hxt;clear hxt;clear hmr hkx hra hba hsa hpk f2 f3;go_upto_region 12 with fail
      generalize World.alloc wr _=V2 at HMA g0 g1 tk2 HK2 HSA HXT2 ⊢;clear d0 d1 tk;refine Zh (C:=fun V=>∃ k,V=V2.drewN k) (d:=6) (by kernel_rfl) ?_;change Ye _ _ _ _ _ _ _ _ _ (V2.drewN 1)
      refine vE 0 ?_;refine vE 1 ?_;refine vE 2 ?_;refine vE 3 ?_;refine vE 4 ?_;refine vE 5 ?_;refine vO 6 fun K hK=>?_;go_simp;refine(Rk ((O HMA).dr 1) hT pa pb y hpa hyb).mono ?_;rintro e w2 ⟨rfl,h2,x2⟩;have H2:=Y h2;have X2:=Y x2;clear h2 x2;refine kO hK (fun hx=>by cases hx) ?_;clear hK K;refine Zi (by kernel_rfl) ?_ _;have HM3:=Y (show MR w2 A B N G mb sb (Xa G.T m9 (x.pl.take (0+1)) [a]) by rw [O HNX]; exact O H2);have HK3:=Y (((O HK2).dr 1).tr ((O X2).low (show w.heap.size≤V2.heap.size by have:=O HSA; omega)));have HXT3:=Y (((O X2).oth ab (show ab<V2.heap.size by have:=O HSA; omega) (by omega) (by omega)).trans (show(V2.drewN 1).heap[ab]?=_ from O HXT2));clear H2 X2 HNX HMA HK2;go_wp2;go_roundw
      case rel=>exact⟨0+1,by go_num,by omega,O HM3,O HK3,O HXT3⟩
      case measure=>simp [intOf]; omega
     ·
      have hkn:k=x.pl.length:=by omega
      subst hkn;rw [List.take_length] at hmr;have HMR:=Y hmr;have HKX:=Y hkx;clear hmr hkx;go_wp2;go_returns;refine⟨⟨_,rfl⟩,?_,O HKX⟩;rw [O HQ];exact O HMR
 | false =>
  rw [hx] at q1;have hx2:=h2 hx;have HQ:=Y (show Xb G.T G.os m x ws=Xa G.T m x.pl ws by unfold Xb; rw [if_neg (by rw [hx]; decide)]);clear h1 h2 hat hx;have p0:=q0;clear q2 q0;go_wp2_with fail
  clear p0 q1;go_loopw [46] (fun s46 V=>∃ k:Nat,s46=.int .i64 k∧k≤x.pl.length∧MR V A B N G mb sb (Xa G.T m (x.pl.take k) ws)∧Kx w.heap.size mb sb w V) (fun s46 _=>x.pl.length-(intOf s46).toNat)
  case atStart=>exact⟨0,rfl,by omega,O HM,O HK0⟩
  case round =>
   obtain⟨k,rfl,hk,hmr,hkx⟩:=hrel;by_cases hk2:k<x.pl.length
   ·
    obtain⟨g,cg,e1,hLg,d0,d1⟩:=Gv (O HR wr hkx) hk2;injection e1 with f1 f2 f3;subst f1;have hpk:=O HPL _ (Je hk2);have HNX:=Y (Nu G.T x.pl m ws k hk2);obtain⟨p',c',e',-,-,h4⟩:=O HW wr hkx;injection e' with g1 g2 g3;subst g1;obtain⟨wg,wo,hwp,-,hwc⟩:=h4 (by omega);subst hwp;have tk:=hwc k (by omega);have hyb:=O HU k;have hkw:k<ws.length:=by omega
    clear h4 hwc g2 g3;generalize ws.getD k 0=y at hyb tk HNX;generalize x.pl.getD k (0,0)=p at d0 d1 hpk HNX;obtain⟨pa,pb⟩:=p;simp only at d0 d1;have hpa:pa=-1∨0≤pa∧pa<16:=by
     have:=hT.r16;rcases hpk with h | h <;> simp only at h <;> omega
    obtain⟨hra,hba,hsa⟩:=Zs wr (.cells #[.int .i64 pa,.int .i64 pb] 91 (0,0));have HMA:=Y (hmr.al (.cells #[.int .i64 pa,.int .i64 pb] 91 (0,0)));have g0:=((cR hra 0):_=some (Value.int .i64 pa));have g1:=((cR hra 1):_=some (Value.int .i64 pb));have hzr:=hkx.size;have tk2:=(World.cell?_of_block (hba.block _ (World.block_lt_of_cell? wr _ tk))).trans tk;have HK2:=Y (hkx.tr ((Gh (a:=mb) (b:=sb) hba).low hzr));have HSA:=Y (show wr.heap.size<(wr.alloc (.cells #[.int .i64 pa,.int .i64 pb] 91 (0,0))).heap.size by omega);clear hmr hkx hra hba hsa hpk f2 f3;go_upto_region 12 with fail
    generalize World.alloc wr _=V2 at HMA g0 g1 tk2 HK2 HSA  ⊢;clear d0 d1 tk;refine Zh (C:=fun V=>∃ k,V=V2.drewN k) (d:=6) (by kernel_rfl) ?_;change Ye _ _ _ _ _ _ _ _ _ (V2.drewN 1)
    refine vE 0 ?_;refine vE 1 ?_;refine vE 2 ?_;refine vE 3 ?_;refine vE 4 ?_;refine vE 5 ?_;refine vO 6 fun K hK=>?_;go_simp;refine(Rk ((O HMA).dr 1) hT pa pb y hpa hyb).mono ?_;rintro e w2 ⟨rfl,h2,x2⟩;have H2:=Y h2;have X2:=Y x2;clear h2 x2;refine kO hK (fun hx=>by cases hx) ?_;clear hK K;refine Zi (by kernel_rfl) ?_ _;have HM3:=Y (show MR w2 A B N G mb sb (Xa G.T m (x.pl.take (k+1)) ws) by rw [O HNX]; exact O H2);have HK3:=Y (((O HK2).dr 1).tr ((O X2).low (show w.heap.size≤V2.heap.size by have:=O HSA; omega)));clear H2 X2 HNX HMA HK2;go_wp2;go_roundw
    case rel=>exact⟨k+1,by go_num,by omega,O HM3,O HK3⟩
    case measure=>simp [intOf]; omega
   ·
    have hkn:k=x.pl.length:=by omega
    subst hkn;rw [List.take_length] at hmr;have HMR:=Y hmr;have HKX:=Y hkx;clear hmr hkx;go_wp2;go_returns;refine⟨⟨_,rfl⟩,?_,O HKX⟩;rw [O HQ];exact O HMR
end
set_option maxHeartbeats 2000000
set_option maxRecDepth 100000
def Yl (l:List Int):Nat:=(l.map fun w=>if w=0 then 1 else w.toNat).foldr (·+·) 0
theorem Zni (l m:List Int):Yl (l++m)=Yl l+Yl m:=by
 induction l with
 | nil=>simp [Yl]
 | cons a l ih =>
  show(if a=0 then 1 else a.toNat)+Yl (l++m)=(if a=0 then 1 else a.toNat)+Yl l+Yl m;omega
theorem Ra (l:List Int)(k:Nat)(h:k<l.length):Yl (l.take (k+1))=Yl (l.take k)+(if l.getD k 0=0 then 1 else (l.getD k 0).toNat):=by
 rw [List.take_add_one,List.getElem?_eq_getElem h,Zni,show l.getD k 0=l[k] by simp [List.getD,h]];simp [Yl]
theorem Ss (l:List Int)(h:∀ k,k<l.length→0≤l.getD k 0∧l.getD k 0≤8):∀ k,k≤l.length→Yl (l.take k)≤8*k
 | 0,_=>by simp [Yl]
 | k+1,hk=>by
  have ih:=Ss l h k (by omega);have:=h k (by omega);rw [Ra l k (by omega)];split <;> omega
theorem Zhk (v:Value)(ps:List Int)(res:Int)(w:World)(h:Li w v ps)(hl:ps.length≤8)(hp:∀ k,k<ps.length→0≤ps.getD k 0∧ps.getD k 0≤8) :
 Calls Tryz.prog 56 #[.agg #[v,.int .i64 res]] w fun e w'=>e=.returned (.int .i64 (Yl ps:Nat))∧Below w.heap.size w w':=by
 obtain⟨q,c,rfl⟩:=h.shape;obtain⟨r0,hb0,hz0⟩:=Zs w (.cells #[.slice q ps.length c,.int .i64 res] 59 (0,0));have HL:=Y (h.below hb0);have HB:=Y hb0;have HP:=Y hp;have HLE:=Y (Ss ps hp);have c0:(w.alloc (.cells #[.slice q ps.length c,.int .i64 res] 59 (0,0))).cell? ⟨w.heap.size,0,none⟩=some (.slice q ps.length c):=(cR r0 0);clear h r0 hb0 hz0 hp;go_enter Tryz.func56,Tryz.ntmps56
 go_upto_region 2 with fail
 generalize World.alloc w _=W at HL HB c0 ⊢;go_wp2_with fail
 go_loopw [9,3] (fun sk sn w'=>∃ k:Nat,sk=.int .i64 k∧sn=.int .i64 (Yl (ps.take k):Nat)∧k≤ps.length∧w'=W) (fun sk _ _=>ps.length-(intOf sk).toNat)
 case atStart=>exact⟨0,rfl,by simp [Yl],by omega,rfl⟩
 case round =>
  obtain⟨k,rfl,rfl,hk,hw⟩:=hrel;subst wr;by_cases hk2:k<ps.length
  ·
   obtain⟨p',c',e1,-,-,hcc⟩:=O HL;injection e1 with f1 f2 f3;obtain⟨sb,so,hsp,hcell⟩:=hcc (by omega);rw [← f1] at hsp;subst hsp;have d:=hcell k hk2;have hb:=O HP k hk2;have hle:=O HLE k hk;have HNX:=Y (Ra ps k hk2);generalize Yl (ps.take k)=m at hle HNX ⊢;generalize ps.getD k 0=y at d hb HNX;clear f1 f2 f3 hcc hcell c0;by_cases hy:y=0
   ·
    subst hy;have HN2:=Y (show Yl (ps.take (k+1))=m+1 by rw [O HNX,if_pos rfl]);clear HNX hb;go_wp2;go_roundw
    case rel=>exact⟨k+1,by go_num,by rw [O HN2]; go_num,by omega,trivial⟩
    case measure=>simp [intOf]; omega
   ·
    obtain⟨z,rfl⟩:=Int.eq_ofNat_of_zero_le hb.1;have HN2:=Y (show Yl (ps.take (k+1))=m+z by rw [O HNX,if_neg hy,Int.toNat_natCast]);have hz1:(1:Int)≤(z:Int):=by omega
    have hz8:z≤8:=by omega
    clear HNX hb hy;go_wp2;go_roundw
    case rel=>exact⟨k+1,by go_num,by rw [O HN2]; go_num,by omega,trivial⟩
    case measure=>simp [intOf]; omega
  ·
   have hkn:k=ps.length:=by omega
   subst hkn;rw [List.take_length];clear c0;go_wp2;go_ret;exact⟨rfl,O HB⟩
end Go.Proofs.YtnlcfnjeagmemaaGreatDoor
