import Derived.Test.YtnlcfnjeagmemaaGreatDoorJ3
import Derived.Test.YtnlcfnjeagmemaaGreatDoorJ28
import Derived.Test.YtnlcfnjeagmemaaGreatDoorJ30
import Derived.Test.YtnlcfnjeagmemaaGreatDoorClFc
import Derived.Test.YtnlcfnjeagmemaaGreatDoorJ14
namespace Go.Proofs.YtnlcfnjeagmemaaGreatDoor
open Go.RowKit
set_option maxHeartbeats 4000000
set_option maxRecDepth 100000
section
variable {w:World} {A B N:Nat} {G:Ji} {eb rb sb:Nat} {a:Int} {m:Zf}
theorem Zdf (h:ER w A B N G eb rb sb a m)(hz:m.kind≠0)(k c:Int) :
 Calls Tryz.prog 30 #[.pointer (some ⟨eb,0,none⟩),.int .i64 k,.int .i64 c] w fun e w'=>e=.returned (.bool false)∧Below w.heap.size w w':=by
 obtain⟨P,hei,-,-,-⟩:=h.regs;have c25:w.cell? ⟨eb,25,none⟩=some (.int .i64 m.kind):=(cR hei 25);have hb:(m.kind==(0:Int))=false:=by rw [beq_eq_false_iff_ne]; exact hz
 clear h hei;go_enter Tryz.func30,Tryz.ntmps30
 go_wp2;go_ret;exact⟨rfl,Below.refl _ _⟩
theorem Zsm (h:ER w A B N G eb rb sb a m)(hz:m.kind≠0)(base n k:Int) :
 Calls Tryz.prog 40 #[.pointer (some ⟨eb,0,none⟩),.int .u64 base,.int .i64 n,.int .i64 k] w fun e w'=>e=.returned (Zml m (Xr base n) k)∧Below w.heap.size w w':=by
 obtain⟨x,hx⟩:∃ x,Xr base n=x:=⟨_,rfl⟩;rw [hx];unfold Xr at hx;obtain⟨r0,hb0,hz0⟩:=Zs w (.cells #[.int .i64 1,.int .i64 2,.int .i64 4,.int .i64 8] 3 (0,0));have HE:=Y (h.al (.cells #[.int .i64 1,.int .i64 2,.int .i64 4,.int .i64 8] 3 (0,0)));have HB:=Y hb0;have HR:=Y (show Rs (w.alloc (.cells #[.int .i64 1,.int .i64 2,.int .i64 4,.int .i64 8] 3 (0,0))) (.slice (some ⟨w.heap.size,0,none⟩) 4 4) [1,2,4,8] from .inr ⟨w.heap.size,0,4,rfl,fun i hi=>by
  rw [Zd r0 (0+i)];match i,hi with
  | 0,_=>rfl
  | 1,_=>rfl
  | 2,_=>rfl
  | 3,_=>rfl⟩)
 have HZ:=Y hz0;have hl:=h.len;clear r0 hb0 hz0 h;go_enter Tryz.func40,Tryz.ntmps40
 go_wp2_with fail
 have HH:=Y (Zcg [1,2,4,8] k _ _ (O HR) (by decide));clear HR;generalize World.alloc w _=W at HE HB HH HZ ⊢;refine(O HH).mono ?_;rintro e w1 ⟨rfl,hw1⟩;subst w1;rw [Zjx];clear HH;have HK:=Y (fun V (k:Below W.heap.size W V)=>Zb (O HB) k (show w.heap.size≤W.heap.size by have:=O HZ; omega));cases hw:Cb k with
 | false =>
  have HQ:=Y (show m.reach x k=(m.fault 2,false) by unfold Zf.reach; rw [if_pos hw]);go_wp2_with fail
  refine(Zdf (O HE) hz 5 2).mono ?_;rintro e w2 ⟨rfl,k2⟩;have K2:=Y (O HK w2 k2);clear k2;go_wp2;go_ret2;rw [Mm (by rw [O HQ])];exact⟨rfl,O K2⟩
 | true =>
  by_cases h0:wrap64 x<0
  ·
   have HQ:=Y (show m.reach x k=(m.endK 4 [],false) by unfold Zf.reach; rw [if_neg (by rw [hw]; decide),if_pos h0]);go_wp2_with fail
   refine(Zdf (O HE) hz 4 0).mono ?_;rintro e w2 ⟨rfl,k2⟩;have K2:=Y (O HK w2 k2);clear k2;go_wp2;go_ret2;rw [Mm (by rw [O HQ])];exact⟨rfl,O K2⟩
  ·
   have hk:1≤k∧k≤8:=by
    unfold Cb at hw;simp only [Bool.or_eq_true,beq_iff_eq] at hw;omega
   have hsub:wrap64 ((m.me.length:Int)-k)=m.me.length-k:=by
    simp only [wrap64];omega
   obtain⟨P,hei,-,hmv,-⟩:=(O HE).regs;have c20:W.cell? ⟨eb,20,none⟩=some (.slice (some ⟨sb,0,none⟩) m.me.length m.me.length):=by rw [← hmv]; exact(cR hei 20)
   have hl1:m.me.length<9223372036854775808:=by omega
   clear hei hmv;by_cases h1:(m.me.length:Int)-k<wrap64 x
   ·
    have HQ:=Y (show m.reach x k=(m.fault 2,false) by unfold Zf.reach; rw [if_neg (by rw [hw]; decide),if_neg h0,if_pos h1]);go_wp2_with fail
    refine(Zdf (O HE) hz 5 2).mono ?_;rintro e w2 ⟨rfl,k2⟩;have K2:=Y (O HK w2 k2);clear k2;go_wp2;go_ret2;rw [Mm (by rw [O HQ])];exact⟨rfl,O K2⟩
   ·
    have HQ:=Y (show m.reach x k=(m,true) by unfold Zf.reach; rw [if_neg (by rw [hw]; decide),if_neg h0,if_neg h1]);go_wp2;go_ret2;rw [Ug (by rw [O HQ])];exact⟨rfl,O HB⟩
theorem Zsn (h:ER w A B N G eb rb sb a m)(hz:m.kind≠0)(base n k:Int) :
 Calls Tryz.prog 49 #[.pointer (some ⟨eb,0,none⟩),.int .u64 base,.int .i64 n,.int .i64 k] w fun e w'=>e=.returned (Ly (m.load (Xr base n) k).2)∧Below w.heap.size w w':=by
 have HA:=Y (Zsm h hz base n k);generalize Xr base n=x at HA ⊢;cases hr:(m.reach x k).2 with
 | false =>
  have HQ:=Y (show m.load x k=((m.reach x k).1,none) by unfold Zf.load; rw [if_neg (by rw [hr]; decide)]);rw [Mm hr] at HA;go_enter Tryz.func49,Tryz.ntmps49
  go_wp2_with fail
  refine(O HA).mono ?_;rintro e w1 ⟨rfl,k1⟩;have K1:=Y k1;clear k1 HA hr;go_wp2;go_ret2;rw [O HQ];exact⟨rfl,O K1⟩
 | true =>
  obtain⟨-,a',k',hx,rfl,hak,hk8⟩:=Sb hr;have HQ:=Y (show m.load x k'=(m,some (ldB m.me a' k')) by unfold Zf.load; rw [if_pos hr,hx]; rfl);rw [Ug hr,hx] at HA;go_enter Tryz.func49,Tryz.ntmps49
  go_wp2_with fail
  refine(O HA).mono ?_;rintro e w1 ⟨rfl,k1⟩;obtain⟨P,es,hP⟩:=h.bel k1;have HL:=Y (Zow m.me sb a' k' w1 hP.mem hP.byt hk8 hak hP.len);have c20:w1.cell? ⟨eb,20,none⟩=some (.slice (some ⟨sb,0,none⟩) m.me.length m.me.length):=by rw [← hP.mv]; exact(cR hP.ei 20)
  have K1:=Y k1;clear hP k1 HA hr hx h;go_wp2_with fail
  refine(O HL).mono ?_;rintro e w2 ⟨rfl,hw2⟩;subst w2;clear c20 HL;go_wp2;go_ret2;rw [O HQ];exact⟨rfl,O K1⟩
theorem Zkg (h:ER w A B N G eb rb sb a m)(hz:m.kind≠0)(hT:TK G.T)(pa pb:Int)(hpa:pa=-1∨0≤pa∧pa<G.T.r) :
 Calls Tryz.prog 33 #[.pointer (some ⟨eb,0,none⟩),.agg #[.int .i64 pa,.int .i64 pb]] w fun e w'=>e=.returned (Ly (m.read G.T (pa,pb)).2)∧Below w.heap.size w w':=by
 obtain⟨r0,hb0,hz0⟩:=Zs w (.cells #[.int .i64 pa,.int .i64 pb] 91 (0,0));have HE:=Y (h.al (.cells #[.int .i64 pa,.int .i64 pb] 91 (0,0)));have HK:=Y (show Below w.heap.size w (w.alloc (.cells #[.int .i64 pa,.int .i64 pb] 91 (0,0))) from hb0);have HZ:=Y hz0;have p0:=((cR r0 0):_=some (Value.int .i64 pa));have p1:=((cR r0 1):_=some (Value.int .i64 pb));have hspl:=hT.spl;clear r0 hb0 hz0 h;go_enter Tryz.func33,Tryz.ntmps33
 go_upto_region 1 with fail
 generalize World.alloc w _=W at HE HK HZ p0 p1 ⊢;rcases hpa with rfl | ⟨h0,h1⟩
 ·
  have HQ:=Y (show m.read G.T (-1,pb)=m.load (Xr (m.sp G.T) pb) 8 by unfold Zf.read; rw [if_pos rfl]; rfl);go_upto_region 3 with fail
  have HC0:=Y (show(fun V=>V.cell? ⟨w.heap.size,0,none⟩=some (.int .i64 (-1))∧V.cell? ⟨w.heap.size,1,none⟩=some (.int .i64 pb)) W.drew from⟨p0,p1⟩);clear p0 p1;refine Zh (C:=fun V=>V.cell? ⟨w.heap.size,0,none⟩=some (.int .i64 (-1))∧V.cell? ⟨w.heap.size,1,none⟩=some (.int .i64 pb)) (d:=9) (by kernel_rfl) ?_;refine vD 0 (O HC0) ?_;refine vD 1 (O HC0) ?_;refine vD 3 (O HC0) ?_;refine vD 4 (O HC0) ?_;refine vO 2 fun K hK=>?_;go_simp;refine(Nh ((O HE).dr 1) hT).mono ?_;rintro e w1 ⟨rfl,k1,hw1⟩;rw [World.drewN_drewN] at hw1;subst w1;refine kO hK (fun _=>O HC0) ?_;clear hK K;refine vO 5 fun K hK=>?_;go_simp;refine(Zsn ((O HE).dr (1+k1)) hz (m.sp G.T) pb 8).mono ?_;rintro e w2 ⟨rfl,k2⟩;have HC2:=Y (show(fun V=>V.cell? ⟨w.heap.size,0,none⟩=some (.int .i64 (-1))∧V.cell? ⟨w.heap.size,1,none⟩=some (.int .i64 pb)) w2 from by
   have hr:=k2.block w.heap.size (show w.heap.size<W.heap.size by have:=O HZ; omega);exact⟨(World.cell?_of_block hr).trans (O HC0).1,(World.cell?_of_block hr).trans (O HC0).2⟩)
  have K2:=Y (Zb (O HK) (show Below W.heap.size W w2 from⟨k2.os,k2.tape,k2.output,k2.size,k2.block⟩) (show w.heap.size≤W.heap.size by have:=O HZ; omega));clear k2;unfold Ly;refine kO hK (fun _=>O HC2) ?_;clear hK K;refine vD 6 (O HC2) ?_;refine vD 7 (O HC2) ?_;refine vD 8 (O HC2) ?_;refine vO 9 fun K hK=>?_;go_simp;refine kO hK (fun hx=>by cases hx) ?_;clear hK K;refine Zi (by kernel_rfl) ?_ _;go_wp2;go_ret2;rw [O HQ];exact⟨rfl,O K2⟩
 ·
  obtain⟨r,rfl⟩:∃ r:Nat,pa=r:=⟨pa.toNat,by omega⟩;have HQ:=Y (show m.read G.T ((r:Int),pb)=(m,some (m.rg r)) by unfold Zf.read; rw [if_neg (by omega)]; rfl);obtain⟨P,hei,hrv,-,hrg⟩:=(O HE).regs;have hr1:r<G.T.r.toNat:=by omega
  have c19:W.cell? ⟨eb,19,none⟩=some (.slice (some ⟨rb,0,none⟩) G.T.r.toNat G.T.r.toNat):=by rw [← hrv]; exact(cR hei 19)
  have cr:=hrg r hr1;have hr2:(r:Int)<(G.T.r.toNat:Int):=by omega
  generalize G.T.r.toNat=rn at c19 hr1 hr2;clear hei hrv hrg h1;go_wp2;go_quiet (fail)
  go_wp2;go_ret2;rw [O HQ];exact⟨rfl,(O HK).os,(O HK).tape,(O HK).output,(O HK).size,(O HK).block⟩
end
set_option maxHeartbeats 2000000
set_option maxRecDepth 100000
theorem Zfz (ss:List (List Int×Int))(v:Value)(w:World)(A:Nat)(h:Na w A v ss)(hA:A≤w.heap.size):Calls Tryz.prog 21 #[v] w fun e w'=>e=.returned (.bool (ss.all Xy))∧Below w.heap.size w w':=by
 obtain⟨p,c,rfl,hc1,hc2,hat⟩:=h;have HAT:=Y hat;clear hat;go_enter Tryz.func21,Tryz.ntmps21
 go_wp2_with fail
 go_loopw [7] (fun j w'=>∃ k:Nat,j=.int .i64 k∧k≤ss.length∧Below w.heap.size w w'∧(ss.take k).all Xy=true) (fun j _=>ss.length-(intOf j).toNat)
 case atStart=>exact⟨0,rfl,by omega,Below.refl _ _,by simp⟩
 case round =>
  obtain⟨k,rfl,hk,hbw,hall⟩:=hrel;have hws:=hbw.size;by_cases hk2:k<ss.length
  ·
   obtain⟨g,so,lv,rfl,hg,d0,d1,hli,-⟩:=O HAT k hk2;have e0:=(World.cell?_of_block (hbw.block g (by omega))).trans d0;have e1:=(World.cell?_of_block (hbw.block g (by omega))).trans d1;have hgd:ss[k]=ss.getD k ([],0):=by simp [List.getD,hk2]
   have HNX:=Y (show(ss.take (k+1)).all Xy=Xy (ss.getD k ([],0)) by
    rw [List.take_succ_eq_append_getElem hk2,List.all_append,hall,hgd];simp)
   have HBAD:=Y (fun hb:Xy (ss.getD k ([],0))=false=>show ss.all Xy=false by
    rw [List.all_eq_false];exact⟨ss[k],List.getElem_mem hk2,by rw [hgd,hb]; decide⟩)
   generalize ss.getD k ([],0)=s at e0 e1 hli HNX HBAD d0 d1;obtain⟨ps,r⟩:=s;simp only at e1 hli;obtain⟨lp,lc,rfl⟩:=hli.shape;obtain⟨-,hb2,hz2⟩:=Zs wr (.cells #[.slice lp ps.length lc,.int .i64 r] 59 (0,0));have HB2:=Y (Zb hbw hb2 hws);have HC:=Y (Zuo (.slice lp ps.length lc) ps r _ (hli.below (Zb hbw hb2 hws)));clear hall hgd d0 d1 hli hb2 hz2 hbw;go_wp2_with fail
   refine(O HC).mono ?_;rintro e w3 ⟨rfl,hb3⟩;have HB3:=Y (Zb (O HB2) hb3 (O HB2).size);clear hb3 HC e0 e1;cases hs:Xy (ps,r) with
   | false =>
    go_wp2;go_ret;rw [O HBAD hs];exact⟨rfl,O HB3⟩
   | true =>
    go_wp2;go_roundw
    case rel=>exact⟨k+1,by go_num,by omega,O HB3,by rw [O HNX,hs]⟩
    case measure=>simp [intOf]; omega
  ·
   have hkn:k=ss.length:=by omega
   subst hkn;rw [List.take_length] at hall;have HA2:=Y hall;have HB:=Y hbw;clear hall hbw;go_wp2;go_ret;rw [O HA2];exact⟨rfl,O HB⟩
theorem Zpw (v:Value)(ps:List Int)(res:Int)(w:World)(h:Li w v ps)(hl:ps.length≤8)(hp:∀ k,k<ps.length→0≤ps.getD k 0∧ps.getD k 0≤8) :
 Calls Tryz.prog 23 #[.agg #[v,.int .i64 res]] w fun e w'=>e=.returned (.int .i64 (Yl ps:Nat))∧Below w.heap.size w w':=by
 obtain⟨q,c,rfl⟩:=h.shape;obtain⟨r0,hb0,hz0⟩:=Zs w (.cells #[.slice q ps.length c,.int .i64 res] 59 (0,0));have HL:=Y (h.below hb0);have HB:=Y hb0;have HP:=Y hp;have HLE:=Y (Ss ps hp);have c0:(w.alloc (.cells #[.slice q ps.length c,.int .i64 res] 59 (0,0))).cell? ⟨w.heap.size,0,none⟩=some (.slice q ps.length c):=(cR r0 0);clear h r0 hb0 hz0 hp;go_enter Tryz.func23,Tryz.ntmps23
 go_upto_region 2 with fail
 generalize World.alloc w _=W at HL HB c0 ⊢;go_wp2_with fail
 go_loopw [9,3] (fun sk sn w'=>∃ k:Nat,sk=.int .i64 k∧sn=.int .i64 (Yl (ps.take k):Nat)∧k≤ps.length∧w'=W) (fun sk _ _=>ps.length-(intOf sk).toNat)
 case atStart=>exact⟨0,rfl,by simp [Yl],by omega,rfl⟩
 case round =>
  obtain⟨k,rfl,rfl,hk,hw⟩:=hrel;subst wr;by_cases hk2:k<ps.length
  ·
   obtain⟨p',c',e1,-,-,hcc⟩:=O HL;injection e1 with f1 f2 f3;obtain⟨sb,so,hsp,hcell⟩:=hcc (by omega);rw [← f1] at hsp;subst hsp;have d:=hcell k hk2;have hb:=O HP k hk2;have hle:=O HLE k hk;have HNX:=Y (Ra ps k hk2);generalize Yl (ps.take k)=m at hle HNX ⊢;generalize ps.getD k 0=y at d hb HNX;clear f1 f2 f3 hcc hcell c0;by_cases hy:y=0
   ·
    subst hy;have HN2:=Y (show Yl (ps.take (k+1))=m+1 by rw [O HNX,if_pos rfl]);clear HNX hb;go_wp2;go_roundw
    case rel=>exact⟨k+1,by go_num,by rw [O HN2]; go_num,by omega,trivial⟩
    case measure=>simp [intOf]; omega
   ·
    obtain⟨z,rfl⟩:=Int.eq_ofNat_of_zero_le hb.1;have HN2:=Y (show Yl (ps.take (k+1))=m+z by rw [O HNX,if_neg hy,Int.toNat_natCast]);have hz1:(1:Int)≤(z:Int):=by omega
    have hz8:z≤8:=by omega
    clear HNX hb hy;go_wp2;go_roundw
    case rel=>exact⟨k+1,by go_num,by rw [O HN2]; go_num,by omega,trivial⟩
    case measure=>simp [intOf]; omega
  ·
   have hkn:k=ps.length:=by omega
   subst hkn;rw [List.take_length];clear c0;go_wp2;go_ret;exact⟨rfl,O HB⟩
theorem Zuh {T:Zm}{w V:World}(hT:TbO w T)(ha:T.ag.length≤100)(hr:T.rs.length≤100)(h0:0≤T.sh)(h1:T.sh≤100)(hV:Below w.heap.size w V){ps:List Int}{nr:Int}{lp:Option Addr}{lc:Nat}(hs:Mt (ps,nr))(hl:Li V (.slice lp ps.length lc) ps):Calls Tryz.prog 24 #[.agg #[.int .i64 T.r,.int .i64 T.sp,.int .i64 T.lk,.int .i64 T.t0,.int .i64 T.t1,.slice T.pa T.ag.length T.ca,.slice T.pr T.rs.length T.cr,.slice T.ps T.ss.length T.cs,.int .i64 T.al,.int .i64 T.sh,.int .i64 T.br,.bool T.pairs],.agg #[.slice lp ps.length lc,.int .i64 nr]] V (fun e w'=>∃ av rv pvs,e=.returned (.agg #[av,rv,.int .i64 (Zr T (ps,nr)).size,.int .i64 (Zr T (ps,nr)).copies])∧Yo w' V.heap.size av rv (Zr T (ps,nr)) pvs∧Below V.heap.size V w') :=
 Zus T ps lp lc nr V (hT.below hV).low hl hs.n hs.l hs.r0 hs.r4 ha hr h0 h1
theorem Kh (m m':Zf)(h:m'.me.length=m.me.length)(x k:Int):(m'.reach x k).2=(m.reach x k).2:=by
 unfold Zf.reach;rw [h];by_cases h1:Cb k=false
 ·
  rw [if_pos h1,if_pos h1]
 ·
  rw [if_neg h1,if_neg h1];by_cases h2:wrap64 x<0
  ·
   rw [if_pos h2,if_pos h2]
  ·
   rw [if_neg h2,if_neg h2];by_cases h3:(m.me.length:Int)-k<wrap64 x
   ·
    rw [if_pos h3,if_pos h3]
   ·
    rw [if_neg h3,if_neg h3]
theorem Zqd (m:Zf)(x k:Int):(m.reach x k).1.rg=m.rg:=by
 unfold Zf.reach;repeat' split
 all_goals rfl
theorem Nz (m:Zf)(x k v:Int):(m.store x k v).1.rg=m.rg:=by
 unfold Zf.store;split
 ·
  rfl
 ·
  exact Zqd m x k
theorem Ki (m:Zf)(x k v:Int):(m.store x k v).2=(m.reach x k).2:=by
 unfold Zf.store;split
 ·
  rename_i h; exact h.symm
 ·
  rename_i h;cases hr:(m.reach x k).2
  ·
   rfl
  ·
   exact absurd hr h
theorem Zkx (T:Zm)(base:Int):∀(n k:Nat) (m:Zf),(Ys T base n k m).1.rg=m.rg
 | 0,k,m=>rfl
 | n+1,k,m=>by
  rw [Ys];split
  ·
   rw [Zkx T base n (k+1) _,Nz]
  ·
   exact Nz _ _ _ _
theorem Zky (T:Zm)(base:Int):∀(n k:Nat) (m:Zf),(Ys T base n k m).2=true→∀ j,j<n→(m.reach (IntKind.u64.wrap (m.sp T+8*((k+j:Nat):Int))) 8).2=true
 | 0,k,m,_,j,hj=>by omega
 | n+1,k,m,h,j,hj=>by
  rw [Ys] at h;split at h
  ·
   rename_i hs;rw [Ki] at hs;cases j with
   | zero=>exact hs
   | succ j =>
    have ih:=Zky T base n (k+1) _ h j (by omega);have e:((m.store (IntKind.u64.wrap (m.sp T+8*(k:Int))) 8 (IntKind.u64.wrap (IntKind.u64.wrap (base+1000)+8*(k:Int)))).1).sp T=m.sp T:=by unfold Zf.sp; rw [Nz]
    rw [e,Kh m _ (Xx m _ _ _).len] at ih;rw [show k+(j+1)=k+1+j by omega];exact ih
  ·
   cases h
def Zdm (T:Zm)(m:Zf)(size:Int):Prop:=∀ x:Int,0≤x→x+8≤size→x % 8=0→(m.reach (IntKind.u64.wrap (m.sp T+IntKind.u64.wrap x)) 8).2=true
theorem Zdm.same {T:Zm}{m m':Zf}{size:Int}(h:Zdm T m size)(h1:m'.sp T=m.sp T)(h2:m'.me.length=m.me.length):Zdm T m' size:=fun x a b c=>by
 rw [h1,Kh m m' h2];exact h x a b c
theorem Zqe (T:Zm)(m:Zf)(size:Int)(h:(Zz T m size).2=true)(h1:size≤1000):Zdm T (Zz T m size).1 size:=fun x a b c=>by
 unfold Zz at h ⊢;obtain⟨j,hj⟩:∃ j:Nat,x=8*(j:Int):=⟨(x / 8).toNat,by omega⟩;have:=Zky T _ _ 0 _ h j (by omega);rw [Nat.zero_add] at this;rw [show((Ys T (IntKind.u64.wrap (65536*m.tr.length)) ((size+7) / 8).toNat 0 { m with rg:=Lk T m.rg (IntKind.u64.wrap (65536*m.tr.length)) }).1).sp T=({ m with rg:=Lk T m.rg (IntKind.u64.wrap (65536*m.tr.length)) }:Zf).sp T by unfold Zf.sp; rw [Zkx],Kh { m with rg:=Lk T m.rg (IntKind.u64.wrap (65536*m.tr.length)) } _ (Zdh T _ _ _ _).len,hj,show IntKind.u64.wrap (8*(j:Int))=8*(j:Int) from Lb (by omega) (by omega)];exact this
theorem Zan {T:Zm}{m:Zf}{size:Int}{p:Int×Int}(v:Int)(hT:TK T)(hW:Zdm T m size)(hp:PlK T size p):(m.write T p v).2=true∧Zdm T (m.write T p v).1 size∧(Q0 m→Q0 (m.write T p v).1):=by
 unfold Zf.write;rcases hp with⟨e,h2,h3,h4⟩ | ⟨h2,h3,h4⟩
 ·
  rw [if_pos e];have hr:=hW p.2 h2 h3 h4;have hs:(m.store (IntKind.u64.wrap (m.sp T+IntKind.u64.wrap p.2)) 8 v).2=true:=by rw [Ki]; exact hr
  exact⟨hs,hW.same (by unfold Zf.sp; rw [Nz]) (Xx m _ _ _).len,fun hz=>Uj hz hs⟩
 ·
  rw [if_neg (by omega)];have hne:p.1.toNat≠T.spN:=by have:=hT.sp; omega
  unfold Zf.setR;rw [if_neg hne];refine⟨rfl,hW.same ?_ rfl,fun hz=>⟨hz.kind,hz.code,hz.vals⟩⟩;show Yy m.rg p.1.toNat v T.spN=m.rg T.spN;unfold Yy;rw [if_neg (fun e=>hne e.symm)]
section
variable {w:World} {A B N:Nat} {G:Ji} {eb rb sb:Nat} {a:Int} {m:Zf}
theorem EP.event {V V3:World}{P:PV}{es:List Value}{F:Int}{ws:List Int}{wv tv':Value}{W0:Nat}(h:EP w A B N G eb rb sb P es a m)(hb:Below w.heap.size w V)(hB:B≤W0)(hwv:V.ownsRow W0 62 1 wv ws.length (uC ws))(hg:V.grownBy V3 P.tv.ownBlock)(ho:V3.ownsRow B 99 2 tv' (m.tr.length+1) (evL (m.tr.map (·.1)) es++[.int .i64 F,wv])) :
 ER ((V3.setCell ⟨eb,28,none⟩ tv').setCell ⟨eb,23,none⟩ (.int .i64 ((m.tr.length:Int)+1))) A B V3.heap.size G eb rb sb a { m with tr:=m.tr++[(F,ws)] }∧Ke B eb rb sb w ((V3.setCell ⟨eb,28,none⟩ tv').setCell ⟨eb,23,none⟩ (.int .i64 ((m.tr.length:Int)+1))):=by
 have hbe:=h.be;have hbr:=h.br;have hbs:=h.bs;have hbn:=h.bn;have hnw:=h.nw;have hz:=hb.size;have hgz:=hg.size;have hne:=h.er;have hO:Mc eb V3 ((V3.setCell ⟨eb,28,none⟩ tv').setCell ⟨eb,23,none⟩ (.int .i64 ((m.tr.length:Int)+1))):=Zx (Zl eb 28 V3 tv') (Zl eb 23 _ _);have htv:V.ownsRow B 99 2 P.tv m.tr.length (evL (m.tr.map (·.1)) es):=Yn h.tr.row fun g hg=>hb.block g (h.tr.row.lt g hg).2;have hsz:((V3.setCell ⟨eb,28,none⟩ tv').setCell ⟨eb,23,none⟩ (.int .i64 ((m.tr.length:Int)+1))).heap.size=V3.heap.size:=hO.size;have h3:∀ q,q<B→V3.heap[q]?=w.heap[q]?:=fun q hq=>(hg.block q (by omega) (fun e=>by have:=(htv.lt q e.symm).1; omega)).trans (hb.block q (by omega));have hei:EI ((V3.setCell ⟨eb,28,none⟩ tv').setCell ⟨eb,23,none⟩ (.int .i64 ((m.tr.length:Int)+1))) eb (toE G { P with tv:=tv' } a { m with tr:=m.tr++[(F,ws)] }):=by
  have e1:=heap_setCell_same _ _ 23 _ _ (.int .i64 ((m.tr.length:Int)+1)) (heap_setCell_same _ _ 28 _ _ tv' ((h3 eb hbe).trans h.ei));have e2:toE G { P with tv:=tv' } a { m with tr:=m.tr++[(F,ws)] }={ toE G P a m with tv:=tv',outs:=(m.tr.length:Int)+1 }:=by
   unfold toE;simp only [List.length_append,List.length_cons,List.length_nil];congr 1
  rw [e2];exact e1
 generalize hU:(V3.setCell ⟨eb,28,none⟩ tv').setCell ⟨eb,23,none⟩ (.int .i64 ((m.tr.length:Int)+1))=U at hO hsz hei ⊢;clear hU;have hV:∀(g:Nat) (cs:Array Value) (t:TypeId),V.heap[g]?=some (Obj.cells cs t (0,0))→t≠99→g≠eb→U.heap[g]?=V.heap[g]?:=fun g cs t hr ht hne=>(hO.oth g hne).trans (hg.block g (Zc hr) (fun e=>by
  obtain⟨cs2,hr2⟩:=Jg htv e.symm;exact Jf hr2 hr (fun e=>ht e.symm) rfl))
 have hW:∀(g:Nat) (cs:Array Value) (t:TypeId),w.heap[g]?=some (Obj.cells cs t (0,0))→t≠99→g≠eb→U.heap[g]?=w.heap[g]?:=fun g cs t hr ht hne=>(hV g cs t ((hb.block g (Zc hr)).trans hr) ht hne).trans (hb.block g (Zc hr));have k:Ke B eb rb sb w U:=⟨hO.os.trans (hg.os.trans hb.os),hO.tape.trans (hg.tape.trans hb.tape),hO.output.trans (hg.output.trans hb.output),by omega,fun q h1 h2 _ _=>(hO.oth q h2).trans (h3 q h1)⟩;have hnm:∀ g,B≤g→g≠eb:=fun g hg=>by omega
 have hev:U.ownsRow B 99 2 tv' (m.tr.length+1) (evL (m.tr.map (·.1)) es++[.int .i64 F,wv]):=Yn ho fun g hg=>hO.oth g (hnm g (ho.lt g hg).1);have hws:U.ownsRow B 62 1 wv ws.length (uC ws):=by
  have h1:V.ownsRow B 62 1 wv ws.length (uC ws):=Yh hwv hB;exact Yn h1 fun g hg=>by
   obtain⟨cs,hr⟩:=Jg h1 hg;exact hV g cs _ hr (by decide) (hnm g (h1.lt g hg).1)
 refine⟨⟨{ P with tv:=tv' },es++[wv],hei,?_,?_,h.rv,h.mv,h.len,h.byt,?_,?_,⟨by simp [h.tr.len],?_,fun i hi=>?_⟩,h.rbd,h.pk,h.ae,h.ar,h.as_,hbe,hbr,hbs,by omega,by rw [hsz]; exact Nat.le_refl _,fun g hg=>?_,fun g hg=>by have:=(ho.lt g hg).2; omega,fun i hi g hg=>?_,h.vz,fun e=>by simp at e⟩,k⟩
 ·
  exact(hO.oth rb hne.1.symm).trans ((h3 rb hbr).trans h.rg)
 ·
  exact(hO.oth sb hne.2.1.symm).trans ((h3 sb hbs).trans h.mem)
 ·
  exact Yn h.vv fun g hg=>by
   obtain⟨cs,hr⟩:=Jg h.vv hg;exact hW g cs _ hr (by decide) (hnm g (h.vv.lt g hg).1)
 ·
  exact h.sc.ke k (by have:=h.ae; omega) h.ae h.ar h.as_
 ·
  rw [Zfa _ _ _ _ _ h.tr.len,List.length_append];exact hev
 ·
  by_cases hk2:i<m.tr.length
  ·
   have e1:(es++[wv]).getD i .nilIface=es.getD i .nilIface:=by
    have:i<es.length:=by rw [h.tr.len]; exact hk2
    simp [List.getD,List.getElem?_append_left this]
   have e2:(m.tr++[(F,ws)]).getD i (0,[])=m.tr.getD i (0,[]):=by simp [List.getD,List.getElem?_append_left hk2]
   show World.ownsRow _ _ _ _ ((es++[wv]).getD i .nilIface) ((m.tr++[(F,ws)]).getD i (0,[])).2.length (uC ((m.tr++[(F,ws)]).getD i (0,[])).2);rw [e1,e2];exact Yn (h.tr.each i hk2) fun g hg=>by
    obtain⟨cs,hr⟩:=Jg (h.tr.each i hk2) hg;exact hW g cs _ hr (by decide) (hnm g ((h.tr.each i hk2).lt g hg).1)
  ·
   have hkk:i=m.tr.length:=by simp at hi; omega
   subst hkk;have e1:(es++[wv]).getD m.tr.length .nilIface=wv:=by rw [← h.tr.len]; simp [List.getD]
   have e2:(m.tr++[(F,ws)]).getD m.tr.length (0,[])=(F,ws):=by simp [List.getD]
   show World.ownsRow _ _ _ _ ((es++[wv]).getD m.tr.length .nilIface) ((m.tr++[(F,ws)]).getD m.tr.length (0,[])).2.length (uC ((m.tr++[(F,ws)]).getD m.tr.length (0,[])).2);rw [e1,e2];exact hws
 ·
  have:=h.vn g hg;omega
 ·
  by_cases hk2:i<m.tr.length
  ·
   have e1:(es++[wv]).getD i .nilIface=es.getD i .nilIface:=by
    have:i<es.length:=by rw [h.tr.len]; exact hk2
    simp [List.getD,List.getElem?_append_left this]
   rw [e1] at hg;have:=h.en i hk2 g hg;omega
  ·
   have hkk:i=m.tr.length:=by simp at hi; omega
   subst hkk;have e1:(es++[wv]).getD m.tr.length .nilIface=wv:=by rw [← h.tr.len]; simp [List.getD]
   rw [e1] at hg;have:=(hws.lt g hg).2;rw [hsz] at this;exact this
end
theorem EP.script {w:World}{A B N:Nat}{G:Ji}{eb rb sb:Nat}{P:PV}{es:List Value}{a:Int}{m:Zf}(h:EP w A B N G eb rb sb P es a m)(v:Value)(sc:List Int)(hl:Lz w A v sc):ER (w.setCell ⟨eb,21,none⟩ v) A B N G eb rb sb a { m with sc:=sc }:=by
 have ho:=Zl eb 21 w v;have hk:Ke N eb rb sb w (w.setCell ⟨eb,21,none⟩ v):=Sa ho;have hA:A≤N:=by have:=h.ae; have:=h.be; have:=h.bn; omega
 exact⟨{ P with scr:=v },es,Uf h.ei rfl,(ho.oth rb h.er.1.symm).trans h.rg,(ho.oth sb h.er.2.1.symm).trans h.mem,h.rv,h.mv,h.len,h.byt,Gp h.vv hk h.vn h.be h.br h.bs,hl.ke hk hA h.ae h.ar h.as_,h.tr.ke hk h.tn h.en h.be h.br h.bs,h.rbd,h.pk,h.ae,h.ar,h.as_,h.be,h.br,h.bs,h.bn,Nat.le_trans h.nw hk.size,h.vn,h.tn,h.en,h.vz,h.tz⟩
theorem Zfm (T:Zm)(m:Zf)(s:List Int)(p:Int×Int)(v:Int):(({ m with sc:=s }:Zf).write T p v).1={ (m.write T p v).1 with sc:=s }:=by
 unfold Zf.write Zf.store Zf.setR Zf.setSP Zf.reach Zf.sp Zf.endK Zf.fault;dsimp only;repeat' split
 all_goals first | rfl | simp_all
def Zay (T:Zm):Zf→List (Int×Int)→Zf
 | m,[]=>m
 | m,p :: r=>Zay T (({ m with sc:=m.sc.tail }:Zf).write T p (m.sc.headD 0)).1 r
theorem Zfn (T:Zm):∀(r:List (Int×Int)) (m:Zf),Xa T { m with sc:=m.sc.drop r.length } r m.sc=Zay T m r
 | [],m=>rfl
 | p :: r,m=>by
  rw [Xa,Zay,← Zfn T r,(Um T { m with sc:=m.sc.tail } p (m.sc.headD 0)).sc,Zfm T m (m.sc.drop (p :: r).length),Zfm T m m.sc.tail];generalize (m.write T p (m.sc.headD 0)).1=x;dsimp only;simp only [List.length_cons,List.drop_tail]
theorem Zpi (T:Zm)(res:List (Int×Int))(m:Zf)(k:Nat)(hk:k<res.length):Zay T m (res.drop k)=Zay T (({ m with sc:=m.sc.tail }:Zf).write T (res.getD k (0,0)) (m.sc.headD 0)).1 (res.drop (k+1)):=by
 rw [List.drop_eq_getElem_cons hk,Zay,List.getD_eq_getElem?_getD,List.getElem?_eq_getElem hk];rfl
theorem Zsg {sc:List Int}(h:∀ k,0≤sc.getD k 0∧sc.getD k 0<18446744073709551616):∀ k,0≤sc.tail.getD k 0∧sc.tail.getD k 0<18446744073709551616:=fun k=>by
 cases sc with
 | nil=>exact h k
 | cons x r=>exact h (k+1)
set_option maxHeartbeats 4000000
set_option maxRecDepth 100000
def Fs (a0 a1 a2 a3:Value)(s:Nat→Value):Act:=⟨List.toArray (a0 :: a1 :: a2 :: a3 :: ((List.range 406).map fun i=>s (4+i))),[]⟩
theorem Zy (a0 a1 a2 a3:Value)(s:Nat→Value):Fs a0 a1 a2 a3 s=⟨List.toArray (a0 :: a1 :: a2 :: a3 :: s 4 :: s 5 :: s 6 :: s 7 :: s 8 :: s 9 :: s 10 :: s 11 :: s 12 :: s 13 :: s 14 :: s 15 :: s 16 :: s 17 :: s 18 :: s 19 :: s 20 :: s 21 :: s 22 :: s 23 :: s 24 :: s 25 :: s 26 :: s 27 :: s 28 :: s 29 :: s 30 :: s 31 :: s 32 :: s 33 :: s 34 :: s 35 :: s 36 :: s 37 :: s 38 :: s 39 :: s 40 :: s 41 :: s 42 :: s 43 :: s 44 :: s 45 :: s 46 :: s 47 :: s 48 :: s 49 :: s 50 :: s 51 :: s 52 :: s 53 :: s 54 :: s 55 :: s 56 :: s 57 :: s 58 :: s 59 :: s 60 :: s 61 :: s 62 :: s 63 :: s 64 :: s 65 :: s 66 :: s 67 :: s 68 :: s 69 :: s 70 :: s 71 :: s 72 :: s 73 :: s 74 :: s 75 :: s 76 :: s 77 :: s 78 :: s 79 :: s 80 :: s 81 :: s 82 :: s 83 :: s 84 :: s 85 :: s 86 :: s 87 :: s 88 :: s 89 :: s 90 :: s 91 :: s 92 :: s 93 :: s 94 :: s 95 :: s 96 :: s 97 :: s 98 :: s 99 :: s 100 :: s 101 :: s 102 :: s 103 :: s 104 :: s 105 :: s 106 :: s 107 :: s 108 :: s 109 :: s 110 :: s 111 :: s 112 :: s 113 :: s 114 :: s 115 :: s 116 :: s 117 :: s 118 :: s 119 :: s 120 :: s 121 :: s 122 :: s 123 :: s 124 :: s 125 :: s 126 :: s 127 :: s 128 :: s 129 :: s 130 :: s 131 :: s 132 :: s 133 :: s 134 :: s 135 :: s 136 :: s 137 :: s 138 :: s 139 :: s 140 :: s 141 :: s 142 :: s 143 :: s 144 :: s 145 :: s 146 :: s 147 :: s 148 :: s 149 :: s 150 :: s 151 :: s 152 :: s 153 :: s 154 :: s 155 :: s 156 :: s 157 :: s 158 :: s 159 :: s 160 :: s 161 :: s 162 :: s 163 :: s 164 :: s 165 :: s 166 :: s 167 :: s 168 :: s 169 :: s 170 :: s 171 :: s 172 :: s 173 :: s 174 :: s 175 :: s 176 :: s 177 :: s 178 :: s 179 :: s 180 :: s 181 :: s 182 :: s 183 :: s 184 :: s 185 :: s 186 :: s 187 :: s 188 :: s 189 :: s 190 :: s 191 :: s 192 :: s 193 :: s 194 :: s 195 :: s 196 :: s 197 :: s 198 :: s 199 :: s 200 :: s 201 :: s 202 :: s 203 :: s 204 :: s 205 :: s 206 :: s 207 :: s 208 :: s 209 :: s 210 :: s 211 :: s 212 :: s 213 :: s 214 :: s 215 :: s 216 :: s 217 :: s 218 :: s 219 :: s 220 :: s 221 :: s 222 :: s 223 :: s 224 :: s 225 :: s 226 :: s 227 :: s 228 :: s 229 :: s 230 :: s 231 :: s 232 :: s 233 :: s 234 :: s 235 :: s 236 :: s 237 :: s 238 :: s 239 :: s 240 :: s 241 :: s 242 :: s 243 :: s 244 :: s 245 :: s 246 :: s 247 :: s 248 :: s 249 :: s 250 :: s 251 :: s 252 :: s 253 :: s 254 :: s 255 :: s 256 :: s 257 :: s 258 :: s 259 :: s 260 :: s 261 :: s 262 :: s 263 :: s 264 :: s 265 :: s 266 :: s 267 :: s 268 :: s 269 :: s 270 :: s 271 :: s 272 :: s 273 :: s 274 :: s 275 :: s 276 :: s 277 :: s 278 :: s 279 :: s 280 :: s 281 :: s 282 :: s 283 :: s 284 :: s 285 :: s 286 :: s 287 :: s 288 :: s 289 :: s 290 :: s 291 :: s 292 :: s 293 :: s 294 :: s 295 :: s 296 :: s 297 :: s 298 :: s 299 :: s 300 :: s 301 :: s 302 :: s 303 :: s 304 :: s 305 :: s 306 :: s 307 :: s 308 :: s 309 :: s 310 :: s 311 :: s 312 :: s 313 :: s 314 :: s 315 :: s 316 :: s 317 :: s 318 :: s 319 :: s 320 :: s 321 :: s 322 :: s 323 :: s 324 :: s 325 :: s 326 :: s 327 :: s 328 :: s 329 :: s 330 :: s 331 :: s 332 :: s 333 :: s 334 :: s 335 :: s 336 :: s 337 :: s 338 :: s 339 :: s 340 :: s 341 :: s 342 :: s 343 :: s 344 :: s 345 :: s 346 :: s 347 :: s 348 :: s 349 :: s 350 :: s 351 :: s 352 :: s 353 :: s 354 :: s 355 :: s 356 :: s 357 :: s 358 :: s 359 :: s 360 :: s 361 :: s 362 :: s 363 :: s 364 :: s 365 :: s 366 :: s 367 :: s 368 :: s 369 :: s 370 :: s 371 :: s 372 :: s 373 :: s 374 :: s 375 :: s 376 :: s 377 :: s 378 :: s 379 :: s 380 :: s 381 :: s 382 :: s 383 :: s 384 :: s 385 :: s 386 :: s 387 :: s 388 :: s 389 :: s 390 :: s 391 :: s 392 :: s 393 :: s 394 :: s 395 :: s 396 :: s 397 :: s 398 :: s 399 :: s 400 :: s 401 :: s 402 :: s 403 :: s 404 :: s 405 :: s 406 :: s 407 :: s 408 :: s 409 :: []),[]⟩:=rfl
theorem Zvx (l:List Value)(n:Nat)(h:l.length=n):l=(List.range n).map fun i=>(fun j=>l.getD (j-4) undef) (4+i):=by
 refine List.ext_getElem (by simp [h]) fun k k1 k2=>?_;simp only [List.getElem_map,List.getElem_range];rw [show 4+k-4=k by omega];simp [List.getD,k1]
theorem Zn {Q:Act→World→Prop}{a0 a1 a2 a3:Value}{w:World}(h:∀ s,Q (Fs a0 a1 a2 a3 s) w)(l:List Value)(hl:l.length=406):Q ⟨List.toArray (a0 :: a1 :: a2 :: a3 :: l),[]⟩ w:=by
 have:=h (fun j=>l.getD (j-4) undef);unfold Fs at this;rw [← Zvx l 406 hl] at this;exact this
def Zyi (n r:Act→World→Prop):Exit→Act→World→Prop
 | .normal,a,w=>n a w
 | .ret,a,w=>r a w
 | _,_,_=>False
theorem Yf {P:Program}{c:Code}{Q0:Exit→Act→World→Prop}{a:Act}{w:World}(h:c.wp P (Zyi (Q0 .normal) (Q0 .ret)) a w):c.wp P Q0 a w:=wp_mono h (fun e a w hq=>by
 cases e <;> first | exact hq | exact hq.elim)
def Sf:Code→Code
 | .seq a _=>a
 | c=>c
def Nw:Code→Code
 | .seq _ b=>b
 | c=>c
def eIn:Code→Code
 | .block _ c=>c
 | .loop c=>c
 | c=>c
def Ni:Code→Code
 | .cond _ a _=>a
 | c=>c
def Zyj:Code→Code
 | .cond _ _ b=>b
 | c=>c
def Gd (f:Func):Nat→Code
 | 0=>eIn (Sf (Nw (Nw (Nw (Nw (f.body.getD .skip))))))
 | n+1=>Zyj (Nw (Gd f n))
def Nb (f:Func)(n:Nat):Code:=Ni (Nw (Gd f n))
theorem Dx {op:Int}{a0 a1 a2:Value}{xb:Nat}{s:Nat→Value}{w:World}{Q0:Exit→Act→World→Prop}(d0:w.cell? ⟨xb,0,none⟩=some (.int .i64 op))(ho:(op==(1:Int))=false)(h:∀ s',Code.wp Tryz.prog (Gd Tryz.f31 1) Q0 (Fs a0 a1 a2 (.pointer (some ⟨xb,0,none⟩)) s') w):Code.wp Tryz.prog (Gd Tryz.f31 0) Q0 (Fs a0 a1 a2 (.pointer (some ⟨xb,0,none⟩)) s) w:=by
 rw [Zy];have H:=Y h;clear h;conv=>arg 2; whnf
 refine wp_seq_k fun K hK=>?_;have HK:=Y hK;clear hK;go_wp2_with fail
 refine O HK _ _ (wp_cond_false rfl ?_);refine Zn (Q:=fun a w=>Code.wp Tryz.prog (Gd Tryz.f31 1) Q0 a w) (O H) _ ?_;rfl
theorem Yab {op:Int}{a0 a1 a2:Value}{xb:Nat}{s:Nat→Value}{w:World}{Q0:Exit→Act→World→Prop}(d0:w.cell? ⟨xb,0,none⟩=some (.int .i64 op))(ho:(op==(1:Int))=true)(h:∀ s',Code.wp Tryz.prog (Nb Tryz.f31 0) Q0 (Fs a0 a1 a2 (.pointer (some ⟨xb,0,none⟩)) s') w):Code.wp Tryz.prog (Gd Tryz.f31 0) Q0 (Fs a0 a1 a2 (.pointer (some ⟨xb,0,none⟩)) s) w:=by
 rw [Zy];have H:=Y h;clear h;conv=>arg 2; whnf
 refine wp_seq_k fun K hK=>?_;have HK:=Y hK;clear hK;go_wp2_with fail
 refine O HK _ _ (wp_cond_true rfl ?_);refine Zn (Q:=fun a w=>Code.wp Tryz.prog (Nb Tryz.f31 0) Q0 a w) (O H) _ ?_;rfl
theorem Sg {op:Int}{a0 a1 a2:Value}{xb:Nat}{s:Nat→Value}{w:World}{Q0:Exit→Act→World→Prop}(d0:w.cell? ⟨xb,0,none⟩=some (.int .i64 op))(ho:(op==(2:Int))=false)(h:∀ s',Code.wp Tryz.prog (Gd Tryz.f31 2) Q0 (Fs a0 a1 a2 (.pointer (some ⟨xb,0,none⟩)) s') w):Code.wp Tryz.prog (Gd Tryz.f31 1) Q0 (Fs a0 a1 a2 (.pointer (some ⟨xb,0,none⟩)) s) w:=by
 rw [Zy];have H:=Y h;clear h;conv=>arg 2; whnf
 refine wp_seq_k fun K hK=>?_;have HK:=Y hK;clear hK;go_wp2_with fail
 refine O HK _ _ (wp_cond_false rfl ?_);refine Zn (Q:=fun a w=>Code.wp Tryz.prog (Gd Tryz.f31 2) Q0 a w) (O H) _ ?_;rfl
theorem Yac {op:Int}{a0 a1 a2:Value}{xb:Nat}{s:Nat→Value}{w:World}{Q0:Exit→Act→World→Prop}(d0:w.cell? ⟨xb,0,none⟩=some (.int .i64 op))(ho:(op==(2:Int))=true)(h:∀ s',Code.wp Tryz.prog (Nb Tryz.f31 1) Q0 (Fs a0 a1 a2 (.pointer (some ⟨xb,0,none⟩)) s') w):Code.wp Tryz.prog (Gd Tryz.f31 1) Q0 (Fs a0 a1 a2 (.pointer (some ⟨xb,0,none⟩)) s) w:=by
 rw [Zy];have H:=Y h;clear h;conv=>arg 2; whnf
 refine wp_seq_k fun K hK=>?_;have HK:=Y hK;clear hK;go_wp2_with fail
 refine O HK _ _ (wp_cond_true rfl ?_);refine Zn (Q:=fun a w=>Code.wp Tryz.prog (Nb Tryz.f31 1) Q0 a w) (O H) _ ?_;rfl
theorem Zyk {op:Int}{a0 a1 a2:Value}{xb:Nat}{s:Nat→Value}{w:World}{Q0:Exit→Act→World→Prop}(d0:w.cell? ⟨xb,0,none⟩=some (.int .i64 op))(h3:op<3)(h:∀ s',Code.wp Tryz.prog (Gd Tryz.f31 3) Q0 (Fs a0 a1 a2 (.pointer (some ⟨xb,0,none⟩)) s') w):Code.wp Tryz.prog (Gd Tryz.f31 2) Q0 (Fs a0 a1 a2 (.pointer (some ⟨xb,0,none⟩)) s) w:=by
 rw [Zy];have H:=Y h;clear h;conv=>arg 2; whnf
 refine wp_seq_k fun K hK=>?_;have HK:=Y hK;clear hK;go_wp2_with fail
 refine O HK _ _ (wp_cond_false rfl ?_);refine Zn (Q:=fun a w=>Code.wp Tryz.prog (Gd Tryz.f31 3) Q0 a w) (O H) _ ?_;rfl
theorem Nx {op:Int}{a0 a1 a2:Value}{xb:Nat}{s:Nat→Value}{w:World}{Q0:Exit→Act→World→Prop}(d0:w.cell? ⟨xb,0,none⟩=some (.int .i64 op))(h3:3≤op)(h9:9<op)(h:∀ s',Code.wp Tryz.prog (Gd Tryz.f31 3) Q0 (Fs a0 a1 a2 (.pointer (some ⟨xb,0,none⟩)) s') w):Code.wp Tryz.prog (Gd Tryz.f31 2) Q0 (Fs a0 a1 a2 (.pointer (some ⟨xb,0,none⟩)) s) w:=by
 have hb9:decide (op≤9)=false:=decide_eq_false (by omega);have hn9:¬ op≤9:=by omega
 rw [Zy];have H:=Y h;clear h;conv=>arg 2; whnf
 refine wp_seq_k fun K hK=>?_;have HK:=Y hK;clear hK;go_wp2_with fail
 refine O HK _ _ (wp_cond_false rfl ?_);refine Zn (Q:=fun a w=>Code.wp Tryz.prog (Gd Tryz.f31 3) Q0 a w) (O H) _ ?_;rfl
theorem Yad {op:Int}{a0 a1 a2:Value}{xb:Nat}{s:Nat→Value}{w:World}{Q0:Exit→Act→World→Prop}(d0:w.cell? ⟨xb,0,none⟩=some (.int .i64 op))(h3:3≤op)(h9:op≤9)(h:∀ s',Code.wp Tryz.prog (Nb Tryz.f31 2) Q0 (Fs a0 a1 a2 (.pointer (some ⟨xb,0,none⟩)) s') w):Code.wp Tryz.prog (Gd Tryz.f31 2) Q0 (Fs a0 a1 a2 (.pointer (some ⟨xb,0,none⟩)) s) w:=by
 rw [Zy];have H:=Y h;clear h;conv=>arg 2; whnf
 refine wp_seq_k fun K hK=>?_;have HK:=Y hK;clear hK;go_wp2_with fail
 refine O HK _ _ (wp_cond_true rfl ?_);refine Zn (Q:=fun a w=>Code.wp Tryz.prog (Nb Tryz.f31 2) Q0 a w) (O H) _ ?_;rfl
theorem Cc {op:Int}{a0 a1 a2:Value}{xb:Nat}{s:Nat→Value}{w:World}{Q0:Exit→Act→World→Prop}(d0:w.cell? ⟨xb,0,none⟩=some (.int .i64 op))(ho:(op==(10:Int))=false)(h:∀ s',Code.wp Tryz.prog (Gd Tryz.f31 4) Q0 (Fs a0 a1 a2 (.pointer (some ⟨xb,0,none⟩)) s') w):Code.wp Tryz.prog (Gd Tryz.f31 3) Q0 (Fs a0 a1 a2 (.pointer (some ⟨xb,0,none⟩)) s) w:=by
 rw [Zy];have H:=Y h;clear h;conv=>arg 2; whnf
 refine wp_seq_k fun K hK=>?_;have HK:=Y hK;clear hK;go_wp2_with fail
 refine O HK _ _ (wp_cond_false rfl ?_);refine Zn (Q:=fun a w=>Code.wp Tryz.prog (Gd Tryz.f31 4) Q0 a w) (O H) _ ?_;rfl
theorem Yae {op:Int}{a0 a1 a2:Value}{xb:Nat}{s:Nat→Value}{w:World}{Q0:Exit→Act→World→Prop}(d0:w.cell? ⟨xb,0,none⟩=some (.int .i64 op))(ho:(op==(10:Int))=true)(h:∀ s',Code.wp Tryz.prog (Nb Tryz.f31 3) Q0 (Fs a0 a1 a2 (.pointer (some ⟨xb,0,none⟩)) s') w):Code.wp Tryz.prog (Gd Tryz.f31 3) Q0 (Fs a0 a1 a2 (.pointer (some ⟨xb,0,none⟩)) s) w:=by
 rw [Zy];have H:=Y h;clear h;conv=>arg 2; whnf
 refine wp_seq_k fun K hK=>?_;have HK:=Y hK;clear hK;go_wp2_with fail
 refine O HK _ _ (wp_cond_true rfl ?_);refine Zn (Q:=fun a w=>Code.wp Tryz.prog (Nb Tryz.f31 3) Q0 a w) (O H) _ ?_;rfl
theorem Zaf {op:Int}{a0 a1 a2:Value}{xb:Nat}{s:Nat→Value}{w:World}{Q0:Exit→Act→World→Prop}(d0:w.cell? ⟨xb,0,none⟩=some (.int .i64 op))(ho:(op==(11:Int))=false)(h:∀ s',Code.wp Tryz.prog (Gd Tryz.f31 5) Q0 (Fs a0 a1 a2 (.pointer (some ⟨xb,0,none⟩)) s') w):Code.wp Tryz.prog (Gd Tryz.f31 4) Q0 (Fs a0 a1 a2 (.pointer (some ⟨xb,0,none⟩)) s) w:=by
 rw [Zy];have H:=Y h;clear h;conv=>arg 2; whnf
 refine wp_seq_k fun K hK=>?_;have HK:=Y hK;clear hK;go_wp2_with fail
 refine O HK _ _ (wp_cond_false rfl ?_);refine Zn (Q:=fun a w=>Code.wp Tryz.prog (Gd Tryz.f31 5) Q0 a w) (O H) _ ?_;rfl
theorem Yaf {op:Int}{a0 a1 a2:Value}{xb:Nat}{s:Nat→Value}{w:World}{Q0:Exit→Act→World→Prop}(d0:w.cell? ⟨xb,0,none⟩=some (.int .i64 op))(ho:(op==(11:Int))=true)(h:∀ s',Code.wp Tryz.prog (Nb Tryz.f31 4) Q0 (Fs a0 a1 a2 (.pointer (some ⟨xb,0,none⟩)) s') w):Code.wp Tryz.prog (Gd Tryz.f31 4) Q0 (Fs a0 a1 a2 (.pointer (some ⟨xb,0,none⟩)) s) w:=by
 rw [Zy];have H:=Y h;clear h;conv=>arg 2; whnf
 refine wp_seq_k fun K hK=>?_;have HK:=Y hK;clear hK;go_wp2_with fail
 refine O HK _ _ (wp_cond_true rfl ?_);refine Zn (Q:=fun a w=>Code.wp Tryz.prog (Nb Tryz.f31 4) Q0 a w) (O H) _ ?_;rfl
theorem Zaz {op:Int}{a0 a1 a2:Value}{xb:Nat}{s:Nat→Value}{w:World}{Q0:Exit→Act→World→Prop}(d0:w.cell? ⟨xb,0,none⟩=some (.int .i64 op))(ho:(op==(12:Int))=false)(h:∀ s',Code.wp Tryz.prog (Gd Tryz.f31 6) Q0 (Fs a0 a1 a2 (.pointer (some ⟨xb,0,none⟩)) s') w):Code.wp Tryz.prog (Gd Tryz.f31 5) Q0 (Fs a0 a1 a2 (.pointer (some ⟨xb,0,none⟩)) s) w:=by
 rw [Zy];have H:=Y h;clear h;conv=>arg 2; whnf
 refine wp_seq_k fun K hK=>?_;have HK:=Y hK;clear hK;go_wp2_with fail
 refine O HK _ _ (wp_cond_false rfl ?_);refine Zn (Q:=fun a w=>Code.wp Tryz.prog (Gd Tryz.f31 6) Q0 a w) (O H) _ ?_;rfl
theorem Yag {op:Int}{a0 a1 a2:Value}{xb:Nat}{s:Nat→Value}{w:World}{Q0:Exit→Act→World→Prop}(d0:w.cell? ⟨xb,0,none⟩=some (.int .i64 op))(ho:(op==(12:Int))=true)(h:∀ s',Code.wp Tryz.prog (Nb Tryz.f31 5) Q0 (Fs a0 a1 a2 (.pointer (some ⟨xb,0,none⟩)) s') w):Code.wp Tryz.prog (Gd Tryz.f31 5) Q0 (Fs a0 a1 a2 (.pointer (some ⟨xb,0,none⟩)) s) w:=by
 rw [Zy];have H:=Y h;clear h;conv=>arg 2; whnf
 refine wp_seq_k fun K hK=>?_;have HK:=Y hK;clear hK;go_wp2_with fail
 refine O HK _ _ (wp_cond_true rfl ?_);refine Zn (Q:=fun a w=>Code.wp Tryz.prog (Nb Tryz.f31 5) Q0 a w) (O H) _ ?_;rfl
theorem Zdb {op:Int}{a0 a1 a2:Value}{xb:Nat}{s:Nat→Value}{w:World}{Q0:Exit→Act→World→Prop}(d0:w.cell? ⟨xb,0,none⟩=some (.int .i64 op))(ho:(op==(13:Int))=false)(h:∀ s',Code.wp Tryz.prog (Gd Tryz.f31 7) Q0 (Fs a0 a1 a2 (.pointer (some ⟨xb,0,none⟩)) s') w):Code.wp Tryz.prog (Gd Tryz.f31 6) Q0 (Fs a0 a1 a2 (.pointer (some ⟨xb,0,none⟩)) s) w:=by
 rw [Zy];have H:=Y h;clear h;conv=>arg 2; whnf
 refine wp_seq_k fun K hK=>?_;have HK:=Y hK;clear hK;go_wp2_with fail
 refine O HK _ _ (wp_cond_false rfl ?_);refine Zn (Q:=fun a w=>Code.wp Tryz.prog (Gd Tryz.f31 7) Q0 a w) (O H) _ ?_;rfl
theorem Yah {op:Int}{a0 a1 a2:Value}{xb:Nat}{s:Nat→Value}{w:World}{Q0:Exit→Act→World→Prop}(d0:w.cell? ⟨xb,0,none⟩=some (.int .i64 op))(ho:(op==(13:Int))=true)(h:∀ s',Code.wp Tryz.prog (Nb Tryz.f31 6) Q0 (Fs a0 a1 a2 (.pointer (some ⟨xb,0,none⟩)) s') w):Code.wp Tryz.prog (Gd Tryz.f31 6) Q0 (Fs a0 a1 a2 (.pointer (some ⟨xb,0,none⟩)) s) w:=by
 rw [Zy];have H:=Y h;clear h;conv=>arg 2; whnf
 refine wp_seq_k fun K hK=>?_;have HK:=Y hK;clear hK;go_wp2_with fail
 refine O HK _ _ (wp_cond_true rfl ?_);refine Zn (Q:=fun a w=>Code.wp Tryz.prog (Nb Tryz.f31 6) Q0 a w) (O H) _ ?_;rfl
theorem Zfo {op:Int}{a0 a1 a2:Value}{xb:Nat}{s:Nat→Value}{w:World}{Q0:Exit→Act→World→Prop}(d0:w.cell? ⟨xb,0,none⟩=some (.int .i64 op))(ho:(op==(14:Int))=false)(h:∀ s',Code.wp Tryz.prog (Gd Tryz.f31 8) Q0 (Fs a0 a1 a2 (.pointer (some ⟨xb,0,none⟩)) s') w):Code.wp Tryz.prog (Gd Tryz.f31 7) Q0 (Fs a0 a1 a2 (.pointer (some ⟨xb,0,none⟩)) s) w:=by
 rw [Zy];have H:=Y h;clear h;conv=>arg 2; whnf
 refine wp_seq_k fun K hK=>?_;have HK:=Y hK;clear hK;go_wp2_with fail
 refine O HK _ _ (wp_cond_false rfl ?_);refine Zn (Q:=fun a w=>Code.wp Tryz.prog (Gd Tryz.f31 8) Q0 a w) (O H) _ ?_;rfl
theorem Yai {op:Int}{a0 a1 a2:Value}{xb:Nat}{s:Nat→Value}{w:World}{Q0:Exit→Act→World→Prop}(d0:w.cell? ⟨xb,0,none⟩=some (.int .i64 op))(ho:(op==(14:Int))=true)(h:∀ s',Code.wp Tryz.prog (Nb Tryz.f31 7) Q0 (Fs a0 a1 a2 (.pointer (some ⟨xb,0,none⟩)) s') w):Code.wp Tryz.prog (Gd Tryz.f31 7) Q0 (Fs a0 a1 a2 (.pointer (some ⟨xb,0,none⟩)) s) w:=by
 rw [Zy];have H:=Y h;clear h;conv=>arg 2; whnf
 refine wp_seq_k fun K hK=>?_;have HK:=Y hK;clear hK;go_wp2_with fail
 refine O HK _ _ (wp_cond_true rfl ?_);refine Zn (Q:=fun a w=>Code.wp Tryz.prog (Nb Tryz.f31 7) Q0 a w) (O H) _ ?_;rfl
theorem Zid {op:Int}{a0 a1 a2:Value}{xb:Nat}{s:Nat→Value}{w:World}{Q0:Exit→Act→World→Prop}(d0:w.cell? ⟨xb,0,none⟩=some (.int .i64 op))(ho:(op==(15:Int))=false)(h:∀ s',Code.wp Tryz.prog (Gd Tryz.f31 9) Q0 (Fs a0 a1 a2 (.pointer (some ⟨xb,0,none⟩)) s') w):Code.wp Tryz.prog (Gd Tryz.f31 8) Q0 (Fs a0 a1 a2 (.pointer (some ⟨xb,0,none⟩)) s) w:=by
 rw [Zy];have H:=Y h;clear h;conv=>arg 2; whnf
 refine wp_seq_k fun K hK=>?_;have HK:=Y hK;clear hK;go_wp2_with fail
 refine O HK _ _ (wp_cond_false rfl ?_);refine Zn (Q:=fun a w=>Code.wp Tryz.prog (Gd Tryz.f31 9) Q0 a w) (O H) _ ?_;rfl
theorem Yaj {op:Int}{a0 a1 a2:Value}{xb:Nat}{s:Nat→Value}{w:World}{Q0:Exit→Act→World→Prop}(d0:w.cell? ⟨xb,0,none⟩=some (.int .i64 op))(ho:(op==(15:Int))=true)(h:∀ s',Code.wp Tryz.prog (Nb Tryz.f31 8) Q0 (Fs a0 a1 a2 (.pointer (some ⟨xb,0,none⟩)) s') w):Code.wp Tryz.prog (Gd Tryz.f31 8) Q0 (Fs a0 a1 a2 (.pointer (some ⟨xb,0,none⟩)) s) w:=by
 rw [Zy];have H:=Y h;clear h;conv=>arg 2; whnf
 refine wp_seq_k fun K hK=>?_;have HK:=Y hK;clear hK;go_wp2_with fail
 refine O HK _ _ (wp_cond_true rfl ?_);refine Zn (Q:=fun a w=>Code.wp Tryz.prog (Nb Tryz.f31 8) Q0 a w) (O H) _ ?_;rfl
theorem Zmm {op:Int}{a0 a1 a2:Value}{xb:Nat}{s:Nat→Value}{w:World}{Q0:Exit→Act→World→Prop}(d0:w.cell? ⟨xb,0,none⟩=some (.int .i64 op))(ho:(op==(16:Int))=false)(h:∀ s',Code.wp Tryz.prog (Gd Tryz.f31 10) Q0 (Fs a0 a1 a2 (.pointer (some ⟨xb,0,none⟩)) s') w):Code.wp Tryz.prog (Gd Tryz.f31 9) Q0 (Fs a0 a1 a2 (.pointer (some ⟨xb,0,none⟩)) s) w:=by
 rw [Zy];have H:=Y h;clear h;conv=>arg 2; whnf
 refine wp_seq_k fun K hK=>?_;have HK:=Y hK;clear hK;go_wp2_with fail
 refine O HK _ _ (wp_cond_false rfl ?_);refine Zn (Q:=fun a w=>Code.wp Tryz.prog (Gd Tryz.f31 10) Q0 a w) (O H) _ ?_;rfl
theorem Yak {op:Int}{a0 a1 a2:Value}{xb:Nat}{s:Nat→Value}{w:World}{Q0:Exit→Act→World→Prop}(d0:w.cell? ⟨xb,0,none⟩=some (.int .i64 op))(ho:(op==(16:Int))=true)(h:∀ s',Code.wp Tryz.prog (Nb Tryz.f31 9) Q0 (Fs a0 a1 a2 (.pointer (some ⟨xb,0,none⟩)) s') w):Code.wp Tryz.prog (Gd Tryz.f31 9) Q0 (Fs a0 a1 a2 (.pointer (some ⟨xb,0,none⟩)) s) w:=by
 rw [Zy];have H:=Y h;clear h;conv=>arg 2; whnf
 refine wp_seq_k fun K hK=>?_;have HK:=Y hK;clear hK;go_wp2_with fail
 refine O HK _ _ (wp_cond_true rfl ?_);refine Zn (Q:=fun a w=>Code.wp Tryz.prog (Nb Tryz.f31 9) Q0 a w) (O H) _ ?_;rfl
theorem Zfp {op:Int}{a0 a1 a2:Value}{xb:Nat}{s:Nat→Value}{w:World}{Q0:Exit→Act→World→Prop}(d0:w.cell? ⟨xb,0,none⟩=some (.int .i64 op))(ho:(op==(17:Int))=false)(h:∀ s',Code.wp Tryz.prog (Gd Tryz.f31 11) Q0 (Fs a0 a1 a2 (.pointer (some ⟨xb,0,none⟩)) s') w):Code.wp Tryz.prog (Gd Tryz.f31 10) Q0 (Fs a0 a1 a2 (.pointer (some ⟨xb,0,none⟩)) s) w:=by
 rw [Zy];have H:=Y h;clear h;conv=>arg 2; whnf
 refine wp_seq_k fun K hK=>?_;have HK:=Y hK;clear hK;go_wp2_with fail
 refine O HK _ _ (wp_cond_false rfl ?_);refine Zn (Q:=fun a w=>Code.wp Tryz.prog (Gd Tryz.f31 11) Q0 a w) (O H) _ ?_;rfl
theorem Zyl {op:Int}{a0 a1 a2:Value}{xb:Nat}{s:Nat→Value}{w:World}{Q0:Exit→Act→World→Prop}(d0:w.cell? ⟨xb,0,none⟩=some (.int .i64 op))(ho:(op==(17:Int))=true)(h:∀ s',Code.wp Tryz.prog (Nb Tryz.f31 10) Q0 (Fs a0 a1 a2 (.pointer (some ⟨xb,0,none⟩)) s') w):Code.wp Tryz.prog (Gd Tryz.f31 10) Q0 (Fs a0 a1 a2 (.pointer (some ⟨xb,0,none⟩)) s) w:=by
 rw [Zy];have H:=Y h;clear h;conv=>arg 2; whnf
 refine wp_seq_k fun K hK=>?_;have HK:=Y hK;clear hK;go_wp2_with fail
 refine O HK _ _ (wp_cond_true rfl ?_);refine Zn (Q:=fun a w=>Code.wp Tryz.prog (Nb Tryz.f31 10) Q0 a w) (O H) _ ?_;rfl
theorem Zkc {op:Int}{a0 a1 a2:Value}{xb:Nat}{s:Nat→Value}{w:World}{Q0:Exit→Act→World→Prop}(d0:w.cell? ⟨xb,0,none⟩=some (.int .i64 op))(ho:(op==(18:Int))=false)(h:∀ s',Code.wp Tryz.prog (Gd Tryz.f31 12) Q0 (Fs a0 a1 a2 (.pointer (some ⟨xb,0,none⟩)) s') w):Code.wp Tryz.prog (Gd Tryz.f31 11) Q0 (Fs a0 a1 a2 (.pointer (some ⟨xb,0,none⟩)) s) w:=by
 rw [Zy];have H:=Y h;clear h;conv=>arg 2; whnf
 refine wp_seq_k fun K hK=>?_;have HK:=Y hK;clear hK;go_wp2_with fail
 refine O HK _ _ (wp_cond_false rfl ?_);refine Zn (Q:=fun a w=>Code.wp Tryz.prog (Gd Tryz.f31 12) Q0 a w) (O H) _ ?_;rfl
theorem Zym {op:Int}{a0 a1 a2:Value}{xb:Nat}{s:Nat→Value}{w:World}{Q0:Exit→Act→World→Prop}(d0:w.cell? ⟨xb,0,none⟩=some (.int .i64 op))(ho:(op==(18:Int))=true)(h:∀ s',Code.wp Tryz.prog (Nb Tryz.f31 11) Q0 (Fs a0 a1 a2 (.pointer (some ⟨xb,0,none⟩)) s') w):Code.wp Tryz.prog (Gd Tryz.f31 11) Q0 (Fs a0 a1 a2 (.pointer (some ⟨xb,0,none⟩)) s) w:=by
 rw [Zy];have H:=Y h;clear h;conv=>arg 2; whnf
 refine wp_seq_k fun K hK=>?_;have HK:=Y hK;clear hK;go_wp2_with fail
 refine O HK _ _ (wp_cond_true rfl ?_);refine Zn (Q:=fun a w=>Code.wp Tryz.prog (Nb Tryz.f31 11) Q0 a w) (O H) _ ?_;rfl
theorem Zpj {op:Int}{a0 a1 a2:Value}{xb:Nat}{s:Nat→Value}{w:World}{Q0:Exit→Act→World→Prop}(d0:w.cell? ⟨xb,0,none⟩=some (.int .i64 op))(ho:(op==(19:Int))=false)(h:∀ s',Code.wp Tryz.prog (Gd Tryz.f31 13) Q0 (Fs a0 a1 a2 (.pointer (some ⟨xb,0,none⟩)) s') w):Code.wp Tryz.prog (Gd Tryz.f31 12) Q0 (Fs a0 a1 a2 (.pointer (some ⟨xb,0,none⟩)) s) w:=by
 rw [Zy];have H:=Y h;clear h;conv=>arg 2; whnf
 refine wp_seq_k fun K hK=>?_;have HK:=Y hK;clear hK;go_wp2_with fail
 refine O HK _ _ (wp_cond_false rfl ?_);refine Zn (Q:=fun a w=>Code.wp Tryz.prog (Gd Tryz.f31 13) Q0 a w) (O H) _ ?_;rfl
theorem Zyn {op:Int}{a0 a1 a2:Value}{xb:Nat}{s:Nat→Value}{w:World}{Q0:Exit→Act→World→Prop}(d0:w.cell? ⟨xb,0,none⟩=some (.int .i64 op))(ho:(op==(19:Int))=true)(h:∀ s',Code.wp Tryz.prog (Nb Tryz.f31 12) Q0 (Fs a0 a1 a2 (.pointer (some ⟨xb,0,none⟩)) s') w):Code.wp Tryz.prog (Gd Tryz.f31 12) Q0 (Fs a0 a1 a2 (.pointer (some ⟨xb,0,none⟩)) s) w:=by
 rw [Zy];have H:=Y h;clear h;conv=>arg 2; whnf
 refine wp_seq_k fun K hK=>?_;have HK:=Y hK;clear hK;go_wp2_with fail
 refine O HK _ _ (wp_cond_true rfl ?_);refine Zn (Q:=fun a w=>Code.wp Tryz.prog (Nb Tryz.f31 12) Q0 a w) (O H) _ ?_;rfl
theorem Zuc {op:Int}{a0 a1 a2:Value}{xb:Nat}{s:Nat→Value}{w:World}{Q0:Exit→Act→World→Prop}(d0:w.cell? ⟨xb,0,none⟩=some (.int .i64 op))(ho:(op==(20:Int))=false)(h:∀ s',Code.wp Tryz.prog (Gd Tryz.f31 14) Q0 (Fs a0 a1 a2 (.pointer (some ⟨xb,0,none⟩)) s') w):Code.wp Tryz.prog (Gd Tryz.f31 13) Q0 (Fs a0 a1 a2 (.pointer (some ⟨xb,0,none⟩)) s) w:=by
 rw [Zy];have H:=Y h;clear h;conv=>arg 2; whnf
 refine wp_seq_k fun K hK=>?_;have HK:=Y hK;clear hK;go_wp2_with fail
 refine O HK _ _ (wp_cond_false rfl ?_);refine Zn (Q:=fun a w=>Code.wp Tryz.prog (Gd Tryz.f31 14) Q0 a w) (O H) _ ?_;rfl
theorem Zyo {op:Int}{a0 a1 a2:Value}{xb:Nat}{s:Nat→Value}{w:World}{Q0:Exit→Act→World→Prop}(d0:w.cell? ⟨xb,0,none⟩=some (.int .i64 op))(ho:(op==(20:Int))=true)(h:∀ s',Code.wp Tryz.prog (Nb Tryz.f31 13) Q0 (Fs a0 a1 a2 (.pointer (some ⟨xb,0,none⟩)) s') w):Code.wp Tryz.prog (Gd Tryz.f31 13) Q0 (Fs a0 a1 a2 (.pointer (some ⟨xb,0,none⟩)) s) w:=by
 rw [Zy];have H:=Y h;clear h;conv=>arg 2; whnf
 refine wp_seq_k fun K hK=>?_;have HK:=Y hK;clear hK;go_wp2_with fail
 refine O HK _ _ (wp_cond_true rfl ?_);refine Zn (Q:=fun a w=>Code.wp Tryz.prog (Nb Tryz.f31 13) Q0 a w) (O H) _ ?_;rfl
theorem Zyp {op:Int}{a0 a1 a2:Value}{xb:Nat}{s:Nat→Value}{w:World}{Q0:Exit→Act→World→Prop}(d0:w.cell? ⟨xb,0,none⟩=some (.int .i64 op))(ho:(op==(21:Int))=false)(h:∀ s',Code.wp Tryz.prog (Gd Tryz.f31 15) Q0 (Fs a0 a1 a2 (.pointer (some ⟨xb,0,none⟩)) s') w):Code.wp Tryz.prog (Gd Tryz.f31 14) Q0 (Fs a0 a1 a2 (.pointer (some ⟨xb,0,none⟩)) s) w:=by
 rw [Zy];have H:=Y h;clear h;conv=>arg 2; whnf
 refine wp_seq_k fun K hK=>?_;have HK:=Y hK;clear hK;go_wp2_with fail
 refine O HK _ _ (wp_cond_false rfl ?_);refine Zn (Q:=fun a w=>Code.wp Tryz.prog (Gd Tryz.f31 15) Q0 a w) (O H) _ ?_;rfl
theorem Zyq {op:Int}{a0 a1 a2:Value}{xb:Nat}{s:Nat→Value}{w:World}{Q0:Exit→Act→World→Prop}(d0:w.cell? ⟨xb,0,none⟩=some (.int .i64 op))(ho:(op==(21:Int))=true)(h:∀ s',Code.wp Tryz.prog (Nb Tryz.f31 14) Q0 (Fs a0 a1 a2 (.pointer (some ⟨xb,0,none⟩)) s') w):Code.wp Tryz.prog (Gd Tryz.f31 14) Q0 (Fs a0 a1 a2 (.pointer (some ⟨xb,0,none⟩)) s) w:=by
 rw [Zy];have H:=Y h;clear h;conv=>arg 2; whnf
 refine wp_seq_k fun K hK=>?_;have HK:=Y hK;clear hK;go_wp2_with fail
 refine O HK _ _ (wp_cond_true rfl ?_);refine Zn (Q:=fun a w=>Code.wp Tryz.prog (Nb Tryz.f31 14) Q0 a w) (O H) _ ?_;rfl
section
variable {P:Program} {md:Region.Mode} {ops:Array Oper} {Q:Exit→Act→World→Prop} {C:World→Prop} {d:Nat}
theorem vU (i:Nat){oi:Oper}{v:Value}{n:Nat}{L:Array Bool}{a a':Act}{w:World}(hC:C w)(h:Ye P md ops Q C d n (L.setIfInBounds i true) a' w)(hi:ops[i]?=some oi:=by rfl)
 (hk:(okV md ops L d i (upV md ops i)&&(Region.noSelect ops&&(Region.free md ops L i&&(Region.ready md ops L).contains i)))=true:=by kernel_rfl) (hg:Region.wanted oi (yielded ops a.tmps)=true:=by rfl)
 (hy:∀(w:World),C w→Sem.run P (execOp a.eval oi) w=Result.ok (Next.value v) w:=by rintro V9 ⟨N9,a9,m9,hr9,hV⟩; obtain⟨p0,p1,p2,p3,p4,p5,p6,p7,c19⟩:=hV.cs; go_simp; all_goals (with_reducible rfl)) (hQ:∀ c a w,Q (.panic c) (a.put oi.dst v) w→Q (.panic c) a w:=by exact fun _ _ _ h=>h) (ha:a.put oi.dst v=a':=by(try simp only [Act.put,zA,zB,zC,zD,zE,zF]); with_reducible rfl):Ye P md ops Q C d (n+1) L a w :=
 vT i hC h hi hk hg hy hQ ha
theorem vS (i:Nat){oi:Oper}{n:Nat}{L:Array Bool}{a a':Act}{w:World}(hC:C w)(h:Ye P md ops Q C d n (L.setIfInBounds i true) a' w)(hi:ops[i]?=some oi:=by rfl)
 (hk:(okV md ops L d i (upV md ops i)&&(Region.noSelect ops&&(Region.free md ops L i&&(Region.ready md ops L).contains i)))=true:=by kernel_rfl) (hg:Region.wanted oi (yielded ops a.tmps)=false:=by rfl)
 (hQ:∀ c a w,Q (.panic c) (a.put oi.dst undef) w→Q (.panic c) a w:=by exact fun _ _ _ h=>h) (ha:a.put oi.dst undef=a':=by(try simp only [Act.put,zA,zB,zC,zD,zE,zF]); with_reducible rfl):Ye P md ops Q C d (n+1) L a w:=by
 subst ha;simp only [Bool.and_eq_true] at hk;obtain⟨h1,h2,h3,h4⟩:=hk;unfold okV at h1;simp only [Bool.and_eq_true] at h1;obtain⟨b1,b2,b3⟩:=h1;have b2:(upV md ops i).contains i=false:=by simpa using b2
 rw [List.all_eq_true] at b3;refine Iu hi (fun j=>(upV md ops i).contains j) (fun j oj hoj hj=>?_) b2 b1 (Region.noSelect_spec h2) hQ n L a w (Region.free_spec hi h3) (by simpa using h4) (Or.inr ⟨hg,rfl⟩) (fun j hj=>?_) hC h
 ·
  have h5:=b3 j (by simpa using hj);rw [hoj] at h5;simp only [Bool.and_eq_true] at h5;obtain⟨k,hk,hq⟩:=Array.any_eq_true.1 h5.2;simp only [Bool.and_eq_true,Bool.or_eq_true,beq_iff_eq] at hq;exact⟨_,Array.getElem_mem hk,hq.1,hq.2⟩
 ·
  have h5:=b3 j (by simpa using hj);simp only [Bool.and_eq_true] at h5;simpa using h5.1
end
structure Jt (V:World)(A B N:Nat)(G:Ji)(eb rb sb:Nat)(a:Int)(m:Zf)(xb:Nat)(i:Zt)(fn:Nat):Prop where
 er:ER V A B N G eb rb sb a m
 x:V.heap[xb]?=some (.cells #[.int .i64 i.op,.int .i64 i.r,.int .i64 i.a,.int .i64 i.b,.int .i64 i.n,.int .i64 i.w,.int .i64 i.f,.int .i64 (fn:Int)] 114 (0,0))
 xB:B≤xb
section
variable {V V':World} {A B N N':Nat} {G:Ji} {eb rb sb:Nat} {a a':Int} {m m':Zf} {xb:Nat} {i:Zt} {fn:Nat}
theorem Jt.ke (h:Jt V A B N G eb rb sb a m xb i fn)(h':ER V' A B N' G eb rb sb a' m')(k:Ke V.heap.size eb rb sb V V'):Jt V' A B N' G eb rb sb a' m' xb i fn:=by
 have hbd:=h.er.bd;have hx:=h.xB;exact⟨h',(k.oth xb (Zc h.x) (by omega) (by omega) (by omega)).trans h.x,hx⟩
theorem Jt.dr (h:Jt V A B N G eb rb sb a m xb i fn)(k:Nat):Jt (V.drewN k) A B N G eb rb sb a m xb i fn:=⟨h.er.dr k,h.x,h.xB⟩
theorem Jt.al (h:Jt V A B N G eb rb sb a m xb i fn)(X:Obj):Jt (V.alloc X) A B N G eb rb sb a m xb i fn:=by
 have hb:=(Zs V X).2.1;exact⟨h.er.bel hb,(hb.block xb (Zc h.x)).trans h.x,h.xB⟩
theorem Jt.cs {op r x y n wd f:Int}(h:Jt V A B N G eb rb sb a m xb ⟨op,r,x,y,n,wd,f⟩ fn):V.cell? ⟨xb,0,none⟩=some (.int .i64 op)∧V.cell? ⟨xb,1,none⟩=some (.int .i64 r)∧V.cell? ⟨xb,2,none⟩=some (.int .i64 x)∧V.cell? ⟨xb,3,none⟩=some (.int .i64 y)∧V.cell? ⟨xb,4,none⟩=some (.int .i64 n)∧V.cell? ⟨xb,5,none⟩=some (.int .i64 wd)∧V.cell? ⟨xb,6,none⟩=some (.int .i64 f)∧V.cell? ⟨xb,7,none⟩=some (.int .i64 (fn:Int))∧V.cell? ⟨eb,19,none⟩=some (.slice (some ⟨rb,0,none⟩) G.T.r.toNat G.T.r.toNat):=by
 obtain⟨P,hei,hrv,-,-⟩:=h.er.regs;exact⟨(cR h.x 0),(cR h.x 1),(cR h.x 2),(cR h.x 3),(cR h.x 4),(cR h.x 5),(cR h.x 6),(cR h.x 7),by rw [← hrv]; exact(cR hei 19)⟩
theorem Jt.rg (h:Jt V A B N G eb rb sb a m xb i fn)(j:Nat)(hj:j<G.T.r.toNat):V.cell? ⟨rb,j,none⟩=some (.int .u64 (m.rg j)):=by
 obtain⟨P,-,-,-,hrg⟩:=h.er.regs;exact hrg j hj
end
def OuP (w:World)(A B:Nat)(G:Ji)(eb rb sb:Nat)(a:Int)(x:Zf)(e:Ending)(w':World):Prop:=∃ b N',e=.returned (.bool b)∧ER w' A B N' G eb rb sb a x∧Ke B eb rb sb w w'
def Mx (w0:World)(A B:Nat)(G:Ji)(eb rb sb:Nat)(C:Zk)(x:Zf)(Q0:Exit→Act→World→Prop):Prop:=∀(b:Bool) (a':Int) (N':Nat) (V:World) (a0 a1 a3:Value) (s:Nat→Value),(x.kind=0→a'=Yx C x)→ER V A B N' G eb rb sb a' x→Ke B eb rb sb w0 V→Q0 .ret (Fs a0 a1 (.bool b) a3 s) V
theorem Mx.flt {w0:World}{A B:Nat}{G:Ji}{eb rb sb:Nat}{C:Zk}{m:Zf}{c:Int}{Q0:Exit→Act→World→Prop}(h:Mx w0 A B G eb rb sb C (m.fault c) Q0)(k:Int):Mx w0 A B G eb rb sb C (({ m with at_:=k }:Zf).fault c) Q0:=fun b a' N' V a0 a1 a3 s _ he hk=>h b a' N' V a0 a1 a3 s (fun e=>by cases e) (he.goto m.f m.bk m.at_) hk
theorem Ke.ud {N a b c k:Nat}{u v:World}(h:Ke N a b c (u.drewN k) v):Ke N a b c u v:=⟨h.os,h.tape,h.output,h.size,h.oth⟩
theorem Zsh {T:Zm}{ns:List Int}{m:Zf}(h:∀ q ∈ ns,0≤q∧q<T.r):isM T ns m=(m,true):=by
 unfold isM;rw [if_pos (List.all_eq_true.2 fun q hq=>decide_eq_true (h q hq))]
theorem Zvy {T:Zm}{ns:List Int}{m:Zf}(h:¬ ∀ q ∈ ns,0≤q∧q<T.r):isM T ns m=(m.fault 1,false):=by
 unfold isM;rw [if_neg (fun e=>h fun q hq=>of_decide_eq_true (List.all_eq_true.1 e q hq))]
theorem Uk {C:Zk}{m m':Zf}(h:Sm m m'):Yx C m'=Yx C m:=by
 unfold Yx;rw [h.f,h.bk,h.at_]
theorem Zyr (V:World)(ns:List Int):Rs (V.alloc (.cells (ns.map fun q=>Value.int .i64 q).toArray 3 (0,0))) (.slice (some ⟨V.heap.size,0,none⟩) ns.length ns.length) ns:=by
 obtain⟨r0,-,-⟩:=Zs V (.cells (ns.map fun q=>Value.int .i64 q).toArray 3 (0,0));refine .inr ⟨V.heap.size,0,ns.length,rfl,fun i hi=>?_⟩;rw [Zd r0 (0+i)];simp [List.getD,hi]
section
variable {V:World} {A B N:Nat} {G:Ji} {eb rb sb:Nat} {a:Int} {m:Zf}
theorem Zpk (h:ER V A B N G eb rb sb a m)(hz:Q0 m)(hT:TK G.T)(ns:List Int)(h3:ns.length≤3):Calls Tryz.prog 46 #[.pointer (some ⟨eb,0,none⟩),.slice (some ⟨V.heap.size,0,none⟩) ns.length ns.length] (V.alloc (.cells (ns.map fun q=>Value.int .i64 q).toArray 3 (0,0))) (fun e w'=>e=.returned (.bool (isM G.T ns m).2)∧ER w' A B N G eb rb sb a (isM G.T ns m).1∧Ke V.heap.size eb rb sb V w'):=by
 obtain⟨-,hb,hs⟩:=Zs V (.cells (ns.map fun q=>Value.int .i64 q).toArray 3 (0,0));refine(Zyh (h.al _) hz hT ns _ (Zyr V ns) h3).mono ?_;rintro e w1 ⟨rfl,h1,k1⟩;exact⟨rfl,h1,(Dm hb).tr (k1.low (by omega))⟩
theorem Lw (h:ER V A B N G eb rb sb a m)(hz:Q0 m)(hT:TK G.T)(ns:List Int)(h3:ns.length≤3)(hc:∀ q ∈ ns,0≤q∧q<G.T.r):Calls Tryz.prog 46 #[.pointer (some ⟨eb,0,none⟩),.slice (some ⟨V.heap.size,0,none⟩) ns.length ns.length] (V.alloc (.cells (ns.map fun q=>Value.int .i64 q).toArray 3 (0,0))) (fun e w'=>e=.returned (.bool true)∧ER w' A B N G eb rb sb a m∧Ke V.heap.size eb rb sb V w'):=by
 have:=Zpk h hz hT ns h3;rw [Zsh hc] at this;exact this
theorem Ul (h:ER V A B N G eb rb sb a m)(hz:Q0 m)(hT:TK G.T)(ns:List Int)(h3:ns.length≤3)(hc:¬ ∀ q ∈ ns,0≤q∧q<G.T.r):Calls Tryz.prog 46 #[.pointer (some ⟨eb,0,none⟩),.slice (some ⟨V.heap.size,0,none⟩) ns.length ns.length] (V.alloc (.cells (ns.map fun q=>Value.int .i64 q).toArray 3 (0,0))) (fun e w'=>e=.returned (.bool false)∧ER w' A B N G eb rb sb a (m.fault 1)∧Ke V.heap.size eb rb sb V w'):=by
 have:=Zpk h hz hT ns h3;rw [Zvy hc] at this;exact this
theorem EP.vals {P:PV}{es:List Value}(h:EP V A B N G eb rb sb P es a m)(v:Int):ER ((V.alloc (.cells #[.int .u64 v] 62 (0,0))).setCell ⟨eb,26,none⟩ (.slice (some ⟨V.heap.size,0,none⟩) 1 1)) A B (V.heap.size+1) G eb rb sb a { m with vals:=[v] }∧Ke B eb rb sb V ((V.alloc (.cells #[.int .u64 v] 62 (0,0))).setCell ⟨eb,26,none⟩ (.slice (some ⟨V.heap.size,0,none⟩) 1 1)):=by
 obtain⟨r1,hb,hs⟩:=Zs V (.cells #[.int .u64 v] 62 (0,0));have hbe:=h.be;have hbr:=h.br;have hbs:=h.bs;have hbn:=h.bn;have hnw:=h.nw;have hne:=h.er;have hO:=Zl eb 26 (V.alloc (.cells #[.int .u64 v] 62 (0,0))) (.slice (some ⟨V.heap.size,0,none⟩) 1 1);have hei:=heap_setCell_same _ _ 26 _ _ (.slice (some ⟨V.heap.size,0,none⟩) 1 1) ((hb.block eb (by omega)).trans h.ei);have hnr:=Zjm V r1 (show B≤V.heap.size by omega);have hU:∀ g,g<V.heap.size→g≠eb→((V.alloc (.cells #[.int .u64 v] 62 (0,0))).setCell ⟨eb,26,none⟩ (.slice (some ⟨V.heap.size,0,none⟩) 1 1)).heap[g]?=V.heap[g]?:=fun g h1 h2=>(hO.oth g h2).trans (hb.block g h1);have hsz:=hO.size;generalize (V.alloc (.cells #[.int .u64 v] 62 (0,0))).setCell ⟨eb,26,none⟩ (.slice (some ⟨V.heap.size,0,none⟩) 1 1)=U at hO hei hU hsz ⊢;have k:Ke V.heap.size eb rb sb V U:=⟨hO.os.trans hb.os,hO.tape.trans hb.tape,hO.output.trans hb.output,by omega,fun q h1 h2 _ _=>hU q h1 h2⟩;have kN:Ke N eb rb sb V U:=k.low (by omega);refine⟨⟨{ P with vv:=.slice (some ⟨V.heap.size,0,none⟩) 1 1 },es,hei,(hU rb (by omega) hne.1.symm).trans h.rg,(hU sb (by omega) hne.2.1.symm).trans h.mem,h.rv,h.mv,h.len,h.byt,?_,h.sc.ke kN (by have:=h.ae; omega) h.ae h.ar h.as_,h.tr.ke kN h.tn h.en hbe hbr hbs,h.rbd,h.pk,h.ae,h.ar,h.as_,hbe,hbr,hbs,by omega,by omega,?_,fun g hg=>by have:=h.tn g hg; omega,fun i hi g hg=>by have:=h.en i hi g hg; omega,(fun e=>by cases e),h.tz⟩,k.low (by omega)⟩
 ·
  exact Yn hnr fun g hg=>by
   have h1:B≤g:=(hnr.lt g hg).1;exact hO.oth g (by omega)
 ·
  intro g hg;simp [Value.ownBlock] at hg;omega
theorem Zvz (m:Zf)(h:Q0 m)(vs:List Int):{ { m with vals:=vs } with kind:=2,code:=0 }=m.endK 2 vs:=by
 cases m
 obtain⟨h1,h2,h3⟩:=h;simp only at h1 h2 h3;subst h1 h2 h3;rfl
end
theorem Zkd {m:Zf}{x k:Int}(h:(m.load x k).2=none):(m.load x k).1.kind≠0:=by
 unfold Zf.load at h ⊢;split at h
 ·
  cases h
 ·
  rename_i hr;rw [if_neg hr];exact Zad (by simpa using hr)
theorem Zpl {m:Zf}{x k v:Int}(h:(m.store x k v).2=false):(m.store x k v).1.kind≠0:=by
 unfold Zf.store at h ⊢;split at h
 ·
  cases h
 ·
  rename_i hr;rw [if_neg hr];exact Zad (by simpa using hr)
theorem Zfq {T:Zm}{m:Zf}{v:Int}(h:(m.setSP T v).2=false):(m.setSP T v).1.kind≠0:=by
 unfold Zf.setSP at h ⊢;split at h
 ·
  rename_i h1; rw [if_pos h1]; show(4:Int)≠0; decide
 split at h
 ·
  rename_i h1 h2; rw [if_neg h1,if_pos h2]; show(5:Int)≠0; decide
 ·
  cases h
theorem Zsi {T:Zm}{m:Zf}{r:Nat}{v:Int}(h:(m.setR T r v).2=false):(m.setR T r v).1.kind≠0:=by
 unfold Zf.setR at h ⊢;split at h
 ·
  rename_i h1; rw [if_pos h1]; exact Zfq h
 ·
  cases h
theorem Zsj {T:Zm}{m:Zf}{n:Int}(h:(m.putN T n).2=false):(m.putN T n).1.kind≠0:=by
 unfold Zf.putN at h ⊢;split at h
 ·
  rename_i h1;rw [if_pos h1];split at h
  ·
   rename_i h2; rw [if_pos h2]; exact Zpl h
  ·
   rename_i h2; rw [if_neg h2]; exact Zfq (by simpa using h2)
 ·
  rename_i h1;rw [if_neg h1];exact Zsi h
theorem Zfr {T:Zm}{C:Zk}{m:Zf}{f n a':Int}(h:(m.call T C.funcs.length f n).2=true→a'=Ja C f 0 0)(h0:(m.call T C.funcs.length f n).1.kind=0):a'=Yx C (m.call T C.funcs.length f n).1:=by
 unfold Zf.call at h h0 ⊢;by_cases h1:(m.aligned T).2=true
 ·
  rw [if_pos h1] at h h0 ⊢;by_cases h2:(m.putN T n).2=true
  ·
   rw [if_pos h2] at h h0 ⊢;unfold Zf.enter at h h0 ⊢;by_cases h3:0≤f∧f<(C.funcs.length:Int)
   ·
    rw [if_pos h3] at h ⊢;exact h rfl
   ·
    rw [if_neg h3] at h0;exact absurd (show(5:Int)=0 from h0) (by decide)
  ·
   rw [if_neg h2] at h0;exact absurd h0 (Zsj (by simpa using h2))
 ·
  rw [if_neg h1] at h0;unfold Zf.aligned at h0 h1;split at h1
  ·
   exact absurd rfl h1
  ·
   rename_i h2;rw [if_neg h2] at h0;exact absurd (show(5:Int)=0 from h0) (by decide)
theorem Zfs {T:Zm}{m:Zf}{r x k:Int}(h:(m.load x k).2=none):Jb T m r x k=(m.load x k).1:=by
 unfold Jb;rw [if_neg (by rw [h]; decide)]
theorem Zbw {T:Zm}{m:Zf}{r x k v:Int}(h:(m.load x k).2=some v):Jb T m r x k=(m.setR T r.toNat v).1:=by
 unfold Jb;rw [if_pos (by rw [h]; rfl),h,Gq h];rfl
theorem Zpm (m:Zf)(a k:Int):(m.load a k).1.rg=m.rg:=by
 unfold Zf.load;split
 ·
  rfl
 ·
  unfold Zf.reach;repeat' split
  all_goals rfl
section
variable {V:World} {A B N:Nat} {G:Ji} {eb rb sb:Nat} {a:Int} {m:Zf}
theorem Zft (h:ER V A B N G eb rb sb a m){x k v:Int}(hv:(m.load x k).2=some v):0≤v∧v<18446744073709551616:=by
 unfold Zf.load at hv;split at hv
 ·
  rename_i hr;obtain⟨-,a',k',-,hk,-,hk8⟩:=Sb hr;injection hv with hv;rw [← hv,hk,Int.toNat_natCast];obtain⟨P,es,h⟩:=h;exact ldX h.byt _ _ hk8
 ·
  cases hv
theorem Zfu (h:ER V A B N G eb rb sb a m)(hz:Q0 m)(base n k:Int)(hl:(m.load (Xr base n) k).2=none):Calls Tryz.prog 49 #[.pointer (some ⟨eb,0,none⟩),.int .u64 base,.int .i64 n,.int .i64 k] V fun e w'=>e=.returned (.tuple #[.int .u64 0,.bool false])∧ER w' A B N G eb rb sb a (m.load (Xr base n) k).1∧Ke V.heap.size eb rb sb V w':=by
 have:=Sc h hz base n k;rw [hl] at this;exact this
theorem Zbx (h:ER V A B N G eb rb sb a m)(hz:Q0 m)(base n k v:Int)(hl:(m.load (Xr base n) k).2=some v):Calls Tryz.prog 49 #[.pointer (some ⟨eb,0,none⟩),.int .u64 base,.int .i64 n,.int .i64 k] V fun e w'=>e=.returned (.tuple #[.int .u64 v,.bool true])∧ER w' A B N G eb rb sb a m∧Ke V.heap.size eb rb sb V w':=by
 have:=Sc h hz base n k;rw [hl,Gq hl] at this;exact this
end
set_option maxHeartbeats 4000000
set_option maxRecDepth 100000
theorem Zzb {w0 V:World}{A B N:Nat}{G:Ji}{eb rb sb:Nat}{a:Int}{m:Zf}{xb fn:Nat}{r x y n wd f:Int}{C:Zk}{Qx:Exit→Act→World→Prop}{a1 a2:Value}{s:Nat→Value}(hS:Jt V A B N G eb rb sb a m xb ⟨18,r,x,y,n,wd,f⟩ fn)(hz:Q0 m)(hT:TK G.T)(hk0:Ke B eb rb sb w0 V)(ha:a=Yx C m)(hF:EF V B eb rb sb G C)(hfn:fn<C.funcs.length)(hmf:m.f=(fn:Int))(hok:(∀ q ∈ ([r]:List Int),0≤q∧q<G.T.r)→Mx w0 A B G eb rb sb C ({ m with bk:=if m.rg r.toNat=0 then y else x,at_:=0 }) Qx)(hno:¬ (∀ q ∈ ([r]:List Int),0≤q∧q<G.T.r)→Mx w0 A B G eb rb sb C (m.fault 1) Qx) :
 Code.wp Tryz.prog (Nb Tryz.f31 11) Qx (Fs (.pointer (some ⟨eb,0,none⟩)) a1 a2 (.pointer (some ⟨xb,0,none⟩)) s) V:=by
 have hB:=hS.er.bd.2.2.2.2.2.2;have HS:=Y hS;have HK0:=Y hk0;have HA:=Y ha;clear ha hk0;by_cases hc:(∀ q ∈ ([r]:List Int),0≤q∧q<G.T.r)
 ·
  have HRT:=Y (hok hc);obtain⟨r0,r1⟩:=hc r (by simp);obtain⟨rk,rfl⟩:∃ k:Nat,r=k:=⟨r.toNat,by omega⟩;have rN:rk<G.T.r.toNat:=by omega
  have rI:(rk:Int)<(G.T.r.toNat:Int):=by omega
  have rM:(rk:Int)<max G.T.r 0:=by omega
  simp only [Int.toNat_natCast] at HRT;have HF:=Y hF;have HIS:=Y (show Calls Tryz.prog 46 #[.pointer (some ⟨eb,0,none⟩),.slice (some ⟨V.heap.size,0,none⟩) 1 1] (V.alloc (.cells #[.int .i64 (rk:Int)] 3 (0,0))) (fun e w'=>e=.returned (.bool true)∧ER w' A B N G eb rb sb a m∧Ke V.heap.size eb rb sb V w') from Lw (hS.er) hz hT [(rk:Int)] (by simp) hc);obtain⟨-,o1,-,-,-,-,-,-,-⟩:=hS.cs;clear hS hok hno hc hF;rw [Zy];refine Yf ?_;conv=>arg 2; whnf
  go_wp2_with fail
  clear o1;refine(O HIS).mono ?_;rintro e w1 ⟨rfl,h1,k1⟩;have hS1:=(O HS).ke h1 k1;obtain⟨-,o1,o2,o3,-,-,-,o7,c19⟩:=hS1.cs;have cr:=hS1.rg rk rN;have HE1:=Y h1;have HK1:=Y ((O HK0).tr (k1.low hB));have HKV:=Y (k1.low hB);have hB1:=h1.bd.2.2.2.2.2.2;clear h1 k1 hS1 HIS;go_upto_region 36 with fail
  go_quiet (fail)
  by_cases hq:m.rg rk=0
  ·
   have hqb:(m.rg rk==0)=true:=by simp [hq]
   have HR2:=Y (show Mx w0 A B G eb rb sb C ({ m with bk:=y,at_:=0 }) Qx by
    have:=O HRT;first | rwa [if_pos hq] at this | rwa [if_neg hq] at this)
   have HBL:=Y (fun k=>Kd ((O HE1).dr k) C (((O HF).ke (O HKV)).ke ((Ke.rf _ _ _ _ _).dr k)) fn hfn y);go_wp2_with fail
   refine(O HBL _).mono ?_;rintro e w2 ⟨rfl,h2,k2⟩;have HE:=Y (h2.goto m.f y 0);have HKE:=Y ((O HK1).tr (k2.ud.low hB1));clear h2 k2 HBL o1 o2 o3 o7 c19 cr;go_wp2;refine Zn (Q:=Qx .ret) (fun s'=>O HR2 _ _ _ _ _ _ _ s' (fun _=>by unfold Yx; rw [hmf]) (O HE) (O HKE)) _ ?_;rfl
  ·
   have hqb:(m.rg rk==0)=false:=by simp [hq]
   have HR2:=Y (show Mx w0 A B G eb rb sb C ({ m with bk:=x,at_:=0 }) Qx by
    have:=O HRT;first | rwa [if_pos hq] at this | rwa [if_neg hq] at this)
   have HBL:=Y (fun k=>Kd ((O HE1).dr k) C (((O HF).ke (O HKV)).ke ((Ke.rf _ _ _ _ _).dr k)) fn hfn x);go_wp2_with fail
   refine(O HBL _).mono ?_;rintro e w2 ⟨rfl,h2,k2⟩;have HE:=Y (h2.goto m.f x 0);have HKE:=Y ((O HK1).tr (k2.ud.low hB1));clear h2 k2 HBL o1 o2 o3 o7 c19 cr;go_wp2;refine Zn (Q:=Qx .ret) (fun s'=>O HR2 _ _ _ _ _ _ _ s' (fun _=>by unfold Yx; rw [hmf]) (O HE) (O HKE)) _ ?_;rfl
 ·
  have HRT:=Y (hno hc);have HIS:=Y (show Calls Tryz.prog 46 #[.pointer (some ⟨eb,0,none⟩),.slice (some ⟨V.heap.size,0,none⟩) 1 1] (V.alloc (.cells #[.int .i64 r] 3 (0,0))) (fun e w'=>e=.returned (.bool false)∧ER w' A B N G eb rb sb a (m.fault 1)∧Ke V.heap.size eb rb sb V w') from Ul (hS.er) hz hT [r] (by simp) hc);obtain⟨-,o1,-,-,-,-,-,-,-⟩:=hS.cs;clear hS hok hno hc;rw [Zy];refine Yf ?_;conv=>arg 2; whnf
  go_wp2_with fail
  clear o1;refine(O HIS).mono ?_;rintro e w1 ⟨rfl,h1,k1⟩;have HE:=Y h1;have HKE:=Y ((O HK0).tr (k1.low hB));clear h1 k1 HIS;go_wp2;refine Zn (Q:=Qx .ret) (fun s'=>O HRT _ _ _ _ _ _ _ s' (fun e=>absurd (show(5:Int)=0 from e) (by decide)) (O HE) (O HKE)) _ ?_;rfl
end Go.Proofs.YtnlcfnjeagmemaaGreatDoor
