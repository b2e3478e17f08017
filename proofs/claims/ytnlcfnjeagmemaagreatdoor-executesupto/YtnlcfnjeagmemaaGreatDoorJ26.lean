import Derived.Test.YtnlcfnjeagmemaaGreatDoorJ3
import Derived.Test.YtnlcfnjeagmemaaGreatDoorJ14
import Derived.Test.YtnlcfnjeagmemaaGreatDoorJ31
import Derived.Lib.MinMax
import Derived.Test.YtnlcfnjeagmemaaGreatDoorExAg
import Derived.Test.YtnlcfnjeagmemaaGreatDoorJ19
namespace Go.Proofs.YtnlcfnjeagmemaaGreatDoor
open Go.RowKit
set_option maxHeartbeats 4000000
set_option maxRecDepth 100000
theorem Zyf (m:Zf)(h:Q0 m):{ m with kind:=4,code:=0 }=m.endK 4 []:=by
 cases m
 obtain⟨h1,h2,h3⟩:=h;simp only at h1 h2 h3;subst h1 h2 h3;rfl
theorem Zyg (m:Zf)(h:Q0 m)(c:Int):{ m with kind:=5,code:=c }=m.fault c:=by
 cases m
 obtain⟨h1,h2,h3⟩:=h;simp only at h1 h2 h3;subst h1 h2 h3;rfl
section
variable {w:World} {A B N:Nat} {G:Ji} {eb rb sb:Nat} {a:Int} {m:Zf}
theorem Uz (h:ER w A B N G eb rb sb a m)(hz:m.kind=0)(k c:Int) :
 Calls Tryz.prog 30 #[.pointer (some ⟨eb,0,none⟩),.int .i64 k,.int .i64 c] w fun e w'=>e=.returned (.bool false)∧ER w' A B N G eb rb sb a { m with kind:=k,code:=c }∧Ke w.heap.size eb rb sb w w':=by
 obtain⟨P,es,h⟩:=h;have hei:=h.ei;have c25:w.cell? ⟨eb,25,none⟩=some (.int .i64 0):=by rw [← hz]; exact(cR hei 25)
 have c27:w.cell? ⟨eb,27,none⟩=some (.int .i64 m.code):=(cR hei 27);have z1:=frozen_of_row _ _ 25 _ _ hei;have z2:=frozen_of_row _ _ 27 _ _ hei;have HO:=Y (Zx (Zl eb 25 w (.int .i64 k)) (Zl eb 27 (w.setCell ⟨eb,25,none⟩ (.int .i64 k)) (.int .i64 c)));have HE:=Y (h.own (m':={ m with kind:=k,code:=c }) (P':=P) (a':=a) (O HO) (Uf (m:=toE G P a { m with kind:=k }) (Uf hei rfl) rfl) ⟨rfl,rfl,rfl,rfl,.inl ⟨rfl,rfl⟩⟩ rfl rfl rfl);clear h hei;go_enter Tryz.func30,Tryz.ntmps30
 go_wp2;go_ret;exact⟨rfl,O HE,Sa (O HO)⟩
theorem Mg (h:ER w A B N G eb rb sb a m)(hz:Q0 m)(c:Int):Calls Tryz.prog 30 #[.pointer (some ⟨eb,0,none⟩),.int .i64 5,.int .i64 c] w fun e w'=>e=.returned (.bool false)∧ER w' A B N G eb rb sb a (m.fault c)∧Ke w.heap.size eb rb sb w w':=by
 rw [← Zyg m hz c];exact Uz h hz.kind 5 c
theorem Zpd (h:ER w A B N G eb rb sb a m)(hz:Q0 m):Calls Tryz.prog 30 #[.pointer (some ⟨eb,0,none⟩),.int .i64 4,.int .i64 0] w fun e w'=>e=.returned (.bool false)∧ER w' A B N G eb rb sb a (m.endK 4 [])∧Ke w.heap.size eb rb sb w w':=by
 rw [← Zyf m hz];exact Uz h hz.kind 4 0
theorem ER.regs (h:ER w A B N G eb rb sb a m):∃ P,EI w eb (toE G P a m)∧G.rv=.slice (some ⟨rb,0,none⟩) G.T.r.toNat G.T.r.toNat∧G.mv=.slice (some ⟨sb,0,none⟩) m.me.length m.me.length∧(∀ i,i<G.T.r.toNat→w.cell? ⟨rb,i,none⟩=some (.int .u64 (m.rg i))):=by
 obtain⟨P,es,h⟩:=h;exact⟨P,h.ei,h.rv,h.mv,fun i hi=>(Zd h.rg i).trans (Kb _ _ _ hi)⟩
theorem TK.spl {T:Zm}(h:TK T):T.spN<T.r.toNat:=by have:=h.sp; have:=h.spr; omega
theorem Nh (h:ER w A B N G eb rb sb a m)(hT:TK G.T) :
 Calls Tryz.prog 42 #[.pointer (some ⟨eb,0,none⟩)] w fun e w'=>e=.returned (.int .u64 (m.sp G.T))∧∃ k,w'=w.drewN k:=by
 obtain⟨P,hei,hrv,-,hrg⟩:=h.regs;have c1:w.cell? ⟨eb,1,none⟩=some (.int .i64 (G.T.spN:Int)):=by rw [← hT.sp]; exact(cR hei 1)
 have c19:w.cell? ⟨eb,19,none⟩=some (.slice (some ⟨rb,0,none⟩) G.T.r.toNat G.T.r.toNat):=by rw [← hrv]; exact(cR hei 19)
 have hs:=hT.spl;have cr:=hrg _ hs;have hs1:(G.T.spN:Int)<(G.T.r.toNat:Int):=by omega
 have HQ:=Y (show m.sp G.T=m.rg G.T.spN from rfl);generalize G.T.spN=s at c1 hs cr hs1 HQ;clear h hei hrv hrg;go_enter Tryz.func42,Tryz.ntmps42
 go_wp2;go_quiet (fail)
 go_wp2;go_ret;rw [O HQ];exact⟨rfl,_,rfl⟩
def Xr (base n:Int):Int:=IntKind.u64.wrap (base+IntKind.u64.wrap n)
def Zml (m:Zf)(x k:Int):Value:=.tuple #[.int .i64 (if (m.reach x k).2=true then wrap64 x else 0),.bool (m.reach x k).2]
theorem Mm {m:Zf}{x k:Int}(h:(m.reach x k).2=false):Zml m x k=.tuple #[.int .i64 0,.bool false]:=by
 unfold Zml;rw [h];rfl
theorem Ug {m:Zf}{x k:Int}(h:(m.reach x k).2=true):Zml m x k=.tuple #[.int .i64 (wrap64 x),.bool true]:=by
 unfold Zml;rw [h];rfl
theorem Zjx (k:Int):decide (k ∈ ([1,2,4,8]:List Int))=Cb k:=by
 unfold Cb;rw [Bool.eq_iff_iff];simp [or_assoc]
theorem Zjy (h:ER w A B N G eb rb sb a m)(hz:Q0 m)(base n k:Int) :
 Calls Tryz.prog 40 #[.pointer (some ⟨eb,0,none⟩),.int .u64 base,.int .i64 n,.int .i64 k] w fun e w'=>e=.returned (Zml m (Xr base n) k)∧ER w' A B N G eb rb sb a (m.reach (Xr base n) k).1∧Ke w.heap.size eb rb sb w w':=by
 obtain⟨x,hx⟩:∃ x,Xr base n=x:=⟨_,rfl⟩;rw [hx];unfold Xr at hx;obtain⟨r0,hb0,hz0⟩:=Zs w (.cells #[.int .i64 1,.int .i64 2,.int .i64 4,.int .i64 8] 3 (0,0));have HE:=Y (h.al (.cells #[.int .i64 1,.int .i64 2,.int .i64 4,.int .i64 8] 3 (0,0)));have HB:=Y (Dm (a:=eb) (b:=rb) (c:=sb) hb0);have HR:=Y (show Rs (w.alloc (.cells #[.int .i64 1,.int .i64 2,.int .i64 4,.int .i64 8] 3 (0,0))) (.slice (some ⟨w.heap.size,0,none⟩) 4 4) [1,2,4,8] from .inr ⟨w.heap.size,0,4,rfl,fun i hi=>by
  rw [Zd r0 (0+i)];match i,hi with
  | 0,_=>rfl
  | 1,_=>rfl
  | 2,_=>rfl
  | 3,_=>rfl⟩)
 have HZ:=Y hz0;have hl:=h.len;clear r0 hb0 hz0 h;go_enter Tryz.func40,Tryz.ntmps40
 go_wp2_with fail
 have HH:=Y (Zcg [1,2,4,8] k _ _ (O HR) (by decide));clear HR;generalize World.alloc w _=W at HE HB HH HZ ⊢;refine(O HH).mono ?_;rintro e w1 ⟨rfl,hw1⟩;subst w1;rw [Zjx];clear HH;have HK:=Y (fun V (k:Ke W.heap.size eb rb sb W V)=>(O HB).tr (k.low (show w.heap.size≤W.heap.size by have:=O HZ; omega)));cases hw:Cb k with
 | false =>
  have HQ:=Y (show m.reach x k=(m.fault 2,false) by unfold Zf.reach; rw [if_pos hw]);go_wp2_with fail
  refine(Mg (O HE) hz 2).mono ?_;rintro e w2 ⟨rfl,h2,k2⟩;have H2:=Y h2;have K2:=Y (O HK w2 k2);clear h2 k2;go_wp2;go_ret2;rw [Mm (by rw [O HQ]),O HQ];exact⟨rfl,O H2,O K2⟩
 | true =>
  by_cases h0:wrap64 x<0
  ·
   have HQ:=Y (show m.reach x k=(m.endK 4 [],false) by unfold Zf.reach; rw [if_neg (by rw [hw]; decide),if_pos h0]);go_wp2_with fail
   refine(Zpd (O HE) hz).mono ?_;rintro e w2 ⟨rfl,h2,k2⟩;have H2:=Y h2;have K2:=Y (O HK w2 k2);clear h2 k2;go_wp2;go_ret2;rw [Mm (by rw [O HQ]),O HQ];exact⟨rfl,O H2,O K2⟩
  ·
   have hk:1≤k∧k≤8:=by
    unfold Cb at hw;simp only [Bool.or_eq_true,beq_iff_eq] at hw;omega
   have hsub:wrap64 ((m.me.length:Int)-k)=m.me.length-k:=by
    simp only [wrap64];omega
   obtain⟨P,hei,-,hmv,-⟩:=(O HE).regs;have c20:W.cell? ⟨eb,20,none⟩=some (.slice (some ⟨sb,0,none⟩) m.me.length m.me.length):=by rw [← hmv]; exact(cR hei 20)
   have hl1:m.me.length<9223372036854775808:=by omega
   clear hei hmv;by_cases h1:(m.me.length:Int)-k<wrap64 x
   ·
    have HQ:=Y (show m.reach x k=(m.fault 2,false) by unfold Zf.reach; rw [if_neg (by rw [hw]; decide),if_neg h0,if_pos h1]);go_wp2_with fail
    refine(Mg (O HE) hz 2).mono ?_;rintro e w2 ⟨rfl,h2,k2⟩;have H2:=Y h2;have K2:=Y (O HK w2 k2);clear h2 k2;go_wp2;go_ret2;rw [Mm (by rw [O HQ]),O HQ];exact⟨rfl,O H2,O K2⟩
   ·
    have HQ:=Y (show m.reach x k=(m,true) by unfold Zf.reach; rw [if_neg (by rw [hw]; decide),if_neg h0,if_neg h1]);go_wp2;go_ret2;rw [Ug (by rw [O HQ]),O HQ];exact⟨rfl,O HE,O HB⟩
theorem Sb {m:Zf}{x k:Int}(h:(m.reach x k).2=true):(m.reach x k).1=m∧∃ a' k':Nat,wrap64 x=a'∧k=k'∧a'+k'≤m.me.length∧k'≤8:=by
 unfold Zf.reach at h ⊢;split at h
 ·
  cases h
 split at h
 ·
  cases h
 split at h
 ·
  cases h
 rename_i h1 h2 h3;rw [if_neg h1,if_neg h2,if_neg h3];have hk:1≤k∧k≤8:=by
  have hw:Cb k=true:=by simpa using h1
  unfold Cb at hw;simp only [Bool.or_eq_true,beq_iff_eq] at hw;omega
 exact⟨rfl,(wrap64 x).toNat,k.toNat,by omega,by omega,by omega,by omega⟩
theorem Zad {m:Zf}{x k:Int}(h:(m.reach x k).2=false):(m.reach x k).1.kind≠0:=by
 unfold Zf.reach at h ⊢;split at h
 ·
  rename_i h1; rw [if_pos h1]; show(5:Int)≠0; decide
 split at h
 ·
  rename_i h1 h2; rw [if_neg h1,if_pos h2]; show(4:Int)≠0; decide
 split at h
 ·
  rename_i h1 h2 h3; rw [if_neg h1,if_neg h2,if_pos h3]; show(5:Int)≠0; decide
 ·
  cases h
theorem Sc (h:ER w A B N G eb rb sb a m)(hz:Q0 m)(base n k:Int) :
 Calls Tryz.prog 49 #[.pointer (some ⟨eb,0,none⟩),.int .u64 base,.int .i64 n,.int .i64 k] w fun e w'=>e=.returned (Ly (m.load (Xr base n) k).2)∧ER w' A B N G eb rb sb a (m.load (Xr base n) k).1∧Ke w.heap.size eb rb sb w w':=by
 have HA:=Y (Zjy h hz base n k);have hbd:=h.bd;generalize Xr base n=x at HA ⊢;cases hr:(m.reach x k).2 with
 | false =>
  have HQ:=Y (show m.load x k=((m.reach x k).1,none) by unfold Zf.load; rw [if_neg (by rw [hr]; decide)]);rw [Mm hr] at HA;go_enter Tryz.func49,Tryz.ntmps49
  go_wp2_with fail
  refine(O HA).mono ?_;rintro e w1 ⟨rfl,h1,k1⟩;have H1:=Y h1;have K1:=Y k1;clear h1 k1 HA hr;go_wp2;go_ret2;rw [O HQ];exact⟨rfl,O H1,O K1⟩
 | true =>
  obtain⟨e1,a',k',hx,rfl,hak,hk8⟩:=Sb hr;have HQ:=Y (show m.load x k'=(m,some (ldB m.me a' k')) by unfold Zf.load; rw [if_pos hr,hx]; rfl);rw [Ug hr,e1,hx] at HA;go_enter Tryz.func49,Tryz.ntmps49
  go_wp2_with fail
  refine(O HA).mono ?_;rintro e w1 ⟨rfl,h1,k1⟩;obtain⟨P,es,hP⟩:=h1;have HL:=Y (Zow m.me sb a' k' w1 hP.mem hP.byt hk8 hak hP.len);have c20:w1.cell? ⟨eb,20,none⟩=some (.slice (some ⟨sb,0,none⟩) m.me.length m.me.length):=by rw [← hP.mv]; exact(cR hP.ei 20)
  have H1:=Y (show ER w1 A B N G eb rb sb a m from⟨P,es,hP⟩);have K1:=Y k1;clear hP k1 HA hr e1 hx h;go_wp2_with fail
  refine(O HL).mono ?_;rintro e w2 ⟨rfl,hw2⟩;subst w2;clear c20 HL;go_wp2;go_ret2;rw [O HQ];exact⟨rfl,O H1,O K1⟩
theorem Uh (h:ER w A B N G eb rb sb a m)(hz:Q0 m)(base n k v:Int)(hv:0≤v∧v<18446744073709551616) :
 Calls Tryz.prog 27 #[.pointer (some ⟨eb,0,none⟩),.int .u64 base,.int .i64 n,.int .i64 k,.int .u64 v] w fun e w'=>e=.returned (.bool (m.store (Xr base n) k v).2)∧ER w' A B N G eb rb sb a (m.store (Xr base n) k v).1∧Ke w.heap.size eb rb sb w w':=by
 have HA:=Y (Zjy h hz base n k);have hbd:=h.bd;generalize Xr base n=x at HA ⊢;cases hr:(m.reach x k).2 with
 | false =>
  have HQ:=Y (show m.store x k v=((m.reach x k).1,false) by unfold Zf.store; rw [if_neg (by rw [hr]; decide)]);rw [Mm hr] at HA;go_enter Tryz.func27,Tryz.ntmps27
  go_wp2_with fail
  refine(O HA).mono ?_;rintro e w1 ⟨rfl,h1,k1⟩;have H1:=Y h1;have K1:=Y k1;clear h1 k1 HA hr;go_wp2;go_ret;rw [O HQ];exact⟨rfl,O H1,O K1⟩
 | true =>
  obtain⟨e1,a',k',hx,rfl,hak,hk8⟩:=Sb hr;have HQ:=Y (show m.store x k' v=({ m with me:=stB m.me a' k' v },true) by unfold Zf.store; rw [if_pos hr,hx]; rfl);rw [Ug hr,e1,hx] at HA;go_enter Tryz.func27,Tryz.ntmps27
  go_wp2_with fail
  refine(O HA).mono ?_;rintro e w1 ⟨rfl,h1,k1⟩;obtain⟨P,es,hP⟩:=h1;have HL:=Y (Zvr m.me sb a' k' v w1 hP.mem hak hP.len hv.1 hv.2);have c20:w1.cell? ⟨eb,20,none⟩=some (.slice (some ⟨sb,0,none⟩) m.me.length m.me.length):=by rw [← hP.mv]; exact(cR hP.ei 20)
  have H1:=Y hP;have K1:=Y k1;clear hP k1 HA hr e1 hx h;go_wp2_with fail
  refine(O HL).mono ?_;rintro e w2 ⟨⟨v2,rfl⟩,hw2⟩;have hP:=O H1;have hne:=hP.er;have ho:Mc sb w1 w2:=by
   rw [hw2];exact⟨(Zhs w1 sb a' v k').1,(Zhs w1 sb a' v k').2.1,(Zhs w1 sb a' v k').2.2,Iy w1 sb a' v k',fun q h2=>Co w1 sb a' v q h2 k'⟩
  have H2:=Y (hP.lef (m':={ m with me:=stB m.me a' k' v }) (P':=P) (a':=a) (Zmk ho) (by
   have e:toE G P a { m with me:=stB m.me a' k' v }=toE G P a m:=by unfold toE; simp only [Ux]
   rw [e];exact(ho.oth eb hne.2.1).trans hP.ei) ((ho.oth rb hne.2.2).trans hP.rg) (by rw [hw2]; exact Cn w1 sb a' v m.me hP.mem k') (Ux _ _ _ _) (Zxv hP.byt a' k' v) hP.rbd ⟨rfl,rfl,rfl,rfl,.inl ⟨rfl,rfl⟩⟩ hP.pk)
  have K2:=Y ((O K1).tr ((Zmk ho:Ke w1.heap.size eb rb sb w1 w2).low (O K1).size));clear c20 HL hw2 ho hP hne;go_wp2;go_ret;rw [O HQ];exact⟨rfl,O H2,O K2⟩
theorem Sd (h:ER w A B N G eb rb sb a m)(hz:Q0 m)(hT:TK G.T)(v:Int)(hv:0≤v∧v<18446744073709551616) :
 Calls Tryz.prog 44 #[.pointer (some ⟨eb,0,none⟩),.int .u64 v] w fun e w'=>e=.returned (.bool (m.setSP G.T v).2)∧ER w' A B N G eb rb sb a (m.setSP G.T v).1∧Ke w.heap.size eb rb sb w w':=by
 have hl:=h.len;by_cases h0:wrap64 v<0
 ·
  have HQ:=Y (show m.setSP G.T v=(m.endK 4 [],false) by unfold Zf.setSP; rw [if_pos h0]);go_enter Tryz.func44,Tryz.ntmps44
  go_wp2_with fail
  refine(Zpd h hz).mono ?_;rintro e w2 ⟨rfl,h2,k2⟩;have H2:=Y h2;have K2:=Y k2;clear h2 k2 h;go_wp2;go_ret;rw [O HQ];exact⟨rfl,O H2,O K2⟩
 ·
  have hvw:wrap64 v=v:=by
   simp only [wrap64] at h0 ⊢;omega
  obtain⟨P,hei,hrv,hmv,hrg⟩:=h.regs;have c20:w.cell? ⟨eb,20,none⟩=some (.slice (some ⟨sb,0,none⟩) m.me.length m.me.length):=by rw [← hmv]; exact(cR hei 20)
  have hl1:m.me.length<9223372036854775808:=by omega
  have hlw:IntKind.u64.wrap (m.me.length:Int)=m.me.length:=Lb (by omega) (by omega);by_cases h1:(m.me.length:Int)<wrap64 v
  ·
   have HQ:=Y (show m.setSP G.T v=(m.fault 2,false) by unfold Zf.setSP; rw [if_neg h0,if_pos h1]);rw [hvw] at h1;have HE:=Y h;clear hei hrv hmv hrg h;go_enter Tryz.func44,Tryz.ntmps44
   go_wp2_with fail
   refine(Mg (O HE) hz 2).mono ?_;rintro e w2 ⟨rfl,h2,k2⟩;have H2:=Y h2;have K2:=Y k2;clear h2 k2;go_wp2;go_ret;rw [O HQ];exact⟨rfl,O H2,O K2⟩
  ·
   have HQ:=Y (show m.setSP G.T v=({ m with rg:=Yy m.rg G.T.spN v,pk:=max m.pk (m.me.length-v) },true) by unfold Zf.setSP; rw [if_neg h0,if_neg h1,hvw]);rw [hvw] at h1;have hs:=hT.spl;have c1:w.cell? ⟨eb,1,none⟩=some (.int .i64 (G.T.spN:Int)):=by rw [← hT.sp]; exact(cR hei 1)
   have c19:w.cell? ⟨eb,19,none⟩=some (.slice (some ⟨rb,0,none⟩) G.T.r.toNat G.T.r.toNat):=by rw [← hrv]; exact(cR hei 19)
   have cr:=hrg _ hs;have hs1:(G.T.spN:Int)<(G.T.r.toNat:Int):=by omega
   obtain⟨P1,es1,hP⟩:=h;have zr:=frozen_of_row _ _ G.T.spN _ _ hP.rg;have HP:=Y hP;clear hei hrv hmv hrg hP;have HLO:=Y (show min ((m.me.length:Int)-m.pk) v=m.me.length-max m.pk (m.me.length-v) by omega);generalize G.T.spN=s at c1 cr hs hs1 zr HQ;generalize G.T.r.toNat=rn at c19 hs hs1;go_enter Tryz.func44,Tryz.ntmps44
   go_upto_region 5 with fail
   refine Zh (C:=fun V=>∃ k,V=w.drewN k) (d:=11) (by kernel_rfl) ?_;change Ye _ _ _ _ _ _ _ _ _ (w.drewN 1)
   refine vE 0 ?_;refine vE 1 ?_;refine vE 2 ?_;refine vE 3 ?_;refine vE 4 ?_;refine vE 5 ?_;refine vE 6 ?_;refine vE 7 ?_;refine vE 8 ?_;refine vE 9 ?_;refine vE 10 ?_;refine vO 11 fun K hK=>?_;go_simp;refine kO hK (fun hx=>by cases hx) ?_;clear hK K;refine Zi (by kernel_rfl) ?_ _;have hP1:=((O HP).dr 1).reg s v hv;have c24:((w.drewN 1).setCell ⟨rb,s,none⟩ (.int .u64 v)).cell? ⟨eb,24,none⟩=some (.int .i64 ((m.me.length:Int)-m.pk)):=(cR hP1.ei 24);have z24:=frozen_of_row _ _ 24 _ _ hP1.ei;have hpk:=(O HP).pk;have HO:=Y (Zl eb 24 ((w.drewN 1).setCell ⟨rb,s,none⟩ (.int .u64 v)) (.int .i64 ((m.me.length:Int)-max m.pk (m.me.length-v))));have H2:=Y (hP1.lef (m':={ m with rg:=Yy m.rg s v,pk:=max m.pk (m.me.length-v) }) (P':=P1) (a':=a) (Sa (O HO)) (Uf hP1.ei rfl) (((O HO).oth rb hP1.er.1.symm).trans hP1.rg) (((O HO).oth sb hP1.er.2.1.symm).trans hP1.mem) rfl hP1.byt hP1.rbd ⟨rfl,rfl,rfl,rfl,.inl ⟨rfl,rfl⟩⟩ (show 0≤max m.pk ((m.me.length:Int)-v)∧max m.pk ((m.me.length:Int)-v)≤(m.me.length:Int) by omega));have K2:=Y (show Ke w.heap.size eb rb sb w _ from(((Ke.rf w.heap.size eb rb sb w).dr 1).tr (Zax (Zl rb s (w.drewN 1) (.int .u64 v)))).tr (Sa (O HO)));have hlo:=O HLO;clear hP1 c1 c19 c20 cr zr hpk;generalize World.setCell (w.drewN 1) _ _=U at c24 z24 H2 K2 HO ⊢;go_wp2;go_ret;rw [O HQ];exact⟨rfl,O H2,O K2⟩
theorem Ui {T:Zm}{m:Zf}{v:Int}(hz:Q0 m)(h:(m.setSP T v).2=true):Q0 (m.setSP T v).1:=by
 unfold Zf.setSP at h ⊢;split at h
 ·
  cases h
 split at h
 ·
  cases h
 rename_i h1 h2;rw [if_neg h1,if_neg h2];exact⟨hz.kind,hz.code,hz.vals⟩
theorem Kc (h:ER w A B N G eb rb sb a m)(hz:Q0 m)(hT:TK G.T)(r:Nat)(hr:(r:Int)<G.T.r)(v:Int)(hv:0≤v∧v<18446744073709551616) :
 Calls Tryz.prog 47 #[.pointer (some ⟨eb,0,none⟩),.int .i64 (r:Int),.int .u64 v] w fun e w'=>e=.returned (.bool (m.setR G.T r v).2)∧ER w' A B N G eb rb sb a (m.setR G.T r v).1∧Ke w.heap.size eb rb sb w w':=by
 obtain⟨P,hei,hrv,-,hrg⟩:=h.regs;have c1:w.cell? ⟨eb,1,none⟩=some (.int .i64 (G.T.spN:Int)):=by rw [← hT.sp]; exact(cR hei 1)
 by_cases hs:r=G.T.spN
 ·
  have HQ:=Y (show m.setR G.T r v=m.setSP G.T v by unfold Zf.setR; rw [if_pos hs]);have hs1:((r:Int)==(G.T.spN:Int))=true:=by rw [hs]; exact beq_self_eq_true _
  have HM:=Y (Sd h hz hT v hv);clear hei hrv hrg h hs;go_enter Tryz.func47,Tryz.ntmps47
  go_wp2_with fail
  refine(O HM).mono ?_;rintro e w2 ⟨rfl,h2,k2⟩;have H2:=Y h2;have K2:=Y k2;clear h2 k2 c1;go_wp2;go_ret;rw [O HQ];exact⟨rfl,O H2,O K2⟩
 ·
  have HQ:=Y (show m.setR G.T r v=({ m with rg:=Yy m.rg r v },true) by unfold Zf.setR; rw [if_neg hs]);have hs1:((r:Int)==(G.T.spN:Int))=false:=by
   rw [beq_eq_false_iff_ne];omega
  have c19:w.cell? ⟨eb,19,none⟩=some (.slice (some ⟨rb,0,none⟩) G.T.r.toNat G.T.r.toNat):=by rw [← hrv]; exact(cR hei 19)
  have hrn:r<G.T.r.toNat:=by omega
  have cr:=hrg _ hrn;obtain⟨P1,es1,hP⟩:=h;have zr:=frozen_of_row _ _ r _ _ hP.rg;have H2:=Y (show ER _ A B N G eb rb sb a { m with rg:=Yy m.rg r v } from⟨P1,es1,hP.reg r v hv⟩);have K2:=Y (show Ke w.heap.size eb rb sb w _ from Zax (Zl rb r w (.int .u64 v)));have hr1:(r:Int)<(G.T.r.toNat:Int):=by omega
  generalize G.T.r.toNat=rn at c19 hrn hr1;clear hei hrv hrg hP hs hr;go_enter Tryz.func47,Tryz.ntmps47
  go_wp2;go_ret;rw [O HQ];exact⟨rfl,O H2,O K2⟩
end
set_option maxHeartbeats 4000000
set_option maxRecDepth 100000
def Sv (C:Zk):Bool:=decide (C.sigs.length=C.funcs.length)&&(C.sigs.all Xy&&C.externs.all Xy)
theorem Na.below {w w':World}{A:Nat}{v:Value}{ss:List (List Int×Int)}(h:Na w A v ss)(hb:Below w.heap.size w w')(hA:A≤w.heap.size):Na w' A v ss:=by
 obtain⟨p,c,e,h1,h2,h3⟩:=h;refine⟨p,c,e,h1,h2,fun k hk=>?_⟩;obtain⟨g,so,lv,e1,hg,d0,d1,hl,hr⟩:=h3 k hk;exact⟨g,so,lv,e1,hg,(World.cell?_of_block (hb.block g (by omega))).trans d0,(World.cell?_of_block (hb.block g (by omega))).trans d1,hl.below hb,Gy hr (Gh (a:=A) (b:=A) (Below.mono hb hA)) (Nat.le_refl _) (Nat.le_refl _) (Nat.le_refl _)⟩
theorem Zly (C:Zk)(w:World)(A:Nat)(csp cfp cep:Option Addr)(csc cfc cec:Nat)(hS:Na w A (.slice csp C.sigs.length csc) C.sigs)(hE:Na w A (.slice cep C.externs.length cec) C.externs)(hA:A≤w.heap.size) :
 Calls Tryz.prog 54 #[.agg #[.slice csp C.sigs.length csc,.slice cfp C.funcs.length cfc,.slice cep C.externs.length cec]] w fun e w'=>e=.returned (.bool (Sv C))∧Below w.heap.size w w':=by
 obtain⟨r0,hb0,hz0⟩:=Zs w (.cells #[.slice csp C.sigs.length csc,.slice cfp C.funcs.length cfc,.slice cep C.externs.length cec] 29 (0,0));have HB0:=Y hb0;have HF1:=Y (Zfe C.sigs _ _ A (hS.below hb0 hA) (by have:=hb0.size; omega));have HE2:=Y (fun V (hb:Below w.heap.size w V)=>Zfe C.externs _ V A (hE.below hb hA) (by have:=hb.size; omega));have HR0:=Y r0;have hsl:C.sigs.length<4611686018427387904:=by obtain⟨_,_,_,_,h,_⟩:=hS; exact h
 have c0:=((cR r0 0):_=some (Value.slice csp C.sigs.length csc));have c1:=((cR r0 1):_=some (Value.slice cfp C.funcs.length cfc));clear r0 hb0 hz0 hS hE;go_enter Tryz.func54,Tryz.ntmps54
 go_upto_region 1 with fail
 generalize World.alloc w _=W at HB0 HF1 HR0 c0 c1 ⊢;by_cases hl:C.sigs.length=C.funcs.length
 ·
  have hb:((C.sigs.length:Int)==(C.funcs.length:Int))=true:=by rw [hl]; exact beq_self_eq_true _
  have HL:=Y hl;clear hl;go_wp2_with fail
  refine(O HF1).mono ?_;rintro e w1 ⟨rfl,hb1⟩;have hb01:=Zb (O HB0) hb1 (O HB0).size;cases hf:C.sigs.all Xy with
  | false =>
   have HQ:=Y (show Sv C=false by unfold Sv; rw [hf]; simp);have HB1:=Y hb01;clear hb1 hb01 c0 c1 HF1;go_wp2;go_ret;rw [O HQ];exact⟨rfl,O HB1⟩
  | true =>
   have HQ:=Y (show Sv C=C.externs.all Xy by unfold Sv; rw [hf,decide_eq_true (O HL)]; simp);have c2:=((cR ((hb1.block w.heap.size (Zc (O HR0))).trans (O HR0)) 2):_=some (Value.slice cep C.externs.length cec));have HB1:=Y hb01;clear hb1 hb01 c0 c1 HF1;go_wp2_with fail
   refine(O HE2 w1 (O HB1)).mono ?_;rintro e w2 ⟨rfl,hb2⟩;have HB2:=Y (Zb (O HB1) hb2 (O HB1).size);clear hb2 c2;go_wp2;go_ret;rw [O HQ];exact⟨rfl,O HB2⟩
 ·
  have hb:((C.sigs.length:Int)==(C.funcs.length:Int))=false:=by rw [beq_eq_false_iff_ne]; omega
  have HQ:=Y (show Sv C=false by unfold Sv; rw [decide_eq_false hl]; rfl);clear hl;go_wp2;go_ret;rw [O HQ];exact⟨rfl,O HB0⟩
end Go.Proofs.YtnlcfnjeagmemaaGreatDoor
