import Derived.Test.YtnlcfnjeagmemaaGreatDoorJ3
import Derived.Test.YtnlcfnjeagmemaaGreatDoorXeRf
namespace Go.Proofs.YtnlcfnjeagmemaaGreatDoor
open Go.RowKit
set_option maxHeartbeats 4000000
set_option maxRecDepth 100000
theorem EP.byte {w:World}{A B N:Nat}{G:Ji}{eb rb sb:Nat}{P:PV}{es:List Value}{a:Int}{m:Zf}(h:EP w A B N G eb rb sb P es a m)(i:Nat)(v:Int)(hv:0≤v∧v<256):EP (w.setCell ⟨sb,i,none⟩ (.int .u8 v)) A B N G eb rb sb P es a { m with me:=m.me.set i v }:=by
 have ho:=Zl sb i w (.int .u8 v);have hn:=h.er;have hei:EI w eb (toE G P a { m with me:=m.me.set i v }):=by
  have e:toE G P a { m with me:=m.me.set i v }=toE G P a m:=by
   unfold toE;simp only [List.length_set]
  rw [e];exact h.ei
 refine⟨(ho.oth eb hn.2.1).trans hei,(ho.oth rb hn.2.2).trans h.rg,?_,h.rv,by simp only [List.length_set]; exact h.mv,by simp only [List.length_set]; exact h.len,fun b hb=>?_,Gp h.vv (Zmk (N:=N) ho) h.vn h.be h.br h.bs,h.sc.ke (Zmk (N:=N) ho) (by have:=h.bn; have:=h.ae; have:=h.be; omega) h.ae h.ar h.as_,h.tr.ke (Zmk (N:=N) ho) h.tn h.en h.be h.br h.bs,h.rbd,by simp only [List.length_set]; exact h.pk,h.ae,h.ar,h.as_,h.be,h.br,h.bs,h.bn,by have:=h.nw; have:=ho.size; omega,h.vn,h.tn,h.en,h.vz,h.tz⟩
 ·
  have:=heap_setCell_same _ _ i _ _ (.int .u8 v) h.mem;rw [Zhy] at this;exact this
 ·
  rcases List.mem_or_eq_of_mem_set hb with hb | rfl
  ·
   exact h.byt b hb
  ·
   exact hv
theorem ER.rgeq {w:World}{A B N:Nat}{G:Ji}{eb rb sb:Nat}{a:Int}{m:Zf}(h:ER w A B N G eb rb sb a m)(R:Nat→Int)(hR:∀ r,r<G.T.r.toNat→R r=m.rg r)(hb:∀ r,0≤R r∧R r<18446744073709551616):ER w A B N G eb rb sb a { m with rg:=R }:=by
 obtain⟨P,es,h⟩:=h;refine⟨P,es,h.ei,?_,h.mem,h.rv,h.mv,h.len,h.byt,h.vv,h.sc,⟨h.tr.len,h.tr.row,h.tr.each⟩,hb,h.pk,h.ae,h.ar,h.as_,h.be,h.br,h.bs,h.bn,h.nw,h.vn,h.tn,h.en,h.vz,h.tz⟩;have e:rgV G.T.r.toNat R=rgV G.T.r.toNat m.rg:=by
  unfold rgV;refine List.map_congr_left fun i hi=>?_;rw [hR i (List.mem_range.1 hi)]
 show w.heap[rb]?=some (.cells (rgV G.T.r.toNat R).toArray 62 (0,0));rw [e];exact h.rg
theorem xt9 {V:World}{A B N:Nat}{G:Ji}{eb rb sb:Nat}{a:Int}{m:Zf}{s:Nat→Value}{Q:Exit→Act→World→Prop}(hT:TK G.T)(h:ER V A B N G eb rb sb a { m with rg:=Mj 0 })(h18:s 18=.pointer (some ⟨eb,0,none⟩))(hnext:∀(V':World) (s':Nat→Value),ER V' A B N G eb rb sb a { m with rg:=Mj G.T.r.toNat }→Ke B eb rb sb V V'→s' 2=s 2→s' 3=s 3→s' 5=s 5→s' 6=s 6→s' 7=s 7→s' 8=s 8→s' 14=s 14→s' 15=s 15→s' 16=s 16→s' 17=s 17→s' 18=s 18→Code.wp Tryz.prog (xT Tryz.f8 10) Q (Fz s') V') :
 Code.wp Tryz.prog (xT Tryz.f8 9) Q (Fz s) V:=by
 have HN:=Y hnext;obtain⟨rn,hrn⟩:∃ k:Nat,k=G.T.r.toNat:=⟨_,rfl⟩;have hrb16:rn≤16:=by have:=hT.r16; omega
 have c19:V.cell? ⟨eb,19,none⟩=some (.slice (some ⟨rb,0,none⟩) rn rn):=by
  obtain⟨P9,hei9,hrv9,-,-⟩:=h.regs;rw [hrn,← hrv9];exact(cR hei9 19)
 have HE:=Y h;rw [← hrn] at HN;have HRN:=Y hrn;rw [Gj,h18];have H18:=Y h18;clear h hnext hrn h18;conv=>arg 2; whnf
 refine wp_seq_k fun K hK=>?_;have HK:=Y hK;clear hK;go_wp2_with fail
 clear c19;go_loopw [139] (fun s139 V'=>∃ r:Nat,s139=.int .i64 r∧r≤rn∧ER V' A B N G eb rb sb a { m with rg:=Mj r }∧Ke B eb rb sb V V') (fun s139 _=>rn-(intOf s139).toNat)
 case atStart=>exact⟨0,rfl,by omega,O HE,Ke.rf _ _ _ _ _⟩
 case round =>
  obtain⟨r,rfl,hr,her,hke⟩:=hrel;by_cases hr2:r<rn
  ·
   obtain⟨P9,es9,hP9⟩:=her;have e19:wr.cell? ⟨eb,19,none⟩=some (.slice (some ⟨rb,0,none⟩) rn rn):=by rw [O HRN,← hP9.rv]; exact(cR hP9.ei 19)
   have q1:wr.cell? ⟨rb,r,none⟩=some (.int .u64 (Mj r r)):=(Zd hP9.rg r).trans (Kb _ _ _ (by rw [← O HRN]; exact hr2));have z1:=frozen_of_row _ _ r _ _ hP9.rg;have hwk:IntKind.u64.wrap (r:Int)=r:=Lb (by omega) (by omega);have hwk2:IntKind.u64.wrap (7000+(r:Int))=7000+r:=Lb (by omega) (by omega);have hr1:(r:Int)<(rn:Int):=by omega
   have HP2:=Y (show ER (wr.setCell ⟨rb,r,none⟩ (.int .u64 (7000+(r:Int)))) A B N G eb rb sb a { m with rg:=Mj (r+1) } from by
    have:=hP9.reg r (7000+(r:Int)) (by omega);rw [show Yy (Mj r) r (7000+(r:Int))=Mj (r+1) from Zjg r] at this;exact⟨P9,es9,this⟩)
   have HK2:=Y (hke.tr (Zax (Zl rb r wr (.int .u64 (7000+(r:Int))))));generalize Mj r r=old at q1;clear hP9 hke;go_wp2;go_roundw
   case rel=>exact⟨r+1,by go_num,by omega,O HP2,O HK2⟩
   case measure=>simp [intOf]; omega
  ·
   have hrn2:r=rn:=by omega
   subst hrn2;have HE9:=Y her;have HK9:=Y hke;clear her hke;go_wp2_with fail
   refine O HK _ _ ?_;refine Yd (Q:=fun a w=>Code.wp Tryz.prog (xT Tryz.f8 10) _ a w) _ rfl ?_;exact O HN _ _ (O HE9) (O HK9) rfl rfl rfl rfl rfl rfl rfl rfl rfl rfl (O H18).symm
theorem Yau {V:World}{A B N:Nat}{G:Ji}{eb rb sb:Nat}{a:Int}{m:Zf}{n:Nat}{s:Nat→Value}{Q:Exit→Act→World→Prop}(h:ER V A B N G eb rb sb a { m with me:=Ld n 0 })(hn:n≤65536)(h18:s 18=.pointer (some ⟨eb,0,none⟩))(hnext:∀(V':World) (s':Nat→Value),ER V' A B N G eb rb sb a { m with me:=Ld n n }→Ke B eb rb sb V V'→s' 2=s 2→s' 3=s 3→s' 5=s 5→s' 6=s 6→s' 7=s 7→s' 8=s 8→s' 14=s 14→s' 15=s 15→s' 16=s 16→s' 17=s 17→s' 18=s 18→Code.wp Tryz.prog (xT Tryz.f8 11) Q (Fz s') V') :
 Code.wp Tryz.prog (xT Tryz.f8 10) Q (Fz s) V:=by
 have HN:=Y hnext;have c20:V.cell? ⟨eb,20,none⟩=some (.slice (some ⟨sb,0,none⟩) n n):=by
  obtain⟨P9,hei9,-,hmv9,-⟩:=h.regs;have e:G.mv=.slice (some ⟨sb,0,none⟩) n n:=by rw [hmv9]; simp only [Jw]
  rw [← e];exact(cR hei9 20)
 have HE:=Y h;rw [Gj,h18];have H18:=Y h18;clear h hnext h18;conv=>arg 2; whnf
 refine wp_seq_k fun K hK=>?_;have HK:=Y hK;clear hK;go_wp2_with fail
 clear c20;go_loopw [157] (fun s157 V'=>∃ i:Nat,s157=.int .i64 i∧i≤n∧ER V' A B N G eb rb sb a { m with me:=Ld n i }∧Ke B eb rb sb V V') (fun s157 _=>n-(intOf s157).toNat)
 case atStart=>exact⟨0,rfl,by omega,O HE,Ke.rf _ _ _ _ _⟩
 case round =>
  obtain⟨i,rfl,hi,her,hke⟩:=hrel;by_cases hi2:i<n
  ·
   obtain⟨P9,es9,hP9⟩:=her;have e20:wr.cell? ⟨eb,20,none⟩=some (.slice (some ⟨sb,0,none⟩) n n):=by
    have e:G.mv=.slice (some ⟨sb,0,none⟩) n n:=by rw [hP9.mv]; simp only [Jw]
    rw [← e];exact(cR hP9.ei 20)
   have q1:=(Zd hP9.mem i).trans (Sy (bs:=Ld n i) (k:=i) (by rw [Jw]; exact hi2));have z1:=frozen_of_row _ _ i _ _ hP9.mem;have hi1:(i:Int)<(n:Int):=by omega
   have h256:((7*(i:Int)+3) % 256) % 256=(7*(i:Int)+3) % 256:=by omega
   have hw8:IntKind.u8.wrap ((7*(i:Int)+3) % 256)=(7*(i:Int)+3) % 256:=by
    rw [show IntKind.u8.wrap ((7*(i:Int)+3) % 256)=((7*(i:Int)+3) % 256) % 256 from rfl];omega
   have htm:Int.tmod (7*(i:Int)+3) 256=(7*(i:Int)+3) % 256:=Int.tmod_eq_emod_of_nonneg (by omega);have HP2:=Y (show ER (wr.setCell ⟨sb,i,none⟩ (.int .u8 ((7*(i:Int)+3) % 256))) A B N G eb rb sb a { m with me:=Ld n (i+1) } from by
    have:=hP9.byte i ((7*(i:Int)+3) % 256) (by omega);simp only at this;rw [Zes n i] at this;exact⟨P9,es9,this⟩)
   have HK2:=Y (hke.tr (Zmk (Zl sb i wr (.int .u8 ((7*(i:Int)+3) % 256)))));clear hP9 hke h256;generalize (Ld n i).getD i 0=old at q1;go_wp2;go_roundw
   case rel=>exact⟨i+1,by go_num,by omega,O HP2,O HK2⟩
   case measure=>simp [intOf]; omega
  ·
   have hin:i=n:=by omega
   subst hin;have HE9:=Y her;have HK9:=Y hke;clear her hke;go_wp2_with fail
   refine O HK _ _ ?_;refine Yd (Q:=fun a w=>Code.wp Tryz.prog (xT Tryz.f8 11) _ a w) _ rfl ?_;exact O HN _ _ (O HE9) (O HK9) rfl rfl rfl rfl rfl rfl rfl rfl rfl rfl (O H18).symm
theorem Yav {V:World}{A B N:Nat}{G:Ji}{eb rb sb:Nat}{a:Int}{m:Zf}{s:Nat→Value}{Q:Exit→Act→World→Prop}{tb:Nat}{v:Int}(hQp:∀ c (a:Act) d v w,Q (.panic c) (a.put d v) w→Q (.panic c) a w)(hT:TK G.T)(h:ER V A B N G eb rb sb a m)(hrt:V.heap[tb]?=some (.cells G.T.box 25 (0,0)))(hv:0≤v∧v<18446744073709551616)(h7:s 7=.pointer (some ⟨tb,0,none⟩))(h18:s 18=.pointer (some ⟨eb,0,none⟩))(h21:s 21=.int .u64 v)(hnext:∀(V':World) (s':Nat→Value),ER V' A B N G eb rb sb a { m with rg:=Yy m.rg G.T.spN v }→Ke B eb rb sb V V'→s' 2=s 2→s' 3=s 3→s' 5=s 5→s' 6=s 6→s' 7=s 7→s' 8=s 8→s' 14=s 14→s' 15=s 15→s' 16=s 16→s' 17=s 17→s' 18=s 18→s' 21=s 21→Code.wp Tryz.prog (xT Tryz.f8 13) Q (Fz s') V') :
 Code.wp Tryz.prog (xT Tryz.f8 12) Q (Fz s) V:=by
 have HN:=Y hnext;obtain⟨rn,hrn⟩:∃ k:Nat,k=G.T.r.toNat:=⟨_,rfl⟩;have hspl:=hT.spl;rw [← hrn] at hspl;obtain⟨P9,es9,hP9⟩:=h;have c19:V.cell? ⟨eb,19,none⟩=some (.slice (some ⟨rb,0,none⟩) rn rn):=by rw [hrn,← hP9.rv]; exact(cR hP9.ei 19)
 have c1:V.cell? ⟨tb,1,none⟩=some (.int .i64 (G.T.spN:Int)):=by rw [← hT.sp]; exact(cR hrt 1)
 have q1:V.cell? ⟨rb,G.T.spN,none⟩=some (.int .u64 (m.rg G.T.spN)):=(Zd hP9.rg _).trans (Kb _ _ _ (by rw [← hrn]; exact hspl));have z1:=frozen_of_row _ _ G.T.spN _ _ hP9.rg;have HP2:=Y (show ER ((V.drewN 1).setCell ⟨rb,G.T.spN,none⟩ (.int .u64 v)) A B N G eb rb sb a { m with rg:=Yy m.rg G.T.spN v } from⟨P9,es9,(hP9.dr 1).reg G.T.spN v hv⟩);have HK2:=Y (((Ke.rf B eb rb sb V).dr 1).tr (Zax (Zl rb G.T.spN (V.drewN 1) (.int .u64 v))));have hspI:(G.T.spN:Int)<(rn:Int):=by omega
 rw [Gj,h7,h18,h21];have H18:=Y h18;have H21:=Y h21;have H7:=Y h7;clear hP9 hnext hrn h18 h21 h7 hrt;generalize G.T.spN=spn at c1 q1 z1 hspI hspl HP2 HK2 HN;generalize m.rg spn=old at q1;conv=>arg 2; whnf
 refine wp_seq_k fun K hK=>?_;have HK:=Y hK;clear hK;go_upto_region 24 with fail
 refine Zh (C:=fun V9=>∃ k,V9=V.drewN k) (d:=8) (by kernel_rfl) ?_;change Ye _ _ _ _ _ _ _ _ _ (V.drewN 1)
 refine vE 0 ?_ (hQ:=fun c _ _ h=>hQp c _ _ _ _ h);refine vE 1 ?_ (hQ:=fun c _ _ h=>hQp c _ _ _ _ h);refine vE 2 ?_ (hQ:=fun c _ _ h=>hQp c _ _ _ _ h);refine vE 3 ?_ (hQ:=fun c _ _ h=>hQp c _ _ _ _ h);refine vE 4 ?_ (hQ:=fun c _ _ h=>hQp c _ _ _ _ h);refine vE 5 ?_ (hQ:=fun c _ _ h=>hQp c _ _ _ _ h);refine vE 6 ?_ (hQ:=fun c _ _ h=>hQp c _ _ _ _ h);refine vE 7 ?_ (hQ:=fun c _ _ h=>hQp c _ _ _ _ h);refine vO 8 fun K hK=>?_;go_simp;refine kO hK (fun hx=>by cases hx) ?_;clear hK K;refine Zi (by kernel_rfl) ?_ _;refine O HK _ _ ?_;refine Yd (Q:=fun a w=>Code.wp Tryz.prog (xT Tryz.f8 13) _ a w) _ rfl ?_;exact O HN _ _ (O HP2) (O HK2) rfl rfl rfl rfl (O H7).symm rfl rfl rfl rfl rfl (O H18).symm (O H21).symm
theorem Yaw {V:World}{n:Nat}{room:Int}{s:Nat→Value}{Q:Exit→Act→World→Prop}(hr0:0≤room)(hrn:room≤n)(hn:n≤65536)(h5:s 5=.int .i64 (n:Int))(h17:s 17=.int .i64 room)(hnext:∀ s':Nat→Value,s' 2=s 2→s' 3=s 3→s' 5=s 5→s' 6=s 6→s' 7=s 7→s' 8=s 8→s' 14=s 14→s' 15=s 15→s' 16=s 16→s' 17=s 17→s' 18=s 18→s' 21=.int .u64 ((n:Int)-room)→Code.wp Tryz.prog (xT Tryz.f8 12) Q (Fz s') V) :
 Code.wp Tryz.prog (xT Tryz.f8 11) Q (Fz s) V:=by
 have HN:=Y hnext;have hi:IntKind.i64.wrap ((n:Int)-room)=(n:Int)-room:=Nl (by omega) (by omega);have hu:IntKind.u64.wrap ((n:Int)-room)=(n:Int)-room:=Lb (by omega) (by omega);rw [Gj,h5,h17];have H5:=Y h5;have H17:=Y h17;clear hnext h5 h17;conv=>arg 2; whnf
 refine wp_seq_k fun K hK=>?_;have HK:=Y hK;clear hK;go_wp2_with fail
 refine O HK _ _ ?_;refine Yd (Q:=fun a w=>Code.wp Tryz.prog (xT Tryz.f8 12) _ a w) _ rfl ?_;exact O HN _ rfl rfl (O H5).symm rfl rfl rfl rfl rfl rfl (O H17).symm rfl rfl
set_option maxHeartbeats 4000000
set_option maxRecDepth 100000
theorem Tryz.infoU64x:(Tryz.prog.info? 62).map (fun i=>(i.zero,i.size,i.bytes))=some (some (.int .u64 0),1,8):=by kernel_rfl
theorem Yax (n:Nat)(hn:n≤100000)(w:World):(Instr.makeSlice 33 (.int .i64 (n:Int)) (.int .i64 (n:Int))).run Tryz.prog w=.ok (.slice (some ⟨w.heap.size,0,none⟩) n n) (w.alloc (.cells (uC (List.replicate n 0)).toArray 62)):=by
 obtain⟨ti,hti,hz0,hz1,hz2⟩:=Yr Tryz.infoU64x;have h:=run_make (P:=Tryz.prog) w 33 62 ti _ Tryz.underlying33 hti hz0 .i64 .i64 (n:Int) (n:Int) (by omega) (Int.le_refl _) (by rw [hz2]; omega) (by omega);rw [hz1,Int.toNat_natCast,Nat.mul_one,show(Value.int IntKind.u64 0).cells=#[.int .u64 0] from rfl,Zjr,show List.replicate n (Value.int IntKind.u64 0)=uC (List.replicate n 0) by simp [uC]] at h;exact h
theorem Yay (n:Nat)(hn:n≤1000000)(w:World):(Instr.makeSlice 80 (.int .i64 (n:Int)) (.int .i64 (n:Int))).run Tryz.prog w=.ok (.slice (some ⟨w.heap.size,0,none⟩) n n) (w.alloc (.cells (yC (List.replicate n 0)).toArray 5)):=by
 obtain⟨ti,hti,hz0,hz1,hz2⟩:=Yr Tryz.infoU8x;have h:=run_make (P:=Tryz.prog) w 80 5 ti _ Tryz.underlying80 hti hz0 .i64 .i64 (n:Int) (n:Int) (by omega) (Int.le_refl _) (by rw [hz2]; omega) (by omega);rw [hz1,Int.toNat_natCast,Nat.mul_one,show(Value.int IntKind.u8 0).cells=#[.int .u8 0] from rfl,Zjr,show List.replicate n (Value.int IntKind.u8 0)=yC (List.replicate n 0) by simp [yC]] at h;exact h
theorem Zih {V:World}{L e n eb rb sb:Nat}{v:Value}{xs:List Value}(h:V.ownsRow L e 1 v n xs)(h1:eb<L)(h2:rb<L)(h3:sb<L)(hn:n<4611686018427387904)(F:Nat→Value)(hF:∀ k,k<n→xs[k]?=some (F k)):LE V V.heap.size eb rb sb v n F:=by
 obtain⟨-,⟨e1,e2⟩ | ⟨g,cap,cur,e1,hL,hr,hc,hm,hs,ht⟩⟩:=id h
 ·
  subst e2;exact⟨none,0,e1,Nat.le_refl _,by decide,fun k hk=>absurd hk (by omega)⟩
 ·
  refine⟨_,cap,e1,hc,hn,fun k hk=>?_⟩;obtain⟨g',c',e',hB,hlt,hcc⟩:=Ju h (by omega);rw [e1] at e';injection e' with e2 e3 e4;injection e2 with e2;injection e2 with e2;subst e2;refine⟨g,0,rfl,hlt,by omega,by omega,by omega,?_⟩;rw [Nat.zero_add,hcc k (by omega)];exact hF k hk
theorem Zpv:∀(l:List (Zt×Nat)) (k j:Nat) (u:Value),k<l.length→(lnV (l.getD k (Yz,0)))[j]?=some u→(lnC l)[k*8+j]?=some u
 | [],k,j,u,h,_=>absurd h (by simp)
 | x :: r,0,j,u,_,hu=>by
  have hj:j<(lnV x).length:=by
   rw [show(x :: r).getD 0 (Yz,0)=x from rfl] at hu;exact(List.getElem?_eq_some_iff.1 hu).1
  show(lnV x++lnC r)[0*8+j]?=some u;rw [Nat.zero_mul,Nat.zero_add,List.getElem?_append_left hj];exact hu
 | x :: r,k+1,j,u,h,hu=>by
  show(lnV x++lnC r)[(k+1)*8+j]?=some u;rw [List.getElem?_append_right (by show 8≤_; omega),show(k+1)*8+j-(lnV x).length=k*8+j by show(k+1)*8+j-8=_; omega];exact Zpv r k j u (by simpa using h) hu
theorem Zwh {V:World}{L eb rb sb:Nat}{v:Value}{ls:List (Zt×Nat)}(h:V.ownsRow L 114 8 v ls.length (lnC ls))(h1:eb<L)(h2:rb<L)(h3:sb<L)(hn:ls.length<4611686018427387904):EL V V.heap.size eb rb sb v ls:=by
 obtain⟨-,⟨e1,e2⟩ | ⟨g,cap,cur,e1,hL,hr,hc,hm,hs,ht⟩⟩:=id h
 ·
  exact⟨none,0,by rw [e2]; exact e1,hn,fun k hk=>absurd hk (by omega)⟩
 ·
  refine⟨_,cap,e1,hn,fun k hk=>?_⟩;obtain⟨g',c',e',hB,hlt,hcc⟩:=Ju h (by omega);rw [e1] at e';injection e' with e2 e3 e4;injection e2 with e2;injection e2 with e2;subst e2;refine⟨g,0,rfl,hlt,by omega,by omega,by omega,fun j u hu=>?_⟩;have hj:j<8:=(List.getElem?_eq_some_iff.1 hu).1;rw [Nat.zero_add,hcc (k*8+j) (by omega)];exact Zpv ls k j u hk hu
theorem Zzg {V V':World}{eb rb sb:Nat}{E:Ji}{C:Zk}{li bk bg:Value}{rr ck:Nat}{es:Array MapEntry}{vs:List Value}(h:Cd V V' eb E (Xl 0 C.funcs) (Lg C) (Lg C) li bk bg rr ck es vs (Nc C C.funcs.length) (.slice none 0 0) [])(G:Ji)(hli:G.li=li)(hbg:G.bg=bg)(hbk:G.bk=bk)(hnt:G.nt=.map (some rr))(hcf:∃ p c,G.cf=.slice p C.funcs.length c)(hr:rb<V.heap.size)(hs:sb<V.heap.size)(hlen:(Xl 0 C.funcs).length≤1099511627776)(hbl:(Zg C).length≤1099511627776)(hfl:C.funcs.length≤1099511627776):EQ V' V'.heap.size eb rb sb G C:=by
 have he:=h.ew;have hvl:vs.length=C.funcs.length:=by rw [h.len,Zai]
 have hbb:(Lg C).length=(Zg C).length:=by simp [Lg]
 refine⟨⟨⟨fun f=>vs.getD f .nilIface,?_,fun f hf=>?_⟩,?_,hcf⟩,?_,rr,ck,es,hnt,h.mp,h.pe,Su h.mp,by have:=h.rw_; omega,by have:=h.rw_; omega,by have:=h.rw_; omega⟩
 ·
  rw [hbg,← hvl];exact Zih h.obg he hr hs (by omega) _ (fun k hk=>by simp [List.getD,hk])
 ·
  have h1:=h.each f (by rw [Zai]; exact hf);have e1:(Nc C C.funcs.length).getD f []=Zmy C f:=by simp [Nc,List.getD,hf]
  rw [e1] at h1;have e2:(Zmy C f).length=(C.funcs.getD f []).length:=by simp [Zmy]
  rw [e2] at h1;refine Zih h1 he hr hs ?_ _ (fun k hk=>by
   have hq:(List.range (C.funcs.getD f []).length)[k]?=some k:=List.getElem?_range hk;unfold iX Zmy;rw [List.map_map,List.getElem?_map,hq];rfl)
  have h3:=Zlf C (f+1);rw [← Zik C f hf] at h3;have h4:=Zuk C f (C.funcs.getD f []).length (Nat.le_refl _);omega
 ·
  rw [hbk,← hbb];exact Zih h.obk he hr hs (by omega) _ (fun k hk=>by simp [iX,List.getD,hk])
 ·
  rw [hli];exact Zwh h.oli he hr hs (by omega)
theorem xt8 {V:World}{A eb:Nat}{E:Ji}{C:Zk}{s:Nat→Value}{Q:Exit→Act→World→Prop}(hE:EI V eb E)(hli:E.li=.slice none 0 0)(hbg:E.bg=.slice none 0 0)(hbk:E.bk=.slice none 0 0)(hc:Gi V A E.cf C.funcs)(hA:A≤eb)(hlen:(Xl 0 C.funcs).length≤1099511627776)(hbl:(Zg C).length≤1099511627776)(hfl0:C.funcs.length≤1099511627776)(h18:s 18=.pointer (some ⟨eb,0,none⟩))(hnext:∀(V':World) (s':Nat→Value) (li bk bg:Value) (rr ck:Nat) (es:Array MapEntry) (vs:List Value),Cd V V' eb E (Xl 0 C.funcs) (Lg C) (Lg C) li bk bg rr ck es vs (Nc C C.funcs.length) (.slice none 0 0) []→s' 2=s 2→s' 3=s 3→s' 5=s 5→s' 6=s 6→s' 7=s 7→s' 8=s 8→s' 14=s 14→s' 15=s 15→s' 16=s 16→s' 17=s 17→s' 18=s 18→Code.wp Tryz.prog (xT Tryz.f8 9) Q (Fz s') V') :
 Code.wp Tryz.prog (xT Tryz.f8 8) Q (Fz s) V:=by
 have HN:=Y hnext;have HL:=Y (Zwd C V A eb E hE hli hbg hbk hc hA hlen hbl hfl0);rw [Gj,h18];have H18:=Y h18;clear hnext h18 hE hc hli hbg hbk;conv=>arg 2; whnf
 refine wp_seq_k fun K hK=>?_;have HK:=Y hK;clear hK;go_wp2_with fail
 refine(O HL).mono ?_;rintro e w1 ⟨⟨v1,rfl⟩,li,bk,bg,rr,ck,es,vs,hP⟩;have HP:=Y hP;clear hP HL;go_wp2_with fail
 refine O HK _ _ ?_;refine Yd (Q:=fun a w=>Code.wp Tryz.prog (xT Tryz.f8 9) _ a w) _ rfl ?_;exact O HN _ _ li bk bg rr ck es vs (O HP) rfl rfl rfl rfl rfl rfl rfl rfl rfl rfl (O H18).symm
def mC (n:Nat)(sc:List Int)(room:Int):Zf:=⟨0,0,0,Mj 0,Ld n 0,sc,[],room,0,0,0,[]⟩
def gC (T:Zm)(cs cf ce:Value)(rb sb n:Nat):Ji:=⟨T,cs,cf,ce,.slice none 0 0,.slice none 0 0,.slice none 0 0,.map none,.slice (some ⟨rb,0,none⟩) T.r.toNat T.r.toNat,.slice (some ⟨sb,0,none⟩) n n,.slice none 0 0,0,0,0,0,.slice none 0 0,0,.slice none 0 0,0,0⟩
def pC (sv:Value):PV:={ vv:=.slice none 0 0,tv:=.slice none 0 0,scr:=sv }
set_option maxHeartbeats 4000000
set_option maxRecDepth 100000
theorem Xt {W V:World}(X:Obj)(h:Below W.heap.size W V):Below W.heap.size W (V.alloc X):=Zb h (Zs V X).2.1 h.size
theorem Zaj (W:World)(X1 X2 X3:Obj):(((W.alloc X1).alloc X2).alloc X3).heap[W.heap.size]?=some X1∧(((W.alloc X1).alloc X2).alloc X3).heap[W.heap.size+1]?=some X2∧(((W.alloc X1).alloc X2).alloc X3).heap[W.heap.size+2]?=some X3∧Below W.heap.size W (((W.alloc X1).alloc X2).alloc X3):=by
 obtain⟨r1,b1,z1⟩:=Zs W X1;obtain⟨r2,b2,z2⟩:=Zs (W.alloc X1) X2;obtain⟨r3,b3,z3⟩:=Zs ((W.alloc X1).alloc X2) X3;rw [z1] at r2;rw [z2,z1] at r3;refine⟨(b3.block _ (by omega)).trans ((b2.block _ (by omega)).trans r1),(b3.block _ (by omega)).trans r2,r3,Xt _ (Xt _ b1)⟩
theorem rgC (n:Nat):(rgV n (Mj 0)).toArray=(uC (List.replicate n 0)).toArray:=by
 congr 1
 refine List.ext_getElem (by simp [rgV,uC]) fun i h1 h2=>?_;simp [rgV,uC,Mj]
theorem EP.new {W0 V:World}{T:Zm}{cs cf ce sv:Value}{n rn eb rb sb:Nat}{sc:List Int}{room:Int}(hb:Below W0.heap.size W0 V)(he:V.heap[eb]?=some (.cells #[.int .i64 T.r,.int .i64 T.sp,.int .i64 T.lk,.int .i64 T.t0,.int .i64 T.t1,.slice T.pa T.ag.length T.ca,.slice T.pr T.rs.length T.cr,.slice T.ps T.ss.length T.cs,.int .i64 T.al,.int .i64 T.sh,.int .i64 T.br,.bool T.pairs,cs,cf,ce,.slice none 0 0,.slice none 0 0,.slice none 0 0,.map none,.slice (some ⟨rb,0,none⟩) rn rn,.slice (some ⟨sb,0,none⟩) n n,sv,.int .i64 0,.int .i64 0,.int .i64 ((n:Int)-room),.int .i64 0,.slice none 0 0,.int .i64 0,.slice none 0 0,.int .i64 0,.int .i64 0] 85 (0,0)))(hrn:rn=T.r.toNat)(hr:V.heap[rb]?=some (.cells (uC (List.replicate rn 0)).toArray 62 (0,0)))(hm:V.heap[sb]?=some (.cells (yC (List.replicate n 0)).toArray 5 (0,0)))(he1:W0.heap.size≤eb)(hr1:W0.heap.size≤rb)(hs1:W0.heap.size≤sb)(hn:n≤65536)(hro:0≤room∧room≤n)(hs:Lz W0 W0.heap.size sv sc) :
 EP V W0.heap.size V.heap.size V.heap.size (gC T cs cf ce rb sb n) eb rb sb (pC sv) [] 0 (mC n sc room):=by
 subst hrn;have hme:(mC n sc room).me.length=n:=Jw n 0;refine⟨?_,?_,?_,rfl,?_,by rw [hme]; exact hn,?_,World.ownsRow_nil _ _ _ _,hs.ke (Dm (a:=W0.heap.size) (b:=W0.heap.size) (c:=W0.heap.size) hb) (Nat.le_refl _) (Nat.le_refl _) (Nat.le_refl _) (Nat.le_refl _),⟨rfl,World.ownsRow_nil _ _ _ _,fun i hi=>absurd hi (by simp [mC])⟩,?_,by rw [hme]; exact hro,he1,hr1,hs1,Zc he,Zc hr,Zc hm,Nat.le_refl _,Nat.le_refl _,(fun g hg=>by cases hg),(fun g hg=>by cases hg),fun i hi=>absurd hi (by simp [mC]),fun _=>rfl,fun _=>rfl⟩
 ·
  have e:(toE (gC T cs cf ce rb sb n) (pC sv) 0 (mC n sc room)).row=#[.int .i64 T.r,.int .i64 T.sp,.int .i64 T.lk,.int .i64 T.t0,.int .i64 T.t1,.slice T.pa T.ag.length T.ca,.slice T.pr T.rs.length T.cr,.slice T.ps T.ss.length T.cs,.int .i64 T.al,.int .i64 T.sh,.int .i64 T.br,.bool T.pairs,cs,cf,ce,.slice none 0 0,.slice none 0 0,.slice none 0 0,.map none,.slice (some ⟨rb,0,none⟩) T.r.toNat T.r.toNat,.slice (some ⟨sb,0,none⟩) n n,sv,.int .i64 0,.int .i64 0,.int .i64 ((n:Int)-room),.int .i64 0,.slice none 0 0,.int .i64 0,.slice none 0 0,.int .i64 0,.int .i64 0]:=by
   unfold Ji.row toE gC pC;simp only [hme];rfl
  show V.heap[eb]?=some (.cells (toE (gC T cs cf ce rb sb n) (pC sv) 0 (mC n sc room)).row 85 (0,0));rw [e];exact he
 ·
  show V.heap[rb]?=some (.cells (rgV T.r.toNat (Mj 0)).toArray 62 (0,0));rw [rgC];exact hr
 ·
  show V.heap[sb]?=some (.cells (yC (Ld n 0)).toArray 5 (0,0));rw [Zbm];exact hm
 ·
  rw [hme];rfl
 ·
  intro x hx;exact Zjh n 0 x hx
 ·
  intro r;show 0≤Mj 0 r∧Mj 0 r<18446744073709551616;simp [Mj]
theorem xt7 {W0:World}{T:Zm}{cs cf ce:Value}{sp:Option Addr}{scn scc n tb cb:Nat}{room:Int}{s:Nat→Value}{Q:Exit→Act→World→Prop}(hQp:∀ c (a:Act) d v w,Q (.panic c) (a.put d v) w→Q (.panic c) a w)(hr16:T.r≤16)(hr4:4≤T.r)(hn:n≤65536)(hro:0≤room∧room≤n)(hrt:W0.heap[tb]?=some (.cells T.box 25 (0,0)))(hrc:W0.heap[cb]?=some (.cells #[cs,cf,ce] 29 (0,0)))(h4:s 4=.slice sp scn scc)(h5:s 5=.int .i64 (n:Int))(h7:s 7=.pointer (some ⟨tb,0,none⟩))(h8:s 8=.pointer (some ⟨cb,0,none⟩))(h17:s 17=.int .i64 room)
 (hnext:∀(V':World) (s':Nat→Value) (rn eb rb sb:Nat),rn=T.r.toNat→Below W0.heap.size W0 V'→V'.heap[eb]?=some (.cells #[.int .i64 T.r,.int .i64 T.sp,.int .i64 T.lk,.int .i64 T.t0,.int .i64 T.t1,.slice T.pa T.ag.length T.ca,.slice T.pr T.rs.length T.cr,.slice T.ps T.ss.length T.cs,.int .i64 T.al,.int .i64 T.sh,.int .i64 T.br,.bool T.pairs,cs,cf,ce,.slice none 0 0,.slice none 0 0,.slice none 0 0,.map none,.slice (some ⟨rb,0,none⟩) rn rn,.slice (some ⟨sb,0,none⟩) n n,.slice sp scn scc,.int .i64 0,.int .i64 0,.int .i64 ((n:Int)-room),.int .i64 0,.slice none 0 0,.int .i64 0,.slice none 0 0,.int .i64 0,.int .i64 0] 85 (0,0))→V'.heap[rb]?=some (.cells (uC (List.replicate rn 0)).toArray 62 (0,0))→V'.heap[sb]?=some (.cells (yC (List.replicate n 0)).toArray 5 (0,0))→W0.heap.size≤eb→W0.heap.size≤rb→W0.heap.size≤sb→s' 2=s 2→s' 3=s 3→s' 5=s 5→s' 6=s 6→s' 7=s 7→s' 8=s 8→s' 14=s 14→s' 15=s 15→s' 16=s 16→s' 17=s 17→s' 18=.pointer (some ⟨eb,0,none⟩)→Code.wp Tryz.prog (xT Tryz.f8 8) Q (Fz s') V') :
 Code.wp Tryz.prog (xT Tryz.f8 7) Q (Fz s) W0:=by
 have HN:=Y hnext;obtain⟨rn,hrn⟩:∃ k:Nat,T.r=(k:Int):=⟨T.r.toNat,by omega⟩;have hrl:rn≤16:=by omega
 have htb:=Zc hrt;have hcb:=Zc hrc;have HRT:=Y hrt;have HRC:=Y hrc;have HMU:=fun w=>Yax rn (by omega) w;have HMB:=fun w=>Yay n (by omega) w;have HC0:=Y (show Below W0.heap.size W0 (W0.drewN 1) from Jz W0);have hlo:IntKind.i64.wrap ((n:Int)-room)=(n:Int)-room:=Nl (by omega) (by omega);rw [Gj,h4,h5,h7,h8,h17];have H5:=Y h5;have H7:=Y h7;have H8:=Y h8;have H17:=Y h17;clear hnext h4 h5 h7 h8 h17 hrt hrc;conv=>arg 2; whnf
 refine wp_seq_k fun K hK=>?_;have HK:=Y hK;clear hK;go_upto_region 11 with fail
 refine Zh (C:=fun V9=>Below W0.heap.size W0 V9) (d:=13) (by kernel_rfl) ?_;change Ye _ _ _ _ _ _ _ _ _ (W0.drewN 1)
 refine vT (v:=?vt0) 0 (O HC0) ?_ (hy:=?yt0) (hQ:=fun c _ _ h=>hQp c _ _ _ _ h);case yt0 =>
  intro V9 hV;have r9:=(hV.block tb htb).trans (O HRT);have k9:=(hV.block cb hcb).trans (O HRC);have e0:V9.cell? ⟨tb,0,none⟩=some (.int .i64 (rn:Int)):=by rw [← hrn]; exact(cR r9 0)
  have e1:=cR r9 1;have e2:=cR r9 2;have e3:=cR r9 3;have e4:=cR r9 4;have e5:=cR r9 5;have e6:=cR r9 6;have e7:=cR r9 7;have e8:=cR r9 8;have e9:=cR r9 9;have e10:=cR r9 10;have e11:=cR r9 11;have k0:=cR k9 0;have k1:=cR k9 1;have k2:=cR k9 2;clear r9 k9 hV;go_simp;all_goals (with_reducible rfl)
 refine vT (v:=?vt1) 1 (O HC0) ?_ (hy:=?yt1) (hQ:=fun c _ _ h=>hQp c _ _ _ _ h);case yt1 =>
  intro V9 hV;have r9:=(hV.block tb htb).trans (O HRT);have k9:=(hV.block cb hcb).trans (O HRC);have e0:V9.cell? ⟨tb,0,none⟩=some (.int .i64 (rn:Int)):=by rw [← hrn]; exact(cR r9 0)
  have e1:=cR r9 1;have e2:=cR r9 2;have e3:=cR r9 3;have e4:=cR r9 4;have e5:=cR r9 5;have e6:=cR r9 6;have e7:=cR r9 7;have e8:=cR r9 8;have e9:=cR r9 9;have e10:=cR r9 10;have e11:=cR r9 11;have k0:=cR k9 0;have k1:=cR k9 1;have k2:=cR k9 2;clear r9 k9 hV;go_simp;all_goals (with_reducible rfl)
 refine vT (v:=?vt2) 2 (O HC0) ?_ (hy:=?yt2) (hQ:=fun c _ _ h=>hQp c _ _ _ _ h);case yt2 =>
  intro V9 hV;have r9:=(hV.block tb htb).trans (O HRT);have k9:=(hV.block cb hcb).trans (O HRC);have e0:V9.cell? ⟨tb,0,none⟩=some (.int .i64 (rn:Int)):=by rw [← hrn]; exact(cR r9 0)
  have e1:=cR r9 1;have e2:=cR r9 2;have e3:=cR r9 3;have e4:=cR r9 4;have e5:=cR r9 5;have e6:=cR r9 6;have e7:=cR r9 7;have e8:=cR r9 8;have e9:=cR r9 9;have e10:=cR r9 10;have e11:=cR r9 11;have k0:=cR k9 0;have k1:=cR k9 1;have k2:=cR k9 2;clear r9 k9 hV;go_simp;all_goals (with_reducible rfl)
 refine vT (v:=?vt3) 3 (O HC0) ?_ (hy:=?yt3) (hQ:=fun c _ _ h=>hQp c _ _ _ _ h);case yt3 =>
  intro V9 hV;have r9:=(hV.block tb htb).trans (O HRT);have k9:=(hV.block cb hcb).trans (O HRC);have e0:V9.cell? ⟨tb,0,none⟩=some (.int .i64 (rn:Int)):=by rw [← hrn]; exact(cR r9 0)
  have e1:=cR r9 1;have e2:=cR r9 2;have e3:=cR r9 3;have e4:=cR r9 4;have e5:=cR r9 5;have e6:=cR r9 6;have e7:=cR r9 7;have e8:=cR r9 8;have e9:=cR r9 9;have e10:=cR r9 10;have e11:=cR r9 11;have k0:=cR k9 0;have k1:=cR k9 1;have k2:=cR k9 2;clear r9 k9 hV;go_simp;all_goals (with_reducible rfl)
 refine vT (v:=?vt5) 5 (O HC0) ?_ (hy:=?yt5) (hQ:=fun c _ _ h=>hQp c _ _ _ _ h);case yt5 =>
  intro V9 hV;have r9:=(hV.block tb htb).trans (O HRT);have k9:=(hV.block cb hcb).trans (O HRC);have e0:V9.cell? ⟨tb,0,none⟩=some (.int .i64 (rn:Int)):=by rw [← hrn]; exact(cR r9 0)
  have e1:=cR r9 1;have e2:=cR r9 2;have e3:=cR r9 3;have e4:=cR r9 4;have e5:=cR r9 5;have e6:=cR r9 6;have e7:=cR r9 7;have e8:=cR r9 8;have e9:=cR r9 9;have e10:=cR r9 10;have e11:=cR r9 11;have k0:=cR k9 0;have k1:=cR k9 1;have k2:=cR k9 2;clear r9 k9 hV;go_simp;all_goals (with_reducible rfl)
 refine vT (v:=?vt7) 7 (O HC0) ?_ (hy:=?yt7) (hQ:=fun c _ _ h=>hQp c _ _ _ _ h);case yt7 =>
  intro V9 hV;have r9:=(hV.block tb htb).trans (O HRT);have k9:=(hV.block cb hcb).trans (O HRC);have e0:V9.cell? ⟨tb,0,none⟩=some (.int .i64 (rn:Int)):=by rw [← hrn]; exact(cR r9 0)
  have e1:=cR r9 1;have e2:=cR r9 2;have e3:=cR r9 3;have e4:=cR r9 4;have e5:=cR r9 5;have e6:=cR r9 6;have e7:=cR r9 7;have e8:=cR r9 8;have e9:=cR r9 9;have e10:=cR r9 10;have e11:=cR r9 11;have k0:=cR k9 0;have k1:=cR k9 1;have k2:=cR k9 2;clear r9 k9 hV;go_simp;all_goals (with_reducible rfl)
 refine vT (v:=?vt8) 8 (O HC0) ?_ (hy:=?yt8) (hQ:=fun c _ _ h=>hQp c _ _ _ _ h);case yt8 =>
  intro V9 hV;have r9:=(hV.block tb htb).trans (O HRT);have k9:=(hV.block cb hcb).trans (O HRC);have e0:V9.cell? ⟨tb,0,none⟩=some (.int .i64 (rn:Int)):=by rw [← hrn]; exact(cR r9 0)
  have e1:=cR r9 1;have e2:=cR r9 2;have e3:=cR r9 3;have e4:=cR r9 4;have e5:=cR r9 5;have e6:=cR r9 6;have e7:=cR r9 7;have e8:=cR r9 8;have e9:=cR r9 9;have e10:=cR r9 10;have e11:=cR r9 11;have k0:=cR k9 0;have k1:=cR k9 1;have k2:=cR k9 2;clear r9 k9 hV;go_simp;all_goals (with_reducible rfl)
 refine vT (v:=?vt9) 9 (O HC0) ?_ (hy:=?yt9) (hQ:=fun c _ _ h=>hQp c _ _ _ _ h);case yt9 =>
  intro V9 hV;have r9:=(hV.block tb htb).trans (O HRT);have k9:=(hV.block cb hcb).trans (O HRC);have e0:V9.cell? ⟨tb,0,none⟩=some (.int .i64 (rn:Int)):=by rw [← hrn]; exact(cR r9 0)
  have e1:=cR r9 1;have e2:=cR r9 2;have e3:=cR r9 3;have e4:=cR r9 4;have e5:=cR r9 5;have e6:=cR r9 6;have e7:=cR r9 7;have e8:=cR r9 8;have e9:=cR r9 9;have e10:=cR r9 10;have e11:=cR r9 11;have k0:=cR k9 0;have k1:=cR k9 1;have k2:=cR k9 2;clear r9 k9 hV;go_simp;all_goals (with_reducible rfl)
 refine vT (v:=?vt10) 10 (O HC0) ?_ (hy:=?yt10) (hQ:=fun c _ _ h=>hQp c _ _ _ _ h);case yt10 =>
  intro V9 hV;have r9:=(hV.block tb htb).trans (O HRT);have k9:=(hV.block cb hcb).trans (O HRC);have e0:V9.cell? ⟨tb,0,none⟩=some (.int .i64 (rn:Int)):=by rw [← hrn]; exact(cR r9 0)
  have e1:=cR r9 1;have e2:=cR r9 2;have e3:=cR r9 3;have e4:=cR r9 4;have e5:=cR r9 5;have e6:=cR r9 6;have e7:=cR r9 7;have e8:=cR r9 8;have e9:=cR r9 9;have e10:=cR r9 10;have e11:=cR r9 11;have k0:=cR k9 0;have k1:=cR k9 1;have k2:=cR k9 2;clear r9 k9 hV;go_simp;all_goals (with_reducible rfl)
 refine Oz 4 6 (fun K2 hK2=>?_) (fun K2 hK2=>?_)
 ·
  go_simp;refine kO hK2 (fun _=>Xt _ (Jz W0)) ?_;clear hK2 K2;refine vO 6 fun K2 hK2=>?_;go_simp;refine kO hK2 (fun _=>Xt _ (Xt _ (Jz W0))) ?_;clear hK2 K2;refine vO 11 fun K2 hK2=>?_;go_simp;refine kO hK2 (fun _=>Xt _ (Xt _ (Jz W0))) ?_;clear hK2 K2;refine vO 12 fun K2 hK2=>?_;go_simp;refine kO hK2 (fun _=>Xt _ (Xt _ (Xt _ (Jz W0)))) ?_;clear hK2 K2;refine vO 13 fun K2 hK2=>?_;go_simp;refine kO hK2 (fun hx=>by cases hx) ?_;clear hK2 K2;refine Zi (by kernel_rfl) ?_ _;have hth:=Zaj (W0.drewN 1) (.cells (uC (List.replicate rn 0)).toArray 62 (0,0)) (.cells (yC (List.replicate n 0)).toArray 5 (0,0)) (.cells #[.int .i64 (rn:Int),.int .i64 T.sp,.int .i64 T.lk,.int .i64 T.t0,.int .i64 T.t1,.slice T.pa T.ag.length T.ca,.slice T.pr T.rs.length T.cr,.slice T.ps T.ss.length T.cs,.int .i64 T.al,.int .i64 T.sh,.int .i64 T.br,.bool T.pairs,cs,cf,ce,.slice none 0 0,.slice none 0 0,.slice none 0 0,.map none,.slice (some ⟨W0.heap.size,0,none⟩) rn rn,.slice (some ⟨(W0.heap.size+1),0,none⟩) n n,.slice sp scn scc,.int .i64 0,.int .i64 0,.int .i64 ((n:Int)-room),.int .i64 0,.slice none 0 0,.int .i64 0,.slice none 0 0,.int .i64 0,.int .i64 0] 85 (0,0));obtain⟨q1,q2,q3,q4⟩:=hth;refine O HK _ _ ?_;refine Yd (Q:=fun a w=>Code.wp Tryz.prog (xT Tryz.f8 8) _ a w) _ rfl ?_;refine O HN _ _ rn (W0.heap.size+2) W0.heap.size (W0.heap.size+1) (by omega) (Zb (Jz W0) q4 (Nat.le_refl _)) (by rw [hrn]; exact q3) q1 q2 (by omega) (by omega) (by omega) rfl rfl (O H5).symm rfl (O H7).symm (O H8).symm rfl rfl rfl (O H17).symm rfl
 ·
  go_simp;refine kO hK2 (fun _=>Xt _ (Jz W0)) ?_;clear hK2 K2;refine vO 4 fun K2 hK2=>?_;go_simp;refine kO hK2 (fun _=>Xt _ (Xt _ (Jz W0))) ?_;clear hK2 K2;refine vO 11 fun K2 hK2=>?_;go_simp;refine kO hK2 (fun _=>Xt _ (Xt _ (Jz W0))) ?_;clear hK2 K2;refine vO 12 fun K2 hK2=>?_;go_simp;refine kO hK2 (fun _=>Xt _ (Xt _ (Xt _ (Jz W0)))) ?_;clear hK2 K2;refine vO 13 fun K2 hK2=>?_;go_simp;refine kO hK2 (fun hx=>by cases hx) ?_;clear hK2 K2;refine Zi (by kernel_rfl) ?_ _;have hth:=Zaj (W0.drewN 1) (.cells (yC (List.replicate n 0)).toArray 5 (0,0)) (.cells (uC (List.replicate rn 0)).toArray 62 (0,0)) (.cells #[.int .i64 (rn:Int),.int .i64 T.sp,.int .i64 T.lk,.int .i64 T.t0,.int .i64 T.t1,.slice T.pa T.ag.length T.ca,.slice T.pr T.rs.length T.cr,.slice T.ps T.ss.length T.cs,.int .i64 T.al,.int .i64 T.sh,.int .i64 T.br,.bool T.pairs,cs,cf,ce,.slice none 0 0,.slice none 0 0,.slice none 0 0,.map none,.slice (some ⟨(W0.heap.size+1),0,none⟩) rn rn,.slice (some ⟨W0.heap.size,0,none⟩) n n,.slice sp scn scc,.int .i64 0,.int .i64 0,.int .i64 ((n:Int)-room),.int .i64 0,.slice none 0 0,.int .i64 0,.slice none 0 0,.int .i64 0,.int .i64 0] 85 (0,0));obtain⟨q1,q2,q3,q4⟩:=hth;refine O HK _ _ ?_;refine Yd (Q:=fun a w=>Code.wp Tryz.prog (xT Tryz.f8 8) _ a w) _ rfl ?_;refine O HN _ _ rn (W0.heap.size+2) (W0.heap.size+1) W0.heap.size (by omega) (Zb (Jz W0) q4 (Nat.le_refl _)) (by rw [hrn]; exact q3) q2 q1 (by omega) (by omega) (by omega) rfl rfl (O H5).symm rfl (O H7).symm (O H8).symm rfl rfl rfl (O H17).symm rfl
end Go.Proofs.YtnlcfnjeagmemaaGreatDoor
