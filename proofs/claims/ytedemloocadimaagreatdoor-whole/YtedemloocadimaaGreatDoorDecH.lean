import Derived.Test.YtedemloocadimaaGreatDoorDecG
namespace Go.Proofs.YtedemloocadimaaGreatDoor
open Go.RowKit
set_option maxHeartbeats 4000000
set_option maxRecDepth 100000
theorem Zzb (b:Nat)(s:ByteArray)(a:Nat)(w:World)(h:Mc w b s a)(hb1:2<b)(hN:Zs w):Calls Tryz.prog 154 #[.pointer (some ⟨b,0,none⟩)] w (Yl b s (Zty Zio) (Ib s a) w):=by
 have hbw:=h.lt;have hmf:∀(fn:Fn) (first cap:Array Value) (w:World),(Instr.makeFunc fn first cap).run Tryz.prog w=.ok (.func fn first cap) w:=fun _ _ _ _=>rfl;have HC:=Zc (Zmc 215 (fun _ _=>rfl) Mv Zfi (Mu s) b s a 1 24 w h (by decide) (by decide) (fun a' w' h' hg=>Zen b s a' w' h' hb1 (hN.gb hg hb1 hbw)));clear h hN;go_enter Tryz.func154,Tryz.ntmps154
 go_wp2_with fail
 refine(O HC).mono ?_;intro e w2 h2;cases hr:Ys s 1 24 (Mu s) a with
 | ok p =>
  obtain⟨x,a'⟩:=p;rw [hr] at h2;obtain⟨g1,v,rfl,hv,hR⟩:=h2;have HV:=Zc hv;have HR2:=Zc hR;have HG2:=Zc g1;have HE:=Zc hr;obtain⟨vp,vc,hsh⟩:=hv.shape;subst hsh;clear hv hR g1 hr;go_wp2;go_ret;rw [show Ib s a=.ok (x,a') from O HE];exact⟨O HG2,_,rfl,⟨⟨_,rfl,O HV⟩,_,_,_,rfl⟩,O HR2⟩
 | error q =>
  rw [hr] at h2;have h3:=Yl.err (RW:=Zty Zio) h2 (Ju w (some b));obtain⟨g1,g,rfl,g2,g3⟩:=h2;refine⟨rfl,?_⟩;rw [show Ib s a=.error q from hr];exact h3
theorem Zmf (b:Nat)(s:ByteArray)(a:Nat)(w:World)(h:Mc w b s a)(hb1:2<b)(hN:Zs w):Calls Tryz.prog 99 #[.pointer (some ⟨b,0,none⟩)] w (Yl b s (Gn 5 Sy) (Cq s a) w):=by
 have hst:=Oe.start w b s a 93 #[.slice none 0 0,.int .i64 0,.slice none 0 0,.slice none 0 0,.slice none 0 0] h;obtain⟨T3,hT3⟩:∃ T,T=w.heap.size+1:=⟨_,rfl⟩;have hbw:=h.lt;have HN:=Zc hN;clear hN;go_enter Tryz.func99,Tryz.ntmps99
 go_wp2_with fail
 rw [← hT3] at hst ⊢;generalize (w.alloc (.cells #[.slice none 0 0,.int .i64 0,.slice none 0 0,.slice none 0 0,.slice none 0 0] 93)).alloc (.cells #[.slice none 0 0,.int .i64 0,.slice none 0 0,.slice none 0 0,.slice none 0 0] 93)=u0 at hst ⊢;have hT:w.heap.size<T3:=by omega
 have hl0:=hst.lt;have HS0:=Zc hst;have HD0:=Zc (show Cq s a=Cq s a from rfl);clear hst hT3 h;refine(Zgi 150 (fun _ _=>rfl) RP Lg (Mt s) b s a 0 8 u0 (O HS0).rd (by decide) (by decide) (fun a' w' h hgw=>Zyv b s a' w' h)).mono ?_;intro e w1 h2;cases hr:(Ys s 0 8 (Mt s)) a with
 | error q =>
  rw [hr] at h2;have h3:=Yl.err (RW:=Gn 5 Sy) h2 (O HS0).gb;obtain⟨g1,g,rfl,g2,g3⟩:=h2;refine⟨rfl,?_⟩;have h4:=O HD0;unfold Cq at h4 ⊢;rw [hr];exact h3
 | ok p =>
  obtain⟨x0,a1⟩:=p;rw [hr] at h2;obtain⟨hg,v0,rfl,hv,hR⟩:=h2;have hsz:=hg.size;have HV0:=Zc (show Xn w1 (T3+1) 85 2 (RP w1 (T3+1)) v0 x0 from(Zt Lg) _ _ _ _ _ _ (by omega) (fun _ _ _=>rfl) hv);obtain⟨vp0,vc0,hsh⟩:=hv.shape;subst hsh;clear hv;have hst:=(O HS0).call hR hg;have cc:=hst.cell 0 _ rfl;have ff:=hst.fz 0;have HV0:=Zc ((Zt Lg) _ _ _ _ _ _ (Nat.le_refl _) (Jv w1 T3 0 (.slice vp0 x0.length vc0)) (O HV0));have HS1:=Zc (show Oe w (w1.setCell ⟨T3,0,none⟩ (.slice vp0 x0.length vc0)) b w.heap.size T3 s a1 93 #[.slice none 0 0,.int .i64 0,.slice none 0 0,.slice none 0 0,.slice none 0 0] #[.slice vp0 x0.length vc0,.int .i64 0,.slice none 0 0,.slice none 0 0,.slice none 0 0] from hst.set 0 _);have hl1:=(O HS1).lt;have h4:=O HD0;conv at h4=>rhs; unfold Cq
  rw [hr] at h4;simp only [Zv] at h4;have HD1:=Zc h4;clear h4 hr hst hg hR HS0 HD0 hsz;go_wp2_with fail
  clear cc ff;refine(Xm b s a1 0 4 (w1.setCell ⟨T3,0,none⟩ (.slice vp0 x0.length vc0)) (O HS1).rd (by decide)).mono ?_;intro e w2 h2;cases hr:(Yf s 0 4) a1 with
  | error q =>
   rw [hr] at h2;have h3:=Yl.err (RW:=Gn 5 Sy) h2 (O HS1).gb;obtain⟨g1,g,rfl,g2,g3⟩:=h2;refine⟨rfl,?_⟩;have h4:=O HD1;rw [hr,Yk] at h4;rw [h4];exact h3
  | ok p =>
   obtain⟨x1,a2⟩:=p;rw [hr] at h2;obtain⟨hg,v1,rfl,hv,hR⟩:=h2;have hsz:=hg.size;have hv':v1=.int .i64 x1:=hv;subst hv';clear hv;have hst:=(O HS1).call hR hg;have cc:=hst.cell 1 _ rfl;have ff:=hst.fz 1;have HV0:=Zc ((Zt Lg) _ _ _ _ _ _ (Nat.le_refl _) (Uu ((O HS1).kept hg) hsz (Jv w2 T3 1 (.int .i64 x1))) (O HV0));have HS2:=Zc (show Oe w (w2.setCell ⟨T3,1,none⟩ (.int .i64 x1)) b w.heap.size T3 s a2 93 #[.slice none 0 0,.int .i64 0,.slice none 0 0,.slice none 0 0,.slice none 0 0] #[.slice vp0 x0.length vc0,.int .i64 x1,.slice none 0 0,.slice none 0 0,.slice none 0 0] from hst.set 1 _);have hl2:=(O HS2).lt;have h4:=O HD1;rw [hr] at h4;simp only [Zv] at h4;have HD2:=Zc h4;clear h4 hr hst hg hR HS1 HD1 hsz;go_wp2_with fail
   clear cc ff;refine(Di 151 (fun _ _=>rfl) RI Jj (Yf s (-1) 15) b s a2 0 12 (w2.setCell ⟨T3,1,none⟩ (.int .i64 x1)) (O HS2).rd (by decide) (by decide) (fun a' w' h hgw=>(Ycs b s a' w' h).mono fun _ _ hh=>hh.imp Zab)).mono ?_;intro e w3 h2;cases hr:(Ys s 0 12 (Yf s (-1) 15)) a2 with
   | error q =>
    rw [hr] at h2;have h3:=Yl.err (RW:=Gn 5 Sy) h2 (O HS2).gb;obtain⟨g1,g,rfl,g2,g3⟩:=h2;refine⟨rfl,?_⟩;have h4:=O HD2;rw [hr,Yk] at h4;rw [h4];exact h3
   | ok p =>
    obtain⟨x2,a3⟩:=p;rw [hr] at h2;obtain⟨hg,v2,rfl,hv,hR⟩:=h2;have hsz:=hg.size;have HV2:=Zc (show Xn w3 (T3+1) 3 1 (RI w3 (T3+1)) v2 x2 from(Zt Jj) _ _ _ _ _ _ (by omega) (fun _ _ _=>rfl) hv);obtain⟨vp2,vc2,hsh⟩:=hv.shape;subst hsh;clear hv;have hst:=(O HS2).call hR hg;have cc:=hst.cell 2 _ rfl;have ff:=hst.fz 2;have HV0:=Zc ((Zt Lg) _ _ _ _ _ _ (Nat.le_refl _) (Uu ((O HS2).kept hg) hsz (Jv w3 T3 2 (.slice vp2 x2.length vc2))) (O HV0));have HV2:=Zc ((Zt Jj) _ _ _ _ _ _ (Nat.le_refl _) (Jv w3 T3 2 (.slice vp2 x2.length vc2)) (O HV2));have HS3:=Zc (show Oe w (w3.setCell ⟨T3,2,none⟩ (.slice vp2 x2.length vc2)) b w.heap.size T3 s a3 93 #[.slice none 0 0,.int .i64 0,.slice none 0 0,.slice none 0 0,.slice none 0 0] #[.slice vp0 x0.length vc0,.int .i64 x1,.slice vp2 x2.length vc2,.slice none 0 0,.slice none 0 0] from hst.set 2 _);have hl3:=(O HS3).lt;have h4:=O HD2;rw [hr] at h4;simp only [Zv] at h4;have HD3:=Zc h4;clear h4 hr hst hg hR HS2 HD2 hsz;go_wp2_with fail
    clear cc ff;refine(Di 152 (fun _ _=>rfl) RI Jj (Yf s 1 8) b s a3 0 6 (w3.setCell ⟨T3,2,none⟩ (.slice vp2 x2.length vc2)) (O HS3).rd (by decide) (by decide) (fun a' w' h hgw=>(Ycr b s a' w' h).mono fun _ _ hh=>hh.imp Zab)).mono ?_;intro e w4 h2;cases hr:(Ys s 0 6 (Yf s 1 8)) a3 with
    | error q =>
     rw [hr] at h2;have h3:=Yl.err (RW:=Gn 5 Sy) h2 (O HS3).gb;obtain⟨g1,g,rfl,g2,g3⟩:=h2;refine⟨rfl,?_⟩;have h4:=O HD3;rw [hr,Yk] at h4;rw [h4];exact h3
    | ok p =>
     obtain⟨x3,a4⟩:=p;rw [hr] at h2;obtain⟨hg,v3,rfl,hv,hR⟩:=h2;have hsz:=hg.size;have HV3:=Zc (show Xn w4 (T3+1) 3 1 (RI w4 (T3+1)) v3 x3 from(Zt Jj) _ _ _ _ _ _ (by omega) (fun _ _ _=>rfl) hv);obtain⟨vp3,vc3,hsh⟩:=hv.shape;subst hsh;clear hv;have hst:=(O HS3).call hR hg;have cc:=hst.cell 3 _ rfl;have ff:=hst.fz 3;have HV0:=Zc ((Zt Lg) _ _ _ _ _ _ (Nat.le_refl _) (Uu ((O HS3).kept hg) hsz (Jv w4 T3 3 (.slice vp3 x3.length vc3))) (O HV0));have HV2:=Zc ((Zt Jj) _ _ _ _ _ _ (Nat.le_refl _) (Uu ((O HS3).kept hg) hsz (Jv w4 T3 3 (.slice vp3 x3.length vc3))) (O HV2));have HV3:=Zc ((Zt Jj) _ _ _ _ _ _ (Nat.le_refl _) (Jv w4 T3 3 (.slice vp3 x3.length vc3)) (O HV3));have HS4:=Zc (show Oe w (w4.setCell ⟨T3,3,none⟩ (.slice vp3 x3.length vc3)) b w.heap.size T3 s a4 93 #[.slice none 0 0,.int .i64 0,.slice none 0 0,.slice none 0 0,.slice none 0 0] #[.slice vp0 x0.length vc0,.int .i64 x1,.slice vp2 x2.length vc2,.slice vp3 x3.length vc3,.slice none 0 0] from hst.set 3 _);have hl4:=(O HS4).lt;have h4:=O HD3;rw [hr] at h4;simp only [Zv] at h4;have HD4:=Zc h4;clear h4 hr hst hg hR HS3 HD3 hsz;go_wp2_with fail
     clear cc ff;refine(Zgj 154 (fun _ _=>rfl) Zio Rq (Ib s) b s a4 1 12 (w4.setCell ⟨T3,3,none⟩ (.slice vp3 x3.length vc3)) (O HS4).rd (by decide) (by decide) (fun a' w' h hgw=>Zzb b s a' w' h hb1 ((O HN).gb (Xy (O HS4).gb hgw) hb1 hbw))).mono ?_;intro e w5 h2;cases hr:(Ys s 1 12 (Ib s)) a4 with
     | error q =>
      rw [hr] at h2;have h3:=Yl.err (RW:=Gn 5 Sy) h2 (O HS4).gb;obtain⟨g1,g,rfl,g2,g3⟩:=h2;refine⟨rfl,?_⟩;have h4:=O HD4;rw [hr,Yk] at h4;rw [h4];exact h3
     | ok p =>
      obtain⟨x4,a5⟩:=p;rw [hr] at h2;obtain⟨hg,v4,rfl,hv,hR⟩:=h2;have hsz:=hg.size;have HV4:=Zc (show Xn w5 (T3+1) 90 1 (Zio w5 (T3+1)) v4 x4 from(Zt Rq) _ _ _ _ _ _ (by omega) (fun _ _ _=>rfl) hv);obtain⟨vp4,vc4,hsh⟩:=hv.shape;subst hsh;clear hv;have hst:=(O HS4).call hR hg;have cc:=hst.cell 4 _ rfl;have ff:=hst.fz 4;have HV0:=Zc ((Zt Lg) _ _ _ _ _ _ (Nat.le_refl _) (Uu ((O HS4).kept hg) hsz (Jv w5 T3 4 (.slice vp4 x4.length vc4))) (O HV0));have HV2:=Zc ((Zt Jj) _ _ _ _ _ _ (Nat.le_refl _) (Uu ((O HS4).kept hg) hsz (Jv w5 T3 4 (.slice vp4 x4.length vc4))) (O HV2));have HV3:=Zc ((Zt Jj) _ _ _ _ _ _ (Nat.le_refl _) (Uu ((O HS4).kept hg) hsz (Jv w5 T3 4 (.slice vp4 x4.length vc4))) (O HV3));have HV4:=Zc ((Zt Rq) _ _ _ _ _ _ (Nat.le_refl _) (Jv w5 T3 4 (.slice vp4 x4.length vc4)) (O HV4));have HS5:=Zc (show Oe w (w5.setCell ⟨T3,4,none⟩ (.slice vp4 x4.length vc4)) b w.heap.size T3 s a5 93 #[.slice none 0 0,.int .i64 0,.slice none 0 0,.slice none 0 0,.slice none 0 0] #[.slice vp0 x0.length vc0,.int .i64 x1,.slice vp2 x2.length vc2,.slice vp3 x3.length vc3,.slice vp4 x4.length vc4] from hst.set 4 _);have hl5:=(O HS5).lt;have h4:=O HD4;rw [hr] at h4;simp only [Zv] at h4;have HD5:=Zc h4;clear h4 hr hst hg hR HS4 HD4 hsz;have HR2:=Zc (O HS5).r2;have HR3:=Zc (O HS5).r3;go_wp2_with (first | (refine wpList_load_row rfl 93 (.tmp 3) rfl T3 rfl 93 #[.slice vp0 x0.length vc0,.int .i64 x1,.slice vp2 x2.length vc2,.slice vp3 x3.length vc3,.slice vp4 x4.length vc4] (0,0) _ (O HR3) Tryz.underlying93 rfl (Tryz.infFuncs.trans rfl) ?_) | (refine wpList_store_row rfl 93 (.tmp 2) (.tmp 27) rfl w.heap.size #[.slice vp0 x0.length vc0,.int .i64 x1,.slice vp2 x2.length vc2,.slice vp3 x3.length vc3,.slice vp4 x4.length vc4] rfl rfl 93 _ (O HR2) (Tryz.infFuncs.trans rfl) rfl (by simp [Value.oneCell']) ?_))
      refine bodyPost_ret (Xo (fn:=Tryz.f99) (q:=2) (uy:=93) rfl _ _ w.heap.size 93 #[.slice vp0 x0.length vc0,.int .i64 x1,.slice vp2 x2.length vc2,.slice vp3 x3.length vc3,.slice vp4 x4.length vc4] (0,0) _ rfl (setRow_heap _ _ _ _ _ _ (O HR2)) Tryz.underlying93 rfl (Tryz.infFuncs.trans rfl)) rfl ?_;rw [O HD5];have hs:=O HS5;exact⟨Jb hs.gb (Nat.le_refl _) _,_,rfl,⟨#[.slice vp0 x0.length vc0,.int .i64 x1,.slice vp2 x2.length vc2,.slice vp3 x3.length vc3,.slice vp4 x4.length vc4],rfl,rfl,by simp [Value.oneCell'],⟨_,_,_,_,rfl,((Zt Lg) _ _ _ _ _ _ (by omega) (Js _ _ _ _ (by omega)) (O HV0)),((Zt Jj) _ _ _ _ _ _ (by omega) (Js _ _ _ _ (by omega)) (O HV2)),((Zt Jj) _ _ _ _ _ _ (by omega) (Js _ _ _ _ (by omega)) (O HV3)),((Zt Rq) _ _ _ _ _ _ (by omega) (Js _ _ _ _ (by omega)) (O HV4))⟩⟩,hs.rd.blk (setRow_other _ _ _ _ (by omega))⟩
structure St1 (w u:World)(b T2:Nat)(s:ByteArray)(a:Nat)(T:TypeId)(Z:Array Value):Prop where
 rd:Mc u b s a
 gb:w.grownBy u (some b)
 r2:u.heap[T2]?=some (.cells Z T (0,0))
 h0:b<w.heap.size
 h2:w.heap.size≤T2
section
variable {w u u':World} {b T2:Nat} {s:ByteArray} {a a':Nat} {T:TypeId} {Z:Array Value}
theorem St1.lt (h:St1 w u b T2 s a T Z):T2<u.heap.size:=Zk h.r2
theorem St1.call (h:St1 w u b T2 s a T Z)(hR:Mc u' b s a')(hg:u.grownBy u' (some b)):St1 w u' b T2 s a' T Z :=
 have e0:=h.h0;have e2:=h.h2;⟨hR,Xy h.gb hg,(hg.block T2 (Zk h.r2) (by intro e; injection e with e; omega)).trans h.r2,e0,e2⟩
theorem St1.kept (h:St1 w u b T2 s a T Z)(hg:u.grownBy u' (some b)):Xt (T2+1) u u':=Xt.of_gb hg (by have:=h.h0; have:=h.h2; omega)
end
theorem Tryz.infProgD:(Tryz.prog.info? 25).map (·.size)=some 2:=by kernel_rfl
theorem Zqu (b:Nat)(s:ByteArray)(a:Nat)(w:World)(h:Mc w b s a)(hb1:2<b)(hN:Zs w):Calls Tryz.prog 57 #[.pointer (some ⟨b,0,none⟩)] w (Yl b s Uh (Ro s a) w):=by
 have hmf:∀(fn:Fn) (first cap:Array Value) (w:World),(Instr.makeFunc fn first cap).run Tryz.prog w=.ok (.func fn first cap) w:=fun _ _ _ _=>rfl;have hbw:=h.lt;have hst:St1 w (w.alloc (.cells #[.slice none 0 0,.slice none 0 0] 25 (0,0))) b w.heap.size s a 25 #[.slice none 0 0,.slice none 0 0]:=⟨h.alloc _,Yc _ _ _,heap_alloc_new _ _,hbw,Nat.le_refl _⟩;have HN:=Zc hN;clear hN h;go_enter Tryz.func57,Tryz.ntmps57
 go_wp2_with fail
 generalize w.alloc (.cells #[.slice none 0 0,.slice none 0 0] 25)=u0 at hst ⊢;have hl0:=hst.lt;have HS0:=Zc hst;have HD0:=Zc (show Ro s a=Ro s a from rfl);clear hst;refine(Xm b s a 70 70 u0 (O HS0).rd (by decide)).mono ?_;intro e w1 h2;cases hr:(Yf s 70 70) a with
 | error q =>
  rw [hr] at h2;have h3:=Yl.err (RW:=Uh) h2 (O HS0).gb;obtain⟨g1,g,rfl,g2,g3⟩:=h2;refine⟨rfl,?_⟩;have h4:=O HD0;unfold Ro at h4 ⊢;rw [hr];exact h3
 | ok p =>
  obtain⟨x0,a1⟩:=p;rw [hr] at h2;obtain⟨hg,v0,rfl,hv,hR⟩:=h2;have hsz:=hg.size;have hv':v0=.int .i64 x0:=hv;subst hv';clear hv;have HS1:=Zc ((O HS0).call hR hg);have hl1:=(O HS1).lt;have h4:=O HD0;conv at h4=>rhs; unfold Ro
  rw [hr] at h4;simp only [Zv] at h4;have HD1:=Zc h4;clear h4 hr hg hR HS0 HD0 hsz;go_wp2_with fail
  refine(Xm b s a1 49 49 w1 (O HS1).rd (by decide)).mono ?_;intro e w2 h2;cases hr:(Yf s 49 49) a1 with
  | error q =>
   rw [hr] at h2;have h3:=Yl.err (RW:=Uh) h2 (O HS1).gb;obtain⟨g1,g,rfl,g2,g3⟩:=h2;refine⟨rfl,?_⟩;have h4:=O HD1;rw [hr,Yk] at h4;rw [h4];exact h3
  | ok p =>
   obtain⟨x1,a2⟩:=p;rw [hr] at h2;obtain⟨hg,v1,rfl,hv,hR⟩:=h2;have hsz:=hg.size;have hv':v1=.int .i64 x1:=hv;subst hv';clear hv;have HS2:=Zc ((O HS1).call hR hg);have hl2:=(O HS2).lt;have h4:=O HD1;rw [hr] at h4;simp only [Zv] at h4;have HD2:=Zc h4;clear h4 hr hg hR HS1 HD1 hsz;go_wp2_with fail
   refine(Zmb 97 (fun _ _=>rfl) Zgk Rp (Zem s) b s a2 0 4 w2 (O HS2).rd (by decide) (by decide) (fun a' w' h _=>Yfq b s a' w' h)).mono ?_;intro e w3 h2;cases hr:(Ys s 0 4 (Zem s)) a2 with
   | error q =>
    rw [hr] at h2;have h3:=Yl.err (RW:=Uh) h2 (O HS2).gb;obtain⟨g1,g,rfl,g2,g3⟩:=h2;refine⟨rfl,?_⟩;have h4:=O HD2;rw [hr,Yk] at h4;rw [h4];exact h3
   | ok p =>
    obtain⟨x2,a3⟩:=p;rw [hr] at h2;obtain⟨hg,v2,rfl,hv,hR⟩:=h2;have hsz:=hg.size;have HV2:=Zc (show Xn w3 (w.heap.size+1) 59 2 (Zgk w3 (w.heap.size+1)) v2 x2 from(Zt Rp) _ _ _ _ _ _ (by omega) (fun _ _ _=>rfl) hv);obtain⟨vp2,vc2,hsh⟩:=hv.shape;subst hsh;clear hv;have HS3:=Zc ((O HS2).call hR hg);have hl3:=(O HS3).lt;have h4:=O HD2;rw [hr] at h4;simp only [Zv] at h4;have HD3:=Zc h4;clear h4 hr hg hR HS2 HD2 hsz;go_wp2_with fail
    refine(Zin 99 (fun _ _=>rfl) Sy Sk (Cq s) b s a3 1 8 w3 (O HS3).rd (by decide) (by decide) (fun a' w' h hgw=>Zmf b s a' w' h hb1 ((O HN).gb (Xy (O HS3).gb hgw) hb1 hbw))).mono ?_;intro e w4 h2;cases hr:(Ys s 1 8 (Cq s)) a3 with
    | error q =>
     rw [hr] at h2;have h3:=Yl.err (RW:=Uh) h2 (O HS3).gb;obtain⟨g1,g,rfl,g2,g3⟩:=h2;refine⟨rfl,?_⟩;have h4:=O HD3;rw [hr,Yk] at h4;rw [h4];exact h3
    | ok p =>
     obtain⟨x3,a4⟩:=p;rw [hr] at h2;obtain⟨hg,v3,rfl,hv,hR⟩:=h2;have hsz:=hg.size;have HV3:=Zc (show Xn w4 (w.heap.size+1) 93 5 (Sy w4 (w.heap.size+1)) v3 x3 from(Zt Sk) _ _ _ _ _ _ (by omega) (fun _ _ _=>rfl) hv);obtain⟨vp3,vc3,hsh⟩:=hv.shape;subst hsh;clear hv;have HV2:=Zc ((Zt Rp) _ _ _ _ _ _ (Nat.le_refl _) ((O HS3).kept hg) (O HV2));have HS4:=Zc ((O HS3).call hR hg);have hl4:=(O HS4).lt;have h4:=O HD3;rw [hr] at h4;simp only [Zv] at h4;have HD4:=Zc h4;clear h4 hr hg hR HS3 HD3 hsz;have HR2:=Zc (O HS4).r2;go_wp2_with (refine wpList_store_row rfl 25 (.tmp 2) (.tmp 17) rfl w.heap.size #[.slice vp3 x3.length vc3,.slice vp2 x2.length vc2] rfl rfl 25 _ (O HR2) (Tryz.infProgD.trans rfl) rfl (by simp [Value.oneCell']) ?_)
     refine bodyPost_ret (Xo (fn:=Tryz.f57) (q:=2) (uy:=25) rfl _ _ w.heap.size 25 #[.slice vp3 x3.length vc3,.slice vp2 x2.length vc2] (0,0) _ rfl (setRow_heap _ _ _ _ _ _ (O HR2)) Tryz.underlying25 rfl (Tryz.infProgD.trans rfl)) rfl ?_;rw [O HD4];have hs:=O HS4;exact⟨Jb hs.gb (Nat.le_refl _) _,_,rfl,⟨_,_,rfl,((Zt Sk) _ _ _ _ _ _ (by omega) (Js _ _ _ _ (by omega)) (O HV3)),((Zt Rp) _ _ _ _ _ _ (by omega) (Js _ _ _ _ (by omega)) (O HV2))⟩,hs.rd.blk (setRow_other _ _ _ _ (by omega))⟩
end Go.Proofs.YtedemloocadimaaGreatDoor
