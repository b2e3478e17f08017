import Derived.Test.YteddfaconabobaaGreatDoorPk
import Derived.Test.YteddfaconabobaaGreatDoorJ38
import Derived.Test.YteddfaconabobaaGreatDoorJ16
import Derived.OrdersHeld
namespace Go.Proofs.YteddfaconabobaaGreatDoor
open Go.RowKit
theorem Zft {w:World}{B:Nat}{N:Nat→Prop}{tp:Option Addr}{tc:Nat}{tr:List (Int×List Int)}{es:List Value}(h:TrI w B N (.slice tp tr.length tc) tr es)(k:Nat)(hk:k<tr.length)(hl:(tr.getD k (0,[])).2.length<4611686018427387904):∃ g p c,tp=some ⟨g,0,none⟩∧g<w.heap.size∧w.cell? ⟨g,k*2,none⟩=some (.int .i64 (tr.getD k (0,[])).1)∧w.cell? ⟨g,k*2+1,none⟩=some (.slice p (tr.getD k (0,[])).2.length c)∧Lv w (.slice p (tr.getD k (0,[])).2.length c) (tr.getD k (0,[])).2:=by
 obtain⟨g,c,e,-,hg,hc⟩:=Zib h.row (by omega);injection e with e1 e2 e3;obtain⟨p,c',e4⟩:=Zm (h.each k hk).1;have h1:=(hc (k*2) (by omega)).trans (Zjr tr es k h.len hk);have h2:=(hc (k*2+1) (by omega)).trans (Zfq tr es k h.len hk);have h3:=(h.each k hk).1;rw [e4] at h2 h3;exact⟨g,p,c',e1,hg,h1,h2,Ov h3 hl⟩
set_option maxHeartbeats 8000000 in
set_option maxRecDepth 100000 in
theorem Cn (o:Zbj)(vv1 tv1 vv2 tv2:Value)(B1 B2:Nat)(w:World)(h1:Mk w B1 o vv1 tv1)(h2:Mk w B2 o vv2 tv2)(hn:o.vals.length<4611686018427387904)(hm:o.tr.length<4611686018427387904)(ht:∀ k,k<o.tr.length→(o.tr.getD k (0,[])).2.length<4611686018427387904) :
 Calls Tryz.prog 9 #[.agg #[.int .i64 o.kind,vv1,.int .i64 0,tv1,.int .i64 o.steps,.int .i64 0],.agg #[.int .i64 o.kind,vv2,.int .i64 0,tv2,.int .i64 o.steps,.int .i64 0]] w fun e w'=>e=.returned (.bool true)∧Below w.heap.size w w':=by
 obtain⟨hv1,es1,htr1⟩:=h1;obtain⟨tp1,tc1,rfl⟩:=Zm htr1.row;obtain⟨vp1,vc1,rfl⟩:=Zm hv1;obtain⟨hv2,es2,htr2⟩:=h2;obtain⟨tp2,tc2,rfl⟩:=Zm htr2.row;obtain⟨vp2,vc2,rfl⟩:=Zm hv2;obtain⟨r0,r1,hZ,hB⟩:=Znl w (.cells #[.int .i64 o.kind,.slice vp1 o.vals.length vc1,.int .i64 0,.slice tp1 o.tr.length tc1,.int .i64 o.steps,.int .i64 0] 38 (0,0)) (.cells #[.int .i64 o.kind,.slice vp2 o.vals.length vc2,.int .i64 0,.slice tp2 o.tr.length tc2,.int .i64 o.steps,.int .i64 0] 38 (0,0));have b0:(o.kind != o.kind)=false:=by simp
 have b1:(o.steps != o.steps)=false:=by simp
 have b4:((o.tr.length:Int) != (o.tr.length:Int))=false:=by simp
 have HL1:=J (Ov hv1 hn);have HL2:=J (Ov hv2 hn);have HG1:=J htr1;have HG2:=J htr2;have HR0:=J r0;have HR1:=J r1;have HB:=J hB;have HTN:=J ht;clear hv1 hv2 htr1 htr2 r0 r1 hB ht hn;go_enter Tryz.func9,Tryz.ntmps9
 go_wp2_with fail
 generalize World.alloc (World.alloc w _) _=W at HR0 HR1 HB hZ ⊢;refine(Kd o.vals _ _ W (Yx (G HL1) (G HB)) (Yx (G HL2) (G HB))).mono ?_;rintro e w1 ⟨rfl,hb1⟩;have HB1:=J hb1;have x3:=cR ((hb1.block w.heap.size (by omega)).trans (G HR0)) 3;have y3:=cR ((hb1.block (w.heap.size+1) (by omega)).trans (G HR1)) 3;clear hb1;go_wp2;clear x3 y3;go_loopw [52] (fun j w'=>∃(k:Nat),j=.int .i64 k∧k≤o.tr.length∧Below W.heap.size W w') (fun j _=>o.tr.length-(intOf j).toNat)
 case atStart=>exact⟨0,rfl,by omega,G HB1⟩
 case round =>
  obtain⟨k,rfl,hk,hw⟩:=hrel;by_cases hlt:k<o.tr.length
  ·
   obtain⟨ga,pa,ca,e1,hga,za,zb,zl⟩:=Zft (G HG1) k hlt (G HTN k hlt);obtain⟨gb,pb,cb,e2,hgb,ya,yb,yl⟩:=Zft (G HG2) k hlt (G HTN k hlt);subst e1 e2;generalize (o.tr.getD k (0,[])).1=fk at za ya;generalize (o.tr.getD k (0,[])).2=wk at zb yb zl yl;have hCK:∀ V,Below W.heap.size W V→(fun V=>V.cell? ⟨w.heap.size,3,none⟩=some (.slice (some ⟨ga,0,none⟩) o.tr.length tc1)∧V.cell? ⟨w.heap.size+1,3,none⟩=some (.slice (some ⟨gb,0,none⟩) o.tr.length tc2)∧V.cell? ⟨ga,k*2,none⟩=some (.int .i64 fk)∧V.cell? ⟨gb,k*2,none⟩=some (.int .i64 fk)∧V.cell? ⟨ga,k*2+1,none⟩=some (.slice pa wk.length ca)∧V.cell? ⟨gb,k*2+1,none⟩=some (.slice pb wk.length cb)) V:=fun V hV=>by
    have hwV:=Za (G HB) hV (by omega);exact⟨(cR ((hV.block w.heap.size (by omega)).trans (G HR0)) 3),(cR ((hV.block (w.heap.size+1) (by omega)).trans (G HR1)) 3),(hwV.cell (p:=⟨ga,k*2,none⟩) hga).trans za,(hwV.cell (p:=⟨gb,k*2,none⟩) hgb).trans ya,(hwV.cell (p:=⟨ga,k*2+1,none⟩) hga).trans zb,(hwV.cell (p:=⟨gb,k*2+1,none⟩) hgb).trans yb⟩
   have HCK:=J hCK;have HWD:=J (fun(V:World) (hV:Below W.heap.size W V)=>Kd wk (.slice pa wk.length ca) (.slice pb wk.length cb) V (Yx zl (Za (G HB) hV (by omega))) (Yx yl (Za (G HB) hV (by omega))));have HW0:=J hw;have hfk:(fk != fk)=false:=by simp
   clear hCK zl yl za zb ya yb hga hgb hw;go_upto_region 6 with fail
   refine wp_region_held_drew (S:=fun V=>V.cell? ⟨w.heap.size,3,none⟩=some (.slice (some ⟨ga,0,none⟩) o.tr.length tc1)∧V.cell? ⟨w.heap.size+1,3,none⟩=some (.slice (some ⟨gb,0,none⟩) o.tr.length tc2)∧V.cell? ⟨ga,k*2,none⟩=some (.int .i64 fk)∧V.cell? ⟨gb,k*2,none⟩=some (.int .i64 fk)∧V.cell? ⟨ga,k*2+1,none⟩=some (.slice pa wk.length ca)∧V.cell? ⟨gb,k*2+1,none⟩=some (.slice pb wk.length cb)) (by kernel_rfl) (G HCK _ (G HW0).drew) (fun hHeld=>?_);refine tT 0 ?_;try simp only [Act.put,zA,zB,zC,zD,zE]
   refine tT 1 ?_;try simp only [Act.put,zA,zB,zC,zD,zE,zF]
   refine tT 2 ?_;try simp only [Act.put,zA,zB,zC,zD,zE,zF]
   refine tT 3 ?_;try simp only [Act.put,zA,zB,zC,zD,zE,zF]
   refine tT 4 ?_;try simp only [Act.put,zA,zB,zC,zD,zE,zF]
   refine tT 5 ?_;try simp only [Act.put,zA,zB,zC,zD,zE,zF]
   refine tT 6 ?_;try simp only [Act.put,zA,zB,zC,zD,zE,zF]
   refine tT 7 ?_;try simp only [Act.put,zA,zB,zC,zD,zE,zF]
   refine tT 8 ?_;try simp only [Act.put,zA,zB,zC,zD,zE,zF]
   refine tT 9 ?_;try simp only [Act.put,zA,zB,zC,zD,zE,zF]
   refine tT 10 ?_;try simp only [Act.put,zA,zB,zC,zD,zE,zF]
   refine tT 11 ?_;try simp only [Act.put,zA,zB,zC,zD,zE,zF]
   refine tT 12 ?_;try simp only [Act.put,zA,zB,zC,zD,zE,zF]
   refine tT 13 ?_;try simp only [Act.put,zA,zB,zC,zD,zE,zF]
   refine tT 14 ?_;try simp only [Act.put,zA,zB,zC,zD,zE,zF]
   refine tT 15 ?_;try simp only [Act.put,zA,zB,zC,zD,zE,zF]
   refine tT 16 ?_;try simp only [Act.put,zA,zB,zC,zD,zE,zF]
   refine tT 17 ?_;try simp only [Act.put,zA,zB,zC,zD,zE,zF]
   refine tT 18 ?_;try simp only [Act.put,zA,zB,zC,zD,zE,zF]
   refine tT 19 ?_;try simp only [Act.put,zA,zB,zC,zD,zE,zF]
   refine tT 20 ?_;try simp only [Act.put,zA,zB,zC,zD,zE,zF]
   refine tT 21 ?_;try simp only [Act.put,zA,zB,zC,zD,zE,zF]
   refine tT 22 ?_;try simp only [Act.put,zA,zB,zC,zD,zE,zF]
   refine tT 23 ?_;try simp only [Act.put,zA,zB,zC,zD,zE,zF]
   refine tT 24 ?_;try simp only [Act.put,zA,zB,zC,zD,zE,zF]
   refine tT 25 ?_;try simp only [Act.put,zA,zB,zC,zD,zE,zF]
   refine tO 26 fun K hK=>?_;go_simp;refine(G HWD _ (G HW0).drew).mono ?_;rintro e w5 ⟨rfl,hb5⟩;have HB5:=J (Za (G HW0).drew hb5 (by have:=(G HW0).size; simpa using this));clear hb5;try go_wp2_with fail
   refine hK.out _ _ (G HCK _ (G HB5)) (fun hHeld2=>?_);clear hK K;try simp only [Act.put,zA,zB,zC,zD,zE,zF]
   refine tT 27 ?_;try simp only [Act.put,zA,zB,zC,zD,zE,zF]
   refine tT 28 ?_;try simp only [Act.put,zA,zB,zC,zD,zE,zF]
   refine wpAnyH_done (by kernel_rfl) ?_ _;go_wp2;all_goals exact⟨⟨k+1,by go_num,by omega,G HB5⟩,by simp [intOf]; omega⟩
  ·
   obtain rfl:k=o.tr.length:=by omega
   have HW0:=J hw;clear hw;go_wp2;go_ret;exact⟨rfl,Za (G HB) (G HW0) (by omega)⟩
end Go.Proofs.YteddfaconabobaaGreatDoor
