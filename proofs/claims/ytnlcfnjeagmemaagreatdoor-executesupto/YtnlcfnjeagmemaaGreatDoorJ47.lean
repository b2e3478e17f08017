import Derived.Test.YtnlcfnjeagmemaaGreatDoorJ3
import Derived.Test.YtnlcfnjeagmemaaGreatDoorXeRc
namespace Go.Proofs.YtnlcfnjeagmemaaGreatDoor
open Go.RowKit
set_option maxHeartbeats 4000000
set_option maxRecDepth 100000
theorem Zmt {T:Zm}{m m':Zf}{k:Int}(hz:Q0 m)(h:m.takeN T=(m',some k)):Q0 m':=by
 unfold Zf.takeN at h;split at h
 ·
  split at h
  ·
   rename_i hs;injection h with h1 h2;split at h2
   ·
    rename_i hsp;obtain⟨v,hv⟩:=Option.isSome_iff_exists.1 hs;rw [Gq hv] at h1 hsp;rw [← h1];exact Ui hz hsp
   ·
    cases h2
  ·
   injection h with h1 h2;cases h2
 ·
  injection h with h1 h2;rw [← h1];exact hz
theorem Zso {T:Zm}{C:Zk}{m:Zf}(hz:Q0 m)(h:(Gk T C m).kind=1):(Gk T C m).code=0∧(Gk T C m).vals=[]:=by
 have hk:=Zgi T m;unfold Gk at h ⊢;split
 ·
  rename_i m' he;rw [he] at h hk;exfalso
  rcases hk with hk | hk | hk
  ·
   rw [hk,hz.kind] at h; cases h
  ·
   rw [hk] at h; cases h
  ·
   rw [hk] at h; cases h
 ·
  rename_i m' k he;rw [he] at h;have hq:=Zmt hz he;split
  ·
   exact⟨hq.code,rfl⟩
  ·
   rename_i h0;simp only [if_neg h0] at h;split
   ·
    rename_i h1;rw [if_pos h1] at h;cases h
   ·
    rename_i h1;rw [if_neg h1] at h;exfalso
    have:m'.kind=1:=h;rw [hq.kind] at this;cases this
theorem Zpr {T:Zm}{C:Zk}{own:Yc}{was:Nat→Int}{m:Zf}(hz:Q0 m)(h:(Xg T C own was m).kind=1):(Xg T C own was m).code=0∧(Xg T C own was m).vals=[]:=by
 unfold Xg at h ⊢;by_cases hk:Jq T (Zv C m)=true
 ·
  rw [if_pos hk] at h ⊢;unfold Yv at h ⊢;by_cases hi:(Zv C m).op=19
  ·
   rw [if_pos hi] at h ⊢;exact Zso ⟨hz.kind,hz.code,hz.vals⟩ h
  ·
   rw [if_neg hi] at h ⊢;exfalso
   rcases Zku T C own was { m with at_:=m.at_+1 } (Zv C m) hi with h1 | h1
   ·
    exact h1 h
   ·
    rw [h] at h1;have:(1:Int)=m.kind:=h1;rw [hz.kind] at this;cases this
 ·
  rw [if_neg hk] at h;cases h
theorem Zkh {T:Zm}{F:Nat}{m:Zf}{f n:Int}(hz:m.kind=0):(m.call T F f n).1.kind≠1:=by
 rcases Zkt T F m f n with h | h | h
 ·
  rw [h,hz]; decide
 ·
  rw [h]; decide
 ·
  rw [h]; decide
theorem Zps {T:Zm}{F:Nat}{m:Zf}{f n:Int}(hz:Q0 m)(h:(m.call T F f n).2=true):Q0 (m.call T F f n).1:=by
 have h0:(m.call T F f n).1.kind=0∨(m.call T F f n).1.kind≠0:=Classical.em _;rcases h0 with h0 | h0
 ·
  exact Dn hz (Zld T F m f n) h0
 ·
  exfalso
  apply h0
  unfold Zf.call at h ⊢;by_cases h1:(m.aligned T).2=true
  ·
   rw [if_pos h1] at h ⊢;by_cases h2:(m.putN T n).2=true
   ·
    rw [if_pos h2] at h ⊢;unfold Zf.enter at h ⊢;split at h
    ·
     rename_i h3;rw [if_pos h3];show(m.putN T n).1.kind=0;unfold Zf.putN at h2 ⊢;split at h2
     ·
      rename_i h4;rw [if_pos h4];split at h2
      ·
       rename_i h5;rw [if_pos h5];exact(Uj (Ui hz h5) h2).kind
      ·
       cases h2
     ·
      rename_i h4;rw [if_neg h4];unfold Zf.setR at h2 ⊢;split at h2
      ·
       rename_i h5;rw [if_pos h5];exact(Ui hz h2).kind
      ·
       rename_i h5;rw [if_neg h5];exact hz.kind
    ·
     cases h
   ·
    rw [if_neg h2] at h;cases h
  ·
   rw [if_neg h1] at h;cases h
theorem Zwg (T:Zm)(C:Zk)(own:Yc)(was:Nat→Int)(n:Nat)(m:Zf)(h:m.kind=0):evR T C own was (n+1) m=evR T C own was n (Xg T C own was { m with steps:=m.steps+1 }):=by
 rw [evR,if_pos h]
theorem Zpt (T:Zm)(C:Zk)(own:Yc)(was:Nat→Int)(n:Nat)(m:Zf)(h:m.kind≠0):evR T C own was n m=m:=by
 cases n <;> rw [evR,if_neg h]
theorem EP.steps {w:World}{A B N:Nat}{G:Ji}{eb rb sb:Nat}{a:Int}{m:Zf}(h:ER w A B N G eb rb sb a m)(j:Int):ER (w.setCell ⟨eb,29,none⟩ (.int .i64 j)) A B N G eb rb sb a { m with steps:=j }:=by
 obtain⟨P,es,h⟩:=h;exact h.own (m':={ m with steps:=j }) (P':=P) (a':=a) (Zl eb 29 w (.int .i64 j)) (Uf h.ei rfl) ⟨rfl,rfl,rfl,rfl,.inl ⟨rfl,rfl⟩⟩ rfl rfl rfl
theorem Yar {w W0:World}{C:Zk}{f:Int}{ws sc:List Int}{n:Nat}{st:Nat}{B N:Nat}{G:Ji}{eb rb sb:Nat}{a:Int}{m:Zf}{own:Yc}{tb ob fb lb L wb wc:Nat}{av rv:Value}{pvs:List Value}{ps:List Int}{nr:Nat}{s:Nat→Value}{V:World}(hX:XK w W0 G.T own tb ob fb lb L av rv pvs)(hb0:Below W0.heap.size W0 V)(hT:TK G.T)(h:ER V W0.heap.size B N G eb rb sb a m)(hz:Q0 m)(hst:st≤4194304)(hiv:Nm C st 0 m)(hms:m.steps=0)(hn:n=m.me.length)(hly:LyK G.T ps nr own)(hwas:∀ r,r<G.T.r.toNat→V.cell? ⟨wb,r,none⟩=some (.int .u64 (m.rg r)))(hwb:wb<B∧wb≠eb∧wb≠rb∧wb≠sb)(hwo:Zam G.T own m.rg n)(hres:own.res.length≤1000)(hQ:EQ V B eb rb sb G C)(hag:G.T.ag.length≤100)(hrs:G.T.rs.length≤100)(hSE:Na W0 W0.heap.size G.ce C.externs)(hSG:∀ s ∈ C.externs,Mt s)(hfl:C.funcs.length≤1099511627776)(hbl:(Zg C).length≤1099511627776)
 (hM:Lc G.T C f ws sc n st=(if (m.call G.T C.funcs.length f 0).2=true then On G.T C own m.rg st (m.call G.T C.funcs.length f 0).1 else (m.call G.T C.funcs.length f 0).1)) (hE:Lv G.T C f ws n st=0) (h2:s 2=.int .i64 f) (h5:s 5=.int .i64 (n:Int)) (h6:s 6=.int .i64 (st:Int)) (h7:s 7=.pointer (some ⟨tb,0,none⟩)) (h14:s 14=.pointer (some ⟨ob,0,none⟩)) (h15:s 15=.pointer (some ⟨fb,0,none⟩)) (h16:s 16=.pointer (some ⟨lb,0,none⟩)) (h18:s 18=.pointer (some ⟨eb,0,none⟩)) (h28:s 28=.slice (some ⟨wb,0,none⟩) G.T.r.toNat wc) :
 Code.wp Tryz.prog (xT Tryz.f8 15) (bodyPost Tryz.prog Tryz.f8 (Gc w G.T C f ws sc n st)) (Fz s) V:=by
 have hbd:=h.bd;have hBV:∀ V',Ke B eb rb sb V V'→Below W0.heap.size W0 V':=fun V' k'=>⟨k'.os.trans hb0.os,k'.tape.trans hb0.tape,k'.output.trans hb0.output,Nat.le_trans hb0.size k'.size,fun q hq=>(k'.oth q (by omega) (by omega) (by omega) (by omega)).trans (hb0.block q hq)⟩;have hFIN:=fun(V':World) (N':Nat) (a':Int) (M':Zf) (s':Nat→Value) (h':ER V' W0.heap.size B N' G eb rb sb a' M') (k':Ke B eb rb sb V V') (h1':M'.kind=1→M'.code=0∧M'.vals=[]) (hM':Lc G.T C f ws sc n st=Jm G.T own m.rg M') (hl':M'.me.length=m.me.length) (g5:s' 5=.int .i64 (n:Int)) (g7:s' 7=.pointer (some ⟨tb,0,none⟩)) (g14:s' 14=.pointer (some ⟨ob,0,none⟩)) (g15:s' 15=.pointer (some ⟨fb,0,none⟩)) (g16:s' 16=.pointer (some ⟨lb,0,none⟩)) (g18:s' 18=.pointer (some ⟨eb,0,none⟩)) (g28:s' 28=.slice (some ⟨wb,0,none⟩) G.T.r.toNat wc)=>show Code.wp Tryz.prog (xT Tryz.f8 16) (bodyPost Tryz.prog Tryz.f8 (Gc w G.T C f ws sc n st)) (Fz s') V' from
  Yaq hX (hBV V' k') hT h' h1' (by omega) hly (fun r hr=>(World.cell?_of_block (k'.oth wb hwb.1 hwb.2.1 hwb.2.2.1 hwb.2.2.2)).trans (hwas r hr)) hwb hwo hres hM' hE g5 g7 g14 g15 g16 g18 g28
 have HFIN:=Y hFIN;have HCL:=Y (Zfl h hz hT C hQ.ef (by omega) f 0 (by decide));have HQ:=Y hQ;have HBV:=Y hBV;have HSE:=Y hSE;have HSG:=Y hSG;have HTT:=Y hX.tT;have HM:=Y hM;have HIV:=Y hiv;have HWO:=Y hwo;have HMS:=Y hms;have HML:=Y hn;obtain⟨rn,hrn⟩:∃ k:Nat,k=G.T.r.toNat:=⟨_,rfl⟩;have HRN:=Y hrn;rw [Gj,h2,h5,h6,h7,h14,h15,h16,h18,h28,← hrn];clear hFIN h hX hb0 hM hE hwas hly hiv hwo hQ hSE hSG hBV h2 h5 h6 h7 h14 h15 h16 h18 h28 hn hms hrn;conv=>arg 2; whnf
 refine wp_seq_k fun K hK=>?_;have HK:=Y hK;clear hK;go_wp2_with fail
 refine(O HCL).mono ?_;rintro e w1 ⟨a1,rfl,ha1,h1,k1⟩;have HK1:=Y (k1.low hbd.2.2.2.2.2.2);cases hca:(m.call G.T C.funcs.length f 0).2 with
 | false =>
  have HE1:=Y h1;have HMF:=Y (show Lc G.T C f ws sc n st=Jm G.T own m.rg (m.call G.T C.funcs.length f 0).1 by
   rw [O HM,if_neg (by rw [hca]; decide)];unfold Jm;rw [if_neg (Zkh hz.kind)])
  have hk1:=Zkh (T:=G.T) (F:=C.funcs.length) (f:=f) (n:=0) hz.kind;have HLN:=Y (Sk G.T C.funcs.length m f 0);clear h1 k1 ha1 HCL hca;go_wp2_with fail
  refine O HK _ _ ?_;refine Yd (Q:=fun a w=>Code.wp Tryz.prog (xT Tryz.f8 16) _ a w) _ rfl ?_;exact O HFIN _ _ _ _ _ (O HE1) (O HK1) (fun e=>absurd e hk1) (O HMF) (O HLN) rfl rfl rfl rfl rfl rfl (by rw [← O HRN]; rfl)
 | true =>
  have hz1:=Zps hz hca;have HA1:=Y (Zfr ha1 hz1.kind);have HE1:=Y h1;have HIV1:=Y (Zdi (T:=G.T) (O HIV) f 0);have HS1:=Y (Dy G.T C.funcs.length m f 0);have HLN:=Y (Sk G.T C.funcs.length m f 0);have HMF:=Y (show Lc G.T C f ws sc n st=Jm G.T own m.rg (evR G.T C own m.rg st (m.call G.T C.funcs.length f 0).1) by
   rw [O HM,if_pos hca];exact Zkw G.T C own m.rg st _ (by rw [Sk,← O HML]; exact O HWO) hz1.kind)
  clear h1 k1 ha1 HCL hca;generalize (m.call G.T C.funcs.length f 0).1=m1 at hz1 HA1 HE1 HIV1 HS1 HLN HMF;have HM1:=Y (show m1.steps=0 by rw [O HS1]; exact O HMS);go_wp2_with fail
  go_loopg [] (st+1) (fun k V'=>∃(x:Zf) (j:Nat) (a':Int) (N':Nat),k=st-j+1∧j≤st∧ER V' W0.heap.size B N' G eb rb sb a' x∧(x.kind=0→Q0 x∧a'=Yx C x)∧(x.kind=1→x.code=0∧x.vals=[])∧Nm C st 0 x∧x.steps=(j:Int)∧x.me.length=m.me.length∧evR G.T C own m.rg st m1=evR G.T C own m.rg (st-j) x∧Ke B eb rb sb V V')
  case atStart=>exact⟨m1,0,a1,N,by omega,by omega,O HE1,fun _=>⟨hz1,O HA1⟩,fun e=>absurd e (by rw [hz1.kind]; decide),O HIV1,O HM1,O HLN,rfl,O HK1⟩
  case round =>
   obtain⟨x,j,a',N',hk,hj,her,hq0,hq1,hiv,hxs,hxl,hev,hke⟩:=hrel;obtain⟨P9,hei,-,-,-⟩:=her.regs;have c25:wr.cell? ⟨eb,25,none⟩=some (.int .i64 x.kind):=(cR hei 25);have c29:wr.cell? ⟨eb,29,none⟩=some (.int .i64 (j:Int)):=by rw [← hxs]; exact(cR hei 29)
   have z29:=frozen_of_row _ _ 29 _ _ hei;have HK0:=Y hk;have HEV:=Y hev;have HKE:=Y hke;have HER:=Y her;have hBr:=her.bd.2.2.2.2.2.2;clear hei hk hev;by_cases hz0:x.kind=0
   ·
    obtain⟨hqx,hax⟩:=hq0 hz0;rw [hz0] at c25;by_cases hjn:j<st
    ·
     have hjb:((j:Int)==(st:Int))=false:=by rw [beq_eq_false_iff_ne]; omega
     have hq5:Q0 ({ x with steps:=(j:Int)+1 }:Zf):=⟨hqx.kind,hqx.code,hqx.vals⟩;have hiv5:Nm C st 1 ({ x with steps:=(j:Int)+1 }:Zf):=⟨hiv.f,hiv.a,by have:=hiv.tr; show(x.tr.length:Int)+(1:Nat)≤(j:Int)+1; omega,by show(j:Int)+1≤(st:Int); omega,hiv.sc⟩;have hax5:a'=Yx C ({ x with steps:=(j:Int)+1 }:Zf):=hax;have hk5:Ke B eb rb sb V (wr.setCell ⟨eb,29,none⟩ (.int .i64 ((j:Int)+1))):=hke.tr (Sa (Zl eb 29 wr _));have HST:=Y (Zsl (EP.steps her ((j:Int)+1)) hq5 hT C ((O HQ).ke hk5) W0 rfl (O HBV _ hk5) (O HTT) hag hrs (O HSE) (O HSG) st hst hiv5 hax5 hfl hbl own m.rg);have HEV1:=Y (show evR G.T C own m.rg st m1=evR G.T C own m.rg (st-(j+1)) (Xg G.T C own m.rg { x with steps:=(j:Int)+1 }) by rw [O HEV,show st-j=st-(j+1)+1 by omega,Zwg _ _ _ _ _ _ hz0,hxs]);have HQX:=Y (fun(e:(Xg G.T C own m.rg { x with steps:=(j:Int)+1 }).kind=0)=>Zsx G.T C own m.rg _ hq5 e);have HQ1:=Y (fun(e:(Xg G.T C own m.rg { x with steps:=(j:Int)+1 }).kind=1)=>Zpr (own:=own) (was:=m.rg) hq5 e);have HIV5:=Y (Zqi (T:=G.T) (own:=own) (was:=m.rg) hiv5);have HS5:=Y (Zgt G.T C own m.rg { x with steps:=(j:Int)+1 });have HL5:=Y ((Zgo G.T C own m.rg { x with steps:=(j:Int)+1 }).trans hxl);have HK5:=Y hk5;clear her hq0 hq1 hiv hxs hxl hke hqx hax hq5 hiv5 hax5 hk5 hz0;generalize Xg G.T C own m.rg { x with steps:=(j:Int)+1 }=x5 at HST HEV1 HQX HQ1 HIV5 HS5 HL5
     go_upto_region 49 with fail
     clear c25 c29 z29;generalize World.setCell wr _ _=U at HST HK5 ⊢;go_wp2_with fail
     refine(O HST).mono ?_;rintro e w5 ⟨b5,N5,a5,rfl,ha5,h5,k5⟩;have HE5:=Y h5;have HK6:=Y ((O HK5).tr k5);have HA5:=Y ha5;clear h5 k5 ha5 HST;go_wp2;go_roundg (st-(j+1)+1)
     case measure=>rw [O HK0]; omega
     case rel=>exact⟨x5,j+1,a5,N5,rfl,by omega,O HE5,fun e=>⟨O HQX e,O HA5 e⟩,O HQ1,O HIV5,by rw [O HS5]; show(j:Int)+1=_; omega,O HL5,O HEV1,O HK6⟩
    ·
     have hjn2:j=st:=by omega
     subst hjn2;have hjb:((j:Int)==(j:Int))=true:=beq_self_eq_true _;have HQ3:=Y (show evR G.T C own m.rg j m1=x.endK 3 [] by rw [O HEV,Nat.sub_self,evR,if_pos hz0]);have HEN:=Y (Uz her hz0 3 0);have e3:({ x with kind:=3,code:=0 }:Zf)=x.endK 3 []:=by
      obtain⟨g1,g2,g3⟩:=hqx;cases x
      simp only at g1 g2 g3;subst g1 g2 g3;rfl
     rw [e3] at HEN;have HXL:=Y hxl;clear her hq0 hq1 hiv hxs hxl hke hqx hax e3 hz0;go_wp2_with fail
     clear c25 c29 z29;refine(O HEN).mono ?_;rintro e w5 ⟨rfl,h5,k5⟩;have HE5:=Y h5;have HK6:=Y ((O HKE).tr (k5.low hBr));clear h5 k5 HEN;go_wp2_with fail
     refine O HK _ _ ?_;refine Yd (Q:=fun a w=>Code.wp Tryz.prog (xT Tryz.f8 16) _ a w) _ rfl ?_;exact O HFIN _ _ _ _ _ (O HE5) (O HK6) (fun e=>absurd (show(3:Int)=1 from e) (by decide)) (by rw [O HMF,O HQ3]) (O HXL) rfl rfl rfl rfl rfl rfl (by rw [← O HRN]; rfl)
   ·
    have hb:(x.kind==(0:Int))=false:=by rw [beq_eq_false_iff_ne]; exact hz0
    have HQ3:=Y (show evR G.T C own m.rg st m1=x by rw [O HEV,Zpt _ _ _ _ _ _ hz0]);have HXL:=Y hxl;have HQ1:=Y hq1;clear her hq0 hq1 hiv hxs hxl hke hz0;go_wp2_with fail
    refine O HK _ _ ?_;refine Yd (Q:=fun a w=>Code.wp Tryz.prog (xT Tryz.f8 16) _ a w) _ rfl ?_;exact O HFIN _ _ _ _ _ (O HER) (O HKE) (O HQ1) (by rw [O HMF,O HQ3]) (O HXL) rfl rfl rfl rfl rfl rfl (by rw [← O HRN]; rfl)
set_option maxHeartbeats 4000000
set_option maxRecDepth 100000
theorem ER.renew {w:World}{A B N:Nat}{G:Ji}{eb rb sb:Nat}{a:Int}{m:Zf}(h:ER w A B N G eb rb sb a m)(hv:m.vals=[])(ht:m.tr=[]):ER w A w.heap.size w.heap.size G eb rb sb a m:=by
 obtain⟨P,es,h⟩:=h;have hbe:=h.be;have hbr:=h.br;have hbs:=h.bs;have hbn:=h.bn;have hnw:=h.nw;have e1:=h.vz hv;have e2:=h.tz ht;have hes:es=[]:=List.eq_nil_of_length_eq_zero (by rw [h.tr.len,ht]; rfl);refine⟨P,es,h.ei,h.rg,h.mem,h.rv,h.mv,h.len,h.byt,?_,h.sc,⟨h.tr.len,?_,fun i hi=>?_⟩,h.rbd,h.pk,h.ae,h.ar,h.as_,by omega,by omega,by omega,Nat.le_refl _,Nat.le_refl _,fun g hg=>?_,fun g hg=>?_,fun i hi=>?_,h.vz,h.tz⟩
 ·
  rw [e1,hv];exact World.ownsRow_nil _ _ _ _
 ·
  rw [e2,ht,hes];exact World.ownsRow_nil _ _ _ _
 ·
  rw [ht] at hi;exact absurd hi (by simp)
 ·
  rw [e1] at hg;cases hg
 ·
  rw [e2] at hg;cases hg
 ·
  rw [ht] at hi;exact absurd hi (by simp)
theorem LE.up {w:World}{B B' eb rb sb n:Nat}{v:Value}{V:Nat→Value}(h:LE w B eb rb sb v n V)(hB:B≤B'):LE w B' eb rb sb v n V:=by
 obtain⟨p,c,h1,h2,h3,h4⟩:=h;refine⟨p,c,h1,h2,h3,fun k hk=>?_⟩;obtain⟨g,so,e,g1,g2⟩:=h4 k hk;exact⟨g,so,e,by omega,g2⟩
theorem EQ.up {w:World}{B B' eb rb sb:Nat}{G:Ji}{C:Zk}(h:EQ w B eb rb sb G C)(hB:B≤B'):EQ w B' eb rb sb G C:=by
 obtain⟨Vb,b1,b2⟩:=h.ef.bg;obtain⟨p,c,l1,l2,l3⟩:=h.el;obtain⟨rr,ck,es,h1,h2,h3,h4,h5⟩:=h.mp;refine⟨⟨⟨Vb,b1.up hB,fun f hf=>(b2 f hf).up hB⟩,h.ef.bk.up hB,h.ef.cf⟩,⟨p,c,l1,l2,fun k hk=>?_⟩,rr,ck,es,h1,h2,h3,by omega,h5⟩;obtain⟨g,so,e,g1,g2⟩:=l3 k hk;exact⟨g,so,e,by omega,g2⟩
theorem Yas {w W0:World}{C:Zk}{f:Int}{ws sc:List Int}{n:Nat}{st:Nat}{B N:Nat}{G:Ji}{eb rb sb:Nat}{a:Int}{m:Zf}{own:Yc}{tb ob fb lb L:Nat}{av rv:Value}{pvs:List Value}{ps:List Int}{nr:Nat}{s:Nat→Value}{V:World}(hX:XK w W0 G.T own tb ob fb lb L av rv pvs)(hb0:Below W0.heap.size W0 V)(hT:TK G.T)(h:ER V W0.heap.size B N G eb rb sb a m)(hz:Q0 m)(htr:m.tr=[])(hst:st≤4194304)(hiv:Nm C st 0 m)(hms:m.steps=0)(hn:n=m.me.length)(hly:LyK G.T ps nr own)(hwo:Zam G.T own m.rg n)(hres:own.res.length≤1000)(hQ:EQ V B eb rb sb G C)(hag:G.T.ag.length≤100)(hrs:G.T.rs.length≤100)(hSE:Na W0 W0.heap.size G.ce C.externs)(hSG:∀ s ∈ C.externs,Mt s)(hfl:C.funcs.length≤1099511627776)(hbl:(Zg C).length≤1099511627776)
 (hM:Lc G.T C f ws sc n st=(if (m.call G.T C.funcs.length f 0).2=true then On G.T C own m.rg st (m.call G.T C.funcs.length f 0).1 else (m.call G.T C.funcs.length f 0).1)) (hE:Lv G.T C f ws n st=0) (h2:s 2=.int .i64 f) (h5:s 5=.int .i64 (n:Int)) (h6:s 6=.int .i64 (st:Int)) (h7:s 7=.pointer (some ⟨tb,0,none⟩)) (h14:s 14=.pointer (some ⟨ob,0,none⟩)) (h15:s 15=.pointer (some ⟨fb,0,none⟩)) (h16:s 16=.pointer (some ⟨lb,0,none⟩)) (h18:s 18=.pointer (some ⟨eb,0,none⟩)) :
 Code.wp Tryz.prog (xT Tryz.f8 14) (bodyPost Tryz.prog Tryz.f8 (Gc w G.T C f ws sc n st)) (Fz s) V:=by
 have hbd:=h.bd;have hr4:=hT.r4;have hr16:=hT.r16;obtain⟨ti,hti,hti0,hti1,hti2⟩:=Yr Tryz.infoU64;obtain⟨rn,hrn⟩:∃ k:Nat,k=G.T.r.toNat:=⟨_,rfl⟩;obtain⟨P,es,hP⟩:=h;have hrl:rn≤16∧4≤rn:=by omega
 have c19:V.cell? ⟨eb,19,none⟩=some (.slice (some ⟨rb,0,none⟩) rn rn):=by rw [hrn,← hP.rv]; exact(cR hP.ei 19)
 have hnews:∀ j u,(rgV rn m.rg)[j]?=some u→V.cell? ((⟨rb,0,none⟩:Addr).add j)=some u:=fun j u hu=>by
  have h1:=Zd hP.rg j;rw [← hrn] at h1;have h2:V.cell? ((⟨rb,0,none⟩:Addr).add j)=V.cell? ⟨rb,j,none⟩:=by
   by_cases hj:j=0
   ·
    subst hj; simp [Addr.add]
   ·
    simp [Addr.add,hj]
  rw [h2,h1];simpa using hu
 have hone:∀ u ∈ rgV rn m.rg,u.oneCell'=true:=fun u hu=>by
  unfold rgV at hu;obtain⟨i,-,rfl⟩:=List.mem_map.1 hu;rfl
 have hlen:(rgV rn m.rg).length=rn*1:=by simp [rgV]
 have HNEXT:=Y (fun(V':World) (g wc:Nat) (s':Nat→Value) (hb:Below V.heap.size V V') (hg:V.heap.size≤g) (hg2:g<V'.heap.size) (hc:∀ r,r<G.T.r.toNat→V'.cell? ⟨g,r,none⟩=some (.int .u64 (m.rg r))) (g2:s' 2=.int .i64 f) (g5:s' 5=.int .i64 (n:Int)) (g6:s' 6=.int .i64 (st:Int)) (g7:s' 7=.pointer (some ⟨tb,0,none⟩)) (g14:s' 14=.pointer (some ⟨ob,0,none⟩)) (g15:s' 15=.pointer (some ⟨fb,0,none⟩)) (g16:s' 16=.pointer (some ⟨lb,0,none⟩)) (g18:s' 18=.pointer (some ⟨eb,0,none⟩)) (g28:s' 28=.slice (some ⟨g,0,none⟩) G.T.r.toNat wc)=>show Code.wp Tryz.prog (xT Tryz.f8 15) (bodyPost Tryz.prog Tryz.f8 (Gc w G.T C f ws sc n st)) (Fz s') V' from
  Yar hX (Zb hb0 hb hb0.size) hT ((ER.bel ⟨P,es,hP⟩ hb).renew hz.vals htr) hz hst hiv hms hn hly hc ⟨hg2,by omega,by omega,by omega⟩ hwo hres ((hQ.ke (Dm (Below.mono hb (by omega)))).up (by have:=hb.size; omega)) hag hrs hSE hSG hfl hbl hM hE g2 g5 g6 g7 g14 g15 g16 g18 g28)
 have HNW:=Y hnews;have HON:=Y hone;have HLE:=Y hlen;have HRN:=Y hrn;rw [Gj,h2,h5,h6,h7,h14,h15,h16,h18];clear hP hX hb0 hM hE hiv hly hwo hQ hSE hSG h2 h5 h6 h7 h14 h15 h16 h18 hnews hone hlen hms hn htr hrn;conv=>arg 2; whnf
 refine wp_seq_k fun K hK=>?_;have HK:=Y hK;clear hK;go_wp2_with (at_builtin; refine wpList_append_own _ rfl _ _ 33 rfl V.heap.size 62 ti _ 1 8 Tryz.underlying33 hti hti0 hti1 hti2 rfl (by decide) (.slice none 0 0) 0 [] rfl (World.ownsRow_nil _ _ _ _) ⟨rb,0,none⟩ rn rn (rgV rn m.rg) rfl (O HLE) (O HNW) (O HON) ?c3 ?c4 ?c5 ?_)
 case c3=>unfold maxLen; omega
 case c4=>omega
 case c5=>exact Nat.le_refl _
 intro v7 w7 hown7 hgr7 _;obtain⟨g,gc,hv7,hg,-,hcc⟩:=Ju hown7 (by omega);subst hv7;have hb7:Below V.heap.size V w7:=⟨hgr7.os,hgr7.tape,hgr7.output,hgr7.size,fun q hq=>hgr7.block q hq (fun e=>by cases e)⟩;have HB7:=Y hb7;have HG:=Y (hown7.lt g rfl);have HCC:=Y (show ∀ r,r<G.T.r.toNat→w7.cell? ⟨g,r,none⟩=some (.int .u64 (m.rg r)) from fun r hr=>by
  rw [hcc r (by rw [O HRN]; omega)];have:=Kb rn m.rg r (by rw [O HRN]; exact hr);simpa using this)
 clear hown7 hgr7 hcc hb7 c19;go_wp2_with fail
 refine O HK _ _ ?_;refine Yd (Q:=fun a w=>Code.wp Tryz.prog (xT Tryz.f8 15) _ a w) _ rfl ?_;exact O HNEXT w7 g gc _ (O HB7) (O HG).1 (O HG).2 (O HCC) rfl rfl rfl rfl rfl rfl rfl rfl (by rw [← O HRN]; rfl)
end Go.Proofs.YtnlcfnjeagmemaaGreatDoor
