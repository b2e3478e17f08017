import Derived.Test.YtkenknfgeoecbaaGreatDoorJ25
namespace Go.Proofs.YtkenknfgeoecbaaGreatDoor
open Go.RowKit
set_option maxHeartbeats 8000000
set_option maxRecDepth 100000
structure Zba (P:Zj)(fn:Zm):Prop where
 on:∀ k j,((fn.blocks.getD k []).getD j Lc).op=3∨((fn.blocks.getD k []).getD j Lc).op=16∨((fn.blocks.getD k []).getD j Lc).op=0
 len:∀ k,k<fn.blocks.length->(fn.blocks.getD k []).length<=24
 num:fn.blocks.length<=12
theorem Dv {α:Type}(l:List α)(d:α)(k:Nat)(h:k<l.length):l.getD k d=l[k]:=by simp [List.getD,h]
theorem Zxz (T:Yh)(P:Zj)(own:List Int×Int)(bs:List (List Yj))(hl:∀ k,k<bs.length->(bs.getD k []).length<=24):∀ k j,k<=bs.length->(k<bs.length->j<=(bs.getD k []).length)->(k=bs.length->j=0)->(Ie T P own bs k j).length<=k*24+j:=by
 have hB:∀ k,k<=bs.length->(Ss T P own bs k).length<=k*24:=by
  intro k;induction k with
  | zero=>intro _; simp [Ss]
  | succ k ih=>intro hk;have h1:=ih (by omega);rw [← Zeu T P own bs k (by omega)];unfold Ie;rw [List.length_append];have h2:=List.length_filterMap_le (Zal T P own) ((bs.getD k []).take (bs.getD k []).length);have h3:=hl k (by omega);rw [List.take_length] at h2 ⊢;omega
 intro k j hk hj hz;unfold Ie;rw [List.length_append];have h1:=hB k hk;have h2:=List.length_filterMap_le (Zal T P own) ((bs.getD k []).take j);have h3:((bs.getD k []).take j).length<=j:=by simp; omega
 omega
structure ClW (w:World)(T:Yh)(pf pe:Option Addr)(cf ce:Nat)(P:Zj)(own:List Int×Int)(oq:Option Addr)(oc bo:Nat)(W V:World):Prop where
 low:Below W.heap.size W V
 r0:W.heap[w.heap.size]?=some (.cells T.box 25 (0,0))
 r1:W.heap[w.heap.size+1]?=some (.cells #[.slice pf P.funcs.length cf,.slice pe P.externs.length ce] 62 (0,0))
 ro:W.heap[bo]?=some (.cells #[.slice oq own.1.length oc,.int .i64 own.2] 43 (0,0))
 lw:Below w.heap.size w W
 lo:Li W (.slice oq own.1.length oc) own.1
theorem ClW.next {w W V V':World}{T:Yh}{pf pe oq:Option Addr}{cf ce oc bo:Nat}{P:Zj}{own:List Int×Int}(h:ClW w T pf pe cf ce P own oq oc bo W V)(hb:Below V.heap.size V V'):ClW w T pf pe cf ce P own oq oc bo W V':=⟨Zd h.low hb h.low.size,h.r0,h.r1,h.ro,h.lw,h.lo⟩
theorem ClW.all {w W V:World}{T:Yh}{pf pe oq:Option Addr}{cf ce oc bo:Nat}{P:Zj}{own:List Int×Int}(h:ClW w T pf pe cf ce P own oq oc bo W V):Below w.heap.size w V:=Zd h.lw h.low h.lw.size
theorem ClW.row {w W V:World}{T:Yh}{pf pe oq:Option Addr}{cf ce oc bo:Nat}{P:Zj}{own:List Int×Int}(h:ClW w T pf pe cf ce P own oq oc bo W V){q:Nat}{o:Obj}(e:W.heap[q]?=some o):V.heap[q]?=some o:=(h.low.block q (Array.getElem?_eq_some_iff.1 e).1).trans e
theorem LyO.below {w w':World}{B:Nat}{v:Value}{T:Yh}{ss:List (List Int×Int)}(h:LyO w B v T ss)(hb:Below w.heap.size w w'):LyO w' B v T ss:=by obtain⟨vs,h1,hx,h2⟩:=h;exact⟨vs,h1,hx,Xh h2 (Jl (o:=none) hb) (fun g _ e=>by cases e)⟩
theorem Xm {w:World}{B B' n size:Nat}{e:TypeId}{v:Value}{xs:List Value}(h:w.ownsRow B e size v n xs)(hB:B'<=B):w.ownsRow B' e size v n xs:=by
 obtain⟨h1,h2 | ⟨g,cap,cur,e1,e2,e3⟩⟩:=h
 ·exact⟨h1,Or.inl h2⟩
 ·exact⟨h1,Or.inr ⟨g,cap,cur,e1,Nat.le_trans hB e2,e3⟩⟩
theorem LyO.form {w:World}{B:Nat}{v:Value}{T:Yh}{ss:List (List Int×Int)}(h:LyO w B v T ss):∃ p c,v=.slice p ss.length c:=by
 obtain⟨vs,-,-,h⟩:=h;rcases h.2 with⟨e,e0⟩ | ⟨g,cap,cur,e,-⟩
 ·exact⟨none,0,by rw [e0]; exact e⟩
 ·exact⟨_,_,e⟩
theorem Zlu (w:World)(X0 X1:Obj):((w.alloc X0).alloc X1).heap[w.heap.size]?=some X0∧((w.alloc X0).alloc X1).heap[w.heap.size+1]?=some X1∧((w.alloc X0).alloc X1).heap.size=w.heap.size+1+1∧Below w.heap.size w ((w.alloc X0).alloc X1):=by obtain⟨r0,b0,s0⟩:=al0 w X0;obtain⟨r1,b1,s1⟩:=al0 (w.alloc X0) X1;rw [s0] at r1;exact⟨(b1.block _ (by omega)).trans r0,r1,by omega,Zd b0 b1 (by omega)⟩
theorem Tryz.infInsF:(Tryz.prog.info? 110).map (·.size)=some 8:=by kernel_rfl
theorem Ztn (T:Yh)(P:Zj)(k0:Nat)(fv ev:Value)(A E:Nat->Array Value)(w:World)(hP:Mk w fv ev P A E)(hk0:k0<P.funcs.length)(hok:Zba P (P.funcs.getD k0 Zk))(hpl:∀ k,(P.funcs.getD k Zk).params.length<=8796093022208) :
 Calls Tryz.prog 104 #[.agg T.box,.agg #[fv,ev],.int .i64 k0] w fun e w'=>∃ v,e=.returned v∧LyO w' w.heap.size v T (Ss T P (Le (P.funcs.getD k0 Zk)) (P.funcs.getD k0 Zk).blocks (P.funcs.getD k0 Zk).blocks.length)∧Below w.heap.size w w':=by
 obtain⟨pf,cf,hfs⟩:=hP.fs.shape;obtain⟨pe,ce,hes⟩:=hP.es.shape;subst hfs hes;obtain⟨r0,r1,hZ,hB⟩:=Zlu w (.cells T.box 25 (0,0)) (.cells #[.slice pf P.funcs.length cf,.slice pe P.externs.length ce] 62 (0,0));obtain⟨pf',cf',hfs,-,hlf,hcf⟩:=hP.fs;injection hfs with f1 _ f3;obtain⟨sb,so,hpf,hsb,hc⟩:=hcf (by omega);have hck:=hc k0 hk0;obtain⟨pv,hv,sv,bv,Bv,hA,hD⟩:=hP.feach k0 hk0;rw [hA] at hck;rw [← f1] at hpf;subst hpf;have hfn:P.funcs.getD k0 Zk=P.funcs[k0]:=Dv _ _ _ hk0;have hpl0:=hpl k0;rw [hfn] at hok hpl0 ⊢;generalize hfe:P.funcs[k0]=fn at hok hpl0 hD hck ⊢;clear hfe hfn hpl;have HCK:=Za (fun(V:World) (hV:Below w.heap.size w V) (j:Nat) (x:Value) (hx:#[pv,.int .i64 fn.results,hv,sv,bv].toList[j]?=some x)=>(hV.cell (p:=⟨sb,so+k0*5+j,none⟩) hsb).trans (hck j x hx));obtain⟨qp,qc,hpv⟩:=hD.ps.shape;obtain⟨qh,ch,hhv⟩:=hD.hs.shape;obtain⟨qs,csv,hsv⟩:=hD.ss.shape;obtain⟨qb,cb,hbv⟩:=hD.bs.shape;subst hpv hhv hsv hbv;have HD:=Za hD;have HP:=Za hP;have HOK:=Za hok;have HS:=Za (fun V (hV:Below w.heap.size w V)=>Zof fn (.slice qp fn.params.length qc) (.slice qh fn.homes.length ch) (.slice qs fn.slots.length csv) (.slice qb fn.blocks.length cb) V (hD.ps.below hV) hpl0);have hnb:=hok.num;have HR0:=Za r0;have HR1:=Za r1;have HB:=Za hB;have hlf':P.funcs.length<9223372036854775808:=hlf;clear r0 r1 hB hP hok hcf hc hck hA hD f1 f3 hlf hpl0;have hbx:T.box=#[.int .i64 T.r,.int .i64 T.sp,.int .i64 T.lk,.int .i64 T.t0,.int .i64 T.t1,.slice T.pa T.ag.length T.ca,.slice T.pr T.rs.length T.cr,.slice T.ps T.ss.length T.cs,.int .i64 T.al,.int .i64 T.sh,.int .i64 T.br,.bool T.pairs]:=rfl
 rw [hbx] at HR0 HR1 HB hZ ⊢;clear hbx;have c0:=J HCK _ (J HB) 0 _ rfl;have c1:=J HCK _ (J HB) 1 _ rfl;have c2:=J HCK _ (J HB) 2 _ rfl;have c3:=J HCK _ (J HB) 3 _ rfl;have c4:=J HCK _ (J HB) 4 _ rfl;rw [Nat.add_zero] at c0;go_enter Tryz.func104,Tryz.ntmps104
 go_wp2_with fail
 clear c0 c1 c2 c3 c4;generalize World.alloc (World.alloc w _) _=W1 at HR0 HR1 HB hZ ⊢;refine(J HS W1 (J HB)).mono ?_;rintro e w2 ⟨lv,rfl,hli,hb2,hnew⟩;obtain⟨oq,oc,rfl⟩:=hli.shape;have hz2:=hb2.size;have HLI:=Za hli;have HB2:=Za hb2;clear hli hb2 HS hnew;obtain⟨own,hown⟩:∃ own,own=Le fn:=⟨_,rfl⟩;have HOWN:=Za hown;have hor:fn.results=own.2:=by rw [hown]; rfl
 rw [← hown] at HLI ⊢;rw [hor];clear hown hor;have halo:=al0 w2 (.cells #[.slice none 0 0,.int .i64 0] 43 (0,0));have HALo:=Za halo;clear halo;go_upto_region 3 with(refine wpList_store_row rfl 43 _ _ rfl w2.heap.size #[.slice oq own.1.length oc,.int .i64 own.2] rfl rfl 43 _ (J HALo).1 (Tryz.infSigK.trans rfl) rfl (by simp [Value.oneCell']) ?_)
 have hrwo:=setRow_heap _ _ _ #[.slice oq own.1.length oc,.int .i64 own.2] _ _ (J HALo).1;have hblo:=Zg (T:=w2.heap.size) (cs:=#[.slice oq own.1.length oc,.int .i64 own.2]) (J HALo).2.1 (Nat.le_refl _);clear HALo;generalize World.setRow (World.alloc w2 _) _ _=W at hrwo hblo ⊢;have hWw:Below w.heap.size w W:=Zd (Zd (J HB) (J HB2) (by omega)) hblo (by omega);have hlo:Li W (.slice oq own.1.length oc) own.1:=(J HLI).below hblo;have hCW:ClW w T (some ⟨sb,so,none⟩) pe cf ce P own oq oc w2.heap.size W W:=⟨Below.refl _ _,(hblo.block _ (by omega)).trans (((J HB2).block _ (by omega)).trans (J HR0)),(hblo.block _ (by omega)).trans (((J HB2).block _ (by omega)).trans (J HR1)),hrwo,hWw,hlo⟩;have p0:=cR hCW.r1 0;have c4:=J HCK W hWw 4 _ rfl;have HCW:=Za hCW;have hzW:=hWw.size;clear hWw hlo hCW hrwo hblo HLI HB2 HR0 HR1 HB HCK;generalize w2.heap.size=bo at HCW ⊢;obtain⟨bp,bcap,hbe,-,hbl,hbc⟩:=(J HD).bs.ones;injection hbe with e1 _ _;subst e1;have HBC:=Za hbc;have HEA:=Za (J HD).each;have HACC:=Za (Zxz T P own fn.blocks (J HOK).len);have hlen:=(J HOK).len;have HLEN:=Za hlen;clear hbc hlen hbl;go_wp2;clear p0 c4;go_loopw [28,7] (fun sk sv w'=>∃(k:Nat) (v:Value),sk=.int .i64 k∧sv=v∧k<=fn.blocks.length∧LyO w' W.heap.size v T (Ss T P own fn.blocks k)∧ClW w T (some ⟨sb,so,none⟩) pe cf ce P own oq oc bo W w') (fun sk _ _=>fn.blocks.length-(intOf sk).toNat)
 case atStart=>exact⟨0,_,rfl,rfl,by omega,⟨[],by simp [Ss],fun x hx=>(by cases hx),World.ownsRow_nil _ _ _ _⟩,J HCW⟩
 case round =>
  clear HCW;obtain⟨k,v0,rfl,rfl,hk,hly,hcw⟩:=hrel;obtain⟨vp,vc,rfl⟩:=hly.form;by_cases hk2:k<fn.blocks.length
  ·obtain⟨bb,bo2,hbp,hbcell⟩:=J HBC (by omega);subst hbp;have hbk:=(hcw.all.cell (p:=⟨bb,bo2+k,none⟩) (World.block_lt_of_cell? w _ (hbcell k hk2))).trans (hbcell k hk2);obtain⟨IA,hIL,hIE⟩:=J HEA k hk2;obtain⟨ip,ic,hBk⟩:=hIL.shape;rw [hBk] at hbk hIL;have hnl:=hIL;obtain⟨ip',ic',hie,-,hin,hicell⟩:=hnl;injection hie with e1 _ _;subst e1;have hbe:fn.blocks.getD k []=fn.blocks[k]:=Dv _ _ _ hk2;have HLY:=Za hly;have HCW:=Za hcw;have HIC:=Za hicell;have HIE:=Za hIE;have hin':(fn.blocks[k]).length<9223372036854775808:=hin;have hlk:=J HLEN k hk2;rw [hbe] at hlk;have HBE:=Za hbe;clear hly hcw hicell hIE hIL hbcell hBk hbe hin;generalize fn.blocks[k]=bk at hbk hin' hlk HBE HIC HIE;go_wp2;clear hbk;go_loopw [34,7] (fun sj sv w'=>∃(j:Nat) (v:Value),sj=.int .i64 j∧sv=v∧j<=bk.length∧LyO w' W.heap.size v T (Ie T P own fn.blocks k j)∧ClW w T (some ⟨sb,so,none⟩) pe cf ce P own oq oc bo W w') (fun sj _ _=>bk.length-(intOf sj).toNat)
   case atStart=>exact⟨0,_,rfl,rfl,by omega,by rw [Zqs]; exact J HLY,J HCW⟩
   case round =>
    clear HLY HCW;obtain⟨j,v1,rfl,rfl,hj,hly,hcw⟩:=hrel;obtain⟨vp1,vc1,rfl⟩:=hly.form;by_cases hj2:j<bk.length
    ·have hbc:=J HIC (by omega);obtain⟨isb,iso,hip,hisb,hicell⟩:=hbc;subst hip;have hrg:=hicell j hj2;obtain⟨xav,xov,hIA,hxa,hxo⟩:=J HIE j hj2;obtain⟨xap,xac,hxa2⟩:=hxa.shape;obtain⟨xop,xoc,hxo2⟩:=hxo.shape;subst hxa2 hxo2;rw [hIA] at hrg;have hge:bk.getD j Lc=bk[j]:=Dv _ _ _ hj2;have HON:=Za ((J HOK).on k j);have HNX:=Za (Zqt T P own fn.blocks k j (by rw [J HBE]; exact hj2));rw [J HBE,hge] at HON HNX;have hacc:=J HACC k j hk (fun _=>by rw [J HBE]; exact hj) (fun h=>by omega);clear hge hIA hxa hxo hicell;generalize bk[j]=i at hrg HON HNX;have hlc:=hcw.all;have d0:=(hlc.cell (p:=⟨isb,iso+j*8+0,none⟩) hisb).trans (hrg 0 _ rfl);have d1:=(hlc.cell (p:=⟨isb,iso+j*8+1,none⟩) hisb).trans (hrg 1 _ rfl);have d2:=(hlc.cell (p:=⟨isb,iso+j*8+2,none⟩) hisb).trans (hrg 2 _ rfl);have d3:=(hlc.cell (p:=⟨isb,iso+j*8+3,none⟩) hisb).trans (hrg 3 _ rfl);have d4:=(hlc.cell (p:=⟨isb,iso+j*8+4,none⟩) hisb).trans (hrg 4 _ rfl);have d5:=(hlc.cell (p:=⟨isb,iso+j*8+5,none⟩) hisb).trans (hrg 5 _ rfl);have d6:=(hlc.cell (p:=⟨isb,iso+j*8+6,none⟩) hisb).trans (hrg 6 _ rfl);have d7:=(hlc.cell (p:=⟨isb,iso+j*8+7,none⟩) hisb).trans (hrg 7 _ rfl);rw [Nat.add_zero] at d0;have HLYR:=Za hly;have HCWR:=Za hcw;clear hly hcw hrg hlc;obtain⟨xan,hxan⟩:∃ n,n=i.args.length:=⟨_,rfl⟩;obtain⟨xon,hxon⟩:∃ n,n=i.outs.length:=⟨_,rfl⟩;rw [← hxan] at d6;rw [← hxon] at d7
     clear hxan hxon;have hali:=al0 wr (.cells #[.int .i64 0,.int .i64 0,.int .i64 0,.int .i64 0,.int .u64 0,.int .i64 0,.slice none 0 0,.slice none 0 0] 110 (0,0));have HALi:=Za hali;clear hali;go_upto_region 9 with(refine wpList_store_row rfl 110 _ _ rfl wr.heap.size #[.int .i64 i.op,.int .i64 i.d,.int .i64 i.a,.int .i64 i.bb,.int .u64 i.n,.int .i64 i.f,.slice xap xan xac,.slice xop xon xoc] rfl rfl 110 _ (J HALi).1 (Tryz.infInsF.trans rfl) rfl (by simp [Value.oneCell']) ?_)
     have hrwi:=setRow_heap _ _ _ #[.int .i64 i.op,.int .i64 i.d,.int .i64 i.a,.int .i64 i.bb,.int .u64 i.n,.int .i64 i.f,.slice xap xan xac,.slice xop xon xoc] _ _ (J HALi).1;have hbli:=Zg (T:=wr.heap.size) (cs:=#[.int .i64 i.op,.int .i64 i.d,.int .i64 i.a,.int .i64 i.bb,.int .u64 i.n,.int .i64 i.f,.slice xap xan xac,.slice xop xon xoc]) (J HALi).2.1 (Nat.le_refl _);clear HALi;generalize World.setRow (World.alloc wr _) _ _=V1 at hrwi hbli ⊢;clear d0 d1 d2 d3 d4 d5 d6 d7;have hCW1:=(J HCWR).next hbli;have HCW1:=Za hCW1;have HLY1:=Za ((J HLYR).below hbli);have hzi:=Zh hrwi;have HRWI:=Za hrwi;generalize wr.heap.size=bi at hrwi HRWI hzi ⊢;have hp1:=hCW1.row hCW1.r1;have p0:=cR hp1 0;have p1:=cR hp1 1;obtain⟨x0,x1,x2,x3,x4,x5,x6,x7⟩:=cT8 hrwi;clear hp1 hrwi hbli HCWR HLYR;have HCAL:=Za (Ztm P i _ _ _ _ A E V1 ((J HP).below hCW1.all) (J HON) ⟨xap,xan,xac,rfl⟩ ⟨xop,xon,xoc,rfl⟩);clear hCW1;go_wp2_with fail
     clear p0 p1 x0 x1 x2 x3 x4 x5 x6 x7;refine(J HCAL).mono ?_;rintro e w3 ⟨lv3,rfl,hli3,hb3⟩;obtain⟨lp,lc,rfl⟩:=hli3.shape;have hz3:=hb3.size;have HCW3:=Za ((J HCW1).next hb3);have HLY3:=Za ((J HLY1).below hb3);have HRWI3:=Za ((hb3.block bi (by omega)).trans (J HRWI));have HLI3:=Za hli3;clear hli3 hb3 HCAL HCW1 HLY1 HRWI;cases hsg:Zak P i with
     | none =>
      have HX:=Za (show Ie T P own fn.blocks k (j+1)=Ie T P own fn.blocks k j by rw [J HNX]; unfold Zal; rw [hsg]; simp);clear hsg HLI3;simp only [Option.getD_none,Option.isSome_none,List.length_nil];have hals:=al0 w3 (.cells #[.slice none 0 0,.int .i64 0] 43 (0,0));have HALs:=Za hals;clear hals;go_upto_region 10 with(refine wpList_store_row rfl 43 _ _ rfl w3.heap.size #[.slice lp 0 lc,.int .i64 0] rfl rfl 43 _ (J HALs).1 (Tryz.infSigK.trans rfl) rfl (by simp [Value.oneCell']) ?_)
      have hrws:=setRow_heap _ _ _ #[.slice lp 0 lc,.int .i64 0] _ _ (J HALs).1;have hbls:=Zg (T:=w3.heap.size) (cs:=#[.slice lp 0 lc,.int .i64 0]) (J HALs).2.1 (Nat.le_refl _);clear HALs;generalize World.setRow (World.alloc w3 _) _ _=V4 at hrws hbls ⊢;have HLY4:=Za ((J HLY3).below hbls);have HCW4:=Za ((J HCW3).next hbls);clear hrws hbls;go_wp2;go_roundw
      case rel=>exact⟨j+1,_,by go_num,rfl,by omega,by rw [J HX]; exact J HLY4,J HCW4⟩
      case measure=>simp [intOf]; omega
     | some s=>rw [Zce (by have:=J HON; omega) (by have:=J HON; omega)] at hsg;cases hsg
    ·obtain rfl:j=bk.length:=by omega
     have HX:=Za (show LyO wr W.heap.size _ T (Ss T P own fn.blocks (k+1)) by rw [← Zeu T P own fn.blocks k hk2,J HBE]; exact hly);have HCW:=Za hcw;clear hly hcw;go_wp2;go_roundw
     case rel=>exact⟨k+1,_,by go_num,rfl,by omega,J HX,J HCW⟩
     case measure=>simp [intOf]; omega
  ·obtain rfl:k=fn.blocks.length:=by omega
   have HLY:=Za hly;have HCW:=Za hcw;clear hly hcw;go_wp2;go_ret;obtain⟨vs,hv1,hv3,hv2⟩:=J HLY;exact⟨_,rfl,by rw [← J HOWN]; exact⟨vs,hv1,hv3,Xm hv2 hzW⟩,(J HCW).all⟩
set_option maxHeartbeats 4000000
set_option maxRecDepth 100000
def Dw (ss hs:List Int)(k:Nat):List Int:=((List.range k).filter fun r:Nat=>decide ((r:Int) ∈ ss)&&decide ((r:Int) ∈ hs)).map fun r:Nat=>(r:Int)
theorem Zqn (ss hs:List Int)(k:Nat):Dw ss hs (k+1)=Dw ss hs k++(if (decide ((k:Int) ∈ ss)&&decide ((k:Int) ∈ hs))=true then [(k:Int)] else []):=by
 unfold Dw;rw [List.range_succ,List.filter_append,List.map_append];congr 1
 simp only [List.filter_cons,List.filter_nil];split <;> rfl
theorem Zip (ss hs:List Int)(k:Nat):(Dw ss hs k).length<=k:=by unfold Dw;rw [List.length_map];have:=List.length_filter_le (fun r:Nat=>decide ((r:Int) ∈ ss)&&decide ((r:Int) ∈ hs)) (List.range k);simpa using this
theorem Yr {w:World}{B e size n:Nat}{v:Value}{xs:List Value}(h:w.ownsRow B e size v n xs):∃ p c,v=.slice p n c:=by
 rcases h.2 with⟨e,e0⟩ | ⟨g,cap,cur,e,-⟩
 ·exact⟨none,0,by rw [e0]; exact e⟩
 ·exact⟨_,_,e⟩
theorem Zya (ns:List Int)(x:Int):iC (ns++[x])=iC ns++[.int .i64 x]:=by simp [iC]
theorem Zyb (T:Yh)(fn:Zm)(pv hv sv bv:Value)(w:World)(hT:TbO w T)(hh:Li w hv fn.homes)(hr0:0<=T.r)(hr1:T.r<=16)(hs:T.ss.length<=1000000)(hhl:fn.homes.length<=1000000)(hpv:∃ p n c,pv=.slice p n c)(hsv:∃ p n c,sv=.slice p n c)(hbv:∃ p n c,bv=.slice p n c) :
 Calls Tryz.prog 150 #[.agg T.box,.agg #[pv,.int .i64 fn.results,hv,sv,bv]] w fun e w'=>∃ v,e=.returned v∧w'.ownsRow w.heap.size 3 1 v (Dw T.ss fn.homes T.r.toNat).length (iC (Dw T.ss fn.homes T.r.toNat))∧Below w.heap.size w w':=by
 obtain⟨ti,hti,hty0,hty1,hty2⟩:=Ly Tryz.infoInt;obtain⟨p1,n1,c1,rfl⟩:=hpv;obtain⟨p2,n2,c2,rfl⟩:=hsv;obtain⟨p3,n3,c3,rfl⟩:=hbv;obtain⟨hp,hc,rfl⟩:=hh.shape;obtain⟨r0,r1,hZ,hB⟩:=Zlu w (.cells T.box 25 (0,0)) (.cells #[.slice p1 n1 c1,.int .i64 fn.results,.slice hp fn.homes.length hc,.slice p2 n2 c2,.slice p3 n3 c3] 71 (0,0));have HH:=Za hh;have HT:=Za hT;have HR0:=Za r0;have HR1:=Za r1;have HB:=Za hB;obtain⟨R,hR⟩:=Int.eq_ofNat_of_zero_le hr0;clear hT hh r0 r1 hB;unfold Yh.box at HR0 HR1 HB hZ ⊢;rw [hR] at HR0 HR1 HB hZ hr1 ⊢;have hR16:R<=16:=by omega
 rw [Int.toNat_natCast];go_enter Tryz.func150,Tryz.ntmps150
 go_wp2_with fail
 generalize World.alloc (World.alloc w _) _=W at HR0 HR1 HB hZ ⊢;go_loopw [9,5] (fun sr sv w'=>∃(r:Nat) (v:Value),sr=.int .i64 r∧sv=v∧r<=R∧w'.ownsRow W.heap.size 3 1 v (Dw T.ss fn.homes r).length (iC (Dw T.ss fn.homes r))∧Below W.heap.size W w') (fun sr _ _=>R-(intOf sr).toNat)
 case atStart=>exact⟨0,_,rfl,rfl,by omega,World.ownsRow_nil _ _ _ _,Below.refl _ _⟩
 case round =>
  obtain⟨r,v0,rfl,rfl,hr,how,hbw⟩:=hrel;obtain⟨vp,vc,rfl⟩:=Yr how;have hzw:=hbw.size;have HOW:=Za how;have HBW:=Za hbw;by_cases hr2:r<R
  ·have s7:=cR ((hbw.block _ (by omega)).trans (J HR0)) 7;have h2:=cR ((hbw.block _ (by omega)).trans (J HR1)) 2;have hbel:Below w.heap.size w wr:=Zd (J HB) hbw (by omega);have HC1:=Za (Ms T.ss r _ wr ((J HT).below hbel).s.rs hs);have HC2:=Za (Ms fn.homes r _ wr ((J HH).below hbel).rs hhl);have HNX:=Za (Zqn T.ss fn.homes r);have hsl:=Zip T.ss fn.homes r;clear how hbw hbel;go_wp2_with fail
   refine(J HC1).mono ?_;rintro e w1 ⟨rfl,hw1⟩;subst hw1;obtain⟨b1,hb1⟩:∃ b,b=decide ((r:Int) ∈ T.ss):=⟨_,rfl⟩;rw [← hb1] at HNX ⊢;clear hb1 HC1;cases b1 with
   | false =>
    have HX:=Za (show w1.ownsRow W.heap.size 3 1 (.slice vp (Dw T.ss fn.homes r).length vc) (Dw T.ss fn.homes (r+1)).length (iC (Dw T.ss fn.homes (r+1))) by rw [J HNX]; simp; exact J HOW);go_wp2;go_roundw
    case rel=>exact⟨r+1,_,by go_num,rfl,by omega,J HX,J HBW⟩
    case measure=>simp [intOf]; omega
   | true =>
    go_wp2_with fail
    refine(J HC2).mono ?_;rintro e w2 ⟨rfl,hw2⟩;subst hw2;obtain⟨b2,hb2⟩:∃ b,b=decide ((r:Int) ∈ fn.homes):=⟨_,rfl⟩;rw [← hb2] at HNX ⊢;clear hb2 HC2;cases b2 with
    | false =>
     have HX:=Za (show w2.ownsRow W.heap.size 3 1 (.slice vp (Dw T.ss fn.homes r).length vc) (Dw T.ss fn.homes (r+1)).length (iC (Dw T.ss fn.homes (r+1))) by rw [J HNX]; simp; exact J HOW);go_wp2;go_roundw
     case rel=>exact⟨r+1,_,by go_num,rfl,by omega,J HX,J HBW⟩
     case measure=>simp [intOf]; omega
    | true =>
     clear s7 h2;go_wp2_with (at_builtin; refine wpList_append_own _ rfl _ _ 23 rfl W.heap.size 3 ti _ 1 8 Tryz.underlying23 hti hty0 hty1 hty2 rfl (by decide) _ _ _ rfl (World.ownsRow.alloc (J HOW) _) ⟨w2.heap.size,0,none⟩ 1 1 [.int .i64 r] rfl rfl (by intro j u hj; match j,hj with | 0,hj=>(simp at hj; subst hj; simp [Addr.add])) (by intro u hu; simp at hu; subst hu; rfl) ?c3 ?c4 ?c5 ?_)
     case c3=>unfold maxLen; omega
     case c4=>omega
     case c5=>first | omega | (simp; omega)
     intro v7 w7 hown7 hgr7 _;obtain⟨gg7,cc7,rfl⟩:=Cs hown7;have hal:=al0 w2 (.cells #[.int .i64 r] 3 (0,0));have hbw:=J HBW;have HX:=Za (show w7.ownsRow W.heap.size 3 1 (.slice (some ⟨gg7,0,none⟩) ((Dw T.ss fn.homes r).length+1) cc7) (Dw T.ss fn.homes (r+1)).length (iC (Dw T.ss fn.homes (r+1))) by rw [J HNX]; simp only [Bool.and_self,if_true]; rw [Zya,List.length_append,hZ]; exact hown7);have HBX:=Za (show Below W.heap.size W w7 from⟨hgr7.os.trans (hal.2.1.os.trans hbw.os),hgr7.tape.trans (hal.2.1.tape.trans hbw.tape),hgr7.output.trans (hal.2.1.output.trans hbw.output),by have:=hgr7.size; rw [hal.2.2] at this; omega,fun q hq=>(hgr7.block q (by rw [hal.2.2]; omega) (fun e=>by have:=((J HOW).lt q e.symm).1; omega)).trans ((hal.2.1.block q (by omega)).trans (hbw.block q hq))⟩);clear hown7 hgr7 hal hbw;go_wp2;go_roundw
     case rel=>exact⟨r+1,_,by go_num,rfl,by omega,J HX,J HBX⟩
     case measure=>simp [intOf]; omega
  ·obtain rfl:r=R:=by omega
   clear how hbw;go_wp2;go_ret;exact⟨_,rfl,Xm (J HOW) (by omega),Zd (J HB) (J HBW) (by omega)⟩
structure Zcc where
 out:Int
 cop:Int
 cells:Int
 slots:List Int
 saves:List (Int×Int)
 link:Int
 size:Int
 in_:Int
def Zdu (T:Yh)(ss:List (List Int×Int)):Int:=ss.foldl (fun m s=>max m (Sr T s).size) 0
def Zdv (T:Yh)(ss:List (List Int×Int)):Int:=ss.foldl (fun m s=>max m (Sr T s).copies) 0
def Zcd (ns:List Int)(k:Nat):Int:=(ns.take k).foldl (·+·) 0
theorem Zqq (ns:List Int)(k:Nat)(h:k<ns.length):Zcd ns (k+1)=Zcd ns k+ns.getD k 0:=by unfold Zcd;rw [List.take_add_one,List.getElem?_eq_getElem h,List.foldl_append,Dv _ _ _ h];rfl
def Zye (T:Yh)(fn:Zm)(ss:List (List Int×Int)):Int:=Zdu T ss+Zdv T ss+8*(fn.homes.length:Int)
def Ztp (T:Yh)(fn:Zm)(ss:List (List Int×Int)):Int:=Zye T fn ss+8*Zcd fn.slots fn.slots.length
def Zfy (T:Yh)(fn:Zm):List Int:=Dw T.ss fn.homes T.r.toNat
def Ztq (T:Yh)(fn:Zm)(ss:List (List Int×Int)):Int:=Ztp T fn ss+8*((Zfy T fn).length:Int)
def Ztr (T:Yh)(ss:List (List Int×Int)):Bool:=decide (T.lk≠-1)&&decide (0<ss.length)
def Ycs (T:Yh)(fn:Zm)(ss:List (List Int×Int)):Int:=if Ztr T ss=true then Ztq T fn ss+8 else Ztq T fn ss
def Id (T:Yh):Int:=if T.lk=-1 then 8 else 0
def inF (T:Yh)(fn:Zm)(ss:List (List Int×Int)):Int:=(Ycs T fn ss+Id T+T.al-1) / T.al*T.al
def slA (T:Yh)(fn:Zm)(ss:List (List Int×Int))(k:Nat):Int:=Zye T fn ss+8*Zcd fn.slots k
def svA (T:Yh)(fn:Zm)(ss:List (List Int×Int))(k:Nat):Int×Int:=((Zfy T fn).getD k 0,Ztp T fn ss+8*(k:Int))
def Nk (T:Yh)(fn:Zm)(ss:List (List Int×Int)):Zcc :=
 ⟨Zdu T ss,Zdv T ss,Zdu T ss+Zdv T ss,(List.range fn.slots.length).map (slA T fn ss),(List.range (Zfy T fn).length).map (svA T fn ss),if Ztr T ss=true then Ztq T fn ss else -1,inF T fn ss-Id T,inF T fn ss⟩
theorem Zes {T:Yh}{s:List Int×Int}(ht:Zqr T)(hs:Zlw s):0<=(Sr T s).size∧(Sr T s).size<=1000∧0<=(Sr T s).copies∧(Sr T s).copies<=1000:=by have hok:=Zle (L:=T.ag.length) (br:=T.br) (pr:=T.pairs) (sh:=T.sh) hs.n s.1.length (Nat.le_refl _);have h1:=hok.c0;have h2:=hok.c1;have h3:=hok.p0;have h4:=hok.p1;have h5:=ht.s0;have h6:=ht.s1;have h7:=hs.l;have h8:=hs.r0;have h9:=hs.r4;show 0<=Xg T.rs _ s.2.toNat∧Xg T.rs _ s.2.toNat<=1000∧0<=(stA _ _ _ _ _ s.1.length).p∧(stA _ _ _ _ _ s.1.length).p<=1000;unfold Xg;omega
theorem Zoc {T:Yh}(ht:Zqr T):∀(ss:List (List Int×Int)),(∀ s ∈ ss,Zlw s)->∀ m:Int,0<=m->m<=1000->0<=ss.foldl (fun m s=>max m (Sr T s).size) m∧ss.foldl (fun m s=>max m (Sr T s).size) m<=1000
 | [],_,m,h0,h1=>⟨h0,h1⟩
 | s :: r,h,m,h0,h1=>by
  have hs:=Zes ht (h s List.mem_cons_self);exact Zoc ht r (fun x hx=>h x (List.mem_cons_of_mem _ hx)) (max m (Sr T s).size) (by omega) (by omega)
theorem Zod {T:Yh}(ht:Zqr T):∀(ss:List (List Int×Int)),(∀ s ∈ ss,Zlw s)->∀ m:Int,0<=m->m<=1000->0<=ss.foldl (fun m s=>max m (Sr T s).copies) m∧ss.foldl (fun m s=>max m (Sr T s).copies) m<=1000
 | [],_,m,h0,h1=>⟨h0,h1⟩
 | s :: r,h,m,h0,h1=>by
  have hs:=Zes ht (h s List.mem_cons_self);exact Zod ht r (fun x hx=>h x (List.mem_cons_of_mem _ hx)) (max m (Sr T s).copies) (by omega) (by omega)
theorem Zoe {ns:List Int}(h:∀ k,k<ns.length->0<=ns.getD k 0∧ns.getD k 0<=8):∀ k,k<=ns.length->0<=Zcd ns k∧Zcd ns k<=8*(k:Int)
 | 0,_=>by simp [Zcd]
 | k+1,hk=>by
  have ih:=Zoe h k (by omega);have hn:=h k (by omega);rw [Zqq ns k (by omega)];omega
structure Rj (W:World)(b:Nat)(o c ce:Int)(slv kv:Value)(lk sz i_:Int)(sl:List Int)(kp:List (Int×Int))(V:World):Prop where
 low:Below b W V
 row:V.heap[b]?=some (.cells #[.int .i64 o,.int .i64 c,.int .i64 ce,slv,kv,.int .i64 lk,.int .i64 sz,.int .i64 i_] 65 (0,0))
 sl:V.ownsRow (b+1) 3 1 slv sl.length (iC sl)
 kp:V.ownsRow (b+1) 72 2 kv kp.length (plC kp)
section
variable {W V V':World} {b:Nat} {o c ce lk sz i_:Int} {slv kv:Value} {sl:List Int} {kp:List (Int×Int)}
theorem Rj.size (h:Rj W b o c ce slv kv lk sz i_ sl kp V):b<V.heap.size:=Zh h.row
theorem Rj.next (h:Rj W b o c ce slv kv lk sz i_ sl kp V)(hb:Below V.heap.size V V'):Rj W b o c ce slv kv lk sz i_ sl kp V' :=
 ⟨Zd h.low hb (Nat.le_of_lt h.size),(hb.block b h.size).trans h.row,Xh h.sl (Jl (o:=none) hb) (fun g _ e=>by cases e),Xh h.kp (Jl (o:=none) hb) (fun g _ e=>by cases e)⟩
theorem Rj.low_set (h:Rj W b o c ce slv kv lk sz i_ sl kp V)(j:Nat)(v:Value):Below b W (V.setCell ⟨b,j,none⟩ v)∧(V.setCell ⟨b,j,none⟩ v).ownsRow (b+1) 3 1 slv sl.length (iC sl)∧(V.setCell ⟨b,j,none⟩ v).ownsRow (b+1) 72 2 kv kp.length (plC kp) :=
 ⟨⟨h.low.os,h.low.tape,h.low.output,by have:=h.low.size; simpa using this,fun q hq=>(heap_setCell_other _ _ _ _ (by show q≠b; omega)).trans (h.low.block q hq)⟩,ownsRow_setCell_below h.sl (a:=⟨b,j,none⟩) (by show b<b+1; omega) v,ownsRow_setCell_below h.kp (a:=⟨b,j,none⟩) (by show b<b+1; omega) v⟩
theorem Rj.s0 (h:Rj W b o c ce slv kv lk sz i_ sl kp V)(x:Int):Rj W b x c ce slv kv lk sz i_ sl kp (V.setCell ⟨b,0,none⟩ (.int .i64 x)):=⟨(h.low_set 0 _).1,heap_setCell_same _ _ 0 _ _ _ h.row,(h.low_set 0 _).2.1,(h.low_set 0 _).2.2⟩
theorem Rj.s1 (h:Rj W b o c ce slv kv lk sz i_ sl kp V)(x:Int):Rj W b o x ce slv kv lk sz i_ sl kp (V.setCell ⟨b,1,none⟩ (.int .i64 x)):=⟨(h.low_set 1 _).1,heap_setCell_same _ _ 1 _ _ _ h.row,(h.low_set 1 _).2.1,(h.low_set 1 _).2.2⟩
theorem Rj.s2 (h:Rj W b o c ce slv kv lk sz i_ sl kp V)(x:Int):Rj W b o c x slv kv lk sz i_ sl kp (V.setCell ⟨b,2,none⟩ (.int .i64 x)):=⟨(h.low_set 2 _).1,heap_setCell_same _ _ 2 _ _ _ h.row,(h.low_set 2 _).2.1,(h.low_set 2 _).2.2⟩
theorem Rj.s5 (h:Rj W b o c ce slv kv lk sz i_ sl kp V)(x:Int):Rj W b o c ce slv kv x sz i_ sl kp (V.setCell ⟨b,5,none⟩ (.int .i64 x)):=⟨(h.low_set 5 _).1,heap_setCell_same _ _ 5 _ _ _ h.row,(h.low_set 5 _).2.1,(h.low_set 5 _).2.2⟩
theorem Rj.s6 (h:Rj W b o c ce slv kv lk sz i_ sl kp V)(x:Int):Rj W b o c ce slv kv lk x i_ sl kp (V.setCell ⟨b,6,none⟩ (.int .i64 x)):=⟨(h.low_set 6 _).1,heap_setCell_same _ _ 6 _ _ _ h.row,(h.low_set 6 _).2.1,(h.low_set 6 _).2.2⟩
theorem Rj.s7 (h:Rj W b o c ce slv kv lk sz i_ sl kp V)(x:Int):Rj W b o c ce slv kv lk sz x sl kp (V.setCell ⟨b,7,none⟩ (.int .i64 x)):=⟨(h.low_set 7 _).1,heap_setCell_same _ _ 7 _ _ _ h.row,(h.low_set 7 _).2.1,(h.low_set 7 _).2.2⟩
theorem Zet {B B' n m size size':Nat}{e e':TypeId}{v v':Value}{xs ys:List Value}(h:V.ownsRow B e size v n xs)(h':V.ownsRow B' e' size' v' m ys)(hne:e≠e'):∀ g,v.ownBlock=some g->v'.ownBlock≠some g:=fun g hv hv'=>by
 rcases h.2 with⟨e1,-⟩ | ⟨g1,c1,cur1,e1,-,r1,-⟩
 ·rw [e1] at hv; cases hv
 ·rcases h'.2 with⟨e2,-⟩ | ⟨g2,c2,cur2,e2,-,r2,-⟩
  ·rw [e2] at hv'; cases hv'
  ·rw [e1] at hv;rw [e2] at hv';injection hv with hv;injection hv' with hv';simp only at hv hv';rw [hv] at r1;rw [hv'] at r2;rw [r1] at r2;injection r2 with r2;injection r2 with _ r2 _;exact hne r2
theorem Rj.low_app (h:Rj W b o c ce slv kv lk sz i_ sl kp V)(X:Obj){w7:World}{v:Value}{n size:Nat}{e:TypeId}{xs:List Value}(ho:V.ownsRow (b+1) e size v n xs)(hgr:(V.alloc X).grownBy w7 v.ownBlock):Below b W w7∧w7.heap[b]?=V.heap[b]?:=by have ha:=al0 V X;have hz:=h.size;have hl:=h.low.size;have h7:=hgr.size;rw [ha.2.2] at h7;have hq:∀ q,q<=b->w7.heap[q]?=V.heap[q]?:=fun q hq=>(hgr.block q (by rw [ha.2.2]; omega) (fun e=>by have:=(World.ownsRow.lt ho q e.symm).1; omega)).trans (ha.2.1.block q (by omega));exact⟨⟨hgr.os.trans (ha.2.1.os.trans h.low.os),hgr.tape.trans (ha.2.1.tape.trans h.low.tape),hgr.output.trans (ha.2.1.output.trans h.low.output),by omega,fun q h1=>(hq q (by omega)).trans (h.low.block q h1)⟩,hq b (Nat.le_refl _)⟩
theorem Rj.kept (h:Rj W b o c ce slv kv lk sz i_ sl kp V){w7:World}{v7:Value}{x y:Int}(hgr:(V.alloc (.cells #[.int .i64 x,.int .i64 y] 72 (0,0))).grownBy w7 kv.ownBlock)(hown:w7.ownsRow (b+1) 72 2 v7 (kp.length+1) (plC kp++[.int .i64 x,.int .i64 y])):Rj W b o c ce slv v7 lk sz i_ sl (kp++[(x,y)]) (w7.setCell ⟨b,4,none⟩ v7):=by obtain⟨hl,hr⟩:=h.low_app _ h.kp hgr;have hk:w7.ownsRow (b+1) 3 1 slv sl.length (iC sl):=Xh (World.ownsRow.alloc h.sl _) hgr (Zet h.sl h.kp (by decide));refine⟨⟨hl.os,hl.tape,hl.output,by have:=hl.size; simpa using this,fun q hq=>(heap_setCell_other _ _ _ _ (by show q≠b; omega)).trans (hl.block q hq)⟩,heap_setCell_same _ _ 4 _ _ _ (hr.trans h.row),ownsRow_setCell_below hk (a:=⟨b,4,none⟩) (by show b<b+1; omega) v7,?_⟩;rw [Zso,List.length_append];exact ownsRow_setCell_below hown (a:=⟨b,4,none⟩) (by show b<b+1; omega) v7
end
set_option maxHeartbeats 1000000
theorem Zto (T:Yh)(w:World):Calls Tryz.prog 152 #[.agg #[.int .i64 T.r,.int .i64 T.sp,.int .i64 T.lk,.int .i64 T.t0,.int .i64 T.t1,.slice T.pa T.ag.length T.ca,.slice T.pr T.rs.length T.cr,.slice T.ps T.ss.length T.cs,.int .i64 T.al,.int .i64 T.sh,.int .i64 T.br,.bool T.pairs]] w fun e w'=>e=.returned (.int .i64 (Id T))∧Below w.heap.size w w':=by
 have ha:=al0 w (.cells #[.int .i64 T.r,.int .i64 T.sp,.int .i64 T.lk,.int .i64 T.t0,.int .i64 T.t1,.slice T.pa T.ag.length T.ca,.slice T.pr T.rs.length T.cr,.slice T.ps T.ss.length T.cs,.int .i64 T.al,.int .i64 T.sh,.int .i64 T.br,.bool T.pairs] 25 (0,0));have HA:=Za ha;clear ha;by_cases h:T.lk=-1
 ·have z:(T.lk==-1)=true:=by simp [h]
  have HP:=Za (show Id T=8 by unfold Id; rw [if_pos h]);clear h;go_enter Tryz.func152,Tryz.ntmps152
  go_wp2;go_ret;exact⟨by rw [J HP]; rfl,(J HA).2.1⟩
 ·have z:(T.lk==-1)=false:=by simp [h]
  have HP:=Za (show Id T=0 by unfold Id; rw [if_neg h]);clear h;go_enter Tryz.func152,Tryz.ntmps152
  go_wp2;go_ret;exact⟨by rw [J HP]; rfl,(J HA).2.1⟩
theorem Zqo (n a:Int)(w:World)(h0:0<=n)(h1:n<=1000000)(ha:1<=a)(hb:a<=1000):Calls Tryz.prog 151 #[.int .i64 n,.int .i64 a] w fun e w'=>e=.returned (.int .i64 ((n+a-1) / a*a))∧w'=w:=by
 have hq:Int.tdiv (n+a-1) a=(n+a-1) / a:=Int.tdiv_eq_ediv_of_nonneg (by omega);have hq0:0<=(n+a-1) / a:=Int.ediv_nonneg (by omega) (by omega);have hqm:(n+a-1) / a*a<=n+a-1:=Int.ediv_mul_le _ (by omega);have hq1:(n+a-1) / a<=n+a-1:=Int.ediv_le_self _ (by omega);have hqp:0<=(n+a-1) / a*a:=Int.mul_nonneg hq0 (by omega);have hne:(a==0)=false:=by simp; omega
 obtain⟨d,hd⟩:∃ d,d=(n+a-1) / a:=⟨_,rfl⟩;rw [← hd] at hq hq0 hqm hq1 hqp ⊢;clear hd;go_enter Tryz.func151,Tryz.ntmps151
 go_wp2;go_ret;exact⟨by simp [*],rfl⟩
end Go.Proofs.YtkenknfgeoecbaaGreatDoor
