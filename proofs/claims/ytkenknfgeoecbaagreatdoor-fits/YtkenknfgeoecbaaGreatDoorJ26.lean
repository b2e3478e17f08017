import Derived.Test.YtkenknfgeoecbaaGreatDoorJ24
namespace Go.Proofs.YtkenknfgeoecbaaGreatDoor
open Go.RowKit
set_option maxHeartbeats 8000000
set_option maxRecDepth 100000
structure Ik (P:Zk)(fn:Zj):Prop where
 f:∀ k j,k<fn.blocks.length->j<(fn.blocks.getD k []).length->(((fn.blocks.getD k []).getD j Jo).op=12∨((fn.blocks.getD k []).getD j Jo).op=17->0<=((fn.blocks.getD k []).getD j Jo).f∧((fn.blocks.getD k []).getD j Jo).f<P.funcs.length)
 e:∀ k j,k<fn.blocks.length->j<(fn.blocks.getD k []).length->(((fn.blocks.getD k []).getD j Jo).op=13->0<=((fn.blocks.getD k []).getD j Jo).f∧((fn.blocks.getD k []).getD j Jo).f<P.externs.length)
 s:∀ k j s,k<fn.blocks.length->j<(fn.blocks.getD k []).length->My P ((fn.blocks.getD k []).getD j Jo)=some s->Dr s
 own:Dr (Jw fn)
 len:∀ k,k<fn.blocks.length->(fn.blocks.getD k []).length<=24
 num:fn.blocks.length<=12
theorem Lx {α:Type}(l:List α)(d:α)(k:Nat)(h:k<l.length):l.getD k d=l[k]:=by simp [List.getD,h]
theorem Zok (T:Yc)(P:Zk)(own:List Int×Int)(bs:List (List Yb))(hl:∀ k,k<bs.length->(bs.getD k []).length<=24):∀ k j,k<=bs.length->(k<bs.length->j<=(bs.getD k []).length)->(k=bs.length->j=0)->(Uc T P own bs k j).length<=k*24+j:=by
 have hB:∀ k,k<=bs.length->(Sv T P own bs k).length<=k*24:=by
  intro k;induction k with
  | zero=>intro _; simp [Sv]
  | succ k ih=>intro hk;have h1:=ih (by omega);rw [← Zft T P own bs k (by omega)];unfold Uc;rw [List.length_append];have h2:=List.length_filterMap_le (Cc T P own) ((bs.getD k []).take (bs.getD k []).length);have h3:=hl k (by omega);rw [List.take_length] at h2 ⊢;omega
 intro k j hk hj hz;unfold Uc;rw [List.length_append];have h1:=hB k hk;have h2:=List.length_filterMap_le (Cc T P own) ((bs.getD k []).take j);have h3:((bs.getD k []).take j).length<=j:=by simp; omega
 omega
structure ClW (w:World)(T:Yc)(pf pe:Option Addr)(cf ce:Nat)(P:Zk)(own:List Int×Int)(oq:Option Addr)(oc bo:Nat)(W V:World):Prop where
 low:Below W.heap.size W V
 r0:W.heap[w.heap.size]?=some (.cells T.box 25 (0,0))
 r1:W.heap[w.heap.size+1]?=some (.cells #[.slice pf P.funcs.length cf,.slice pe P.externs.length ce] 62 (0,0))
 ro:W.heap[bo]?=some (.cells #[.slice oq own.1.length oc,.int .i64 own.2] 43 (0,0))
 lw:Below w.heap.size w W
 lo:Li W (.slice oq own.1.length oc) own.1
theorem ClW.next {w W V V':World}{T:Yc}{pf pe oq:Option Addr}{cf ce oc bo:Nat}{P:Zk}{own:List Int×Int}(h:ClW w T pf pe cf ce P own oq oc bo W V)(hb:Below V.heap.size V V'):ClW w T pf pe cf ce P own oq oc bo W V':=⟨Zc h.low hb h.low.size,h.r0,h.r1,h.ro,h.lw,h.lo⟩
theorem ClW.all {w W V:World}{T:Yc}{pf pe oq:Option Addr}{cf ce oc bo:Nat}{P:Zk}{own:List Int×Int}(h:ClW w T pf pe cf ce P own oq oc bo W V):Below w.heap.size w V:=Zc h.lw h.low h.lw.size
theorem ClW.row {w W V:World}{T:Yc}{pf pe oq:Option Addr}{cf ce oc bo:Nat}{P:Zk}{own:List Int×Int}(h:ClW w T pf pe cf ce P own oq oc bo W V){q:Nat}{o:Obj}(e:W.heap[q]?=some o):V.heap[q]?=some o:=(h.low.block q (Array.getElem?_eq_some_iff.1 e).1).trans e
theorem LyO.below {w w':World}{B:Nat}{v:Value}{T:Yc}{ss:List (List Int×Int)}(h:LyO w B v T ss)(hb:Below w.heap.size w w'):LyO w' B v T ss:=by obtain⟨vs,h1,hx,h2⟩:=h;exact⟨vs,h1,hx,Xc h2 (Jj (o:=none) hb) (fun g _ e=>by cases e)⟩
theorem Zua {w:World}{B:Nat}{av rv:Value}{l:Cp}{pvs:List Value}(h:Oq w B av rv l pvs):(∃ p n c,av=.slice p n c)∧∃ p n c,rv=.slice p n c:=by
 refine⟨?_,Dg h.res⟩;rcases h.args.2 with⟨e,-⟩ | ⟨g,cap,cur,e,-⟩
 ·exact⟨_,_,_,e⟩
 ·exact⟨_,_,_,e⟩
theorem Xr {w:World}{B B' n size:Nat}{e:TypeId}{v:Value}{xs:List Value}(h:w.ownsRow B e size v n xs)(hB:B'<=B):w.ownsRow B' e size v n xs:=by
 obtain⟨h1,h2 | ⟨g,cap,cur,e1,e2,e3⟩⟩:=h
 ·exact⟨h1,Or.inl h2⟩
 ·exact⟨h1,Or.inr ⟨g,cap,cur,e1,Nat.le_trans hB e2,e3⟩⟩
theorem LyO.form {w:World}{B:Nat}{v:Value}{T:Yc}{ss:List (List Int×Int)}(h:LyO w B v T ss):∃ p c,v=.slice p ss.length c:=by
 obtain⟨vs,-,-,h⟩:=h;rcases h.2 with⟨e,e0⟩ | ⟨g,cap,cur,e,-⟩
 ·exact⟨none,0,by rw [e0]; exact e⟩
 ·exact⟨_,_,e⟩
theorem Zma (w:World)(X0 X1:Obj):((w.alloc X0).alloc X1).heap[w.heap.size]?=some X0∧((w.alloc X0).alloc X1).heap[w.heap.size+1]?=some X1∧((w.alloc X0).alloc X1).heap.size=w.heap.size+1+1∧Below w.heap.size w ((w.alloc X0).alloc X1):=by obtain⟨r0,b0,s0⟩:=al0 w X0;obtain⟨r1,b1,s1⟩:=al0 (w.alloc X0) X1;rw [s0] at r1;exact⟨(b1.block _ (by omega)).trans r0,r1,by omega,Zc b0 b1 (by omega)⟩
theorem Tryz.infInsF:(Tryz.prog.info? 110).map (·.size)=some 8:=by kernel_rfl
theorem Zub (T:Yc)(P:Zk)(k0:Nat)(fv ev:Value)(A E:Nat->Array Value)(w:World)(hT:TbO w T)(hto:Zjf T)(hP:Mo w fv ev P A E)(hk0:k0<P.funcs.length)(hok:Ik P (P.funcs.getD k0 Zh))(hpl:∀ k,(P.funcs.getD k Zh).params.length<=8796093022208) :
 Calls Tryz.prog 104 #[.agg T.box,.agg #[fv,ev],.int .i64 k0] w fun e w'=>∃ v,e=.returned v∧LyO w' w.heap.size v T (Sv T P (Jw (P.funcs.getD k0 Zh)) (P.funcs.getD k0 Zh).blocks (P.funcs.getD k0 Zh).blocks.length)∧Below w.heap.size w w':=by
 obtain⟨ti,hti,hty0,hty1,hty2⟩:=Gy Tryz.infoLyF;obtain⟨pf,cf,hfs⟩:=hP.fs.shape;obtain⟨pe,ce,hes⟩:=hP.es.shape;subst hfs hes;obtain⟨r0,r1,hZ,hB⟩:=Zma w (.cells T.box 25 (0,0)) (.cells #[.slice pf P.funcs.length cf,.slice pe P.externs.length ce] 62 (0,0));obtain⟨pf',cf',hfs,-,hlf,hcf⟩:=hP.fs;injection hfs with f1 _ f3;obtain⟨sb,so,hpf,hsb,hc⟩:=hcf (by omega);have hck:=hc k0 hk0;obtain⟨pv,hv,sv,bv,Bv,hA,hD⟩:=hP.feach k0 hk0;rw [hA] at hck;rw [← f1] at hpf;subst hpf;have hfn:P.funcs.getD k0 Zh=P.funcs[k0]:=Lx _ _ _ hk0;have HPP:=O hpl;have hpl0:=hpl k0;rw [hfn] at hok hpl0 ⊢;generalize hfe:P.funcs[k0]=fn at hok hpl0 hD hck ⊢;clear hfe hfn hpl;have HCK:=O (fun(V:World) (hV:Below w.heap.size w V) (j:Nat) (x:Value) (hx:#[pv,.int .i64 fn.results,hv,sv,bv].toList[j]?=some x)=>(hV.cell (p:=⟨sb,so+k0*5+j,none⟩) hsb).trans (hck j x hx));obtain⟨qp,qc,hpv⟩:=hD.ps.shape;obtain⟨qh,ch,hhv⟩:=hD.hs.shape;obtain⟨qs,csv,hsv⟩:=hD.ss.shape;obtain⟨qb,cb,hbv⟩:=hD.bs.shape;subst hpv hhv hsv hbv;have HD:=O hD;have HP:=O hP;have HOK:=O hok;have HT:=O hT;have HOF:=O (fun(V:World) (hV:Below w.heap.size w V) {s:List Int×Int} {lp:Option Addr} {lc:Nat} (h:Dr s∧Li V (.slice lp s.1.length lc) s.1)=>show Calls Tryz.prog 63 #[.agg #[.int .i64 T.r,.int .i64 T.sp,.int .i64 T.lk,.int .i64 T.t0,.int .i64 T.t1,.slice T.pa T.ag.length T.ca,.slice T.pr T.rs.length T.cr,.slice T.ps T.ss.length T.cs,.int .i64 T.al,.int .i64 T.sh,.int .i64 T.br,.bool T.pairs],.agg #[.slice lp s.1.length lc,.int .i64 s.2]] V (fun e w'=>∃ av rv pvs,e=.returned (.agg #[av,rv,.int .i64 (Gb T s).size,.int .i64 (Gb T s).copies])∧Oq w' V.heap.size av rv (Gb T s) pvs∧Below V.heap.size V w') from Zob T s.1 lp lc s.2 V (hT.below hV).low h.2 h.1.n h.1.l h.1.r0 h.1.r4 hto.a hto.r hto.s0 hto.s1)
 have HJF:=O (fun(V:World) (hV:Below w.heap.size w V) {own s:List Int×Int} {oq lp:Option Addr} {oc lc:Nat} (ho:Dr own∧Li V (.slice oq own.1.length oc) own.1) (h:Dr s∧Li V (.slice lp s.1.length lc) s.1)=>show Calls Tryz.prog 154 #[.agg #[.int .i64 T.r,.int .i64 T.sp,.int .i64 T.lk,.int .i64 T.t0,.int .i64 T.t1,.slice T.pa T.ag.length T.ca,.slice T.pr T.rs.length T.cr,.slice T.ps T.ss.length T.cs,.int .i64 T.al,.int .i64 T.sh,.int .i64 T.br,.bool T.pairs],.agg #[.slice oq own.1.length oc,.int .i64 own.2],.agg #[.slice lp s.1.length lc,.int .i64 s.2]] V (fun e w'=>e=.returned (.bool (Cb T own s))∧Below V.heap.size V w') from Ztz T own s oq lp oc lc V (hT.below hV) ho.2 h.2 hto ho.1 h.1);have HS:=O (fun V (hV:Below w.heap.size w V)=>Zgz fn (.slice qp fn.params.length qc) (.slice qh fn.homes.length ch) (.slice qs fn.slots.length csv) (.slice qb fn.blocks.length cb) V (hD.ps.below hV) hpl0);have hnb:=hok.num;have HR0:=O r0;have HR1:=O r1;have HB:=O hB;have hlf':P.funcs.length<9223372036854775808:=hlf;clear r0 r1 hB hT hto hP hok hcf hc hck hA hD f1 f3 hlf hpl0;have hbx:T.box=#[.int .i64 T.r,.int .i64 T.sp,.int .i64 T.lk,.int .i64 T.t0,.int .i64 T.t1,.slice T.pa T.ag.length T.ca,.slice T.pr T.rs.length T.cr,.slice T.ps T.ss.length T.cs,.int .i64 T.al,.int .i64 T.sh,.int .i64 T.br,.bool T.pairs]:=rfl;rw [hbx] at HR0 HR1 HB hZ ⊢;clear hbx;have c0:=J HCK _ (J HB) 0 _ rfl;have c1:=J HCK _ (J HB) 1 _ rfl
 have c2:=J HCK _ (J HB) 2 _ rfl;have c3:=J HCK _ (J HB) 3 _ rfl;have c4:=J HCK _ (J HB) 4 _ rfl;rw [Nat.add_zero] at c0;go_enter Tryz.func104,Tryz.ntmps104
 go_wp2_with fail
 clear c0 c1 c2 c3 c4;generalize World.alloc (World.alloc w _) _=W1 at HR0 HR1 HB hZ ⊢;refine(J HS W1 (J HB)).mono ?_;rintro e w2 ⟨lv,rfl,hli,hb2,hnew⟩;obtain⟨oq,oc,rfl⟩:=hli.shape;have hz2:=hb2.size;have HLI:=O hli;have HB2:=O hb2;clear hli hb2 HS hnew;obtain⟨own,hown⟩:∃ own,own=Jw fn:=⟨_,rfl⟩;have HOWN:=O hown;have hor:fn.results=own.2:=by rw [hown]; rfl
 rw [← hown] at HLI ⊢;rw [hor];clear hown hor;have halo:=al0 w2 (.cells #[.slice none 0 0,.int .i64 0] 43 (0,0));have HALo:=O halo;clear halo;go_upto_region 3 with(refine wpList_store_row rfl 43 _ _ rfl w2.heap.size #[.slice oq own.1.length oc,.int .i64 own.2] rfl rfl 43 _ (J HALo).1 (Tryz.infSigK.trans rfl) rfl (by simp [Value.oneCell']) ?_)
 have hrwo:=setRow_heap _ _ _ #[.slice oq own.1.length oc,.int .i64 own.2] _ _ (J HALo).1;have hblo:=Zg (T:=w2.heap.size) (cs:=#[.slice oq own.1.length oc,.int .i64 own.2]) (J HALo).2.1 (Nat.le_refl _);clear HALo;generalize World.setRow (World.alloc w2 _) _ _=W at hrwo hblo ⊢;have hWw:Below w.heap.size w W:=Zc (Zc (J HB) (J HB2) (by omega)) hblo (by omega);have hlo:Li W (.slice oq own.1.length oc) own.1:=(J HLI).below hblo;have hCW:ClW w T (some ⟨sb,so,none⟩) pe cf ce P own oq oc w2.heap.size W W:=⟨Below.refl _ _,(hblo.block _ (by omega)).trans (((J HB2).block _ (by omega)).trans (J HR0)),(hblo.block _ (by omega)).trans (((J HB2).block _ (by omega)).trans (J HR1)),hrwo,hWw,hlo⟩;have p0:=cR hCW.r1 0;have c4:=J HCK W hWw 4 _ rfl;have HCW:=O hCW;have hzW:=hWw.size;clear hWw hlo hCW hrwo hblo HLI HB2 HR0 HR1 HB HCK;generalize w2.heap.size=bo at HCW ⊢;obtain⟨bp,bcap,hbe,-,hbl,hbc⟩:=(J HD).bs.ones;injection hbe with e1 _ _;subst e1;have HBC:=O hbc;have HEA:=O (J HD).each;have HACC:=O (Zok T P own fn.blocks (J HOK).len);have hlen:=(J HOK).len;have HLEN:=O hlen;clear hbc hlen hbl;go_wp2;clear p0 c4;go_loopw [28,7] (fun sk sv w'=>∃(k:Nat) (v:Value),sk=.int .i64 k∧sv=v∧k<=fn.blocks.length∧LyO w' W.heap.size v T (Sv T P own fn.blocks k)∧ClW w T (some ⟨sb,so,none⟩) pe cf ce P own oq oc bo W w') (fun sk _ _=>fn.blocks.length-(intOf sk).toNat)
 case atStart=>exact⟨0,_,rfl,rfl,by omega,⟨[],by simp [Sv],fun x hx=>(by cases hx),World.ownsRow_nil _ _ _ _⟩,J HCW⟩
 case round =>
  clear HCW;obtain⟨k,v0,rfl,rfl,hk,hly,hcw⟩:=hrel;obtain⟨vp,vc,rfl⟩:=hly.form;by_cases hk2:k<fn.blocks.length
  ·obtain⟨bb,bo2,hbp,hbcell⟩:=J HBC (by omega);subst hbp;have hbk:=(hcw.all.cell (p:=⟨bb,bo2+k,none⟩) (World.block_lt_of_cell? w _ (hbcell k hk2))).trans (hbcell k hk2);obtain⟨IA,hIL,hIE⟩:=J HEA k hk2;obtain⟨ip,ic,hBk⟩:=hIL.shape;rw [hBk] at hbk hIL;have hnl:=hIL;obtain⟨ip',ic',hie,-,hin,hicell⟩:=hnl;injection hie with e1 _ _;subst e1;have hbe:fn.blocks.getD k []=fn.blocks[k]:=Lx _ _ _ hk2;have HLY:=O hly;have HCW:=O hcw;have HIC:=O hicell;have HIE:=O hIE;have hin':(fn.blocks[k]).length<9223372036854775808:=hin;have hlk:=J HLEN k hk2;rw [hbe] at hlk;have HBE:=O hbe;clear hly hcw hicell hIE hIL hbcell hBk hbe hin;generalize fn.blocks[k]=bk at hbk hin' hlk HBE HIC HIE;go_wp2;clear hbk;go_loopw [34,7] (fun sj sv w'=>∃(j:Nat) (v:Value),sj=.int .i64 j∧sv=v∧j<=bk.length∧LyO w' W.heap.size v T (Uc T P own fn.blocks k j)∧ClW w T (some ⟨sb,so,none⟩) pe cf ce P own oq oc bo W w') (fun sj _ _=>bk.length-(intOf sj).toNat)
   case atStart=>exact⟨0,_,rfl,rfl,by omega,by rw [Zfs]; exact J HLY,J HCW⟩
   case round =>
    clear HLY HCW;obtain⟨j,v1,rfl,rfl,hj,hly,hcw⟩:=hrel;obtain⟨vp1,vc1,rfl⟩:=hly.form;by_cases hj2:j<bk.length
    ·have hbc:=J HIC (by omega);obtain⟨isb,iso,hip,hisb,hicell⟩:=hbc;subst hip;have hrg:=hicell j hj2;obtain⟨xav,xov,hIA,hxa,hxo⟩:=J HIE j hj2;obtain⟨xap,xac,hxa2⟩:=hxa.shape;obtain⟨xop,xoc,hxo2⟩:=hxo.shape;subst hxa2 hxo2;rw [hIA] at hrg;have hge:bk.getD j Jo=bk[j]:=Lx _ _ _ hj2;have HFI:=O ((J HOK).f k j hk2 (by rw [J HBE]; exact hj2));have HEI:=O ((J HOK).e k j hk2 (by rw [J HBE]; exact hj2));have HSI:=O (fun s=>(J HOK).s k j s hk2 (by rw [J HBE]; exact hj2));have HNX:=O (Zqy T P own fn.blocks k j (by rw [J HBE]; exact hj2));rw [J HBE,hge] at HFI HEI HSI HNX;have hacc:=J HACC k j hk (fun _=>by rw [J HBE]; exact hj) (fun h=>by omega);clear hge hIA hxa hxo hicell;generalize bk[j]=i at hrg HFI HEI HSI HNX;have hlc:=hcw.all;have d0:=(hlc.cell (p:=⟨isb,iso+j*8+0,none⟩) hisb).trans (hrg 0 _ rfl);have d1:=(hlc.cell (p:=⟨isb,iso+j*8+1,none⟩) hisb).trans (hrg 1 _ rfl);have d2:=(hlc.cell (p:=⟨isb,iso+j*8+2,none⟩) hisb).trans (hrg 2 _ rfl);have d3:=(hlc.cell (p:=⟨isb,iso+j*8+3,none⟩) hisb).trans (hrg 3 _ rfl);have d4:=(hlc.cell (p:=⟨isb,iso+j*8+4,none⟩) hisb).trans (hrg 4 _ rfl);have d5:=(hlc.cell (p:=⟨isb,iso+j*8+5,none⟩) hisb).trans (hrg 5 _ rfl);have d6:=(hlc.cell (p:=⟨isb,iso+j*8+6,none⟩) hisb).trans (hrg 6 _ rfl);have d7:=(hlc.cell (p:=⟨isb,iso+j*8+7,none⟩) hisb).trans (hrg 7 _ rfl);rw [Nat.add_zero] at d0;have HLYR:=O hly;have HCWR:=O hcw
     clear hly hcw hrg hlc;obtain⟨xan,hxan⟩:∃ n,n=i.args.length:=⟨_,rfl⟩;obtain⟨xon,hxon⟩:∃ n,n=i.outs.length:=⟨_,rfl⟩;rw [← hxan] at d6;rw [← hxon] at d7;clear hxan hxon;have hali:=al0 wr (.cells #[.int .i64 0,.int .i64 0,.int .i64 0,.int .i64 0,.int .u64 0,.int .i64 0,.slice none 0 0,.slice none 0 0] 110 (0,0));have HALi:=O hali;clear hali;go_upto_region 9 with(refine wpList_store_row rfl 110 _ _ rfl wr.heap.size #[.int .i64 i.op,.int .i64 i.d,.int .i64 i.a,.int .i64 i.bb,.int .u64 i.n,.int .i64 i.f,.slice xap xan xac,.slice xop xon xoc] rfl rfl 110 _ (J HALi).1 (Tryz.infInsF.trans rfl) rfl (by simp [Value.oneCell']) ?_)
     have hrwi:=setRow_heap _ _ _ #[.int .i64 i.op,.int .i64 i.d,.int .i64 i.a,.int .i64 i.bb,.int .u64 i.n,.int .i64 i.f,.slice xap xan xac,.slice xop xon xoc] _ _ (J HALi).1;have hbli:=Zg (T:=wr.heap.size) (cs:=#[.int .i64 i.op,.int .i64 i.d,.int .i64 i.a,.int .i64 i.bb,.int .u64 i.n,.int .i64 i.f,.slice xap xan xac,.slice xop xon xoc]) (J HALi).2.1 (Nat.le_refl _);clear HALi;generalize World.setRow (World.alloc wr _) _ _=V1 at hrwi hbli ⊢;clear d0 d1 d2 d3 d4 d5 d6 d7;have hCW1:=(J HCWR).next hbli;have HCW1:=O hCW1;have HLY1:=O ((J HLYR).below hbli);have hzi:=Zi hrwi;have HRWI:=O hrwi;generalize wr.heap.size=bi at hrwi HRWI hzi ⊢;have hp1:=hCW1.row hCW1.r1;have p0:=cR hp1 0;have p1:=cR hp1 1;obtain⟨x0,x1,x2,x3,x4,x5,x6,x7⟩:=cT8 hrwi;clear hp1 hrwi hbli HCWR HLYR;have HCAL:=O (Zty P i _ _ _ _ A E V1 ((J HP).below hCW1.all) (J HFI) (J HEI) (J HPP) ⟨xap,xan,xac,rfl⟩ ⟨xop,xon,xoc,rfl⟩);clear hCW1;go_wp2_with fail
     clear p0 p1 x0 x1 x2 x3 x4 x5 x6 x7;refine(J HCAL).mono ?_;rintro e w3 ⟨lv3,rfl,hli3,hb3⟩;obtain⟨lp,lc,rfl⟩:=hli3.shape;have hz3:=hb3.size;have HCW3:=O ((J HCW1).next hb3);have HLY3:=O ((J HLY1).below hb3);have HRWI3:=O ((hb3.block bi (by omega)).trans (J HRWI));have HLI3:=O hli3;clear hli3 hb3 HCAL HCW1 HLY1 HRWI;cases hsg:My P i with
     | none =>
      have HX:=O (show Uc T P own fn.blocks k (j+1)=Uc T P own fn.blocks k j by rw [J HNX]; unfold Cc; rw [hsg]; simp);clear hsg HLI3;simp only [Option.getD_none,Option.isSome_none,List.length_nil];have hals:=al0 w3 (.cells #[.slice none 0 0,.int .i64 0] 43 (0,0));have HALs:=O hals;clear hals;go_upto_region 10 with(refine wpList_store_row rfl 43 _ _ rfl w3.heap.size #[.slice lp 0 lc,.int .i64 0] rfl rfl 43 _ (J HALs).1 (Tryz.infSigK.trans rfl) rfl (by simp [Value.oneCell']) ?_)
      have hrws:=setRow_heap _ _ _ #[.slice lp 0 lc,.int .i64 0] _ _ (J HALs).1;have hbls:=Zg (T:=w3.heap.size) (cs:=#[.slice lp 0 lc,.int .i64 0]) (J HALs).2.1 (Nat.le_refl _);clear HALs;generalize World.setRow (World.alloc w3 _) _ _=V4 at hrws hbls ⊢;have HLY4:=O ((J HLY3).below hbls);have HCW4:=O ((J HCW3).next hbls);clear hrws hbls;go_wp2;go_roundw
      case rel=>exact⟨j+1,_,by go_num,rfl,by omega,by rw [J HX]; exact J HLY4,J HCW4⟩
      case measure=>simp [intOf]; omega
     | some s =>
      have HRE:=O (show Cc T P own i=if (decide (i.op=17)&&Cb T own s)=true then none else some s by unfold Cc; rw [hsg]);have hso:=J HSI s hsg;rw [hsg] at HLI3;clear hsg;simp only [Option.getD_some,Option.isSome_some] at HLI3 ⊢;have hals:=al0 w3 (.cells #[.slice none 0 0,.int .i64 0] 43 (0,0));have HALs:=O hals;clear hals;go_upto_region 10 with(refine wpList_store_row rfl 43 _ _ rfl w3.heap.size #[.slice lp s.1.length lc,.int .i64 s.2] rfl rfl 43 _ (J HALs).1 (Tryz.infSigK.trans rfl) rfl (by simp [Value.oneCell']) ?_)
      have hrws:=setRow_heap _ _ _ #[.slice lp s.1.length lc,.int .i64 s.2] _ _ (J HALs).1;have hbls:=Zg (T:=w3.heap.size) (cs:=#[.slice lp s.1.length lc,.int .i64 s.2]) (J HALs).2.1 (Nat.le_refl _);clear HALs;generalize World.setRow (World.alloc w3 _) _ _=V4 at hrws hbls ⊢;have hCW4:=(J HCW3).next hbls;have HCW4:=O hCW4;have HLY4:=O ((J HLY3).below hbls);have HLS4:=O (show Dr s∧Li V4 (.slice lp s.1.length lc) s.1 from⟨hso,(J HLI3).below hbls⟩);have hrwi4:=(hbls.block bi (by omega)).trans (J HRWI3);have hzs:=Zi hrws;have HRS4:=O hrws;have HOO:=O (show Dr own by rw [J HOWN]; exact(J HOK).own);clear hbls HLI3 HCW3 HLY3 HRWI3 hso;generalize w3.heap.size=bs at hrws HRS4 hzs ⊢;by_cases h17:i.op=17
      ·have z17:(i.op==17)=true:=by simp [h17]
       have hq0:=hCW4.row hCW4.r0;have hqo:=hCW4.row hCW4.ro;have x0:=cR hrwi4 0;obtain⟨t0,t1,t2,t3,t4,t5,t6,t7,t8,t9,t10,t11⟩:=cT12 hq0;have o0:=cR hqo 0;have o1:=cR hqo 1;have g0:=cR hrws 0;have g1:=cR hrws 1;have HJC:=O (J HJF V4 hCW4.all ⟨J HOO,hCW4.lo.below hCW4.low⟩ (J HLS4));have h17':=O h17;clear hq0 hqo hrwi4 hrws hCW4 h17;go_wp2_with fail
       clear x0 o0 o1 g0 g1;clear t0 t1 t2 t3 t4 t5 t6 t7 t8 t9 t10 t11;refine(J HJC).mono ?_;rintro e w5 ⟨rfl,hb5⟩;have hz5:=hb5.size;have HCW5:=O ((J HCW4).next hb5);have HLY5:=O ((J HLY4).below hb5);have HLS5:=O (show Dr s∧Li w5 (.slice lp s.1.length lc) s.1 from⟨(J HLS4).1,(J HLS4).2.below hb5⟩);have HRS5:=O ((hb5.block bs (by omega)).trans (J HRS4));clear hb5 HCW4 HLY4 HLS4 HRS4 HJC;cases hjb:Cb T own s with
       | true =>
        have HX:=O (show Uc T P own fn.blocks k (j+1)=Uc T P own fn.blocks k j by rw [J HNX,J HRE,hjb,decide_eq_true (J h17')]; simp);clear hjb;go_wp2;go_roundw
        case rel=>exact⟨j+1,_,by go_num,rfl,by omega,by rw [J HX]; exact J HLY5,J HCW5⟩
        case measure=>simp [intOf]; omega
       | false =>
        have HRL:=O (show Uc T P own fn.blocks k (j+1)=Uc T P own fn.blocks k j++[s] by rw [J HNX,J HRE,hjb]; simp);clear hjb;have hq0:=(J HCW5).row (J HCW5).r0;have hqs:=J HRS5;obtain⟨t0,t1,t2,t3,t4,t5,t6,t7,t8,t9,t10,t11⟩:=cT12 hq0;have g0:=cR hqs 0;have g1:=cR hqs 1;clear hq0 hqs;go_wp2_with fail
        clear t0 t1 t2 t3 t4 t5 t6 t7 t8 t9 t10 t11;clear g0 g1;refine(J HOF w5 (J HCW5).all (J HLS5)).mono ?_;rintro e w6 ⟨av6,rv6,pvs6,rfl,hlay6,hb6⟩;obtain⟨⟨ap6,an6,ac6,rfl⟩,rp6,rn6,rc6,rfl⟩:=Zua hlay6;have hz6:=hb6.size;have hP6:=(J HCW5).next hb6;have hz7:=hP6.low.size;have HP6:=O hP6;have HLY6:=O ((J HLY5).below hb6);clear hlay6 hb6 hP6;obtain⟨vs6,hvl6,hvo6,how6⟩:=J HLY6;have HVO:=O hvo6;have HOW6:=O how6;have HVL:=O hvl6;clear how6 hvl6 hvo6;obtain⟨lt6,hlt6⟩:∃ lt6,lt6=Gb T s:=⟨_,rfl⟩;rw [← hlt6];have HLT6:=O hlt6.symm;clear hlt6;go_wp2_with (at_builtin; refine wpList_append_own _ rfl _ _ 235 rfl W.heap.size 47 ti _ 4 64 Tryz.underlying235 hti hty0 hty1 hty2 rfl (by decide) _ _ _ rfl (World.ownsRow.alloc (J HOW6) _) ⟨w6.heap.size,0,none⟩ 1 1 [.slice ap6 an6 ac6,.slice rp6 rn6 rc6,.int .i64 lt6.size,.int .i64 lt6.copies] rfl rfl (by intro j u hj; match j,hj with | 0,hj=>(simp at hj; subst hj; simp [Addr.add]) | 1,hj=>(simp at hj; subst hj; simp [Addr.add]) | 2,hj=>(simp at hj; subst hj; simp [Addr.add]) | 3,hj=>(simp at hj; subst hj; simp [Addr.add])) (by intro u hu; simp at hu; rcases hu with rfl | rfl | rfl | rfl <;> rfl) ?c35 ?c45 ?c55 ?_)
        case c35=>unfold maxLen; omega
        case c45=>omega
        case c55=>first | omega | (simp; omega)
        intro v7 w7 hown7 hgr7 _;obtain⟨gg7,cc7,rfl⟩:=Ra hown7;have hal:=al0 w6 (.cells #[.slice ap6 an6 ac6,.slice rp6 rn6 rc6,.int .i64 lt6.size,.int .i64 lt6.copies] 47 (0,0));have HX:=O (show LyO w7 W.heap.size (.slice (some ⟨gg7,0,none⟩) ((Uc T P own fn.blocks k j).length+1) cc7) T (Uc T P own fn.blocks k (j+1)) by rw [J HRL];refine⟨vs6++[(.slice ap6 an6 ac6,.slice rp6 rn6 rc6)],by simp [J HVL],fun x hx=>(by rcases List.mem_append.1 hx with h | h; exact J HVO x h; simp at h; subst h; exact⟨rfl,rfl⟩),?_⟩;rw [List.map_append,List.map_cons,List.map_nil,Zjg _ _ _ _ (by simp [J HVL]),List.length_append,J HLT6];exact hown7)
        have HPX:=O (show ClW w T (some ⟨sb,so,none⟩) pe cf ce P own oq oc bo W w7 from⟨⟨hgr7.os.trans (hal.2.1.os.trans (J HP6).low.os),hgr7.tape.trans (hal.2.1.tape.trans (J HP6).low.tape),hgr7.output.trans (hal.2.1.output.trans (J HP6).low.output),by have:=hgr7.size; rw [hal.2.2] at this; omega,fun q hq=>(hgr7.block q (by rw [hal.2.2]; omega) (fun e=>by have:=((J HOW6).lt q e.symm).1; omega)).trans ((hal.2.1.block q (by omega)).trans ((J HP6).low.block q hq))⟩,(J HP6).r0,(J HP6).r1,(J HP6).ro,(J HP6).lw,(J HP6).lo⟩);clear hown7 hgr7 hal HOW6 HP6 HLY6;go_wp2;go_roundw
        case rel=>exact⟨j+1,_,by go_num,rfl,by omega,J HX,J HPX⟩
        case measure=>simp [intOf]; omega
      ·have z17:(i.op==17)=false:=by simp [h17]
       have HRL:=O (show Uc T P own fn.blocks k (j+1)=Uc T P own fn.blocks k j++[s] by rw [J HNX,J HRE,decide_eq_false h17]; simp);have x0:=cR hrwi4 0;clear h17 hrwi4 hrws hCW4;have hq0:=(J HCW4).row (J HCW4).r0;have hqs:=J HRS4;obtain⟨t0,t1,t2,t3,t4,t5,t6,t7,t8,t9,t10,t11⟩:=cT12 hq0;have g0:=cR hqs 0;have g1:=cR hqs 1;clear hq0 hqs;go_wp2_with fail
       clear t0 t1 t2 t3 t4 t5 t6 t7 t8 t9 t10 t11;clear g0 g1;refine(J HOF V4 (J HCW4).all (J HLS4)).mono ?_;rintro e w6 ⟨av6,rv6,pvs6,rfl,hlay6,hb6⟩;obtain⟨⟨ap6,an6,ac6,rfl⟩,rp6,rn6,rc6,rfl⟩:=Zua hlay6;have hz6:=hb6.size;have hP6:=(J HCW4).next hb6;have hz7:=hP6.low.size;have HP6:=O hP6;have HLY6:=O ((J HLY4).below hb6);clear hlay6 hb6 hP6;obtain⟨vs6,hvl6,hvo6,how6⟩:=J HLY6;have HVO:=O hvo6;have HOW6:=O how6;have HVL:=O hvl6;clear how6 hvl6 hvo6;obtain⟨lt6,hlt6⟩:∃ lt6,lt6=Gb T s:=⟨_,rfl⟩;rw [← hlt6];have HLT6:=O hlt6.symm;clear hlt6;go_wp2_with (at_builtin; refine wpList_append_own _ rfl _ _ 235 rfl W.heap.size 47 ti _ 4 64 Tryz.underlying235 hti hty0 hty1 hty2 rfl (by decide) _ _ _ rfl (World.ownsRow.alloc (J HOW6) _) ⟨w6.heap.size,0,none⟩ 1 1 [.slice ap6 an6 ac6,.slice rp6 rn6 rc6,.int .i64 lt6.size,.int .i64 lt6.copies] rfl rfl (by intro j u hj; match j,hj with | 0,hj=>(simp at hj; subst hj; simp [Addr.add]) | 1,hj=>(simp at hj; subst hj; simp [Addr.add]) | 2,hj=>(simp at hj; subst hj; simp [Addr.add]) | 3,hj=>(simp at hj; subst hj; simp [Addr.add])) (by intro u hu; simp at hu; rcases hu with rfl | rfl | rfl | rfl <;> rfl) ?c34 ?c44 ?c54 ?_)
       case c34=>unfold maxLen; omega
       case c44=>omega
       case c54=>first | omega | (simp; omega)
       intro v7 w7 hown7 hgr7 _;obtain⟨gg7,cc7,rfl⟩:=Ra hown7;have hal:=al0 w6 (.cells #[.slice ap6 an6 ac6,.slice rp6 rn6 rc6,.int .i64 lt6.size,.int .i64 lt6.copies] 47 (0,0));have HX:=O (show LyO w7 W.heap.size (.slice (some ⟨gg7,0,none⟩) ((Uc T P own fn.blocks k j).length+1) cc7) T (Uc T P own fn.blocks k (j+1)) by rw [J HRL];refine⟨vs6++[(.slice ap6 an6 ac6,.slice rp6 rn6 rc6)],by simp [J HVL],fun x hx=>(by rcases List.mem_append.1 hx with h | h; exact J HVO x h; simp at h; subst h; exact⟨rfl,rfl⟩),?_⟩;rw [List.map_append,List.map_cons,List.map_nil,Zjg _ _ _ _ (by simp [J HVL]),List.length_append,J HLT6];exact hown7)
       have HPX:=O (show ClW w T (some ⟨sb,so,none⟩) pe cf ce P own oq oc bo W w7 from⟨⟨hgr7.os.trans (hal.2.1.os.trans (J HP6).low.os),hgr7.tape.trans (hal.2.1.tape.trans (J HP6).low.tape),hgr7.output.trans (hal.2.1.output.trans (J HP6).low.output),by have:=hgr7.size; rw [hal.2.2] at this; omega,fun q hq=>(hgr7.block q (by rw [hal.2.2]; omega) (fun e=>by have:=((J HOW6).lt q e.symm).1; omega)).trans ((hal.2.1.block q (by omega)).trans ((J HP6).low.block q hq))⟩,(J HP6).r0,(J HP6).r1,(J HP6).ro,(J HP6).lw,(J HP6).lo⟩);clear hown7 hgr7 hal HOW6 HP6 HLY6;go_wp2;go_roundw
       case rel=>exact⟨j+1,_,by go_num,rfl,by omega,J HX,J HPX⟩
       case measure=>simp [intOf]; omega
    ·obtain rfl:j=bk.length:=by omega
     have HX:=O (show LyO wr W.heap.size _ T (Sv T P own fn.blocks (k+1)) by rw [← Zft T P own fn.blocks k hk2,J HBE]; exact hly);have HCW:=O hcw;clear hly hcw;go_wp2;go_roundw
     case rel=>exact⟨k+1,_,by go_num,rfl,by omega,J HX,J HCW⟩
     case measure=>simp [intOf]; omega
  ·obtain rfl:k=fn.blocks.length:=by omega
   have HLY:=O hly;have HCW:=O hcw;clear hly hcw;go_wp2;go_ret;obtain⟨vs,hv1,hv3,hv2⟩:=J HLY;exact⟨_,rfl,by rw [← J HOWN]; exact⟨vs,hv1,hv3,Xr hv2 hzW⟩,(J HCW).all⟩
set_option maxHeartbeats 4000000
set_option maxRecDepth 100000
def Dq (ss hs:List Int)(k:Nat):List Int:=((List.range k).filter fun r:Nat=>decide ((r:Int) ∈ ss)&&decide ((r:Int) ∈ hs)).map fun r:Nat=>(r:Int)
theorem Zqt (ss hs:List Int)(k:Nat):Dq ss hs (k+1)=Dq ss hs k++(if (decide ((k:Int) ∈ ss)&&decide ((k:Int) ∈ hs))=true then [(k:Int)] else []):=by
 unfold Dq;rw [List.range_succ,List.filter_append,List.map_append];congr 1
 simp only [List.filter_cons,List.filter_nil];split <;> rfl
theorem Zda (ss hs:List Int)(k:Nat):(Dq ss hs k).length<=k:=by unfold Dq;rw [List.length_map];have:=List.length_filter_le (fun r:Nat=>decide ((r:Int) ∈ ss)&&decide ((r:Int) ∈ hs)) (List.range k);simpa using this
theorem Yr {w:World}{B e size n:Nat}{v:Value}{xs:List Value}(h:w.ownsRow B e size v n xs):∃ p c,v=.slice p n c:=by
 rcases h.2 with⟨e,e0⟩ | ⟨g,cap,cur,e,-⟩
 ·exact⟨none,0,by rw [e0]; exact e⟩
 ·exact⟨_,_,e⟩
theorem Zol (ns:List Int)(x:Int):iC (ns++[x])=iC ns++[.int .i64 x]:=by simp [iC]
theorem Zyx (T:Yc)(fn:Zj)(pv hv sv bv:Value)(w:World)(hT:TbO w T)(hh:Li w hv fn.homes)(hr0:0<=T.r)(hr1:T.r<=16)(hs:T.ss.length<=1000000)(hhl:fn.homes.length<=1000000)(hpv:∃ p n c,pv=.slice p n c)(hsv:∃ p n c,sv=.slice p n c)(hbv:∃ p n c,bv=.slice p n c) :
 Calls Tryz.prog 150 #[.agg T.box,.agg #[pv,.int .i64 fn.results,hv,sv,bv]] w fun e w'=>∃ v,e=.returned v∧w'.ownsRow w.heap.size 3 1 v (Dq T.ss fn.homes T.r.toNat).length (iC (Dq T.ss fn.homes T.r.toNat))∧Below w.heap.size w w':=by
 obtain⟨ti,hti,hty0,hty1,hty2⟩:=Gy Tryz.infoInt;obtain⟨p1,n1,c1,rfl⟩:=hpv;obtain⟨p2,n2,c2,rfl⟩:=hsv;obtain⟨p3,n3,c3,rfl⟩:=hbv;obtain⟨hp,hc,rfl⟩:=hh.shape;obtain⟨r0,r1,hZ,hB⟩:=Zma w (.cells T.box 25 (0,0)) (.cells #[.slice p1 n1 c1,.int .i64 fn.results,.slice hp fn.homes.length hc,.slice p2 n2 c2,.slice p3 n3 c3] 71 (0,0));have HH:=O hh;have HT:=O hT;have HR0:=O r0;have HR1:=O r1;have HB:=O hB;obtain⟨R,hR⟩:=Int.eq_ofNat_of_zero_le hr0;clear hT hh r0 r1 hB;unfold Yc.box at HR0 HR1 HB hZ ⊢;rw [hR] at HR0 HR1 HB hZ hr1 ⊢;have hR16:R<=16:=by omega
 rw [Int.toNat_natCast];go_enter Tryz.func150,Tryz.ntmps150
 go_wp2_with fail
 generalize World.alloc (World.alloc w _) _=W at HR0 HR1 HB hZ ⊢;go_loopw [9,5] (fun sr sv w'=>∃(r:Nat) (v:Value),sr=.int .i64 r∧sv=v∧r<=R∧w'.ownsRow W.heap.size 3 1 v (Dq T.ss fn.homes r).length (iC (Dq T.ss fn.homes r))∧Below W.heap.size W w') (fun sr _ _=>R-(intOf sr).toNat)
 case atStart=>exact⟨0,_,rfl,rfl,by omega,World.ownsRow_nil _ _ _ _,Below.refl _ _⟩
 case round =>
  obtain⟨r,v0,rfl,rfl,hr,how,hbw⟩:=hrel;obtain⟨vp,vc,rfl⟩:=Yr how;have hzw:=hbw.size;have HOW:=O how;have HBW:=O hbw;by_cases hr2:r<R
  ·have s7:=cR ((hbw.block _ (by omega)).trans (J HR0)) 7;have h2:=cR ((hbw.block _ (by omega)).trans (J HR1)) 2;have hbel:Below w.heap.size w wr:=Zc (J HB) hbw (by omega);have HC1:=O (Mb T.ss r _ wr ((J HT).below hbel).s.rs hs);have HC2:=O (Mb fn.homes r _ wr ((J HH).below hbel).rs hhl);have HNX:=O (Zqt T.ss fn.homes r);have hsl:=Zda T.ss fn.homes r;clear how hbw hbel;go_wp2_with fail
   refine(J HC1).mono ?_;rintro e w1 ⟨rfl,hw1⟩;subst hw1;obtain⟨b1,hb1⟩:∃ b,b=decide ((r:Int) ∈ T.ss):=⟨_,rfl⟩;rw [← hb1] at HNX ⊢;clear hb1 HC1;cases b1 with
   | false =>
    have HX:=O (show w1.ownsRow W.heap.size 3 1 (.slice vp (Dq T.ss fn.homes r).length vc) (Dq T.ss fn.homes (r+1)).length (iC (Dq T.ss fn.homes (r+1))) by rw [J HNX]; simp; exact J HOW);go_wp2;go_roundw
    case rel=>exact⟨r+1,_,by go_num,rfl,by omega,J HX,J HBW⟩
    case measure=>simp [intOf]; omega
   | true =>
    go_wp2_with fail
    refine(J HC2).mono ?_;rintro e w2 ⟨rfl,hw2⟩;subst hw2;obtain⟨b2,hb2⟩:∃ b,b=decide ((r:Int) ∈ fn.homes):=⟨_,rfl⟩;rw [← hb2] at HNX ⊢;clear hb2 HC2;cases b2 with
    | false =>
     have HX:=O (show w2.ownsRow W.heap.size 3 1 (.slice vp (Dq T.ss fn.homes r).length vc) (Dq T.ss fn.homes (r+1)).length (iC (Dq T.ss fn.homes (r+1))) by rw [J HNX]; simp; exact J HOW);go_wp2;go_roundw
     case rel=>exact⟨r+1,_,by go_num,rfl,by omega,J HX,J HBW⟩
     case measure=>simp [intOf]; omega
    | true =>
     clear s7 h2;go_wp2_with (at_builtin; refine wpList_append_own _ rfl _ _ 23 rfl W.heap.size 3 ti _ 1 8 Tryz.underlying23 hti hty0 hty1 hty2 rfl (by decide) _ _ _ rfl (World.ownsRow.alloc (J HOW) _) ⟨w2.heap.size,0,none⟩ 1 1 [.int .i64 r] rfl rfl (by intro j u hj; match j,hj with | 0,hj=>(simp at hj; subst hj; simp [Addr.add])) (by intro u hu; simp at hu; subst hu; rfl) ?c3 ?c4 ?c5 ?_)
     case c3=>unfold maxLen; omega
     case c4=>omega
     case c5=>first | omega | (simp; omega)
     intro v7 w7 hown7 hgr7 _;obtain⟨gg7,cc7,rfl⟩:=Kf hown7;have hal:=al0 w2 (.cells #[.int .i64 r] 3 (0,0));have hbw:=J HBW;have HX:=O (show w7.ownsRow W.heap.size 3 1 (.slice (some ⟨gg7,0,none⟩) ((Dq T.ss fn.homes r).length+1) cc7) (Dq T.ss fn.homes (r+1)).length (iC (Dq T.ss fn.homes (r+1))) by rw [J HNX]; simp only [Bool.and_self,if_true]; rw [Zol,List.length_append,hZ]; exact hown7);have HBX:=O (show Below W.heap.size W w7 from⟨hgr7.os.trans (hal.2.1.os.trans hbw.os),hgr7.tape.trans (hal.2.1.tape.trans hbw.tape),hgr7.output.trans (hal.2.1.output.trans hbw.output),by have:=hgr7.size; rw [hal.2.2] at this; omega,fun q hq=>(hgr7.block q (by rw [hal.2.2]; omega) (fun e=>by have:=((J HOW).lt q e.symm).1; omega)).trans ((hal.2.1.block q (by omega)).trans (hbw.block q hq))⟩);clear hown7 hgr7 hal hbw;go_wp2;go_roundw
     case rel=>exact⟨r+1,_,by go_num,rfl,by omega,J HX,J HBX⟩
     case measure=>simp [intOf]; omega
  ·obtain rfl:r=R:=by omega
   clear how hbw;go_wp2;go_ret;exact⟨_,rfl,Xr (J HOW) (by omega),Zc (J HB) (J HBW) (by omega)⟩
structure Ro where
 out:Int
 cop:Int
 cells:Int
 slots:List Int
 saves:List (Int×Int)
 link:Int
 size:Int
 in_:Int
def Nw (T:Yc)(ss:List (List Int×Int)):Int:=ss.foldl (fun m s=>max m (Gb T s).size) 0
def Uj (T:Yc)(ss:List (List Int×Int)):Int:=ss.foldl (fun m s=>max m (Gb T s).copies) 0
def Zap (ns:List Int)(k:Nat):Int:=(ns.take k).foldl (·+·) 0
theorem Zqw (T:Yc)(ss:List (List Int×Int))(k:Nat)(h:k<ss.length):Nw T (ss.take (k+1))=max (Nw T (ss.take k)) (Gb T (ss.getD k ([],0))).size:=by unfold Nw;rw [List.take_add_one,List.getElem?_eq_getElem h,List.foldl_append,Lx _ _ _ h];rfl
theorem Zqx (T:Yc)(ss:List (List Int×Int))(k:Nat)(h:k<ss.length):Uj T (ss.take (k+1))=max (Uj T (ss.take k)) (Gb T (ss.getD k ([],0))).copies:=by unfold Uj;rw [List.take_add_one,List.getElem?_eq_getElem h,List.foldl_append,Lx _ _ _ h];rfl
theorem Zaq (ns:List Int)(k:Nat)(h:k<ns.length):Zap ns (k+1)=Zap ns k+ns.getD k 0:=by unfold Zap;rw [List.take_add_one,List.getElem?_eq_getElem h,List.foldl_append,Lx _ _ _ h];rfl
def Zeu (T:Yc)(fn:Zj)(ss:List (List Int×Int)):Int:=Nw T ss+Uj T ss+8*(fn.homes.length:Int)
def Zbv (T:Yc)(fn:Zj)(ss:List (List Int×Int)):Int:=Zeu T fn ss+8*Zap fn.slots fn.slots.length
def Ua (T:Yc)(fn:Zj):List Int:=Dq T.ss fn.homes T.r.toNat
def Su (T:Yc)(fn:Zj)(ss:List (List Int×Int)):Int:=Zbv T fn ss+8*((Ua T fn).length:Int)
def Zbw (T:Yc)(ss:List (List Int×Int)):Bool:=decide (T.lk≠-1)&&decide (0<ss.length)
def Zmc (T:Yc)(fn:Zj)(ss:List (List Int×Int)):Int:=if Zbw T ss=true then Su T fn ss+8 else Su T fn ss
def Ub (T:Yc):Int:=if T.lk=-1 then 8 else 0
def inF (T:Yc)(fn:Zj)(ss:List (List Int×Int)):Int:=(Zmc T fn ss+Ub T+T.al-1) / T.al*T.al
def Cz (T:Yc)(fn:Zj)(ss:List (List Int×Int))(k:Nat):Int:=Zeu T fn ss+8*Zap fn.slots k
def svA (T:Yc)(fn:Zj)(ss:List (List Int×Int))(k:Nat):Int×Int:=((Ua T fn).getD k 0,Zbv T fn ss+8*(k:Int))
def Gt (T:Yc)(fn:Zj)(ss:List (List Int×Int)):Ro :=
 ⟨Nw T ss,Uj T ss,Nw T ss+Uj T ss,(List.range fn.slots.length).map (Cz T fn ss),(List.range (Ua T fn).length).map (svA T fn ss),if Zbw T ss=true then Su T fn ss else -1,inF T fn ss-Ub T,inF T fn ss⟩
theorem Zfr {T:Yc}{s:List Int×Int}(ht:Zjf T)(hs:Dr s):0<=(Gb T s).size∧(Gb T s).size<=1000∧0<=(Gb T s).copies∧(Gb T s).copies<=1000:=by have hok:=Zgo (L:=T.ag.length) (br:=T.br) (pr:=T.pairs) (sh:=T.sh) hs.n s.1.length (Nat.le_refl _);have h1:=hok.c0;have h2:=hok.c1;have h3:=hok.p0;have h4:=hok.p1;have h5:=ht.s0;have h6:=ht.s1;have h7:=hs.l;have h8:=hs.r0;have h9:=hs.r4;show 0<=Xg T.rs _ s.2.toNat∧Xg T.rs _ s.2.toNat<=1000∧0<=(Nm _ _ _ _ _ s.1.length).p∧(Nm _ _ _ _ _ s.1.length).p<=1000;unfold Xg;omega
theorem Zgw {T:Yc}(ht:Zjf T):∀(ss:List (List Int×Int)),(∀ s ∈ ss,Dr s)->∀ m:Int,0<=m->m<=1000->0<=ss.foldl (fun m s=>max m (Gb T s).size) m∧ss.foldl (fun m s=>max m (Gb T s).size) m<=1000
 | [],_,m,h0,h1=>⟨h0,h1⟩
 | s :: r,h,m,h0,h1=>by
  have hs:=Zfr ht (h s List.mem_cons_self);exact Zgw ht r (fun x hx=>h x (List.mem_cons_of_mem _ hx)) (max m (Gb T s).size) (by omega) (by omega)
theorem Zgx {T:Yc}(ht:Zjf T):∀(ss:List (List Int×Int)),(∀ s ∈ ss,Dr s)->∀ m:Int,0<=m->m<=1000->0<=ss.foldl (fun m s=>max m (Gb T s).copies) m∧ss.foldl (fun m s=>max m (Gb T s).copies) m<=1000
 | [],_,m,h0,h1=>⟨h0,h1⟩
 | s :: r,h,m,h0,h1=>by
  have hs:=Zfr ht (h s List.mem_cons_self);exact Zgx ht r (fun x hx=>h x (List.mem_cons_of_mem _ hx)) (max m (Gb T s).copies) (by omega) (by omega)
theorem Zon {ns:List Int}(h:∀ k,k<ns.length->0<=ns.getD k 0∧ns.getD k 0<=8):∀ k,k<=ns.length->0<=Zap ns k∧Zap ns k<=8*(k:Int)
 | 0,_=>by simp [Zap]
 | k+1,hk=>by
  have ih:=Zon h k (by omega);have hn:=h k (by omega);rw [Zaq ns k (by omega)];omega
structure Dw (W:World)(b:Nat)(o c ce:Int)(slv kv:Value)(lk sz i_:Int)(sl:List Int)(kp:List (Int×Int))(V:World):Prop where
 low:Below b W V
 row:V.heap[b]?=some (.cells #[.int .i64 o,.int .i64 c,.int .i64 ce,slv,kv,.int .i64 lk,.int .i64 sz,.int .i64 i_] 65 (0,0))
 sl:V.ownsRow (b+1) 3 1 slv sl.length (iC sl)
 kp:V.ownsRow (b+1) 72 2 kv kp.length (plC kp)
section
variable {W V V':World} {b:Nat} {o c ce lk sz i_:Int} {slv kv:Value} {sl:List Int} {kp:List (Int×Int)}
theorem Dw.size (h:Dw W b o c ce slv kv lk sz i_ sl kp V):b<V.heap.size:=Zi h.row
theorem Dw.next (h:Dw W b o c ce slv kv lk sz i_ sl kp V)(hb:Below V.heap.size V V'):Dw W b o c ce slv kv lk sz i_ sl kp V' :=
 ⟨Zc h.low hb (Nat.le_of_lt h.size),(hb.block b h.size).trans h.row,Xc h.sl (Jj (o:=none) hb) (fun g _ e=>by cases e),Xc h.kp (Jj (o:=none) hb) (fun g _ e=>by cases e)⟩
theorem Dw.low_set (h:Dw W b o c ce slv kv lk sz i_ sl kp V)(j:Nat)(v:Value):Below b W (V.setCell ⟨b,j,none⟩ v)∧(V.setCell ⟨b,j,none⟩ v).ownsRow (b+1) 3 1 slv sl.length (iC sl)∧(V.setCell ⟨b,j,none⟩ v).ownsRow (b+1) 72 2 kv kp.length (plC kp) :=
 ⟨⟨h.low.os,h.low.tape,h.low.output,by have:=h.low.size; simpa using this,fun q hq=>(heap_setCell_other _ _ _ _ (by show q≠b; omega)).trans (h.low.block q hq)⟩,ownsRow_setCell_below h.sl (a:=⟨b,j,none⟩) (by show b<b+1; omega) v,ownsRow_setCell_below h.kp (a:=⟨b,j,none⟩) (by show b<b+1; omega) v⟩
theorem Dw.s0 (h:Dw W b o c ce slv kv lk sz i_ sl kp V)(x:Int):Dw W b x c ce slv kv lk sz i_ sl kp (V.setCell ⟨b,0,none⟩ (.int .i64 x)):=⟨(h.low_set 0 _).1,heap_setCell_same _ _ 0 _ _ _ h.row,(h.low_set 0 _).2.1,(h.low_set 0 _).2.2⟩
theorem Dw.s1 (h:Dw W b o c ce slv kv lk sz i_ sl kp V)(x:Int):Dw W b o x ce slv kv lk sz i_ sl kp (V.setCell ⟨b,1,none⟩ (.int .i64 x)):=⟨(h.low_set 1 _).1,heap_setCell_same _ _ 1 _ _ _ h.row,(h.low_set 1 _).2.1,(h.low_set 1 _).2.2⟩
theorem Dw.s2 (h:Dw W b o c ce slv kv lk sz i_ sl kp V)(x:Int):Dw W b o c x slv kv lk sz i_ sl kp (V.setCell ⟨b,2,none⟩ (.int .i64 x)):=⟨(h.low_set 2 _).1,heap_setCell_same _ _ 2 _ _ _ h.row,(h.low_set 2 _).2.1,(h.low_set 2 _).2.2⟩
theorem Dw.s5 (h:Dw W b o c ce slv kv lk sz i_ sl kp V)(x:Int):Dw W b o c ce slv kv x sz i_ sl kp (V.setCell ⟨b,5,none⟩ (.int .i64 x)):=⟨(h.low_set 5 _).1,heap_setCell_same _ _ 5 _ _ _ h.row,(h.low_set 5 _).2.1,(h.low_set 5 _).2.2⟩
theorem Dw.s6 (h:Dw W b o c ce slv kv lk sz i_ sl kp V)(x:Int):Dw W b o c ce slv kv lk x i_ sl kp (V.setCell ⟨b,6,none⟩ (.int .i64 x)):=⟨(h.low_set 6 _).1,heap_setCell_same _ _ 6 _ _ _ h.row,(h.low_set 6 _).2.1,(h.low_set 6 _).2.2⟩
theorem Dw.s7 (h:Dw W b o c ce slv kv lk sz i_ sl kp V)(x:Int):Dw W b o c ce slv kv lk sz x sl kp (V.setCell ⟨b,7,none⟩ (.int .i64 x)):=⟨(h.low_set 7 _).1,heap_setCell_same _ _ 7 _ _ _ h.row,(h.low_set 7 _).2.1,(h.low_set 7 _).2.2⟩
theorem Zar {B B' n m size size':Nat}{e e':TypeId}{v v':Value}{xs ys:List Value}(h:V.ownsRow B e size v n xs)(h':V.ownsRow B' e' size' v' m ys)(hne:e≠e'):∀ g,v.ownBlock=some g->v'.ownBlock≠some g:=fun g hv hv'=>by
 rcases h.2 with⟨e1,-⟩ | ⟨g1,c1,cur1,e1,-,r1,-⟩
 ·rw [e1] at hv; cases hv
 ·rcases h'.2 with⟨e2,-⟩ | ⟨g2,c2,cur2,e2,-,r2,-⟩
  ·rw [e2] at hv'; cases hv'
  ·rw [e1] at hv;rw [e2] at hv';injection hv with hv;injection hv' with hv';simp only at hv hv';rw [hv] at r1;rw [hv'] at r2;rw [r1] at r2;injection r2 with r2;injection r2 with _ r2 _;exact hne r2
theorem Dw.low_app (h:Dw W b o c ce slv kv lk sz i_ sl kp V)(X:Obj){w7:World}{v:Value}{n size:Nat}{e:TypeId}{xs:List Value}(ho:V.ownsRow (b+1) e size v n xs)(hgr:(V.alloc X).grownBy w7 v.ownBlock):Below b W w7∧w7.heap[b]?=V.heap[b]?:=by have ha:=al0 V X;have hz:=h.size;have hl:=h.low.size;have h7:=hgr.size;rw [ha.2.2] at h7;have hq:∀ q,q<=b->w7.heap[q]?=V.heap[q]?:=fun q hq=>(hgr.block q (by rw [ha.2.2]; omega) (fun e=>by have:=(World.ownsRow.lt ho q e.symm).1; omega)).trans (ha.2.1.block q (by omega));exact⟨⟨hgr.os.trans (ha.2.1.os.trans h.low.os),hgr.tape.trans (ha.2.1.tape.trans h.low.tape),hgr.output.trans (ha.2.1.output.trans h.low.output),by omega,fun q h1=>(hq q (by omega)).trans (h.low.block q h1)⟩,hq b (Nat.le_refl _)⟩
theorem Dw.slot (h:Dw W b o c ce slv kv lk sz i_ sl kp V){w7:World}{v7:Value}{x:Int}(hgr:(V.alloc (.cells #[.int .i64 x] 3 (0,0))).grownBy w7 slv.ownBlock)(hown:w7.ownsRow (b+1) 3 1 v7 (sl.length+1) (iC sl++[.int .i64 x])):Dw W b o c ce v7 kv lk sz i_ (sl++[x]) kp (w7.setCell ⟨b,3,none⟩ v7):=by obtain⟨hl,hr⟩:=h.low_app _ h.sl hgr;have hk:w7.ownsRow (b+1) 72 2 kv kp.length (plC kp):=Xc (World.ownsRow.alloc h.kp _) hgr (Zar h.kp h.sl (by decide));refine⟨⟨hl.os,hl.tape,hl.output,by have:=hl.size; simpa using this,fun q hq=>(heap_setCell_other _ _ _ _ (by show q≠b; omega)).trans (hl.block q hq)⟩,heap_setCell_same _ _ 3 _ _ _ (hr.trans h.row),?_,ownsRow_setCell_below hk (a:=⟨b,3,none⟩) (by show b<b+1; omega) v7⟩;rw [Zol,List.length_append];exact ownsRow_setCell_below hown (a:=⟨b,3,none⟩) (by show b<b+1; omega) v7
theorem Dw.kept (h:Dw W b o c ce slv kv lk sz i_ sl kp V){w7:World}{v7:Value}{x y:Int}(hgr:(V.alloc (.cells #[.int .i64 x,.int .i64 y] 72 (0,0))).grownBy w7 kv.ownBlock)(hown:w7.ownsRow (b+1) 72 2 v7 (kp.length+1) (plC kp++[.int .i64 x,.int .i64 y])):Dw W b o c ce slv v7 lk sz i_ sl (kp++[(x,y)]) (w7.setCell ⟨b,4,none⟩ v7):=by obtain⟨hl,hr⟩:=h.low_app _ h.kp hgr;have hk:w7.ownsRow (b+1) 3 1 slv sl.length (iC sl):=Xc (World.ownsRow.alloc h.sl _) hgr (Zar h.sl h.kp (by decide));refine⟨⟨hl.os,hl.tape,hl.output,by have:=hl.size; simpa using this,fun q hq=>(heap_setCell_other _ _ _ _ (by show q≠b; omega)).trans (hl.block q hq)⟩,heap_setCell_same _ _ 4 _ _ _ (hr.trans h.row),ownsRow_setCell_below hk (a:=⟨b,4,none⟩) (by show b<b+1; omega) v7,?_⟩;rw [Ig,List.length_append];exact ownsRow_setCell_below hown (a:=⟨b,4,none⟩) (by show b<b+1; omega) v7
end
def Zmd:Cp:=⟨[],[],0,0⟩
theorem Zoo:∀(vs:List (Value×Value)) (ls:List Cp) (k:Nat),(∀ x ∈ vs,x.1.oneCell'=true∧x.2.oneCell'=true)->vs.length=ls.length->k<ls.length->∃ a r,a.oneCell'=true∧r.oneCell'=true∧(lyC vs ls)[k*4]?=some a∧(lyC vs ls)[k*4+1]?=some r∧(lyC vs ls)[k*4+2]?=some (.int .i64 (ls.getD k Zmd).size)∧(lyC vs ls)[k*4+3]?=some (.int .i64 (ls.getD k Zmd).copies)
 | [],[],_,_,_,hk=>absurd hk (by simp)
 | [],_ :: _,_,_,hl,_=>by simp at hl
 | _ :: _,[],_,_,hl,_=>by simp at hl
 | p :: pr,s :: sr,0,ho,_,_=>⟨p.1,p.2,(ho p List.mem_cons_self).1,(ho p List.mem_cons_self).2,rfl,rfl,rfl,rfl⟩
 | p :: pr,s :: sr,k+1,ho,hl,hk=>by
  obtain⟨a,r,o1,o2,h1,h2,h3,h4⟩:=Zoo pr sr k (fun x hx=>ho x (List.mem_cons_of_mem _ hx)) (by simpa using hl) (by simpa using hk);have e:lyC (p :: pr) (s :: sr)=[p.1,p.2,.int .i64 s.size,.int .i64 s.copies]++lyC pr sr:=rfl;have sh:∀ i,(lyC (p :: pr) (s :: sr))[(k+1)*4+i]?=(lyC pr sr)[k*4+i]?:=fun i=>by
   rw [e,List.getElem?_append_right (by simp; omega),show(k+1)*4+i-[p.1,p.2,Value.int .i64 s.size,.int .i64 s.copies].length=k*4+i by simp; omega]
  have s0:=sh 0;rw [Nat.add_zero,Nat.add_zero] at s0;exact⟨a,r,o1,o2,s0.trans h1,(sh 1).trans h2,(sh 2).trans (by rw [h3]; simp [List.getD]),(sh 3).trans (by rw [h4]; simp [List.getD])⟩
set_option maxHeartbeats 1000000
theorem Zuc (T:Yc)(w:World):Calls Tryz.prog 152 #[.agg #[.int .i64 T.r,.int .i64 T.sp,.int .i64 T.lk,.int .i64 T.t0,.int .i64 T.t1,.slice T.pa T.ag.length T.ca,.slice T.pr T.rs.length T.cr,.slice T.ps T.ss.length T.cs,.int .i64 T.al,.int .i64 T.sh,.int .i64 T.br,.bool T.pairs]] w fun e w'=>e=.returned (.int .i64 (Ub T))∧Below w.heap.size w w':=by
 have ha:=al0 w (.cells #[.int .i64 T.r,.int .i64 T.sp,.int .i64 T.lk,.int .i64 T.t0,.int .i64 T.t1,.slice T.pa T.ag.length T.ca,.slice T.pr T.rs.length T.cr,.slice T.ps T.ss.length T.cs,.int .i64 T.al,.int .i64 T.sh,.int .i64 T.br,.bool T.pairs] 25 (0,0));have HA:=O ha;clear ha;by_cases h:T.lk=-1
 ·have z:(T.lk==-1)=true:=by simp [h]
  have HP:=O (show Ub T=8 by unfold Ub; rw [if_pos h]);clear h;go_enter Tryz.func152,Tryz.ntmps152
  go_wp2;go_ret;exact⟨by rw [J HP]; rfl,(J HA).2.1⟩
 ·have z:(T.lk==-1)=false:=by simp [h]
  have HP:=O (show Ub T=0 by unfold Ub; rw [if_neg h]);clear h;go_enter Tryz.func152,Tryz.ntmps152
  go_wp2;go_ret;exact⟨by rw [J HP]; rfl,(J HA).2.1⟩
theorem Zqu (n a:Int)(w:World)(h0:0<=n)(h1:n<=1000000)(ha:1<=a)(hb:a<=1000):Calls Tryz.prog 151 #[.int .i64 n,.int .i64 a] w fun e w'=>e=.returned (.int .i64 ((n+a-1) / a*a))∧w'=w:=by
 have hq:Int.tdiv (n+a-1) a=(n+a-1) / a:=Int.tdiv_eq_ediv_of_nonneg (by omega);have hq0:0<=(n+a-1) / a:=Int.ediv_nonneg (by omega) (by omega);have hqm:(n+a-1) / a*a<=n+a-1:=Int.ediv_mul_le _ (by omega);have hq1:(n+a-1) / a<=n+a-1:=Int.ediv_le_self _ (by omega);have hqp:0<=(n+a-1) / a*a:=Int.mul_nonneg hq0 (by omega);have hne:(a==0)=false:=by simp; omega
 obtain⟨d,hd⟩:∃ d,d=(n+a-1) / a:=⟨_,rfl⟩;rw [← hd] at hq hq0 hqm hq1 hqp ⊢;clear hd;go_enter Tryz.func151,Tryz.ntmps151
 go_wp2;go_ret;exact⟨by simp [*],rfl⟩
section
variable {P:Program} {ops:Array Oper} {Q:Exit->Act->World->Prop} {md:Region.Mode} {S C1 C2:World->Prop} {d1 d2:Nat}
def Zev (P:Program)(md:Region.Mode)(ops:Array Oper)(Q:Exit->Act->World->Prop)(S C1 C2:World->Prop)(d1 d2:Nat):Nat->Array Bool->Act->World->Prop
 | 0,L,a,w=>Region.ready md ops L=[]∧Q .normal a w
 | n+1,L,a,w=>(Region.ready md ops L=[]->Q .normal a w)∧∀ i ∈ Region.ready md ops L,wpOp P ops Q i (fun a' w'=>(S w'∧((L.setIfInBounds i true).getD d1 true=false->C1 w')∧((L.setIfInBounds i true).getD d2 true=false->C2 w'))∧Zev P md ops Q S C1 C2 d1 d2 n (L.setIfInBounds i true) a' w') a w
theorem Zjh:∀(n:Nat) (L:Array Bool) (a:Act) (w:World),Zev P md ops Q S C1 C2 d1 d2 n L a w->wpAny P md ops Q n L a w
 | 0,_,_,_,h=>h
 | n+1,_,_,_,h=>⟨h.1,fun i hi=>wpOp_mono (fun a' w' h'=>Zjh n _ a' w' h'.2) (h.2 i hi)⟩
theorem Zuk {L:Array Bool}{i:Nat}{o:Oper}{e:Edge}(hr:i ∈ Region.ready md ops L)(ho:ops[i]?=some o)(he:e ∈ o.after)(hb:Region.binds md e=true)(hu:L.getD e.on true=false):False:=by
 obtain⟨-,o',ho',hall⟩:=mem_ready.1 hr;rw [ho] at ho';injection ho' with ho';subst ho';have k1:=hall e he hb;rcases Nat.lt_or_ge e.on L.size with h' | h'
 ·simp [h'] at hu k1;rw [hu] at k1;cases k1
 ·simp [Array.getElem?_eq_none h'] at k1
theorem Zmf {i:Nat}{oi:Oper}{v:Value}{b1 b2:Bool}(hi:ops[i]?=some oi)(h1:i≠d1)(h2:i≠d2)
 (w1:b1=true->∃ od,ops[d1]?=some od∧∃ e ∈ od.after,Region.binds md e=true∧e.on=i) (w2:b2=true->∃ od,ops[d2]?=some od∧∃ e ∈ od.after,Region.binds md e=true∧e.on=i)
 (hsel:∀(j:Nat) (o:Oper) cs b,ops[j]?=some o->o.op≠.select cs b) (hQ:∀ c a w,Q (.panic c) (a.put oi.dst v) w->Q (.panic c) a w) :
 ∀(n:Nat) (L:Array Bool) (a:Act) (w:World),(∀ j oj,ops[j]?=some oj->j≠i->L.getD j true=false->(∀ e ∈ oj.after,Region.binds md e=true->e.on≠i)->oi.apart ops oj=true) ->
  i ∈ Region.ready md ops L->YieldsIf P ops (fun w=>S w∧(b1=true->C1 w)∧(b2=true->C2 w)) oi v a->(b1=true->L.getD d1 true=false)->(b2=true->L.getD d2 true=false) ->
  (S w∧(L.getD d1 true=false->C1 w)∧(L.getD d2 true=false->C2 w))->Zev P md ops Q S C1 C2 d1 d2 n (L.setIfInBounds i true) (a.put oi.dst v) w->Zev P md ops Q S C1 C2 d1 d2 (n+1) L a w:=by
 have hput:∀(L:Array Bool) (w:World),(S w∧(L.getD d1 true=false->C1 w)∧(L.getD d2 true=false->C2 w))->(S w∧((L.setIfInBounds i true).getD d1 true=false->C1 w)∧((L.setIfInBounds i true).getD d2 true=false->C2 w)):=fun L w h=>by
  rw [getD_set_ne true h1,getD_set_ne true h2];exact h
 intro n;induction n with
 | zero =>
  intro L a w _ hr hy l1 l2 hC H;refine⟨fun h=>(by rw [h] at hr; cases hr),fun j hj=>?_⟩;by_cases hji:j=i
  ·subst hji;exact hy.wpOp hi ⟨hC.1,fun h=>hC.2.1 (l1 h),fun h=>hC.2.2 (l2 h)⟩ ⟨hput L w hC,H⟩
  ·have hx:=ready_mono hj hji;rw [H.1] at hx;cases hx
 | succ n ih =>
  intro L a w hfree hr hy l1 l2 hC H;refine⟨fun h=>(by rw [h] at hr; cases hr),fun j hj=>?_⟩;by_cases hji:j=i
  ·subst hji;exact hy.wpOp hi ⟨hC.1,fun h=>hC.2.1 (l1 h),fun h=>hC.2.2 (l2 h)⟩ ⟨hput L w hC,H⟩
  ·have k1:=H.2 j (ready_mono hj hji);obtain⟨hun,oj,hoj,hall⟩:=mem_ready.1 hj;have hiu:=(mem_ready.1 hr).1;have hnot:∀ e ∈ oj.after,Region.binds md e=true->e.on≠i:=fun e he hb hq=>Zuk hj hoj he hb (by rw [hq]; exact hiu);have hjd:∀{b:Bool} {d:Nat},(b=true->∃ od,ops[d]?=some od∧∃ e ∈ od.after,Region.binds md e=true∧e.on=i)->b=true->j≠d:=fun{b d} hw hb e=>by
    subst e;obtain⟨od,ho,e,he,hb',hq⟩:=hw hb;rw [hoj] at ho;injection ho with ho;subst ho;exact hnot e he hb' hq
   have h2':=wpOp_putIf hoj (hfree j oj hoj hji hun hnot) (fun cs b=>hsel i oi cs b hi) (fun cs b=>hsel j oj cs b hoj) hQ hy k1;refine wpOp_mono (fun a' w' h3=>?_) h2';have hC':S w'∧((L.setIfInBounds j true).getD d1 true=false->C1 w')∧((L.setIfInBounds j true).getD d2 true=false->C2 w'):=by have hx:=h3.2.1;rw [Array.setIfInBounds_comm _ _ (Ne.symm hji),getD_set_ne true h1,getD_set_ne true h2] at hx;exact hx
   refine⟨hC',ih (L.setIfInBounds j true) a' w' (fun k ok hk hki hku hno=>?_) (ready_mono hr (Ne.symm hji)) h3.1 (fun h=>by rw [getD_set_ne true (hjd w1 h)]; exact l1 h) (fun h=>by rw [getD_set_ne true (hjd w2 h)]; exact l2 h) hC' ?_⟩
   ·refine hfree k ok hk hki ?_ hno;by_cases hjk:j=k
    ·subst hjk; exact hun
    ·rw [getD_set_ne true hjk] at hku; exact hku
   ·rw [Array.setIfInBounds_comm _ _ hji];exact h3.2.2
theorem Gc {i:Nat}{oi o1 o2:Oper}{v:Value}(b1 b2:Bool){n:Nat}{L:Array Bool}{a:Act}{w:World}(hi:ops[i]?=some oi)(hd1:ops[d1]?=some o1)(hd2:ops[d2]?=some o2)(hn:(i != d1&&i != d2)=true)
 (hw1:(!b1||o1.after.any fun e=>Region.binds md e&&e.on==i)=true) (hw2:(!b2||o2.after.any fun e=>Region.binds md e&&e.on==i)=true)
 (hs:Region.noSelect ops=true) (hf:Region.free md ops L i=true) (hr:(Region.ready md ops L).contains i=true) (hL1:(!b1||!(L.getD d1 true))=true) (hL2:(!b2||!(L.getD d2 true))=true)
 (hQ:∀ c a w,Q (.panic c) (a.put oi.dst v) w->Q (.panic c) a w) (hy:YieldsIf P ops (fun w=>S w∧(b1=true->C1 w)∧(b2=true->C2 w)) oi v a) (hC:S w∧(L.getD d1 true=false->C1 w)∧(L.getD d2 true=false->C2 w))
 (h:Zev P md ops Q S C1 C2 d1 d2 n (L.setIfInBounds i true) (a.put oi.dst v) w):Zev P md ops Q S C1 C2 d1 d2 (n+1) L a w:=by
 have hne:i≠d1∧i≠d2:=by simpa using hn
 have key:∀{b:Bool} {o:Oper},(!b||o.after.any fun e=>Region.binds md e&&e.on==i)=true->b=true->∃ e ∈ o.after,Region.binds md e=true∧e.on=i:=fun{b o} hw hb=>by
  rw [hb] at hw;rw [Bool.not_true,Bool.false_or] at hw;obtain⟨k,hk,hq⟩:=Array.any_eq_true.1 hw;simp only [Bool.and_eq_true,beq_iff_eq] at hq;exact⟨_,Array.getElem_mem hk,hq.1,hq.2⟩
 exact Zmf hi hne.1 hne.2 (fun hb=>⟨o1,hd1,key hw1 hb⟩) (fun hb=>⟨o2,hd2,key hw2 hb⟩) (Region.noSelect_spec hs) hQ n L a w (Region.free_spec hi hf) (by simpa using hr) hy (fun hb=>by rw [hb] at hL1; simpa using hL1) (fun hb=>by rw [hb] at hL2; simpa using hL2) hC h
theorem Zdh {i:Nat}{o:Oper}{n:Nat}{L:Array Bool}{a:Act}{w:World}(hr:Region.ready md ops L=[i])(ho:ops[i]?=some o)
 (h:∀ K':Act->World->Prop,_root_.Go.Shut (∀ a w,(S w∧((L.setIfInBounds i true).getD d1 true=false->C1 w)∧((L.setIfInBounds i true).getD d2 true=false->C2 w))->Zev P md ops Q S C1 C2 d1 d2 n (L.setIfInBounds i true) a w->K' a w)->if Region.wanted o (yielded ops a.tmps)=true then Oper.wp P o a w K' Q else K' (a.put o.dst undef) w):Zev P md ops Q S C1 C2 d1 d2 (n+1) L a w:=by
 refine⟨fun h0=>(by rw [hr] at h0; cases h0),fun j hj=>?_⟩;rw [hr] at hj;obtain rfl:j=i:=by simpa using hj
 exact wpOp_step ho (fun K' hK=>h K' (fun a w h1 h2=>hK a w ⟨h1,h2⟩))
theorem Zra {L:Array Bool}{a:Act}{w:World}(hr:Region.ready md ops L=[])(h:Q .normal a w):∀ n,Zev P md ops Q S C1 C2 d1 d2 n L a w
 | 0=>⟨hr,h⟩
 | _+1=>⟨fun _=>h,by rw [hr]; simp⟩
theorem Zji {id:Nat}{a:Act}{w:World}(hm:P.follows .mixedOrders=true)(h:Zev P .any ops Q S C1 C2 d1 d2 ops.size (Array.replicate ops.size false) a w.drew):(Code.region id ops true).wp P Q a w :=
 wp_region_any hm (Zjh _ _ _ _ h)
end
end Go.Proofs.YtkenknfgeoecbaaGreatDoor
