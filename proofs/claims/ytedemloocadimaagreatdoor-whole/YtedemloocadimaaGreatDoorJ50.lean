import Derived.Test.YtedemloocadimaaGreatDoorJ24
import Derived.Test.YtedemloocadimaaGreatDoorJ47
import Derived.Test.YtedemloocadimaaGreatDoorJ49
import Derived.Test.YtedemloocadimaaGreatDoorJ40
import Derived.Test.YtedemloocadimaaGreatDoorFrF
import Derived.Test.YtedemloocadimaaGreatDoorJ32
namespace Go.Proofs.YtedemloocadimaaGreatDoor
open Go.RowKit
set_option maxHeartbeats 4000000
set_option maxRecDepth 100000
theorem Tryz.infOutP:(Tryz.prog.info? 47).map (·.size)=some 6:=by kernel_rfl
def Ny (l:List Int):Nat:=(l.map fun w=>if w=0 then 1 else w.toNat).foldr (·+·) 0
theorem Zrw (l:List (Int×Int)):Ny (l.map (·.1))=Mr l:=by
 unfold Ny Mr;rw [List.map_map];rfl
theorem Zrx (l m:List Int):Ny (l++m)=Ny l+Ny m:=by
 induction l with
 | nil=>simp [Ny]
 | cons a l ih =>
  show(if a=0 then 1 else a.toNat)+Ny (l++m)=(if a=0 then 1 else a.toNat)+Ny l+Ny m;omega
theorem Zdq (l:List Int)(k:Nat)(h:k<l.length):Ny (l.take (k+1))=Ny (l.take k)+(if l.getD k 0=0 then 1 else (l.getD k 0).toNat):=by
 rw [List.take_add_one,List.getElem?_eq_getElem h,Zrx,Gt l 0 k h];simp [Ny]
theorem Zjs (l:List Int)(h:∀ k,k<l.length→0≤l.getD k 0∧l.getD k 0≤8):∀ k,k≤l.length→Ny (l.take k)≤8*k
 | 0,_=>by simp [Ny]
 | k+1,hk=>by
  have ih:=Zjs l h k (by omega);have:=h k (by omega);rw [Zdq l k (by omega)];split <;> omega
theorem Zjt (v:Value)(ps:List Int)(res:Int)(w:World)(h:Li w v ps)(hl:ps.length≤8)(hp:∀ k,k<ps.length→0≤ps.getD k 0∧ps.getD k 0≤8) :
 Calls Tryz.prog 71 #[.agg #[v,.int .i64 res]] w fun e w'=>e=.returned (.int .i64 (Ny ps:Nat))∧Below w.heap.size w w':=by
 obtain⟨q,c,rfl⟩:=h.shape;obtain⟨r0,hb0,hz0⟩:=Gk w (.cells #[.slice q ps.length c,.int .i64 res] 59 (0,0));have HL:=Za (h.below hb0);have HB:=Za hb0;have HP:=Za hp;have HLE:=Za (Zjs ps hp);have c0:=cR r0 0;clear h r0 hb0 hz0 hp;go_enter Tryz.func71,Tryz.ntmps71
 go_upto_region 2 with fail
 generalize World.alloc w _=W at HL HB c0 ⊢;go_wp2_with fail
 go_loopw [9,3] (fun sk sn w'=>∃ k:Nat,sk=.int .i64 k∧sn=.int .i64 (Ny (ps.take k):Nat)∧k≤ps.length∧w'=W) (fun sk _ _=>ps.length-(intOf sk).toNat)
 case atStart=>exact⟨0,rfl,by simp [Ny],by omega,rfl⟩
 case round =>
  obtain⟨k,rfl,rfl,hk,hw⟩:=hrel;subst wr;by_cases hk2:k<ps.length
  ·
   obtain⟨p',c',e1,-,-,hcc⟩:=J HL;injection e1 with f1 f2 f3;obtain⟨sb,so,hsp,hcell⟩:=hcc (by omega);rw [← f1] at hsp;subst hsp;have d:=hcell k hk2;have hb:=J HP k hk2;have hle:=J HLE k hk;have HNX:=Za (Zdq ps k hk2);generalize Ny (ps.take k)=m at hle HNX ⊢;generalize ps.getD k 0=y at d hb HNX;clear f1 f2 f3 hcc hcell c0;by_cases hy:y=0
   ·
    subst hy;have HN2:=Za (show Ny (ps.take (k+1))=m+1 by rw [J HNX,if_pos rfl]);clear HNX hb;go_wp2;go_roundw
    case rel=>exact⟨k+1,by go_num,by rw [J HN2]; go_num,by omega,trivial⟩
    case measure=>simp [intOf]; omega
   ·
    obtain⟨z,rfl⟩:=Int.eq_ofNat_of_zero_le hb.1;have HN2:=Za (show Ny (ps.take (k+1))=m+z by rw [J HNX,if_neg hy,Int.toNat_natCast]);have hz1:(1:Int)≤(z:Int):=by omega
    have hz8:z≤8:=by omega
    clear HNX hb hy;go_wp2;go_roundw
    case rel=>exact⟨k+1,by go_num,by rw [J HN2]; go_num,by omega,trivial⟩
    case measure=>simp [intOf]; omega
  ·
   have hkn:k=ps.length:=by omega
   subst hkn;rw [List.take_length];clear c0;go_wp2;go_ret;exact⟨rfl,J HB⟩
theorem Zpc {w w':World}{v:Value}{ws:List Int}(h:Cg w v ws)(hb:Below w.heap.size w w'):Cg w' v ws:=Nx h hb
structure Zng where
 kind:Int
 vals:List Int
 tr:List (Int×List Int)
 steps:Int
def Zju:Zng:=⟨0,[],[],0⟩
def Il (V:World)(B:Nat)(o:Zng)(vv tv:Value):Prop:=V.ownsRow B 50 1 vv o.vals.length (uC o.vals)∧∃ es,TrI V B (fun _=>True) tv o.tr es
theorem Db (V:World)(B:Nat):Il V B Zju (.slice none 0 0) (.slice none 0 0):=⟨World.ownsRow_nil _ _ _ _,[],⟨rfl,World.ownsRow_nil _ _ _ _,fun _ _=>trivial,fun k hk=>absurd hk (Nat.not_lt_zero k)⟩⟩
theorem Zjv {V V':World}{B:Nat}{o:Zng}{vv tv:Value}(h:Il V B o vv tv)(hk:∀ g,B≤g→g<V.heap.size→V'.heap[g]?=V.heap[g]?):Il V' B o vv tv:=by
 obtain⟨h1,es,h2⟩:=h;exact⟨Lb h1 fun g hg=>hk g (h1.lt g hg).1 (h1.lt g hg).2,es,h2.keep (fun g _ _ hr _ hb _=>hk g hb (Zk hr)) (fun _ _ _ h=>h)⟩
theorem Ci {V:World}{B B':Nat}{o:Zng}{vv tv:Value}(h:Il V B o vv tv)(hB:B'≤B):Il V B' o vv tv:=by
 obtain⟨h1,es,h2⟩:=h;exact⟨Kt h1 hB,es,⟨h2.len,Kt h2.row hB,fun _ _=>trivial,fun k hk=>⟨Kt (h2.each k hk).1 hB,fun _ _=>trivial⟩⟩⟩
theorem Zdr {V V':World}{B:Nat}{o:Zng}{vv tv:Value}(h:Il V B o vv tv)(hb:Below V.heap.size V V'):Il V' B o vv tv:=Zjv h fun g _ hg=>hb.block g hg
theorem Zah {V:World}{B g:Nat}{o:Zng}{vv tv:Value}(h:Il V B o vv tv)(hg:g<B)(cs:Array Value):Il (V.setRow g cs) B o vv tv:=Zjv h fun q hq _=>setRow_other _ _ _ _ (by omega)
abbrev Cw (P:Zw)(f:Int)(args:List Int)(fuel:Int):Prop:=0≤f∧f<P.funcs.length∧args.length=Mr (P.funcs.getD f.toNat Zp).params∧0≤fuel∧fuel≤20000
def Cn (P:Zw)(f:Int)(args sc:List Int)(fuel:Int):Ss:=ev P fuel.toNat [Ka (P.funcs.getD f.toNat Zp) args []] sc []
def Uo (T:TbE)(P:Zw)(f:Int)(args sc:List Int)(fuel:Int):Zng :=
 if (Zcf T P).e=0 then (if Cw P f args fuel then ⟨Dq (Cn P f args sc fuel),Cv (Cn P f args sc fuel),Rk (Cn P f args sc fuel),Om fuel.toNat (Cn P f args sc fuel)⟩ else Zju) else Zju
def Kc (T:TbE)(P:Zw)(f:Int)(args:List Int)(fuel:Int):Zel:=if (Zcf T P).e=0 then (if Cw P f args fuel then ⟨0,-1,-1,-1⟩ else ⟨6,-1,-1,-1⟩) else Zcf T P
theorem Zvr {T:TbE}{P:Zw}{f fuel:Int}{args:List Int}(sc:List Int)(hc:(Zcf T P).e=0)(h:Cw P f args fuel):Uo T P f args sc fuel=⟨Dq (Cn P f args sc fuel),Cv (Cn P f args sc fuel),Rk (Cn P f args sc fuel),Om fuel.toNat (Cn P f args sc fuel)⟩∧Kc T P f args fuel=⟨0,-1,-1,-1⟩:=by
 unfold Uo Kc;rw [if_pos hc,if_pos hc,if_pos h,if_pos h];exact⟨rfl,rfl⟩
theorem Zha {T:TbE}{P:Zw}{f fuel:Int}{args:List Int}(sc:List Int)(hc:(Zcf T P).e=0)(h:¬ Cw P f args fuel):Uo T P f args sc fuel=Zju∧Kc T P f args fuel=⟨6,-1,-1,-1⟩:=by
 unfold Uo Kc;rw [if_pos hc,if_pos hc,if_neg h,if_neg h];exact⟨rfl,rfl⟩
theorem Yab {T:TbE}{P:Zw}{f fuel:Int}{args:List Int}(sc:List Int)(hc:¬ (Zcf T P).e=0):Uo T P f args sc fuel=Zju∧Kc T P f args fuel=Zcf T P:=by
 unfold Uo Kc;rw [if_neg hc,if_neg hc];exact⟨rfl,rfl⟩
theorem Yac {T:TbE}{P:Zw}(hc:(Zcf T P).e=0)(hwd:∀ f ∈ P.funcs,∀ l ∈ f.blocks,∀ i ∈ l,0≤i.n∧i.n<18446744073709551616):Gp P:=by
 obtain⟨-,h2,h3,h4⟩:=Zuq (show(Dw (Yfo T) T.r (Jg T.sp T.lk T.t0 T.t1) P).e=0 from hc);exact⟨h2,⟨_,_,h3⟩,h4,hwd⟩
theorem Ygd (T:TbE)(P:Zw)(f fuel:Int)(args sc:List Int)(ap sp:Option Addr)(ac scc:Nat)(fv ev:Value)(A E:Nat→Array Value)(w:World)(hA:Zrf w T P fv ev A E)(hwd:∀ f ∈ P.funcs,∀ l ∈ f.blocks,∀ i ∈ l,0≤i.n∧i.n<18446744073709551616)(hAr:Cg w (.slice ap args.length ac) args)(hSc:Cg w (.slice sp sc.length scc) sc)(har:∀ n ∈ args,0≤n∧n<18446744073709551616)(hsr:∀ n ∈ sc,0≤n∧n<18446744073709551616) :
 Calls Tryz.prog 40 #[.agg T.box,.agg #[fv,ev],.int .i64 f,.slice ap args.length ac,.slice sp sc.length scc,.int .i64 fuel] w fun e w'=>∃ vv tv er,e=.returned (.tuple #[.agg #[.int .i64 (Uo T P f args sc fuel).kind,vv,.int .i64 0,tv,.int .i64 (Uo T P f args sc fuel).steps,.int .i64 0],er])∧Il w' w.heap.size (Uo T P f args sc fuel) vv tv∧Ur w' er (Kc T P f args fuel)∧Below w.heap.size w w':=by
 obtain⟨pf,cf,hfs⟩:=hA.p.fs.shape;obtain⟨pe,ce,hes⟩:=hA.p.es.shape;subst hfs hes;have hlf:P.funcs.length<9223372036854775808:=by obtain⟨_,_,_,_,h,_⟩:=hA.p.fs; exact h
 have hla:args.length<4611686018427387904:=by obtain⟨_,_,_,_,h,_⟩:=hAr; exact h
 obtain⟨r0,r1,r2,hZ,hB⟩:=Zmu w (.cells T.box 37 (0,0)) (.cells #[.slice pf P.funcs.length cf,.slice pe P.externs.length ce] 25 (0,0)) (.cells #[.int .i64 0,.slice none 0 0,.int .i64 0,.slice none 0 0,.int .i64 0,.int .i64 0] 47 (0,0));have HA:=Za hA;have HCK:=Za (fun(V:World) (hV:Below w.heap.size w V)=>show Calls Tryz.prog 41 #[.agg #[.int .i64 T.r,.int .i64 T.sp,.int .i64 T.lk,.int .i64 T.t0,.int .i64 T.t1,.slice T.pa T.ag.length T.ca,.slice T.pr T.rs.length T.cr,.slice T.ps T.ss.length T.cs,.int .i64 T.al,.int .i64 T.sh,.int .i64 T.br,.bool T.pairs],.agg #[.slice pf P.funcs.length cf,.slice pe P.externs.length ce]] V (fun e w'=>∃ v,e=.returned v∧Ur w' v (Zcf T P)∧Below V.heap.size V w') from Zig T.r T.sp T.lk T.t0 T.t1 _ _ _ T.al T.sh T.br T.pairs T.ag T.rs T.ss P _ _ A E V (Zou (Ua hA hV).t) (Ua hA hV).p hA.nn (Ua hA hV).na (Ua hA hV).one);have HR0:=Za r0;have HR1:=Za r1;have HR2:=Za r2;have HB:=Za hB;have HWD:=Za hwd;have HAR:=Za hAr;have HSC:=Za hSc;have HARB:=Za har;have HSCB:=Za hsr;clear r0 r1 r2 hB hA hwd hAr hSc har hsr;have hbx:T.box=#[.int .i64 T.r,.int .i64 T.sp,.int .i64 T.lk,.int .i64 T.t0,.int .i64 T.t1,.slice T.pa T.ag.length T.ca,.slice T.pr T.rs.length T.cr,.slice T.ps T.ss.length T.cs,.int .i64 T.al,.int .i64 T.sh,.int .i64 T.br,.bool T.pairs]:=rfl;rw [hbx] at HR0 HR1 HR2 HB hZ ⊢;clear hbx;go_enter Tryz.func40,Tryz.ntmps40
 go_wp2_with fail
 generalize World.alloc (World.alloc (World.alloc w _) _) _=W at HR0 HR1 HR2 HB hZ ⊢;refine(J HCK W (J HB)).mono ?_;rintro e w2 ⟨v,rfl,he,hb⟩;have hz2:=hb.size;have HB2:=Za (Zd (J HB) hb (by omega));have HQ1:=Za ((hb.block (w.heap.size+1) (by omega)).trans (J HR1));have HQ2:=Za ((hb.block (w.heap.size+1+1) (by omega)).trans (J HR2));have HE:=Za he;clear hb HR0 HR1 HR2 HCK HB;by_cases hc:(Zcf T P).e=0
 ·
  obtain rfl:=Zrg he hc;have HC0:=Za hc;have HGD:=Za (Yac hc (J HWD));clear hc he HWD;by_cases hf:0≤f∧f<P.funcs.length
  ·
   obtain⟨k0,hk⟩:∃ k:Nat,f=k:=⟨f.toNat,by omega⟩;subst hk;have hk0:k0<P.funcs.length:=by omega
   have hn1:¬ ((k0:Int)<0):=by omega
   have hn2:¬ ((P.funcs.length:Int)≤(k0:Int)):=by omega
   have hkI:(k0:Int)<(P.funcs.length:Int):=by omega
   obtain⟨pf',cf',hbe,-,-,hpc⟩:=((J HA).p.below (J HB2)).fs;injection hbe with e1 e2 e3;subst e1 e3;obtain⟨fb,fo,hpf,hfb,hcells⟩:=hpc (by omega);subst hpf;have hfn:=((J HA).p.below (J HB2)).feach k0 hk0;obtain⟨pv,hv,sv,bv,B,hAk,hD⟩:=hfn;have hFN:=Za (show Kh w2 (A k0) (P.funcs.getD k0 Zp) by rw [Gt _ _ _ hk0]; exact⟨pv,hv,sv,bv,B,hAk,hD⟩);have HFS:=Za hcells;have hrg:=hcells k0 hk0;rw [hAk] at hrg;generalize hfd:P.funcs[k0]=fn at hD hAk hrg;have hgd:P.funcs.getD k0 Zp=fn:=by rw [Gt _ _ _ hk0,hfd]
   obtain⟨pp,pc,rfl⟩:=hD.ps.shape;obtain⟨qh,ch,rfl⟩:=hD.hs.shape;obtain⟨qs,cs,rfl⟩:=hD.ss.shape;obtain⟨qb,cb,rfl⟩:=hD.bs.shape;have HGF:=Za hgd;have hH:=(J HGD).fnH ⟨k0,hk0,hgd.symm⟩;have HH:=Za hH;have HSG:=Za (Zzj fn (.slice pp fn.params.length pc) (.slice qh fn.homes.length ch) (.slice qs fn.slots.length cs) (.slice qb fn.blocks.length cb) w2 hD.ps (by have:=hH.pl; omega));have g0:=hrg 0 _ rfl;have g1:=hrg 1 _ rfl;have g2:=hrg 2 _ rfl;have g3:=hrg 3 _ rfl;have g4:=hrg 4 _ rfl;rw [Nat.add_zero] at g0;have p0:=cR (J HQ1) 0;have p1:=cR (J HQ1) 1;clear hD hAk hrg hcells hpc hfd hgd hH e2;go_wp2_with fail
   refine(J HSG).mono ?_;rintro e w3 ⟨sgv,rfl,hsg,hb3,-⟩;have hz3:=hb3.size;have HWC:=Za (Zjt sgv (Oc fn).1 fn.results w3 hsg (by unfold Oc; simpa using (J HH).pl) (Zmy (J HH)).1);have HB3:=Za hb3;clear hsg hb3 HSG g0 g1 g2 g3 g4;go_wp2_with fail
   refine(J HWC).mono ?_;rintro e w4 ⟨rfl,hb4⟩;rw [show(Oc fn).1=fn.params.map (·.1) from rfl,Zrw];have hz4:=hb4.size;have HB24:=Za (Zd (J HB3) hb4 (by omega));have HP4:=Za (((J HB24).block (w.heap.size+1) (by omega)).trans (J HQ1));have HQ4:=Za (((J HB24).block (w.heap.size+1+1) (by omega)).trans (J HQ2));have HB4:=Za (Zd (J HB2) (J HB24) (by omega));clear hb4 HWC p0 p1 HQ1 HQ2 HE;by_cases hal:args.length=Mr fn.params
   ·
    have hne:((args.length:Int) != (Mr fn.params:Int))=false:=by simp; omega
    by_cases hfu:0≤fuel∧fuel≤20000
    ·
     obtain⟨fu,hfq⟩:∃ k:Nat,fuel=k:=⟨fuel.toNat,by omega⟩;subst hfq;have hu1:¬ ((fu:Int)<0):=by omega
     have hu2:¬ ((20000:Int)<(fu:Int)):=by omega
     have HFF:=Za (Zvr (args:=args) sc (J HC0) (show Cw P (k0:Int) args (fu:Int) from⟨by omega,by omega,by rw [Int.toNat_natCast,J HGF]; exact hal,by omega,by omega⟩));have q0:=cR (J HP4) 0;obtain⟨r5,hb5,hz5⟩:=Gk w4 (.cells #[.slice (some ⟨fb,fo,none⟩) P.funcs.length cf,.slice sp sc.length scc,.slice none 0 0,.int .i64 0,.slice none 0 0,.int .i64 0,.slice none 0 0,.int .i64 0,.int .i64 0] 182 (0,0));have HR5:=Za r5;have HB5:=Za hb5;have HZ5:=Za hz5;have HAL:=Za hal;clear r5 hb5 hz5 hal hf;go_upto_region 9 with fail
     clear q0;generalize World.alloc w4 _=W5 at HR5 HB5 HZ5 ⊢;have hPG:PgI w4 P fb fo A:=⟨fun i hi j x hx=>((J HB24).cell (p:=⟨fb,fo+i*5+j,none⟩) hfb).trans (J HFS i hi j x hx),by omega,fun k hk=>by rw [Gt _ _ _ hk]; exact((J HA).p.below (J HB4)).feach k hk⟩;have HPG:=Za hPG;have hS5:Ja w4 W5 w4.heap.size w4.heap.size [] (.slice none 0 0) (.slice none 0 0) [] []:=⟨J HB5,Nat.le_refl _,Nat.le_refl _,fun _ h=>(by cases h),List.Pairwise.nil,World.ownsRow_nil _ _ _ _,fun _ h=>(by cases h),⟨rfl,World.ownsRow_nil _ _ _ _,fun _ h=>(by cases h),fun k hk=>absurd hk (Nat.not_lt_zero k)⟩⟩;have HEN:=Za (Zgy w4 W5 w4.heap.size w4.heap.size [] none 0 (.slice none 0 0) (.slice none 0 0) (.slice sp sc.length scc) [] [] 0 0 hS5 fn k0 fb fo cf P.funcs.length A (J HR5) hk0 hPG.fs hPG.lt (by rw [← J HGF]; exact hPG.each k0 hk0) (J HH) args [] ap none ac 0 (Nx (Zpc (J HAR) (J HB4)) (J HB5)) (Li.nil _) (J HAL) (J HARB) (Nat.zero_le _));clear hPG hS5;go_wp2_with fail
     refine(J HEN).mono ?_;rintro e w6 ⟨⟨v6,rfl⟩,f6,fp6,fc6,hx6,-,-,-,hR6,hS6,hB6,-⟩;have hwf:WfS P [f6.x]:=by
      rw [hx6];exact⟨Zmz (J HGD) ⟨k0,hk0,(J HGF).symm⟩ (J HARB) _,rfl⟩
     have HSP:=Za (Yaa P w4 w6 w4.heap.size w4.heap.size fb fo cf fu A (Cn P (k0:Int) args sc (fu:Int)) (J HGD) (J HPG) (by omega) ⟨f6,[],sp,scc,sc,_,_,[],[],hR6,Zpc (J HSC) (J HB4),hS6,hwf,J HSCB,by
      unfold Cn;rw [Int.toNat_natCast,Int.toNat_natCast,Nat.sub_zero,J HGF];show _=ev P fu [f6.x] sc [];rw [hx6],Nat.le_refl _,Nat.le_refl _⟩ (Nat.le_refl _))
     have HB6:=Za hB6;clear hx6 hR6 hS6 hB6 hwf HEN HR5;go_wp2_with fail
     refine(J HSP).mono ?_;rintro e w7 ⟨⟨v7,rfl⟩,hE7,hB7⟩;obtain⟨scv,frv,tp9,tc9,es9,vp9,vc9,hR7,hv7,ht7⟩:=hE7;have hB47:Below w4.heap.size w4 w7:=(J HB5).trans ((J HB6).trans hB7);have HQ7:=Za ((hB47.block (w.heap.size+1+1) (by omega)).trans (J HQ4));have HB7:=Za (Zd (J HB4) hB47 (by have:=(J HB4).size; omega));have HFF2:=Za (show Uo T P (k0:Int) args sc (fu:Int)=⟨Dq (Cn P (k0:Int) args sc (fu:Int)),Cv (Cn P (k0:Int) args sc (fu:Int)),Rk (Cn P (k0:Int) args sc (fu:Int)),Om fu (Cn P (k0:Int) args sc (fu:Int))⟩∧Kc T P (k0:Int) args (fu:Int)=⟨0,-1,-1,-1⟩ from J HFF);generalize Cn P (k0:Int) args sc (fu:Int)=r at HFF2 hR7 hv7 ht7;have HO7:=Za (show Il w7 w4.heap.size ⟨Dq r,Cv r,Rk r,Om fu r⟩ _ _ from⟨hv7,es9,⟨ht7.len,ht7.row,fun _ _=>trivial,fun k hk=>⟨(ht7.each k hk).1,fun _ _=>trivial⟩⟩⟩);have s0:=cR hR7 3;have s1:=cR hR7 4;have s2:=cR hR7 5;have s3:=cR hR7 6;have s4:=cR hR7 7;have s5:=cR hR7 8;clear hR7 hv7 ht7 hB47 hB7 HSP HB6 HB5 HFF;go_wp2_with (refine wpList_store_row rfl 47 _ _ rfl (w.heap.size+1+1) #[.int .i64 (Dq r),.slice vp9 (Cv r).length vc9,.int .i64 0,.slice tp9 (Rk r).length tc9,.int .i64 (Om fu r:Nat),.int .i64 0] rfl rfl 47 _ (J HQ7) (Tryz.infOutP.trans rfl) rfl (by simp [Value.oneCell']) ?_)
     refine bodyPost_ret (Mz (fn:=Tryz.f40) (p:=12) (q:=13) (px:=47) rfl _ _ (w.heap.size+1+1) 47 #[.int .i64 (Dq r),.slice vp9 (Cv r).length vc9,.int .i64 0,.slice tp9 (Rk r).length tc9,.int .i64 (Om fu r:Nat),.int .i64 0] (0,0) _ rfl (setRow_heap _ _ _ _ _ _ (J HQ7)) Tryz.underlying47 rfl (Tryz.infOutP.trans rfl)) rfl ?_;rw [(J HFF2).1,(J HFF2).2];exact⟨_,_,_,rfl,Ci (Zah (J HO7) (by omega) _) (by omega),Or.inl ⟨rfl,rfl⟩,Zx (J HB7) (by omega)⟩
    ·
     have HFF:=Za (Zha (args:=args) sc (J HC0) (show ¬ Cw P (k0:Int) args fuel from fun h=>hfu h.2.2.2));have HQ2:=HQ4;have HB2':=HB4;clear HB2;have HB2:=HB2';by_cases hneg:fuel<0
     ·
      clear hfu;go_wp2_with (refine wpList_store_row rfl 47 _ _ rfl (w.heap.size+1+1) #[.int .i64 0,.slice none 0 0,.int .i64 0,.slice none 0 0,.int .i64 0,.int .i64 0] rfl rfl 47 _ (J HQ2) (Tryz.infOutP.trans rfl) rfl (by simp [Value.oneCell']) ?_)
      refine bodyPost_ret (Mz (fn:=Tryz.f40) (p:=12) (q:=13) (px:=47) rfl _ _ (w.heap.size+1+1) 47 #[.int .i64 0,.slice none 0 0,.int .i64 0,.slice none 0 0,.int .i64 0,.int .i64 0] (0,0) _ rfl (setRow_heap _ _ _ _ _ _ (J HQ2)) Tryz.underlying47 rfl (Tryz.infOutP.trans rfl)) rfl ?_;rw [(J HFF).1,(J HFF).2];exact⟨_,_,_,rfl,Db _ _,Or.inr (Or.inl ⟨6,by decide,rfl,rfl⟩),Zx (J HB2) (by omega)⟩
     ·
      have hge:(20000:Int)<fuel:=by omega
      clear hfu;go_wp2_with (refine wpList_store_row rfl 47 _ _ rfl (w.heap.size+1+1) #[.int .i64 0,.slice none 0 0,.int .i64 0,.slice none 0 0,.int .i64 0,.int .i64 0] rfl rfl 47 _ (J HQ2) (Tryz.infOutP.trans rfl) rfl (by simp [Value.oneCell']) ?_)
      refine bodyPost_ret (Mz (fn:=Tryz.f40) (p:=12) (q:=13) (px:=47) rfl _ _ (w.heap.size+1+1) 47 #[.int .i64 0,.slice none 0 0,.int .i64 0,.slice none 0 0,.int .i64 0,.int .i64 0] (0,0) _ rfl (setRow_heap _ _ _ _ _ _ (J HQ2)) Tryz.underlying47 rfl (Tryz.infOutP.trans rfl)) rfl ?_;rw [(J HFF).1,(J HFF).2];exact⟨_,_,_,rfl,Db _ _,Or.inr (Or.inl ⟨6,by decide,rfl,rfl⟩),Zx (J HB2) (by omega)⟩
   ·
    have hne:((args.length:Int) != (Mr fn.params:Int))=true:=by simp; omega
    have HFF:=Za (Zha (args:=args) (fuel:=fuel) sc (J HC0) (show ¬ Cw P (k0:Int) args fuel from fun h=>hal (by have:=h.2.2.1; rwa [Int.toNat_natCast,J HGF] at this)));have HQ2:=HQ4;have HB2':=HB4;clear HB2 hal;have HB2:=HB2';go_wp2_with (refine wpList_store_row rfl 47 _ _ rfl (w.heap.size+1+1) #[.int .i64 0,.slice none 0 0,.int .i64 0,.slice none 0 0,.int .i64 0,.int .i64 0] rfl rfl 47 _ (J HQ2) (Tryz.infOutP.trans rfl) rfl (by simp [Value.oneCell']) ?_)
    refine bodyPost_ret (Mz (fn:=Tryz.f40) (p:=12) (q:=13) (px:=47) rfl _ _ (w.heap.size+1+1) 47 #[.int .i64 0,.slice none 0 0,.int .i64 0,.slice none 0 0,.int .i64 0,.int .i64 0] (0,0) _ rfl (setRow_heap _ _ _ _ _ _ (J HQ2)) Tryz.underlying47 rfl (Tryz.infOutP.trans rfl)) rfl ?_;rw [(J HFF).1,(J HFF).2];exact⟨_,_,_,rfl,Db _ _,Or.inr (Or.inl ⟨6,by decide,rfl,rfl⟩),Zx (J HB2) (by omega)⟩
  ·
   have HFF:=Za (Zha (args:=args) (fuel:=fuel) sc (J HC0) (show ¬ Cw P f args fuel from fun h=>hf ⟨h.1,h.2.1⟩));clear HC0 HE HGD;have p0:=cR (J HQ1) 0;have p1:=cR (J HQ1) 1;by_cases hneg:f<0
   ·
    clear hf;go_wp2_with (refine wpList_store_row rfl 47 _ _ rfl (w.heap.size+1+1) #[.int .i64 0,.slice none 0 0,.int .i64 0,.slice none 0 0,.int .i64 0,.int .i64 0] rfl rfl 47 _ (J HQ2) (Tryz.infOutP.trans rfl) rfl (by simp [Value.oneCell']) ?_)
    refine bodyPost_ret (Mz (fn:=Tryz.f40) (p:=12) (q:=13) (px:=47) rfl _ _ (w.heap.size+1+1) 47 #[.int .i64 0,.slice none 0 0,.int .i64 0,.slice none 0 0,.int .i64 0,.int .i64 0] (0,0) _ rfl (setRow_heap _ _ _ _ _ _ (J HQ2)) Tryz.underlying47 rfl (Tryz.infOutP.trans rfl)) rfl ?_;rw [(J HFF).1,(J HFF).2];exact⟨_,_,_,rfl,Db _ _,Or.inr (Or.inl ⟨6,by decide,rfl,rfl⟩),Zx (J HB2) (by omega)⟩
   ·
    have hge:(P.funcs.length:Int)≤f:=by omega
    clear hf;go_wp2_with (refine wpList_store_row rfl 47 _ _ rfl (w.heap.size+1+1) #[.int .i64 0,.slice none 0 0,.int .i64 0,.slice none 0 0,.int .i64 0,.int .i64 0] rfl rfl 47 _ (J HQ2) (Tryz.infOutP.trans rfl) rfl (by simp [Value.oneCell']) ?_)
    refine bodyPost_ret (Mz (fn:=Tryz.f40) (p:=12) (q:=13) (px:=47) rfl _ _ (w.heap.size+1+1) 47 #[.int .i64 0,.slice none 0 0,.int .i64 0,.slice none 0 0,.int .i64 0,.int .i64 0] (0,0) _ rfl (setRow_heap _ _ _ _ _ _ (J HQ2)) Tryz.underlying47 rfl (Tryz.infOutP.trans rfl)) rfl ?_;rw [(J HFF).1,(J HFF).2];exact⟨_,_,_,rfl,Db _ _,Or.inr (Or.inl ⟨6,by decide,rfl,rfl⟩),Zx (J HB2) (by omega)⟩
 ·
  obtain⟨et,eu,rfl⟩:=Zrh he hc;have HFF:=Za (Yab (args:=args) (fuel:=fuel) (f:=f) sc hc);clear hc he;go_wp2_with (refine wpList_store_row rfl 47 _ _ rfl (w.heap.size+1+1) #[.int .i64 0,.slice none 0 0,.int .i64 0,.slice none 0 0,.int .i64 0,.int .i64 0] rfl rfl 47 _ (J HQ2) (Tryz.infOutP.trans rfl) rfl (by simp [Value.oneCell']) ?_)
  refine bodyPost_ret (Mz (fn:=Tryz.f40) (p:=12) (q:=13) (px:=47) rfl _ _ (w.heap.size+1+1) 47 #[.int .i64 0,.slice none 0 0,.int .i64 0,.slice none 0 0,.int .i64 0,.int .i64 0] (0,0) _ rfl (setRow_heap _ _ _ _ _ _ (J HQ2)) Tryz.underlying47 rfl (Tryz.infOutP.trans rfl)) rfl ?_;rw [(J HFF).1,(J HFF).2];exact⟨_,_,_,rfl,Db _ _,Zfl (J HE) (J HQ2) rfl _,Zx (J HB2) (by omega)⟩
set_option maxHeartbeats 4000000
set_option maxRecDepth 100000
theorem Yge (T:TbE)(P:Zw)(f fuel:Int)(args sc:List Int)(ap sp:Option Addr)(ac scc:Nat)(fv ev:Value)(A E:Nat→Array Value)(w:World)(hA:Zrf w T P fv ev A E)(hwd:∀ f ∈ P.funcs,∀ l ∈ f.blocks,∀ i ∈ l,0≤i.n∧i.n<18446744073709551616)(hAr:Cg w (.slice ap args.length ac) args)(hSc:Cg w (.slice sp sc.length scc) sc)(har:∀ n ∈ args,0≤n∧n<18446744073709551616)(hsr:∀ n ∈ sc,0≤n∧n<18446744073709551616) :
 Calls Tryz.prog 25 #[.agg T.box,.agg #[fv,ev],.int .i64 f,.slice ap args.length ac,.slice sp sc.length scc,.int .i64 fuel] w fun e w'=>∃ vv tv er,e=.returned (.tuple #[.agg #[.int .i64 (Uo T P f args sc fuel).kind,vv,.int .i64 0,tv,.int .i64 (Uo T P f args sc fuel).steps,.int .i64 0],er])∧Il w' w.heap.size (Uo T P f args sc fuel) vv tv∧Ur w' er (Kc T P f args fuel)∧Below w.heap.size w w':=by
 obtain⟨pf,cf,hfs⟩:=hA.p.fs.shape;obtain⟨pe,ce,hes⟩:=hA.p.es.shape;subst hfs hes;have hlf:P.funcs.length<9223372036854775808:=by obtain⟨_,_,_,_,h,_⟩:=hA.p.fs; exact h
 have hla:args.length<4611686018427387904:=by obtain⟨_,_,_,_,h,_⟩:=hAr; exact h
 obtain⟨r0,r1,r2,hZ,hB⟩:=Zmu w (.cells T.box 37 (0,0)) (.cells #[.slice pf P.funcs.length cf,.slice pe P.externs.length ce] 25 (0,0)) (.cells #[.int .i64 0,.slice none 0 0,.int .i64 0,.slice none 0 0,.int .i64 0,.int .i64 0] 47 (0,0));have HC:=Za (fun(V:World) (hV:Below w.heap.size w V)=>show Calls Tryz.prog 40 #[.agg #[.int .i64 T.r,.int .i64 T.sp,.int .i64 T.lk,.int .i64 T.t0,.int .i64 T.t1,.slice T.pa T.ag.length T.ca,.slice T.pr T.rs.length T.cr,.slice T.ps T.ss.length T.cs,.int .i64 T.al,.int .i64 T.sh,.int .i64 T.br,.bool T.pairs],.agg #[.slice pf P.funcs.length cf,.slice pe P.externs.length ce],.int .i64 f,.slice ap args.length ac,.slice sp sc.length scc,.int .i64 fuel] V (fun e w'=>∃ vv tv er,e=.returned (.tuple #[.agg #[.int .i64 (Uo T P f args sc fuel).kind,vv,.int .i64 0,tv,.int .i64 (Uo T P f args sc fuel).steps,.int .i64 0],er])∧Il w' V.heap.size (Uo T P f args sc fuel) vv tv∧Ur w' er (Kc T P f args fuel)∧Below V.heap.size V w') from Ygd T P f fuel args sc ap sp ac scc _ _ A E V (Ua hA hV) hwd (Nx hAr hV) (Nx hSc hV) har hsr);have HR0:=Za r0;have HR1:=Za r1;have HR2:=Za r2;have HB:=Za hB;clear r0 r1 r2 hB hA hwd hAr hSc har hsr;have hbx:T.box=#[.int .i64 T.r,.int .i64 T.sp,.int .i64 T.lk,.int .i64 T.t0,.int .i64 T.t1,.slice T.pa T.ag.length T.ca,.slice T.pr T.rs.length T.cr,.slice T.ps T.ss.length T.cs,.int .i64 T.al,.int .i64 T.sh,.int .i64 T.br,.bool T.pairs]:=rfl;rw [hbx] at HR0 HR1 HR2 HB hZ ⊢
 clear hbx;generalize Uo T P f args sc fuel=o at HC ⊢;generalize Kc T P f args fuel=fy at HC ⊢;go_enter Tryz.func25,Tryz.ntmps25
 go_wp2_with fail
 generalize World.alloc (World.alloc (World.alloc w _) _) _=W at HR0 HR1 HR2 HB hZ ⊢;refine(J HC W (J HB)).mono ?_;rintro e w3 ⟨vv,tv,er,rfl,ho,her,hb3⟩;obtain⟨vp9,vc9,rfl⟩:=Xk ho.1;obtain⟨es9,ht9⟩:=ho.2;obtain⟨tp9,tc9,rfl⟩:=Xk ht9.row;have hz3:=hb3.size;have HQ3:=Za ((hb3.block (w.heap.size+1+1) (by omega)).trans (J HR2));have HO:=Za ho;have HE3:=Za her;have HB3:=Za (Zd (J HB) hb3 (by omega));clear ho her hb3 HC HR0 HR1 HR2 HB ht9;go_wp2_with (refine wpList_store_row rfl 47 _ _ rfl (w.heap.size+1+1) #[.int .i64 o.kind,.slice vp9 o.vals.length vc9,.int .i64 0,.slice tp9 o.tr.length tc9,.int .i64 o.steps,.int .i64 0] rfl rfl 47 _ (J HQ3) (Tryz.infOutP.trans rfl) rfl (by simp [Value.oneCell']) ?_)
 refine bodyPost_ret (Mz (fn:=Tryz.f25) (p:=12) (q:=13) (px:=47) rfl _ _ (w.heap.size+1+1) 47 #[.int .i64 o.kind,.slice vp9 o.vals.length vc9,.int .i64 0,.slice tp9 o.tr.length tc9,.int .i64 o.steps,.int .i64 0] (0,0) _ rfl (setRow_heap _ _ _ _ _ _ (J HQ3)) Tryz.underlying47 rfl (Tryz.infOutP.trans rfl)) rfl ?_;exact⟨_,_,_,rfl,Ci (Zah (J HO) (by omega) _) (by omega),Zfl (J HE3) (J HQ3) rfl _,Zx (J HB3) (by omega)⟩
theorem Ygf (T:TbE)(P:Zw)(f fuel:Int)(args sc:List Int)(ap sp:Option Addr)(ac scc:Nat)(fv ev:Value)(A E:Nat→Array Value)(w:World)(hA:Zrf w T P fv ev A E)(hwd:∀ f ∈ P.funcs,∀ l ∈ f.blocks,∀ i ∈ l,0≤i.n∧i.n<18446744073709551616)(hAr:Cg w (.slice ap args.length ac) args)(hSc:Cg w (.slice sp sc.length scc) sc)(har:∀ n ∈ args,0≤n∧n<18446744073709551616)(hsr:∀ n ∈ sc,0≤n∧n<18446744073709551616) :
 Calls Tryz.prog 12 #[.agg T.box,.agg #[fv,ev],.int .i64 f,.slice ap args.length ac,.slice sp sc.length scc,.int .i64 fuel] w fun e w'=>∃ vv tv,e=.returned (.tuple #[.agg #[.int .i64 (Uo T P f args sc fuel).kind,vv,.int .i64 0,tv,.int .i64 (Uo T P f args sc fuel).steps,.int .i64 0],Iw (Kc T P f args fuel).e (Kc T P f args fuel).f (Kc T P f args fuel).b (Kc T P f args fuel).a])∧Il w' w.heap.size (Uo T P f args sc fuel) vv tv∧Below w.heap.size w w':=by
 obtain⟨pf,cf,hfs⟩:=hA.p.fs.shape;obtain⟨pe,ce,hes⟩:=hA.p.es.shape;subst hfs hes;have hlf:P.funcs.length<9223372036854775808:=by obtain⟨_,_,_,_,h,_⟩:=hA.p.fs; exact h
 have hla:args.length<4611686018427387904:=by obtain⟨_,_,_,_,h,_⟩:=hAr; exact h
 obtain⟨r0,r1,r2,r3,hZ,hB⟩:=Ydq w (.cells T.box 37 (0,0)) (.cells #[.slice pf P.funcs.length cf,.slice pe P.externs.length ce] 25 (0,0)) (.cells #[.int .i64 0,.slice none 0 0,.int .i64 0,.slice none 0 0,.int .i64 0,.int .i64 0] 47 (0,0)) (.cells #[.int .i64 0,.int .i64 0,.int .i64 0,.int .i64 0] 28 (0,0));have HC:=Za (fun(V:World) (hV:Below w.heap.size w V)=>show Calls Tryz.prog 25 #[.agg #[.int .i64 T.r,.int .i64 T.sp,.int .i64 T.lk,.int .i64 T.t0,.int .i64 T.t1,.slice T.pa T.ag.length T.ca,.slice T.pr T.rs.length T.cr,.slice T.ps T.ss.length T.cs,.int .i64 T.al,.int .i64 T.sh,.int .i64 T.br,.bool T.pairs],.agg #[.slice pf P.funcs.length cf,.slice pe P.externs.length ce],.int .i64 f,.slice ap args.length ac,.slice sp sc.length scc,.int .i64 fuel] V (fun e w'=>∃ vv tv er,e=.returned (.tuple #[.agg #[.int .i64 (Uo T P f args sc fuel).kind,vv,.int .i64 0,tv,.int .i64 (Uo T P f args sc fuel).steps,.int .i64 0],er])∧Il w' V.heap.size (Uo T P f args sc fuel) vv tv∧Ur w' er (Kc T P f args fuel)∧Below V.heap.size V w') from Yge T P f fuel args sc ap sp ac scc _ _ A E V (Ua hA hV) hwd (Nx hAr hV) (Nx hSc hV) har hsr);have HER:=Za (fun(V:World) (hV:Below w.heap.size w V)=>hA.er.keep hV);have HR0:=Za r0;have HR1:=Za r1;have HR2:=Za r2;have HR3:=Za r3;have HB:=Za hB;clear r0 r1 r2 r3 hB hA hwd hAr hSc har hsr;have hbx:T.box=#[.int .i64 T.r,.int .i64 T.sp,.int .i64 T.lk,.int .i64 T.t0,.int .i64 T.t1,.slice T.pa T.ag.length T.ca,.slice T.pr T.rs.length T.cr,.slice T.ps T.ss.length T.cs,.int .i64 T.al,.int .i64 T.sh,.int .i64 T.br,.bool T.pairs]:=rfl
 rw [hbx] at HR0 HR1 HR2 HR3 HB hZ ⊢;clear hbx;generalize Uo T P f args sc fuel=o at HC ⊢;generalize Kc T P f args fuel=fy at HC ⊢;go_enter Tryz.func12,Tryz.ntmps12
 go_wp2_with fail
 generalize World.alloc (World.alloc (World.alloc (World.alloc w _) _) _) _=W at HR0 HR1 HR2 HR3 HB hZ ⊢;refine(J HC W (J HB)).mono ?_;rintro e w3 ⟨vv,tv,er,rfl,ho,her,hb3⟩;obtain⟨vp9,vc9,rfl⟩:=Xk ho.1;obtain⟨es9,ht9⟩:=ho.2;obtain⟨tp9,tc9,rfl⟩:=Xk ht9.row;have hz3:=hb3.size;have HD2:=Za ((hb3.block (w.heap.size+1+1) (by omega)).trans (J HR2));have HD3:=Za ((hb3.block (w.heap.size+1+1+1) (by omega)).trans (J HR3));have HB3:=Za (Zd (J HB) hb3 (by omega));have HO3:=Za (Ci ho (show w.heap.size+1+1+1+1≤W.heap.size by omega));have HE:=Za her;clear ho her hb3 HC HR0 HR1 HR2 HR3 HB ht9;have hal:=Gk w3 (.cells #[.int .i64 0,.slice none 0 0,.int .i64 0,.slice none 0 0,.int .i64 0,.int .i64 0] 47 (0,0));have HAL:=Za hal;clear hal;go_upto_region 2 with(refine wpList_store_row rfl 47 _ _ rfl (w3.heap.size) #[.int .i64 o.kind,.slice vp9 o.vals.length vc9,.int .i64 0,.slice tp9 o.tr.length tc9,.int .i64 o.steps,.int .i64 0] rfl rfl 47 _ ((J HAL).1) (Tryz.infOutP.trans rfl) rfl (by simp [Value.oneCell']) ?_)
 have hrl:=setRow_heap _ _ _ #[.int .i64 o.kind,.slice vp9 o.vals.length vc9,.int .i64 0,.slice tp9 o.tr.length tc9,.int .i64 o.steps,.int .i64 0] _ _ (J HAL).1;have hbl:=Zx (T:=w3.heap.size) (cs:=#[.int .i64 o.kind,.slice vp9 o.vals.length vc9,.int .i64 0,.slice tp9 o.tr.length tc9,.int .i64 o.steps,.int .i64 0]) (J HAL).2.1 (Nat.le_refl _);have hlt:=Zk hrl;clear HAL;generalize World.setRow (World.alloc w3 _) _ _=U at hrl hbl hlt ⊢;have HRL:=Za hrl;have HE2:=Za ((hbl.block (w.heap.size+1+1) (by omega)).trans (J HD2));have HE3:=Za ((hbl.block (w.heap.size+1+1+1) (by omega)).trans (J HD3));have HB5:=Za (Zd (J HB3) hbl (by omega));have HO5:=Za (Zdr (J HO3) hbl);have HFC:=Za (Zih (J HER U.drew (J HB5).drew) (Zjh (J HE) hbl.drew));have hTl:w.heap.size+1+1+1<w3.heap.size:=by omega
 clear hrl hbl HE HER HD2 HD3 HB3 HO3;generalize w3.heap.size=Tl at HRL hlt hTl ⊢;obtain⟨fe,ff,fb,fa⟩:=fy;refine wp_region_held_drew (S:=fun V=>V.heap[Tl]?=some (.cells #[.int .i64 o.kind,.slice vp9 o.vals.length vc9,.int .i64 0,.slice tp9 o.tr.length tc9,.int .i64 o.steps,.int .i64 0] 47 (0,0))) (by kernel_rfl) (J HRL) (fun hHeld=>?_);refine wpAnyH_take (i:=0) (v:=?v0) rfl (by kernel_rfl) (by kernel_rfl) (by kernel_rfl) (fun _ _ _ h=>h) (Or.inl ⟨by rfl,?hy0⟩) (by assumption) ?_;case hy0 =>
  intro V hV;have c0:=cR hV 0;have c1:=cR hV 1;have c2:=cR hV 2;have c3:=cR hV 3;have c4:=cR hV 4;have c5:=cR hV 5;go_simp;all_goals (with_reducible rfl)
 simp only [Act.put,zA,zB,zC,zD,zE];refine tT 1 ?_;refine tO 2 fun K hK=>?_;go_simp;refine(J HFC).mono ?_;rintro e w5 ⟨rfl,hb5⟩;have HS2:=Za ((hb5.block (w.heap.size+1+1) (by show w.heap.size+1+1<U.heap.size; omega)).trans (J HE2));have HS3:=Za ((hb5.block (w.heap.size+1+1+1) (by show w.heap.size+1+1+1<U.heap.size; omega)).trans (J HE3));have HSL:=Za ((hb5.block Tl (by show Tl<U.heap.size; omega)).trans (J HRL));have HBU:=Za (Zd (Below.refl U.heap.size U).drew hb5 (Nat.le_refl _));have hz5:=hb5.size;clear hb5;unfold Iw;go_wp2_with fail
 refine kO hK (J HSL) (fun hHeld2=>?_);clear hK K;refine tO 3 fun K hK=>?_;rw [if_pos (by rfl)];refine wp_store_row 47 _ _ rfl (w.heap.size+1+1) #[.int .i64 o.kind,.slice vp9 o.vals.length vc9,.int .i64 0,.slice tp9 o.tr.length tc9,.int .i64 o.steps,.int .i64 0] rfl rfl 47 _ (J HS2) (Tryz.infOutP.trans rfl) rfl (by simp [Value.oneCell']) ?_;have HS4:=Za ((setRow_other w5 (w.heap.size+1+1) (w.heap.size+1+1+1) #[.int .i64 o.kind,.slice vp9 o.vals.length vc9,.int .i64 0,.slice tp9 o.tr.length tc9,.int .i64 o.steps,.int .i64 0] (by omega)).trans (J HS3));have HSM:=Za ((setRow_other w5 (w.heap.size+1+1) Tl #[.int .i64 o.kind,.slice vp9 o.vals.length vc9,.int .i64 0,.slice tp9 o.tr.length tc9,.int .i64 o.steps,.int .i64 0] (by omega)).trans (J HSL));refine hK.out _ _ (J HSM) (fun hHeld2=>?_);clear hK K;try simp only [Act.put]
 refine tO 4 fun K hK=>?_;rw [if_pos (by rfl)];refine wp_store_row 28 _ _ rfl (w.heap.size+1+1+1) #[.int .i64 fe,.int .i64 ff,.int .i64 fb,.int .i64 fa] rfl rfl 28 _ (J HS4) (Tryz.infPfK.trans rfl) rfl (by simp [Value.oneCell']) ?_;refine hK.out _ _ ((setRow_other _ (w.heap.size+1+1+1) Tl _ (by omega)).trans (J HSM)) (fun hHeld2=>?_);clear hK K;try simp only [Act.put]
 refine wpAnyH_done (by kernel_rfl) ?_ _;have HZ2:=Za ((setRow_other (w5.setRow (w.heap.size+1+1) #[.int .i64 o.kind,.slice vp9 o.vals.length vc9,.int .i64 0,.slice tp9 o.tr.length tc9,.int .i64 o.steps,.int .i64 0]) (w.heap.size+1+1+1) (w.heap.size+1+1) #[.int .i64 fe,.int .i64 ff,.int .i64 fb,.int .i64 fa] (by omega)).trans (setRow_heap _ _ _ #[.int .i64 o.kind,.slice vp9 o.vals.length vc9,.int .i64 0,.slice tp9 o.tr.length tc9,.int .i64 o.steps,.int .i64 0] _ _ (J HS2)));have HZ3:=Za (setRow_heap _ _ _ #[.int .i64 fe,.int .i64 ff,.int .i64 fb,.int .i64 fa] _ _ (J HS4));go_wp2;refine bodyPost_ret (Zlx (fn:=Tryz.f12) (p:=12) (q:=13) (px:=47) (uy:=28) rfl _ _ (w.heap.size+1+1) 47 #[.int .i64 o.kind,.slice vp9 o.vals.length vc9,.int .i64 0,.slice tp9 o.tr.length tc9,.int .i64 o.steps,.int .i64 0] (0,0) _ (w.heap.size+1+1+1) 28 #[.int .i64 fe,.int .i64 ff,.int .i64 fb,.int .i64 fa] (0,0) _ rfl (J HZ2) Tryz.underlying47 rfl (Tryz.infOutP.trans rfl) rfl (J HZ3) Tryz.underlying28 rfl (Tryz.infPfK.trans rfl)) rfl ?_;have h6:=Zd (J HB5) (J HBU) (by omega);exact⟨_,_,rfl,Ci (Zah (Zah (Zdr (J HO5) (J HBU)) (by omega) _) (by omega) _) (by omega),Zx (Zx h6 (by omega)) (by omega)⟩
def tb0 (pa pr ps:Option Addr)(ca cr cs:Nat):TbE:=⟨12,11,-1,9,10,pa,[0,1,2,3],ca,pr,[0,1],cr,ps,[5,6,7],cs,16,0,2,false⟩
theorem Zxu {w:World}{p:Option Addr}{n c:Nat}{ns:List Int}(h:Rs w (.slice p n c) ns)(hc:∀ a n' cap,Value.slice p n c=.slice a n' cap→n'≤cap)(hs:ns.length<Jk):n=ns.length∧Li w (.slice p ns.length c) ns:=by
 have hn:=hc _ _ _ rfl;rcases h with⟨rfl,p',c',e⟩ | ⟨sb,so,c',e,hh⟩
 ·
  injection e with e1 e2 e3;subst e1 e2 e3;exact⟨rfl,_,_,rfl,hn,hs,fun h=>absurd h (by simp)⟩
 ·
  injection e with e1 e2 e3;subst e1 e2 e3;exact⟨rfl,_,_,rfl,hn,hs,fun _=>⟨sb,so,rfl,hh⟩⟩
theorem Yes {w:World}{pa pr ps:Option Addr}{na nr ns ca cr cs:Nat}(h:L3 w (.slice pa na ca) (.slice pr nr cr) (.slice ps ns cs) [0,1,2,3] [0,1] [5,6,7]):na=4∧nr=2∧ns=3∧TbO w (tb0 pa pr ps ca cr cs):=by
 have h1:=Zxu h.a h.ca (by decide);have h2:=Zxu h.r h.cr (by decide);have h3:=Zxu h.s h.cs (by decide);exact⟨h1.1,h2.1,h3.1,h1.2,h2.2,h3.2⟩
def Zoc:List UInt8:=[70,49,0,1,2,0,0,0,1,1,2,5,255,0,1,2,3,1,0,1,16,1,1]
theorem Zfx:Gq Jy=some Zoc:=by kernel_rfl
theorem Zpt:PrN Jy:=by
 intro f hf l hl i hi;obtain rfl:=List.mem_singleton.1 hf;obtain rfl:=List.mem_singleton.1 hl;simp only [List.mem_cons,List.not_mem_nil,or_false] at hi;rcases hi with rfl | rfl <;> exact⟨by decide,by decide⟩
theorem Zbp:Gl ⟨Zoc.toArray⟩=.ok Jy:=Zqg Zpt Zfx
theorem Zfy (pa pr ps:Option Addr)(ca cr cs:Nat):Zcf (tb0 pa pr ps ca cr cs) Jy=⟨0,-1,-1,-1⟩:=by kernel_rfl
theorem Zta:Cw Jy 0 [40,2] 10:=by
 unfold Cw;decide
theorem Ztb:Cn Jy 0 [40,2] [] 10=.done [42] 8 [] []:=by kernel_rfl
theorem Zpu (pa pr ps:Option Addr)(ca cr cs:Nat):Uo (tb0 pa pr ps ca cr cs) Jy 0 [40,2] [] 10=⟨1,[42],[],2⟩∧Kc (tb0 pa pr ps ca cr cs) Jy 0 [40,2] 10=⟨0,-1,-1,-1⟩:=by
 have h:=Zvr [] (show(Zcf (tb0 pa pr ps ca cr cs) Jy).e=0 by rw [Zfy]) Zta;rw [Ztb] at h;exact h
theorem Zfz:Zif Jy:=by
 intro k a b;match k with
 | 0=>match a with
  | 0=>match b with
   | 0=>exact⟨by decide,by decide⟩
   | 1=>exact⟨by decide,by decide⟩
   | b+2=>exact(show(0:Int)≤0∧(0:Int)<18446744073709551616 by decide)
  | a+1=>exact(show(0:Int)≤0∧(0:Int)<18446744073709551616 by decide)
 | k+1=>exact(show(0:Int)≤0∧(0:Int)<18446744073709551616 by decide)
theorem Zxv (k:Nat):(Jy.funcs.getD k Zp).params.length≤8796093022208:=by
 match k with
 | 0=>decide
 | k+1=>exact Nat.zero_le _
theorem Zxw:∀ f ∈ Jy.funcs,∀ l ∈ f.blocks,∀ i ∈ l,0≤i.n∧i.n<18446744073709551616:=fun f hf l hl i hi=>Zpt f hf l hl i hi
theorem Ztc {V:World}{pa pr ps:Option Addr}{ca cr cs:Nat}{fv ev:Value}{A E:Nat→Array Value}(hT:TbO V (tb0 pa pr ps ca cr cs))(hP:Ov V fv ev Jy A E)(hN:Zs V)(hE:Xj V):Zrf V (tb0 pa pr ps ca cr cs) Jy fv ev A E :=
 ⟨hT,hP,Zfz,hN,World.block_lt_of_cell? V _ (hN 0 (by decide)),hE,Zxv⟩
theorem Ztd {V:World}{pa pr ps:Option Addr}{ca cr cs g:Nat}{fv ev:Value}{A E:Nat→Array Value}(hT:TbO V (tb0 pa pr ps ca cr cs))(hP:Ov V fv ev Jy A E)(hN:Zs V)(hE:Xj V)(hr:V.heap[g]?=some (.cells #[.int .u64 40,.int .u64 2] 50 (0,0))) :
 Calls Tryz.prog 12 #[.agg (tb0 pa pr ps ca cr cs).box,.agg #[fv,ev],.int .i64 0,.slice (some ⟨g,0,none⟩) 2 2,.slice none 0 0,.int .i64 10] V fun e w'=>∃ b c tv,e=.returned (.tuple #[.agg #[.int .i64 1,.slice (some ⟨b,0,none⟩) 1 c,.int .i64 0,tv,.int .i64 2,.int .i64 0],.agg #[.int .i64 0,.int .i64 (-1),.int .i64 (-1),.int .i64 (-1)]])∧(∃ p n k,tv=.slice p n k)∧w'.cell? ⟨b,0,none⟩=some (.int .u64 42)∧V.heap.size≤b∧Below V.heap.size V w':=by
 have hA:Cg V (.slice (some ⟨g,0,none⟩) [40,2].length 2) [40,2]:=⟨_,2,rfl,Nat.le_refl _,by decide,fun _=>⟨g,0,rfl,fun i hi=>by
  have:i=0∨i=1:=by simp at hi; omega
  rcases this with rfl | rfl
  ·
   exact(cR hr 0)
  ·
   exact(cR hr 1)⟩⟩
 have hS:Cg V (.slice none ([]:List Int).length 0) []:=⟨_,0,rfl,Nat.le_refl _,by decide,fun h=>absurd h (by decide)⟩;have h:=Ygf (tb0 pa pr ps ca cr cs) Jy 0 10 [40,2] [] (some ⟨g,0,none⟩) none 2 0 fv ev A E V (Ztc hT hP hN hE) Zxw hA hS (fun n hn=>by
  simp only [List.mem_cons,List.not_mem_nil,or_false] at hn;rcases hn with rfl | rfl <;> exact⟨by decide,by decide⟩) (fun n hn=>by cases hn)
 rw [(Zpu pa pr ps ca cr cs).1,(Zpu pa pr ps ca cr cs).2] at h;refine h.mono ?_;rintro e w' ⟨vv,tv,rfl,⟨h1,es,h2⟩,hb⟩;obtain⟨p,c,rfl⟩:=Xk h1;obtain⟨b,rfl,hbb,hc⟩:=Rz h1 (k:=0) (by decide);obtain⟨tp,tc,rfl⟩:=Xk h2.row;exact⟨b,c,_,rfl,⟨_,_,_,rfl⟩,hc.trans rfl,hbb,hb⟩
theorem Zxx {V:World}{pa pr ps:Option Addr}{ca cr cs:Nat}{fv ev:Value}{A E:Nat→Array Value}(hT:TbO V (tb0 pa pr ps ca cr cs))(hP:Ov V fv ev Jy A E)(hN:Zs V)(hE:Xj V) :
 Calls Tryz.prog 13 #[.agg (tb0 pa pr ps ca cr cs).box,.agg #[fv,ev]] V fun e w'=>e=.returned (.agg #[.int .i64 0,.int .i64 (-1),.int .i64 (-1),.int .i64 (-1)])∧Below V.heap.size V w':=by
 have h:=Zyr 12 11 (-1) 9 10 (.slice pa 4 ca) (.slice pr 2 cr) (.slice ps 3 cs) 16 0 2 false [0,1,2,3] [0,1] [5,6,7] Jy fv ev A E V (Zou hT) hP Zfz hN (World.block_lt_of_cell? V _ (hN 0 (by decide))) hE;have e:Dw (Lq 12 11 (-1) 9 10 [0,1,2,3] [0,1] [5,6,7] 16 0 2) 12 (Jg 11 (-1) 9 10) Jy=⟨0,-1,-1,-1⟩:=Zfy pa pr ps ca cr cs;rw [e] at h;exact h
theorem Zxy {p:Zw}(h:Zif p):PrN p:=by
 intro f hf l hl i hi;obtain⟨k,hk,rfl⟩:=List.getElem_of_mem hf;obtain⟨j,hj,rfl⟩:=List.getElem_of_mem hl;obtain⟨q,hq,rfl⟩:=List.getElem_of_mem hi;have:=h k j q;unfold Ir;simpa [List.getD,hk,hj,hq] using this
theorem Zod {s:ByteArray}{x:Int×Nat}(h:Gl s=.error x):x.1≠0:=by
 unfold Gl at h;split at h
 ·
  split at h
  ·
   cases h; simp
  ·
   split at h
   ·
    cases h; simp
   ·
    cases h
 ·
  cases h; simp
theorem Sw {s:ByteArray}{p:Zw}(h:Gl s=.ok p):Zaw s=0∧dAt s=-1∧Ri s=p:=by
 unfold Zaw dAt Ri;rw [h];exact⟨rfl,rfl,rfl⟩
theorem Zcm {s:ByteArray}{x:Int×Nat}(h:Gl s=.error x):Zaw s=x.1∧dAt s=x.2∧Ri s=⟨[],[]⟩:=by
 unfold Zaw dAt Ri;rw [h];exact⟨rfl,rfl,rfl⟩
theorem Zte {s:ByteArray}(V:World)(hE:Xj V)(hN:Zs V):Calls Tryz.prog 6 #[.string s] V fun e w'=>(∃ fp ep fc ec pf pe,e=.returned (.tuple #[.agg #[.slice fp (Ri s).funcs.length fc,.slice ep (Ri s).externs.length ec],.agg #[.int .i64 (Zaw s),.int .i64 (-1),.int .i64 (-1),.int .i64 (dAt s)]])∧Ow w' w'.heap.size (Ri s) (.slice fp (Ri s).funcs.length fc) (.slice ep (Ri s).externs.length ec) pf pe)∧Below V.heap.size V w':=by
 refine(Zmg s V hE hN (World.block_lt_of_cell? V _ (hN 0 (by decide)))).mono ?_;rintro e w' ⟨hb,fv,ev,rfl,hR⟩;obtain⟨pf,pe,hV⟩:=hR.progV;obtain⟨fp,fc,e1⟩:=hV.fls.shape;obtain⟨ep,ec,e2⟩:=hV.els.shape;have l1:pf.length=(Ri s).funcs.length:=by rw [← hV.funcs]; simp
 have l2:pe.length=(Ri s).externs.length:=by rw [← hV.externs]; simp
 rw [l1] at e1;rw [l2] at e2;subst e1 e2;exact⟨⟨fp,ep,fc,ec,pf,pe,rfl,hV⟩,hb⟩
theorem Ztf {p:Zw}{l:List UInt8}{fv ev:Value}{pf:List (Array Value×Zy)}{pe:List (Array Value×(List Int×Int))}(V:World)(hE:Xj V)(hN:Zs V)(hV:Ow V V.heap.size p fv ev pf pe)(h:Gq p=some l):Calls Tryz.prog 5 #[.agg #[fv,ev]] V fun e w'=>e=.returned (.tuple #[.string ⟨l.toArray⟩,.agg #[.int .i64 0,.int .i64 (-1),.int .i64 (-1),.int .i64 (-1)]])∧Below V.heap.size V w':=by
 have:=Zcz p fv ev pf pe V hE hN (World.block_lt_of_cell? V _ (hN 0 (by decide))) hV;rw [h] at this;exact this
theorem Yay {p:Zw}{fv ev:Value}{pf:List (Array Value×Zy)}{pe:List (Array Value×(List Int×Int))}(V:World)(hE:Xj V)(hN:Zs V)(hV:Ow V V.heap.size p fv ev pf pe)(h:Gq p=none):Calls Tryz.prog 5 #[.agg #[fv,ev]] V fun e w'=>e=.returned (.tuple #[.string ⟨#[]⟩,.agg #[.int .i64 4,.int .i64 (-1),.int .i64 (-1),.int .i64 (-1)]])∧Below V.heap.size V w':=by
 have:=Zcz p fv ev pf pe V hE hN (World.block_lt_of_cell? V _ (hN 0 (by decide))) hV;rw [h] at this;exact this
theorem Yet (w:World)(X Y:Obj):Below w.heap.size w ((w.alloc X).alloc Y):=(Ds w X Y).2.2.1
theorem Zxz (w:World)(X:Obj):Below w.heap.size w (w.alloc X):=(Below.refl w.heap.size w).alloc (Nat.le_refl _) X
end Go.Proofs.YtedemloocadimaaGreatDoor
