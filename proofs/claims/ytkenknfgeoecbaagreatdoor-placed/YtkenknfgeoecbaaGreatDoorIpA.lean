import Derived.Test.YtkenknfgeoecbaaGreatDoorInZ
import Derived.Test.YtkenknfgeoecbaaGreatDoorJ37
namespace Go.Proofs.YtkenknfgeoecbaaGreatDoor
open Go.RowKit
set_option maxHeartbeats 4000000
set_option maxRecDepth 100000
theorem Tryz.infOutP:(Tryz.prog.info? 87).map (·.size)=some 6:=by kernel_rfl
def Lz (l:List Int):Nat:=(l.map fun w=>if w=0 then 1 else w.toNat).foldr (·+·) 0
theorem Zrc (l:List (Int×Int)):Lz (l.map (·.1))=De l:=by unfold Lz De;rw [List.map_map];rfl
theorem Zrd (l m:List Int):Lz (l++m)=Lz l+Lz m:=by
 induction l with
 | nil=>simp [Lz]
 | cons a l ih=>show(if a=0 then 1 else a.toNat)+Lz (l++m)=(if a=0 then 1 else a.toNat)+Lz l+Lz m;omega
theorem Zdd (l:List Int)(k:Nat)(h:k<l.length):Lz (l.take (k+1))=Lz (l.take k)+(if l.getD k 0=0 then 1 else (l.getD k 0).toNat):=by rw [List.take_add_one,List.getElem?_eq_getElem h,Zrd,Gm l 0 k h];simp [Lz]
theorem Ziw (l:List Int)(h:∀ k,k<l.length→0≤l.getD k 0∧l.getD k 0≤8):∀ k,k≤l.length→Lz (l.take k)≤8*k
 | 0,_=>by simp [Lz]
 | k+1,hk=>by
  have ih:=Ziw l h k (by omega);have:=h k (by omega);rw [Zdd l k (by omega)];split <;> omega
theorem Zix (v:Value)(ps:List Int)(res:Int)(w:World)(h:Li w v ps)(hl:ps.length≤8)(hp:∀ k,k<ps.length→0≤ps.getD k 0∧ps.getD k 0≤8) :
 Calls Tryz.prog 84 #[.agg #[v,.int .i64 res]] w fun e w'=>e=.returned (.int .i64 (Lz ps:Nat))∧Below w.heap.size w w':=by
 obtain⟨q,c,rfl⟩:=h.shape;obtain⟨r0,hb0,hz0⟩:=al0 w (.cells #[.slice q ps.length c,.int .i64 res] 43 (0,0));have HL:=Za (h.below hb0);have HB:=Za hb0;have HP:=Za hp;have HLE:=Za (Ziw ps hp);have c0:=cR r0 0;clear h r0 hb0 hz0 hp;go_enter Tryz.func84,Tryz.ntmps84
 go_upto_region 2 with fail
 generalize World.alloc w _=W at HL HB c0 ⊢;go_wp2_with fail
 go_loopw [9,3] (fun sk sn w'=>∃ k:Nat,sk=.int .i64 k∧sn=.int .i64 (Lz (ps.take k):Nat)∧k≤ps.length∧w'=W) (fun sk _ _=>ps.length-(intOf sk).toNat)
 case atStart=>exact⟨0,rfl,by simp [Lz],by omega,rfl⟩
 case round =>
  obtain⟨k,rfl,rfl,hk,hw⟩:=hrel;subst wr;by_cases hk2:k<ps.length
  ·obtain⟨p',c',e1,-,-,hcc⟩:=J HL;injection e1 with f1 f2 f3;obtain⟨sb,so,hsp,hcell⟩:=hcc (by omega);rw [← f1] at hsp;subst hsp;have d:=hcell k hk2;have hb:=J HP k hk2;have hle:=J HLE k hk;have HNX:=Za (Zdd ps k hk2);generalize Lz (ps.take k)=m at hle HNX ⊢;generalize ps.getD k 0=y at d hb HNX;clear f1 f2 f3 hcc hcell c0;by_cases hy:y=0
   ·subst hy;have HN2:=Za (show Lz (ps.take (k+1))=m+1 by rw [J HNX,if_pos rfl]);clear HNX hb;go_wp2;go_roundw
    case rel=>exact⟨k+1,by go_num,by rw [J HN2]; go_num,by omega,trivial⟩
    case measure=>simp [intOf]; omega
   ·obtain⟨z,rfl⟩:=Int.eq_ofNat_of_zero_le hb.1;have HN2:=Za (show Lz (ps.take (k+1))=m+z by rw [J HNX,if_neg hy,Int.toNat_natCast]);have hz1:(1:Int)≤(z:Int):=by omega
    have hz8:z≤8:=by omega
    clear HNX hb hy;go_wp2;go_roundw
    case rel=>exact⟨k+1,by go_num,by rw [J HN2]; go_num,by omega,trivial⟩
    case measure=>simp [intOf]; omega
  ·have hkn:k=ps.length:=by omega
   subst hkn;rw [List.take_length];clear c0;go_wp2;go_ret;exact⟨rfl,J HB⟩
theorem Zom {w w':World}{v:Value}{ws:List Int}(h:LiU w v ws)(hb:Below w.heap.size w w'):LiU w' v ws:=Lx h hb
structure Zlr where
 kind:Int
 vals:List Int
 tr:List (Int×List Int)
 steps:Int
def Ybo:Zlr:=⟨0,[],[],0⟩
def Cr (V:World)(B:Nat)(o:Zlr)(vv tv:Value):Prop:=V.ownsRow B 90 1 vv o.vals.length (uC o.vals)∧∃ es,TrI V B (fun _=>True) tv o.tr es
theorem Ziy {V V':World}{B:Nat}{o:Zlr}{vv tv:Value}(h:Cr V B o vv tv)(hk:∀ g,B≤g→g<V.heap.size→V'.heap[g]?=V.heap[g]?):Cr V' B o vv tv:=by obtain⟨h1,es,h2⟩:=h;exact⟨Lr h1 fun g hg=>hk g (h1.lt g hg).1 (h1.lt g hg).2,es,h2.keep (fun g _ _ hr _ hb _=>hk g hb (Zi hr)) (fun _ _ _ h=>h)⟩
theorem Sy {V:World}{B B':Nat}{o:Zlr}{vv tv:Value}(h:Cr V B o vv tv)(hB:B'≤B):Cr V B' o vv tv:=by obtain⟨h1,es,h2⟩:=h;exact⟨Co h1 hB,es,⟨h2.len,Co h2.row hB,fun _ _=>trivial,fun k hk=>⟨Co (h2.each k hk).1 hB,fun _ _=>trivial⟩⟩⟩
theorem Zde {V V':World}{B:Nat}{o:Zlr}{vv tv:Value}(h:Cr V B o vv tv)(hb:Below V.heap.size V V'):Cr V' B o vv tv:=Ziy h fun g _ hg=>hb.block g hg
theorem Cs {V:World}{B g:Nat}{o:Zlr}{vv tv:Value}(h:Cr V B o vv tv)(hg:g<B)(cs:Array Value):Cr (V.setRow g cs) B o vv tv:=Ziy h fun q hq _=>setRow_other _ _ _ _ (by omega)
abbrev Ct (P:Zj)(f:Int)(args:List Int)(fuel:Int):Prop:=0≤f∧f<P.funcs.length∧args.length=De (P.funcs.getD f.toNat Zl).params∧0≤fuel∧fuel≤20000
def Kg (P:Zj)(f:Int)(args sc:List Int)(fuel:Int):Rb:=ev P fuel.toNat [Cn (P.funcs.getD f.toNat Zl) args []] sc []
def Ur (T:Yh)(P:Zj)(f:Int)(args sc:List Int)(fuel:Int):Zlr :=
 if (Sk T P).e=0 then (if Ct P f args fuel then ⟨Ot (Kg P f args sc fuel),Ko (Kg P f args sc fuel),Uq (Kg P f args sc fuel),Mg fuel.toNat (Kg P f args sc fuel)⟩ else Ybo) else Ybo
def Cu (T:Yh)(P:Zj)(f:Int)(args:List Int)(fuel:Int):Zbz:=if (Sk T P).e=0 then (if Ct P f args fuel then ⟨0,-1,-1,-1⟩ else ⟨6,-1,-1,-1⟩) else Sk T P
theorem Zvi {T:Yh}{P:Zj}{f fuel:Int}{args:List Int}(sc:List Int)(hc:(Sk T P).e=0)(h:Ct P f args fuel):Ur T P f args sc fuel=⟨Ot (Kg P f args sc fuel),Ko (Kg P f args sc fuel),Uq (Kg P f args sc fuel),Mg fuel.toNat (Kg P f args sc fuel)⟩∧Cu T P f args fuel=⟨0,-1,-1,-1⟩:=by unfold Ur Cu;rw [if_pos hc,if_pos hc,if_pos h,if_pos h];exact⟨rfl,rfl⟩
theorem Zzo {T:Yh}{P:Zj}(hc:(Sk T P).e=0)(hwd:∀ f ∈ P.funcs,∀ l ∈ f.blocks,∀ i ∈ l,(0≤i.n∧i.n<18446744073709551616)∧(i.op=3∨i.op=16)):Ly P:=by obtain⟨-,h2,h3,h4⟩:=Zin (show(Oi (Ro T) T.r (Yu T.sp T.lk T.t0 T.t1) P).e=0 from hc);exact⟨h2,⟨_,_,h3⟩,h4,hwd⟩
theorem Ygb (T:Yh)(P:Zj)(f fuel:Int)(args sc:List Int)(ap sp:Option Addr)(ac scc:Nat)(fv ev:Value)(A E:Nat→Array Value)(w:World)(hA:Zgf w T P fv ev A E)(hwd:∀ f ∈ P.funcs,∀ l ∈ f.blocks,∀ i ∈ l,(0≤i.n∧i.n<18446744073709551616)∧(i.op=3∨i.op=16))(hAr:LiU w (.slice ap args.length ac) args)(hSc:LiU w (.slice sp sc.length scc) sc)(har:∀ n ∈ args,0≤n∧n<18446744073709551616)(hsr:∀ n ∈ sc,0≤n∧n<18446744073709551616)(hok:(Sk T P).e=0)(hro:Ct P f args fuel) :
 Calls Tryz.prog 50 #[.agg T.box,.agg #[fv,ev],.int .i64 f,.slice ap args.length ac,.slice sp sc.length scc,.int .i64 fuel] w fun e w'=>∃ vv tv er,e=.returned (.tuple #[.agg #[.int .i64 (Ur T P f args sc fuel).kind,vv,.int .i64 0,tv,.int .i64 (Ur T P f args sc fuel).steps,.int .i64 0],er])∧Cr w' w.heap.size (Ur T P f args sc fuel) vv tv∧Lc w' er (Cu T P f args fuel)∧Below w.heap.size w w':=by
 obtain⟨pf,cf,hfs⟩:=hA.p.fs.shape;obtain⟨pe,ce,hes⟩:=hA.p.es.shape;subst hfs hes;have hlf:P.funcs.length<9223372036854775808:=by obtain⟨_,_,_,_,h,_⟩:=hA.p.fs; exact h
 have hla:args.length<4611686018427387904:=by obtain⟨_,_,_,_,h,_⟩:=hAr; exact h
 obtain⟨r0,r1,r2,hZ,hB⟩:=Kz w (.cells T.box 25 (0,0)) (.cells #[.slice pf P.funcs.length cf,.slice pe P.externs.length ce] 62 (0,0)) (.cells #[.int .i64 0,.slice none 0 0,.int .i64 0,.slice none 0 0,.int .i64 0,.int .i64 0] 87 (0,0));have HA:=Za hA;have HCK:=Za (fun(V:World) (hV:Below w.heap.size w V)=>show Calls Tryz.prog 51 #[.agg #[.int .i64 T.r,.int .i64 T.sp,.int .i64 T.lk,.int .i64 T.t0,.int .i64 T.t1,.slice T.pa T.ag.length T.ca,.slice T.pr T.rs.length T.cr,.slice T.ps T.ss.length T.cs,.int .i64 T.al,.int .i64 T.sh,.int .i64 T.br,.bool T.pairs],.agg #[.slice pf P.funcs.length cf,.slice pe P.externs.length ce]] V (fun e w'=>∃ v,e=.returned v∧Lc w' v (Sk T P)∧Below V.heap.size V w') from Zca T.r T.sp T.lk T.t0 T.t1 _ _ _ T.al T.sh T.br T.pairs T.ag T.rs T.ss P _ _ A E V (Zgg (Xn hA hV).t) (Xn hA hV).p hA.nn (Xn hA hV).na (Xn hA hV).one);have HR0:=Za r0;have HR1:=Za r1;have HR2:=Za r2;have HB:=Za hB;have HWD:=Za hwd;have HAR:=Za hAr;have HSC:=Za hSc;have HARB:=Za har;have HSCB:=Za hsr;have HOK:=Za hok;have HRO:=Za hro;clear r0 r1 r2 hB hA hwd hAr hSc har hsr hok hro;have hbx:T.box=#[.int .i64 T.r,.int .i64 T.sp,.int .i64 T.lk,.int .i64 T.t0,.int .i64 T.t1,.slice T.pa T.ag.length T.ca,.slice T.pr T.rs.length T.cr,.slice T.ps T.ss.length T.cs,.int .i64 T.al,.int .i64 T.sh,.int .i64 T.br,.bool T.pairs]:=rfl;rw [hbx] at HR0 HR1 HR2 HB hZ ⊢;clear hbx;go_enter Tryz.func50,Tryz.ntmps50
 go_wp2_with fail
 generalize World.alloc (World.alloc (World.alloc w _) _) _=W at HR0 HR1 HR2 HB hZ ⊢;refine(J HCK W (J HB)).mono ?_;rintro e w2 ⟨v,rfl,he,hb⟩;have hz2:=hb.size;have HB2:=Za (Zd (J HB) hb (by omega));have HQ1:=Za ((hb.block (w.heap.size+1) (by omega)).trans (J HR1));have HQ2:=Za ((hb.block (w.heap.size+1+1) (by omega)).trans (J HR2));have HE:=Za he;clear hb HR0 HR1 HR2 HCK HB;have hc:=J HOK
 ·obtain rfl:=Zfc he hc;have HC0:=Za hc;have HGD:=Za (Zzo hc (J HWD));clear hc he HWD;have hf:0≤f∧f<P.funcs.length:=⟨(J HRO).1,(J HRO).2.1⟩
  ·obtain⟨k0,hk⟩:∃ k:Nat,f=k:=⟨f.toNat,by omega⟩;subst hk;have hk0:k0<P.funcs.length:=by omega
   have hn1:¬ ((k0:Int)<0):=by omega
   have hn2:¬ ((P.funcs.length:Int)≤(k0:Int)):=by omega
   have hkI:(k0:Int)<(P.funcs.length:Int):=by omega
   obtain⟨pf',cf',hbe,-,-,hpc⟩:=((J HA).p.below (J HB2)).fs;injection hbe with e1 e2 e3;subst e1 e3;obtain⟨fb,fo,hpf,hfb,hcells⟩:=hpc (by omega);subst hpf;have hfn:=((J HA).p.below (J HB2)).feach k0 hk0;obtain⟨pv,hv,sv,bv,B,hAk,hD⟩:=hfn;have hFN:=Za (show Zaq w2 (A k0) (P.funcs.getD k0 Zl) by rw [Gm _ _ _ hk0]; exact⟨pv,hv,sv,bv,B,hAk,hD⟩);have HFS:=Za hcells;have hrg:=hcells k0 hk0;rw [hAk] at hrg;generalize hfd:P.funcs[k0]=fn at hD hAk hrg;have hgd:P.funcs.getD k0 Zl=fn:=by rw [Gm _ _ _ hk0,hfd]
   obtain⟨pp,pc,rfl⟩:=hD.ps.shape;obtain⟨qh,ch,rfl⟩:=hD.hs.shape;obtain⟨qs,cs,rfl⟩:=hD.ss.shape;obtain⟨qb,cb,rfl⟩:=hD.bs.shape;have HGF:=Za hgd;have hH:=(J HGD).fnH ⟨k0,hk0,hgd.symm⟩;have HH:=Za hH;have HSG:=Za (Zoh fn (.slice pp fn.params.length pc) (.slice qh fn.homes.length ch) (.slice qs fn.slots.length cs) (.slice qb fn.blocks.length cb) w2 hD.ps (by have:=hH.pl; omega));have g0:=hrg 0 _ rfl;have g1:=hrg 1 _ rfl;have g2:=hrg 2 _ rfl;have g3:=hrg 3 _ rfl;have g4:=hrg 4 _ rfl;rw [Nat.add_zero] at g0;have p0:=cR (J HQ1) 0;have p1:=cR (J HQ1) 1;clear hD hAk hrg hcells hpc hfd hgd hH e2;go_wp2_with fail
   refine(J HSG).mono ?_;rintro e w3 ⟨sgv,rfl,hsg,hb3,-⟩;have hz3:=hb3.size;have HWC:=Za (Zix sgv (Ll fn).1 fn.results w3 hsg (by unfold Ll; simpa using (J HH).pl) (Ydn (J HH)).1);have HB3:=Za hb3;clear hsg hb3 HSG g0 g1 g2 g3 g4;go_wp2_with fail
   refine(J HWC).mono ?_;rintro e w4 ⟨rfl,hb4⟩;rw [show(Ll fn).1=fn.params.map (·.1) from rfl,Zrc];have hz4:=hb4.size;have HB24:=Za (Zd (J HB3) hb4 (by omega));have HP4:=Za (((J HB24).block (w.heap.size+1) (by omega)).trans (J HQ1));have HQ4:=Za (((J HB24).block (w.heap.size+1+1) (by omega)).trans (J HQ2));have HB4:=Za (Zd (J HB2) (J HB24) (by omega));clear hb4 HWC p0 p1 HQ1 HQ2 HE;have hal:args.length=De fn.params:=by have:=(J HRO).2.2.1; rwa [Int.toNat_natCast,J HGF] at this
   ·have hne:((args.length:Int) != (De fn.params:Int))=false:=by simp; omega
    have hfu:0≤fuel∧fuel≤20000:=(J HRO).2.2.2
    ·obtain⟨fu,hfq⟩:∃ k:Nat,fuel=k:=⟨fuel.toNat,by omega⟩;subst hfq;have hu1:¬ ((fu:Int)<0):=by omega
     have hu2:¬ ((20000:Int)<(fu:Int)):=by omega
     have HFF:=Za (Zvi (args:=args) sc (J HC0) (show Ct P (k0:Int) args (fu:Int) from⟨by omega,by omega,by rw [Int.toNat_natCast,J HGF]; exact hal,by omega,by omega⟩));have q0:=cR (J HP4) 0;obtain⟨r5,hb5,hz5⟩:=al0 w4 (.cells #[.slice (some ⟨fb,fo,none⟩) P.funcs.length cf,.slice sp sc.length scc,.slice none 0 0,.int .i64 0,.slice none 0 0,.int .i64 0,.slice none 0 0,.int .i64 0,.int .i64 0] 202 (0,0));have HR5:=Za r5;have HB5:=Za hb5;have HZ5:=Za hz5;have HAL:=Za hal;clear r5 hb5 hz5 hal hf;go_upto_region 9 with fail
     clear q0;generalize World.alloc w4 _=W5 at HR5 HB5 HZ5 ⊢;have hPG:PgI w4 P fb fo A:=⟨fun i hi j x hx=>((J HB24).cell (p:=⟨fb,fo+i*5+j,none⟩) hfb).trans (J HFS i hi j x hx),by omega,fun k hk=>by rw [Gm _ _ _ hk]; exact((J HA).p.below (J HB4)).feach k hk⟩;have HPG:=Za hPG;have hS5:Jv w4 W5 w4.heap.size w4.heap.size [] (.slice none 0 0) (.slice none 0 0) [] []:=⟨J HB5,Nat.le_refl _,Nat.le_refl _,fun _ h=>(by cases h),List.Pairwise.nil,World.ownsRow_nil _ _ _ _,fun _ h=>(by cases h),⟨rfl,World.ownsRow_nil _ _ _ _,fun _ h=>(by cases h),fun k hk=>absurd hk (Nat.not_lt_zero k)⟩⟩;have HEN:=Za (Zzl w4 W5 w4.heap.size w4.heap.size [] none 0 (.slice none 0 0) (.slice none 0 0) (.slice sp sc.length scc) [] [] 0 0 hS5 fn k0 fb fo cf P.funcs.length A (J HR5) hk0 hPG.fs hPG.lt (by rw [← J HGF]; exact hPG.each k0 hk0) (J HH) args [] ap none ac 0 (Lx (Zom (J HAR) (J HB4)) (J HB5)) (Li.nil _) (J HAL) (J HARB) (Nat.zero_le _));clear hPG hS5;go_wp2_with fail
     refine(J HEN).mono ?_;rintro e w6 ⟨⟨v6,rfl⟩,f6,fp6,fc6,hx6,-,-,-,hR6,hS6,hB6,-⟩;have hwf:WfS P [f6.x]:=by rw [hx6];exact⟨Ydo (J HGD) ⟨k0,hk0,(J HGF).symm⟩ (J HARB) _,rfl⟩
     have HSP:=Za (Zzn P w4 w6 w4.heap.size w4.heap.size fb fo cf fu A (Kg P (k0:Int) args sc (fu:Int)) (J HGD) (J HPG) (by omega) ⟨f6,[],sp,scc,sc,_,_,[],[],hR6,Zom (J HSC) (J HB4),hS6,hwf,J HSCB,by
      unfold Kg;rw [Int.toNat_natCast,Int.toNat_natCast,Nat.sub_zero,J HGF];show _=ev P fu [f6.x] sc [];rw [hx6],Nat.le_refl _,Nat.le_refl _⟩ (Nat.le_refl _))
     have HB6:=Za hB6;clear hx6 hR6 hS6 hB6 hwf HEN HR5;go_wp2_with fail
     refine(J HSP).mono ?_;rintro e w7 ⟨⟨v7,rfl⟩,hE7,hB7⟩;obtain⟨scv,frv,tp9,tc9,es9,vp9,vc9,hR7,hv7,ht7⟩:=hE7;have hB47:Below w4.heap.size w4 w7:=(J HB5).trans ((J HB6).trans hB7);have HQ7:=Za ((hB47.block (w.heap.size+1+1) (by omega)).trans (J HQ4));have HB7:=Za (Zd (J HB4) hB47 (by have:=(J HB4).size; omega));have HFF2:=Za (show Ur T P (k0:Int) args sc (fu:Int)=⟨Ot (Kg P (k0:Int) args sc (fu:Int)),Ko (Kg P (k0:Int) args sc (fu:Int)),Uq (Kg P (k0:Int) args sc (fu:Int)),Mg fu (Kg P (k0:Int) args sc (fu:Int))⟩∧Cu T P (k0:Int) args (fu:Int)=⟨0,-1,-1,-1⟩ from J HFF);generalize Kg P (k0:Int) args sc (fu:Int)=r at HFF2 hR7 hv7 ht7;have HO7:=Za (show Cr w7 w4.heap.size ⟨Ot r,Ko r,Uq r,Mg fu r⟩ _ _ from⟨hv7,es9,⟨ht7.len,ht7.row,fun _ _=>trivial,fun k hk=>⟨(ht7.each k hk).1,fun _ _=>trivial⟩⟩⟩);have s0:=cR hR7 3;have s1:=cR hR7 4;have s2:=cR hR7 5;have s3:=cR hR7 6;have s4:=cR hR7 7;have s5:=cR hR7 8;clear hR7 hv7 ht7 hB47 hB7 HSP HB6 HB5 HFF;go_wp2_with (refine wpList_store_row rfl 87 _ _ rfl (w.heap.size+1+1) #[.int .i64 (Ot r),.slice vp9 (Ko r).length vc9,.int .i64 0,.slice tp9 (Uq r).length tc9,.int .i64 (Mg fu r:Nat),.int .i64 0] rfl rfl 87 _ (J HQ7) (Tryz.infOutP.trans rfl) rfl (by simp [Value.oneCell']) ?_)
     refine bodyPost_ret (Mq (fn:=Tryz.f50) (p:=12) (q:=13) (px:=87) rfl _ _ (w.heap.size+1+1) 87 #[.int .i64 (Ot r),.slice vp9 (Ko r).length vc9,.int .i64 0,.slice tp9 (Uq r).length tc9,.int .i64 (Mg fu r:Nat),.int .i64 0] (0,0) _ rfl (setRow_heap _ _ _ _ _ _ (J HQ7)) Tryz.underlying87 rfl (Tryz.infOutP.trans rfl)) rfl ?_;rw [(J HFF2).1,(J HFF2).2];exact⟨_,_,_,rfl,Sy (Cs (J HO7) (by omega) _) (by omega),Or.inl ⟨rfl,rfl⟩,Zg (J HB7) (by omega)⟩
end Go.Proofs.YtkenknfgeoecbaaGreatDoor
