import Derived.Test.YtkenknfgeoecbaaGreatDoorIpA
import Derived.Test.YtkenknfgeoecbaaGreatDoorJ31
namespace Go.Proofs.YtkenknfgeoecbaaGreatDoor
open Go.RowKit
set_option maxHeartbeats 4000000
set_option maxRecDepth 100000
theorem Ygc (T:Yh)(P:Zj)(f fuel:Int)(args sc:List Int)(ap sp:Option Addr)(ac scc:Nat)(fv ev:Value)(A E:Nat→Array Value)(w:World)(hA:Zgf w T P fv ev A E)(hwd:∀ f ∈ P.funcs,∀ l ∈ f.blocks,∀ i ∈ l,(0≤i.n∧i.n<18446744073709551616)∧(i.op=3∨i.op=16))(hAr:LiU w (.slice ap args.length ac) args)(hSc:LiU w (.slice sp sc.length scc) sc)(har:∀ n ∈ args,0≤n∧n<18446744073709551616)(hsr:∀ n ∈ sc,0≤n∧n<18446744073709551616)(hok:(Sk T P).e=0)(hro:Ct P f args fuel) :
 Calls Tryz.prog 35 #[.agg T.box,.agg #[fv,ev],.int .i64 f,.slice ap args.length ac,.slice sp sc.length scc,.int .i64 fuel] w fun e w'=>∃ vv tv er,e=.returned (.tuple #[.agg #[.int .i64 (Ur T P f args sc fuel).kind,vv,.int .i64 0,tv,.int .i64 (Ur T P f args sc fuel).steps,.int .i64 0],er])∧Cr w' w.heap.size (Ur T P f args sc fuel) vv tv∧Lc w' er (Cu T P f args fuel)∧Below w.heap.size w w':=by
 obtain⟨pf,cf,hfs⟩:=hA.p.fs.shape;obtain⟨pe,ce,hes⟩:=hA.p.es.shape;subst hfs hes;have hlf:P.funcs.length<9223372036854775808:=by obtain⟨_,_,_,_,h,_⟩:=hA.p.fs; exact h
 have hla:args.length<4611686018427387904:=by obtain⟨_,_,_,_,h,_⟩:=hAr; exact h
 obtain⟨r0,r1,r2,hZ,hB⟩:=Kz w (.cells T.box 25 (0,0)) (.cells #[.slice pf P.funcs.length cf,.slice pe P.externs.length ce] 62 (0,0)) (.cells #[.int .i64 0,.slice none 0 0,.int .i64 0,.slice none 0 0,.int .i64 0,.int .i64 0] 87 (0,0));have HC:=Za (fun(V:World) (hV:Below w.heap.size w V)=>show Calls Tryz.prog 50 #[.agg #[.int .i64 T.r,.int .i64 T.sp,.int .i64 T.lk,.int .i64 T.t0,.int .i64 T.t1,.slice T.pa T.ag.length T.ca,.slice T.pr T.rs.length T.cr,.slice T.ps T.ss.length T.cs,.int .i64 T.al,.int .i64 T.sh,.int .i64 T.br,.bool T.pairs],.agg #[.slice pf P.funcs.length cf,.slice pe P.externs.length ce],.int .i64 f,.slice ap args.length ac,.slice sp sc.length scc,.int .i64 fuel] V (fun e w'=>∃ vv tv er,e=.returned (.tuple #[.agg #[.int .i64 (Ur T P f args sc fuel).kind,vv,.int .i64 0,tv,.int .i64 (Ur T P f args sc fuel).steps,.int .i64 0],er])∧Cr w' V.heap.size (Ur T P f args sc fuel) vv tv∧Lc w' er (Cu T P f args fuel)∧Below V.heap.size V w') from Ygb T P f fuel args sc ap sp ac scc _ _ A E V (Xn hA hV) hwd (Lx hAr hV) (Lx hSc hV) har hsr hok hro);have HR0:=Za r0;have HR1:=Za r1;have HR2:=Za r2;have HB:=Za hB;clear r0 r1 r2 hB hA hwd hAr hSc har hsr hok hro;have hbx:T.box=#[.int .i64 T.r,.int .i64 T.sp,.int .i64 T.lk,.int .i64 T.t0,.int .i64 T.t1,.slice T.pa T.ag.length T.ca,.slice T.pr T.rs.length T.cr,.slice T.ps T.ss.length T.cs,.int .i64 T.al,.int .i64 T.sh,.int .i64 T.br,.bool T.pairs]:=rfl;rw [hbx] at HR0 HR1 HR2 HB hZ ⊢
 clear hbx;generalize Ur T P f args sc fuel=o at HC ⊢;generalize Cu T P f args fuel=fy at HC ⊢;go_enter Tryz.func35,Tryz.ntmps35
 go_wp2_with fail
 generalize World.alloc (World.alloc (World.alloc w _) _) _=W at HR0 HR1 HR2 HB hZ ⊢;refine(J HC W (J HB)).mono ?_;rintro e w3 ⟨vv,tv,er,rfl,ho,her,hb3⟩;obtain⟨vp9,vc9,rfl⟩:=Jh ho.1;obtain⟨es9,ht9⟩:=ho.2;obtain⟨tp9,tc9,rfl⟩:=Jh ht9.row;have hz3:=hb3.size;have HQ3:=Za ((hb3.block (w.heap.size+1+1) (by omega)).trans (J HR2));have HO:=Za ho;have HE3:=Za her;have HB3:=Za (Zd (J HB) hb3 (by omega));clear ho her hb3 HC HR0 HR1 HR2 HB ht9;go_wp2_with (refine wpList_store_row rfl 87 _ _ rfl (w.heap.size+1+1) #[.int .i64 o.kind,.slice vp9 o.vals.length vc9,.int .i64 0,.slice tp9 o.tr.length tc9,.int .i64 o.steps,.int .i64 0] rfl rfl 87 _ (J HQ3) (Tryz.infOutP.trans rfl) rfl (by simp [Value.oneCell']) ?_)
 refine bodyPost_ret (Mq (fn:=Tryz.f35) (p:=12) (q:=13) (px:=87) rfl _ _ (w.heap.size+1+1) 87 #[.int .i64 o.kind,.slice vp9 o.vals.length vc9,.int .i64 0,.slice tp9 o.tr.length tc9,.int .i64 o.steps,.int .i64 0] (0,0) _ rfl (setRow_heap _ _ _ _ _ _ (J HQ3)) Tryz.underlying87 rfl (Tryz.infOutP.trans rfl)) rfl ?_;exact⟨_,_,_,rfl,Sy (Cs (J HO) (by omega) _) (by omega),Iw (J HE3) (J HQ3) rfl _,Zg (J HB3) (by omega)⟩
theorem Ygd (T:Yh)(P:Zj)(f fuel:Int)(args sc:List Int)(ap sp:Option Addr)(ac scc:Nat)(fv ev:Value)(A E:Nat→Array Value)(w:World)(hA:Zgf w T P fv ev A E)(hwd:∀ f ∈ P.funcs,∀ l ∈ f.blocks,∀ i ∈ l,(0≤i.n∧i.n<18446744073709551616)∧(i.op=3∨i.op=16))(hAr:LiU w (.slice ap args.length ac) args)(hSc:LiU w (.slice sp sc.length scc) sc)(har:∀ n ∈ args,0≤n∧n<18446744073709551616)(hsr:∀ n ∈ sc,0≤n∧n<18446744073709551616)(hok:(Sk T P).e=0)(hro:Ct P f args fuel) :
 Calls Tryz.prog 22 #[.agg T.box,.agg #[fv,ev],.int .i64 f,.slice ap args.length ac,.slice sp sc.length scc,.int .i64 fuel] w fun e w'=>∃ vv tv,e=.returned (.tuple #[.agg #[.int .i64 (Ur T P f args sc fuel).kind,vv,.int .i64 0,tv,.int .i64 (Ur T P f args sc fuel).steps,.int .i64 0],Dw (Cu T P f args fuel).e (Cu T P f args fuel).f (Cu T P f args fuel).b (Cu T P f args fuel).a])∧Cr w' w.heap.size (Ur T P f args sc fuel) vv tv∧Below w.heap.size w w':=by
 obtain⟨pf,cf,hfs⟩:=hA.p.fs.shape;obtain⟨pe,ce,hes⟩:=hA.p.es.shape;subst hfs hes;have hlf:P.funcs.length<9223372036854775808:=by obtain⟨_,_,_,_,h,_⟩:=hA.p.fs; exact h
 have hla:args.length<4611686018427387904:=by obtain⟨_,_,_,_,h,_⟩:=hAr; exact h
 obtain⟨r0,r1,r2,r3,hZ,hB⟩:=Zlk w (.cells T.box 25 (0,0)) (.cells #[.slice pf P.funcs.length cf,.slice pe P.externs.length ce] 62 (0,0)) (.cells #[.int .i64 0,.slice none 0 0,.int .i64 0,.slice none 0 0,.int .i64 0,.int .i64 0] 87 (0,0)) (.cells #[.int .i64 0,.int .i64 0,.int .i64 0,.int .i64 0] 29 (0,0));have HC:=Za (fun(V:World) (hV:Below w.heap.size w V)=>show Calls Tryz.prog 35 #[.agg #[.int .i64 T.r,.int .i64 T.sp,.int .i64 T.lk,.int .i64 T.t0,.int .i64 T.t1,.slice T.pa T.ag.length T.ca,.slice T.pr T.rs.length T.cr,.slice T.ps T.ss.length T.cs,.int .i64 T.al,.int .i64 T.sh,.int .i64 T.br,.bool T.pairs],.agg #[.slice pf P.funcs.length cf,.slice pe P.externs.length ce],.int .i64 f,.slice ap args.length ac,.slice sp sc.length scc,.int .i64 fuel] V (fun e w'=>∃ vv tv er,e=.returned (.tuple #[.agg #[.int .i64 (Ur T P f args sc fuel).kind,vv,.int .i64 0,tv,.int .i64 (Ur T P f args sc fuel).steps,.int .i64 0],er])∧Cr w' V.heap.size (Ur T P f args sc fuel) vv tv∧Lc w' er (Cu T P f args fuel)∧Below V.heap.size V w') from Ygc T P f fuel args sc ap sp ac scc _ _ A E V (Xn hA hV) hwd (Lx hAr hV) (Lx hSc hV) har hsr hok hro);have HER:=Za (fun(V:World) (hV:Below w.heap.size w V)=>hA.er.keep hV);have HR0:=Za r0;have HR1:=Za r1;have HR2:=Za r2;have HR3:=Za r3;have HB:=Za hB;clear r0 r1 r2 r3 hB hA hwd hAr hSc har hsr hok hro;have hbx:T.box=#[.int .i64 T.r,.int .i64 T.sp,.int .i64 T.lk,.int .i64 T.t0,.int .i64 T.t1,.slice T.pa T.ag.length T.ca,.slice T.pr T.rs.length T.cr,.slice T.ps T.ss.length T.cs,.int .i64 T.al,.int .i64 T.sh,.int .i64 T.br,.bool T.pairs]:=rfl
 rw [hbx] at HR0 HR1 HR2 HR3 HB hZ ⊢;clear hbx;generalize Ur T P f args sc fuel=o at HC ⊢;generalize Cu T P f args fuel=fy at HC ⊢;go_enter Tryz.func22,Tryz.ntmps22
 go_wp2_with fail
 generalize World.alloc (World.alloc (World.alloc (World.alloc w _) _) _) _=W at HR0 HR1 HR2 HR3 HB hZ ⊢;refine(J HC W (J HB)).mono ?_;rintro e w3 ⟨vv,tv,er,rfl,ho,her,hb3⟩;obtain⟨vp9,vc9,rfl⟩:=Jh ho.1;obtain⟨es9,ht9⟩:=ho.2;obtain⟨tp9,tc9,rfl⟩:=Jh ht9.row;have hz3:=hb3.size;have HD2:=Za ((hb3.block (w.heap.size+1+1) (by omega)).trans (J HR2));have HD3:=Za ((hb3.block (w.heap.size+1+1+1) (by omega)).trans (J HR3));have HB3:=Za (Zd (J HB) hb3 (by omega));have HO3:=Za (Sy ho (show w.heap.size+1+1+1+1≤W.heap.size by omega));have HE:=Za her;clear ho her hb3 HC HR0 HR1 HR2 HR3 HB ht9;have hal:=al0 w3 (.cells #[.int .i64 0,.slice none 0 0,.int .i64 0,.slice none 0 0,.int .i64 0,.int .i64 0] 87 (0,0));have HAL:=Za hal;clear hal;go_upto_region 2 with(refine wpList_store_row rfl 87 _ _ rfl (w3.heap.size) #[.int .i64 o.kind,.slice vp9 o.vals.length vc9,.int .i64 0,.slice tp9 o.tr.length tc9,.int .i64 o.steps,.int .i64 0] rfl rfl 87 _ ((J HAL).1) (Tryz.infOutP.trans rfl) rfl (by simp [Value.oneCell']) ?_)
 have hrl:=setRow_heap _ _ _ #[.int .i64 o.kind,.slice vp9 o.vals.length vc9,.int .i64 0,.slice tp9 o.tr.length tc9,.int .i64 o.steps,.int .i64 0] _ _ (J HAL).1;have hbl:=Zg (T:=w3.heap.size) (cs:=#[.int .i64 o.kind,.slice vp9 o.vals.length vc9,.int .i64 0,.slice tp9 o.tr.length tc9,.int .i64 o.steps,.int .i64 0]) (J HAL).2.1 (Nat.le_refl _);have hlt:=Zi hrl;clear HAL;generalize World.setRow (World.alloc w3 _) _ _=U at hrl hbl hlt ⊢;have HRL:=Za hrl;have HE2:=Za ((hbl.block (w.heap.size+1+1) (by omega)).trans (J HD2));have HE3:=Za ((hbl.block (w.heap.size+1+1+1) (by omega)).trans (J HD3));have HB5:=Za (Zd (J HB3) hbl (by omega));have HO5:=Za (Zde (J HO3) hbl);have HFC:=Za (Zcb (J HER U.drew (J HB5).drew) (Zav (J HE) hbl.drew));have hTl:w.heap.size+1+1+1<w3.heap.size:=by omega
 clear hrl hbl HE HER HD2 HD3 HB3 HO3;generalize w3.heap.size=Tl at HRL hlt hTl ⊢;obtain⟨fe,ff,fb,fa⟩:=fy;refine wp_region_held_drew (S:=fun V=>V.heap[Tl]?=some (.cells #[.int .i64 o.kind,.slice vp9 o.vals.length vc9,.int .i64 0,.slice tp9 o.tr.length tc9,.int .i64 o.steps,.int .i64 0] 87 (0,0))) (by kernel_rfl) (J HRL) (fun hHeld=>?_);refine wpAnyH_take (i:=0) (v:=?v0) rfl (by kernel_rfl) (by kernel_rfl) (by kernel_rfl) (fun _ _ _ h=>h) (Or.inl ⟨by rfl,?hy0⟩) (by assumption) ?_;case hy0=>intro V hV;obtain⟨c0,c1,c2,c3,c4,c5⟩:=cT6 hV;go_simp;all_goals (with_reducible rfl)
 simp only [Act.put,zA,zB,zC,zD,zE];refine tT 1 ?_;refine tO 2 fun K hK=>?_;go_simp;refine(J HFC).mono ?_;rintro e w5 ⟨rfl,hb5⟩;have HS2:=Za ((hb5.block (w.heap.size+1+1) (by show w.heap.size+1+1<U.heap.size; omega)).trans (J HE2));have HS3:=Za ((hb5.block (w.heap.size+1+1+1) (by show w.heap.size+1+1+1<U.heap.size; omega)).trans (J HE3));have HSL:=Za ((hb5.block Tl (by show Tl<U.heap.size; omega)).trans (J HRL));have HBU:=Za (Zd (Below.refl U.heap.size U).drew hb5 (Nat.le_refl _));have hz5:=hb5.size;clear hb5;unfold Dw;go_wp2_with fail
 refine kO hK (J HSL) (fun hHeld2=>?_);clear hK K;refine tO 3 fun K hK=>?_;rw [if_pos (by rfl)];refine wp_store_row 87 _ _ rfl (w.heap.size+1+1) #[.int .i64 o.kind,.slice vp9 o.vals.length vc9,.int .i64 0,.slice tp9 o.tr.length tc9,.int .i64 o.steps,.int .i64 0] rfl rfl 87 _ (J HS2) (Tryz.infOutP.trans rfl) rfl (by simp [Value.oneCell']) ?_;have HS4:=Za ((setRow_other w5 (w.heap.size+1+1) (w.heap.size+1+1+1) #[.int .i64 o.kind,.slice vp9 o.vals.length vc9,.int .i64 0,.slice tp9 o.tr.length tc9,.int .i64 o.steps,.int .i64 0] (by omega)).trans (J HS3));have HSM:=Za ((setRow_other w5 (w.heap.size+1+1) Tl #[.int .i64 o.kind,.slice vp9 o.vals.length vc9,.int .i64 0,.slice tp9 o.tr.length tc9,.int .i64 o.steps,.int .i64 0] (by omega)).trans (J HSL));refine hK.out _ _ (J HSM) (fun hHeld2=>?_);clear hK K;try simp only [Act.put]
 refine tO 4 fun K hK=>?_;rw [if_pos (by rfl)];refine wp_store_row 29 _ _ rfl (w.heap.size+1+1+1) #[.int .i64 fe,.int .i64 ff,.int .i64 fb,.int .i64 fa] rfl rfl 29 _ (J HS4) (Tryz.infPfK.trans rfl) rfl (by simp [Value.oneCell']) ?_;refine hK.out _ _ ((setRow_other _ (w.heap.size+1+1+1) Tl _ (by omega)).trans (J HSM)) (fun hHeld2=>?_);clear hK K;try simp only [Act.put]
 refine wpAnyH_done (by kernel_rfl) ?_ _;have HZ2:=Za ((setRow_other (w5.setRow (w.heap.size+1+1) #[.int .i64 o.kind,.slice vp9 o.vals.length vc9,.int .i64 0,.slice tp9 o.tr.length tc9,.int .i64 o.steps,.int .i64 0]) (w.heap.size+1+1+1) (w.heap.size+1+1) #[.int .i64 fe,.int .i64 ff,.int .i64 fb,.int .i64 fa] (by omega)).trans (setRow_heap _ _ _ #[.int .i64 o.kind,.slice vp9 o.vals.length vc9,.int .i64 0,.slice tp9 o.tr.length tc9,.int .i64 o.steps,.int .i64 0] _ _ (J HS2)));have HZ3:=Za (setRow_heap _ _ _ #[.int .i64 fe,.int .i64 ff,.int .i64 fb,.int .i64 fa] _ _ (J HS4));go_wp2;refine bodyPost_ret (Ku (fn:=Tryz.f22) (p:=12) (q:=13) (px:=87) (uy:=29) rfl _ _ (w.heap.size+1+1) 87 #[.int .i64 o.kind,.slice vp9 o.vals.length vc9,.int .i64 0,.slice tp9 o.tr.length tc9,.int .i64 o.steps,.int .i64 0] (0,0) _ (w.heap.size+1+1+1) 29 #[.int .i64 fe,.int .i64 ff,.int .i64 fb,.int .i64 fa] (0,0) _ rfl (J HZ2) Tryz.underlying87 rfl (Tryz.infOutP.trans rfl) rfl (J HZ3) Tryz.underlying29 rfl (Tryz.infPfK.trans rfl)) rfl ?_;have h6:=Zd (J HB5) (J HBU) (by omega);exact⟨_,_,rfl,Sy (Cs (Cs (Zde (J HO5) (J HBU)) (by omega) _) (by omega) _) (by omega),Zg (Zg h6 (by omega)) (by omega)⟩
def Ss (pa pr ps:Option Addr)(ca cr cs:Nat):Yh:=⟨12,11,-1,9,10,pa,[0,1,2,3],ca,pr,[0,1],cr,ps,[5,6,7],cs,16,0,2,false⟩
theorem Zxg {w:World}{p:Option Addr}{n c:Nat}{ns:List Int}(h:Rs w (.slice p n c) ns)(hc:∀ a n' cap,Value.slice p n c=.slice a n' cap→n'≤cap)(hs:ns.length<Jy):n=ns.length∧Li w (.slice p ns.length c) ns:=by
 have hn:=hc _ _ _ rfl;rcases h with⟨rfl,p',c',e⟩ | ⟨sb,so,c',e,hh⟩
 ·injection e with e1 e2 e3;subst e1 e2 e3;exact⟨rfl,_,_,rfl,hn,hs,fun h=>absurd h (by simp)⟩
 ·injection e with e1 e2 e3;subst e1 e2 e3;exact⟨rfl,_,_,rfl,hn,hs,fun _=>⟨sb,so,rfl,hh⟩⟩
theorem Yex {w:World}{pa pr ps:Option Addr}{na nr ns ca cr cs:Nat}(h:L3 w (.slice pa na ca) (.slice pr nr cr) (.slice ps ns cs) [0,1,2,3] [0,1] [5,6,7]):na=4∧nr=2∧ns=3∧TbO w (Ss pa pr ps ca cr cs):=by have h1:=Zxg h.a h.ca (by decide);have h2:=Zxg h.r h.cr (by decide);have h3:=Zxg h.s h.cs (by decide);exact⟨h1.1,h2.1,h3.1,h1.2,h2.2,h3.2⟩
def Ox:List UInt8:=[70,49,0,1,2,0,0,0,1,1,2,5,255,0,1,2,3,1,0,1,16,1,1]
theorem Zsw:Mp Yl=some Ox:=by kernel_rfl
theorem Zao:Nm ⟨Ox.toArray⟩=.ok Yl:=by kernel_rfl
theorem Ybc {s:ByteArray}{q q1:Nat}{op:Int}(h:Zy s 1 18 q=.ok (op,q1)):q<s.size∧op=bAt s q∧1≤op∧op≤18:=by
 unfold Zy at h;split at h
 ·rename_i hq;unfold Lt at h;split at h
  ·rename_i hb;injection h with h;injection h with h1 h2;have e:signed 1 (bAt s q)=bAt s q:=if_neg (fun h=>absurd h.1 (by decide));rw [e] at h1 hb;subst h1;exact⟨hq,rfl,hb⟩
  ·cases h
 ·cases h
theorem Zxh:∀ q:Fin 23,(1≤bAt ⟨Ox.toArray⟩ q.val∧bAt ⟨Ox.toArray⟩ q.val≤18)→bAt ⟨Ox.toArray⟩ q.val=1∨bAt ⟨Ox.toArray⟩ q.val=2∨bAt ⟨Ox.toArray⟩ q.val=3∨bAt ⟨Ox.toArray⟩ q.val=5∨bAt ⟨Ox.toArray⟩ q.val=16:=by decide
theorem Zsx:OnD ⟨Ox.toArray⟩:=fun q op q1 h=>by
 obtain⟨h1,h2,h3,h4⟩:=Ybc h;rw [h2] at h3 h4 ⊢;exact Zxh ⟨q,h1⟩ ⟨h3,h4⟩
theorem Zfs (pa pr ps:Option Addr)(ca cr cs:Nat):Sk (Ss pa pr ps ca cr cs) Yl=⟨0,-1,-1,-1⟩:=by kernel_rfl
theorem Zsy:Ct Yl 0 [40,2] 10:=by unfold Ct;decide
theorem Zsz:Kg Yl 0 [40,2] [] 10=.done [42] 8 [] []:=by kernel_rfl
theorem Zpn (pa pr ps:Option Addr)(ca cr cs:Nat):Ur (Ss pa pr ps ca cr cs) Yl 0 [40,2] [] 10=⟨1,[42],[],2⟩∧Cu (Ss pa pr ps ca cr cs) Yl 0 [40,2] 10=⟨0,-1,-1,-1⟩:=by have h:=Zvi [] (show(Sk (Ss pa pr ps ca cr cs) Yl).e=0 by rw [Zfs]) Zsy;rw [Zsz] at h;exact h
theorem Zft:Zps Yl:=by
 intro k a b;match k with
 | 0=>match a with
  | 0=>match b with
   | 0=>exact⟨⟨by decide,by decide⟩,by decide⟩
   | 1=>exact⟨⟨by decide,by decide⟩,by decide⟩
   | b+2=>exact(show((0:Int)≤0∧(0:Int)<18446744073709551616)∧((0:Int)=3∨(0:Int)=16∨(0:Int)=0) by decide)
  | a+1=>exact(show((0:Int)≤0∧(0:Int)<18446744073709551616)∧((0:Int)=3∨(0:Int)=16∨(0:Int)=0) by decide)
 | k+1=>exact(show((0:Int)≤0∧(0:Int)<18446744073709551616)∧((0:Int)=3∨(0:Int)=16∨(0:Int)=0) by decide)
theorem Zxi (k:Nat):(Yl.funcs.getD k Zl).params.length≤8796093022208:=by
 match k with
 | 0=>decide
 | k+1=>exact Nat.zero_le _
theorem Zxj:∀ f ∈ Yl.funcs,∀ l ∈ f.blocks,∀ i ∈ l,(0≤i.n∧i.n<18446744073709551616)∧(i.op=3∨i.op=16):=by decide
theorem Zxk:∀ k,(Yl.funcs.getD k Zl).slots.length=0:=by
 intro k;match k with
 | 0=>rfl
 | k+1=>rfl
theorem Zxl (pa pr ps:Option Addr)(ca cr cs:Nat):∀ k,(Zcr (Ss pa pr ps ca cr cs) Yl k).size≤1024:=by
 intro k;match k with
 | 0=>exact of_decide_eq_true (by kernel_rfl)
 | k+1=>exact of_decide_eq_true (show decide ((Nr (Ss pa pr ps ca cr cs) Zl (Kf (Ss pa pr ps ca cr cs) Yl (Ll Zl) Zl.blocks Zl.blocks.length)).size≤1024)=true by kernel_rfl)
theorem Zfu {V:World}{pa pr ps:Option Addr}{ca cr cs:Nat}{fv ev:Value}{A E:Nat→Array Value}(hT:TbO V (Ss pa pr ps ca cr cs))(hP:Mm V fv ev Yl A E)(hN:Zo V)(hE:Ya V):Zgf V (Ss pa pr ps ca cr cs) Yl fv ev A E :=
 ⟨hT,hP,Zft,hN,World.block_lt_of_cell? V _ (hN 0 (by decide)),hE,Zxi,by kernel_rfl,Zxk,Zxl pa pr ps ca cr cs⟩
theorem Zta {V:World}{pa pr ps:Option Addr}{ca cr cs g:Nat}{fv ev:Value}{A E:Nat→Array Value}(hT:TbO V (Ss pa pr ps ca cr cs))(hP:Mm V fv ev Yl A E)(hN:Zo V)(hE:Ya V)(hr:V.heap[g]?=some (.cells #[.int .u64 40,.int .u64 2] 90 (0,0))) :
 Calls Tryz.prog 22 #[.agg (Ss pa pr ps ca cr cs).box,.agg #[fv,ev],.int .i64 0,.slice (some ⟨g,0,none⟩) 2 2,.slice none 0 0,.int .i64 10] V fun e w'=>∃ b c tv,e=.returned (.tuple #[.agg #[.int .i64 1,.slice (some ⟨b,0,none⟩) 1 c,.int .i64 0,tv,.int .i64 2,.int .i64 0],.agg #[.int .i64 0,.int .i64 (-1),.int .i64 (-1),.int .i64 (-1)]])∧(∃ p n k,tv=.slice p n k)∧w'.cell? ⟨b,0,none⟩=some (.int .u64 42)∧V.heap.size≤b∧Below V.heap.size V w':=by
 have hA:LiU V (.slice (some ⟨g,0,none⟩) [40,2].length 2) [40,2]:=⟨_,2,rfl,Nat.le_refl _,by decide,fun _=>⟨g,0,rfl,fun i hi=>by
  have:i=0∨i=1:=by simp at hi; omega
  rcases this with rfl | rfl
  ·exact(cR hr 0)
  ·exact(cR hr 1)⟩⟩
 have hS:LiU V (.slice none ([]:List Int).length 0) []:=⟨_,0,rfl,Nat.le_refl _,by decide,fun h=>absurd h (by decide)⟩;have h:=Ygd (Ss pa pr ps ca cr cs) Yl 0 10 [40,2] [] (some ⟨g,0,none⟩) none 2 0 fv ev A E V (Zfu hT hP hN hE) Zxj hA hS (fun n hn=>by
  simp only [List.mem_cons,List.not_mem_nil,or_false] at hn;rcases hn with rfl | rfl <;> exact⟨by decide,by decide⟩) (fun n hn=>by cases hn) (by kernel_rfl) ⟨by decide,by decide,by decide,by decide,by decide⟩
 rw [(Zpn pa pr ps ca cr cs).1,(Zpn pa pr ps ca cr cs).2] at h;refine h.mono ?_;rintro e w' ⟨vv,tv,rfl,⟨h1,es,h2⟩,hb⟩;obtain⟨p,c,rfl⟩:=Jh h1;obtain⟨b,rfl,hbb,hc⟩:=Cm h1 (k:=0) (by decide);obtain⟨tp,tc,rfl⟩:=Jh h2.row;exact⟨b,c,_,rfl,⟨_,_,_,rfl⟩,hc.trans rfl,hbb,hb⟩
theorem Zxm {V:World}{pa pr ps:Option Addr}{ca cr cs:Nat}{fv ev:Value}{A E:Nat→Array Value}(hT:TbO V (Ss pa pr ps ca cr cs))(hP:Mm V fv ev Yl A E)(hN:Zo V)(hE:Ya V) :
 Calls Tryz.prog 23 #[.agg (Ss pa pr ps ca cr cs).box,.agg #[fv,ev]] V fun e w'=>e=.returned (.agg #[.int .i64 0,.int .i64 (-1),.int .i64 (-1),.int .i64 (-1)])∧Below V.heap.size V w':=by
 have h:=Zxt 12 11 (-1) 9 10 (.slice pa 4 ca) (.slice pr 2 cr) (.slice ps 3 cs) 16 0 2 false [0,1,2,3] [0,1] [5,6,7] Yl fv ev A E V (Zgg hT) hP Zft hN (World.block_lt_of_cell? V _ (hN 0 (by decide))) hE;have e:Oi (Jn 12 11 (-1) 9 10 [0,1,2,3] [0,1] [5,6,7] 16 0 2) 12 (Yu 11 (-1) 9 10) Yl=⟨0,-1,-1,-1⟩:=Zfs pa pr ps ca cr cs;rw [e] at h;exact h
theorem Zhj {s:ByteArray}{p:Zj}(h:Nm s=.ok p):Zgb s=0∧dAt s=-1∧Ir s=p:=by unfold Zgb dAt Ir;rw [h];exact⟨rfl,rfl,rfl⟩
theorem Yhq {s:ByteArray}(hs:s.size≤4000)(hon:OnD s)(V:World)(hE:Ya V)(hN:Zo V):Calls Tryz.prog 21 #[.string s] V fun e w'=>(∃ fp ep fc ec,e=.returned (.tuple #[.agg #[.slice fp (Ir s).funcs.length fc,.slice ep (Ir s).externs.length ec],.agg #[.int .i64 (Zgb s),.int .i64 (-1),.int .i64 (-1),.int .i64 (dAt s)]]))∧Below V.heap.size V w':=by refine(Zlb s hs hon V hE hN (World.block_lt_of_cell? V _ (hN 0 (by decide)))).mono ?_;rintro e w' ⟨hb,fv,ev,rfl,fv',ev',e0,h2,h3⟩;obtain⟨fp,fc,e1⟩:=h2.shape;obtain⟨ep,ec,e2⟩:=h3.shape;subst e1 e2;injection e0 with e0;injection e0 with e0;injection e0 with e1 e2;injection e2 with e2 _;subst e1 e2;exact⟨⟨fp,ep,fc,ec,rfl⟩,hb⟩
theorem Yhr {p:Zj}{l:List UInt8}{fv ev:Value}{pf:List (Array Value×Zm)}{pe:List (Array Value×(List Int×Int))}(V:World)(hE:Ya V)(hN:Zo V)(hV:Oo V V.heap.size p fv ev pf pe)(h:Mp p=some l):Calls Tryz.prog 20 #[.agg #[fv,ev]] V fun e w'=>e=.returned (.tuple #[.string ⟨l.toArray⟩,.agg #[.int .i64 0,.int .i64 (-1),.int .i64 (-1),.int .i64 (-1)]])∧Below V.heap.size V w':=by have:=Zlh p fv ev pf pe V hE hN (World.block_lt_of_cell? V _ (hN 0 (by decide))) hV;rw [h] at this;exact this
theorem Zsu (pa pr ps:Option Addr)(ca cr cs:Nat):(Nc (Ss pa pr ps ca cr cs) [0,0,2,3,0] 3).size=24∧(Nc (Ss pa pr ps ca cr cs) [0,0,2,3,0] 3).copies=24∧(Nc (Ss pa pr ps ca cr cs) [0,0,2,3,0] 3).args.length=5∧Ut (Ss pa pr ps ca cr cs) [0,0,2,3,0] 3=0 :=
 ⟨by kernel_rfl,by kernel_rfl,by kernel_rfl,by kernel_rfl⟩
theorem Zxf (pa pr ps:Option Addr)(ca cr cs:Nat):(Ju (Ss pa pr ps ca cr cs) Yl 0).size=24∧(Ju (Ss pa pr ps ca cr cs) Yl 0).in_=32∧Ix (Ss pa pr ps ca cr cs) Yl 0=⟨0,-1,-1,-1⟩ :=
 ⟨by kernel_rfl,by kernel_rfl,by kernel_rfl⟩
def Nw:List Gj:=[((0,0),(1,0)),((1,0),(0,0))]
theorem Zkk (pa pr ps:Option Addr)(ca cr cs:Nat):Re (Ss pa pr ps ca cr cs) Nw=0:=by kernel_rfl
theorem Ce:(Jd 9 10 3 (Je Nw)).left=[]∧(Jd 9 10 3 (Je Nw)).made.length=3:=by decide
theorem Zsv (pa pr ps:Option Addr)(ca cr cs:Nat):OrN (Ss pa pr ps ca cr cs) Nw 3 :=
 ⟨Ce.1,by decide,fun k hk=>by
  match k,hk with
  | 0,_=>exact(by decide:∀ p ∈ (Jd 9 10 0 (Je Nw)).left,Cd p.1=false)
  | 1,_=>exact(by decide:∀ p ∈ (Jd 9 10 1 (Je Nw)).left,Cd p.1=false)
  | 2,_=>exact(by decide:∀ p ∈ (Jd 9 10 2 (Je Nw)).left,Cd p.1=false)⟩
theorem Yhp {V:World}{pa pr ps:Option Addr}{ca cr cs g:Nat}{ty:TypeId}(hT:TbO V (Ss pa pr ps ca cr cs))(hE:Ya V)(hr:V.heap[g]?=some (.cells #[.int .i64 0,.int .i64 0,.int .i64 2,.int .i64 3,.int .i64 0] ty (0,0))) :
 Calls Tryz.prog 11 #[.agg (Ss pa pr ps ca cr cs).box,.agg #[.slice (some ⟨g,0,none⟩) 5 5,.int .i64 3]] V fun e w'=>∃ ap ac rp rn rc,e=.returned (.tuple #[.agg #[.slice ap 5 ac,.slice rp rn rc,.int .i64 24,.int .i64 24],.agg #[.int .i64 0,.int .i64 (-1),.int .i64 (-1),.int .i64 (-1)]])∧Below V.heap.size V w':=by
 have hps:Li V (.slice (some ⟨g,0,none⟩) [(0:Int),0,2,3,0].length 5) [0,0,2,3,0]:=⟨_,5,rfl,Nat.le_refl _,by decide,fun _=>⟨g,0,rfl,fun i hi=>by
  have:i=0∨i=1∨i=2∨i=3∨i=4:=by simp at hi; omega
  rcases this with rfl | rfl | rfl | rfl | rfl
  ·exact(cR hr 0)
  ·exact(cR hr 1)
  ·exact(cR hr 2)
  ·exact(cR hr 3)
  ·exact(cR hr 4)⟩⟩
 refine(Zns (Ss pa pr ps ca cr cs) [0,0,2,3,0] (some ⟨g,0,none⟩) 5 3 V hE hT hps).mono ?_;rintro e w' ⟨av,rv,pvs,rfl,hL,hb⟩;obtain⟨h1,h2,h3,h4⟩:=Zsu pa pr ps ca cr cs;rw [h1,h2,h4];have ha:=hL.args;rw [h3] at ha;obtain⟨ap,ac,rfl⟩:=Zr ha;obtain⟨rp,rc,rfl⟩:=Zr hL.res;exact⟨ap,ac,rp,_,rc,rfl,hb⟩
theorem fr3 {V:World}{pa pr ps:Option Addr}{ca cr cs:Nat}{fv ev:Value}{A E:Nat→Array Value}(hT:TbO V (Ss pa pr ps ca cr cs))(hP:Mm V fv ev Yl A E)(hN:Zo V)(hE:Ya V) :
 Calls Tryz.prog 14 #[.agg (Ss pa pr ps ca cr cs).box,.agg #[fv,ev],.int .i64 0] V fun e w'=>∃ a b c sp sn sc kp kn kc l,e=.returned (.tuple #[.agg #[.int .i64 a,.int .i64 b,.int .i64 c,.slice sp sn sc,.slice kp kn kc,.int .i64 l,.int .i64 24,.int .i64 32],.agg #[.int .i64 0,.int .i64 (-1),.int .i64 (-1),.int .i64 (-1)]])∧Below V.heap.size V w':=by
 refine(Ydd (Ss pa pr ps ca cr cs) Yl 0 fv ev A E V (Zfu hT hP hN hE) (by decide)).mono ?_;rintro e w' ⟨slv,kv,rfl,hL,hb⟩;obtain⟨h1,h2,h3⟩:=Zxf pa pr ps ca cr cs;rw [h1,h2,h3];obtain⟨sp,sc,rfl⟩:=Zr hL.1;obtain⟨kp,kc,rfl⟩:=Zr hL.2;exact⟨_,_,_,sp,_,sc,kp,_,kc,_,rfl,hb⟩
theorem or3 {V:World}{pa pr ps:Option Addr}{ca cr cs g:Nat}{ty:TypeId}(hT:TbO V (Ss pa pr ps ca cr cs))(hE:Ya V)(hr:V.heap[g]?=some (.cells #[.int .i64 0,.int .i64 0,.int .i64 1,.int .i64 0,.int .i64 1,.int .i64 0,.int .i64 0,.int .i64 0] ty (0,0))) :
 Calls Tryz.prog 7 #[.agg (Ss pa pr ps ca cr cs).box,.slice (some ⟨g,0,none⟩) 2 2] V fun e w'=>∃ p c,e=.returned (.tuple #[.slice p 3 c,.agg #[.int .i64 0,.int .i64 (-1),.int .i64 (-1),.int .i64 (-1)]])∧Below V.heap.size V w':=by
 have hl:PrS V (.slice (some ⟨g,0,none⟩) 2 2) Nw:=⟨_,2,rfl,Nat.le_refl _,by decide,fun _=>⟨g,0,rfl,Zi hr,fun i hi j x hx=>by
  have:i=0∨i=1:=by simp [Nw] at hi; omega
  rcases this with rfl | rfl
  ·exact(Zh hr (0+0*4+j)).trans (by
    match j,hx with
    | 0,hx=>exact hx
    | 1,hx=>exact hx
    | 2,hx=>exact hx
    | 3,hx=>exact hx
    | j+4,hx=>cases hx)
  ·exact(Zh hr (0+1*4+j)).trans (by
    match j,hx with
    | 0,hx=>exact hx
    | 1,hx=>exact hx
    | 2,hx=>exact hx
    | 3,hx=>exact hx
    | j+4,hx=>cases hx)⟩⟩
 refine(Yac (Ss pa pr ps ca cr cs) Nw _ V hE hT hl 3 (Zsv pa pr ps ca cr cs)).mono ?_;rintro e w' ⟨v,md,rfl,ho,hR,hb⟩;obtain⟨k,hk,rfl⟩:=hR.2 (Zkk pa pr ps ca cr cs);have e1:Jd (Ss pa pr ps ca cr cs).t0 (Ss pa pr ps ca cr cs).t1 k (Je Nw)=Jd 9 10 3 (Je Nw):=Zje k 3 hk Ce.1;rw [e1,Ce.2] at ho;rw [Zkk];obtain⟨p,c,rfl⟩:=Zr ho;exact⟨p,c,rfl,hb⟩
end Go.Proofs.YtkenknfgeoecbaaGreatDoor
