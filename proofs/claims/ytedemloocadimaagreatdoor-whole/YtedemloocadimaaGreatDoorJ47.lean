import Derived.Test.YtedemloocadimaaGreatDoorJ44
import Derived.Test.YtedemloocadimaaGreatDoorJ45
import Derived.Test.YtedemloocadimaaGreatDoorJ46
import Derived.Test.YtedemloocadimaaGreatDoorJ24
import Derived.Deep.LoopGhost
import Derived.Deep.RegionWith
namespace Go.Proofs.YtedemloocadimaaGreatDoor
open Go.RowKit
def Zrv (w':World)(rb b:Nat)(fv:Value)(steps kind:Int)(l:List Int)(tr:List (Int×List Int)):Prop :=
 ∃ scv frv tp tc es vp vc,Ni w' rb fv scv frv kind (.slice vp l.length vc) (.slice tp tr.length tc) steps∧w'.ownsRow b 50 1 (.slice vp l.length vc) l.length (uC l)∧TrI w' b (fun g=>g≠rb) (.slice tp tr.length tc) tr es
def Yed (w0 w':World)(rb b:Nat)(fv:Value)(steps:Int):Ik→Prop
 | .inl (st',sc',tr')=>∃(st:List Us) (sp:Option Addr) (sc:Nat) (frv tv:Value) (es:List Value),st.map (·.x)=st'∧Ni w' rb fv (.slice sp sc'.length sc) frv 0 (.slice none 0 0) tv steps∧Cg w0 (.slice sp sc'.length sc) sc'∧Ja w0 w' rb b st frv tv tr' es
 | .inr (.inl (l,_,tr'))=>Zrv w' rb b fv steps 1 l tr'
 | .inr (.inr (c,_,tr'))=>Zrv w' rb b fv steps 2 [c] tr'
theorem Ygc {n:Int}(h:n=1∨n=2∨n=4∨n=8):isW n=true:=by
 rcases h with rfl | rfl | rfl | rfl <;> rfl
theorem Ja.trE {w0 V:World}{rb b:Nat}{st:List Us}{frv tv:Value}{tr:List (Int×List Int)}{es:List Value}(h:Ja w0 V rb b st frv tv tr es):TrI V b (fun g=>g≠rb) tv tr es:=h.tr.keep (fun _ _ _ _ _ _ _=>rfl) (fun _ _ _ hN=>hN.2)
theorem Yee {P:Zw}{w0 w:World}{rb b fb fo fc:Nat}{A:Nat→Array Value}{f:Us}{R:List Us}{frv tv:Value}{tr:List (Int×List Int)}{es:List Value}{steps:Int}{sp:Option Addr}{scc:Nat}{sc:List Int}(hG:Gp P)(hPg:PgI w0 P fb fo A)(hwf:WfS P ((f :: R).map (·.x)))(hS:Ja w0 w rb b (f :: R) frv tv tr es)(hrow:Ni w rb (.slice (some ⟨fb,fo,none⟩) P.funcs.length fc) (.slice sp sc.length scc) frv 0 (.slice none 0 0) tv steps)(hsc:Cg w0 (.slice sp sc.length scc) sc)(hst:R.length≤50000)(htl:tr.length≤100000) :
 Calls Tryz.prog 113 #[.pointer (some ⟨rb,0,none⟩),.pointer (some ⟨f.q,0,none⟩)] w fun e w'=>(∃ v,e=.returned v)∧Yed w0 w' rb b (.slice (some ⟨fb,fo,none⟩) P.funcs.length fc) steps (stp P f.x (R.map (·.x)) sc tr)∧Below b w w':=by
 have hW:Uj P f.x:=WfS.top hwf;have hI:=hW.insG hG;cases hi:Yg f.x with
 | mk op d a bb n F args outs =>
 rw [hi] at hI;have g0:=hI.op0;have g1:=hI.op1;have hfl:=hI.fld;have hn0:=hI.n0;simp only at g0 g1 hn0;have hv:=hW.v;have hs:=hW.slen;have loc:∀(X:Nl),Sb (Yd f.x) ⟨op,d,a,bb,n,F,args,outs⟩=X→op≠12→op≠13→op<16→stp P f.x (R.map (·.x)) sc tr=.go (({ f with x:=X } :: R).map (·.x)) sc tr:=fun X hX h12 h13 h16=>by
  unfold stp;rw [hi];simp only;rw [if_neg h12,if_neg h13,if_neg (by omega),if_neg (by omega),if_neg (by omega),hX];rfl
 have fin:∀{w':World} (X:Nl),Ni w' rb (.slice (some ⟨fb,fo,none⟩) P.funcs.length fc) (.slice sp sc.length scc) frv 0 (.slice none 0 0) tv steps→Ja w0 w' rb b ({ f with x:=X } :: R) frv tv tr es→Yed w0 w' rb b (.slice (some ⟨fb,fo,none⟩) P.funcs.length fc) steps (.go (({ f with x:=X } :: R).map (·.x)) sc tr):=fun X h1 h2=>⟨_,sp,scc,frv,tv,es,rfl,h1,hsc,h2⟩;by_cases h1:op=1
 ·
  subst h1;have hd:=Zfq hfl (Or.inl (by simp only; decide));simp only at hd;refine(Znf hG hW hS hrow hi hd.1 (by omega)).mono ?_;rintro e w' ⟨hv',hR',hS',hB'⟩;refine⟨hv',?_,hB'⟩;rw [loc { Yd f.x with v:=f.x.v.set d.toNat n } (by unfold Sb; simp [Yd]) (by decide) (by decide) (by decide)];exact fin _ hR' hS'
 by_cases h2:op=2
 ·
  subst h2;have hd:=Zfq hfl (Or.inl (by simp only; decide));have ha:=Ybq hfl (by simp only; decide);simp only at hd ha;refine(Zro hG hW hS hrow hi hd.1 (by omega) ha.1 (by omega) rfl).mono ?_;rintro e w' ⟨hv',hR',hS',hB'⟩;refine⟨hv',?_,hB'⟩;rw [loc { Yd f.x with v:=f.x.v.set d.toNat (f.x.v.getD a.toNat 0) } (by unfold Sb; simp [Yd]) (by decide) (by decide) (by decide)];exact fin _ hR' hS'
 by_cases h10:op=10
 ·
  subst h10;have hd:=Zfq hfl (Or.inl (by simp only; decide));have ha:=Zdk hfl (by simp only; decide);simp only at hd ha;obtain⟨a0,a1,aw,b0,b1⟩:=ha;have hsl:=hW.slot (k:=a.toNat) (by omega);have hsm:=hW.small hG (f.x.s.getD a.toNat []) (by rw [Gt _ _ _ (by omega)]; exact List.getElem_mem _);refine(Zrn hG hW hS hrow hi hd.1 (by omega) a0 (by omega) (Ygc aw) b0 (by omega) hsm hn0).mono ?_;rintro e w' ⟨hv',hR',hS',hB'⟩;refine⟨hv',?_,hB'⟩;rw [loc { Yd f.x with v:=f.x.v.set d.toNat (ldB (f.x.s.getD a.toNat []) bb.toNat n.toNat) } (by unfold Sb; simp [Yd]) (by decide) (by decide) (by decide)];exact fin _ hR' hS'
 by_cases h11:op=11
 ·
  subst h11;have hd:=Zfq hfl (Or.inl (by simp only; decide));have ha:=Zdk hfl (by simp only; decide);simp only at hd ha;obtain⟨a0,a1,aw,b0,b1⟩:=ha;have hsl:=hW.slot (k:=a.toNat) (by omega);have hsm:=hW.small hG (f.x.s.getD a.toNat []) (by rw [Gt _ _ _ (by omega)]; exact List.getElem_mem _);refine(Zne hG hW hS hrow hi hd.1 (by omega) a0 (by omega) (Ygc aw) b0 (by omega) hsm hn0).mono ?_;rintro e w' ⟨hv',hR',hS',hB'⟩;refine⟨hv',?_,hB'⟩;rw [loc { Yd f.x with s:=f.x.s.set a.toNat (stB (f.x.s.getD a.toNat []) bb.toNat n.toNat (f.x.v.getD d.toNat 0)) } (by unfold Sb; simp [Yd]) (by decide) (by decide) (by decide)];exact fin _ hR' hS'
 by_cases h14:op=14
 ·
  subst h14;refine(Zrl hG hW hS hrow hi).mono ?_;rintro e w' ⟨hv',hR',hS',hB'⟩;refine⟨hv',?_,hB'⟩;rw [loc { f.x with b:=a,i:=0 } (by unfold Sb; simp [Yd]) (by decide) (by decide) (by decide)];exact fin _ hR' hS'
 by_cases h15:op=15
 ·
  subst h15;have hd:=Zfq hfl (Or.inr rfl);simp only at hd;refine(Zrm hG hW hS hrow hi rfl hd.1 (by omega)).mono ?_;rintro e w' ⟨hv',hR',hS',hB'⟩;refine⟨hv',?_,hB'⟩;rw [loc { f.x with b:=if f.x.v.getD d.toNat 0=0 then bb else a,i:=0 } (by unfold Sb; simp [Yd]) (by decide) (by decide) (by decide)];exact fin _ hR' hS'
 by_cases h12:op=12
 ·
  subst h12;refine(Zrq hPg hG hW hS hrow hi hst).mono ?_;rintro e w' ⟨hv',f',frv',hx',hR',hS',hB'⟩;refine⟨hv',?_,hB'⟩;unfold stp;rw [hi,if_pos rfl];exact⟨_,sp,scc,frv',tv,es,by simp only [List.map_cons]; rw [hx']; rfl,hR',hsc,hS'⟩
 by_cases h13:op=13
 ·
  subst h13;refine(Zvp hG hW hS hrow hsc hi htl).mono ?_;rintro e w' ⟨hv',tp',tc',sp',sc',wv,hR',hL',hS',hB'⟩;refine⟨hv',?_,hB'⟩;rw [show stp P f.x (R.map (·.x)) sc tr=.go ({ Yd f.x with v:=Ot f.x.v outs (Lm sc outs.length) } :: R.map (·.x)) (sc.drop outs.length) (tr++[(F,Xw f.x args)]) by unfold stp; simp [hi]];exact⟨_,sp',sc',frv,_,_,rfl,hR',hL',hS'⟩
 by_cases h16:op=16
 ·
  subst h16;cases R with
  | nil =>
   refine(Zrs hG hW hS hrow hi).mono ?_;rintro e w' ⟨hv',frv',vp,vc,hR',hS',hO',hB'⟩;refine⟨hv',?_,hB'⟩;have hl:(Ll f.x.v outs).length=outs.length:=by simp [Ll]
   obtain⟨tp,tc,rfl⟩:=Xk hS'.tr.row;rw [show stp P f.x (([]:List Us).map (·.x)) sc tr=.done (Ll f.x.v outs) sc tr by unfold stp; simp [hi]];exact⟨_,frv',tp,tc,es,vp,vc,by rw [hl]; exact hR',by rw [hl]; exact hO',hS'.trE⟩
  | cons c R =>
   have hr:=Zox hfl rfl;simp only at hr;have hwo:(f.x.o.length:Int)=f.x.fn.results:=hwf.2.1;refine(Zrt hG hW hS hrow hi (by omega) hwf.2.2.1 (by simp at hst; omega)).mono ?_;rintro e w' ⟨hv',frv',hR',hS',hB'⟩;refine⟨hv',?_,hB'⟩;rw [show stp P f.x ((c :: R).map (·.x)) sc tr=.go ({ c.x with v:=Ot c.x.v f.x.o (Ll f.x.v outs) } :: R.map (·.x)) sc tr by unfold stp; simp [hi]];exact⟨_,sp,scc,frv',tv,es,rfl,hR',hsc,hS'⟩
 by_cases h17:op=17
 ·
  subst h17;refine(Zru hPg hG hW hS hrow hi hst).mono ?_;rintro e w' ⟨hv',f',frv',hx',hR',hS',hB'⟩;refine⟨hv',?_,hB'⟩;rw [show stp P f.x (R.map (·.x)) sc tr=.go (Ka (P.funcs.getD F.toNat Zp) (Xw (Yd f.x) args) f.x.o :: R.map (·.x)) sc tr by unfold stp; simp [hi,Zdj]];exact⟨_,sp,scc,frv',tv,es,by simp only [List.map_cons]; rw [hx']; rfl,hR',hsc,hS'⟩
 by_cases h18:op=18
 ·
  subst h18;refine(Zrr hG hW hS hrow hi).mono ?_;rintro e w' ⟨hv',vp,vc,hR',hS',hO',hB'⟩;refine⟨hv',?_,hB'⟩;obtain⟨tp,tc,rfl⟩:=Xk hS'.tr.row;rw [show stp P f.x (R.map (·.x)) sc tr=.trap n sc tr by unfold stp; simp [hi]];exact⟨_,frv,tp,tc,es,vp,vc,hR',hO',hS'.trE⟩
 have hd:=Zfq hfl (Or.inl (by simp only; omega));have ha:=Ybq hfl (by simp only; omega);have hb:=Yga hfl (by simp only; omega);simp only at hd ha hb;refine(Zrp hG hW hS hrow hi (by omega) (by omega) hd.1 (by omega) ha.1 (by omega) hb.1 (by omega) rfl rfl rfl).mono ?_;rintro e w' ⟨hv',hR',hS',hB'⟩;refine⟨hv',?_,hB'⟩;rw [loc { Yd f.x with v:=f.x.v.set d.toNat (Zbe op (f.x.v.getD a.toNat 0) (f.x.v.getD bb.toNat 0)) } (by unfold Sb; simp [Yd,h1,h2,h10,h11,h14,h15]) h12 h13 (by omega)];exact fin _ hR' hS'
set_option maxHeartbeats 4000000
set_option maxRecDepth 100000
def Dq:Ss→Int
 | .inl (_,_,_,_)=>1
 | .inr (.inl (_,_,_,_))=>2
 | .inr (.inr (_,_))=>3
def Cv:Ss→List Int
 | .inl (l,_,_,_)=>l
 | .inr (.inl (c,_,_,_))=>[c]
 | .inr (.inr (_,_))=>[]
def Rk:Ss→List (Int×List Int)
 | .inl (_,_,_,tr)=>tr
 | .inr (.inl (_,_,_,tr))=>tr
 | .inr (.inr (_,tr))=>tr
def Om (fuel:Nat):Ss→Nat
 | .inl (_,m,_,_)=>fuel-m
 | .inr (.inl (_,m,_,_))=>fuel-m
 | .inr (.inr (_,_))=>fuel
theorem Zzz {P:Zw}{x:Nl}{R st:List Nl}{sc sc':List Int}{tr tr':List (Int×List Int)}(h:stp P x R sc tr=.go st sc' tr'):st.length≤R.length+2∧tr'.length≤tr.length+1:=by
 unfold stp at h;split at h
 ·
  obtain⟨h1,-,h3⟩:=Ik.go_inj h; subst h1 h3; simp
 split at h
 ·
  obtain⟨h1,-,h3⟩:=Ik.go_inj h; subst h1 h3; simp
 split at h
 ·
  cases R with
  | nil=>cases h
  | cons c R=>obtain⟨h1,-,h3⟩:=Ik.go_inj h; subst h1 h3; simp
 split at h
 ·
  obtain⟨h1,-,h3⟩:=Ik.go_inj h; subst h1 h3; simp
 split at h
 ·
  cases h
 ·
  obtain⟨h1,-,h3⟩:=Ik.go_inj h; subst h1 h3; simp
def GoI (P:Zw)(w0 w':World)(rb b:Nat)(fv:Value)(fuel n:Nat)(r:Ss):Prop :=
 ∃(f:Us) (R:List Us) (sp:Option Addr) (scc:Nat) (sc:List Int) (frv tv:Value) (tr:List (Int×List Int)) (es:List Value),Ni w' rb fv (.slice sp sc.length scc) frv 0 (.slice none 0 0) tv n∧Cg w0 (.slice sp sc.length scc) sc∧Ja w0 w' rb b (f :: R) frv tv tr es∧WfS P ((f :: R).map (·.x))∧(∀ n ∈ sc,0≤n∧n<18446744073709551616)∧r=ev P (fuel-n) ((f :: R).map (·.x)) sc tr∧R.length≤n∧tr.length≤n
theorem Zvq {P:Zw}{w0 w':World}{rb b:Nat}{fv:Value}{fuel n:Nat}{r:Ss}{x:Nl}{R:List Nl}{sc:List Int}{tr:List (Int×List Int)}(hG:Gp P)(hwf:WfS P (x :: R))(hsc:∀ n ∈ sc,0≤n∧n<18446744073709551616)(hr:r=ev P (fuel-n) (x :: R) sc tr)(hn:n<fuel)(hR:R.length≤n)(ht:tr.length≤n)(h:Yed w0 w' rb b fv ((n:Int)+1) (stp P x R sc tr)) :
 GoI P w0 w' rb b fv fuel (n+1) r∨((Dq r=1∨Dq r=2)∧Zrv w' rb b fv (Om fuel r) (Dq r) (Cv r) (Rk r)):=by
 have hf:fuel-n=(fuel-(n+1))+1:=by omega
 rw [hf,Yea] at hr;cases hs:stp P x R sc tr using Ik.el with
 | go st sc' tr' =>
  rw [hs] at hr h;obtain⟨hw,hs'⟩:=Yec hG hwf hsc tr hs;have hl:=Zzz hs;obtain⟨st,sp,scc,frv,tv,es,rfl,h1,h2,h3⟩:=h;left
  cases st with
  | nil=>exact hw.elim
  | cons f R'=>exact⟨f,R',sp,scc,sc',frv,tv,tr',es,h1,h2,h3,hw,hs',hr,by simp at hl; omega,by omega⟩
 | done l sc' tr' =>
  rw [hs] at hr h;right
  subst hr;refine⟨Or.inl rfl,?_⟩;have:(Om fuel (Ik.run P (fuel-(n+1)) (.done l sc' tr')):Int)=(n:Int)+1:=by simp [Ik.run,Om]; omega
  rw [this];exact h
 | trap c sc' tr' =>
  rw [hs] at hr h;right
  subst hr;refine⟨Or.inr rfl,?_⟩;have:(Om fuel (Ik.run P (fuel-(n+1)) (.trap c sc' tr')):Int)=(n:Int)+1:=by simp [Ik.run,Om]; omega
  rw [this];exact h
theorem Ja.set {w0 V:World}{rb b:Nat}{st:List Us}{frv tv:Value}{tr:List (Int×List Int)}{es:List Value}(h:Ja w0 V rb b st frv tv tr es)(hrow:∃ cs,V.heap[rb]?=some (.cells cs 182 (0,0)))(j:Nat)(v:Value):Ja w0 (V.setCell ⟨rb,j,none⟩ v) rb b st frv tv tr es:=h.own hrow ⟨rfl,rfl,rfl,by simp,fun q hq=>heap_setCell_other _ _ _ _ hq⟩
theorem Zdp {b rb:Nat}(w:World)(j:Nat)(v:Value)(h:b≤rb):Below b w (w.setCell ⟨rb,j,none⟩ v):=⟨rfl,rfl,rfl,by simp,fun q hq=>heap_setCell_other _ _ _ _ (by show q≠rb; omega)⟩
theorem Yaa (P:Zw)(w0 w:World)(rb b fb fo fc fuel:Nat)(A:Nat→Array Value)(r:Ss)(hG:Gp P)(hPg:PgI w0 P fb fo A)(hfu:fuel≤20000)(h:GoI P w0 w rb b (.slice (some ⟨fb,fo,none⟩) P.funcs.length fc) fuel 0 r)(hbrb:b≤rb) :
 Calls Tryz.prog 74 #[.pointer (some ⟨rb,0,none⟩),.int .i64 (fuel:Int)] w fun e w'=>(∃ v,e=.returned v)∧Zrv w' rb b (.slice (some ⟨fb,fo,none⟩) P.funcs.length fc) (Om fuel r) (Dq r) (Cv r) (Rk r)∧Below b w w':=by
 have HG:=Za hG;have HPG:=Za hPg;have H0:=Za h;clear hG hPg h;go_enter Tryz.func74,Tryz.ntmps74
 go_wp2_with fail
 go_loopg [] (fuel+1) (fun k w'=>Below b w w'∧((∃ n:Nat,k=fuel-n+1∧n≤fuel∧GoI P w0 w' rb b (.slice (some ⟨fb,fo,none⟩) P.funcs.length fc) fuel n r)∨(k=0∧(Dq r=1∨Dq r=2)∧Zrv w' rb b (.slice (some ⟨fb,fo,none⟩) P.funcs.length fc) (Om fuel r) (Dq r) (Cv r) (Rk r))))
 case atStart=>exact⟨Below.refl _ _,Or.inl ⟨0,by omega,by omega,J H0⟩⟩
 case round =>
  obtain⟨hB,hrel⟩:=hrel;have HB:=Za hB;clear hB;rcases hrel with⟨n,hk,hn,f,R,sp,scc,sc,frv,tv,tr,es,hrow,hL,hS,hwf,hsr,hr,hRl,htl⟩ | ⟨hk,hkd,he⟩
  ·
   have c3:=cR hrow 3;have c7:=cR hrow 7;have z7:=frozen_of_row _ _ 7 _ _ hrow;have z3:=frozen_of_row _ _ 3 _ _ hrow;have HK:=Za hk;have HR:=Za hr;clear hk hr;by_cases hnf:n<fuel
   ·
    have h1:Ni (wr.setCell ⟨rb,7,none⟩ (.int .i64 ((n:Int)+1))) rb (.slice (some ⟨fb,fo,none⟩) P.funcs.length fc) (.slice sp sc.length scc) frv 0 (.slice none 0 0) tv ((n:Int)+1):=heap_setCell_same _ _ 7 _ _ _ hrow;have hS1:=hS.set ⟨_,hrow⟩ 7 (.int .i64 ((n:Int)+1));have hB1:=(J HB).trans (Zdp wr 7 (.int .i64 ((n:Int)+1)) hbrb);obtain⟨g,gc,rfl⟩:=Sa hS1.fr;have HROW1:=Za h1;have HS1:=Za hS1;have HB1:=Za hB1;have HL:=Za hL;have HWF:=Za hwf;have HSR:=Za hsr;have hnI:(n:Int)<(fuel:Int):=by omega
    clear hrow hS hL hwf hsr h1 hS1 hB1;go_upto_region 2 with fail
    clear c3 c7 z7 z3;generalize World.setCell wr _ _=U at HROW1 HS1 HB1 ⊢;obtain⟨m,hm⟩:∃ m,m=R.length:=⟨_,rfl⟩;have HM:=Za hm;have c2:U.cell? ⟨rb,2,none⟩=some (.slice (some ⟨g,0,none⟩) (m+1) gc):=by rw [hm]; exact(cR (J HROW1) 2)
    have cp:U.cell? ⟨g,m,none⟩=some (.pointer (some ⟨f.q,0,none⟩)):=by
     obtain⟨g',e,-,hc⟩:=Rz (J HS1).fr (k:=m) (by rw [hm]; simp);injection e with e;injection e with e;subst e;rw [hc];have h2:Dx (f :: R)=Dx R++[.pointer (some ⟨f.q,0,none⟩)]:=by simp [Dx]
     rw [h2,hm,List.getElem?_append_right (by simp [Dx])];simp [Dx]
    have d2:U.drew.cell? ⟨rb,2,none⟩=some (.slice (some ⟨g,0,none⟩) (m+1) gc):=c2;have dp:U.drew.cell? ⟨g,m,none⟩=some (.pointer (some ⟨f.q,0,none⟩)):=cp;have hmi:IntKind.i64.wrap (m:Int)=(m:Int):=IntKind.wrap_of_boundsK (by omega) (by omega);have hm0:(0:Int)≤(m:Int):=by omega
    have hm1:(m:Int)<(m:Int)+1:=by omega
    have hml:m≤100000:=by omega
    have HST:=Za (Yee (w:=U.drew) (J HG) (J HPG) (J HWF) ((J HS1).grow (Below.refl _ _).drew) (J HROW1) (J HL) (by omega) (by omega));have HRL:=Za hRl;have HTL:=Za htl;clear hm hRl htl;go_region_with (go_at_call 113; refine(J HST).mono ?_; rintro e w5 ⟨⟨v5,rfl⟩,hA5,hB5⟩; have HA5:=Za hA5; have HB5:=Za hB5; clear hA5 hB5)
    all_goals
     clear c2 cp d2 dp;go_wp2;have hn':=Zvq (J HG) (J HWF) (J HSR) (J HR) hnf (by simpa using J HRL) (J HTL) (J HA5);have hB6:Below b w w5:=(J HB1).trans ⟨(J HB5).os,(J HB5).tape,(J HB5).output,(J HB5).size,(J HB5).block⟩;rcases hn' with hgo | ⟨hkd,hend⟩
     ·
      go_roundg (fuel-(n+1)+1)
      case measure=>rw [J HK]; omega
      case rel=>exact⟨hB6,Or.inl ⟨n+1,rfl,by omega,hgo⟩⟩
     ·
      go_roundg 0
      case measure=>rw [J HK]; omega
      case rel=>exact⟨hB6,Or.inr ⟨rfl,hkd,hend⟩⟩
   ·
    have hnn:n=fuel:=by omega
    subst hnn;have h1:Ni (wr.setCell ⟨rb,3,none⟩ (.int .i64 3)) rb (.slice (some ⟨fb,fo,none⟩) P.funcs.length fc) (.slice sp sc.length scc) frv 3 (.slice none 0 0) tv (n:Int):=heap_setCell_same _ _ 3 _ _ _ hrow;have hS1:=hS.set ⟨_,hrow⟩ 3 (.int .i64 3);have hB1:=(J HB).trans (Zdp wr 3 (.int .i64 3) hbrb);obtain⟨tp,tc,rfl⟩:=Xk hS.tr.row;have HROW1:=Za h1;have HS1:=Za hS1;have HB1:=Za hB1;clear hrow hS hL hwf hsr h1 hS1 hB1 hnf;go_wp2;go_returns;refine⟨⟨_,rfl⟩,?_,J HB1⟩;have hr:=J HR;rw [Nat.sub_self] at hr;have hr2:r=.spent sc tr:=by rw [hr]; rfl
    rw [hr2];exact⟨_,frv,tp,tc,es,none,0,J HROW1,World.ownsRow_nil _ _ _ _,(J HS1).trE⟩
  ·
   have hkd0:(Dq r==0)=false:=by rcases hkd with h | h <;> rw [h] <;> rfl
   obtain⟨scv,frv,tp,tc,es,vp,vc,hrow,hv,ht⟩:=he;have c3:=cR hrow 3;have HE:=Za (show Zrv wr rb b (.slice (some ⟨fb,fo,none⟩) P.funcs.length fc) (Om fuel r) (Dq r) (Cv r) (Rk r) from⟨scv,frv,tp,tc,es,vp,vc,hrow,hv,ht⟩);clear hrow hv ht hkd hk;go_wp2;go_returns;exact⟨⟨_,rfl⟩,J HE,J HB⟩
end Go.Proofs.YtedemloocadimaaGreatDoor
