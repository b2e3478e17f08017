import Derived.Test.YteddfaconabobaaGreatDoorJ27
import Derived.Test.YteddfaconabobaaGreatDoorJ28
import Derived.Test.YteddfaconabobaaGreatDoorPk
import Derived.Deep.LoopGhost
import Derived.Deep.RegionWith
import Derived.Test.YteddfaconabobaaGreatDoorFrL
import Derived.Test.YteddfaconabobaaGreatDoorJ15
import Derived.Test.YteddfaconabobaaGreatDoorJ19
namespace Go.Proofs.YteddfaconabobaaGreatDoor
open Go.RowKit
def Zgy (w':World)(rb b:Nat)(fv:Value)(steps kind:Int)(l:List Int)(tr:List (Int×List Int)):Prop :=
 ∃ scv frv tp tc es vp vc,Gv w' rb fv scv frv kind (.slice vp l.length vc) (.slice tp tr.length tc) steps∧w'.ownsRow b 62 1 (.slice vp l.length vc) l.length (uC l)∧TrI w' b (fun g=>g≠rb) (.slice tp tr.length tc) tr es
def Znr (w0 w':World)(rb b:Nat)(fv:Value)(steps:Int):StR→Prop
 | .go st' sc' tr'=>∃(st:List Mh) (sp:Option Addr) (sc:Nat) (frv tv:Value) (es:List Value),st.map (·.x)=st'∧Gv w' rb fv (.slice sp sc'.length sc) frv 0 (.slice none 0 0) tv steps∧Lv w0 (.slice sp sc'.length sc) sc'∧Xc w0 w' rb b st frv tv tr' es
 | .done l _ tr'=>Zgy w' rb b fv steps 1 l tr'
 | .trap c _ tr'=>Zgy w' rb b fv steps 2 [c] tr'
theorem Zpf {n:Int}(h:n=1∨n=2∨n=4∨n=8):isW n=true:=by
 rcases h with rfl | rfl | rfl | rfl <;> rfl
theorem Xc.trE {w0 V:World}{rb b:Nat}{st:List Mh}{frv tv:Value}{tr:List (Int×List Int)}{es:List Value}(h:Xc w0 V rb b st frv tv tr es):TrI V b (fun g=>g≠rb) tv tr es:=h.tr.keep (fun _ _ _ _ _ _ _=>rfl) (fun _ _ _ hN=>hN.2)
theorem Zns {P:Zl}{w0 w:World}{rb b fb fo fc:Nat}{A:Nat→Array Value}{f:Mh}{R:List Mh}{frv tv:Value}{tr:List (Int×List Int)}{es:List Value}{steps:Int}{sp:Option Addr}{scc:Nat}{sc:List Int}(hG:Yp P)(hPg:PgI w0 P fb fo A)(hwf:WfS P ((f :: R).map (·.x)))(hS:Xc w0 w rb b (f :: R) frv tv tr es)(hrow:Gv w rb (.slice (some ⟨fb,fo,none⟩) P.funcs.length fc) (.slice sp sc.length scc) frv 0 (.slice none 0 0) tv steps)(hsc:Lv w0 (.slice sp sc.length scc) sc)(hst:R.length≤50000)(htl:tr.length≤100000) :
 Calls Tryz.prog 65 #[.pointer (some ⟨rb,0,none⟩),.pointer (some ⟨f.q,0,none⟩)] w fun e w'=>(∃ v,e=.returned v)∧Znr w0 w' rb b (.slice (some ⟨fb,fo,none⟩) P.funcs.length fc) steps (Oq P f.x (R.map (·.x)) sc tr)∧Below b w w':=by
 have hW:Lp P f.x:=WfS.top hwf;have hI:=hW.insG hG;cases hi:Zo f.x with
 | mk op d a bb n F args outs =>
 rw [hi] at hI;have g0:=hI.op0;have g1:=hI.op1;have hfl:=hI.fld;have hn0:=hI.n0;simp only at g0 g1 hn0;have hv:=hW.v;have hs:=hW.slen;have loc:∀(X:Xl),Ld (Zp f.x) ⟨op,d,a,bb,n,F,args,outs⟩=X→op≠12→op≠13→op<16→Oq P f.x (R.map (·.x)) sc tr=.go (({ f with x:=X } :: R).map (·.x)) sc tr:=fun X hX h12 h13 h16=>by
  unfold Oq;rw [hi];simp only;rw [if_neg h12,if_neg h13,if_neg (by omega),if_neg (by omega),if_neg (by omega),hX];rfl
 have fin:∀{w':World} (X:Xl),Gv w' rb (.slice (some ⟨fb,fo,none⟩) P.funcs.length fc) (.slice sp sc.length scc) frv 0 (.slice none 0 0) tv steps→Xc w0 w' rb b ({ f with x:=X } :: R) frv tv tr es→Znr w0 w' rb b (.slice (some ⟨fb,fo,none⟩) P.funcs.length fc) steps (.go (({ f with x:=X } :: R).map (·.x)) sc tr):=fun X h1 h2=>⟨_,sp,scc,frv,tv,es,rfl,h1,hsc,h2⟩;by_cases h1:op=1
 ·
  subst h1;have hd:=Ub hfl (Or.inl (by simp only; decide));simp only at hd;refine(Zef hG hW hS hrow hi hd.1 (by omega)).mono ?_;rintro e w' ⟨hv',hR',hS',hB'⟩;refine⟨hv',?_,hB'⟩;rw [loc { Zp f.x with v:=f.x.v.set d.toNat n } (by unfold Ld; simp [Zp]) (by decide) (by decide) (by decide)];exact fin _ hR' hS'
 by_cases h2:op=2
 ·
  subst h2;have hd:=Ub hfl (Or.inl (by simp only; decide));have ha:=Zfj hfl (by simp only; decide);simp only at hd ha;refine(Zgr hG hW hS hrow hi hd.1 (by omega) ha.1 (by omega) rfl).mono ?_;rintro e w' ⟨hv',hR',hS',hB'⟩;refine⟨hv',?_,hB'⟩;rw [loc { Zp f.x with v:=f.x.v.set d.toNat (f.x.v.getD a.toNat 0) } (by unfold Ld; simp [Zp]) (by decide) (by decide) (by decide)];exact fin _ hR' hS'
 by_cases h10:op=10
 ·
  subst h10;have hd:=Ub hfl (Or.inl (by simp only; decide));have ha:=Ul hfl (by simp only; decide);simp only at hd ha;obtain⟨a0,a1,aw,b0,b1⟩:=ha;have hsl:=hW.slot (k:=a.toNat) (by omega);have hsm:=hW.small hG (f.x.s.getD a.toNat []) (by rw [Yu _ _ _ (by omega)]; exact List.getElem_mem _);refine(Zgq hG hW hS hrow hi hd.1 (by omega) a0 (by omega) (Zpf aw) b0 (by omega) hsm hn0).mono ?_;rintro e w' ⟨hv',hR',hS',hB'⟩;refine⟨hv',?_,hB'⟩;rw [loc { Zp f.x with v:=f.x.v.set d.toNat (Ns (f.x.s.getD a.toNat []) bb.toNat n.toNat) } (by unfold Ld; simp [Zp]) (by decide) (by decide) (by decide)];exact fin _ hR' hS'
 by_cases h11:op=11
 ·
  subst h11;have hd:=Ub hfl (Or.inl (by simp only; decide));have ha:=Ul hfl (by simp only; decide);simp only at hd ha;obtain⟨a0,a1,aw,b0,b1⟩:=ha;have hsl:=hW.slot (k:=a.toNat) (by omega);have hsm:=hW.small hG (f.x.s.getD a.toNat []) (by rw [Yu _ _ _ (by omega)]; exact List.getElem_mem _);refine(Zee hG hW hS hrow hi hd.1 (by omega) a0 (by omega) (Zpf aw) b0 (by omega) hsm hn0).mono ?_;rintro e w' ⟨hv',hR',hS',hB'⟩;refine⟨hv',?_,hB'⟩;rw [loc { Zp f.x with s:=f.x.s.set a.toNat (Sb (f.x.s.getD a.toNat []) bb.toNat n.toNat (f.x.v.getD d.toNat 0)) } (by unfold Ld; simp [Zp]) (by decide) (by decide) (by decide)];exact fin _ hR' hS'
 by_cases h14:op=14
 ·
  subst h14;refine(Zgo hG hW hS hrow hi).mono ?_;rintro e w' ⟨hv',hR',hS',hB'⟩;refine⟨hv',?_,hB'⟩;rw [loc { f.x with b:=a,i:=0 } (by unfold Ld; simp [Zp]) (by decide) (by decide) (by decide)];exact fin _ hR' hS'
 by_cases h15:op=15
 ·
  subst h15;have hd:=Ub hfl (Or.inr rfl);simp only at hd;refine(Zgp hG hW hS hrow hi rfl hd.1 (by omega)).mono ?_;rintro e w' ⟨hv',hR',hS',hB'⟩;refine⟨hv',?_,hB'⟩;rw [loc { f.x with b:=if f.x.v.getD d.toNat 0=0 then bb else a,i:=0 } (by unfold Ld; simp [Zp]) (by decide) (by decide) (by decide)];exact fin _ hR' hS'
 by_cases h12:op=12
 ·
  subst h12;refine(Zgt hPg hG hW hS hrow hi hst).mono ?_;rintro e w' ⟨hv',f',frv',hx',hR',hS',hB'⟩;refine⟨hv',?_,hB'⟩;unfold Oq;rw [hi,if_pos rfl];exact⟨_,sp,scc,frv',tv,es,by simp only [List.map_cons]; rw [hx']; rfl,hR',hsc,hS'⟩
 by_cases h13:op=13
 ·
  subst h13;refine(Zjh hG hW hS hrow hsc hi htl).mono ?_;rintro e w' ⟨hv',tp',tc',sp',sc',wv,hR',hL',hS',hB'⟩;refine⟨hv',?_,hB'⟩;rw [show Oq P f.x (R.map (·.x)) sc tr=.go ({ Zp f.x with v:=Xp f.x.v outs (Yt sc outs.length) } :: R.map (·.x)) (sc.drop outs.length) (tr++[(F,Zv f.x args)]) by unfold Oq; simp [hi]];exact⟨_,sp',sc',frv,_,_,rfl,hR',hL',hS'⟩
 by_cases h16:op=16
 ·
  subst h16;cases R with
  | nil =>
   refine(Zgv hG hW hS hrow hi).mono ?_;rintro e w' ⟨hv',frv',vp,vc,hR',hS',hO',hB'⟩;refine⟨hv',?_,hB'⟩;have hl:(Xf f.x.v outs).length=outs.length:=by simp [Xf]
   obtain⟨tp,tc,rfl⟩:=Zm hS'.tr.row;rw [show Oq P f.x (([]:List Mh).map (·.x)) sc tr=.done (Xf f.x.v outs) sc tr by unfold Oq; simp [hi]];exact⟨_,frv',tp,tc,es,vp,vc,by rw [hl]; exact hR',by rw [hl]; exact hO',hS'.trE⟩
  | cons c R =>
   have hr:=Zfk hfl rfl;simp only at hr;have hwo:(f.x.o.length:Int)=f.x.fn.results:=hwf.2.1;refine(Zgw hG hW hS hrow hi (by omega) hwf.2.2.1 (by simp at hst; omega)).mono ?_;rintro e w' ⟨hv',frv',hR',hS',hB'⟩;refine⟨hv',?_,hB'⟩;rw [show Oq P f.x ((c :: R).map (·.x)) sc tr=.go ({ c.x with v:=Xp c.x.v f.x.o (Xf f.x.v outs) } :: R.map (·.x)) sc tr by unfold Oq; simp [hi]];exact⟨_,sp,scc,frv',tv,es,rfl,hR',hsc,hS'⟩
 by_cases h17:op=17
 ·
  subst h17;refine(Zgx hPg hG hW hS hrow hi hst).mono ?_;rintro e w' ⟨hv',f',frv',hx',hR',hS',hB'⟩;refine⟨hv',?_,hB'⟩;rw [show Oq P f.x (R.map (·.x)) sc tr=.go (Jj (P.funcs.getD F.toNat Ze) (Zv (Zp f.x) args) f.x.o :: R.map (·.x)) sc tr by unfold Oq; simp [hi,Ma]];exact⟨_,sp,scc,frv',tv,es,by simp only [List.map_cons]; rw [hx']; rfl,hR',hsc,hS'⟩
 by_cases h18:op=18
 ·
  subst h18;refine(Zgu hG hW hS hrow hi).mono ?_;rintro e w' ⟨hv',vp,vc,hR',hS',hO',hB'⟩;refine⟨hv',?_,hB'⟩;obtain⟨tp,tc,rfl⟩:=Zm hS'.tr.row;rw [show Oq P f.x (R.map (·.x)) sc tr=.trap n sc tr by unfold Oq; simp [hi]];exact⟨_,frv,tp,tc,es,vp,vc,hR',hO',hS'.trE⟩
 have hd:=Ub hfl (Or.inl (by simp only; omega));have ha:=Zfj hfl (by simp only; omega);have hb:=Zmt hfl (by simp only; omega);simp only at hd ha hb;refine(Zgs hG hW hS hrow hi (by omega) (by omega) hd.1 (by omega) ha.1 (by omega) hb.1 (by omega) rfl rfl rfl).mono ?_;rintro e w' ⟨hv',hR',hS',hB'⟩;refine⟨hv',?_,hB'⟩;rw [loc { Zp f.x with v:=f.x.v.set d.toNat (Mv op (f.x.v.getD a.toNat 0) (f.x.v.getD bb.toNat 0)) } (by unfold Ld; simp [Zp,h1,h2,h10,h11,h14,h15]) h12 h13 (by omega)];exact fin _ hR' hS'
def Ln:Ye→Int
 | .done _ _ _ _=>1
 | .trap _ _ _ _=>2
 | .spent _ _=>3
def Md:Ye→List Int
 | .done l _ _ _=>l
 | .trap c _ _ _=>[c]
 | .spent _ _=>[]
def Zy:Ye→List (Int×List Int)
 | .done _ _ _ tr=>tr
 | .trap _ _ _ tr=>tr
 | .spent _ tr=>tr
def Yc (fuel:Nat):Ye→Nat
 | .done _ m _ _=>fuel-m
 | .trap _ m _ _=>fuel-m
 | .spent _ _=>fuel
theorem Zfn {P:Zl}{x:Xl}{R st:List Xl}{sc sc':List Int}{tr tr':List (Int×List Int)}(h:Oq P x R sc tr=.go st sc' tr'):st.length≤R.length+2∧tr'.length≤tr.length+1:=by
 unfold Oq at h;split at h
 ·
  injection h with h1 h2 h3; subst h1 h3; simp
 split at h
 ·
  injection h with h1 h2 h3; subst h1 h3; simp
 split at h
 ·
  cases R with
  | nil=>cases h
  | cons c R=>injection h with h1 h2 h3; subst h1 h3; simp
 split at h
 ·
  injection h with h1 h2 h3; subst h1 h3; simp
 split at h
 ·
  cases h
 ·
  injection h with h1 h2 h3; subst h1 h3; simp
def GoI (P:Zl)(w0 w':World)(rb b:Nat)(fv:Value)(fuel n:Nat)(r:Ye):Prop :=
 ∃(f:Mh) (R:List Mh) (sp:Option Addr) (scc:Nat) (sc:List Int) (frv tv:Value) (tr:List (Int×List Int)) (es:List Value),Gv w' rb fv (.slice sp sc.length scc) frv 0 (.slice none 0 0) tv n∧Lv w0 (.slice sp sc.length scc) sc∧Xc w0 w' rb b (f :: R) frv tv tr es∧WfS P ((f :: R).map (·.x))∧(∀ n ∈ sc,0≤n∧n<18446744073709551616)∧r=ev P (fuel-n) ((f :: R).map (·.x)) sc tr∧R.length≤n∧tr.length≤n
theorem Zji {P:Zl}{w0 w':World}{rb b:Nat}{fv:Value}{fuel n:Nat}{r:Ye}{x:Xl}{R:List Xl}{sc:List Int}{tr:List (Int×List Int)}(hG:Yp P)(hwf:WfS P (x :: R))(hsc:∀ n ∈ sc,0≤n∧n<18446744073709551616)(hr:r=ev P (fuel-n) (x :: R) sc tr)(hn:n<fuel)(hR:R.length≤n)(ht:tr.length≤n)(h:Znr w0 w' rb b fv ((n:Int)+1) (Oq P x R sc tr)) :
 GoI P w0 w' rb b fv fuel (n+1) r∨((Ln r=1∨Ln r=2)∧Zgy w' rb b fv (Yc fuel r) (Ln r) (Md r) (Zy r)):=by
 have hf:fuel-n=(fuel-(n+1))+1:=by omega
 rw [hf,Ot] at hr;cases hs:Oq P x R sc tr with
 | go st sc' tr' =>
  rw [hs] at hr h;obtain⟨hw,hs'⟩:=Zjf hG hwf hsc tr hs;have hl:=Zfn hs;obtain⟨st,sp,scc,frv,tv,es,rfl,h1,h2,h3⟩:=h;left
  cases st with
  | nil=>exact hw.elim
  | cons f R'=>exact⟨f,R',sp,scc,sc',frv,tv,tr',es,h1,h2,h3,hw,hs',hr,by simp at hl; omega,by omega⟩
 | done l sc' tr' =>
  rw [hs] at hr h;right
  subst hr;refine⟨Or.inl rfl,?_⟩;have:(Yc fuel (StR.run P (fuel-(n+1)) (.done l sc' tr')):Int)=(n:Int)+1:=by simp [StR.run,Yc]; omega
  rw [this];exact h
 | trap c sc' tr' =>
  rw [hs] at hr h;right
  subst hr;refine⟨Or.inr rfl,?_⟩;have:(Yc fuel (StR.run P (fuel-(n+1)) (.trap c sc' tr')):Int)=(n:Int)+1:=by simp [StR.run,Yc]; omega
  rw [this];exact h
theorem Xc.set {w0 V:World}{rb b:Nat}{st:List Mh}{frv tv:Value}{tr:List (Int×List Int)}{es:List Value}(h:Xc w0 V rb b st frv tv tr es)(hrow:∃ cs,V.heap[rb]?=some (.cells cs 110 (0,0)))(j:Nat)(v:Value):Xc w0 (V.setCell ⟨rb,j,none⟩ v) rb b st frv tv tr es:=h.own hrow ⟨rfl,rfl,rfl,by simp,fun q hq=>heap_setCell_other _ _ _ _ hq⟩
theorem Cc {b rb:Nat}(w:World)(j:Nat)(v:Value)(h:b≤rb):Below b w (w.setCell ⟨rb,j,none⟩ v):=⟨rfl,rfl,rfl,by simp,fun q hq=>heap_setCell_other _ _ _ _ (by show q≠rb; omega)⟩
set_option maxHeartbeats 4000000 in
set_option maxRecDepth 100000 in
theorem Zlo (P:Zl)(w0 w:World)(rb b fb fo fc fuel:Nat)(A:Nat→Array Value)(r:Ye)(hG:Yp P)(hPg:PgI w0 P fb fo A)(hfu:fuel≤20000)(h:GoI P w0 w rb b (.slice (some ⟨fb,fo,none⟩) P.funcs.length fc) fuel 0 r)(hbrb:b≤rb) :
 Calls Tryz.prog 43 #[.pointer (some ⟨rb,0,none⟩),.int .i64 (fuel:Int)] w fun e w'=>(∃ v,e=.returned v)∧Zgy w' rb b (.slice (some ⟨fb,fo,none⟩) P.funcs.length fc) (Yc fuel r) (Ln r) (Md r) (Zy r)∧Below b w w':=by
 have HG:=J hG;have HPG:=J hPg;have H0:=J h;clear hG hPg h;go_enter Tryz.func43,Tryz.ntmps43
 go_wp2_with fail
 go_loopg [] (fuel+1) (fun k w'=>Below b w w'∧((∃ n:Nat,k=fuel-n+1∧n≤fuel∧GoI P w0 w' rb b (.slice (some ⟨fb,fo,none⟩) P.funcs.length fc) fuel n r)∨(k=0∧(Ln r=1∨Ln r=2)∧Zgy w' rb b (.slice (some ⟨fb,fo,none⟩) P.funcs.length fc) (Yc fuel r) (Ln r) (Md r) (Zy r))))
 case atStart=>exact⟨Below.refl _ _,Or.inl ⟨0,by omega,by omega,G H0⟩⟩
 case round =>
  obtain⟨hB,hrel⟩:=hrel;have HB:=J hB;clear hB;rcases hrel with⟨n,hk,hn,f,R,sp,scc,sc,frv,tv,tr,es,hrow,hL,hS,hwf,hsr,hr,hRl,htl⟩ | ⟨hk,hkd,he⟩
  ·
   have c3:=cR hrow 3;have c7:=cR hrow 7;have z7:=frozen_of_row _ _ 7 _ _ hrow;have z3:=frozen_of_row _ _ 3 _ _ hrow;have HK:=J hk;have HR:=J hr;clear hk hr;by_cases hnf:n<fuel
   ·
    have h1:Gv (wr.setCell ⟨rb,7,none⟩ (.int .i64 ((n:Int)+1))) rb (.slice (some ⟨fb,fo,none⟩) P.funcs.length fc) (.slice sp sc.length scc) frv 0 (.slice none 0 0) tv ((n:Int)+1):=heap_setCell_same _ _ 7 _ _ _ hrow;have hS1:=hS.set ⟨_,hrow⟩ 7 (.int .i64 ((n:Int)+1));have hB1:=(G HB).trans (Cc wr 7 (.int .i64 ((n:Int)+1)) hbrb);obtain⟨g,gc,rfl⟩:=Ob hS1.fr;have HROW1:=J h1;have HS1:=J hS1;have HB1:=J hB1;have HL:=J hL;have HWF:=J hwf;have HSR:=J hsr;have hnI:(n:Int)<(fuel:Int):=by omega
    clear hrow hS hL hwf hsr h1 hS1 hB1;go_upto_region 2 with fail
    clear c3 c7 z7 z3;generalize World.setCell wr _ _=U at HROW1 HS1 HB1 ⊢;obtain⟨m,hm⟩:∃ m,m=R.length:=⟨_,rfl⟩;have HM:=J hm;have c2:U.cell? ⟨rb,2,none⟩=some (.slice (some ⟨g,0,none⟩) (m+1) gc):=by rw [hm]; exact(cR (G HROW1) 2)
    have cp:U.cell? ⟨g,m,none⟩=some (.pointer (some ⟨f.q,0,none⟩)):=by
     obtain⟨g',e,-,hc⟩:=Nz (G HS1).fr (k:=m) (by rw [hm]; simp);injection e with e;injection e with e;subst e;rw [hc];have h2:Nf (f :: R)=Nf R++[.pointer (some ⟨f.q,0,none⟩)]:=by simp [Nf]
     rw [h2,hm,List.getElem?_append_right (by simp [Nf])];simp [Nf]
    have d2:U.drew.cell? ⟨rb,2,none⟩=some (.slice (some ⟨g,0,none⟩) (m+1) gc):=c2;have dp:U.drew.cell? ⟨g,m,none⟩=some (.pointer (some ⟨f.q,0,none⟩)):=cp;have hmi:IntKind.i64.wrap (m:Int)=(m:Int):=IntKind.wrap_of_boundsK (by omega) (by omega);have hm0:(0:Int)≤(m:Int):=by omega
    have hm1:(m:Int)<(m:Int)+1:=by omega
    have hml:m≤100000:=by omega
    have HST:=J (Zns (w:=U.drew) (G HG) (G HPG) (G HWF) ((G HS1).grow (Below.refl _ _).drew) (G HROW1) (G HL) (by omega) (by omega));have HRL:=J hRl;have HTL:=J htl;clear hm hRl htl;go_region_with (go_at_call 65; refine(G HST).mono ?_; rintro e w5 ⟨⟨v5,rfl⟩,hA5,hB5⟩; have HA5:=J hA5; have HB5:=J hB5; clear hA5 hB5)
    all_goals
     clear c2 cp d2 dp;go_wp2;have hn':=Zji (G HG) (G HWF) (G HSR) (G HR) hnf (by simpa using G HRL) (G HTL) (G HA5);have hB6:Below b w w5:=(G HB1).trans ⟨(G HB5).os,(G HB5).tape,(G HB5).output,(G HB5).size,(G HB5).block⟩;rcases hn' with hgo | ⟨hkd,hend⟩
     ·
      go_roundg (fuel-(n+1)+1)
      case measure=>rw [G HK]; omega
      case rel=>exact⟨hB6,Or.inl ⟨n+1,rfl,by omega,hgo⟩⟩
     ·
      go_roundg 0
      case measure=>rw [G HK]; omega
      case rel=>exact⟨hB6,Or.inr ⟨rfl,hkd,hend⟩⟩
   ·
    have hnn:n=fuel:=by omega
    subst hnn;have h1:Gv (wr.setCell ⟨rb,3,none⟩ (.int .i64 3)) rb (.slice (some ⟨fb,fo,none⟩) P.funcs.length fc) (.slice sp sc.length scc) frv 3 (.slice none 0 0) tv (n:Int):=heap_setCell_same _ _ 3 _ _ _ hrow;have hS1:=hS.set ⟨_,hrow⟩ 3 (.int .i64 3);have hB1:=(G HB).trans (Cc wr 3 (.int .i64 3) hbrb);obtain⟨tp,tc,rfl⟩:=Zm hS.tr.row;have HROW1:=J h1;have HS1:=J hS1;have HB1:=J hB1;clear hrow hS hL hwf hsr h1 hS1 hB1 hnf;go_wp2;go_returns;refine⟨⟨_,rfl⟩,?_,G HB1⟩;have hr:=G HR;rw [Nat.sub_self] at hr;have hr2:r=.spent sc tr:=by rw [hr]; rfl
    rw [hr2];exact⟨_,frv,tp,tc,es,none,0,G HROW1,World.ownsRow_nil _ _ _ _,(G HS1).trE⟩
  ·
   have hkd0:(Ln r==0)=false:=by rcases hkd with h | h <;> rw [h] <;> rfl
   obtain⟨scv,frv,tp,tc,es,vp,vc,hrow,hv,ht⟩:=he;have c3:=cR hrow 3;have HE:=J (show Zgy wr rb b (.slice (some ⟨fb,fo,none⟩) P.funcs.length fc) (Yc fuel r) (Ln r) (Md r) (Zy r) from⟨scv,frv,tp,tc,es,vp,vc,hrow,hv,ht⟩);clear hrow hv ht hkd hk;go_wp2;go_returns;exact⟨⟨_,rfl⟩,G HE,G HB⟩
theorem Tryz.infOutP:(Tryz.prog.info? 38).map (·.size)=some 6:=by kernel_rfl
def Jx (l:List Int):Nat:=(l.map fun w=>if w=0 then 1 else w.toNat).foldr (·+·) 0
theorem Zag (l:List (Int×Int)):Jx (l.map (·.1))=Xe l:=by
 unfold Jx Xe;rw [List.map_map];rfl
theorem Zgz (l m:List Int):Jx (l++m)=Jx l+Jx m:=by
 induction l with
 | nil=>simp [Jx]
 | cons a l ih =>
  show(if a=0 then 1 else a.toNat)+Jx (l++m)=(if a=0 then 1 else a.toNat)+Jx l+Jx m;omega
theorem Dr (l:List Int)(k:Nat)(h:k<l.length):Jx (l.take (k+1))=Jx (l.take k)+(if l.getD k 0=0 then 1 else (l.getD k 0).toNat):=by
 rw [List.take_add_one,List.getElem?_eq_getElem h,Zgz,Yu l 0 k h];simp [Jx]
theorem Cd (l:List Int)(h:∀ k,k<l.length→0≤l.getD k 0∧l.getD k 0≤8):∀ k,k≤l.length→Jx (l.take k)≤8*k
 | 0,_=>by simp [Jx]
 | k+1,hk=>by
  have ih:=Cd l h k (by omega);have:=h k (by omega);rw [Dr l k (by omega)];split <;> omega
set_option maxHeartbeats 2000000 in
set_option maxRecDepth 100000 in
theorem Zcx (v:Value)(ps:List Int)(res:Int)(w:World)(h:Li w v ps)(hl:ps.length≤8)(hp:∀ k,k<ps.length→0≤ps.getD k 0∧ps.getD k 0≤8) :
 Calls Tryz.prog 40 #[.agg #[v,.int .i64 res]] w fun e w'=>e=.returned (.int .i64 (Jx ps:Nat))∧Below w.heap.size w w':=by
 obtain⟨q,c,rfl⟩:=h.shape;obtain⟨r0,hb0,hz0⟩:=Yj w (.cells #[.slice q ps.length c,.int .i64 res] 56 (0,0));have HL:=J (h.below hb0);have HB:=J hb0;have HP:=J hp;have HLE:=J (Cd ps hp);have c0:=cR r0 0;clear h r0 hb0 hz0 hp;go_enter Tryz.func40,Tryz.ntmps40
 go_upto_region 2 with fail
 generalize World.alloc w _=W at HL HB c0 ⊢;go_wp2_with fail
 go_loopw [9,3] (fun sk sn w'=>∃ k:Nat,sk=.int .i64 k∧sn=.int .i64 (Jx (ps.take k):Nat)∧k≤ps.length∧w'=W) (fun sk _ _=>ps.length-(intOf sk).toNat)
 case atStart=>exact⟨0,rfl,by simp [Jx],by omega,rfl⟩
 case round =>
  obtain⟨k,rfl,rfl,hk,hw⟩:=hrel;subst wr;by_cases hk2:k<ps.length
  ·
   obtain⟨p',c',e1,-,-,hcc⟩:=G HL;injection e1 with f1 f2 f3;obtain⟨sb,so,hsp,hcell⟩:=hcc (by omega);rw [← f1] at hsp;subst hsp;have d:=hcell k hk2;have hb:=G HP k hk2;have hle:=G HLE k hk;have HNX:=J (Dr ps k hk2);generalize Jx (ps.take k)=m at hle HNX ⊢;generalize ps.getD k 0=y at d hb HNX;clear f1 f2 f3 hcc hcell c0;by_cases hy:y=0
   ·
    subst hy;have HN2:=J (show Jx (ps.take (k+1))=m+1 by rw [G HNX,if_pos rfl]);clear HNX hb;go_wp2;go_roundw
    case rel=>exact⟨k+1,by go_num,by rw [G HN2]; go_num,by omega,trivial⟩
    case measure=>simp [intOf]; omega
   ·
    obtain⟨z,rfl⟩:=Int.eq_ofNat_of_zero_le hb.1;have HN2:=J (show Jx (ps.take (k+1))=m+z by rw [G HNX,if_neg hy,Int.toNat_natCast]);have hz1:(1:Int)≤(z:Int):=by omega
    have hz8:z≤8:=by omega
    clear HNX hb hy;go_wp2;go_roundw
    case rel=>exact⟨k+1,by go_num,by rw [G HN2]; go_num,by omega,trivial⟩
    case measure=>simp [intOf]; omega
  ·
   have hkn:k=ps.length:=by omega
   subst hkn;rw [List.take_length];clear c0;go_wp2;go_ret;exact⟨rfl,G HB⟩
theorem Ka {w w':World}{v:Value}{ws:List Int}(h:Lv w v ws)(hb:Below w.heap.size w w'):Lv w' v ws:=Yx h hb
structure Zbi where
 kind:Int
 vals:List Int
 tr:List (Int×List Int)
 steps:Int
def Un:Zbi:=⟨0,[],[],0⟩
def Mk (V:World)(B:Nat)(o:Zbi)(vv tv:Value):Prop:=V.ownsRow B 62 1 vv o.vals.length (uC o.vals)∧∃ es,TrI V B (fun _=>True) tv o.tr es
theorem Ge (V:World)(B:Nat):Mk V B Un (.slice none 0 0) (.slice none 0 0):=⟨World.ownsRow_nil _ _ _ _,[],⟨rfl,World.ownsRow_nil _ _ _ _,fun _ _=>trivial,fun k hk=>absurd hk (Nat.not_lt_zero k)⟩⟩
theorem Ce {V V':World}{B:Nat}{o:Zbi}{vv tv:Value}(h:Mk V B o vv tv)(hk:∀ g,B≤g→g<V.heap.size→V'.heap[g]?=V.heap[g]?):Mk V' B o vv tv:=by
 obtain⟨h1,es,h2⟩:=h;exact⟨Yq h1 fun g hg=>hk g (h1.lt g hg).1 (h1.lt g hg).2,es,h2.keep (fun g _ _ hr _ hb _=>hk g hb (Zd hr)) (fun _ _ _ h=>h)⟩
theorem Gf {V:World}{B B':Nat}{o:Zbi}{vv tv:Value}(h:Mk V B o vv tv)(hB:B'≤B):Mk V B' o vv tv:=by
 obtain⟨h1,es,h2⟩:=h;exact⟨Gy h1 hB,es,⟨h2.len,Gy h2.row hB,fun _ _=>trivial,fun k hk=>⟨Gy (h2.each k hk).1 hB,fun _ _=>trivial⟩⟩⟩
theorem Yr {V V':World}{B:Nat}{o:Zbi}{vv tv:Value}(h:Mk V B o vv tv)(hb:Below V.heap.size V V'):Mk V' B o vv tv:=Ce h fun g _ hg=>hb.block g hg
theorem Gz {V:World}{B g:Nat}{o:Zbi}{vv tv:Value}(h:Mk V B o vv tv)(hg:g<B)(cs:Array Value):Mk (V.setRow g cs) B o vv tv:=Ce h fun q hq _=>setRow_other _ _ _ _ (by omega)
def Mz (P:Zl)(f:Int)(args:List Int)(fuel:Int):Prop:=0≤f∧f<P.funcs.length∧args.length=Xe (P.funcs.getD f.toNat Ze).params∧0≤fuel∧fuel≤20000
instance (P:Zl) (f:Int) (args:List Int) (fuel:Int):Decidable (Mz P f args fuel):=by unfold Mz; infer_instance
def Na (P:Zl)(f:Int)(args sc:List Int)(fuel:Int):Ye:=ev P fuel.toNat [Jj (P.funcs.getD f.toNat Ze) args []] sc []
def Gp (T:Lr)(P:Zl)(f:Int)(args sc:List Int)(fuel:Int):Zbi :=
 if (Uk T P).e=0 then (if Mz P f args fuel then ⟨Ln (Na P f args sc fuel),Md (Na P f args sc fuel),Zy (Na P f args sc fuel),Yc fuel.toNat (Na P f args sc fuel)⟩ else Un) else Un
def Mg (T:Lr)(P:Zl)(f:Int)(args:List Int)(fuel:Int):Cz:=if (Uk T P).e=0 then (if Mz P f args fuel then ⟨0,-1,-1,-1⟩ else ⟨6,-1,-1,-1⟩) else Uk T P
theorem Zeg {T:Lr}{P:Zl}{f fuel:Int}{args:List Int}(sc:List Int)(hc:(Uk T P).e=0)(h:Mz P f args fuel):Gp T P f args sc fuel=⟨Ln (Na P f args sc fuel),Md (Na P f args sc fuel),Zy (Na P f args sc fuel),Yc fuel.toNat (Na P f args sc fuel)⟩∧Mg T P f args fuel=⟨0,-1,-1,-1⟩:=by
 unfold Gp Mg;rw [if_pos hc,if_pos hc,if_pos h,if_pos h];exact⟨rfl,rfl⟩
theorem Ov {T:Lr}{P:Zl}{f fuel:Int}{args:List Int}(sc:List Int)(hc:(Uk T P).e=0)(h:¬ Mz P f args fuel):Gp T P f args sc fuel=Un∧Mg T P f args fuel=⟨6,-1,-1,-1⟩:=by
 unfold Gp Mg;rw [if_pos hc,if_pos hc,if_neg h,if_neg h];exact⟨rfl,rfl⟩
theorem Zbj {T:Lr}{P:Zl}{f fuel:Int}{args:List Int}(sc:List Int)(hc:¬ (Uk T P).e=0):Gp T P f args sc fuel=Un∧Mg T P f args fuel=Uk T P:=by
 unfold Gp Mg;rw [if_neg hc,if_neg hc];exact⟨rfl,rfl⟩
theorem Zbk {T:Lr}{P:Zl}(hc:(Uk T P).e=0)(hwd:∀ f ∈ P.funcs,∀ l ∈ f.blocks,∀ i ∈ l,0≤i.n∧i.n<18446744073709551616):Yp P:=by
 obtain⟨-,h2,h3,h4⟩:=Zii (show(Gr (Zoz T) T.r (Zt T.sp T.lk T.t0 T.t1) P).e=0 from hc);exact⟨h2,⟨_,_,h3⟩,h4,hwd⟩
set_option maxHeartbeats 4000000 in
set_option maxRecDepth 100000 in
theorem Zpg (T:Lr)(P:Zl)(f fuel:Int)(args sc:List Int)(ap sp:Option Addr)(ac scc:Nat)(fv ev:Value)(A E:Nat→Array Value)(w:World)(hA:Zdv w T P fv ev A E)(hwd:∀ f ∈ P.funcs,∀ l ∈ f.blocks,∀ i ∈ l,0≤i.n∧i.n<18446744073709551616)(hAr:Lv w (.slice ap args.length ac) args)(hSc:Lv w (.slice sp sc.length scc) sc)(har:∀ n ∈ args,0≤n∧n<18446744073709551616)(hsr:∀ n ∈ sc,0≤n∧n<18446744073709551616) :
 Calls Tryz.prog 30 #[.agg T.box,.agg #[fv,ev],.int .i64 f,.slice ap args.length ac,.slice sp sc.length scc,.int .i64 fuel] w fun e w'=>∃ vv tv er,e=.returned (.tuple #[.agg #[.int .i64 (Gp T P f args sc fuel).kind,vv,.int .i64 0,tv,.int .i64 (Gp T P f args sc fuel).steps,.int .i64 0],er])∧Mk w' w.heap.size (Gp T P f args sc fuel) vv tv∧Mq w' er (Mg T P f args fuel)∧Below w.heap.size w w':=by
 obtain⟨pf,cf,hfs⟩:=hA.p.fs.shape;obtain⟨pe,ce,hes⟩:=hA.p.es.shape;subst hfs hes;have hlf:P.funcs.length<9223372036854775808:=by obtain⟨_,_,_,_,h,_⟩:=hA.p.fs; exact h
 have hla:args.length<4611686018427387904:=by obtain⟨_,_,_,_,h,_⟩:=hAr; exact h
 obtain⟨r0,r1,r2,hZ,hB⟩:=Zav w (.cells T.box 25 (0,0)) (.cells #[.slice pf P.funcs.length cf,.slice pe P.externs.length ce] 29 (0,0)) (.cells #[.int .i64 0,.slice none 0 0,.int .i64 0,.slice none 0 0,.int .i64 0,.int .i64 0] 38 (0,0));have HA:=J hA;have HCK:=J (fun(V:World) (hV:Below w.heap.size w V)=>show Calls Tryz.prog 39 #[.agg #[.int .i64 T.r,.int .i64 T.sp,.int .i64 T.lk,.int .i64 T.t0,.int .i64 T.t1,.slice T.pa T.ag.length T.ca,.slice T.pr T.rs.length T.cr,.slice T.ps T.ss.length T.cs,.int .i64 T.al,.int .i64 T.sh,.int .i64 T.br,.bool T.pairs],.agg #[.slice pf P.funcs.length cf,.slice pe P.externs.length ce]] V (fun e w'=>∃ v,e=.returned v∧Mq w' v (Uk T P)∧Below V.heap.size V w') from Zho T.r T.sp T.lk T.t0 T.t1 _ _ _ T.al T.sh T.br T.pairs T.ag T.rs T.ss P _ _ A E V (Zfh (Jy hA hV).t) (Jy hA hV).p hA.nn (Jy hA hV).na (Jy hA hV).one);have HR0:=J r0;have HR1:=J r1;have HR2:=J r2;have HB:=J hB;have HWD:=J hwd;have HAR:=J hAr;have HSC:=J hSc;have HARB:=J har;have HSCB:=J hsr;clear r0 r1 r2 hB hA hwd hAr hSc har hsr;have hbx:T.box=#[.int .i64 T.r,.int .i64 T.sp,.int .i64 T.lk,.int .i64 T.t0,.int .i64 T.t1,.slice T.pa T.ag.length T.ca,.slice T.pr T.rs.length T.cr,.slice T.ps T.ss.length T.cs,.int .i64 T.al,.int .i64 T.sh,.int .i64 T.br,.bool T.pairs]:=rfl;rw [hbx] at HR0 HR1 HR2 HB hZ ⊢;clear hbx;go_enter Tryz.func30,Tryz.ntmps30
 go_wp2_with fail
 generalize World.alloc (World.alloc (World.alloc w _) _) _=W at HR0 HR1 HR2 HB hZ ⊢;refine(G HCK W (G HB)).mono ?_;rintro e w2 ⟨v,rfl,he,hb⟩;have hz2:=hb.size;have HB2:=J (Za (G HB) hb (by omega));have HQ1:=J ((hb.block (w.heap.size+1) (by omega)).trans (G HR1));have HQ2:=J ((hb.block (w.heap.size+1+1) (by omega)).trans (G HR2));have HE:=J he;clear hb HR0 HR1 HR2 HCK HB;by_cases hc:(Uk T P).e=0
 ·
  obtain rfl:=Zgl he hc;have HC0:=J hc;have HGD:=J (Zbk hc (G HWD));clear hc he HWD;by_cases hf:0≤f∧f<P.funcs.length
  ·
   obtain⟨k0,hk⟩:∃ k:Nat,f=k:=⟨f.toNat,by omega⟩;subst hk;have hk0:k0<P.funcs.length:=by omega
   have hn1:¬ ((k0:Int)<0):=by omega
   have hn2:¬ ((P.funcs.length:Int)≤(k0:Int)):=by omega
   have hkI:(k0:Int)<(P.funcs.length:Int):=by omega
   obtain⟨pf',cf',hbe,-,-,hpc⟩:=((G HA).p.below (G HB2)).fs;injection hbe with e1 e2 e3;subst e1 e3;obtain⟨fb,fo,hpf,hfb,hcells⟩:=hpc (by omega);subst hpf;have hfn:=((G HA).p.below (G HB2)).feach k0 hk0;obtain⟨pv,hv,sv,bv,B,hAk,hD⟩:=hfn;have hFN:=J (show Oy w2 (A k0) (P.funcs.getD k0 Ze) by rw [Yu _ _ _ hk0]; exact⟨pv,hv,sv,bv,B,hAk,hD⟩);have HFS:=J hcells;have hrg:=hcells k0 hk0;rw [hAk] at hrg;generalize hfd:P.funcs[k0]=fn at hD hAk hrg;have hgd:P.funcs.getD k0 Ze=fn:=by rw [Yu _ _ _ hk0,hfd]
   obtain⟨pp,pc,rfl⟩:=hD.ps.shape;obtain⟨qh,ch,rfl⟩:=hD.hs.shape;obtain⟨qs,cs,rfl⟩:=hD.ss.shape;obtain⟨qb,cb,rfl⟩:=hD.bs.shape;have HGF:=J hgd;have hH:=(G HGD).fnH ⟨k0,hk0,hgd.symm⟩;have HH:=J hH;have HSG:=J (Zkz fn (.slice pp fn.params.length pc) (.slice qh fn.homes.length ch) (.slice qs fn.slots.length cs) (.slice qb fn.blocks.length cb) w2 hD.ps (by have:=hH.pl; omega));have g0:=hrg 0 _ rfl;have g1:=hrg 1 _ rfl;have g2:=hrg 2 _ rfl;have g3:=hrg 3 _ rfl;have g4:=hrg 4 _ rfl;rw [Nat.add_zero] at g0;have p0:=cR (G HQ1) 0;have p1:=cR (G HQ1) 1;clear hD hAk hrg hcells hpc hfd hgd hH e2;go_wp2_with fail
   refine(G HSG).mono ?_;rintro e w3 ⟨sgv,rfl,hsg,hb3,-⟩;have hz3:=hb3.size;have HWC:=J (Zcx sgv (Xn fn).1 fn.results w3 hsg (by unfold Xn; simpa using (G HH).pl) (Zbb (G HH)).1);have HB3:=J hb3;clear hsg hb3 HSG g0 g1 g2 g3 g4;go_wp2_with fail
   refine(G HWC).mono ?_;rintro e w4 ⟨rfl,hb4⟩;rw [show(Xn fn).1=fn.params.map (·.1) from rfl,Zag];have hz4:=hb4.size;have HB24:=J (Za (G HB3) hb4 (by omega));have HP4:=J (((G HB24).block (w.heap.size+1) (by omega)).trans (G HQ1));have HQ4:=J (((G HB24).block (w.heap.size+1+1) (by omega)).trans (G HQ2));have HB4:=J (Za (G HB2) (G HB24) (by omega));clear hb4 HWC p0 p1 HQ1 HQ2 HE;by_cases hal:args.length=Xe fn.params
   ·
    have hne:((args.length:Int) != (Xe fn.params:Int))=false:=by simp; omega
    by_cases hfu:0≤fuel∧fuel≤20000
    ·
     obtain⟨fu,hfq⟩:∃ k:Nat,fuel=k:=⟨fuel.toNat,by omega⟩;subst hfq;have hu1:¬ ((fu:Int)<0):=by omega
     have hu2:¬ ((20000:Int)<(fu:Int)):=by omega
     have HFF:=J (Zeg (args:=args) sc (G HC0) (show Mz P (k0:Int) args (fu:Int) from⟨by omega,by omega,by rw [Int.toNat_natCast,G HGF]; exact hal,by omega,by omega⟩));have q0:=cR (G HP4) 0;obtain⟨r5,hb5,hz5⟩:=Yj w4 (.cells #[.slice (some ⟨fb,fo,none⟩) P.funcs.length cf,.slice sp sc.length scc,.slice none 0 0,.int .i64 0,.slice none 0 0,.int .i64 0,.slice none 0 0,.int .i64 0,.int .i64 0] 110 (0,0));have HR5:=J r5;have HB5:=J hb5;have HZ5:=J hz5;have HAL:=J hal;clear r5 hb5 hz5 hal hf;go_upto_region 9 with fail
     clear q0;generalize World.alloc w4 _=W5 at HR5 HB5 HZ5 ⊢;have hPG:PgI w4 P fb fo A:=⟨fun i hi j x hx=>((G HB24).cell (p:=⟨fb,fo+i*5+j,none⟩) hfb).trans (G HFS i hi j x hx),by omega,fun k hk=>by rw [Yu _ _ _ hk]; exact((G HA).p.below (G HB4)).feach k hk⟩;have HPG:=J hPG;have hS5:Xc w4 W5 w4.heap.size w4.heap.size [] (.slice none 0 0) (.slice none 0 0) [] []:=⟨G HB5,Nat.le_refl _,Nat.le_refl _,fun _ h=>(by cases h),List.Pairwise.nil,World.ownsRow_nil _ _ _ _,fun _ h=>(by cases h),⟨rfl,World.ownsRow_nil _ _ _ _,fun _ h=>(by cases h),fun k hk=>absurd hk (Nat.not_lt_zero k)⟩⟩;have HEN:=J (Zbg w4 W5 w4.heap.size w4.heap.size [] none 0 (.slice none 0 0) (.slice none 0 0) (.slice sp sc.length scc) [] [] 0 0 hS5 fn k0 fb fo cf P.funcs.length A (G HR5) hk0 hPG.fs hPG.lt (by rw [← G HGF]; exact hPG.each k0 hk0) (G HH) args [] ap none ac 0 (Yx (Ka (G HAR) (G HB4)) (G HB5)) (Li.nil _) (G HAL) (G HARB) (Nat.zero_le _));clear hPG hS5;go_wp2_with fail
     refine(G HEN).mono ?_;rintro e w6 ⟨⟨v6,rfl⟩,f6,fp6,fc6,hx6,-,-,-,hR6,hS6,hB6,-⟩;have hwf:WfS P [f6.x]:=by
      rw [hx6];exact⟨Cb (G HGD) ⟨k0,hk0,(G HGF).symm⟩ (G HARB) _,rfl⟩
     have HSP:=J (Zlo P w4 w6 w4.heap.size w4.heap.size fb fo cf fu A (Na P (k0:Int) args sc (fu:Int)) (G HGD) (G HPG) (by omega) ⟨f6,[],sp,scc,sc,_,_,[],[],hR6,Ka (G HSC) (G HB4),hS6,hwf,G HSCB,by
      unfold Na;rw [Int.toNat_natCast,Int.toNat_natCast,Nat.sub_zero,G HGF];show _=ev P fu [f6.x] sc [];rw [hx6],Nat.le_refl _,Nat.le_refl _⟩ (Nat.le_refl _))
     have HB6:=J hB6;clear hx6 hR6 hS6 hB6 hwf HEN HR5;go_wp2_with fail
     refine(G HSP).mono ?_;rintro e w7 ⟨⟨v7,rfl⟩,hE7,hB7⟩;obtain⟨scv,frv,tp9,tc9,es9,vp9,vc9,hR7,hv7,ht7⟩:=hE7;have hB47:Below w4.heap.size w4 w7:=(G HB5).trans ((G HB6).trans hB7);have HQ7:=J ((hB47.block (w.heap.size+1+1) (by omega)).trans (G HQ4));have HB7:=J (Za (G HB4) hB47 (by have:=(G HB4).size; omega));have HFF2:=J (show Gp T P (k0:Int) args sc (fu:Int)=⟨Ln (Na P (k0:Int) args sc (fu:Int)),Md (Na P (k0:Int) args sc (fu:Int)),Zy (Na P (k0:Int) args sc (fu:Int)),Yc fu (Na P (k0:Int) args sc (fu:Int))⟩∧Mg T P (k0:Int) args (fu:Int)=⟨0,-1,-1,-1⟩ from G HFF);generalize Na P (k0:Int) args sc (fu:Int)=r at HFF2 hR7 hv7 ht7;have HO7:=J (show Mk w7 w4.heap.size ⟨Ln r,Md r,Zy r,Yc fu r⟩ _ _ from⟨hv7,es9,⟨ht7.len,ht7.row,fun _ _=>trivial,fun k hk=>⟨(ht7.each k hk).1,fun _ _=>trivial⟩⟩⟩);have s0:=cR hR7 3;have s1:=cR hR7 4;have s2:=cR hR7 5;have s3:=cR hR7 6;have s4:=cR hR7 7;have s5:=cR hR7 8;clear hR7 hv7 ht7 hB47 hB7 HSP HB6 HB5 HFF;go_wp2_with (refine wpList_store_row rfl 38 _ _ rfl (w.heap.size+1+1) #[.int .i64 (Ln r),.slice vp9 (Md r).length vc9,.int .i64 0,.slice tp9 (Zy r).length tc9,.int .i64 (Yc fu r:Nat),.int .i64 0] rfl rfl 38 _ (G HQ7) (Tryz.infOutP.trans rfl) rfl (by simp [Value.oneCell']) ?_)
     refine bodyPost_ret (Gm (fn:=Tryz.f30) (p:=12) (q:=13) (px:=38) rfl _ _ (w.heap.size+1+1) 38 #[.int .i64 (Ln r),.slice vp9 (Md r).length vc9,.int .i64 0,.slice tp9 (Zy r).length tc9,.int .i64 (Yc fu r:Nat),.int .i64 0] (0,0) _ rfl (setRow_heap _ _ _ _ _ _ (G HQ7)) Tryz.underlying38 rfl (Tryz.infOutP.trans rfl)) rfl ?_;rw [(G HFF2).1,(G HFF2).2];exact⟨_,_,_,rfl,Gf (Gz (G HO7) (by omega) _) (by omega),Or.inl ⟨rfl,rfl⟩,Zh (G HB7) (by omega)⟩
    ·
     have HFF:=J (Ov (args:=args) sc (G HC0) (show ¬ Mz P (k0:Int) args fuel from fun h=>hfu h.2.2.2));have HQ2:=HQ4;have HB2':=HB4;clear HB2;have HB2:=HB2';by_cases hneg:fuel<0
     ·
      clear hfu;go_wp2_with (refine wpList_store_row rfl 38 _ _ rfl (w.heap.size+1+1) #[.int .i64 0,.slice none 0 0,.int .i64 0,.slice none 0 0,.int .i64 0,.int .i64 0] rfl rfl 38 _ (G HQ2) (Tryz.infOutP.trans rfl) rfl (by simp [Value.oneCell']) ?_)
      refine bodyPost_ret (Gm (fn:=Tryz.f30) (p:=12) (q:=13) (px:=38) rfl _ _ (w.heap.size+1+1) 38 #[.int .i64 0,.slice none 0 0,.int .i64 0,.slice none 0 0,.int .i64 0,.int .i64 0] (0,0) _ rfl (setRow_heap _ _ _ _ _ _ (G HQ2)) Tryz.underlying38 rfl (Tryz.infOutP.trans rfl)) rfl ?_;rw [(G HFF).1,(G HFF).2];exact⟨_,_,_,rfl,Ge _ _,Or.inr (Or.inl ⟨6,by decide,rfl,rfl⟩),Zh (G HB2) (by omega)⟩
     ·
      have hge:(20000:Int)<fuel:=by omega
      clear hfu;go_wp2_with (refine wpList_store_row rfl 38 _ _ rfl (w.heap.size+1+1) #[.int .i64 0,.slice none 0 0,.int .i64 0,.slice none 0 0,.int .i64 0,.int .i64 0] rfl rfl 38 _ (G HQ2) (Tryz.infOutP.trans rfl) rfl (by simp [Value.oneCell']) ?_)
      refine bodyPost_ret (Gm (fn:=Tryz.f30) (p:=12) (q:=13) (px:=38) rfl _ _ (w.heap.size+1+1) 38 #[.int .i64 0,.slice none 0 0,.int .i64 0,.slice none 0 0,.int .i64 0,.int .i64 0] (0,0) _ rfl (setRow_heap _ _ _ _ _ _ (G HQ2)) Tryz.underlying38 rfl (Tryz.infOutP.trans rfl)) rfl ?_;rw [(G HFF).1,(G HFF).2];exact⟨_,_,_,rfl,Ge _ _,Or.inr (Or.inl ⟨6,by decide,rfl,rfl⟩),Zh (G HB2) (by omega)⟩
   ·
    have hne:((args.length:Int) != (Xe fn.params:Int))=true:=by simp; omega
    have HFF:=J (Ov (args:=args) (fuel:=fuel) sc (G HC0) (show ¬ Mz P (k0:Int) args fuel from fun h=>hal (by have:=h.2.2.1; rwa [Int.toNat_natCast,G HGF] at this)));have HQ2:=HQ4;have HB2':=HB4;clear HB2 hal;have HB2:=HB2';go_wp2_with (refine wpList_store_row rfl 38 _ _ rfl (w.heap.size+1+1) #[.int .i64 0,.slice none 0 0,.int .i64 0,.slice none 0 0,.int .i64 0,.int .i64 0] rfl rfl 38 _ (G HQ2) (Tryz.infOutP.trans rfl) rfl (by simp [Value.oneCell']) ?_)
    refine bodyPost_ret (Gm (fn:=Tryz.f30) (p:=12) (q:=13) (px:=38) rfl _ _ (w.heap.size+1+1) 38 #[.int .i64 0,.slice none 0 0,.int .i64 0,.slice none 0 0,.int .i64 0,.int .i64 0] (0,0) _ rfl (setRow_heap _ _ _ _ _ _ (G HQ2)) Tryz.underlying38 rfl (Tryz.infOutP.trans rfl)) rfl ?_;rw [(G HFF).1,(G HFF).2];exact⟨_,_,_,rfl,Ge _ _,Or.inr (Or.inl ⟨6,by decide,rfl,rfl⟩),Zh (G HB2) (by omega)⟩
  ·
   have HFF:=J (Ov (args:=args) (fuel:=fuel) sc (G HC0) (show ¬ Mz P f args fuel from fun h=>hf ⟨h.1,h.2.1⟩));clear HC0 HE HGD;have p0:=cR (G HQ1) 0;have p1:=cR (G HQ1) 1;by_cases hneg:f<0
   ·
    clear hf;go_wp2_with (refine wpList_store_row rfl 38 _ _ rfl (w.heap.size+1+1) #[.int .i64 0,.slice none 0 0,.int .i64 0,.slice none 0 0,.int .i64 0,.int .i64 0] rfl rfl 38 _ (G HQ2) (Tryz.infOutP.trans rfl) rfl (by simp [Value.oneCell']) ?_)
    refine bodyPost_ret (Gm (fn:=Tryz.f30) (p:=12) (q:=13) (px:=38) rfl _ _ (w.heap.size+1+1) 38 #[.int .i64 0,.slice none 0 0,.int .i64 0,.slice none 0 0,.int .i64 0,.int .i64 0] (0,0) _ rfl (setRow_heap _ _ _ _ _ _ (G HQ2)) Tryz.underlying38 rfl (Tryz.infOutP.trans rfl)) rfl ?_;rw [(G HFF).1,(G HFF).2];exact⟨_,_,_,rfl,Ge _ _,Or.inr (Or.inl ⟨6,by decide,rfl,rfl⟩),Zh (G HB2) (by omega)⟩
   ·
    have hge:(P.funcs.length:Int)≤f:=by omega
    clear hf;go_wp2_with (refine wpList_store_row rfl 38 _ _ rfl (w.heap.size+1+1) #[.int .i64 0,.slice none 0 0,.int .i64 0,.slice none 0 0,.int .i64 0,.int .i64 0] rfl rfl 38 _ (G HQ2) (Tryz.infOutP.trans rfl) rfl (by simp [Value.oneCell']) ?_)
    refine bodyPost_ret (Gm (fn:=Tryz.f30) (p:=12) (q:=13) (px:=38) rfl _ _ (w.heap.size+1+1) 38 #[.int .i64 0,.slice none 0 0,.int .i64 0,.slice none 0 0,.int .i64 0,.int .i64 0] (0,0) _ rfl (setRow_heap _ _ _ _ _ _ (G HQ2)) Tryz.underlying38 rfl (Tryz.infOutP.trans rfl)) rfl ?_;rw [(G HFF).1,(G HFF).2];exact⟨_,_,_,rfl,Ge _ _,Or.inr (Or.inl ⟨6,by decide,rfl,rfl⟩),Zh (G HB2) (by omega)⟩
 ·
  obtain⟨et,eu,rfl⟩:=Zgm he hc;have HFF:=J (Zbj (args:=args) (fuel:=fuel) (f:=f) sc hc);clear hc he;go_wp2_with (refine wpList_store_row rfl 38 _ _ rfl (w.heap.size+1+1) #[.int .i64 0,.slice none 0 0,.int .i64 0,.slice none 0 0,.int .i64 0,.int .i64 0] rfl rfl 38 _ (G HQ2) (Tryz.infOutP.trans rfl) rfl (by simp [Value.oneCell']) ?_)
  refine bodyPost_ret (Gm (fn:=Tryz.f30) (p:=12) (q:=13) (px:=38) rfl _ _ (w.heap.size+1+1) 38 #[.int .i64 0,.slice none 0 0,.int .i64 0,.slice none 0 0,.int .i64 0,.int .i64 0] (0,0) _ rfl (setRow_heap _ _ _ _ _ _ (G HQ2)) Tryz.underlying38 rfl (Tryz.infOutP.trans rfl)) rfl ?_;rw [(G HFF).1,(G HFF).2];exact⟨_,_,_,rfl,Ge _ _,Zab (G HE) (G HQ2) rfl _,Zh (G HB2) (by omega)⟩
set_option maxHeartbeats 2000000 in
set_option maxRecDepth 100000 in
theorem Zly (v:Value)(ps:List Int)(res:Int)(w:World)(h:Li w v ps)(hl:ps.length≤8)(hp:∀ k,k<ps.length→0≤ps.getD k 0∧ps.getD k 0≤8) :
 Calls Tryz.prog 21 #[.agg #[v,.int .i64 res]] w fun e w'=>e=.returned (.int .i64 (Jx ps:Nat))∧Below w.heap.size w w':=by
 obtain⟨q,c,rfl⟩:=h.shape;obtain⟨r0,hb0,hz0⟩:=Yj w (.cells #[.slice q ps.length c,.int .i64 res] 56 (0,0));have HL:=J (h.below hb0);have HB:=J hb0;have HP:=J hp;have HLE:=J (Cd ps hp);have c0:=cR r0 0;clear h r0 hb0 hz0 hp;go_enter Tryz.func21,Tryz.ntmps21
 go_upto_region 2 with fail
 generalize World.alloc w _=W at HL HB c0 ⊢;go_wp2_with fail
 go_loopw [9,3] (fun sk sn w'=>∃ k:Nat,sk=.int .i64 k∧sn=.int .i64 (Jx (ps.take k):Nat)∧k≤ps.length∧w'=W) (fun sk _ _=>ps.length-(intOf sk).toNat)
 case atStart=>exact⟨0,rfl,by simp [Jx],by omega,rfl⟩
 case round =>
  obtain⟨k,rfl,rfl,hk,hw⟩:=hrel;subst wr;by_cases hk2:k<ps.length
  ·
   obtain⟨p',c',e1,-,-,hcc⟩:=G HL;injection e1 with f1 f2 f3;obtain⟨sb,so,hsp,hcell⟩:=hcc (by omega);rw [← f1] at hsp;subst hsp;have d:=hcell k hk2;have hb:=G HP k hk2;have hle:=G HLE k hk;have HNX:=J (Dr ps k hk2);generalize Jx (ps.take k)=m at hle HNX ⊢;generalize ps.getD k 0=y at d hb HNX;clear f1 f2 f3 hcc hcell c0;by_cases hy:y=0
   ·
    subst hy;have HN2:=J (show Jx (ps.take (k+1))=m+1 by rw [G HNX,if_pos rfl]);clear HNX hb;go_wp2;go_roundw
    case rel=>exact⟨k+1,by go_num,by rw [G HN2]; go_num,by omega,trivial⟩
    case measure=>simp [intOf]; omega
   ·
    obtain⟨z,rfl⟩:=Int.eq_ofNat_of_zero_le hb.1;have HN2:=J (show Jx (ps.take (k+1))=m+z by rw [G HNX,if_neg hy,Int.toNat_natCast]);have hz1:(1:Int)≤(z:Int):=by omega
    have hz8:z≤8:=by omega
    clear HNX hb hy;go_wp2;go_roundw
    case rel=>exact⟨k+1,by go_num,by rw [G HN2]; go_num,by omega,trivial⟩
    case measure=>simp [intOf]; omega
  ·
   have hkn:k=ps.length:=by omega
   subst hkn;rw [List.take_length];clear c0;go_wp2;go_ret;exact⟨rfl,G HB⟩
structure Ng (V:World)(x:Xl)(B vb sb:Nat)(gs:List Nat):Prop where
 v:V.heap[vb]?=some (.cells (uC x.v).toArray 62 (0,0))
 vB:B≤vb
 s:V.heap[sb]?=some (.cells (Ib gs (x.s.map List.length)).toArray 101 (0,0))
 sB:B≤sb
 len:gs.length=x.s.length
 each:∀ k,k<x.s.length→V.heap[gs.getD k 0]?=some (.cells (yC (x.s.getD k [])).toArray 5 (0,0))∧B≤gs.getD k 0
 inj:∀ j k,j<k→k<gs.length→gs.getD j 0<gs.getD k 0
section
variable {V V':World} {x:Xl} {B vb sb:Nat} {gs:List Nat}
theorem Ng.keep (h:Ng V x B vb sb gs)(h1:V'.heap[vb]?=V.heap[vb]?)(h2:V'.heap[sb]?=V.heap[sb]?)(h3:∀ k,k<x.s.length→V'.heap[gs.getD k 0]?=V.heap[gs.getD k 0]?):Ng V' x B vb sb gs :=
 ⟨h1.trans h.v,h.vB,h2.trans h.s,h.sB,h.len,fun k hk=>⟨(h3 k hk).trans (h.each k hk).1,(h.each k hk).2⟩,h.inj⟩
theorem Ng.below (h:Ng V x B vb sb gs)(hb:Below V.heap.size V V'):Ng V' x B vb sb gs:=h.keep (hb.block _ (Zd h.v)) (hb.block _ (Zd h.s)) fun k hk=>hb.block _ (Zd (h.each k hk).1)
theorem Ng.slot (h:Ng V x B vb sb gs){k:Nat}(hk:k<x.s.length):V.cell? ⟨sb,k,none⟩=some (.slice (some ⟨gs.getD k 0,0,none⟩) (x.s.getD k []).length (x.s.getD k []).length):=by
 rw [Zi h.s k];unfold Ib;simp [List.getD,hk]
theorem Ng.loc (h:Ng V x B vb sb gs){k:Nat}(hk:k<x.v.length):V.cell? ⟨vb,k,none⟩=some (.int .u64 (x.v.getD k 0)):=(Zi h.v k).trans (by simp [uC,List.getD,hk])
end
set_option maxHeartbeats 2000000 in
theorem Zeh (b:Nat)(fv ev tv:Value)(ab ao:Nat)(c:Nat)(p1:Option Addr)(fuel steps kind code fn n0:Int)(n:Nat)(w:World)(h:Sm w b fv ev fuel steps (.slice (some ⟨ab,ao,none⟩) (n+1) c) kind code tv fn)(h0:w.cell? ⟨ab,ao,none⟩=some (.int .u64 n0))(hn:n<4611686018427387904)(hc:n+1≤c)(hp:p1=if c=1 then some ⟨ab,ao,none⟩ else some ⟨ab,ao+1,none⟩) :
 Calls Tryz.prog 57 #[.pointer (some ⟨b,0,none⟩)] w fun e w'=>e=.returned (.int .u64 n0)∧Oj b w w'∧Sm w' b fv ev fuel steps (.slice p1 n (c-1)) kind code tv fn:=by
 have c4:=cR h 4;have z4:=frozen_of_row _ _ 4 _ _ h;have hzz:(((n:Int)+1)==0)=false:=by simp; omega
 by_cases hc1:c=1
 ·
  rw [if_pos hc1] at hp;subst hp hc1;obtain rfl:n=0:=by omega
  have HX:=J (show Sm (w.setCell ⟨b,4,none⟩ (.slice (some ⟨ab,ao,none⟩) 0 0)) b fv ev fuel steps (.slice (some ⟨ab,ao,none⟩) 0 0) kind code tv fn from heap_setCell_same _ _ 4 _ _ _ h);have HO:=J (show Oj b w (w.setCell ⟨b,4,none⟩ (.slice (some ⟨ab,ao,none⟩) 0 0)) from⟨rfl,rfl,rfl,by simp,fun q hq=>heap_setCell_other _ _ _ _ hq⟩);clear h;go_enter Tryz.func57,Tryz.ntmps57
  go_wp2;go_ret;exact⟨rfl,G HO,G HX⟩
 ·
  rw [if_neg hc1] at hp;subst hp;have HX:=J (show Sm (w.setCell ⟨b,4,none⟩ (.slice (some ⟨ab,ao+1,none⟩) n (c-1))) b fv ev fuel steps (.slice (some ⟨ab,ao+1,none⟩) n (c-1)) kind code tv fn from heap_setCell_same _ _ 4 _ _ _ h);have HO:=J (show Oj b w (w.setCell ⟨b,4,none⟩ (.slice (some ⟨ab,ao+1,none⟩) n (c-1))) from⟨rfl,rfl,rfl,by simp,fun q hq=>heap_setCell_other _ _ _ _ hq⟩);clear h;go_enter Tryz.func57,Tryz.ntmps57
  go_wp2;go_ret;exact⟨rfl,G HO,G HX⟩
set_option maxHeartbeats 4000000 in
set_option maxRecDepth 100000 in
theorem Zbl (x:Xl)(B vb sb:Nat)(gs:List Nat)(args:List (Int×Int))(ap:Option Addr)(ac:Nat)(w:World)(h:Ng w x B vb sb gs)(hok:IOk x)(hl:LS 2 w (.slice ap args.length ac) args.length (fun k=>Yz (args.getD k (0,0))))(han:args.length≤100)(hA:∀ k,k<args.length→Rf x (args.getD k (0,0)))(hsl:∀ l ∈ x.s,l.length≤65536) :
 Calls Tryz.prog 56 #[.slice (some ⟨vb,0,none⟩) x.v.length x.v.length,.slice (some ⟨sb,0,none⟩) x.s.length x.s.length,.slice ap args.length ac] w fun e w'=>∃ v,e=.returned v∧w'.ownsRow w.heap.size 62 1 v (Zv x args).length (uC (Zv x args))∧Below w.heap.size w w':=by
 obtain⟨ti,hti,hty0,hty1,hty2⟩:=Xs Tryz.infoU64;have H:=J h;have HL:=J hl;have HA:=J hA;have HOK:=J hok;have HSL:=J hsl;have HLEN:=J (Ut x args hA);clear h hl hA hok hsl;go_enter Tryz.func56,Tryz.ntmps56
 go_wp2;go_loopw [13,7] (fun sk sv w'=>∃(k:Nat) (v:Value),sk=.int .i64 k∧sv=v∧k≤args.length∧w'.ownsRow w.heap.size 62 1 v (Zv x (args.take k)).length (uC (Zv x (args.take k)))∧Below w.heap.size w w') (fun sk _ _=>args.length-(intOf sk).toNat)
 case atStart=>exact⟨0,_,rfl,rfl,by omega,World.ownsRow_nil _ _ _ _,Below.refl _ _⟩
 case round =>
  obtain⟨k,v0,rfl,rfl,hk,how,hbw⟩:=hrel;obtain⟨vp,vc,rfl⟩:=Zm how;by_cases hk2:k<args.length
  ·
   obtain⟨p',c',e1,-,-,hcc⟩:=(G HL).below hbw;injection e1 with f1 f2 f3;obtain⟨asb,aso,hsp,hsb,hcell⟩:=hcc (by omega);rw [← f1] at hsp;subst hsp;have hrg:=hcell k hk2;dsimp only at hrg;have ho:=G HA k hk2;have HNX:=J (Dn x args k hk2);have hln:=G HLEN k hk;generalize args.getD k (0,0)=a at hrg ho HNX;obtain⟨a1,a2⟩:=a;obtain⟨hw0,hw8,hf0,hov,hos⟩:=ho;simp only at hw0 hw8 hf0 hov hos;obtain⟨nw,rfl⟩:=Int.eq_ofNat_of_zero_le hw0;obtain⟨m,rfl⟩:=Int.eq_ofNat_of_zero_le hf0;have d0:=hrg 0 _ rfl;have d1:=hrg 1 _ rfl;rw [Nat.add_zero] at d0;obtain⟨acc,hacc⟩:∃ l,l=Zv x (args.take k):=⟨_,rfl⟩;rw [← hacc] at how HNX hln ⊢;have HOWR:=J how;have HBR:=J hbw;have hzr:=hbw.size;clear how hbw hcc hcell hrg f1 f2 f3 hacc;obtain⟨hra,hba,-⟩:=Yj wr (.cells #[.int .i64 (nw:Int),.int .i64 (m:Int)] 139 (0,0));go_upto_region 5 with fail
   clear d0 d1;generalize World.alloc wr _=V1 at hra hba ⊢;have HOW:=J (Yq (G HOWR) (fun g e=>hba.block g (World.ownsRow.lt (G HOWR) g e).2));have HBV:=J (Za (G HBR) hba hzr);have HFV:=J ((G H).below (G HBV));have HRA:=J hra;generalize wr.heap.size=ba at hra HRA hzr ⊢;clear hba HOWR HBR;have a0:=cR hra 0;have a1:=cR hra 1;by_cases hz:nw=0
   ·
    subst hz;have hml:m<x.v.length:=by have:=hov rfl; omega
    have hmI:(m:Int)<(x.v.length:Int):=by omega
    obtain⟨y,hy⟩:∃ y,y=x.v.getD m 0:=⟨_,rfl⟩;have HNX:=J (show Zv x (args.take (k+1))=acc++[y] by rw [G HNX,hy]; rfl);have g0:V1.cell? ⟨vb,m,none⟩=some (.int .u64 y):=by rw [hy]; exact(G HFV).loc hml
    clear hra hov hos hy;go_wp2_with (at_builtin; refine wpList_append_own _ rfl _ _ 30 rfl w.heap.size 62 ti _ 1 8 Tryz.underlying30 hti hty0 hty1 hty2 rfl (by decide) _ _ _ rfl (World.ownsRow.alloc (G HOW) _) ⟨V1.heap.size,0,none⟩ 1 1 [.int .u64 y] rfl rfl (by intro j u hj; match j,hj with | 0,hj=>(simp at hj; subst hj; simp [Addr.add])) (by intro u hu; simp at hu; subst hu; rfl) ?c3 ?c4 ?c5 ?_)
    case c3=>unfold maxLen; omega
    case c4=>omega
    case c5=>have:=(G HBV).size; simp; omega
    intro v7 w7 hown7 hgr7 _;have HX:=J (show w7.ownsRow w.heap.size 62 1 v7 (acc++[y]).length (uC (acc++[y])) by rw [Us,List.length_append]; exact hown7);have HB7:=J (Re (G HBV) (G HOW) hgr7);have b0:w7.cell? ⟨ba,0,none⟩=some (.int .i64 0):=by
     have ha:=(Yj V1 (.cells #[.int .u64 y] 62 (0,0)));have hba:=Zd (G HRA);have hr:(V1.alloc (.cells #[.int .u64 y] 62 (0,0))).heap[ba]?=_:=(ha.2.1.block ba hba).trans (G HRA);exact(cR ((hgr7.block ba (Zd hr) (fun e=>Xu (G HOW) (G HRA) (by decide) e.symm)).trans hr) 0)
    clear hown7 hgr7 a0 a1 g0;go_wp2;go_loopw [10,7] (fun si sv w'=>∃ i:Nat,si=.int .i64 i∧sv=v7∧w'=w7) (fun _ _ _=>0)
    case atStart=>exact⟨0,rfl,rfl,rfl⟩
    case round =>
     obtain⟨i,rfl,rfl,hw⟩:=hrel;subst wr;have hi0:¬ ((i:Int)<0):=by omega
     go_wp2;go_roundw
     case rel=>exact⟨k+1,_,by go_num,rfl,by omega,by rw [G HNX]; exact G HX,G HB7⟩
     case measure=>simp [intOf]; omega
   ·
    have hzz:¬ ((nw:Int)=0):=by omega
    obtain⟨hsl,hs8⟩:=hos hzz;have hml:m<x.s.length:=by omega
    have hmI:(m:Int)<(x.s.length:Int):=by omega
    have zz:((nw:Int)==0)=false:=by simp; omega
    have hsc:=(G HFV).slot hml;obtain⟨ga,hga⟩:∃ g,g=gs.getD m 0:=⟨_,rfl⟩;obtain⟨bs,hbs⟩:∃ l,l=x.s.getD m []:=⟨_,rfl⟩;have hgr:=((G HFV).each m hml).1;have hmem:bs ∈ x.s:=by rw [hbs]; simp [List.getD,hml]
    have HBL:=J (G HSL bs hmem);have HBY:=J (fun n hn=>(G HOK).s bs hmem n hn);rw [← hga,← hbs] at hsc hgr;rw [Int.toNat_natCast,← hbs] at hs8;have HNX:=J (show Zv x (args.take (k+1))=acc++(List.range nw).map (fun j=>Ns bs (8*j) 8) by rw [G HNX,hbs]; unfold Ia; rw [if_neg hzz]; rfl);have HGA:=J hga;have HBS:=J hbs;clear hra hov hos hgr hsc hga hbs hmem hsl hzz a1;have hnw8:nw≤8:=by omega
    go_wp2;clear a0;go_loopw [10,7] (fun sj sv w'=>∃(j:Nat) (v:Value),sj=.int .i64 j∧sv=v∧j≤nw∧w'.ownsRow w.heap.size 62 1 v (acc++(List.range j).map (fun j=>Ns bs (8*j) 8)).length (uC (acc++(List.range j).map (fun j=>Ns bs (8*j) 8)))∧Below w.heap.size w w'∧w'.heap[ba]?=some (.cells #[.int .i64 (nw:Int),.int .i64 (m:Int)] 139 (0,0))) (fun sj _ _=>nw-(intOf sj).toNat)
    case atStart=>exact⟨0,_,rfl,rfl,by omega,by simpa using G HOW,G HBV,G HRA⟩
    case round =>
     obtain⟨j,vj,rfl,rfl,hj,how,hbw,hbar⟩:=hrel;have a0:=cR hbar 0;have a1:=cR hbar 1;by_cases hj2:j<nw
     ·
      have HNJ:=J (show acc++(List.range (j+1)).map (fun j=>Ns bs (8*j) 8)=(acc++(List.range j).map (fun j=>Ns bs (8*j) 8))++[Ns bs (8*j) 8] by rw [List.range_succ,List.map_append,← List.append_assoc]; rfl);have hlj:(acc++(List.range j).map (fun j=>Ns bs (8*j) 8)).length≤8*k+8:=by simp; omega
      generalize acc++(List.range j).map (fun j=>Ns bs (8*j) 8)=acc at how HNJ hlj ⊢;obtain⟨vp,vc,rfl⟩:=Zm how;have hF:=(G H).below hbw;have s0:wr.cell? ⟨sb,m,none⟩=some (.slice (some ⟨ga,0,none⟩) bs.length bs.length):=by rw [G HGA,G HBS]; exact hF.slot hml
      have hgr2:wr.heap[ga]?=some (.cells (yC bs).toArray 5 (0,0)):=by rw [G HGA,G HBS]; exact(hF.each m hml).1
      have HLC:=J (show Calls Tryz.prog 55 #[.slice (some ⟨ga,0,none⟩) bs.length bs.length,.int .i64 (8*(j:Int)),.int .i64 8] wr (fun e w'=>e=.returned (.int .u64 (Ns bs (8*j) 8))∧w'=wr) from Zim bs ga (8*j) 8 wr hgr2 (G HBY) (by decide) (by omega) (G HBL));have hwj:IntKind.i64.wrap (8*(j:Int))=8*(j:Int):=by rw [IntKind.wrap_i64]; omega
      have hjI:(j:Int)<(nw:Int):=by omega
      obtain⟨y,hy⟩:∃ y,y=Ns bs (8*j) 8:=⟨_,rfl⟩;rw [← hy] at HLC HNJ;clear hy;have HOW:=J how;have HBV:=J hbw;have HBAR:=J hbar;have hzw:=hbw.size;clear how hbw hbar hF hgr2;go_wp2_with fail
      refine(G HLC).mono ?_;rintro e w5 ⟨rfl,hw5⟩;subst w5;go_wp2_with (at_builtin; refine wpList_append_own _ rfl _ _ 30 rfl w.heap.size 62 ti _ 1 8 Tryz.underlying30 hti hty0 hty1 hty2 rfl (by decide) _ _ _ rfl (World.ownsRow.alloc (G HOW) _) ⟨wr.heap.size,0,none⟩ 1 1 [.int .u64 y] rfl rfl (by intro j u hj; match j,hj with | 0,hj=>(simp at hj; subst hj; simp [Addr.add])) (by intro u hu; simp at hu; subst hu; rfl) ?e3 ?e4 ?e5 ?_)
      case e3=>unfold maxLen; omega
      case e4=>omega
      case e5=>simp; omega
      intro v7 w7 hown7 hgr7 _;have HX:=J (show w7.ownsRow w.heap.size 62 1 v7 (acc++[y]).length (uC (acc++[y])) by rw [Us,List.length_append]; exact hown7);have HB7:=J (Re (G HBV) (G HOW) hgr7);have HR7:=J (show w7.heap[ba]?=some (.cells #[.int .i64 (nw:Int),.int .i64 (m:Int)] 139 (0,0)) by
       have ha:=(Yj wr (.cells #[.int .u64 y] 62 (0,0)));have hr:=(ha.2.1.block ba (Zd (G HBAR))).trans (G HBAR);exact(hgr7.block ba (Zd hr) (fun e=>Xu (G HOW) (G HBAR) (by decide) e.symm)).trans hr)
      clear hown7 hgr7 a0 a1 s0;go_wp2;go_roundw
      case rel=>exact⟨j+1,_,by go_num,rfl,by omega,by rw [G HNJ]; exact G HX,G HB7,G HR7⟩
      case measure=>simp [intOf]; omega
     ·
      have hjn:j=nw:=by omega
      subst hjn;have HOW:=J how;have HBV:=J hbw;clear how hbw hbar a1;go_wp2;go_roundw
      case rel=>exact⟨k+1,_,by go_num,rfl,by omega,by rw [G HNX]; exact G HOW,G HBV⟩
      case measure=>simp [intOf]; omega
  ·
   have hkn:k=args.length:=by omega
   subst hkn;rw [List.take_length] at how;rw [List.take_length];have HOW:=J how;have HBW:=J hbw;clear how hbw;go_wp2;go_ret;exact⟨_,rfl,G HOW,G HBW⟩
end Go.Proofs.YteddfaconabobaaGreatDoor
