import Derived.Test.YtkenknfgeoecbaaGreatDoorJ9
namespace Go.Proofs.YtkenknfgeoecbaaGreatDoor
set_option maxHeartbeats 2000000
set_option maxRecDepth 100000
theorem Zao (w:World):(callFunc 336 #[]).run Tryz.prog w=.ok (.value (.tuple #[])) w:=run_call_mark0 Tryz.func336 (by kernel_rfl) (by kernel_rfl) (by kernel_rfl) .disable (by kernel_rfl) w
theorem Zcn (w:World):(callFunc 338 #[]).run Tryz.prog w=.ok (.value (.tuple #[])) w:=run_call_mark0 Tryz.func338 (by kernel_rfl) (by kernel_rfl) (by kernel_rfl) .enable (by kernel_rfl) w
theorem Ziy (a:Addr)(w:World):(callFunc 339 #[.pointer (some a)]).run Tryz.prog w=.ok (.value (.tuple #[])) w:=run_call_marked Tryz.func339 (by kernel_rfl) (by kernel_rfl) (by kernel_rfl) .acquire (by kernel_rfl) a w
theorem Ziz (a:Addr)(w:World):(callFunc 341 #[.pointer (some a)]).run Tryz.prog w=.ok (.value (.tuple #[])) w:=run_call_marked Tryz.func341 (by kernel_rfl) (by kernel_rfl) (by kernel_rfl) .releaseMerge (by kernel_rfl) a w
theorem Zrb (a:Addr)(x:Value)(u:FrameMode)(w:World)(hc:w.cell? a=some x)(hz:w.frozen? a=false) :
 CallsD Tryz.prog 221 #[.pointer (some a),.bool true] u w fun e u' w'=>u'=u∧(e=.returned (.tuple #[])∧w'=w.drew.setCell a (.int .u32 1)):=by
 have hc':w.drew.cell? a=some x:=by go_simp
 have hz':w.drew.frozen? a=false:=by go_simp
 have hst:=run_call_store (P:=Tryz.prog) Tryz.func289 (by kernel_rfl) (by kernel_rfl) (by kernel_rfl) (by kernel_rfl) (k:=.u32) (y:=1) hc' hz';go_enter_d Tryz.func221,Tryz.ntmps221
 go_wp2;go_region_calls
 all_goals (go_end0; exact⟨rfl,rfl⟩)
theorem Zme (a:Addr)(u:FrameMode)(w:World)(hc:w.cell? a=some (.int .i32 1))(hz:w.frozen? a=false) :
 CallsD Tryz.prog 220 #[.pointer (some a)] u w fun e u' w'=>u'=u∧(e=.returned (.tuple #[])∧w'=w.setCell a (.int .i32 0)):=by
 have hd:=Zao;have he:=Zcn;have hr:=Ziz;have hadd:=run_call_add (P:=Tryz.prog) Tryz.func342 (by kernel_rfl) (by kernel_rfl) (by kernel_rfl) .i32 (by kernel_rfl) (y:=-1) (s:=0) hc hz (by simp [go_sem]; rfl);have hcv:=run_convert_to_unsafe (P:=Tryz.prog) (src:=454) (dst:=141) Tryz.underlying454 Tryz.underlying141 (by kernel_rfl) hc;go_enter_d Tryz.func220,Tryz.ntmps220
 go_wp2;go_end0
 go_wp2;all_goals (go_end0; exact⟨rfl,rfl⟩)
theorem Zuh (a:Addr)(w:World)(hc:w.cell? a=some (.int .i32 0))(hz:w.frozen? a=false) :
 Calls Tryz.prog 219 #[.pointer (some a)] w fun e w'=>e=.returned (.tuple #[])∧w'=w.setCell a (.int .i32 1):=by
 have hd:=Zao;have he:=Zcn;have ha:=Ziy;have hcas:=run_call_cas_hit (P:=Tryz.prog) Tryz.func337 (by kernel_rfl) (by kernel_rfl) (by kernel_rfl) .i32 (by kernel_rfl) (y:=1) hc hz;have hc':(w.setCell a (.int .i32 1)).cell? a=some (.int .i32 1):=World.cell?_setCell_same w a _ hc;have hcv:=run_convert_to_unsafe (P:=Tryz.prog) (src:=454) (dst:=141) Tryz.underlying454 Tryz.underlying141 (by kernel_rfl) hc';go_enter Tryz.func219,Tryz.ntmps219
 go_wp2;first | go_end0 | (simp only [Exit.inBlock,Exit.then]; refine bodyPost_ret (results_none rfl _ _ _) rfl ?_) | refine bodyPost_ret (results_none rfl _ _ _) rfl ?_
 go_wp2;all_goals (go_end0; exact⟨rfl,rfl⟩)
end Go.Proofs.YtkenknfgeoecbaaGreatDoor
namespace Go.Proofs.YtkenknfgeoecbaaGreatDoor
open Go.RowKit
set_option maxHeartbeats 4000000
set_option maxRecDepth 100000
theorem Yfi {P:Program}{ops:Array Oper}{Q:Exit->Act->World->Prop}{id:Nat}(hm:P.follows .mixedOrders=true)(d:Nat->Nat)(hinj:∀ i j,d i=d j->i=j)(keep:Nat->Prop)(hkeep:∀ t,keep t->∀ i,d i≠t)(a0:Act)(Ok:Nat->Value->World->Prop)(S:World->Prop)(R:World->World->Prop)
 (hd:∀(i:Nat) (o:Oper),ops[i]?=some o->(o.dst=some (d i)∨o.dst=none)∧o.guard=none)
 (hsz:∀(i:Nat) (o:Oper),ops[i]?=some o->o.dst=some (d i)->d i<a0.tmps.size)
 (hle:∀(i:Nat) (o:Oper),ops[i]?=some o->∀ e ∈ o.after,Region.binds .any e=true->e.on<i)
 (stab:∀ i v w w',Ok i v w->R w w'->Ok i v w')
 (stabS:∀ w w',S w->R w w'->S w')
 (step:∀(i:Nat) (o:Oper),ops[i]?=some o->∀(a:Act) (w:World),S w->(∀ t,keep t->a.eval (.tmp t)=a0.eval (.tmp t))->(∀ e ∈ o.after,Region.binds .any e=true->(∃ o',ops[e.on]?=some o'∧o'.dst=some (d e.on))->Ok e.on (a.eval (.tmp (d e.on))) w) ->
  o.wp P a w (fun a' w'=>∃ v,a'=a.put o.dst v∧R w w'∧Ok i v w') Q)
 (fin:∀(a:Act) (w:World),S w->a.defers=a0.defers->a.tmps.size=a0.tmps.size->(∀ t,keep t->a.eval (.tmp t)=a0.eval (.tmp t))->(∀(i:Nat) (o:Oper),ops[i]?=some o->o.dst=some (d i)->Ok i (a.eval (.tmp (d i))) w)->(∀(i:Nat) (o:Oper),ops[i]?=some o->o.dst=none->∃ v,Ok i v w)->Q .normal a w)
 {w:World} (hS:S w.drew):(Code.region id ops true).wp P Q a0 w:=by
 refine wp_region_any hm (Iq (fun L a w=>S w∧L.size=ops.size∧a.defers=a0.defers∧a.tmps.size=a0.tmps.size∧(∀ t,keep t->a.eval (.tmp t)=a0.eval (.tmp t))∧(∀ i,i<ops.size->L.getD i true=true->∀ o,ops[i]?=some o->o.dst=some (d i)->Ok i (a.eval (.tmp (d i))) w)∧(∀(i:Nat) (o:Oper),ops[i]?=some o->o.dst=none->(L.getD i true=true->∃ v,Ok i v w))) ?_ ?_ _ _ _ _ ?_ ?_)
 ·rintro L a w i ⟨h1,h2,h3,h4,h5,h6,h7⟩ hi;obtain⟨hl,o,ho,hdeps⟩:=mem_ready.1 hi;have hlt:i<ops.size:=(Array.getElem?_eq_some_iff.1 ho).1;obtain⟨hdst,hgd⟩:=hd i o ho;have hwp:=step i o ho a w h1 (fun t ht=>h5 t ht) (fun e he hb hh=>by
   obtain⟨o',ho',hdo⟩:=hh;have hel:L.getD e.on true=true:=by
    have:=hdeps e he hb;have hes:e.on<L.size:=by have:=hle i o ho e he hb; omega
    simpa [hes] using this
   exact h6 e.on (Nat.lt_trans (hle i o ho e he hb) hlt) hel o' ho' hdo)
  unfold wpOp;simp only [ho];rw [if_pos (by unfold Region.wanted; rw [hgd])];refine Or.inl ?_;refine Oper.wp_mono ?_ hwp;rintro a' w' ⟨v,rfl,hbl,hok⟩;have key:(fun a' w'=>S w'∧(L.setIfInBounds i true).size=ops.size∧a'.defers=a0.defers∧a'.tmps.size=a0.tmps.size∧(∀ t,keep t->a'.eval (.tmp t)=a0.eval (.tmp t))∧(∀ j,j<ops.size->(L.setIfInBounds i true).getD j true=true->∀ o,ops[j]?=some o->o.dst=some (d j)->Ok j (a'.eval (.tmp (d j))) w')∧(∀(j:Nat) (o:Oper),ops[j]?=some o->o.dst=none->((L.setIfInBounds i true).getD j true=true->∃ v,Ok j v w'))) (a.put o.dst v) w':=by
   rcases hdst with hdst | hdst
   ·simp only [hdst];refine⟨stabS _ _ h1 hbl,by simpa using h2,by simpa [Act.put] using h3,by simpa [Act.put] using h4,fun t ht=>?_,fun j hj hlj o' ho' hdo=>?_,fun j o' ho' hdo=>?_⟩
    ·rw [Nc _ _ _ _ (fun e=>hkeep t ht i (by first | exact e | exact e.symm))]; exact h5 t ht
    ·by_cases hji:j=i
     ·subst hji; rw [Kc _ _ _ (by have:=hsz j o' ho' hdo; omega)]; exact hok
     ·rw [Nc _ _ _ _ (fun e=>hji (by first | exact hinj _ _ e | exact(hinj _ _ e).symm))];exact stab _ _ _ _ (h6 j hj (by simpa [Array.getElem?_setIfInBounds,Ne.symm hji] using hlj) o' ho' hdo) hbl
    ·have hji:¬ j=i:=fun e=>by subst e; rw [ho'] at ho; injection ho with ho; subst ho; rw [hdo] at hdst; cases hdst
     intro hlj;obtain⟨v',hv'⟩:=(h7 j o' ho' hdo) (by simpa [Array.getElem?_setIfInBounds,Ne.symm hji] using hlj);exact⟨v',stab _ _ _ _ hv' hbl⟩
   ·simp only [hdst,Act.put];refine⟨stabS _ _ h1 hbl,by simpa using h2,h3,h4,h5,fun j hj hlj o' ho' hdo=>?_,fun j o' ho' hdo hlj=>?_⟩
    ·have hji:¬ j=i:=fun e=>by subst e; rw [ho'] at ho; injection ho with ho; subst ho; rw [hdo] at hdst; cases hdst
     exact stab _ _ _ _ (h6 j hj (by simpa [Array.getElem?_setIfInBounds,Ne.symm hji] using hlj) o' ho' hdo) hbl
    ·by_cases hji:j=i
     ·subst hji; exact⟨v,hok⟩
     ·obtain⟨v',hv'⟩:=(h7 j o' ho' hdo) (by simpa [Array.getElem?_setIfInBounds,Ne.symm hji] using hlj);exact⟨v',stab _ _ _ _ hv' hbl⟩
  exact key
 ·rintro L a w ⟨h1,h2,h3,h4,h5,h6,h7⟩ hr;have all:∀ n j,j<n->j<ops.size->L.getD j true=true:=by
   intro n;induction n with
   | zero=>intro j hj; omega
   | succ n ih =>
    intro j hj hjs;cases hlj:L.getD j true with
    | true=>rfl
    | false =>
     exfalso
     have ho:ops[j]?=some ops[j]:=Array.getElem?_eq_getElem hjs;have:j ∈ Region.ready .any ops L:=mem_ready.2 ⟨hlj,ops[j],ho,fun e he hb=>by
      have hlt:=hle j _ ho e he hb;have:=ih e.on (by omega) (by omega);have hes:e.on<L.size:=by omega
      simpa [hes] using this⟩
     rw [hr] at this;cases this
  exact fin a w h1 h3 h4 h5 (fun i o ho hdo=>h6 i (Array.getElem?_eq_some_iff.1 ho).1 (all (i+1) i (by omega) (Array.getElem?_eq_some_iff.1 ho).1) o ho hdo) (fun i o ho hdo=>(h7 i o ho hdo) (all (i+1) i (by omega) (Array.getElem?_eq_some_iff.1 ho).1))
 ·unfold unl;exact Nat.le_trans List.countP_le_length (by simp)
 ·exact⟨hS,by simp,rfl,rfl,fun _ _=>rfl,fun i hi h=>by simp [hi] at h,fun i o ho _ h=>by simp [(Array.getElem?_eq_some_iff.1 ho).1] at h⟩
theorem Zom (w:World)(r:Option Nat):w.grownBy w r:=⟨rfl,rfl,rfl,Nat.le_refl _,fun _ _ _=>rfl⟩
theorem Sf (b:Nat):∀(cs:List Value) (o:Nat) (u:World),u.grownBy (u.setCells b o cs) (some b)
 | [],_,u=>Zom u _
 | v :: cs,o,u=>Yg (Nn u b o v) (Sf b cs (o+1) (u.setCell ⟨b,o,none⟩ v))
theorem Zgd (b:Nat)(cs:List Value)(o:Nat)(u:World)(hb:b<=u.heap.size):Below b u (u.setCells b o cs) :=
 have h:=Sf b cs o u;⟨h.os,h.tape,h.output,h.size,fun q hq=>h.block q (by omega) (by simp; omega)⟩
def GT (S:Um)(B:Nat)(arr:Array Value)(u:World):Prop:=∃ v4 v5 v6,.agg arr=Zdz S v4 v5 v6∧u.ownsRow B 3 1 v4 (S.vals 4).length (Yz (S.vals 4))∧u.ownsRow B 3 1 v5 (S.vals 5).length (Yz (S.vals 5))∧u.ownsRow B 3 1 v6 (S.vals 6).length (Yz (S.vals 6))∧Zaa v4 v5 v6
theorem GT.kept {S:Um}{B b:Nat}{arr:Array Value}{u u':World}(h:GT S B arr u)(hg:u.grownBy u' (some b))(hb:b<B):GT S B arr u':=by obtain⟨v4,v5,v6,h1,h2,h3,h4,h5⟩:=h;exact⟨v4,v5,v6,h1,Gu h2 hg hb,Gu h3 hg hb,Gu h4 hg hb,h5⟩
structure OS (W:World)(b:Nat)(u:World):Prop where
 grow:W.grownBy u (some b)
 hd:∀ j,j<4->u.cell? ⟨b,j,none⟩=W.cell? ⟨b,j,none⟩
 th:u.there b 4 12
 fz:∀ j,u.frozen? ⟨b,j,none⟩=false
 u8:U8 u
 it:Ck u
structure OR (W:World)(b:Nat)(S:Um)(u u':World):Prop where
 s:OS W b u'
 g:u.grownBy u' (some b)
 c:(∀ j,u'.cell? ⟨b,j,none⟩=u.cell? ⟨b,j,none⟩)∨∃ arr,arr.size=12∧arr.all (·.oneCell')=true∧u'.rangeAt b 4 arr.toList∧GT S W.heap.size arr u'
theorem OS.same_refl {W:World}{b:Nat}{S:Um}{u:World}(h:OS W b u):OR W b S u u:=⟨h,Zom _ _,Or.inl fun _=>rfl⟩
def OkC (W:World)(b:Nat)(s:ByteArray)(S:Um)(i:Nat)(v:Value)(u:World):Prop :=
 match i with
 | 0=>v=.pointer (some ⟨b,0,none⟩)
 | 1=>v=.pointer (some ⟨b,0,none⟩)
 | 2=>v=.pointer (some ⟨b,0,none⟩)
 | 3=>v=.pointer (some ⟨b,0,none⟩)
 | 4=>v=.string s
 | 5=>∃ arr ev,v=.tuple #[.agg arr,ev]∧arr.size=12∧arr.all (·.oneCell')=true∧GT S W.heap.size arr u
 | 6=>∃ arr ev,v=.tuple #[.agg arr,ev]∧arr.size=12∧arr.all (·.oneCell')=true∧GT S W.heap.size arr u
 | 7=>∃ arr,v=.agg arr∧arr.size=12∧arr.all (·.oneCell')=true∧GT S W.heap.size arr u
 | 9=>v=.pointer (some ⟨b,0,none⟩)
 | 10=>v=.pointer (some ⟨b,4,none⟩)
 | 11=>∃ arr,arr.size=12∧arr.all (·.oneCell')=true∧u.rangeAt b 4 arr.toList∧GT S W.heap.size arr u
 | _=>True
theorem OkC.stab {W:World}{b:Nat}{s:ByteArray}{S:Um}(hb:b<W.heap.size)(i:Nat)(v:Value)(u u':World)(h:OkC W b s S i v u)(hr:OR W b S u u'):OkC W b s S i v u':=by
 unfold OkC at *;split at h
 ·exact h
 ·exact h
 ·exact h
 ·exact h
 ·exact h
 ·obtain⟨arr,ev,h1,h2,h3,h4⟩:=h;exact⟨arr,ev,h1,h2,h3,h4.kept hr.g hb⟩
 ·obtain⟨arr,ev,h1,h2,h3,h4⟩:=h;exact⟨arr,ev,h1,h2,h3,h4.kept hr.g hb⟩
 ·obtain⟨arr,h1,h2,h3,h4⟩:=h;exact⟨arr,h1,h2,h3,h4.kept hr.g hb⟩
 ·exact h
 ·exact h
 ·obtain⟨arr,h1,h0,h2,h3⟩:=h;rcases hr.c with hc | hc
  ·exact⟨arr,h1,h0,fun j x hx=>(hc _).trans (h2 j x hx),h3.kept hr.g hb⟩
  ·exact hc
 ·trivial
def dR (i:Nat):Nat:=if i<6 then i+2 else if i=6 then 1 else i+1
theorem Ydg (i j:Nat)(h:dR i=dR j):i=j:=by unfold dR at h; split at h <;> split at h <;> (try split at h) <;> (try split at h) <;> omega
theorem Zzb (t:Nat)(ht:t=0)(i:Nat):dR i≠t:=by unfold dR; split <;> (try split) <;> omega
structure Rd1 (W:World)(b:Nat)(S:Um)(u:World):Prop where
 s:OS W b u
 r:∃ arr,arr.size=12∧arr.all (·.oneCell')=true∧u.rangeAt b 4 arr.toList∧GT S W.heap.size arr u
theorem Zzc (s:ByteArray)(S:Um)(hS:Xk s=.inr S)(b:Nat)(pl:Addr)(w:World)(hbw:b<w.heap.size)(hpb:pl.block≠b)(hU:U8 w)(hI:Ck w)(hg1:1≠b)(hg2:3<b∧4<b)
 (hp:w.cell? pl=some (.pointer (some ⟨b,0,none⟩))) (hs:w.cell? ⟨b,0,none⟩=some (.string s)) (hth:w.there b 4 12) (hfz:∀ j,w.frozen? ⟨b,j,none⟩=false) :
 Calls Tryz.prog 106 #[.pointer (some pl)] w fun e w'=>e=.returned (.tuple #[])∧Rd1 w b S w':=by
 have HU:=Ze hU;have HI:=Ze hI;have HTH:=Ze hth;have HFZ:=Ze hfz;have HP:=Ze hp;have HS:=Ze hs;have HPS:=Ze hS;clear hU hI hth hfz hp hs hS;go_enter Tryz.func106,Tryz.ntmps106
 go_wp2_with fail
 have hS0:OS w b w.drew:=⟨⟨rfl,rfl,rfl,Nat.le_refl _,fun _ _ _=>rfl⟩,fun _ _=>rfl,Zb HTH,Zb HFZ,Zb HU,⟨(Zb HI).items,(Zb HI).lo,(Zb HI).hi,(Zb HI).spare⟩⟩;refine Yfi (by kernel_rfl) dR Ydg (fun t=>t=0) Zzb _ (OkC w b s S) (OS w b) (OR w b S) ?hd ?hsz ?hle (fun i v u u' h hr=>OkC.stab hbw i v u u' h hr) (fun u u' _ hr=>hr.s) ?step ?fin hS0;case hd =>
  intro i o ho;have hi:i<12:=(Array.getElem?_eq_some_iff.1 ho).1;match i,hi with
  | 0,_=>obtain rfl:=oR ho; exact⟨Or.inl rfl,rfl⟩
  | 1,_=>obtain rfl:=oR ho; exact⟨Or.inl rfl,rfl⟩
  | 2,_=>obtain rfl:=oR ho; exact⟨Or.inl rfl,rfl⟩
  | 3,_=>obtain rfl:=oR ho; exact⟨Or.inl rfl,rfl⟩
  | 4,_=>obtain rfl:=oR ho; exact⟨Or.inl rfl,rfl⟩
  | 5,_=>obtain rfl:=oR ho; exact⟨Or.inl rfl,rfl⟩
  | 6,_=>obtain rfl:=oR ho; exact⟨Or.inl rfl,rfl⟩
  | 7,_=>obtain rfl:=oR ho; exact⟨Or.inl rfl,rfl⟩
  | 8,_=>obtain rfl:=oR ho; exact⟨Or.inl rfl,rfl⟩
  | 9,_=>obtain rfl:=oR ho; exact⟨Or.inl rfl,rfl⟩
  | 10,_=>obtain rfl:=oR ho; exact⟨Or.inl rfl,rfl⟩
  | 11,_=>obtain rfl:=oR ho; exact⟨Or.inr rfl,rfl⟩
 case hsz =>
  intro i o ho hdo;have hi:i<12:=(Array.getElem?_eq_some_iff.1 ho).1;match i,hi with
  | 0,_=>show dR 0<12; decide
  | 1,_=>show dR 1<12; decide
  | 2,_=>show dR 2<12; decide
  | 3,_=>show dR 3<12; decide
  | 4,_=>show dR 4<12; decide
  | 5,_=>show dR 5<12; decide
  | 6,_=>show dR 6<12; decide
  | 7,_=>show dR 7<12; decide
  | 8,_=>show dR 8<12; decide
  | 9,_=>show dR 9<12; decide
  | 10,_=>show dR 10<12; decide
  | 11,_=>obtain rfl:=oR ho; cases hdo
 case hle =>
  intro i o ho;have hi:i<12:=(Array.getElem?_eq_some_iff.1 ho).1;match i,hi with
  | 0,_=>obtain rfl:=oR ho; decide
  | 1,_=>obtain rfl:=oR ho; decide
  | 2,_=>obtain rfl:=oR ho; decide
  | 3,_=>obtain rfl:=oR ho; decide
  | 4,_=>obtain rfl:=oR ho; decide
  | 5,_=>obtain rfl:=oR ho; decide
  | 6,_=>obtain rfl:=oR ho; decide
  | 7,_=>obtain rfl:=oR ho; decide
  | 8,_=>obtain rfl:=oR ho; decide
  | 9,_=>obtain rfl:=oR ho; decide
  | 10,_=>obtain rfl:=oR ho; decide
  | 11,_=>obtain rfl:=oR ho; decide
 case step =>
  intro i o ho a u hS hfr hdp;have hi:i<12:=(Array.getElem?_eq_some_iff.1 ho).1;have hpu:u.cell? pl=some (.pointer (some ⟨b,0,none⟩)):=by have hlt:pl.block<w.heap.size:=World.block_lt_of_cell? w _ (Zb HP);exact(World.cell?_of_block (hS.grow.block pl.block hlt (by simpa using hpb))).trans (Zb HP)
  have hsu:u.cell? ⟨b,0,none⟩=some (.string s):=(hS.hd 0 (by omega)).trans (Zb HS);match i,hi with
  | 0,_=>obtain rfl:=oR ho;have f0:a.eval (.tmp 0)=.pointer (some pl):=hfr 0 rfl;refine Zy (F:=fun v w'=>_∧_) (v:=.pointer (some ⟨b,0,none⟩)) (w':=u) ?_ ⟨hS.same_refl,rfl⟩;simp [Act.eval] at f0;clear hdp hfr ho hS;simp [execOp,f0,hpu,go_sem]
  | 1,_=>obtain rfl:=oR ho;have f0:a.eval (.tmp 0)=.pointer (some pl):=hfr 0 rfl;refine Zy (F:=fun v w'=>_∧_) (v:=.pointer (some ⟨b,0,none⟩)) (w':=u) ?_ ⟨hS.same_refl,rfl⟩;simp [Act.eval] at f0;clear hdp hfr ho hS;simp [execOp,f0,hpu,go_sem]
  | 2,_=>obtain rfl:=oR ho;have f0:a.eval (.tmp 3)=.pointer (some ⟨b,0,none⟩):=hdp ⟨1,.data⟩ (by simp) rfl ⟨_,rfl,rfl⟩;refine Zy (F:=fun v w'=>_∧_) (v:=.pointer (some ⟨b,0,none⟩)) (w':=u) ?_ ⟨hS.same_refl,rfl⟩;simp [Act.eval] at f0;clear hdp hfr ho hS;simp [execOp,f0,go_sem]
  | 3,_=>obtain rfl:=oR ho;have f0:a.eval (.tmp 4)=.pointer (some ⟨b,0,none⟩):=hdp ⟨2,.data⟩ (by simp) rfl ⟨_,rfl,rfl⟩;refine Zy (F:=fun v w'=>_∧_) (v:=.pointer (some ⟨b,0,none⟩)) (w':=u) ?_ ⟨hS.same_refl,rfl⟩;simp [Act.eval] at f0;clear hdp hfr ho hS;simp [execOp,f0,go_sem]
  | 4,_=>obtain rfl:=oR ho;have f0:a.eval (.tmp 5)=.pointer (some ⟨b,0,none⟩):=hdp ⟨3,.data⟩ (by simp) rfl ⟨_,rfl,rfl⟩;refine Zy (F:=fun v w'=>_∧_) (v:=.string s) (w':=u) ?_ ⟨hS.same_refl,rfl⟩;simp [Act.eval] at f0;clear hdp hfr ho hS;simp [execOp,f0,hsu,go_sem]
  | 5,_ =>
   obtain rfl:=oR ho;have f0:a.eval (.tmp 6)=.string s:=hdp ⟨4,.data⟩ (by simp) rfl ⟨_,rfl,rfl⟩;refine Zgn (F:=fun v w'=>_∧_) (f:=45) (args:=#[.string s]) (w1:=u) ?_ ((Zjw s u hS.u8 hS.it).mono ?_)
   ·clear hdp hfr ho;simp [execOp,go_sem];simpa [Act.eval] using f0
   ·rintro e u' ⟨hb,arr,ev,rfl,hA1,hA2,hM⟩;have hz:=hS.grow.size;unfold Xy at hM;rw [Zb HPS] at hM;obtain⟨v4,v5,v6,m1,m2,m3,m4,m5,m6⟩:=hM;have hbb:∀ j,u'.cell? ⟨b,j,none⟩=u.cell? ⟨b,j,none⟩:=fun j=>hb.cell (p:=⟨b,j,none⟩) (show b<_ by omega);have hff:∀ j,u'.frozen? ⟨b,j,none⟩=u.frozen? ⟨b,j,none⟩:=fun j=>World.frozen?_of_block (a:=⟨b,j,none⟩) (hb.block b (by omega));refine⟨_,rfl,⟨⟨Yg hS.grow (Zn hb),fun j hj=>(hbb j).trans (hS.hd j hj),fun j hj=>⟨by rw [hbb]; exact(hS.th j hj).1,by rw [hff]; exact(hS.th j hj).2⟩,fun j=>(hff j).trans (hS.fz j),hS.u8.below hb hS.u8.lt,hS.it.grown (Zn (row:=some b) hb) hg1⟩,Zn hb,Or.inl hbb⟩,?_⟩;exact⟨arr,ev,rfl,hA1,hA2,v4,v5,v6,m1,Xw m3 hz,Xw m4 hz,Xw m5 hz,m6⟩
  | 6,_=>obtain rfl:=oR ho;obtain⟨arr,ev,f0,k1,k2,k3⟩:∃ arr ev,a.eval (.tmp 7)=.tuple #[.agg arr,ev]∧arr.size=12∧arr.all (·.oneCell')=true∧GT S w.heap.size arr u:=hdp ⟨5,.data⟩ (by simp) rfl ⟨_,rfl,rfl⟩;refine Zy (F:=fun v w'=>_∧_) (v:=.tuple #[.agg arr,ev]) (w':=u) ?_ ⟨hS.same_refl,⟨arr,ev,rfl,k1,k2,k3⟩⟩;simp [Act.eval] at f0;clear hdp hfr ho hS;simp [execOp,f0,go_sem]
  | 7,_=>obtain rfl:=oR ho;obtain⟨arr,ev,f0,k1,k2,k3⟩:∃ arr ev,a.eval (.tmp 1)=.tuple #[.agg arr,ev]∧arr.size=12∧arr.all (·.oneCell')=true∧GT S w.heap.size arr u:=hdp ⟨6,.data⟩ (by simp) rfl ⟨_,rfl,rfl⟩;refine Zy (F:=fun v w'=>_∧_) (v:=.agg arr) (w':=u) ?_ ⟨hS.same_refl,⟨arr,rfl,k1,k2,k3⟩⟩;simp [Act.eval] at f0;clear hdp hfr ho hS;simp [execOp,f0,go_sem]
  | 8,_=>obtain rfl:=oR ho;obtain⟨arr,ev,f0,k1,k2,k3⟩:∃ arr ev,a.eval (.tmp 1)=.tuple #[.agg arr,ev]∧arr.size=12∧arr.all (·.oneCell')=true∧GT S w.heap.size arr u:=hdp ⟨6,.data⟩ (by simp) rfl ⟨_,rfl,rfl⟩;refine Zy (F:=fun v w'=>_∧_) (v:=ev) (w':=u) ?_ ⟨hS.same_refl,trivial⟩;simp [Act.eval] at f0;clear hdp hfr ho hS;simp [execOp,f0,go_sem]
  | 9,_=>obtain rfl:=oR ho;have f0:a.eval (.tmp 2)=.pointer (some ⟨b,0,none⟩):=hdp ⟨0,.data⟩ (by simp) rfl ⟨_,rfl,rfl⟩;refine Zy (F:=fun v w'=>_∧_) (v:=.pointer (some ⟨b,0,none⟩)) (w':=u) ?_ ⟨hS.same_refl,rfl⟩;simp [Act.eval] at f0;clear hdp hfr ho hS;simp [execOp,f0,go_sem]
  | 10,_=>obtain rfl:=oR ho;have f0:a.eval (.tmp 10)=.pointer (some ⟨b,0,none⟩):=hdp ⟨9,.data⟩ (by simp) rfl ⟨_,rfl,rfl⟩;refine Zy (F:=fun v w'=>_∧_) (v:=.pointer (some ⟨b,4,none⟩)) (w':=u) ?_ ⟨hS.same_refl,rfl⟩;simp [Act.eval] at f0;clear hdp hfr ho hS;simp [execOp,f0,go_sem]
  | 11,_ =>
   obtain rfl:=oR ho;have f0:a.eval (.tmp 11)=.pointer (some ⟨b,4,none⟩):=hdp ⟨10,.data⟩ (by simp) rfl ⟨_,rfl,rfl⟩;obtain⟨arr,f1,k1,k2,k3⟩:∃ arr,a.eval (.tmp 8)=.agg arr∧arr.size=12∧arr.all (·.oneCell')=true∧GT S w.heap.size arr u:=hdp ⟨7,.data⟩ (by simp) rfl ⟨_,rfl,rfl⟩;have hz:=hS.grow.size;have hgb:u.grownBy (u.setCells b 4 arr.toList) (some b):=Sf b arr.toList 4 u;have hk:=k3.kept hgb hbw;have hth:u.there b 4 arr.size:=by rw [k1]; exact hS.th
   have hrg:=World.rangeAt_setCells_same u b 4 arr.toList (by simpa using hth);exact wp_store_mid 25 (.tmp 11) (.tmp 8) rfl b 4 arr f0 f1 hth (Tryz.infTab.trans (congrArg some k1.symm)) k2 ⟨_,rfl,⟨⟨Yg hS.grow hgb,fun j hj=>(World.cell?_setCells_out b arr.toList 4 u ⟨b,j,none⟩ (fun _ _=>Or.inl hj)).trans (hS.hd j hj),World.there_setCells hS.th b 4 arr.toList,fun j=>(World.frozen?_setCells b arr.toList 4 u ⟨b,j,none⟩).trans (hS.fz j),hS.u8.below (Zgd b arr.toList 4 u (by omega)) hg2,hS.it.grown hgb hg1⟩,hgb,Or.inr ⟨arr,k1,k2,hrg,hk⟩⟩,⟨arr,k1,k2,hrg,hk⟩⟩
 case fin=>intro a u hS hdf hts hout hok hno;have h11:∃ arr,arr.size=12∧arr.all (·.oneCell')=true∧u.rangeAt b 4 arr.toList∧GT S w.heap.size arr u:=(hno 11 _ rfl rfl).elim fun _ h=>h;clear hok hno hout;go_wp2;refine bodyPost_end (results_none (fn:=Tryz.f106) rfl _ _ _) hdf ?_;exact⟨rfl,hS,h11⟩
end Go.Proofs.YtkenknfgeoecbaaGreatDoor
namespace Go.Proofs.YtkenknfgeoecbaaGreatDoor
set_option maxHeartbeats 4000000
set_option maxRecDepth 100000
theorem Zja (a:Addr)(w:World)(hc:w.cell? a=some (.int .u32 0)):Calls Tryz.prog 155 #[.pointer (some a)] w fun e w'=>e=.returned (.bool false)∧w'=w:=by
 have hl:=run_call_load (P:=Tryz.prog) Tryz.func218 (by kernel_rfl) (by kernel_rfl) (by kernel_rfl) .u32 (by kernel_rfl) hc;go_enter Tryz.func155,Tryz.ntmps155
 go_wp2;refine bodyPost_ret (v:=.bool false) (by simp [results,Tryz.results155]) rfl ?_;exact⟨rfl,rfl⟩
theorem Zmg (b:Nat)(pl:Addr)(w:World)(R:World->Prop)(c1:w.cell? ⟨b,1,none⟩=some (.int .u32 0))(c2:w.cell? ⟨b,2,none⟩=some (.int .i32 0))(f2:w.frozen? ⟨b,2,none⟩=false)
 (hcl:Calls Tryz.prog 106 #[.pointer (some pl)] (w.setCell ⟨b,2,none⟩ (.int .i32 1)) fun e u=>e=.returned (.tuple #[])∧u.cell? ⟨b,1,none⟩=some (.int .u32 0)∧u.cell? ⟨b,2,none⟩=some (.int .i32 1)∧u.frozen? ⟨b,1,none⟩=false∧u.frozen? ⟨b,2,none⟩=false∧R u) :
 Calls Tryz.prog 156 #[.pointer (some ⟨b,1,none⟩),.func (.func 106) #[] #[.pointer (some pl)]] w fun e w'=>e=.returned (.tuple #[])∧∃ u,R u∧w'=(u.drew.setCell ⟨b,1,none⟩ (.int .u32 1)).setCell ⟨b,2,none⟩ (.int .i32 0):=by
 have hc1:(w.setCell ⟨b,2,none⟩ (.int .i32 1)).cell? ⟨b,1,none⟩=some (.int .u32 0):=(World.cell?_setCell_other _ ⟨b,2,none⟩ ⟨b,1,none⟩ _ (by simp)).trans c1;have hnot:∀(x:Bool) (w:World),(Op.unary .not (.bool x)).run Tryz.prog w=.ok (.bool (!x)) w:=fun _ _=>rfl;go_enter_defers Tryz.func156,Tryz.ntmps156
 go_wp2_with (go_at_call 219; refine(Zuh ⟨b,2,none⟩ _ (by go_simp) (by go_simp)).mono ?_; rintro e w' ⟨rfl,rfl⟩)
 go_wp2_with (go_at_call 155; refine(Zja ⟨b,1,none⟩ _ hc1).mono ?_; rintro e w' ⟨rfl,rfl⟩)
 go_wp2_with fail
 refine hcl.mono ?_;rintro e u ⟨rfl,u1,u2,g1,g2,hR⟩;go_wp2;refine leaves_cons (f:=221) (args:=#[.pointer (some ⟨b,1,none⟩),.bool true]) (by simp) (by simp [go_sem]) ?_;refine(Zrb ⟨b,1,none⟩ (.int .u32 0) .returning _ u1 g1).mono ?_;rintro e u' w'' ⟨rfl,rfl,rfl⟩;refine leaves_cons (f:=220) (args:=#[.pointer (some ⟨b,2,none⟩)]) (by simp [settle]) (by simp [go_sem]) ?_;refine(Zme ⟨b,2,none⟩ _ _ ?_ (by simp [g2])).mono ?_
 ·refine(World.cell?_setCell_other _ ⟨b,1,none⟩ ⟨b,2,none⟩ _ (by simp)).trans ?_;rw [World.cell?_drew];exact u2
 rintro e u' w'' ⟨rfl,rfl,rfl⟩;simp [Leaves,settle,results,Tryz.results156];exact⟨u,hR,rfl⟩
theorem Ydh (b:Nat)(pl:Addr)(w:World)(R:World->Prop)(c1:w.cell? ⟨b,1,none⟩=some (.int .u32 0))(c2:w.cell? ⟨b,2,none⟩=some (.int .i32 0))(f2:w.frozen? ⟨b,2,none⟩=false)
 (hcl:Calls Tryz.prog 106 #[.pointer (some pl)] (w.setCell ⟨b,2,none⟩ (.int .i32 1)) fun e u=>e=.returned (.tuple #[])∧u.cell? ⟨b,1,none⟩=some (.int .u32 0)∧u.cell? ⟨b,2,none⟩=some (.int .i32 1)∧u.frozen? ⟨b,1,none⟩=false∧u.frozen? ⟨b,2,none⟩=false∧R u) :
 Calls Tryz.prog 105 #[.pointer (some ⟨b,1,none⟩),.func (.func 106) #[] #[.pointer (some pl)]] w fun e w'=>e=.returned (.tuple #[])∧∃ u,R u∧w'=(u.drew.setCell ⟨b,1,none⟩ (.int .u32 1)).setCell ⟨b,2,none⟩ (.int .i32 0):=by
 have hnot:∀(x:Bool) (w:World),(Op.unary .not (.bool x)).run Tryz.prog w=.ok (.bool (!x)) w:=fun _ _=>rfl;go_enter Tryz.func105,Tryz.ntmps105
 go_wp2_with (go_at_call 155; refine(Zja ⟨b,1,none⟩ _ c1).mono ?_; rintro e w' ⟨rfl,hw⟩; subst w')
 go_wp2_with fail
 refine(Zmg b pl w R c1 c2 f2 hcl).mono ?_;rintro e w' ⟨rfl,hu⟩;go_wp2;go_end0
 exact⟨rfl,hu⟩
end Go.Proofs.YtkenknfgeoecbaaGreatDoor
