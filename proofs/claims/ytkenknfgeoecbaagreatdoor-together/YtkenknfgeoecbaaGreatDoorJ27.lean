import Derived.Test.YtkenknfgeoecbaaGreatDoorJ26
import Derived.Test.YtkenknfgeoecbaaGreatDoorJ31
namespace Go.Proofs.YtkenknfgeoecbaaGreatDoor
open Go.RowKit
structure Mb (P:Zj):Prop where
 cnt:Jn P=true
 head:∃(r:Int) (own:List Int),∀ k,k<P.funcs.length->Yu r own (P.funcs.getD k Zk)=true
 body:∀ k,k<P.funcs.length->Oc P (P.funcs.getD k Zk)=true
 sm:∀ k,k<P.funcs.length->(P.funcs.getD k Zk).slots.length=0∧∀ j,j<(P.funcs.getD k Zk).params.length->((P.funcs.getD k Zk).params.getD j (0,0)).1=0
 word:∀ f ∈ P.funcs,∀ l ∈ f.blocks,∀ i ∈ l,(0<=i.n∧i.n<18446744073709551616)∧(i.op=3∨i.op=16)
def FnG (P:Zj)(f:Zm):Prop:=∃ k,k<P.funcs.length∧f=P.funcs.getD k Zk
structure FnH (f:Zm):Prop where
 pl:f.params.length<=8
 pw:∀ k,k<f.params.length->0<=(f.params.getD k (0,0)).1∧(f.params.getD k (0,0)).1<=8∧Rl f (f.params.getD k (0,0))=true
 r0:0<=f.results
 r1:f.results<=4
 hl:f.homes.length<=12
 sl:f.slots.length<=6
 sw:∀ k,k<f.slots.length->1<=f.slots.getD k 0∧f.slots.getD k 0<=8
 b1:1<=f.blocks.length
 b12:f.blocks.length<=12
 bk:∀ k,k<f.blocks.length->1<=(f.blocks.getD k []).length∧(f.blocks.getD k []).length<=24
 n0:f.slots.length=0
 p0:∀ j,j<f.params.length->(f.params.getD j (0,0)).1=0
theorem Dy {n lo hi:Int}(h:Gn n lo hi=true):lo<=n∧n<=hi:=of_decide_eq_true h
theorem Oa {α β:Type}(l:List α)(f:α->β)(a:α)(b:β)(k:Nat)(h:k<l.length):(l.map f).getD k b=f (l.getD k a):=by simp [List.getD,h]
theorem Ycw {r:Int}{own:List Int}{f:Zm}(h:Yu r own f=true)(hn0:f.slots.length=0)(hp0:∀ j,j<f.params.length->(f.params.getD j (0,0)).1=0):FnH f:=by
 unfold Yu Ns Le at h;simp only [Bool.and_eq_true,decide_eq_true_eq] at h;obtain⟨h1,⟨-,h2,h3⟩,h4,-,h5,h6,h7,h8,h9⟩:=h;have h2:=Dy h2;have h7:=Dy h7;refine⟨h1,fun k hk=>?_,h2.1,h2.2,h4,h5,fun k hk=>Dy (Gv h6 hk),by omega,by omega,fun k hk=>?_,hn0,hp0⟩
 ·have a:=Dy (Gv h3 (k:=k) (by simpa using hk));rw [Oa f.params (·.1) (0,0) 0 k hk] at a;have b:=Gv h9 hk;unfold Ke at b;simp only [Bool.and_eq_true] at b;exact⟨a.1,a.2,b.1⟩
 ·have a:=Dy (Gv h8 hk);omega
theorem Mb.fnH {P:Zj}(h:Mb P){f:Zm}(hf:FnG P f):FnH f:=by obtain⟨k,hk,rfl⟩:=hf;obtain⟨r,own,hh⟩:=h.head;exact Ycw (hh k hk) (h.sm k hk).1 (h.sm k hk).2
structure Yez (P:Zj)(f:Zm)(i:Yj)(last:Bool):Prop where
 op0:1<=i.op
 op1:i.op<=18
 lst:decide (14<=i.op)=last
 fld:Xq P f i=true
 n0:0<=i.n
 n1:i.n<18446744073709551616
 on:i.op=3∨i.op=16
theorem Mb.insG {P:Zj}(h:Mb P){f:Zm}(hf:FnG P f){b i:Nat}(hb:b<f.blocks.length)(hi:i<(f.blocks.getD b []).length):Yez P f ((f.blocks.getD b []).getD i Lc) (decide (i+1=(f.blocks.getD b []).length)):=by obtain⟨k,hk,rfl⟩:=hf;have hq:=Gv (Gv (h.body k hk) hb) hi;unfold Zky Zat at hq;simp only [Bool.and_eq_true,beq_iff_eq] at hq;obtain⟨h1,h2,-,h4⟩:=hq;have h1:=Dy h1;have hw:=h.word (P.funcs.getD k Zk) (by rw [Ll _ _ _ hk]; exact List.getElem_mem _) ((P.funcs.getD k Zk).blocks.getD b []) (by rw [Ll _ _ _ hb]; exact List.getElem_mem _) (((P.funcs.getD k Zk).blocks.getD b []).getD i Lc) (by rw [Ll _ _ _ hi]; exact List.getElem_mem _);exact⟨h1.1,h1.2,h2,h4,hw.1.1,hw.1.2,hw.2⟩
section
variable {P:Zj} {f:Zm} {i:Yj}
theorem Yfa (h:Xq P f i=true)(ho:i.op<=11∨i.op=15):0<=i.d∧i.d<f.homes.length:=by
 unfold Xq at h;repeat' split at h
 all_goals try (exfalso; omega)
 all_goals (simp only [Bool.and_eq_true,Jp,Gn,decide_eq_true_eq] at h; omega)
theorem Yfb (h:Xq P f i=true)(ho:2<=i.op∧i.op<=9):0<=i.a∧i.a<f.homes.length:=by
 unfold Xq at h;repeat' split at h
 all_goals try (exfalso; omega)
 all_goals (simp only [Bool.and_eq_true,Jp,Gn,decide_eq_true_eq] at h; omega)
theorem Yfc (h:Xq P f i=true)(ho:3<=i.op∧i.op<=9):0<=i.bb∧i.bb<f.homes.length:=by
 unfold Xq at h;repeat' split at h
 all_goals try (exfalso; omega)
 all_goals (simp only [Bool.and_eq_true,Jp,Gn,decide_eq_true_eq] at h; omega)
theorem Zyp (h:Xq P f i=true)(ho:i.op=16):(i.outs.length:Int)=f.results∧Mt f i.outs=true:=by unfold Xq at h;simp only [ho] at h;simpa using h
theorem Zma {l:List Int}(h:Mt f l=true):∀ k,k<l.length->0<=l.getD k 0∧l.getD k 0<f.homes.length:=fun k hk=>by
 have:=Dy (Gv h hk);omega
end
structure Ka (P:Zj)(x:Ol):Prop where
 fn:FnG P x.fn
 b0:0<=x.b
 b1:x.b<x.fn.blocks.length
 i0:0<=x.i
 i1:x.i<(x.fn.blocks.getD x.b.toNat []).length
 v:x.v.length=x.fn.homes.length
 s:x.s.map List.length=x.fn.slots.map fun n=>(8*n).toNat
 ok:IOk x
section
variable {P:Zj} {x:Ol}
theorem Ka.slen (h:Ka P x):x.s.length=x.fn.slots.length:=by have:=congrArg List.length h.s;simpa using this
theorem Ka.slot (h:Ka P x){k:Nat}(hk:k<x.s.length):(x.s.getD k []).length=(8*x.fn.slots.getD k 0).toNat:=by
 have e:(x.s.map List.length).getD k 0=(x.fn.slots.map fun n=>(8*n).toNat).getD k 0:=by rw [h.s]
 rw [Oa x.s List.length [] 0 k hk,Oa x.fn.slots (fun n=>(8*n).toNat) 0 0 k (by rw [← h.slen]; exact hk)] at e;exact e
theorem Ka.small (h:Ka P x)(hG:Mb P):∀ l ∈ x.s,l.length<=65536:=fun l hl=>by
 obtain⟨k,hk,rfl⟩:=List.getElem_of_mem hl;have e:=h.slot hk;have:=(hG.fnH h.fn).sw k (by rw [← h.slen]; exact hk);rw [Ll x.s [] k hk] at e;omega
theorem Ka.insG (h:Ka P x)(hG:Mb P):Yez P x.fn (Yf x) (decide (x.i.toNat+1=(x.fn.blocks.getD x.b.toNat []).length)):=by have h1:=h.b0;have h2:=h.b1;have h3:=h.i0;have h4:=h.i1;exact hG.insG h.fn (by omega) (by omega)
theorem Ka.next (h:Ka P x)(hG:Mb P)(ho:(Yf x).op<14):Ka P (Jh x):=by have hi:=(h.insG hG).lst;have h3:=h.i0;have h4:=h.i1;rw [decide_eq_false (by omega)] at hi;have hi:=of_decide_eq_false hi.symm;exact⟨h.fn,h.b0,h.b1,by show 0<=x.i+1; omega,by show x.i+1<_; unfold Jh; simp only; omega,h.v,h.s,⟨h.ok.v,h.ok.s⟩⟩
theorem Zch {l:List Int}{k:Nat}{n m:Int}(h:m ∈ l.set k n):m ∈ l∨m=n:=by
 rcases List.mem_or_eq_of_mem_set h with h | h
 ·exact Or.inl h
 ·exact Or.inr h
theorem Ka.setV (h:Ka P x)(k:Nat){n:Int}(h0:0<=n)(h1:n<18446744073709551616):Ka P { x with v:=x.v.set k n } :=
 ⟨h.fn,h.b0,h.b1,h.i0,h.i1,by simp [h.v],h.s,⟨fun m hm=>by
  rcases Zch hm with hm | rfl
  ·exact h.ok.v m hm
  ·exact⟨h0,h1⟩,h.ok.s⟩⟩
theorem Zoi {l:List Int}(h:∀ n ∈ l,0<=n∧n<18446744073709551616)(k:Nat):0<=l.getD k 0∧l.getD k 0<18446744073709551616:=by
 by_cases hk:k<l.length
 ·exact h _ (Zcf hk 0)
 ·simp [List.getD,hk]
theorem Ka.bytes (h:Ka P x)(k:Nat):∀ n ∈ x.s.getD k [],0<=n∧n<256:=by
 by_cases hk:k<x.s.length
 ·rw [Ll _ _ _ hk]; exact h.ok.s _ (List.getElem_mem _)
 ·intro n hn; simp [List.getD,hk] at hn
theorem Zyq {v ds vs:List Int}(hv:∀ n ∈ v,0<=n∧n<18446744073709551616)(hw:∀ n ∈ vs,0<=n∧n<18446744073709551616):∀ n ∈ Zga v ds vs,0<=n∧n<18446744073709551616:=by
 unfold Zga;induction ds generalizing v vs with
 | nil=>simpa using hv
 | cons d ds ih =>
  cases vs with
  | nil=>simpa using hv
  | cons a vs =>
   simp only [List.zip_cons_cons,List.foldl_cons];refine ih (fun n hn=>?_) (fun n hn=>hw n (List.mem_cons_of_mem _ hn));rcases Zch hn with hn | rfl
   ·exact hv n hn
   ·exact hw _ List.mem_cons_self
theorem Ka.setVs (h:Ka P x)(ds:List Int){vs:List Int}(hw:∀ n ∈ vs,0<=n∧n<18446744073709551616):Ka P { x with v:=Zga x.v ds vs } :=
 ⟨h.fn,h.b0,h.b1,h.i0,h.i1,by simp [Ztu,h.v],h.s,⟨Zyq h.ok.v hw,h.ok.s⟩⟩
theorem Zuc (n:Int):0<=IntKind.u64.wrap n∧IntKind.u64.wrap n<18446744073709551616:=by
 have:IntKind.u64.wrap n=n % 18446744073709551616:=by simp [IntKind.wrap,IntKind.bits,IntKind.signed]
 omega
theorem Zyr (op a b:Int):0<=Ii op a b∧Ii op a b<18446744073709551616:=by
 unfold Ii;repeat' split
 all_goals first | exact Zuc _ | omega
theorem Ka.loc (h:Ka P x)(hG:Mb P)(h16:(Yf x).op<16):Ka P (Zdw (Jh x) (Yf x)):=by
 have g:=h.insG hG;have hv:=h.ok.v;generalize hi:Yf x=i at g h16 ⊢;have ho:i.op=3:=by rcases g.on with h | h <;> omega
 have hn:=h.next hG (by rw [hi]; omega);unfold Zdw;repeat' split
 all_goals try (exfalso; omega)
 have:=Zyr i.op (x.v.getD i.a.toNat 0) (x.v.getD i.bb.toNat 0);exact hn.setV _ this.1 this.2
theorem Zud (hok:IOk x)(l:List Int):∀ n ∈ Lr x.v l,0<=n∧n<18446744073709551616:=fun n hn=>by
 obtain⟨k,-,rfl⟩:=List.mem_map.1 hn;exact Zoi hok.v _
theorem Zys {f:Zm}(hv:x.v.length=f.homes.length)(hs:x.s.map List.length=f.slots.map fun n=>(8*n).toNat){a:Int×Int}(h:Rl f a=true)(h0:0<=a.1)(h8:a.1<=8):Yey x a:=by
 unfold Rl at h;have hsl:x.s.length=f.slots.length:=by have:=congrArg List.length hs; simpa using this
 split at h
 ·rename_i hz;have:=Dy h;exact⟨h0,h8,by omega,fun _=>by omega,fun hn=>absurd hz hn⟩
 ·rename_i hz;simp only [Bool.and_eq_true,decide_eq_true_eq] at h;have h1:=Dy h.1;have h2:=h.2;refine⟨h0,h8,h1.1,fun hn=>absurd hn hz,fun _=>⟨by omega,?_⟩⟩;have hk:a.2.toNat<x.s.length:=by omega
  have e:(x.s.map List.length).getD a.2.toNat 0=(f.slots.map fun n=>(8*n).toNat).getD a.2.toNat 0:=by rw [hs]
  rw [Oa x.s List.length [] 0 _ hk,Oa f.slots (fun n=>(8*n).toNat) 0 0 _ (by omega),h2] at e;omega
theorem Ycx {f:Zm}(hH:FnH f):(∀ k,k<(Le f).1.length->0<=(Le f).1.getD k 0∧(Le f).1.getD k 0<=8)∧(Le f).1.length<=8:=by
 unfold Le;refine⟨fun k hk=>?_,by simpa using hH.pl⟩;have hk':k<f.params.length:=by simpa using hk
 simp only;rw [Oa f.params (·.1) (0,0) 0 k hk'];exact⟨(hH.pw k hk').1,(hH.pw k hk').2.1⟩
theorem Zci:∀(l:List (Int×Int)) (v:List Int) (s:List (List Int)) (ws:List Int),(Se l v s ws).1.length=v.length∧(Se l v s ws).2.map List.length=s.map List.length
 | [],v,s,ws=>⟨rfl,rfl⟩
 | p :: r,v,s,ws=>by
  unfold Se;split
  ·have:=Zci r (v.set p.2.toNat (ws.getD 0 0)) s (ws.drop 1);simpa using this
  ·have:=Zci r v (s.set p.2.toNat (Zoh (s.getD p.2.toNat []) (ws.take p.1.toNat))) (ws.drop p.1.toNat);exact⟨this.1,this.2.trans (Zyk _ _ _ (Zqu _ _))⟩
theorem Zgc:∀(l:List (Int×Int)) (v:List Int) (s:List (List Int)) (ws:List Int),(∀ n ∈ v,0<=n∧n<18446744073709551616)->(∀ l ∈ s,∀ n ∈ l,0<=n∧n<256)->(∀ n ∈ ws,0<=n∧n<18446744073709551616)->(∀ n ∈ (Se l v s ws).1,0<=n∧n<18446744073709551616)∧∀ z ∈ (Se l v s ws).2,∀ n ∈ z,0<=n∧n<256
 | [],v,s,ws,hv,hs,_=>⟨hv,hs⟩
 | p :: r,v,s,ws,hv,hs,hw=>by
  unfold Se;split
  ·refine Zgc r _ s _ (fun n hn=>?_) hs (fun n hn=>hw n (List.mem_of_mem_drop hn));rcases Zch hn with hn | rfl
   ·exact hv n hn
   ·exact Zoi hw 0
  ·refine Zgc r v _ _ hv (fun l hl=>?_) (fun n hn=>hw n (List.mem_of_mem_drop hn));rcases List.mem_or_eq_of_mem_set hl with hl | rfl
   ·exact hs l hl
   ·refine Zua ?_ _;by_cases hk:p.2.toNat<s.length
    ·rw [Ll _ _ _ hk]; exact hs _ (List.getElem_mem _)
    ·intro n hn; simp [List.getD,hk] at hn
theorem Ycy (hG:Mb P){f:Zm}(hf:FnG P f){ws:List Int}(hw:∀ n ∈ ws,0<=n∧n<18446744073709551616)(o:List Int):Ka P (Kw f ws o):=by
 have hH:=hG.fnH hf;have h1:=hH.b1;have h2:=hH.bk 0 (by omega);have hl:=Zci f.params (List.replicate f.homes.length 0) (f.slots.map fun n=>List.replicate (8*n).toNat 0) ws;have hb:=Zgc f.params (List.replicate f.homes.length 0) (f.slots.map fun n=>List.replicate (8*n).toNat 0) ws (fun n hn=>by rw [List.eq_of_mem_replicate hn]; omega) (fun l hl n hn=>by
  obtain⟨k,-,rfl⟩:=List.mem_map.1 hl;rw [List.eq_of_mem_replicate hn]; omega) hw
 exact⟨hf,Int.le_refl 0,by show(0:Int)<f.blocks.length; omega,Int.le_refl 0,by show(0:Int)<(f.blocks.getD 0 []).length; omega,by show(Se _ _ _ _).1.length=f.homes.length; rw [hl.1]; simp,by show(Se _ _ _ _).2.map List.length=f.slots.map _; rw [hl.2]; simp [List.map_map,Function.comp_def],⟨hb.1,hb.2⟩⟩
theorem Ycz {f:Zm}(hH:FnH f):∀ k,k<f.params.length->Ztz (List.replicate f.homes.length 0) (f.slots.map fun n=>List.replicate (8*n).toNat 0) (f.params.getD k (0,0)):=fun k hk=>by
 obtain⟨h0,h8,hs⟩:=hH.pw k hk;have:=Zys (x:=⟨f,0,0,List.replicate f.homes.length 0,f.slots.map fun n=>List.replicate (8*n).toNat 0,[]⟩) (by simp) (by simp) hs h0 h8;exact⟨h0,h8,this.f0,this.v,this.s⟩
end
def Kx:Type:=(List Ol×List Int×List (Int×List Int)) ⊕ ((List Int×List Int×List (Int×List Int)) ⊕ (Int×List Int×List (Int×List Int)))
abbrev Kx.go (st:List Ol)(sc:List Int)(tr:List (Int×List Int)):Kx:=.inl (st,sc,tr)
abbrev Kx.done (l:List Int)(sc:List Int)(tr:List (Int×List Int)):Kx:=.inr (.inl (l,sc,tr))
abbrev Kx.trap (c:Int)(sc:List Int)(tr:List (Int×List Int)):Kx:=.inr (.inr (c,sc,tr))
theorem Kx.el {motive:Kx->Prop}(r:Kx)(go:∀ st sc tr,motive (.go st sc tr))(done:∀ l sc tr,motive (.done l sc tr))(trap:∀ c sc tr,motive (.trap c sc tr)):motive r :=
 match r with
 | .inl (st,sc,tr)=>go st sc tr
 | .inr (.inl (l,sc,tr))=>done l sc tr
 | .inr (.inr (c,sc,tr))=>trap c sc tr
theorem Kx.go_inj {a a':List Ol}{b b':List Int}{c c':List (Int×List Int)}(h:Kx.go a b c=Kx.go a' b' c'):a=a'∧b=b'∧c=c':=by injection h with h;injection h with h1 h;injection h with h2 h3;exact⟨h1,h2,h3⟩
def stp (P:Zj)(x:Ol)(R:List Ol)(sc:List Int)(tr:List (Int×List Int)):Kx :=
 if (Yf x).op=12 then .go (Zgb P (Jh x) (Yf x) (Yf x).outs :: Jh x :: R) sc tr
 else if (Yf x).op=13 then .go ({ Jh x with v:=Zga x.v (Yf x).outs (Ybd sc (Yf x).outs.length) } :: R) (sc.drop (Yf x).outs.length) (tr++[((Yf x).f,Zub x (Yf x).args)])
 else if (Yf x).op=16 then
  match R with
  | []=>.done (Lr x.v (Yf x).outs) sc tr
  | c :: R'=>.go ({ c with v:=Zga c.v x.o (Lr x.v (Yf x).outs) } :: R') sc tr
 else if (Yf x).op=17 then .go (Zgb P (Jh x) (Yf x) x.o :: R) sc tr
 else if (Yf x).op=18 then .trap (Yf x).n sc tr
 else .go (Zdw (Jh x) (Yf x) :: R) sc tr
def Kx.run (P:Zj)(n:Nat):Kx->Dx
 | .inl (st,sc,tr)=>ev P n st sc tr
 | .inr (.inl (l,sc,tr))=>.done l n sc tr
 | .inr (.inr (c,sc,tr))=>.trap c n sc tr
theorem Yda (P:Zj)(n:Nat)(x:Ol)(R:List Ol)(sc:List Int)(tr:List (Int×List Int)):ev P (n+1) (x :: R) sc tr=(stp P x R sc tr).run P n:=by
 conv=>lhs; unfold ev
 unfold stp;by_cases h12:(Yf x).op=12
 ·rw [if_pos h12,if_pos h12]; rfl
 rw [if_neg h12,if_neg h12];by_cases h13:(Yf x).op=13
 ·rw [if_pos h13,if_pos h13]; rfl
 rw [if_neg h13,if_neg h13];by_cases h16:(Yf x).op=16
 ·rw [if_pos h16,if_pos h16];cases R <;> rfl
 rw [if_neg h16,if_neg h16];by_cases h17:(Yf x).op=17
 ·rw [if_pos h17,if_pos h17]; rfl
 rw [if_neg h17,if_neg h17];by_cases h18:(Yf x).op=18
 ·rw [if_pos h18,if_pos h18]; rfl
 rw [if_neg h18,if_neg h18];rfl
def WfS (P:Zj):List Ol->Prop
 | []=>False
 | [x]=>Ka P x∧x.o=[]
 | x :: c :: R=>Ka P x∧(x.o.length:Int)=x.fn.results∧(∀ k,k<x.o.length->0<=x.o.getD k 0∧x.o.getD k 0<c.v.length)∧WfS P (c :: R)
section
variable {P:Zj} {x y:Ol} {R:List Ol}
theorem WfS.top (h:WfS P (x :: R)):Ka P x:=by
 cases R with
 | nil=>exact h.1
 | cons c R=>exact h.1
theorem WfS.swap (h:WfS P (x :: R))(hy:Ka P y)(ho:y.o=x.o)(hr:y.fn.results=x.fn.results):WfS P (y :: R):=by
 cases R with
 | nil=>exact⟨hy,ho.trans h.2⟩
 | cons c R=>exact⟨hy,by rw [ho,hr]; exact h.2.1,by rw [ho]; exact h.2.2.1,h.2.2.2⟩
theorem Zyt (y:Ol)(i:Yj):(Zdw y i).fn=y.fn:=by
 unfold Zdw;repeat' split
 all_goals rfl
theorem Ydb (hG:Mb P)(h:Ka P x)(h16:(Yf x).op=16):((Yf x).outs.length:Int)=x.fn.results∧(Yf x).outs.length<=4∧∀ k,k<(Yf x).outs.length->0<=(Yf x).outs.getD k 0∧(Yf x).outs.getD k 0<x.v.length:=by obtain⟨h1,h2⟩:=Zyp (h.insG hG).fld h16;have:=(hG.fnH h.fn).r1;exact⟨h1,by omega,by rw [h.v]; exact Zma h2⟩
theorem Ydc (hG:Mb P)(h:WfS P (x :: R)){sc:List Int}(hsc:∀ n ∈ sc,0<=n∧n<18446744073709551616)(tr:List (Int×List Int)):∀{st sc' tr'},stp P x R sc tr=.go st sc' tr'->WfS P st∧∀ n ∈ sc',0<=n∧n<18446744073709551616:=by
 intro st sc' tr' he;have hx:=h.top;have hon:=(hx.insG hG).on;unfold stp at he;have h12:¬ (Yf x).op=12:=by omega
 rw [if_neg h12] at he;have h13:¬ (Yf x).op=13:=by omega
 rw [if_neg h13] at he;by_cases h16:(Yf x).op=16
 ·rw [if_pos h16] at he;cases R with
  | nil=>cases he
  | cons c R'=>obtain⟨e1,e2,e3⟩:=Kx.go_inj he;subst e1 e2;exact⟨h.2.2.2.swap (h.2.2.2.top.setVs _ (Zud hx.ok _)) rfl rfl,hsc⟩
 rw [if_neg h16] at he;have h17:¬ (Yf x).op=17:=by omega
 rw [if_neg h17] at he;have h18:¬ (Yf x).op=18:=by omega
 rw [if_neg h18] at he;obtain⟨e1,e2,e3⟩:=Kx.go_inj he;subst e1 e2;have:=(hx.insG hG).op1;exact⟨h.swap (hx.loc hG (by omega)) (Ycv _ _) (by rw [Zyt]; rfl),hsc⟩
end
theorem Ky {w:World}{B B' e size n:Nat}{v:Value}{xs:List Value}(h:w.ownsRow B e size v n xs)(hB:B'<=B):w.ownsRow B' e size v n xs:=by
 refine⟨h.1,?_⟩;rcases h.2 with hn | ⟨g,cap,cur,hv,hb,rest⟩
 ·exact .inl hn
 ·exact .inr ⟨g,cap,cur,hv,Nat.le_trans hB hb,rest⟩
theorem Zcj {P:Program}(w:World)(base:Nat)(t ty e:TypeId)(i:TypeInfo)(z:Value)(size bytes:Nat)(ht:P.underlying t=some (.slice e))(hi:P.info? e=some i)(hz:i.zero=some z)
 (hsize:i.size=size) (hby:i.bytes=bytes) (hzs:z.cells.size=size) (hsz:0<size)
 (v:Value) (n:Nat) (xs:List Value) (hown:w.ownsRow base e size v n xs)
 (a:Addr) (m c:Nat) (news:List Value) (hl:news.length=m*size) (hnews:∀ j u,news[j]?=some u->w.cell? (a.add j)=some u) (h1:∀ u ∈ news,u.oneCell'=true)
 (h63:n+m<=maxLen) (hbytes:(n+m)*bytes<=140737488355328) (hbase:base<=w.heap.size) :
 ∃ v' w',(Builtin.append_ #[t,t] ty #[v,.slice (some a) m c]).run P w=.ok v' w'∧w'.ownsRow base e size v' (n+m) (xs++news)∧w.grownBy w' v.ownBlock∧∀ g,v'.ownBlock=some g->v.ownBlock=some g∨w.heap.size<=g:=by
 obtain⟨v',w',hr,h2,h3,-⟩:=run_append_own (P:=P) w base t ty e i z size bytes ht hi hz hsize hby hzs hsz v n xs hown a m c news hl hnews h1 h63 hbytes hbase;refine⟨v',w',hr,h2,h3,fun g hg=>?_⟩;rcases hown.2 with⟨rfl,rfl⟩ | ⟨g0,cap,cur,rfl,hbg,hg0,hnc,hcm,hcs,htake⟩
 ·have hx:xs=[]:=List.eq_nil_of_length_eq_zero (by simpa using hown.1);subst hx;obtain⟨v2,w2,hr2,o2,-,-⟩:=run_append_own (P:=P) w w.heap.size t ty e i z size bytes ht hi hz hsize hby hzs hsz _ 0 [] (World.ownsRow_nil _ _ _ _) a m c news hl hnews h1 h63 hbytes (Nat.le_refl _);rw [hr] at hr2;injection hr2 with e1 e2;subst e1 e2;exact Or.inr (o2.lt g hg).1
 ·subst hsize;subst hby;by_cases hroom:n+m<=cap
  ·have hfit:n*i.size+news.length<=cur.size:=by rw [hl,hcs,← Nat.add_mul]; exact Nat.mul_le_mul_right _ hroom
   have hr2:=run_append_room (P:=P) w t ty e i ht hi g0 n cap cur hg0 a m c news hl hnews h1 hroom hfit;rw [hr] at hr2;injection hr2 with e1 e2;subst e1;exact Or.inl hg
  ·have holds:∀ j u,xs[j]?=some u->w.cell? ((⟨g0,0,none⟩:Addr).add j)=some u:=hown.cells (g:=g0) rfl;have hr2:=run_append_grow (P:=P) w t ty e i z ht hi hz ⟨g0,0,none⟩ n cap xs hown.1 holds a m c news hl hnews (by omega) (by simp only [maxLen] at h63; omega) (growslice_fits (by omega) hbytes);rw [hr] at hr2;injection hr2 with e1 e2;subst e1;injection hg with hg;exact Or.inr (Nat.le_of_eq hg)
theorem Om {P:Program}{ops:Array Oper}{o:Oper}{a:Act}{w:World}{K:Act->World->Prop}{Q:Exit->Act->World->Prop}{E:Prop}
 (hg:o.guard=none) (s x:Operand) (t:TypeId) (ho:o.op=.call { callee:=.builtin .append,args:=#[s,x],argTypes:=#[t,t] })
 (base:Nat) (e:TypeId) (i:TypeInfo) (z:Value) (size bytes:Nat) (ht:P.underlying t=some (.slice e)) (hi:P.info? e=some i) (hz:i.zero=some z)
 (hsize:i.size=size) (hby:i.bytes=bytes) (hzs:z.cells.size=size) (hsz:0<size)
 (v:Value) (n:Nat) (xs:List Value) (hs:a.eval s=v) (hown:w.ownsRow base e size v n xs)
 (ad:Addr) (m c:Nat) (news:List Value) (hx:a.eval x=.slice (some ad) m c) (hl:news.length=m*size) (hnews:∀ j u,news[j]?=some u->w.cell? (ad.add j)=some u) (h1:∀ u ∈ news,u.oneCell'=true)
 (h63:n+m<=maxLen) (hbytes:(n+m)*bytes<=140737488355328) (hbase:base<=w.heap.size)
 (h:∀ v' w',w'.ownsRow base e size v' (n+m) (xs++news)->w.grownBy w' v.ownBlock->(∀ g,v'.ownBlock=some g->v.ownBlock=some g∨w.heap.size<=g)->K (a.put o.dst v') w') :
 if Region.wanted o (yielded ops a.tmps)=true then Oper.wp P o a w K Q else E:=by
 have hw:Region.wanted o (yielded ops a.tmps)=true:=by simp [Region.wanted,hg]
 rw [if_pos hw];obtain⟨v',w',hr,h2,h3,h4⟩:=Zcj (P:=P) w base t o.type e i z size bytes ht hi hz hsize hby hzs hsz v n xs hown ad m c news hl hnews h1 h63 hbytes hbase;unfold Oper.wp execOp;simp only [ho,resolve,invoke,builtin,Sem.run_bind,Sem.run_pure,Result.andThen_ok,List.map_toArray,List.map_cons,List.map_nil,hs,hx,hr];exact h v' w' h2 h3 h4
theorem Zyu {P:Program}{ops:Array Oper}{Q:Exit->Act->World->Prop}{md:Region.Mode}{C:World->Prop}{d:Nat}{i:Nat}{oi od:Oper}{v:Value}{n:Nat}{L:Array Bool}{a:Act}{w:World}(hi:ops[i]?=some oi)(hd:ops[d]?=some od)
 (hk:((od.after.any fun e=>Region.binds md e&&e.on==i)&&(Region.noSelect ops&&(Region.free md ops L i&&((Region.ready md ops L).contains i&&!(L.getD d true)))))=true)
 (hQ:∀ c a w,Q (.panic c) (a.put oi.dst v) w->Q (.panic c) a w) (hy:YieldsIf P ops C oi v a) (hC:C w)
 (h:Mm P md ops Q C d n (L.setIfInBounds i true) (a.put oi.dst v) w):Mm P md ops Q C d (n+1) L a w:=by
 simp only [Bool.and_eq_true,Bool.not_eq_true'] at hk;exact Zpw hi hd hk.1 hk.2.1 hk.2.2.1 hk.2.2.2.1 hk.2.2.2.2 hQ hy hC h
structure FrR where
 x:Ol
 q:Nat
 lo:Nat
 hi:Nat
 lg:Nat
 bp:Option Addr
 sp:Option Addr
 op:Option Addr
 bc:Nat
 sc:Nat
 oc:Nat
 gs:List Nat
 B:Nat->Value
def FrR.At (w0 V:World)(f:FrR):Prop:=Ko w0 V f.x f.q f.lo f.hi f.lg f.bp f.sp f.op f.bc f.sc f.oc f.gs f.B
def Zmb (st:List FrR)(g:Nat):Prop:=∀ f ∈ st,g<f.lo∨f.hi<=g
def Km (st:List FrR):List Value:=st.reverse.map fun f=>.pointer (some ⟨f.q,0,none⟩)
def evC (fs:List Int)(es:List Value):List Value:=(fs.zip es).flatMap fun e=>[.int .i64 e.1,e.2]
structure TrI (V:World)(b:Nat)(N:Nat->Prop)(tv:Value)(tr:List (Int×List Int))(es:List Value):Prop where
 len:es.length=tr.length
 row:V.ownsRow b 374 2 tv tr.length (evC (tr.map (·.1)) es)
 out:∀ g,tv.ownBlock=some g->N g
 each:∀ k,k<tr.length->V.ownsRow b 90 1 (es.getD k .nilIface) (tr.getD k (0,[])).2.length (uC (tr.getD k (0,[])).2)∧∀ g,(es.getD k .nilIface).ownBlock=some g->N g
theorem Kz {w:World}{B e size n g:Nat}{v:Value}{xs:List Value}(h:w.ownsRow B e size v n xs)(hg:v.ownBlock=some g):∃ cs,w.heap[g]?=some (.cells cs e (0,0)):=by
 rcases h.2 with⟨rfl,-⟩ | ⟨g',cap,cur,rfl,-,hr,-⟩
 ·cases hg
 ·injection hg with hg;subst hg;exact⟨cur,hr⟩
theorem TrI.keep {V V':World}{b:Nat}{N N':Nat->Prop}{tv:Value}{tr:List (Int×List Int)}{es:List Value}(h:TrI V b N tv tr es)(hk:∀ g cs t,V.heap[g]?=some (.cells cs t (0,0))->t=374∨t=90->b<=g->N g->V'.heap[g]?=V.heap[g]?)(hN:∀ g,b<=g->g<V.heap.size->N g->N' g):TrI V' b N' tv tr es:=by
 refine⟨h.len,Nl h.row fun g hg=>?_,fun g hg=>hN g (h.row.lt g hg).1 (h.row.lt g hg).2 (h.out g hg),fun k hkk=>⟨Nl (h.each k hkk).1 fun g hg=>?_,fun g hg=>hN g ((h.each k hkk).1.lt g hg).1 ((h.each k hkk).1.lt g hg).2 ((h.each k hkk).2 g hg)⟩⟩
 ·obtain⟨cs,hr⟩:=Kz h.row hg;exact hk g cs _ hr (Or.inl rfl) (h.row.lt g hg).1 (h.out g hg)
 ·obtain⟨cs,hr⟩:=Kz (h.each k hkk).1 hg;exact hk g cs _ hr (Or.inr rfl) ((h.each k hkk).1.lt g hg).1 ((h.each k hkk).2 g hg)
def Ybe (rb:Nat)(t0:TypeId)(w w':World):Prop:=∀ g cs t,w.heap[g]?=some (.cells cs t (0,0))->t≠t0->g≠rb->w'.heap[g]?=w.heap[g]?
def Ij (V:World)(rb:Nat)(fv scv frv:Value)(kind:Int)(vv tv:Value)(steps:Int):Prop:=V.heap[rb]?=some (.cells #[fv,scv,frv,.int .i64 kind,vv,.int .i64 0,tv,.int .i64 steps,.int .i64 0] 202 (0,0))
structure Gj (w0 V:World)(rb b:Nat)(st:List FrR)(frv tv:Value)(tr:List (Int×List Int))(es:List Value):Prop where
 low:Below w0.heap.size w0 V
 w0b:w0.heap.size<=b
 rbb:b<=rb
 stk:∀ f ∈ st,f.At w0 V∧rb<f.lo
 ord:st.Pairwise fun u l=>l.hi<=u.lo
 fr:V.ownsRow b 264 1 frv st.length (Km st)
 fro:∀ g,frv.ownBlock=some g->Zmb st g
 tr:TrI V b (fun g=>Zmb st g∧g≠rb) tv tr es
section
variable {w0 V V':World} {rb b:Nat} {st R:List FrR} {f:FrR} {frv tv:Value} {tr:List (Int×List Int)} {es:List Value}
theorem Gj.grow (h:Gj w0 V rb b st frv tv tr es)(hb:Below V.heap.size V V'):Gj w0 V' rb b st frv tv tr es :=
 ⟨Zd h.low hb h.low.size,h.w0b,h.rbb,fun f hf=>⟨Lp (h.stk f hf).1 hb,(h.stk f hf).2⟩,h.ord,Nl h.fr fun g hg=>hb.block g (h.fr.lt g hg).2,h.fro,h.tr.keep (fun g _ _ hr _ _ _=>hb.block g (Zh hr)) (fun _ _ _ h=>h)⟩
theorem Gj.pair (h:Gj w0 V rb b (f :: R) frv tv tr es):∀ u ∈ R,u.hi<=f.lo:=(List.pairwise_cons.1 h.ord).1
theorem Gj.top (h:Gj w0 V rb b (f :: R) frv tv tr es){x:Ol}(hF:Ko w0 V' x f.q f.lo f.hi f.lg f.bp f.sp f.op f.bc f.sc f.oc f.gs f.B)(hO:OnB f.lo f.hi V V'):Gj w0 V' rb b ({ f with x:=x } :: R) frv tv tr es:=by
 have hz:=h.low.size;have hw:=h.w0b;have hr:=h.rbb;have hrl:=(h.stk f List.mem_cons_self).2;have hout:∀ g,Zmb (f :: R) g↔Zmb ({ f with x:=x } :: R) g:=fun g=>by
  unfold Zmb;simp only [List.forall_mem_cons]
 refine⟨⟨hO.os.trans h.low.os,hO.tape.trans h.low.tape,hO.output.trans h.low.output,Nat.le_trans hz hO.size,fun k hk=>(hO.oth k (by omega) (Or.inl (by omega))).trans (h.low.block k hk)⟩,hw,hr,fun u hu=>?_,List.pairwise_cons.2 ⟨h.pair,(List.pairwise_cons.1 h.ord).2⟩,Nl (by simpa [Km] using h.fr) fun g hg=>hO.oth g (h.fr.lt g hg).2 (h.fro g hg f List.mem_cons_self),fun g hg=>(hout g).1 (h.fro g hg),h.tr.keep (fun g _ _ hr _ _ hN=>hO.oth g (Zh hr) (hN.1 f List.mem_cons_self)) (fun g _ _ hN=>⟨(hout g).1 hN.1,hN.2⟩)⟩;rcases List.mem_cons.1 hu with rfl | hu
 ·exact⟨hF,hrl⟩
 ·have h1:=h.stk u (List.mem_cons_of_mem _ hu);have h2:=h.pair u hu;exact⟨Sc h1.1 (fun g g1 g2=>hO.oth g (Nat.lt_of_lt_of_le g2 h1.1.hs) (Or.inl (by omega))) hO.size,h1.2⟩
theorem Gj.own (h:Gj w0 V rb b st frv tv tr es)(hrow:∃ cs,V.heap[rb]?=some (.cells cs 202 (0,0)))(hO:One rb V V'):Gj w0 V' rb b st frv tv tr es:=by have hw:=h.w0b;have hr:=h.rbb;obtain⟨cs,hrow⟩:=hrow;have hne:∀ g,frv.ownBlock=some g->g≠rb:=fun g hg e=>Zfz h.fr hrow (by decide) (by rw [hg,e]);refine⟨⟨hO.os.trans h.low.os,hO.tape.trans h.low.tape,hO.output.trans h.low.output,by rw [hO.size]; exact h.low.size,fun k hk=>(hO.oth k (by omega)).trans (h.low.block k hk)⟩,hw,hr,fun u hu=>⟨Sc (h.stk u hu).1 (fun g g1 _=>hO.oth g (by have:=(h.stk u hu).2; omega)) (Nat.le_of_eq hO.size.symm),(h.stk u hu).2⟩,h.ord,Nl h.fr fun g hg=>hO.oth g (hne g hg),h.fro,h.tr.keep (fun g _ _ _ _ _ hN=>hO.oth g hN.2) (fun _ _ _ h=>h)⟩
theorem Gj.drop (h:Gj w0 V rb b (f :: R) frv tv tr es){p:Option Addr}{c:Nat}(hv:frv=.slice p (R.length+1) c):Gj w0 V rb b R (.slice p R.length c) tv tr es:=by
 subst hv;have hsub:∀ g,Zmb (f :: R) g->Zmb R g:=fun g hg u hu=>hg u (List.mem_cons_of_mem _ hu);refine⟨h.low,h.w0b,h.rbb,fun u hu=>h.stk u (List.mem_cons_of_mem _ hu),(List.pairwise_cons.1 h.ord).2,?_,fun g hg=>hsub g (h.fro g (by cases p <;> exact hg)),h.tr.keep (fun _ _ _ _ _ _ _=>rfl) (fun g _ _ hN=>⟨hsub g hN.1,hN.2⟩)⟩;rcases h.fr.2 with⟨e,hn⟩ | ⟨g,cap,cur,e,hb,hg,hnc,hcm,hcs,ht⟩
 ·simp at hn
 ·injection e with e1 e2 e3;subst e1 e3;refine⟨by simp [Km],.inr ⟨g,_,cur,rfl,hb,hg,by simp at hnc; omega,hcm,hcs,?_⟩⟩;have h2:Km (f :: R)=Km R++[.pointer (some ⟨f.q,0,none⟩)]:=by simp [Km]
  rw [h2] at ht;have h3:=congrArg (List.take R.length) ht;rw [List.take_take] at h3;simp only [List.length_cons,Nat.mul_one] at h3 ⊢;rw [Nat.min_eq_left (by omega),List.take_left' (by simp [Km])] at h3;exact h3
theorem Gj.push {V2 V3:World}{frv':Value}(h:Gj w0 V rb b st frv tv tr es)(hrow:∃ cs,V.heap[rb]?=some (.cells cs 202 (0,0)))(hb:Below V.heap.size V V2)(hf:f.At w0 V2)(hlo:V.heap.size<=f.lo)(hg:V2.grownBy V3 frv.ownBlock)
 (ho:V3.ownsRow b 264 1 frv' (st.length+1) (Km st++[.pointer (some ⟨f.q,0,none⟩)])) (hblk:∀ g,frv'.ownBlock=some g->frv.ownBlock=some g∨V2.heap.size<=g) (j:Nat) (u:Value) :
 Gj w0 (V3.setCell ⟨rb,j,none⟩ u) rb b (f :: st) frv' tv tr es∧Below b V (V3.setCell ⟨rb,j,none⟩ u)∧Ybe rb 264 V (V3.setCell ⟨rb,j,none⟩ u):=by
 obtain⟨cs,hrow⟩:=hrow;have hw:=h.w0b;have hr:=h.rbb;have hrl:=Zh hrow;have hz:=hb.size;have hgz:=hg.size;have hfb:∀ g,frv.ownBlock=some g->b<=g∧g<V.heap.size:=h.fr.lt;have hne:∀ g,frv.ownBlock=some g->g≠rb:=fun g hg e=>Zfz h.fr hrow (by decide) (by rw [hg,e]);have hsame:∀ g,g<V2.heap.size->frv.ownBlock≠some g->g≠rb->(V3.setCell ⟨rb,j,none⟩ u).heap[g]?=V2.heap[g]?:=fun g h1 h2 h3=>(heap_setCell_other _ _ _ _ h3).trans (hg.block g h1 (fun e=>h2 e.symm));have hsame0:∀ g,g<V.heap.size->frv.ownBlock≠some g->g≠rb->(V3.setCell ⟨rb,j,none⟩ u).heap[g]?=V.heap[g]?:=fun g h1 h2 h3=>(hsame g (by omega) h2 h3).trans (hb.block g h1);have hsz:(V3.setCell ⟨rb,j,none⟩ u).heap.size=V3.heap.size:=by simp
 have hB:Below b V (V3.setCell ⟨rb,j,none⟩ u):=⟨hg.os.trans hb.os,hg.tape.trans hb.tape,hg.output.trans hb.output,by rw [hsz]; omega,fun g hg'=>hsame0 g (by omega) (fun e=>by have:=(hfb g e).1; omega) (by omega)⟩;refine⟨⟨⟨hB.os.trans h.low.os,hB.tape.trans h.low.tape,hB.output.trans h.low.output,Nat.le_trans h.low.size hB.size,fun g hg'=>(hB.block g (by omega)).trans (h.low.block g hg')⟩,hw,hr,fun v hv=>?_,List.pairwise_cons.2 ⟨fun v hv=>Nat.le_trans (h.stk v hv).1.hs hlo,h.ord⟩,?_,fun g hg' v hv=>?_,h.tr.keep (fun g cs' t hr' ht hb' hN=>hsame0 g (Zh hr') (fun e=>?_) hN.2) (fun g _ hlt hN=>⟨fun v hv=>?_,hN.2⟩)⟩,hB,fun g cs' t hr' ht hne'=>hsame0 g (Zh hr') (fun e=>?_) hne'⟩
 ·rcases List.mem_cons.1 hv with rfl | hv
  ·exact⟨Sc hf (fun g g1 g2=>hsame g (Nat.lt_of_lt_of_le g2 hf.hs) (fun e=>by have:=(hfb g e).2; omega) (by omega)) (by rw [hsz]; omega),by omega⟩
  ·have k:=h.stk v hv;exact⟨Sc k.1 (fun g g1 g2=>hsame0 g (Nat.lt_of_lt_of_le g2 k.1.hs) (fun e=>by rcases h.fro g e v hv with h' | h' <;> omega) (by omega)) (by rw [hsz]; omega),k.2⟩
 ·have ho2:=Nl (V':=V3.setCell ⟨rb,j,none⟩ u) ho fun g hg'=>heap_setCell_other _ _ _ _ (by
   rcases hblk g hg' with e | e
   ·exact hne g e
   ·show g≠rb; omega)
  simpa [Km] using ho2
 ·have:=hf.hs;rcases List.mem_cons.1 hv with rfl | hv
  ·rcases hblk g hg' with e | e
   ·have:=(hfb g e).2; omega
   ·omega
  ·rcases hblk g hg' with e | e
   ·exact h.fro g e v hv
   ·have:=(h.stk v hv).1.hs; omega
 ·obtain⟨cs2,hr2⟩:=Kz h.fr e;rcases ht with rfl | rfl
  ·exact Ih hr2 hr' (by decide) rfl
  ·exact Ih hr2 hr' (by decide) rfl
 ·rcases List.mem_cons.1 hv with rfl | hv
  ·omega
  ·exact hN.1 v hv
 ·obtain⟨cs2,hr2⟩:=Kz h.fr e;exact Ih hr2 hr' (fun e=>ht e.symm) rfl
end
def Rk (x:Yx):List Value:=[.int .i64 x.1.1,.int .i64 x.1.2,.int .i64 x.2.1,.int .i64 x.2.2]
def Ri (xs:List Yx):List Value:=xs.flatMap Rk
theorem Zcp (xs:List Yx)(x:Yx):Ri (xs++[x])=Ri xs++Rk x:=by simp [Ri]
theorem Ce:∀(xs:List Yx) (k j:Nat),k<xs.length->j<4->(Ri xs)[k*4+j]?=(Rk (xs.getD k Yb))[j]?
 | a :: r,0,j,_,hj=>by
  have e:Ri (a :: r)=Rk a++Ri r:=rfl;rw [e,Nat.zero_mul,Nat.zero_add,List.getElem?_append_left (by simp [Rk]; omega)];rfl
 | a :: r,k+1,j,h,hj=>by
  have e:Ri (a :: r)=Rk a++Ri r:=rfl;have ih:=Ce r k j (by simpa using h) hj;rw [e,List.getElem?_append_right (by simp [Rk]; omega),show(k+1)*4+j-(Rk a).length=k*4+j by simp [Rk]; omega,ih];simp [List.getD]
theorem Cf {w:World}{B e:Nat}{v:Value}{xs:List Yx}(h:w.ownsRow B e 4 v xs.length (Ri xs)){k:Nat}(hk:k<xs.length):∃ g c,v=.slice (some ⟨g,0,none⟩) xs.length c∧v.ownBlock=some g∧B<=g∧g<w.heap.size∧w.cell? ⟨g,k*4,none⟩=some (.int .i64 (xs.getD k Yb).1.1)∧w.cell? ⟨g,k*4+1,none⟩=some (.int .i64 (xs.getD k Yb).1.2)∧w.cell? ⟨g,k*4+2,none⟩=some (.int .i64 (xs.getD k Yb).2.1)∧w.cell? ⟨g,k*4+3,none⟩=some (.int .i64 (xs.getD k Yb).2.2):=by
 obtain⟨g,c,e,hB,hl,hc⟩:=Zhw h (by omega);refine⟨g,c,e,by rw [e]; rfl,hB,hl,?_,?_,?_,?_⟩
 ·exact(hc _ (by omega)).trans (Ce xs k 0 hk (by omega))
 ·exact(hc _ (by omega)).trans (Ce xs k 1 hk (by omega))
 ·exact(hc _ (by omega)).trans (Ce xs k 2 hk (by omega))
 ·exact(hc _ (by omega)).trans (Ce xs k 3 hk (by omega))
def wkA (T:Yh)(lv:Value)(mr:Nat)(mv:Value):Array Value:=#[.int .i64 T.r,.int .i64 T.sp,.int .i64 T.lk,.int .i64 T.t0,.int .i64 T.t1,.slice T.pa T.ag.length T.ca,.slice T.pr T.rs.length T.cr,.slice T.ps T.ss.length T.cs,.int .i64 T.al,.int .i64 T.sh,.int .i64 T.br,.bool T.pairs,lv,.map (some mr),mv]
structure Ox (w:World)(B b mr:Nat)(T:Yh)(lv mv:Value)(x:Dg)(N:Nat):Prop where
 row:w.heap[b]?=some (.cells (wkA T lv mr mv) 213 (0,0))
 lo:w.ownsRow B 36 4 lv x.left.length (Ri x.left)
 mo:w.ownsRow B 36 4 mv x.made.length (Ri x.made)
 ne:∀ g,lv.ownBlock=some g->mv.ownBlock≠some g
 mp:∃ o m,w.heap[mr]?=some o∧MpO o m∧∀ q,Dc m q=x.rd q
 bd:∀ q,-(N:Int)<=x.rd q∧x.rd q<=N
 ll:x.left.length<=64
 ml:x.made.length<=N
 hb:B<=b
 hm:B<=mr
section
variable {w w':World} {B b mr:Nat} {T:Yh} {lv mv:Value} {x:Dg} {N:Nat}
theorem Ox.lt (h:Ox w B b mr T lv mv x N):b<w.heap.size∧mr<w.heap.size:=by
 obtain⟨o,m,h1,-⟩:=h.mp;exact⟨Zh h.row,by
  rcases Nat.lt_or_ge mr w.heap.size with h' | h'
  ·exact h'
  ·rw [Array.getElem?_eq_none h'] at h1; cases h1⟩
theorem Ox.below (h:Ox w B b mr T lv mv x N)(hb:Below w.heap.size w w'):Ox w' B b mr T lv mv x N:=by obtain⟨o,m,h1,h2,h3⟩:=h.mp;exact⟨(hb.block b h.lt.1).trans h.row,Xh h.lo (Jl (o:=none) hb) (fun g _ e=>by cases e),Xh h.mo (Jl (o:=none) hb) (fun g _ e=>by cases e),h.ne,⟨o,m,(hb.block mr h.lt.2).trans h1,h2,h3⟩,h.bd,h.ll,h.ml,h.hb,h.hm⟩
theorem Ox.more (h:Ox w B b mr T lv mv x N){N':Nat}(hN:N<=N'):Ox w B b mr T lv mv x N':=⟨h.row,h.lo,h.mo,h.ne,h.mp,fun q=>by have:=h.bd q; omega,h.ll,Nat.le_trans h.ml hN,h.hb,h.hm⟩
theorem Zbd {V:World}{A n size:Nat}{e:TypeId}{v:Value}{xs:List Value}(h:V.ownsRow A e size v n xs){g:Nat}(hg:v.ownBlock=some g):∃ cs,V.heap[g]?=some (.cells cs e (0,0)):=by
 rcases h.2 with⟨rfl,-⟩ | ⟨g',cap,cur,rfl,-,h3,-⟩
 ·cases hg
 ·injection hg with hg;subst hg;exact⟨cur,h3⟩
theorem Ox.nob (h:Ox w B b mr T lv mv x N){A n:Nat}{v:Value}{xs:List Value}(ho:w.ownsRow A 36 4 v n xs):v.ownBlock≠some b∧v.ownBlock≠some mr:=by
 refine⟨fun e=>?_,fun e=>?_⟩
 ·obtain⟨cs,h2⟩:=Zbd ho e;rw [h.row] at h2;injection h2 with h2;injection h2 with _ h2;exact absurd h2 (by decide)
 ·obtain⟨cs,h2⟩:=Zbd ho e;obtain⟨o,m,h1,⟨es,ck,rfl,-⟩,-⟩:=h.mp;rw [h1] at h2;injection h2 with h2;cases h2
theorem Ox.made (h:Ox w B b mr T lv mv x N){w7:World}{v7:Value}{p:Yx}(hg:w.grownBy w7 mv.ownBlock)(ho:w7.ownsRow B 36 4 v7 (x.made.length+1) (Ri x.made++Rk p))(hk:∀ g,v7.ownBlock=some g->mv.ownBlock=some g∨w.heap.size<=g) :
 w7.heap[b]?=some (.cells (wkA T lv mr mv) 213 (0,0))∧Ox (w7.setCell ⟨b,14,none⟩ v7) B b mr T lv v7 { x with made:=x.made++[p] } (N+1):=by
 have hlt:=h.lt;obtain⟨n1,n2⟩:=h.nob h.mo;obtain⟨n3,n4⟩:=h.nob h.lo;have hr7:=(hg.block b hlt.1 (fun e=>n1 e.symm)).trans h.row;obtain⟨o,m,h1,h2,h3⟩:=h.mp;have hm7:=(hg.block mr hlt.2 (fun e=>n2 e.symm)).trans h1;have hbm:mr≠b:=fun e=>by
  obtain⟨es,ck,rfl,-⟩:=h2;rw [e,h.row] at h1;injection h1 with h1;cases h1
 have hl7:w7.ownsRow B 36 4 lv x.left.length (Ri x.left):=Xh h.lo hg (fun g hv e=>h.ne g hv e);have keep:∀{v:Value} {n:Nat} {xs:List Value},w7.ownsRow B 36 4 v n xs->(w7.setCell ⟨b,14,none⟩ v7).ownsRow B 36 4 v n xs:=fun{v n xs} hv=>by
  refine Xh hv (o:=some b) (Ud (Of w7 _)) (fun g hg' e=>?_);injection e with e;subst e;obtain⟨cs,h2⟩:=Zbd hv hg';rw [hr7] at h2;injection h2 with h2;injection h2 with _ h2;exact absurd h2 (by decide)
 refine⟨hr7,heap_setCell_same _ _ 14 _ _ _ hr7,keep hl7,?_,fun g hg' e=>?_,⟨o,m,(heap_setCell_other _ _ _ _ hbm).trans hm7,h2,h3⟩,fun q=>?_,h.ll,?_,h.hb,h.hm⟩
 ·show(w7.setCell ⟨b,14,none⟩ v7).ownsRow B _ 4 v7 (x.made++[p]).length (Ri (x.made++[p]));rw [Zcp,List.length_append];exact keep ho
 ·rcases hk g e with e2 | e2
  ·exact h.ne g hg' e2
  ·have:=(h.lo.lt g hg').2; omega
 ·have:=h.bd q;show -((N+1:Nat):Int)<=x.rd q∧x.rd q<=((N+1:Nat):Int);omega
 ·show(x.made++[p]).length<=N+1;have:=h.ml;simp
  omega
theorem Ox.lefA (h:Ox w B b mr T lv mv x N){w7:World}{v7:Value}{p:Yx}(hg:w.grownBy w7 lv.ownBlock)(ho:w7.ownsRow B 36 4 v7 (x.left.length+1) (Ri x.left++Rk p))(hk:∀ g,v7.ownBlock=some g->lv.ownBlock=some g∨w.heap.size<=g)(hl:x.left.length<64) :
 w7.heap[b]?=some (.cells (wkA T lv mr mv) 213 (0,0))∧Ox (w7.setCell ⟨b,12,none⟩ v7) B b mr T v7 mv { x with left:=x.left++[p] } N:=by
 have hlt:=h.lt;obtain⟨n1,n2⟩:=h.nob h.lo;have hr7:=(hg.block b hlt.1 (fun e=>n1 e.symm)).trans h.row;obtain⟨o,m,h1,h2,h3⟩:=h.mp;have hm7:=(hg.block mr hlt.2 (fun e=>n2 e.symm)).trans h1;have hbm:mr≠b:=fun e=>by
  obtain⟨es,ck,rfl,-⟩:=h2;rw [e,h.row] at h1;injection h1 with h1;cases h1
 have hl7:w7.ownsRow B 36 4 mv x.made.length (Ri x.made):=Xh h.mo hg (fun g hv e=>h.ne g e hv);have keep:∀{v:Value} {n:Nat} {xs:List Value},w7.ownsRow B 36 4 v n xs->(w7.setCell ⟨b,12,none⟩ v7).ownsRow B 36 4 v n xs:=fun{v n xs} hv=>by
  refine Xh hv (o:=some b) (Ud (Of w7 _)) (fun g hg' e=>?_);injection e with e;subst e;obtain⟨cs,h2⟩:=Zbd hv hg';rw [hr7] at h2;injection h2 with h2;injection h2 with _ h2;exact absurd h2 (by decide)
 refine⟨hr7,heap_setCell_same _ _ 12 _ _ _ hr7,?_,keep hl7,fun g hg' e=>?_,⟨o,m,(heap_setCell_other _ _ _ _ hbm).trans hm7,h2,h3⟩,h.bd,?_,h.ml,h.hb,h.hm⟩
 ·show(w7.setCell ⟨b,12,none⟩ v7).ownsRow B _ 4 v7 (x.left++[p]).length (Ri (x.left++[p]));rw [Zcp,List.length_append];exact keep ho
 ·rcases hk g hg' with e2 | e2
  ·exact h.ne g e2 e
  ·have:=(h.mo.lt g e).2; omega
 ·show(x.left++[p]).length<=64;simp
  omega
theorem Ox.map (h:Ox w B b mr T lv mv x N){V:World}(hV:∀ g,g≠mr->V.heap[g]?=w.heap[g]?){o2:Obj}{m2:List (Yp×Int)}(ho:V.heap[mr]?=some o2)(hm:MpO o2 m2){rd:Yp->Int}(hr:∀ q,Dc m2 q=rd q)(hb:∀ q,rd q<=x.rd q+1∧x.rd q-1<=rd q):Ox V B b mr T lv mv { x with rd:=rd } (N+1):=by
 have hbm:b≠mr:=fun e=>by
  obtain⟨o,m,h1,⟨es,ck,rfl,-⟩,-⟩:=h.mp;rw [← e,h.row] at h1;injection h1 with h1;cases h1
 have keep:∀{v:Value} {n:Nat} {xs:List Value},w.ownsRow B 36 4 v n xs->V.ownsRow B 36 4 v n xs:=fun{v n xs} hv=>by
  have hnm:=(h.nob hv).2;rcases hv.2 with⟨e,e0⟩ | ⟨g,cap,cur,e,a1,a2,a3⟩
  ·exact⟨hv.1,Or.inl ⟨e,e0⟩⟩
  ·refine⟨hv.1,Or.inr ⟨g,cap,cur,e,a1,(hV g (fun e2=>hnm (by rw [e,e2]; rfl))).trans a2,a3⟩⟩
 refine⟨(hV b hbm).trans h.row,keep h.lo,keep h.mo,h.ne,⟨o2,m2,ho,hm,hr⟩,fun q=>?_,h.ll,Nat.le_trans h.ml (Nat.le_succ _),h.hb,h.hm⟩;have h1:=h.bd q;have h2:=hb q;show -((N+1:Nat):Int)<=rd q∧rd q<=((N+1:Nat):Int);omega
theorem Ox.lefS (h:Ox w B b mr T lv mv x N){tv:Value}{l:List Yx}(ho:w.ownsRow B 36 4 tv l.length (Ri l))(hn:∀ g,tv.ownBlock=some g->mv.ownBlock≠some g)(hl:l.length<=64):Ox (w.setCell ⟨b,12,none⟩ tv) B b mr T tv mv { x with left:=l } N:=by
 obtain⟨o,m,h1,h2,h3⟩:=h.mp;have hbm:mr≠b:=fun e=>by
  obtain⟨es,ck,rfl,-⟩:=h2;rw [e,h.row] at h1;injection h1 with h1;cases h1
 have keep:∀{v:Value} {n:Nat} {xs:List Value},w.ownsRow B 36 4 v n xs->(w.setCell ⟨b,12,none⟩ tv).ownsRow B 36 4 v n xs:=fun{v n xs} hv=>by
  refine Xh hv (o:=some b) (Ud (Of w _)) (fun g hg' e=>?_);injection e with e;subst e;exact(h.nob hv).1 hg'
 exact⟨heap_setCell_same _ _ 12 _ _ _ h.row,keep ho,keep h.mo,hn,⟨o,m,(heap_setCell_other _ _ _ _ hbm).trans h1,h2,h3⟩,h.bd,hl,h.ml,h.hb,h.hm⟩
theorem Ox.other (h:Ox w B b mr T lv mv x N){V:World}{g:Nat}(hV:∀ q,q≠g->V.heap[q]?=w.heap[q]?)(h1:g≠b)(h2:g≠mr)(h3:lv.ownBlock≠some g)(h4:mv.ownBlock≠some g):Ox V B b mr T lv mv x N:=by
 have keep:∀{v:Value} {n:Nat} {xs:List Value},v.ownBlock≠some g->w.ownsRow B 36 4 v n xs->V.ownsRow B 36 4 v n xs:=fun{v n xs} hg hv=>by
  rcases hv.2 with⟨e,e0⟩ | ⟨g',cap,cur,e,a1,a2,a3⟩
  ·exact⟨hv.1,Or.inl ⟨e,e0⟩⟩
  ·exact⟨hv.1,Or.inr ⟨g',cap,cur,e,a1,(hV g' (fun e2=>hg (by rw [e,e2]; rfl))).trans a2,a3⟩⟩
 obtain⟨o,m,k1,k2,k3⟩:=h.mp;exact⟨(hV b (fun e=>h1 e.symm)).trans h.row,keep h3 h.lo,keep h4 h.mo,h.ne,⟨o,m,(hV mr (fun e=>h2 e.symm)).trans k1,k2,k3⟩,h.bd,h.ll,h.ml,h.hb,h.hm⟩
end
theorem Tryz.infoPr:(Tryz.prog.info? 36).map (fun i=>(i.zero,i.size,i.bytes))=some (some (.agg #[.int .i64 0,.int .i64 0,.int .i64 0,.int .i64 0]),4,32):=by kernel_rfl
set_option maxHeartbeats 1000000
set_option maxRecDepth 100000
theorem Yfh (ns:List Int)(x:Int)(v:Value)(w:World)(h:Rs w v ns)(hn:ns.length<=1000000):Calls Tryz.prog 9 #[v,.int .i64 x] w fun e w'=>e=.returned (.bool (decide (x ∈ ns)))∧w'=w:=by
 by_cases hne:ns=[]
 ·obtain⟨p,cap,rfl⟩:∃ p cap,v=.slice p 0 cap:=by
   rcases h with⟨_,p,cap,e⟩ | ⟨sb,so,cap,e,_⟩
   ·exact⟨p,cap,e⟩
   ·rw [hne] at e; exact⟨_,_,e⟩
  subst hne;clear h;go_enter Tryz.func9,Tryz.ntmps9
  go_wp2_with fail
  refine wp_loop_rounds 1 ?_;rw [rounds_succ];go_wp2;go_ret;exact⟨by simp,rfl⟩
 ·obtain⟨sb,so,cap,rfl,hc⟩:=h.get hne;have HC:=Ze hc;clear h hc;go_enter Tryz.func9,Tryz.ntmps9
  go_wp2_with fail
  go_loopw [9] (fun j w'=>∃ k:Nat,j=.int .i64 k∧k<=ns.length∧w'=w∧¬ x ∈ ns.take k) (fun j _=>ns.length-(intOf j).toNat)
  case atStart=>exact⟨0,rfl,by omega,rfl,by simp⟩
  case round =>
   obtain⟨k,rfl,hk,rfl,hno⟩:=hrel;have HN:=Ze hno;clear hno;by_cases hlt:k<ns.length
   ·have c:=Zb HC k hlt;by_cases hx:ns.getD k 0=x
    ·rw [hx] at c;have hm:=Ze (Zjx hlt hx);clear hx;go_wp2;go_ret;exact⟨by simp [Zb hm],rfl⟩
    ·have HT:=Ze (Zgs hlt (Zb HN) hx);generalize hy:ns.getD k 0=y at c hx;have z:(y==x)=false:=by simpa using hx
     clear hy;go_wp2;go_roundw
     case rel=>exact⟨k+1,by go_num,by omega,trivial,Zb HT⟩
     case measure=>simp [intOf]; omega
   ·obtain rfl:k=ns.length:=by omega
    have HT:=Ze (show ¬ x ∈ ns by have:=Zb HN; rwa [List.take_length] at this);go_wp2;go_ret;exact⟨by simp [Zb HT],rfl⟩
set_option maxHeartbeats 1000000
theorem Ip {w:World}{v:Value}{ns:List Int}(h:Rs w v ns):∀ w' b,Below w.heap.size w w'->w.heap.size<=b->Lst w' b v ns:=by
 intro w' b hb hle;rcases h with h | ⟨sb,so,cap,e,hc⟩
 ·exact Or.inl h
 ·cases ns with
  | nil=>exact Or.inl ⟨rfl,_,_,e⟩
  | cons n r=>have h0:=ltc (hc 0 (by simp));exact Or.inr ⟨sb,so,cap,e,⟨fun i hi=>(hb.cell (p:=⟨sb,so+i,none⟩) h0).trans (hc i hi),Or.inl (Nat.lt_of_lt_of_le h0 hle)⟩⟩
structure Tb (w:World)(r sp lk t0 t1:Int)(va vr vs:Value)(al sh by_:Int)(ag rs ss:List Int):Prop where
 tabs:Sv w
 o:Cq r∧Cq sp∧Cq lk∧Cq t0∧Cq t1∧Cq al∧Cq sh∧Cq by_
 a:okI ag∧okI rs∧okI ss
 l:Rs w va ag∧Rs w vr rs∧Rs w vs ss
 n:ag.length+rs.length+ss.length<=4000000
theorem Tb.below {w w':World}{r sp lk t0 t1:Int}{va vr vs:Value}{al sh by_:Int}{ag rs ss:List Int}(h:Tb w r sp lk t0 t1 va vr vs al sh by_ ag rs ss)(hb:Below w.heap.size w w'):Tb w' r sp lk t0 t1 va vr vs al sh by_ ag rs ss :=
 ⟨h.tabs.below hb h.tabs.gb,h.o,h.a,⟨h.l.1.below hb,h.l.2.1.below hb,h.l.2.2.below hb⟩,h.n⟩
theorem Tb.alloc {w:World}{r sp lk t0 t1:Int}{va vr vs:Value}{al sh by_:Int}{ag rs ss:List Int}(h:Tb w r sp lk t0 t1 va vr vs al sh by_ ag rs ss)(o:Obj):Tb (w.alloc o) r sp lk t0 t1 va vr vs al sh by_ ag rs ss :=
 h.below ((Below.refl _ _).alloc (Nat.le_refl _) o)
theorem Ygm {w:World}{r sp lk t0 t1:Int}{va vr vs:Value}{al sh by_:Int}{ag rs ss:List Int}(pr:Bool)(h:Tb w r sp lk t0 t1 va vr vs al sh by_ ag rs ss) :
 Calls Tryz.prog 46 #[.agg (Zt r sp lk t0 t1 va vr vs al sh by_ pr)] w fun e w'=>e=.returned (.string ⟨(Lt r sp lk t0 t1 ag rs ss al sh by_ pr).toArray⟩)∧Below w.heap.size w w' :=
 Ydo r sp lk t0 t1 va vr vs al sh by_ pr ag rs ss w h.tabs h.o.1 h.o.2.1 h.o.2.2.1 h.o.2.2.2.1 h.o.2.2.2.2.1 h.o.2.2.2.2.2.1 h.o.2.2.2.2.2.2.1 h.o.2.2.2.2.2.2.2 h.a.1 h.a.2.1 h.a.2.2 (Ip h.l.1) (Ip h.l.2.1) (Ip h.l.2.2) h.n
theorem Ygn {w:World}{r sp lk t0 t1:Int}{va vr vs:Value}{al sh by_:Int}{ag rs ss:List Int}(pr:Bool)(h:Tb w r sp lk t0 t1 va vr vs al sh by_ ag rs ss) :
 Calls Tryz.prog 31 #[.agg (Zt r sp lk t0 t1 va vr vs al sh by_ pr)] w fun e w'=>e=.returned (.string ⟨(Lt r sp lk t0 t1 ag rs ss al sh by_ pr).toArray⟩)∧Below w.heap.size w w':=by
 have HH:=Zs h;clear h;have HC:=Zs (Ygm pr ((Zf HH).alloc (.cells (Zt r sp lk t0 t1 va vr vs al sh by_ pr) 25)));unfold Zt at HC ⊢;go_enter Tryz.func31,Tryz.ntmps31
 go_wp2_with fail
 refine(Zf HC).mono ?_;rintro e w' ⟨rfl,hb⟩;have HB:=Zs (((Below.refl w.heap.size w).alloc (Nat.le_refl _) _).trans (hb.mono (by simp)));clear hb;go_wp2;go_ret;exact⟨rfl,Zf HB⟩
theorem Ygo {w:World}{r sp lk t0 t1:Int}{va vr vs:Value}{al sh by_:Int}{ag rs ss:List Int}(pr:Bool)(h:Tb w r sp lk t0 t1 va vr vs al sh by_ ag rs ss) :
 Calls Tryz.prog 17 #[.agg (Zt r sp lk t0 t1 va vr vs al sh by_ pr)] w fun e w'=>e=.returned (.string ⟨(Lt r sp lk t0 t1 ag rs ss al sh by_ pr).toArray⟩)∧Below w.heap.size w w':=by
 have HH:=Zs h;clear h;have HC:=Zs (Ygn pr ((Zf HH).alloc (.cells (Zt r sp lk t0 t1 va vr vs al sh by_ pr) 25)));unfold Zt at HC ⊢;go_enter Tryz.func17,Tryz.ntmps17
 go_wp2_with fail
 refine(Zf HC).mono ?_;rintro e w' ⟨rfl,hb⟩;have HB:=Zs (((Below.refl w.heap.size w).alloc (Nat.le_refl _) _).trans (hb.mono (by simp)));clear hb;go_wp2;go_ret;exact⟨rfl,Zf HB⟩
set_option maxRecDepth 1000000
structure Env (w:World):Prop where
 u8:U8 w
 it:Ck w
 er:Zz w
 tb:Sv w
theorem Env.below {w w':World}(h:Env w)(hb:Below w.heap.size w w'):Env w' :=
 ⟨h.u8.below hb h.u8.lt,h.it.grown (Zn (row:=some w.heap.size) hb) (Nat.ne_of_lt h.it.lt),h.er.below hb (Xe h.er),h.tb.below hb h.tb.gb⟩
structure L3 (w:World)(va vr vs:Value)(ag rs ss:List Int):Prop where
 a:Rs w va ag
 r:Rs w vr rs
 s:Rs w vs ss
 ca:∀ a n cap,va=.slice a n cap->n<=cap
 cr:∀ a n cap,vr=.slice a n cap->n<=cap
 cs:∀ a n cap,vs=.slice a n cap->n<=cap
theorem L3.below {w w':World}{va vr vs:Value}{ag rs ss:List Int}(h:L3 w va vr vs ag rs ss)(hb:Below w.heap.size w w'):L3 w' va vr vs ag rs ss:=⟨h.a.below hb,h.r.below hb,h.s.below hb,h.ca,h.cr,h.cs⟩
theorem Znk {r sp lk t0 t1:Int}{ag rs ss:List Int}{al sh by_:Int}(h:Jj r sp lk t0 t1 ag rs ss al sh by_=true):(Cq r∧Cq sp∧Cq lk∧Cq t0∧Cq t1∧Cq al∧Cq sh∧Cq by_)∧(okI ag∧okI rs∧okI ss)∧ag.length+rs.length+ss.length<=4000000:=by
 unfold Jj at h;simp only [Bool.and_eq_true] at h;obtain⟨⟨h1,h2⟩,h3⟩:=h;have n1:=of_decide_eq_true h1;have n2:=of_decide_eq_true h2;unfold Gb at h3;simp only [Bool.and_eq_true] at h3;obtain⟨⟨⟨⟨⟨k0,k1,-⟩,k2,-⟩,k3,-⟩,-⟩,-⟩:=h3;have m0:=Cp k0;have own:(0<=sp∧sp<r)∧(0<=t0∧t0<r)∧(0<=t1∧t1<r)∧(lk=-1∨(0<=lk∧lk<r)):=by
  unfold Yn at m0;by_cases hk:lk=-1
  ·rw [if_pos hk] at m0;exact⟨m0 sp (by simp),m0 t0 (by simp),m0 t1 (by simp),Or.inl hk⟩
  ·rw [if_neg hk] at m0;exact⟨m0 sp (by simp),m0 t0 (by simp),m0 t1 (by simp),Or.inr (m0 lk (by simp))⟩
 have each:∀ l:List Int,(∀ n ∈ l,0<=n∧n<r)->okI l:=fun l hl n hn=>by have:=hl n hn; omega
 unfold Cq;refine⟨⟨by omega,by omega,by omega,by omega,by omega,by omega,by omega,by omega⟩,⟨each _ (Cp k1),each _ (Cp k2),each _ (Cp k3)⟩,by omega⟩
theorem Ygb {w:World}{r sp lk t0 t1:Int}{va vr vs:Value}{al sh by_:Int}{ag rs ss:List Int}(hE:Env w)(h:Jj r sp lk t0 t1 ag rs ss al sh by_=true)(hl:L3 w va vr vs ag rs ss):Tb w r sp lk t0 t1 va vr vs al sh by_ ag rs ss :=
 have b:=Znk h;⟨hE.tb,b.1,b.2.1,⟨hl.a,hl.r,hl.s⟩,b.2.2⟩
theorem Zww:Zjz (Xk ⟨(Lt 12 11 (-1) 9 10 [0,1,2,3] [0,1] [5,6,7] 16 0 2 false).toArray⟩) [[12],[11],[-1],[9,10],[0,1,2,3],[0,1],[5,6,7],[16],[0],[2]] false=true:=by kernel_rfl
theorem Znl (w:World)(hE:Env w) :
 Calls Tryz.prog 16 #[.string ⟨(Lt 12 11 (-1) 9 10 [0,1,2,3] [0,1] [5,6,7] 16 0 2 false).toArray⟩] w fun e w'=>Below w.heap.size w w'∧∃ a4 n4 p4 a5 n5 p5 a6 n6 p6,e=.returned (.tuple #[.agg (Zt 12 11 (-1) 9 10 (.slice a4 n4 p4) (.slice a5 n5 p5) (.slice a6 n6 p6) 16 0 2 false),Dt 0 (-1) (-1) (-1)]):=by
 obtain⟨S,hS,v,v10⟩:=Znh Zww;refine(Zfg _ w hE.u8 hE.it hE.er).mono ?_;rintro e w' ⟨hb,hm⟩;rw [hS] at hm;simp only at hm;obtain⟨u4,u5,u6,rfl,r4,r5,r6,-⟩:=hm;obtain⟨a4,n4,p4,rfl⟩:=Ob r4;obtain⟨a5,n5,p5,rfl⟩:=Ob r5;obtain⟨a6,n6,p6,rfl⟩:=Ob r6;refine⟨hb,a4,n4,p4,a5,n5,p5,a6,n6,p6,?_⟩;unfold Zdz;rw [v 0 (by decide),v 1 (by decide),v 2 (by decide),v 3 (by decide),v 7 (by decide),v 8 (by decide),v 9 (by decide),v10];rfl
theorem Znm:Xk ⟨#[]⟩=.inl (1,0):=by rfl
theorem Zhj (w:World)(hE:Env w):Calls Tryz.prog 16 #[.string ⟨#[]⟩] w fun e w'=>e=.returned (.tuple #[Cn,Dt 1 (-1) (-1) 0])∧Below w.heap.size w w':=by refine(Zfg _ w hE.u8 hE.it hE.er).mono ?_;rintro e w' ⟨hb,hm⟩;rw [Znm] at hm;exact⟨hm,hb⟩
theorem Zse (w:World)(hE:Env w):Calls Tryz.prog 15 #[.int .i64 0] w fun e w'=>Below w.heap.size w w'∧∃ a4 n4 p4 a5 n5 p5 a6 n6 p6,e=.returned (.tuple #[.agg (Zt 12 11 (-1) 9 10 (.slice a4 n4 p4) (.slice a5 n5 p5) (.slice a6 n6 p6) 16 0 2 false),Dt 0 (-1) (-1) (-1)])∧L3 w' (.slice a4 n4 p4) (.slice a5 n5 p5) (.slice a6 n6 p6) [0,1,2,3] [0,1] [5,6,7]:=by refine(Zrp 0 (by omega) w hE.u8 hE.it hE.er).mono ?_;rintro e w' ⟨hb,v4,v5,v6,rfl,r4,r5,r6,-⟩;obtain⟨a4,n4,p4,rfl⟩:=Ob r4;obtain⟨a5,n5,p5,rfl⟩:=Ob r5;obtain⟨a6,n6,p6,rfl⟩:=Ob r6;exact⟨hb,a4,n4,p4,a5,n5,p5,a6,n6,p6,rfl,De (ns:=[0,1,2,3]) r4,De (ns:=[0,1]) r5,De (ns:=[5,6,7]) r6,Ov r4,Ov r5,Ov r6⟩
theorem Yav:Jj 12 11 (-1) 9 10 [0,1,2,3] [0,1] [5,6,7] 16 0 2=true:=by kernel_rfl
theorem Yaw:Jj 0 0 0 0 0 [] [] [] 0 0 0=false:=by kernel_rfl
theorem Ygv (w:World):L3 w (.slice none 0 0) (.slice none 0 0) (.slice none 0 0) [] [] [] :=
 ⟨Or.inl ⟨rfl,_,_,rfl⟩,Or.inl ⟨rfl,_,_,rfl⟩,Or.inl ⟨rfl,_,_,rfl⟩,fun _ _ _ e=>by injection e with _ e2 e3; omega,fun _ _ _ e=>by injection e with _ e2 e3; omega,fun _ _ _ e=>by injection e with _ e2 e3; omega⟩
theorem Ygc {r sp lk t0 t1:Int}{va vr vs:Value}{al sh by_:Int}(pr:Bool){ag rs ss:List Int}(w:World)(hE:Env w)(hl:L3 w va vr vs ag rs ss):Calls Tryz.prog 18 #[.agg (Zt r sp lk t0 t1 va vr vs al sh by_ pr)] w fun e w'=>e=.returned (Dt (Zwa (Jj r sp lk t0 t1 ag rs ss al sh by_)) (-1) (-1) (-1))∧Below w.heap.size w w' :=
 Zrt r sp lk t0 t1 va vr vs al sh by_ pr ag rs ss w hE.er hl.a hl.r hl.s hl.ca hl.cr hl.cs
end Go.Proofs.YtkenknfgeoecbaaGreatDoor
