import Derived.Test.YtedemloocadimaaGreatDoorJ30
import Derived.Test.YtedemloocadimaaGreatDoorJ35
namespace Go.Proofs.YtedemloocadimaaGreatDoor
open Go.RowKit
set_option linter.unusedSimpArgs false
def Sd (s:ByteArray)(a:Nat)(l:List UInt8):Prop:=∃ r,s.data.toList.drop a=l++r
theorem Zyc {s:ByteArray}{a:Nat}{x y:List UInt8}:Sd s a (x++y)↔Sd s a x∧Sd s (a+x.length) y:=by
 constructor
 ·
  rintro⟨r,h⟩;refine⟨⟨y++r,by rw [h,List.append_assoc]⟩,⟨r,?_⟩⟩;rw [← List.drop_drop,h,List.append_assoc,List.drop_left]
 ·
  rintro⟨⟨r,h⟩,⟨r',h'⟩⟩;refine⟨r',?_⟩;rw [← List.drop_drop,h,List.drop_left] at h';rw [h,h',List.append_assoc]
theorem Yeu (s:ByteArray)(a:Nat):Sd s a []:=⟨_,rfl⟩
theorem Zyd {s:ByteArray}{a:Nat}{c:UInt8}:Sd s a [c]↔s.data[a]?=some c:=by
 rw [← Array.getElem?_toList];constructor
 ·
  rintro⟨r,h⟩;have:=congrArg (·[0]?) h;simpa using this
 ·
  intro h;have hl:a<s.data.toList.length:=by
   rcases Nat.lt_or_ge a s.data.toList.length with h' | h'
   ·
    exact h'
   ·
    rw [List.getElem?_eq_none h'] at h; cases h
  refine⟨s.data.toList.drop (a+1),?_⟩;rw [List.getElem?_eq_getElem hl] at h;rw [List.drop_eq_getElem_cons hl,Option.some.inj h];rfl
def Rt (e:Option (List UInt8))(s:ByteArray)(a a':Nat):Prop:=∃ l,e=some l∧Sd s a l∧a'=a+l.length
theorem Ge {e1 e2:Option (List UInt8)}{s:ByteArray}{a c:Nat}:Rt (Zz e1 e2) s a c↔∃ b,Rt e1 s a b∧Rt e2 s b c:=by
 constructor
 ·
  rintro⟨l,h,hs,rfl⟩;cases e1 with
  | none=>cases h
  | some x =>
   cases e2 with
   | none=>cases h
   | some y =>
    simp only [Zz,Option.some.injEq] at h;subst h;obtain⟨h1,h2⟩:=Zyc.1 hs;exact⟨_,⟨x,rfl,h1,rfl⟩,⟨y,rfl,h2,by simp; omega⟩⟩
 ·
  rintro⟨b,⟨x,rfl,h1,rfl⟩,⟨y,rfl,h2,rfl⟩⟩;exact⟨x++y,rfl,Zyc.2 ⟨h1,h2⟩,by simp; omega⟩
theorem Uq {s:ByteArray}{a c:Nat}:Rt (some []) s a c↔c=a:=by
 constructor
 ·
  rintro⟨l,h,-,rfl⟩;cases h
  rfl
 ·
  rintro rfl;exact⟨[],rfl,Yeu _ _,rfl⟩
theorem Gf {α β:Type}{m:Except Nat (α×Nat)}{k:α→Nat→Except Nat (β×Nat)}{y:β}{c:Nat}:Yn m k=.ok (y,c)↔∃ x b,m=.ok (x,b)∧k x b=.ok (y,c):=by
 cases m with
 | error q=>simp [Yn]
 | ok p =>
  obtain⟨x,b⟩:=p;simp only [Yn,Except.ok.injEq,Prod.mk.injEq];constructor
  ·
   intro h;exact⟨x,b,⟨rfl,rfl⟩,h⟩
  ·
   rintro⟨_,_,⟨rfl,rfl⟩,h⟩;exact h
def Cd {α:Type}(P:α→Prop)(enc:α→Option (List UInt8))(dec:ByteArray→Dec α):Prop:=∀ s a x a',dec s a=.ok (x,a')↔P x∧Rt (enc x) s a a'
theorem Iq (x:Int)(h:0≤x)(h2:x≤255):((Zj x).toNat:Int)=x:=by
 unfold Zj;rw [UInt8.toNat_ofNat'];omega
theorem Zti (c:UInt8):Zj (c.toNat:Int)=c:=by
 have:=c.toNat_lt;apply UInt8.toNat_inj.1
 have h:=Iq (c.toNat:Int) (by omega) (by omega);omega
theorem Xs (lo hi:Int)(h:(0≤lo∧hi≤255)∨(lo=-1∧hi<255)):Cd (fun _=>True) (Zf lo hi) (fun s=>Yf s lo hi):=by
 intro s a x a';simp only [true_and];unfold Yf Nm;constructor
 ·
  intro hh;by_cases h1:a<s.size
  ·
   rw [if_pos h1] at hh;by_cases h2:lo≤signed lo (bAt s a)∧signed lo (bAt s a)≤hi
   ·
    rw [if_pos h2] at hh;simp only [Except.ok.injEq,Prod.mk.injEq] at hh;obtain⟨rfl,rfl⟩:=hh;refine⟨[Zj (signed lo (bAt s a))],if_pos h2,Zyd.2 ?_,rfl⟩;have hg:s.data[a]?=some s.data[a]:=Array.getElem?_eq_getElem h1;rw [hg];congr 1
    have hb:bAt s a=(s.data[a].toNat:Int):=by unfold bAt; rw [hg]; rfl
    rw [hb];unfold signed;by_cases h3:lo=-1∧(s.data[a].toNat:Int)=255
    ·
     rw [if_pos h3];apply UInt8.toNat_inj.1
     have:(Zj (-1)).toNat=255:=by decide
     omega
    ·
     rw [if_neg h3,Zti]
   ·
    rw [if_neg h2] at hh;cases hh
  ·
   rw [if_neg h1] at hh;cases hh
 ·
  rintro⟨l,hl,hs,rfl⟩;unfold Zf at hl;by_cases h2:lo≤x∧x≤hi
  ·
   rw [if_pos h2] at hl;cases hl
   have hg:=Zyd.1 hs;have h1:a<s.size:=by
    rcases Nat.lt_or_ge a s.data.size with h' | h'
    ·
     exact h'
    ·
     rw [Array.getElem?_eq_none h'] at hg; cases hg
   rw [if_pos h1];have hb:bAt s a=((Zj x).toNat:Int):=by unfold bAt; rw [hg]; rfl
   have hx:signed lo (bAt s a)=x:=by
    rw [hb];unfold signed;rcases h with h | h
    ·
     rw [if_neg (by omega),Iq x (by omega) (by omega)]
    ·
     by_cases hm:x=-1
     ·
      subst hm;rw [if_pos ⟨h.1,by decide⟩]
     ·
      have:=Iq x (by omega) (by omega);rw [if_neg (by omega),this]
   rw [hx,if_pos h2];rfl
  ·
   rw [if_neg h2] at hl;cases hl
theorem Zye {α:Type}{P:α→Prop}{enc:α→Option (List UInt8)}{dec:ByteArray→Dec α}(h:Cd P enc dec)(s:ByteArray)(a:Nat):∀(n:Nat) (xs:List α) (a':Nat),Nn (dec s) n a=.ok (xs,a')↔xs.length=n∧(∀ x ∈ xs,P x)∧Rt (Yi enc xs) s a a'
 | 0,xs,a'=>by
  simp only [Nn,Except.ok.injEq,Prod.mk.injEq,List.length_eq_zero_iff];constructor
  ·
   rintro⟨rfl,rfl⟩;exact⟨rfl,by simp,Uq.2 rfl⟩
  ·
   rintro⟨rfl,-,hr⟩;exact⟨rfl,(Uq.1 hr).symm⟩
 | n+1,xs,a'=>by
  simp only [Nn,Gf,Zye h s a n,Except.ok.injEq,Prod.mk.injEq];constructor
  ·
   rintro⟨ys,b,⟨h1,h2,h3⟩,x,c,h4,rfl,rfl⟩;obtain⟨h5,h6⟩:=(h s b x c).1 h4;refine⟨by simp [h1],fun y hy=>?_,?_⟩
   ·
    rcases List.mem_append.1 hy with hy | hy
    ·
     exact h2 y hy
    ·
     rw [List.mem_singleton.1 hy]; exact h5
   ·
    rw [Gu];exact Ge.2 ⟨b,h3,h6⟩
  ·
   rintro⟨h1,h2,h3⟩;obtain⟨ys,y,rfl⟩:∃ ys y,xs=ys++[y]:=by
    have hne:xs≠[]:=by
     rintro rfl;simp at h1
    exact⟨xs.dropLast,xs.getLast hne,(List.dropLast_concat_getLast hne).symm⟩
   rw [Gu] at h3;obtain⟨b,h4,h5⟩:=Ge.1 h3;exact⟨ys,b,⟨by simpa using h1,fun x hx=>h2 x (List.mem_append_left _ hx),h4⟩,y,a',(h s b y a').2 ⟨h2 y (by simp),h5⟩,rfl,rfl⟩
theorem Ue {α:Type}{P:α→Prop}{enc:α→Option (List UInt8)}{dec:ByteArray→Dec α}(h:Cd P enc dec)(lo hi:Int)(h0:0≤lo)(h1:hi≤255):Cd (fun xs=>∀ x ∈ xs,P x) (Xh lo hi enc) (fun s=>Ys s lo hi (dec s)):=by
 intro s a xs a';simp only [Ys,Gf,Zye h];unfold Xh;rw [Ge];constructor
 ·
  rintro⟨n,b,hn,h2,h3,h4⟩;have hr:=((Xs lo hi (Or.inl ⟨h0,h1⟩)) s a n b).1 hn;obtain⟨l,hl,-⟩:=hr.2;have hb:lo≤n∧n≤hi:=by
   unfold Zf at hl;by_cases hc:lo≤n∧n≤hi
   ·
    exact hc
   ·
    rw [if_neg hc] at hl; cases hl
  have e:n=(xs.length:Int):=by omega
  subst e;exact⟨h3,b,hr.2,h4⟩
 ·
  rintro⟨h3,b,hr,h4⟩;exact⟨(xs.length:Int),b,((Xs lo hi (Or.inl ⟨h0,h1⟩)) s a _ b).2 ⟨trivial,hr⟩,by simp,h3,h4⟩
theorem Zpv:Cd (fun _=>True) Jl Mt:=by
 intro s a x a';obtain⟨x1,x2⟩:=x;have n1:=Xs 0 8 (Or.inl (by decide)) s;have n2:=Xs 0 255 (Or.inl (by decide)) s;simp only [Mt,Gf,n1,n2,true_and,Except.ok.injEq,Prod.mk.injEq,Jl,Ge];constructor
 ·
  rintro⟨_,b,h1,_,c,h2,⟨rfl,rfl⟩,rfl⟩;exact⟨b,h1,h2⟩
 ·
  rintro⟨b,h1,h2⟩;exact⟨_,b,h1,_,_,h2,⟨rfl,rfl⟩,rfl⟩
theorem Yev:Cd (fun _=>True) Un Zem:=by
 intro s a x a';obtain⟨x1,x2⟩:=x;have n1:=Ue (Xs 0 8 (Or.inl (by decide))) 0 8 (by decide) (by decide) s;have n2:=Xs 0 4 (Or.inl (by decide)) s;simp only [Zem,Gf,n1,n2,true_and,Except.ok.injEq,Prod.mk.injEq,Un,Ge,implies_true];constructor
 ·
  rintro⟨_,b,h1,_,c,h2,⟨rfl,rfl⟩,rfl⟩;exact⟨b,h1,h2⟩
 ·
  rintro⟨b,h1,h2⟩;exact⟨_,b,h1,_,_,h2,⟨rfl,rfl⟩,rfl⟩
theorem Zky (n:Int):∀ c,Dj n (c+1)=Dj (n / 256) c++[Zj n]
 | 0=>by simp [Dj]
 | c+1=>by
  rw [Dj,Zky n c,Dj,List.cons_append];congr 2
  rw [Int.ediv_ediv_of_nonneg (by decide),show(2:Int) ^ (8*(c+1))=256*2 ^ (8*c) by rw [Nat.mul_succ,Int.pow_add,Int.mul_comm]; rfl]
theorem Zyf (s:ByteArray)(a:Nat):∀(k:Nat) (x:Int) (a':Nat),dOp s k a=.ok (x,a')↔(0≤x∧x<256 ^ k)∧Rt (some (Dj x k)) s a a'
 | 0,x,a'=>by
  simp only [dOp,Except.ok.injEq,Prod.mk.injEq,Dj,Uq];constructor
  ·
   rintro⟨rfl,rfl⟩;exact⟨by decide,rfl⟩
  ·
   rintro⟨h,rfl⟩;have:(256:Int) ^ 0=1:=by decide
   exact⟨by omega,rfl⟩
 | k+1,x,a'=>by
  have hp:(256:Int) ^ (k+1)=256 ^ k*256:=Int.pow_succ ..;have hs:∀ x:Int,Rt (some (Dj x (k+1))) s a a'↔∃ b,Rt (some (Dj (x / 256) k)) s a b∧Rt (some [Zj x]) s b a':=fun x=>by
   rw [Zky,← Ge];rfl
  simp only [dOp,Gf,Zyf s a k,(Xs 0 255 (Or.inl (by decide))) s,Except.ok.injEq,Prod.mk.injEq,hs,true_and];constructor
  ·
   rintro⟨y,b,⟨h1,h2⟩,z,c,h3,rfl,rfl⟩;obtain⟨l,hl,hrest⟩:=h3;have hz:0≤z∧z≤255:=by
    unfold Zf at hl;by_cases hc:0≤z∧z≤255
    ·
     exact hc
    ·
     rw [if_neg hc] at hl; cases hl
   have e1:(256*y+z) / 256=y:=by omega
   have e2:Zj (256*y+z)=Zj z:=by
    unfold Zj;congr 2
    omega
   refine⟨⟨by omega,by omega⟩,b,by rw [e1]; exact h2,l,?_,hrest⟩;rw [e2,← hl,Zf,if_pos hz]
  ·
   rintro⟨⟨h1,h2⟩,b,h3,l,hl,hrest⟩;refine⟨x / 256,b,⟨by omega,h3⟩,x % 256,a',⟨l,?_,hrest⟩,by omega,rfl⟩;rw [Zf,if_pos (by omega),← hl];congr 2
   unfold Zj;congr 2
   omega
theorem Zpw {s:ByteArray}{i j:Zq}{a a':Nat}:Od s 68 i a=.ok (j,a')↔∃ x,j={ i with d:=x }∧Rt (Zf 0 255 x) s a a':=by
 show Yn (Yf s 0 255 a) (fun x a1=>.ok ({ i with d:=x },a1))=_↔_;simp only [Gf,(Xs 0 255 (Or.inl (by decide))) s,true_and,Except.ok.injEq,Prod.mk.injEq];constructor
 ·
  rintro⟨x,b,h,rfl,rfl⟩;exact⟨x,rfl,h⟩
 ·
  rintro⟨x,rfl,h⟩;exact⟨x,a',h,rfl,rfl⟩
theorem Zpx {s:ByteArray}{i j:Zq}{a a':Nat}:Od s 65 i a=.ok (j,a')↔∃ x,j={ i with a:=x }∧Rt (Zf 0 255 x) s a a':=by
 show Yn (Yf s 0 255 a) (fun x a1=>.ok ({ i with a:=x },a1))=_↔_;simp only [Gf,(Xs 0 255 (Or.inl (by decide))) s,true_and,Except.ok.injEq,Prod.mk.injEq];constructor
 ·
  rintro⟨x,b,h,rfl,rfl⟩;exact⟨x,rfl,h⟩
 ·
  rintro⟨x,rfl,h⟩;exact⟨x,a',h,rfl,rfl⟩
theorem Ybt {s:ByteArray}{i j:Zq}{a a':Nat}:Od s 66 i a=.ok (j,a')↔∃ x,j={ i with bb:=x }∧Rt (Zf 0 255 x) s a a':=by
 show Yn (Yf s 0 255 a) (fun x a1=>.ok ({ i with bb:=x },a1))=_↔_;simp only [Gf,(Xs 0 255 (Or.inl (by decide))) s,true_and,Except.ok.injEq,Prod.mk.injEq];constructor
 ·
  rintro⟨x,b,h,rfl,rfl⟩;exact⟨x,rfl,h⟩
 ·
  rintro⟨x,rfl,h⟩;exact⟨x,a',h,rfl,rfl⟩
theorem Ybu {s:ByteArray}{i j:Zq}{a a':Nat}:Od s 70 i a=.ok (j,a')↔∃ x,j={ i with f:=x }∧Rt (Zf 0 255 x) s a a':=by
 show Yn (Yf s 0 255 a) (fun x a1=>.ok ({ i with f:=x },a1))=_↔_;simp only [Gf,(Xs 0 255 (Or.inl (by decide))) s,true_and,Except.ok.injEq,Prod.mk.injEq];constructor
 ·
  rintro⟨x,b,h,rfl,rfl⟩;exact⟨x,rfl,h⟩
 ·
  rintro⟨x,rfl,h⟩;exact⟨x,a',h,rfl,rfl⟩
theorem Yew {s:ByteArray}{i j:Zq}{a a':Nat}:Od s 110 i a=.ok (j,a')↔∃ x:Int,j={ i with n:=x }∧(0≤x∧x<256 ^ 1)∧Rt (some (Dj x 1)) s a a':=by
 show Yn (dOp s 1 a) (fun x a1=>.ok ({ i with n:=x },a1))=_↔_;simp only [Gf,Zyf,Except.ok.injEq,Prod.mk.injEq];constructor
 ·
  rintro⟨x,b,h,rfl,rfl⟩;exact⟨x,rfl,h⟩
 ·
  rintro⟨x,rfl,h⟩;exact⟨x,a',h,rfl,rfl⟩
theorem Ybv {s:ByteArray}{i j:Zq}{a a':Nat}:Od s 78 i a=.ok (j,a')↔∃ x:Int,j={ i with n:=x }∧(0≤x∧x<256 ^ 8)∧Rt (some (Dj x 8)) s a a':=by
 show Yn (dOp s 8 a) (fun x a1=>.ok ({ i with n:=x },a1))=_↔_;simp only [Gf,Zyf,Except.ok.injEq,Prod.mk.injEq];constructor
 ·
  rintro⟨x,b,h,rfl,rfl⟩;exact⟨x,rfl,h⟩
 ·
  rintro⟨x,rfl,h⟩;exact⟨x,a',h,rfl,rfl⟩
theorem Ybw {s:ByteArray}{i j:Zq}{a a':Nat}:Od s 82 i a=.ok (j,a')↔∃ x,j={ i with args:=x }∧Rt (Xh 0 8 Jl x) s a a':=by
 show Yn (Ys s 0 8 (Mt s) a) (fun x a1=>.ok ({ i with args:=x },a1))=_↔_;have n1:=Ue Zpv 0 8 (by decide) (by decide) s;simp only [Gf,n1,Except.ok.injEq,Prod.mk.injEq,implies_true,true_and];constructor
 ·
  rintro⟨x,b,h,rfl,rfl⟩;exact⟨x,rfl,h⟩
 ·
  rintro⟨x,rfl,h⟩;exact⟨x,a',h,rfl,rfl⟩
theorem Ybx {s:ByteArray}{i j:Zq}{a a':Nat}:Od s 79 i a=.ok (j,a')↔∃ x,j={ i with outs:=x }∧Rt (Xh 0 4 (Zf 0 255) x) s a a':=by
 show Yn (Ys s 0 4 (Yf s 0 255) a) (fun x a1=>.ok ({ i with outs:=x },a1))=_↔_;have n1:=Ue (Xs 0 255 (Or.inl (by decide))) 0 4 (by decide) (by decide) s;simp only [Gf,n1,Except.ok.injEq,Prod.mk.injEq,implies_true,true_and];constructor
 ·
  rintro⟨x,b,h,rfl,rfl⟩;exact⟨x,rfl,h⟩
 ·
  rintro⟨x,rfl,h⟩;exact⟨x,a',h,rfl,rfl⟩
theorem Lo {s:ByteArray}{c:UInt8}{cs:List UInt8}{i j:Zq}{a a':Nat}:Yx s (c :: cs) i a=.ok (j,a')↔∃ k b,Od s c i a=.ok (k,b)∧Yx s cs k b=.ok (j,a'):=by
 simp only [Yx,Gf]
theorem Mb {s:ByteArray}{i j:Zq}{a a':Nat}:Yx s [] i a=.ok (j,a')↔j=i∧a'=a:=by
 simp only [Yx,Except.ok.injEq,Prod.mk.injEq];exact⟨fun h=>⟨h.1.symm,h.2.symm⟩,fun h=>⟨h.1.symm,h.2.symm⟩⟩
def Ir (i:Zq):Prop:=0≤i.n∧i.n<18446744073709551616
theorem Zas {α:Type}{l:List α}:((l.length:Nat):Int)=0↔l=[]:=by
 cases l with
 | nil=>simp
 | cons x xs =>
  simp only [List.length_cons,reduceCtorEq,iff_false];omega
theorem Zkz (l:List (Int×Int)):Xd (Zet 0 8 Zaz l)=Xh 0 8 Jl l:=Nt ⟨0,0,0,0,0,0,l,[]⟩
theorem Zla (l:List Int):Xd (Zet 0 4 (Jw 0 255) l)=Xh 0 4 (Zf 0 255) l:=Nu ⟨0,0,0,0,0,0,[],l⟩
theorem Iu (x:Option (List UInt8)):Zz x none=none:=by cases x <;> rfl
theorem Zof (x:Option (List UInt8)):Zz none x=none:=rfl
theorem Ztj (x:Option (List UInt8)):Zz x (some [])=x:=by
 cases x with
 | none=>rfl
 | some y=>simp [Zz]
theorem Oq {q:Prop}{b:Bool}(hb:b=true↔q)(e1 e2:Option (List UInt8))(l:List UInt8):Zz e1 (Zz e2 (if (!b)=true then none else some []))=some l↔q∧Zz e1 e2=some l:=by
 cases b with
 | true =>
  rw [if_neg (by decide),Ztj];exact⟨fun h=>⟨hb.1 rfl,h⟩,fun h=>h.2⟩
 | false =>
  rw [if_pos (by decide),Iu,Iu];exact⟨fun h=>(by cases h),fun h=>absurd (hb.2 h.1) (by decide)⟩
theorem Sx {e e':Option (List UInt8)}{q:Prop}(h:∀ l,e=some l↔q∧e'=some l)(s:ByteArray)(a a':Nat):Rt e s a a'↔q∧Rt e' s a a':=by
 constructor
 ·
  rintro⟨l,h1,h2⟩;exact⟨((h l).1 h1).1,l,((h l).1 h1).2,h2⟩
 ·
  rintro⟨hq,l,h1,h2⟩;exact⟨l,(h l).2 ⟨hq,h1⟩,h2⟩
theorem Yex (k:Int)(hs:Zg k=[68,78])(d a0 bb n f:Int)(args:List (Int×Int))(outs:List Int)(l:List UInt8):Zi ⟨k,d,a0,bb,n,f,args,outs⟩=some l↔(a0=0∧bb=0∧f=0∧args=[]∧outs=[])∧Zz (Zf 1 18 k) (Zz (Zf 0 255 d) (Zz (some (Dj n 8)) (some [])))=some l:=by
 rw [← Nf];show Xd (Gr (Jw 1 18 k) (Gr (Oj (Gz ⟨k,d,a0,bb,n,f,args,outs⟩) (Zg k)) ([],!Xb ⟨k,d,a0,bb,n,f,args,outs⟩ (Zg k))))=_↔_;rw [hs,Zl,Zl,Zm,Yp,Yj];simp only [Yi,Lr,Zcj,Zm];rw [show Xb ⟨k,d,a0,bb,n,f,args,outs⟩ [68,78]=((0:Int)==0&&a0==0&&bb==0&&(0:Int)==0&&f==0&&(args.length:Int)==0&&(outs.length:Int)==0) from rfl];rw [show Xd (Dj n 8,false)=some (Dj n 8) from rfl];exact Oq (by simp only [Bool.and_eq_true,beq_iff_eq,Zas,and_assoc,Int.ofNat_zero,Int.natCast_zero,true_and,and_true]) _ _ _
theorem Zyg (k:Int)(hs:Zg k=[68,78])(s:ByteArray)(a a':Nat)(i:Zq):Yx s (Zg k) (Mm k) a=.ok (i,a')↔∃ d a0 bb n f args outs,i=⟨k,d,a0,bb,n,f,args,outs⟩∧Ir i∧(a0=0∧bb=0∧f=0∧args=[]∧outs=[])∧Rt (Zz (Zf 0 255 d) (Zz (some (Dj n 8)) (some []))) s a a':=by
 rw [hs];simp only [Lo,Mb,Zpw,Ybv,Ge,Uq];have hp:(256:Int) ^ 8=18446744073709551616:=by decide
 constructor
 ·
  rintro⟨_,b0,⟨x0,rfl,r0⟩,_,b1,⟨x1,rfl,hx1,r1⟩,rfl,rfl⟩;refine⟨x0,0,0,x1,0,[],[],rfl,⟨hx1.1,hp ▸ hx1.2⟩,⟨rfl,rfl,rfl,rfl,rfl⟩,b0,r0,_,r1,rfl⟩
 ·
  rintro⟨d,a0,bb,n,f,args,outs,rfl,hN,⟨rfl,rfl,rfl,rfl,rfl⟩,b0,r0,b1,r1,rfl⟩;exact⟨_,b0,⟨_,rfl,r0⟩,_,_,⟨_,rfl,⟨hN.1,by have:=hN.2; simp only at this ⊢; omega⟩,r1⟩,rfl,rfl⟩
theorem Ygu (k:Int)(hs:Zg k=[68,78])(s:ByteArray)(a a':Nat)(i:Zq)(h:i.op=k)(hN:Ir i):Rt (Zi i) s a a'↔∃ b,Rt (Zf 1 18 k) s a b∧Yx s (Zg k) (Mm k) b=.ok (i,a'):=by
 obtain⟨op,d,a0,bb,n,f,args,outs⟩:=i;simp only at h;subst h;rw [Sx (Yex op hs d a0 bb n f args outs) s a a',Ge];simp only [Zyg op hs];constructor
 ·
  rintro⟨hz,b,h1,h2⟩;exact⟨b,h1,d,a0,bb,n,f,args,outs,rfl,hN,hz,h2⟩
 ·
  rintro⟨b,h1,d',a',b',n',f',g',o',e,-,hz,h2⟩;cases e
  exact⟨hz,b,h1,h2⟩
theorem Yhr (k:Int)(hs:Zg k=[68,78]){s:ByteArray}{a a':Nat}{i:Zq}(h:Yx s (Zg k) (Mm k) a=.ok (i,a')):i.op=k∧Ir i:=by
 obtain⟨d,a0,bb,n,f,args,outs,rfl,hN,-⟩:=(Zyg k hs s a a' i).1 h;exact⟨rfl,hN⟩
theorem Yey (k:Int)(hs:Zg k=[68,65])(d a0 bb n f:Int)(args:List (Int×Int))(outs:List Int)(l:List UInt8):Zi ⟨k,d,a0,bb,n,f,args,outs⟩=some l↔(bb=0∧n=0∧f=0∧args=[]∧outs=[])∧Zz (Zf 1 18 k) (Zz (Zf 0 255 d) (Zz (Zf 0 255 a0) (some [])))=some l:=by
 rw [← Nf];show Xd (Gr (Jw 1 18 k) (Gr (Oj (Gz ⟨k,d,a0,bb,n,f,args,outs⟩) (Zg k)) ([],!Xb ⟨k,d,a0,bb,n,f,args,outs⟩ (Zg k))))=_↔_;rw [hs,Zl,Zl,Zm,Yp,Yj];simp only [Yi,Lr,Ls,Zm];rw [show Xb ⟨k,d,a0,bb,n,f,args,outs⟩ [68,65]=((0:Int)==0&&(0:Int)==0&&bb==0&&n==0&&f==0&&(args.length:Int)==0&&(outs.length:Int)==0) from rfl];exact Oq (by simp only [Bool.and_eq_true,beq_iff_eq,Zas,and_assoc,Int.ofNat_zero,Int.natCast_zero,true_and,and_true]) _ _ _
theorem Zyh (k:Int)(hs:Zg k=[68,65])(s:ByteArray)(a a':Nat)(i:Zq):Yx s (Zg k) (Mm k) a=.ok (i,a')↔∃ d a0 bb n f args outs,i=⟨k,d,a0,bb,n,f,args,outs⟩∧Ir i∧(bb=0∧n=0∧f=0∧args=[]∧outs=[])∧Rt (Zz (Zf 0 255 d) (Zz (Zf 0 255 a0) (some []))) s a a':=by
 rw [hs];simp only [Lo,Mb,Zpw,Zpx,Ge,Uq];constructor
 ·
  rintro⟨_,b0,⟨x0,rfl,r0⟩,_,b1,⟨x1,rfl,r1⟩,rfl,rfl⟩;refine⟨x0,x1,0,0,0,[],[],rfl,⟨Int.le_refl (0:Int),show(0:Int)<18446744073709551616 by decide⟩,⟨rfl,rfl,rfl,rfl,rfl⟩,b0,r0,_,r1,rfl⟩
 ·
  rintro⟨d,a0,bb,n,f,args,outs,rfl,hN,⟨rfl,rfl,rfl,rfl,rfl⟩,b0,r0,b1,r1,rfl⟩;exact⟨_,b0,⟨_,rfl,r0⟩,_,_,⟨_,rfl,r1⟩,rfl,rfl⟩
theorem Ygv (k:Int)(hs:Zg k=[68,65])(s:ByteArray)(a a':Nat)(i:Zq)(h:i.op=k)(hN:Ir i):Rt (Zi i) s a a'↔∃ b,Rt (Zf 1 18 k) s a b∧Yx s (Zg k) (Mm k) b=.ok (i,a'):=by
 obtain⟨op,d,a0,bb,n,f,args,outs⟩:=i;simp only at h;subst h;rw [Sx (Yey op hs d a0 bb n f args outs) s a a',Ge];simp only [Zyh op hs];constructor
 ·
  rintro⟨hz,b,h1,h2⟩;exact⟨b,h1,d,a0,bb,n,f,args,outs,rfl,hN,hz,h2⟩
 ·
  rintro⟨b,h1,d',a',b',n',f',g',o',e,-,hz,h2⟩;cases e
  exact⟨hz,b,h1,h2⟩
theorem Yhs (k:Int)(hs:Zg k=[68,65]){s:ByteArray}{a a':Nat}{i:Zq}(h:Yx s (Zg k) (Mm k) a=.ok (i,a')):i.op=k∧Ir i:=by
 obtain⟨d,a0,bb,n,f,args,outs,rfl,hN,-⟩:=(Zyh k hs s a a' i).1 h;exact⟨rfl,hN⟩
theorem Yez (k:Int)(hs:Zg k=[68,65,66])(d a0 bb n f:Int)(args:List (Int×Int))(outs:List Int)(l:List UInt8):Zi ⟨k,d,a0,bb,n,f,args,outs⟩=some l↔(n=0∧f=0∧args=[]∧outs=[])∧Zz (Zf 1 18 k) (Zz (Zf 0 255 d) (Zz (Zf 0 255 a0) (Zz (Zf 0 255 bb) (some []))))=some l:=by
 rw [← Nf];show Xd (Gr (Jw 1 18 k) (Gr (Oj (Gz ⟨k,d,a0,bb,n,f,args,outs⟩) (Zg k)) ([],!Xb ⟨k,d,a0,bb,n,f,args,outs⟩ (Zg k))))=_↔_;rw [hs,Zl,Zl,Zm,Yp,Yj];simp only [Yi,Lr,Ls,Nv,Zm];rw [show Xb ⟨k,d,a0,bb,n,f,args,outs⟩ [68,65,66]=((0:Int)==0&&(0:Int)==0&&(0:Int)==0&&n==0&&f==0&&(args.length:Int)==0&&(outs.length:Int)==0) from rfl];exact Oq (by simp only [Bool.and_eq_true,beq_iff_eq,Zas,and_assoc,Int.ofNat_zero,Int.natCast_zero,true_and,and_true]) _ _ _
theorem Zyi (k:Int)(hs:Zg k=[68,65,66])(s:ByteArray)(a a':Nat)(i:Zq):Yx s (Zg k) (Mm k) a=.ok (i,a')↔∃ d a0 bb n f args outs,i=⟨k,d,a0,bb,n,f,args,outs⟩∧Ir i∧(n=0∧f=0∧args=[]∧outs=[])∧Rt (Zz (Zf 0 255 d) (Zz (Zf 0 255 a0) (Zz (Zf 0 255 bb) (some [])))) s a a':=by
 rw [hs];simp only [Lo,Mb,Zpw,Zpx,Ybt,Ge,Uq];constructor
 ·
  rintro⟨_,b0,⟨x0,rfl,r0⟩,_,b1,⟨x1,rfl,r1⟩,_,b2,⟨x2,rfl,r2⟩,rfl,rfl⟩;refine⟨x0,x1,x2,0,0,[],[],rfl,⟨Int.le_refl (0:Int),show(0:Int)<18446744073709551616 by decide⟩,⟨rfl,rfl,rfl,rfl⟩,b0,r0,b1,r1,_,r2,rfl⟩
 ·
  rintro⟨d,a0,bb,n,f,args,outs,rfl,hN,⟨rfl,rfl,rfl,rfl⟩,b0,r0,b1,r1,b2,r2,rfl⟩;exact⟨_,b0,⟨_,rfl,r0⟩,_,b1,⟨_,rfl,r1⟩,_,_,⟨_,rfl,r2⟩,rfl,rfl⟩
theorem Cp (k:Int)(hs:Zg k=[68,65,66])(s:ByteArray)(a a':Nat)(i:Zq)(h:i.op=k)(hN:Ir i):Rt (Zi i) s a a'↔∃ b,Rt (Zf 1 18 k) s a b∧Yx s (Zg k) (Mm k) b=.ok (i,a'):=by
 obtain⟨op,d,a0,bb,n,f,args,outs⟩:=i;simp only at h;subst h;rw [Sx (Yez op hs d a0 bb n f args outs) s a a',Ge];simp only [Zyi op hs];constructor
 ·
  rintro⟨hz,b,h1,h2⟩;exact⟨b,h1,d,a0,bb,n,f,args,outs,rfl,hN,hz,h2⟩
 ·
  rintro⟨b,h1,d',a',b',n',f',g',o',e,-,hz,h2⟩;cases e
  exact⟨hz,b,h1,h2⟩
theorem Zlb (k:Int)(hs:Zg k=[68,65,66]){s:ByteArray}{a a':Nat}{i:Zq}(h:Yx s (Zg k) (Mm k) a=.ok (i,a')):i.op=k∧Ir i:=by
 obtain⟨d,a0,bb,n,f,args,outs,rfl,hN,-⟩:=(Zyi k hs s a a' i).1 h;exact⟨rfl,hN⟩
theorem Yaz (k:Int)(hs:Zg k=[68,65,66,110])(d a0 bb n f:Int)(args:List (Int×Int))(outs:List Int)(l:List UInt8):Zi ⟨k,d,a0,bb,n,f,args,outs⟩=some l↔(n≤255∧f=0∧args=[]∧outs=[])∧Zz (Zf 1 18 k) (Zz (Zf 0 255 d) (Zz (Zf 0 255 a0) (Zz (Zf 0 255 bb) (Zz (some (Dj n 1)) (some [])))))=some l:=by
 rw [← Nf];show Xd (Gr (Jw 1 18 k) (Gr (Oj (Gz ⟨k,d,a0,bb,n,f,args,outs⟩) (Zg k)) ([],!Xb ⟨k,d,a0,bb,n,f,args,outs⟩ (Zg k))))=_↔_;rw [hs,Zl,Zl,Zm,Yp,Yj];simp only [Yi,Lr,Ls,Nv,Zda,Zm];rw [show Xb ⟨k,d,a0,bb,n,f,args,outs⟩ [68,65,66,110]=((0:Int)==0&&(0:Int)==0&&(0:Int)==0&&(0:Int)==0&&f==0&&(args.length:Int)==0&&(outs.length:Int)==0) from rfl];by_cases hn:n≤255
 ·
  rw [show Xd ([Zj n],decide (255<n))=some (Dj n 1) by unfold Xd; rw [if_neg (by simp; omega)]; simp [Dj]];rw [Oq (q:=f=0∧args=[]∧outs=[]) (by simp only [Bool.and_eq_true,beq_iff_eq,Zas,and_assoc,Int.ofNat_zero,Int.natCast_zero,true_and,and_true])];simp only [hn,true_and]
 ·
  rw [show Xd ([Zj n],decide (255<n))=none by unfold Xd; rw [if_pos (by simp; omega)]];simp only [Zof,Iu,hn,false_and,reduceCtorEq]
theorem Zpy (k:Int)(hs:Zg k=[68,65,66,110])(s:ByteArray)(a a':Nat)(i:Zq):Yx s (Zg k) (Mm k) a=.ok (i,a')↔∃ d a0 bb n f args outs,i=⟨k,d,a0,bb,n,f,args,outs⟩∧Ir i∧(n≤255∧f=0∧args=[]∧outs=[])∧Rt (Zz (Zf 0 255 d) (Zz (Zf 0 255 a0) (Zz (Zf 0 255 bb) (Zz (some (Dj n 1)) (some []))))) s a a':=by
 rw [hs];simp only [Lo,Mb,Zpw,Zpx,Ybt,Yew,Ge,Uq];have hp:(256:Int) ^ 1=256:=by decide
 constructor
 ·
  rintro⟨_,b0,⟨x0,rfl,r0⟩,_,b1,⟨x1,rfl,r1⟩,_,b2,⟨x2,rfl,r2⟩,_,b3,⟨x3,rfl,hx3,r3⟩,rfl,rfl⟩;refine⟨x0,x1,x2,x3,0,[],[],rfl,⟨hx3.1,Int.lt_trans (hp ▸ hx3.2) (by decide)⟩,⟨by have:=hx3.2; omega,rfl,rfl,rfl⟩,b0,r0,b1,r1,b2,r2,_,r3,rfl⟩
 ·
  rintro⟨d,a0,bb,n,f,args,outs,rfl,hN,⟨hn,rfl,rfl,rfl⟩,b0,r0,b1,r1,b2,r2,b3,r3,rfl⟩;exact⟨_,b0,⟨_,rfl,r0⟩,_,b1,⟨_,rfl,r1⟩,_,b2,⟨_,rfl,r2⟩,_,_,⟨_,rfl,⟨hN.1,by have:=hN.2; simp only at this hn ⊢; omega⟩,r3⟩,rfl,rfl⟩
theorem Zpz (k:Int)(hs:Zg k=[68,65,66,110])(s:ByteArray)(a a':Nat)(i:Zq)(h:i.op=k)(hN:Ir i):Rt (Zi i) s a a'↔∃ b,Rt (Zf 1 18 k) s a b∧Yx s (Zg k) (Mm k) b=.ok (i,a'):=by
 obtain⟨op,d,a0,bb,n,f,args,outs⟩:=i;simp only at h;subst h;rw [Sx (Yaz op hs d a0 bb n f args outs) s a a',Ge];simp only [Zpy op hs];constructor
 ·
  rintro⟨hz,b,h1,h2⟩;exact⟨b,h1,d,a0,bb,n,f,args,outs,rfl,hN,hz,h2⟩
 ·
  rintro⟨b,h1,d',a',b',n',f',g',o',e,-,hz,h2⟩;cases e
  exact⟨hz,b,h1,h2⟩
theorem Yby (k:Int)(hs:Zg k=[68,65,66,110]){s:ByteArray}{a a':Nat}{i:Zq}(h:Yx s (Zg k) (Mm k) a=.ok (i,a')):i.op=k∧Ir i:=by
 obtain⟨d,a0,bb,n,f,args,outs,rfl,hN,-⟩:=(Zpy k hs s a a' i).1 h;exact⟨rfl,hN⟩
theorem Yba (k:Int)(hs:Zg k=[70,82,79])(d a0 bb n f:Int)(args:List (Int×Int))(outs:List Int)(l:List UInt8):Zi ⟨k,d,a0,bb,n,f,args,outs⟩=some l↔(d=0∧a0=0∧bb=0∧n=0)∧Zz (Zf 1 18 k) (Zz (Zf 0 255 f) (Zz (Xh 0 8 Jl args) (Zz (Xh 0 4 (Zf 0 255) outs) (some []))))=some l:=by
 rw [← Nf];show Xd (Gr (Jw 1 18 k) (Gr (Oj (Gz ⟨k,d,a0,bb,n,f,args,outs⟩) (Zg k)) ([],!Xb ⟨k,d,a0,bb,n,f,args,outs⟩ (Zg k))))=_↔_;rw [hs,Zl,Zl,Zm,Yp,Yj];simp only [Yi,Zac,Zad,Zae,Zm,Zkz,Zla];rw [show Xb ⟨k,d,a0,bb,n,f,args,outs⟩ [70,82,79]=(d==0&&a0==0&&bb==0&&n==0&&(0:Int)==0&&((0:Nat):Int)==0&&((0:Nat):Int)==0) from rfl];exact Oq (by simp only [Bool.and_eq_true,beq_iff_eq,Zas,and_assoc,Int.ofNat_zero,Int.natCast_zero,true_and,and_true]) _ _ _
theorem Zqa (k:Int)(hs:Zg k=[70,82,79])(s:ByteArray)(a a':Nat)(i:Zq):Yx s (Zg k) (Mm k) a=.ok (i,a')↔∃ d a0 bb n f args outs,i=⟨k,d,a0,bb,n,f,args,outs⟩∧Ir i∧(d=0∧a0=0∧bb=0∧n=0)∧Rt (Zz (Zf 0 255 f) (Zz (Xh 0 8 Jl args) (Zz (Xh 0 4 (Zf 0 255) outs) (some [])))) s a a':=by
 rw [hs];simp only [Lo,Mb,Ybu,Ybw,Ybx,Ge,Uq];constructor
 ·
  rintro⟨_,b0,⟨x0,rfl,r0⟩,_,b1,⟨x1,rfl,r1⟩,_,b2,⟨x2,rfl,r2⟩,rfl,rfl⟩;refine⟨0,0,0,0,x0,x1,x2,rfl,⟨Int.le_refl (0:Int),show(0:Int)<18446744073709551616 by decide⟩,⟨rfl,rfl,rfl,rfl⟩,b0,r0,b1,r1,_,r2,rfl⟩
 ·
  rintro⟨d,a0,bb,n,f,args,outs,rfl,hN,⟨rfl,rfl,rfl,rfl⟩,b0,r0,b1,r1,b2,r2,rfl⟩;exact⟨_,b0,⟨_,rfl,r0⟩,_,b1,⟨_,rfl,r1⟩,_,_,⟨_,rfl,r2⟩,rfl,rfl⟩
theorem Zqb (k:Int)(hs:Zg k=[70,82,79])(s:ByteArray)(a a':Nat)(i:Zq)(h:i.op=k)(hN:Ir i):Rt (Zi i) s a a'↔∃ b,Rt (Zf 1 18 k) s a b∧Yx s (Zg k) (Mm k) b=.ok (i,a'):=by
 obtain⟨op,d,a0,bb,n,f,args,outs⟩:=i;simp only at h;subst h;rw [Sx (Yba op hs d a0 bb n f args outs) s a a',Ge];simp only [Zqa op hs];constructor
 ·
  rintro⟨hz,b,h1,h2⟩;exact⟨b,h1,d,a0,bb,n,f,args,outs,rfl,hN,hz,h2⟩
 ·
  rintro⟨b,h1,d',a',b',n',f',g',o',e,-,hz,h2⟩;cases e
  exact⟨hz,b,h1,h2⟩
theorem Ybz (k:Int)(hs:Zg k=[70,82,79]){s:ByteArray}{a a':Nat}{i:Zq}(h:Yx s (Zg k) (Mm k) a=.ok (i,a')):i.op=k∧Ir i:=by
 obtain⟨d,a0,bb,n,f,args,outs,rfl,hN,-⟩:=(Zqa k hs s a a' i).1 h;exact⟨rfl,hN⟩
theorem Ybb (k:Int)(hs:Zg k=[65])(d a0 bb n f:Int)(args:List (Int×Int))(outs:List Int)(l:List UInt8):Zi ⟨k,d,a0,bb,n,f,args,outs⟩=some l↔(d=0∧bb=0∧n=0∧f=0∧args=[]∧outs=[])∧Zz (Zf 1 18 k) (Zz (Zf 0 255 a0) (some []))=some l:=by
 rw [← Nf];show Xd (Gr (Jw 1 18 k) (Gr (Oj (Gz ⟨k,d,a0,bb,n,f,args,outs⟩) (Zg k)) ([],!Xb ⟨k,d,a0,bb,n,f,args,outs⟩ (Zg k))))=_↔_;rw [hs,Zl,Zl,Zm,Yp,Yj];simp only [Yi,Ls,Zm];rw [show Xb ⟨k,d,a0,bb,n,f,args,outs⟩ [65]=(d==0&&(0:Int)==0&&bb==0&&n==0&&f==0&&(args.length:Int)==0&&(outs.length:Int)==0) from rfl];exact Oq (by simp only [Bool.and_eq_true,beq_iff_eq,Zas,and_assoc,Int.ofNat_zero,Int.natCast_zero,true_and,and_true]) _ _ _
theorem Zqc (k:Int)(hs:Zg k=[65])(s:ByteArray)(a a':Nat)(i:Zq):Yx s (Zg k) (Mm k) a=.ok (i,a')↔∃ d a0 bb n f args outs,i=⟨k,d,a0,bb,n,f,args,outs⟩∧Ir i∧(d=0∧bb=0∧n=0∧f=0∧args=[]∧outs=[])∧Rt (Zz (Zf 0 255 a0) (some [])) s a a':=by
 rw [hs];simp only [Lo,Mb,Zpx,Ge,Uq];constructor
 ·
  rintro⟨_,b0,⟨x0,rfl,r0⟩,rfl,rfl⟩;refine⟨0,x0,0,0,0,[],[],rfl,⟨Int.le_refl (0:Int),show(0:Int)<18446744073709551616 by decide⟩,⟨rfl,rfl,rfl,rfl,rfl,rfl⟩,_,r0,rfl⟩
 ·
  rintro⟨d,a0,bb,n,f,args,outs,rfl,hN,⟨rfl,rfl,rfl,rfl,rfl,rfl⟩,b0,r0,rfl⟩;exact⟨_,_,⟨_,rfl,r0⟩,rfl,rfl⟩
theorem Yca (k:Int)(hs:Zg k=[65])(s:ByteArray)(a a':Nat)(i:Zq)(h:i.op=k)(hN:Ir i):Rt (Zi i) s a a'↔∃ b,Rt (Zf 1 18 k) s a b∧Yx s (Zg k) (Mm k) b=.ok (i,a'):=by
 obtain⟨op,d,a0,bb,n,f,args,outs⟩:=i;simp only at h;subst h;rw [Sx (Ybb op hs d a0 bb n f args outs) s a a',Ge];simp only [Zqc op hs];constructor
 ·
  rintro⟨hz,b,h1,h2⟩;exact⟨b,h1,d,a0,bb,n,f,args,outs,rfl,hN,hz,h2⟩
 ·
  rintro⟨b,h1,d',a',b',n',f',g',o',e,-,hz,h2⟩;cases e
  exact⟨hz,b,h1,h2⟩
theorem Ygw (k:Int)(hs:Zg k=[65]){s:ByteArray}{a a':Nat}{i:Zq}(h:Yx s (Zg k) (Mm k) a=.ok (i,a')):i.op=k∧Ir i:=by
 obtain⟨d,a0,bb,n,f,args,outs,rfl,hN,-⟩:=(Zqc k hs s a a' i).1 h;exact⟨rfl,hN⟩
theorem Ybc (k:Int)(hs:Zg k=[79])(d a0 bb n f:Int)(args:List (Int×Int))(outs:List Int)(l:List UInt8):Zi ⟨k,d,a0,bb,n,f,args,outs⟩=some l↔(d=0∧a0=0∧bb=0∧n=0∧f=0∧args=[])∧Zz (Zf 1 18 k) (Zz (Xh 0 4 (Zf 0 255) outs) (some []))=some l:=by
 rw [← Nf];show Xd (Gr (Jw 1 18 k) (Gr (Oj (Gz ⟨k,d,a0,bb,n,f,args,outs⟩) (Zg k)) ([],!Xb ⟨k,d,a0,bb,n,f,args,outs⟩ (Zg k))))=_↔_;rw [hs,Zl,Zl,Zm,Yp,Yj];simp only [Yi,Zae,Zla];rw [show Xb ⟨k,d,a0,bb,n,f,args,outs⟩ [79]=(d==0&&a0==0&&bb==0&&n==0&&f==0&&(args.length:Int)==0&&((0:Nat):Int)==0) from rfl];exact Oq (by simp only [Bool.and_eq_true,beq_iff_eq,Zas,and_assoc,Int.ofNat_zero,Int.natCast_zero,true_and,and_true]) _ _ _
theorem Zqd (k:Int)(hs:Zg k=[79])(s:ByteArray)(a a':Nat)(i:Zq):Yx s (Zg k) (Mm k) a=.ok (i,a')↔∃ d a0 bb n f args outs,i=⟨k,d,a0,bb,n,f,args,outs⟩∧Ir i∧(d=0∧a0=0∧bb=0∧n=0∧f=0∧args=[])∧Rt (Zz (Xh 0 4 (Zf 0 255) outs) (some [])) s a a':=by
 rw [hs];simp only [Lo,Mb,Ybx,Ge,Uq];constructor
 ·
  rintro⟨_,b0,⟨x0,rfl,r0⟩,rfl,rfl⟩;refine⟨0,0,0,0,0,[],x0,rfl,⟨Int.le_refl (0:Int),show(0:Int)<18446744073709551616 by decide⟩,⟨rfl,rfl,rfl,rfl,rfl,rfl⟩,_,r0,rfl⟩
 ·
  rintro⟨d,a0,bb,n,f,args,outs,rfl,hN,⟨rfl,rfl,rfl,rfl,rfl,rfl⟩,b0,r0,rfl⟩;exact⟨_,_,⟨_,rfl,r0⟩,rfl,rfl⟩
theorem Ycb (k:Int)(hs:Zg k=[79])(s:ByteArray)(a a':Nat)(i:Zq)(h:i.op=k)(hN:Ir i):Rt (Zi i) s a a'↔∃ b,Rt (Zf 1 18 k) s a b∧Yx s (Zg k) (Mm k) b=.ok (i,a'):=by
 obtain⟨op,d,a0,bb,n,f,args,outs⟩:=i;simp only at h;subst h;rw [Sx (Ybc op hs d a0 bb n f args outs) s a a',Ge];simp only [Zqd op hs];constructor
 ·
  rintro⟨hz,b,h1,h2⟩;exact⟨b,h1,d,a0,bb,n,f,args,outs,rfl,hN,hz,h2⟩
 ·
  rintro⟨b,h1,d',a',b',n',f',g',o',e,-,hz,h2⟩;cases e
  exact⟨hz,b,h1,h2⟩
theorem Ygx (k:Int)(hs:Zg k=[79]){s:ByteArray}{a a':Nat}{i:Zq}(h:Yx s (Zg k) (Mm k) a=.ok (i,a')):i.op=k∧Ir i:=by
 obtain⟨d,a0,bb,n,f,args,outs,rfl,hN,-⟩:=(Zqd k hs s a a' i).1 h;exact⟨rfl,hN⟩
theorem Ybd (k:Int)(hs:Zg k=[70,82])(d a0 bb n f:Int)(args:List (Int×Int))(outs:List Int)(l:List UInt8):Zi ⟨k,d,a0,bb,n,f,args,outs⟩=some l↔(d=0∧a0=0∧bb=0∧n=0∧outs=[])∧Zz (Zf 1 18 k) (Zz (Zf 0 255 f) (Zz (Xh 0 8 Jl args) (some [])))=some l:=by
 rw [← Nf];show Xd (Gr (Jw 1 18 k) (Gr (Oj (Gz ⟨k,d,a0,bb,n,f,args,outs⟩) (Zg k)) ([],!Xb ⟨k,d,a0,bb,n,f,args,outs⟩ (Zg k))))=_↔_;rw [hs,Zl,Zl,Zm,Yp,Yj];simp only [Yi,Zac,Zad,Zm,Zkz];rw [show Xb ⟨k,d,a0,bb,n,f,args,outs⟩ [70,82]=(d==0&&a0==0&&bb==0&&n==0&&(0:Int)==0&&((0:Nat):Int)==0&&(outs.length:Int)==0) from rfl];exact Oq (by simp only [Bool.and_eq_true,beq_iff_eq,Zas,and_assoc,Int.ofNat_zero,Int.natCast_zero,true_and,and_true]) _ _ _
theorem Zqe (k:Int)(hs:Zg k=[70,82])(s:ByteArray)(a a':Nat)(i:Zq):Yx s (Zg k) (Mm k) a=.ok (i,a')↔∃ d a0 bb n f args outs,i=⟨k,d,a0,bb,n,f,args,outs⟩∧Ir i∧(d=0∧a0=0∧bb=0∧n=0∧outs=[])∧Rt (Zz (Zf 0 255 f) (Zz (Xh 0 8 Jl args) (some []))) s a a':=by
 rw [hs];simp only [Lo,Mb,Ybu,Ybw,Ge,Uq];constructor
 ·
  rintro⟨_,b0,⟨x0,rfl,r0⟩,_,b1,⟨x1,rfl,r1⟩,rfl,rfl⟩;refine⟨0,0,0,0,x0,x1,[],rfl,⟨Int.le_refl (0:Int),show(0:Int)<18446744073709551616 by decide⟩,⟨rfl,rfl,rfl,rfl,rfl⟩,b0,r0,_,r1,rfl⟩
 ·
  rintro⟨d,a0,bb,n,f,args,outs,rfl,hN,⟨rfl,rfl,rfl,rfl,rfl⟩,b0,r0,b1,r1,rfl⟩;exact⟨_,b0,⟨_,rfl,r0⟩,_,_,⟨_,rfl,r1⟩,rfl,rfl⟩
theorem Ycc (k:Int)(hs:Zg k=[70,82])(s:ByteArray)(a a':Nat)(i:Zq)(h:i.op=k)(hN:Ir i):Rt (Zi i) s a a'↔∃ b,Rt (Zf 1 18 k) s a b∧Yx s (Zg k) (Mm k) b=.ok (i,a'):=by
 obtain⟨op,d,a0,bb,n,f,args,outs⟩:=i;simp only at h;subst h;rw [Sx (Ybd op hs d a0 bb n f args outs) s a a',Ge];simp only [Zqe op hs];constructor
 ·
  rintro⟨hz,b,h1,h2⟩;exact⟨b,h1,d,a0,bb,n,f,args,outs,rfl,hN,hz,h2⟩
 ·
  rintro⟨b,h1,d',a',b',n',f',g',o',e,-,hz,h2⟩;cases e
  exact⟨hz,b,h1,h2⟩
theorem Ygy (k:Int)(hs:Zg k=[70,82]){s:ByteArray}{a a':Nat}{i:Zq}(h:Yx s (Zg k) (Mm k) a=.ok (i,a')):i.op=k∧Ir i:=by
 obtain⟨d,a0,bb,n,f,args,outs,rfl,hN,-⟩:=(Zqe k hs s a a' i).1 h;exact⟨rfl,hN⟩
theorem Ybe (k:Int)(hs:Zg k=[78])(d a0 bb n f:Int)(args:List (Int×Int))(outs:List Int)(l:List UInt8):Zi ⟨k,d,a0,bb,n,f,args,outs⟩=some l↔(d=0∧a0=0∧bb=0∧f=0∧args=[]∧outs=[])∧Zz (Zf 1 18 k) (Zz (some (Dj n 8)) (some []))=some l:=by
 rw [← Nf];show Xd (Gr (Jw 1 18 k) (Gr (Oj (Gz ⟨k,d,a0,bb,n,f,args,outs⟩) (Zg k)) ([],!Xb ⟨k,d,a0,bb,n,f,args,outs⟩ (Zg k))))=_↔_;rw [hs,Zl,Zl,Zm,Yp,Yj];simp only [Yi,Zcj];rw [show Xb ⟨k,d,a0,bb,n,f,args,outs⟩ [78]=(d==0&&a0==0&&bb==0&&(0:Int)==0&&f==0&&(args.length:Int)==0&&(outs.length:Int)==0) from rfl];rw [show Xd (Dj n 8,false)=some (Dj n 8) from rfl];exact Oq (by simp only [Bool.and_eq_true,beq_iff_eq,Zas,and_assoc,Int.ofNat_zero,Int.natCast_zero,true_and,and_true]) _ _ _
theorem Zqf (k:Int)(hs:Zg k=[78])(s:ByteArray)(a a':Nat)(i:Zq):Yx s (Zg k) (Mm k) a=.ok (i,a')↔∃ d a0 bb n f args outs,i=⟨k,d,a0,bb,n,f,args,outs⟩∧Ir i∧(d=0∧a0=0∧bb=0∧f=0∧args=[]∧outs=[])∧Rt (Zz (some (Dj n 8)) (some [])) s a a':=by
 rw [hs];simp only [Lo,Mb,Ybv,Ge,Uq];have hp:(256:Int) ^ 8=18446744073709551616:=by decide
 constructor
 ·
  rintro⟨_,b0,⟨x0,rfl,hx0,r0⟩,rfl,rfl⟩;refine⟨0,0,0,x0,0,[],[],rfl,⟨hx0.1,hp ▸ hx0.2⟩,⟨rfl,rfl,rfl,rfl,rfl,rfl⟩,_,r0,rfl⟩
 ·
  rintro⟨d,a0,bb,n,f,args,outs,rfl,hN,⟨rfl,rfl,rfl,rfl,rfl,rfl⟩,b0,r0,rfl⟩;exact⟨_,_,⟨_,rfl,⟨hN.1,by have:=hN.2; simp only at this ⊢; omega⟩,r0⟩,rfl,rfl⟩
theorem Ycd (k:Int)(hs:Zg k=[78])(s:ByteArray)(a a':Nat)(i:Zq)(h:i.op=k)(hN:Ir i):Rt (Zi i) s a a'↔∃ b,Rt (Zf 1 18 k) s a b∧Yx s (Zg k) (Mm k) b=.ok (i,a'):=by
 obtain⟨op,d,a0,bb,n,f,args,outs⟩:=i;simp only at h;subst h;rw [Sx (Ybe op hs d a0 bb n f args outs) s a a',Ge];simp only [Zqf op hs];constructor
 ·
  rintro⟨hz,b,h1,h2⟩;exact⟨b,h1,d,a0,bb,n,f,args,outs,rfl,hN,hz,h2⟩
 ·
  rintro⟨b,h1,d',a',b',n',f',g',o',e,-,hz,h2⟩;cases e
  exact⟨hz,b,h1,h2⟩
theorem Ygz (k:Int)(hs:Zg k=[78]){s:ByteArray}{a a':Nat}{i:Zq}(h:Yx s (Zg k) (Mm k) a=.ok (i,a')):i.op=k∧Ir i:=by
 obtain⟨d,a0,bb,n,f,args,outs,rfl,hN,-⟩:=(Zqf k hs s a a' i).1 h;exact⟨rfl,hN⟩
theorem Zlc (x:Int)(h:1≤x)(h2:x≤18):x=1∨x=2∨x=3∨x=4∨x=5∨x=6∨x=7∨x=8∨x=9∨x=10∨x=11∨x=12∨x=13∨x=14∨x=15∨x=16∨x=17∨x=18:=by omega
theorem Cl {lo hi x:Int}{l:List UInt8}(h:Zf lo hi x=some l):lo≤x∧x≤hi:=by
 unfold Zf at h;by_cases hc:lo≤x∧x≤hi
 ·
  exact hc
 ·
  rw [if_neg hc] at h; cases h
theorem Ztk {i:Zq}{l:List UInt8}(h:Zi i=some l):1≤i.op∧i.op≤18:=by
 unfold Zi at h;cases he:Zf 1 18 i.op with
 | none=>rw [he] at h; cases h
 | some x=>exact Cl he
theorem Yfa:Cd Ir Zi Mu:=by
 intro s a i a';simp only [Mu,Gf];constructor
 ·
  rintro⟨op,b,h1,h2⟩;have hr:=((Xs 1 18 (Or.inl (by decide))) s a op b).1 h1;obtain⟨l,hl,-⟩:=hr.2;have hb:=Cl hl;rcases Zlc op hb.1 hb.2 with rfl | rfl | rfl | rfl | rfl | rfl | rfl | rfl | rfl | rfl | rfl | rfl | rfl | rfl | rfl | rfl | rfl | rfl
  ·
   have hi:=Yhr 1 rfl h2;exact⟨hi.2,(Ygu 1 rfl s a a' i hi.1 hi.2).2 ⟨b,hr.2,h2⟩⟩
  ·
   have hi:=Yhs 2 rfl h2;exact⟨hi.2,(Ygv 2 rfl s a a' i hi.1 hi.2).2 ⟨b,hr.2,h2⟩⟩
  ·
   have hi:=Zlb 3 rfl h2;exact⟨hi.2,(Cp 3 rfl s a a' i hi.1 hi.2).2 ⟨b,hr.2,h2⟩⟩
  ·
   have hi:=Zlb 4 rfl h2;exact⟨hi.2,(Cp 4 rfl s a a' i hi.1 hi.2).2 ⟨b,hr.2,h2⟩⟩
  ·
   have hi:=Zlb 5 rfl h2;exact⟨hi.2,(Cp 5 rfl s a a' i hi.1 hi.2).2 ⟨b,hr.2,h2⟩⟩
  ·
   have hi:=Zlb 6 rfl h2;exact⟨hi.2,(Cp 6 rfl s a a' i hi.1 hi.2).2 ⟨b,hr.2,h2⟩⟩
  ·
   have hi:=Zlb 7 rfl h2;exact⟨hi.2,(Cp 7 rfl s a a' i hi.1 hi.2).2 ⟨b,hr.2,h2⟩⟩
  ·
   have hi:=Zlb 8 rfl h2;exact⟨hi.2,(Cp 8 rfl s a a' i hi.1 hi.2).2 ⟨b,hr.2,h2⟩⟩
  ·
   have hi:=Zlb 9 rfl h2;exact⟨hi.2,(Cp 9 rfl s a a' i hi.1 hi.2).2 ⟨b,hr.2,h2⟩⟩
  ·
   have hi:=Yby 10 rfl h2;exact⟨hi.2,(Zpz 10 rfl s a a' i hi.1 hi.2).2 ⟨b,hr.2,h2⟩⟩
  ·
   have hi:=Yby 11 rfl h2;exact⟨hi.2,(Zpz 11 rfl s a a' i hi.1 hi.2).2 ⟨b,hr.2,h2⟩⟩
  ·
   have hi:=Ybz 12 rfl h2;exact⟨hi.2,(Zqb 12 rfl s a a' i hi.1 hi.2).2 ⟨b,hr.2,h2⟩⟩
  ·
   have hi:=Ybz 13 rfl h2;exact⟨hi.2,(Zqb 13 rfl s a a' i hi.1 hi.2).2 ⟨b,hr.2,h2⟩⟩
  ·
   have hi:=Ygw 14 rfl h2;exact⟨hi.2,(Yca 14 rfl s a a' i hi.1 hi.2).2 ⟨b,hr.2,h2⟩⟩
  ·
   have hi:=Zlb 15 rfl h2;exact⟨hi.2,(Cp 15 rfl s a a' i hi.1 hi.2).2 ⟨b,hr.2,h2⟩⟩
  ·
   have hi:=Ygx 16 rfl h2;exact⟨hi.2,(Ycb 16 rfl s a a' i hi.1 hi.2).2 ⟨b,hr.2,h2⟩⟩
  ·
   have hi:=Ygy 17 rfl h2;exact⟨hi.2,(Ycc 17 rfl s a a' i hi.1 hi.2).2 ⟨b,hr.2,h2⟩⟩
  ·
   have hi:=Ygz 18 rfl h2;exact⟨hi.2,(Ycd 18 rfl s a a' i hi.1 hi.2).2 ⟨b,hr.2,h2⟩⟩
 ·
  rintro⟨hN,hr⟩;obtain⟨l,hl,-⟩:=id hr;have hb:=Ztk hl;rcases Zlc i.op hb.1 hb.2 with h | h | h | h | h | h | h | h | h | h | h | h | h | h | h | h | h | h
  ·
   obtain⟨b,h1,h2⟩:=(Ygu 1 rfl s a a' i h hN).1 hr;exact⟨1,b,((Xs 1 18 (Or.inl (by decide))) s a 1 b).2 ⟨trivial,h1⟩,h2⟩
  ·
   obtain⟨b,h1,h2⟩:=(Ygv 2 rfl s a a' i h hN).1 hr;exact⟨2,b,((Xs 1 18 (Or.inl (by decide))) s a 2 b).2 ⟨trivial,h1⟩,h2⟩
  ·
   obtain⟨b,h1,h2⟩:=(Cp 3 rfl s a a' i h hN).1 hr;exact⟨3,b,((Xs 1 18 (Or.inl (by decide))) s a 3 b).2 ⟨trivial,h1⟩,h2⟩
  ·
   obtain⟨b,h1,h2⟩:=(Cp 4 rfl s a a' i h hN).1 hr;exact⟨4,b,((Xs 1 18 (Or.inl (by decide))) s a 4 b).2 ⟨trivial,h1⟩,h2⟩
  ·
   obtain⟨b,h1,h2⟩:=(Cp 5 rfl s a a' i h hN).1 hr;exact⟨5,b,((Xs 1 18 (Or.inl (by decide))) s a 5 b).2 ⟨trivial,h1⟩,h2⟩
  ·
   obtain⟨b,h1,h2⟩:=(Cp 6 rfl s a a' i h hN).1 hr;exact⟨6,b,((Xs 1 18 (Or.inl (by decide))) s a 6 b).2 ⟨trivial,h1⟩,h2⟩
  ·
   obtain⟨b,h1,h2⟩:=(Cp 7 rfl s a a' i h hN).1 hr;exact⟨7,b,((Xs 1 18 (Or.inl (by decide))) s a 7 b).2 ⟨trivial,h1⟩,h2⟩
  ·
   obtain⟨b,h1,h2⟩:=(Cp 8 rfl s a a' i h hN).1 hr;exact⟨8,b,((Xs 1 18 (Or.inl (by decide))) s a 8 b).2 ⟨trivial,h1⟩,h2⟩
  ·
   obtain⟨b,h1,h2⟩:=(Cp 9 rfl s a a' i h hN).1 hr;exact⟨9,b,((Xs 1 18 (Or.inl (by decide))) s a 9 b).2 ⟨trivial,h1⟩,h2⟩
  ·
   obtain⟨b,h1,h2⟩:=(Zpz 10 rfl s a a' i h hN).1 hr;exact⟨10,b,((Xs 1 18 (Or.inl (by decide))) s a 10 b).2 ⟨trivial,h1⟩,h2⟩
  ·
   obtain⟨b,h1,h2⟩:=(Zpz 11 rfl s a a' i h hN).1 hr;exact⟨11,b,((Xs 1 18 (Or.inl (by decide))) s a 11 b).2 ⟨trivial,h1⟩,h2⟩
  ·
   obtain⟨b,h1,h2⟩:=(Zqb 12 rfl s a a' i h hN).1 hr;exact⟨12,b,((Xs 1 18 (Or.inl (by decide))) s a 12 b).2 ⟨trivial,h1⟩,h2⟩
  ·
   obtain⟨b,h1,h2⟩:=(Zqb 13 rfl s a a' i h hN).1 hr;exact⟨13,b,((Xs 1 18 (Or.inl (by decide))) s a 13 b).2 ⟨trivial,h1⟩,h2⟩
  ·
   obtain⟨b,h1,h2⟩:=(Yca 14 rfl s a a' i h hN).1 hr;exact⟨14,b,((Xs 1 18 (Or.inl (by decide))) s a 14 b).2 ⟨trivial,h1⟩,h2⟩
  ·
   obtain⟨b,h1,h2⟩:=(Cp 15 rfl s a a' i h hN).1 hr;exact⟨15,b,((Xs 1 18 (Or.inl (by decide))) s a 15 b).2 ⟨trivial,h1⟩,h2⟩
  ·
   obtain⟨b,h1,h2⟩:=(Ycb 16 rfl s a a' i h hN).1 hr;exact⟨16,b,((Xs 1 18 (Or.inl (by decide))) s a 16 b).2 ⟨trivial,h1⟩,h2⟩
  ·
   obtain⟨b,h1,h2⟩:=(Ycc 17 rfl s a a' i h hN).1 hr;exact⟨17,b,((Xs 1 18 (Or.inl (by decide))) s a 17 b).2 ⟨trivial,h1⟩,h2⟩
  ·
   obtain⟨b,h1,h2⟩:=(Ycd 18 rfl s a a' i h hN).1 hr;exact⟨18,b,((Xs 1 18 (Or.inl (by decide))) s a 18 b).2 ⟨trivial,h1⟩,h2⟩
theorem Zyj:Cd (fun l=>∀ i ∈ l,Ir i) Np Ib:=Ue Yfa 1 24 (by decide) (by decide)
def FnN (f:Zy):Prop:=∀ l ∈ f.blocks,∀ i ∈ l,Ir i
theorem Ybf:Cd FnN Lj Cq:=by
 intro s a x a';obtain⟨ps,r,hs,ss,bs⟩:=x;have n1:=Ue Zpv 0 8 (by decide) (by decide) s;have n2:=Xs 0 4 (Or.inl (by decide)) s;have n3:=Ue (Xs (-1) 15 (Or.inr (by decide))) 0 12 (by decide) (by decide) s;have n4:=Ue (Xs 1 8 (Or.inl (by decide))) 0 6 (by decide) (by decide) s;have n5:=Ue Zyj 1 12 (by decide) (by decide) s;simp only [Cq,Gf,n1,n2,n3,n4,n5,true_and,Except.ok.injEq,Prod.mk.injEq,Zy.mk.injEq,Lj,Ge,implies_true,FnN];rw [show Mx=Jl from rfl];constructor
 ·
  rintro⟨_,b1,h1,_,b2,h2,_,b3,h3,_,b4,h4,_,b5,⟨hN,h5⟩,⟨rfl,rfl,rfl,rfl,rfl⟩,rfl⟩;exact⟨hN,b1,h1,b2,h2,b3,h3,b4,h4,h5⟩
 ·
  rintro⟨hN,b1,h1,b2,h2,b3,h3,b4,h4,h5⟩;exact⟨_,b1,h1,_,b2,h2,_,b3,h3,_,b4,h4,_,_,⟨hN,h5⟩,⟨rfl,rfl,rfl,rfl,rfl⟩,rfl⟩
def PrN (p:Zw):Prop:=∀ f ∈ p.funcs,FnN f
theorem Zhs:Cd PrN Mp Ro:=by
 intro s a x a';obtain⟨fs,es⟩:=x;have n1:=Xs 70 70 (Or.inl (by decide)) s;have n2:=Xs 49 49 (Or.inl (by decide)) s;have n3:=Ue Yev 0 4 (by decide) (by decide) s;have n4:=Ue Ybf 1 8 (by decide) (by decide) s;have e0:(some [70,49]:Option (List UInt8))=Zz (Zf 70 70 70) (Zf 49 49 49):=by rfl
 simp only [Ro,Gf,n1,n2,n3,n4,true_and,Except.ok.injEq,Prod.mk.injEq,Zw.mk.injEq,Mp,e0,Ge,implies_true,PrN];constructor
 ·
  rintro⟨x,b1,h1,y,b2,h2,_,b3,h3,_,b4,⟨hN,h4⟩,⟨rfl,rfl⟩,rfl⟩;have ex:x=70:=by obtain⟨l,hl,-⟩:=id h1; have:=Cl hl; omega
  have ey:y=49:=by obtain⟨l,hl,-⟩:=id h2; have:=Cl hl; omega
  subst ex ey;exact⟨hN,b2,⟨b1,h1,h2⟩,b3,h3,h4⟩
 ·
  rintro⟨hN,b2,⟨b1,h1,h2⟩,b3,h3,h4⟩;exact⟨_,b1,h1,_,b2,h2,_,b3,h3,_,_,⟨hN,h4⟩,⟨rfl,rfl⟩,rfl⟩
theorem Zld (l r:List UInt8):Sd ⟨(l++r).toArray⟩ 0 l:=⟨r,by simp⟩
theorem Zqg {p:Zw}{l:List UInt8}(hN:PrN p)(h:Gq p=some l):Gl ⟨l.toArray⟩=.ok p:=by
 have hs:Mp p=some l∧l.length≤4000:=by
  unfold Gq at h;split at h
  ·
   split at h
   ·
    cases h; exact⟨by assumption,by assumption⟩
   ·
    cases h
  ·
   cases h
 have hd:Ro ⟨l.toArray⟩ 0=.ok (p,l.length):=(Zhs _ _ _ _).2 ⟨hN,l,hs.1,by simpa using Zld l [],by simp⟩;unfold Gl;rw [if_pos (show(⟨l.toArray⟩:ByteArray).size≤4000 by show l.toArray.size≤4000; simpa using hs.2),hd];simp only;rw [if_neg (show ¬ l.length<(⟨l.toArray⟩:ByteArray).size by show ¬ l.length<l.toArray.size; simp)]
theorem Zyk {p:Zw}{l:List UInt8}(hN:PrN p)(h:Gq p=some l)(h4:l.length<4000):Gl ⟨(l++[0]).toArray⟩=.error (3,l.length):=by
 have hs:Mp p=some l:=by
  unfold Gq at h;split at h
  ·
   split at h
   ·
    cases h; assumption
   ·
    cases h
  ·
   cases h
 have hd:Ro ⟨(l++[0]).toArray⟩ 0=.ok (p,l.length):=(Zhs _ _ _ _).2 ⟨hN,l,hs,Zld l [0],by simp⟩;have hz:(⟨(l++[0]).toArray⟩:ByteArray).size=l.length+1:=by show(l++[0]).toArray.size=_; simp
 unfold Gl;rw [if_pos (by rw [hz]; omega),hd];simp only;rw [if_pos (by rw [hz]; omega)]
theorem Zht {s:ByteArray}{p:Zw}(h:Gl s=.ok p):PrN p∧Gq p=some s.data.toList:=by
 unfold Gl at h;by_cases h4:s.size≤4000
 ·
  rw [if_pos h4] at h;cases hd:Ro s 0 with
  | error q=>rw [hd] at h; cases h
  | ok x =>
   obtain⟨q,a⟩:=x;rw [hd] at h;simp only at h;by_cases ha:a<s.size
   ·
    rw [if_pos ha] at h; cases h
   ·
    rw [if_neg ha] at h;cases h
    obtain⟨hN,l,hl,⟨r,hs⟩,e⟩:=(Zhs s 0 p a).1 hd;rw [List.drop_zero] at hs;have hz:s.size=s.data.toList.length:=by show s.data.size=_; simp
    have hr:r=[]:=by
     have:=congrArg List.length hs;rw [List.length_append] at this;exact List.eq_nil_of_length_eq_zero (by omega)
    subst hr;rw [List.append_nil] at hs;refine⟨hN,?_⟩;unfold Gq;rw [hl];simp only;rw [← hs,if_pos (by omega)]
 ·
  rw [if_neg h4] at h;cases h
end Go.Proofs.YtedemloocadimaaGreatDoor
