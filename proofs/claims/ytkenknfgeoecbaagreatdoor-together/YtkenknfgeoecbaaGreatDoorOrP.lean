import Derived.RowKit
namespace Go.Proofs.YtkenknfgeoecbaaGreatDoor
open Go.RowKit
abbrev Yp:=Int×Int
abbrev Yx:=Yp×Yp
def Oy (p:Yp):Bool:=decide (p.1=-1)
def mvL (t0:Int)(p:Yx):List Yx:=if Oy p.1&&Oy p.2 then [((t0,0),p.2),(p.1,(t0,0))] else [p]
structure Dg where
 left:List Yx
 rd:Yp->Int
 made:List Yx
def Lx (f:Yp->Int)(p:Yp)(d:Int):Yp->Int:=fun q=>if q=p then f q+d else f q
def mfS (t0:Int)(s:List Yx×(Yp->Int)×List Yx)(p:Yx):List Yx×(Yp->Int)×List Yx :=
 if 0<s.2.1 p.1 then (s.1++[p],s.2.1,s.2.2) else (s.1,Lx s.2.1 p.2 (-1),s.2.2++mvL t0 p)
def Oz (t0:Int)(x:Dg)(k:Nat):List Yx×(Yp->Int)×List Yx:=(x.left.take k).foldl (mfS t0) ([],x.rd,x.made)
def mfF (t0:Int)(x:Dg):Dg:=⟨(Oz t0 x x.left.length).1,(Oz t0 x x.left.length).2.1,(Oz t0 x x.left.length).2.2⟩
def rgP (pl a:Yp)(p:Yx):Yx:=if p.2=pl then (p.1,a) else p
def rgR (pl a:Yp)(rd:Yp->Int)(p:Yx):Yp->Int:=if p.2=pl then Lx (Lx rd pl (-1)) a 1 else rd
def Ur (pl a:Yp)(x:Dg)(k:Nat):List Yx×(Yp->Int):=((x.left.take k).map (rgP pl a)++x.left.drop k,(x.left.take k).foldl (rgR pl a) x.rd)
def Nr (t1:Int)(x:Dg):Dg:=⟨(Ur (x.left.getD 0 ((0,0),(0,0))).1 (t1,0) x x.left.length).1,(Ur (x.left.getD 0 ((0,0),(0,0))).1 (t1,0) x x.left.length).2,x.made++[((t1,0),(x.left.getD 0 ((0,0),(0,0))).1)]⟩
def Dz (t0 t1:Int)(x:Dg):Dg:=if (mfF t0 x).left.length<x.left.length then mfF t0 x else Nr t1 (mfF t0 x)
def Ji (t0 t1:Int):Nat->Dg->Dg
 | 0,x=>x
 | k+1,x=>if x.left=[] then x else Ji t0 t1 k (Dz t0 t1 x)
def Ja (l:List Yx)(q:Yp):Int:=((l.filter fun p=>decide (p.2=q)).length:Int)
def Jb (l:List Yx):Dg:=⟨l.filter fun p=>decide (p.1≠p.2),Ja (l.filter fun p=>decide (p.1≠p.2)),[]⟩
theorem Zbf (a b:List Yx)(q:Yp):Ja (a++b) q=Ja a q+Ja b q:=by unfold Ja;rw [List.filter_append,List.length_append];omega
theorem Zot (q:Yp):Ja [] q=0:=rfl
theorem Zou (p:Yx)(q:Yp):Ja [p] q=if p.2=q then 1 else 0:=by unfold Ja;by_cases h:p.2=q <;> simp [h]
theorem Ch (p:Yx)(l:List Yx)(q:Yp):Ja (p :: l) q=(if p.2=q then 1 else 0)+Ja l q:=by rw [show p :: l=[p]++l from rfl,Zbf,Zou]
theorem Ci {l:List Yx}{q:Yp}:0<Ja l q↔∃ p ∈ l,p.2=q:=by
 induction l with
 | nil=>simp [Zot]
 | cons p l ih =>
  rw [Ch];have h0:0<=Ja l q:=by unfold Ja; omega
  by_cases h:p.2=q
  ·rw [if_pos h];exact⟨fun _=>⟨p,List.mem_cons_self,h⟩,fun _=>by omega⟩
  ·rw [if_neg h,Int.zero_add,ih];constructor
   ·rintro⟨r,hr,e⟩; exact⟨r,List.mem_cons_of_mem _ hr,e⟩
   ·rintro⟨r,hr,e⟩;rcases List.mem_cons.1 hr with rfl | hr
    ·exact absurd e h
    ·exact⟨r,hr,e⟩
theorem Zct (l:List Yx)(q:Yp):0<=Ja l q:=by unfold Ja; omega
theorem Zov {α:Type}[BEq α][LawfulBEq α]:∀(a b:List α),a.Nodup->a ⊆ b->b.length<=a.length->a.Perm b
 | [],b,_,_,h=>by
  have:b=[]:=List.eq_nil_of_length_eq_zero (by simpa using h);rw [this]
 | x :: a,b,hn,hs,hl=>by
  have hx:x ∈ b:=hs List.mem_cons_self;have hn':=List.nodup_cons.1 hn;have h1:a ⊆ b.erase x:=fun y hy=>by
   have hy':y ∈ b:=hs (List.mem_cons_of_mem _ hy);refine(List.mem_erase_of_ne ?_).2 hy';intro e;exact hn'.1 (e ▸ hy)
  have h2:(b.erase x).length<=a.length:=by rw [List.length_erase_of_mem hx];simp at hl;omega
  exact((Zov a (b.erase x) hn'.2 h1 h2).cons x).trans (List.perm_cons_erase hx).symm
theorem Zmn {α:Type}[BEq α][LawfulBEq α]:∀(a b:List α),a.Nodup->a ⊆ b->a.length<=b.length
 | [],b,_,_=>Nat.zero_le _
 | x :: a,b,hn,hs=>by
  have hx:x ∈ b:=hs List.mem_cons_self;have hn':=List.nodup_cons.1 hn;have h1:a ⊆ b.erase x:=fun y hy=>by
   refine(List.mem_erase_of_ne ?_).2 (hs (List.mem_cons_of_mem _ hy));intro e;exact hn'.1 (e ▸ hy)
  have:=Zmn a (b.erase x) hn'.2 h1;rw [List.length_erase_of_mem hx] at this;have hp:0<b.length:=List.length_pos_of_mem hx;simp
  omega
def exS (s:Yp->Yp)(p:Yx):Yp->Yp:=fun q=>if q=p.1 then s p.2 else s q
def exF (l:List Yx):Yp->Yp:=l.foldl exS id
theorem Ul (l:List Yx)(p:Yx)(q:Yp):exF (l++[p]) q=if q=p.1 then exF l p.2 else exF l q:=by unfold exF;rw [List.foldl_append];rfl
theorem Zur {t0:Int}{l:List Yx}{T F:Yp}(q:Yp):exF (l++mvL t0 (T,F)) q=if q=T then exF l F else if (Oy T&&Oy F)=true∧q=(t0,0) then exF l F else exF l q:=by
 unfold mvL;by_cases h:(Oy T&&Oy F)=true
 ·rw [if_pos h];rw [show l++[((t0,0),F),(T,(t0,0))]=(l++[((t0,0),F)])++[(T,(t0,0))] by simp,Ul];by_cases hq:q=T
  ·rw [if_pos hq,if_pos hq,Ul,if_pos rfl]
  ·rw [if_neg hq,if_neg hq,Ul];by_cases h2:q=(t0,0)
   ·rw [if_pos h2,if_pos ⟨h,h2⟩]
   ·rw [if_neg h2,if_neg (fun x=>h2 x.2)]
 ·rw [if_neg h,Ul];by_cases hq:q=T
  ·rw [if_pos hq,if_pos hq]
  ·rw [if_neg hq,if_neg hq,if_neg (fun x=>h x.1)]
def Yb:Yx:=((0,0),(0,0))
def Kn (p:Yx):Nat:=if p.1=p.2 then 0 else if Oy p.1&&Oy p.2 then 2 else 1
def Ot (l:List Yx):Nat:=(l.map Kn).sum
def Mq (l:List Yx)(q:Yp):Nat:=match (List.range l.length).find? (fun i=>decide ((l.getD i Yb).1=q)) with
 | some i=>i+1
 | none=>0
def rgA (l:List Yx)(i:Nat):Nat->Nat->Bool
 | 0,_=>false
 | f+1,k=>if (l.getD k Yb).1=(l.getD k Yb).2 then false else if Mq l (l.getD k Yb).2=i+1 then true else if Mq l (l.getD k Yb).2<=i then false else rgA l i f (Mq l (l.getD k Yb).2-1)
def Im (l:List Yx):Nat:=((List.range l.length).filter fun i=>rgA l i (l.length+1) i).length
structure Ml (l:List Yx)(t0 t1:Int):Prop where
 nd:(l.map (·.1)).Nodup
 to0:∀ p ∈ l,p.1≠(t0,0)∧p.1≠(t1,0)
 fr0:∀ p ∈ l,p.2≠(t0,0)∧p.2≠(t1,0)
 ne:t0≠t1
 c0:t0≠-1
 c1:t1≠-1
theorem Mw {α:Type}{l:List α}{i:Nat}(d:α)(h:i<l.length):l.getD i d=l[i]:=by simp [List.getD,h]
theorem Me {α:Type}{l:List α}{i:Nat}(d:α)(h:i<l.length):l.getD i d ∈ l:=by rw [Mw d h]; exact List.getElem_mem h
section
variable {l:List Yx} {t0 t1:Int}
theorem Ml.inj (h:Ml l t0 t1){i j:Nat}(hi:i<l.length)(hj:j<l.length)(e:(l.getD i Yb).1=(l.getD j Yb).1):i=j:=by
 rw [Mw _ hi,Mw _ hj] at e;have:=List.pairwise_iff_getElem.1 h.nd;rcases Nat.lt_trichotomy i j with hl | hl | hl
 ·exact absurd (by rw [List.getElem_map,List.getElem_map]; exact e) (this i j (by simpa using hi) (by simpa using hj) hl)
 ·exact hl
 ·exact absurd (by rw [List.getElem_map,List.getElem_map]; exact e.symm) (this j i (by simpa using hj) (by simpa using hi) hl)
theorem Ml.tgt (h:Ml l t0 t1){j:Nat}(hj:j<l.length):Mq l (l.getD j Yb).1=j+1:=by
 unfold Mq;cases hf:(List.range l.length).find? (fun i=>decide ((l.getD i Yb).1=(l.getD j Yb).1)) with
 | none=>have:=List.find?_eq_none.1 hf j (List.mem_range.2 hj);simp at this
 | some i=>have h1:=List.find?_some hf;have h2:=List.mem_range.1 (List.mem_of_find?_eq_some hf);have:=h.inj h2 hj (by simpa using h1);rw [this]
abbrev GZ:=List (Nat×Yp)
def Us (l:List Yx)(ol:GZ):List Yx:=ol.map fun z=>((l.getD z.1 Yb).1,z.2)
structure OI (l:List Yx)(t0 t1:Int)(ol:GZ)(rd:Yp->Int)(made:List Yx)(op:List Nat):Prop where
 srt:(ol.map (·.1)).Pairwise (·<·)
 lt:∀ z ∈ ol,z.1<l.length
 ne:∀ z ∈ ol,(l.getD z.1 Yb).1≠(l.getD z.1 Yb).2
 fr:∀ z ∈ ol,z.2=(l.getD z.1 Yb).2∨z.2=(t1,0)
 val:∀ z ∈ ol,exF made z.2=(l.getD z.1 Yb).2
 done:∀ i,i<l.length->i ∉ ol.map (·.1)->exF made (l.getD i Yb).1=(l.getD i Yb).2
 oth:∀ q,exF made q≠q->(∃ p ∈ l,p.1=q)∨q=(t0,0)∨q=(t1,0)
 two:∀ p ∈ made,¬ (p.1.1=-1∧p.2.1=-1)
 rd:∀ q,rd q=Ja (Us l ol) q
 opn:op.Nodup
 ops:∀ i ∈ op,i<l.length∧rgA l i (l.length+1) i=true
 opr:∀ i ∈ op,Ja (Us l ol) (l.getD i Yb).1=0
 len:made.length+(ol.map fun z=>Kn (l.getD z.1 Yb)).sum<=Ot l+op.length
theorem Zus (a b:GZ):Us l (a++b)=Us l a++Us l b:=by simp [Us]
theorem Zow (z:Nat×Yp)(b:GZ):Us l (z :: b)=((l.getD z.1 Yb).1,z.2) :: Us l b:=rfl
theorem Zzn (hO:Ml l t0 t1){a b:GZ}{z:Nat×Yp}{rd:Yp->Int}{made:List Yx}{op:List Nat}(h:OI l t0 t1 (a++z :: b) rd made op)(h0:¬ 0<rd (l.getD z.1 Yb).1):OI l t0 t1 (a++b) (Lx rd z.2 (-1)) (made++mvL t0 ((l.getD z.1 Yb).1,z.2)) op:=by
 have hz:z ∈ a++z :: b:=List.mem_append_right _ List.mem_cons_self;have hzl:=h.lt z hz;have hm:∀ y,y ∈ a++b->y ∈ a++z :: b:=fun y hy=>by
  rcases List.mem_append.1 hy with hy | hy
  ·exact List.mem_append_left _ hy
  ·exact List.mem_append_right _ (List.mem_cons_of_mem _ hy)
 have hp:=Me Yb hzl;have hT0:=hO.to0 _ hp;have hcnt:∀ q,Ja (Us l (a++z :: b)) q=Ja (Us l (a++b)) q+(if z.2=q then 1 else 0):=fun q=>by
  rw [Zus,Zus,Zbf,Zbf,Zow,Ch];simp only;omega
 have hno:Ja (Us l (a++b)) (l.getD z.1 Yb).1=0:=by have h1:=hcnt (l.getD z.1 Yb).1;have h2:=h.rd (l.getD z.1 Yb).1;have h3:=Zct (Us l (a++b)) (l.getD z.1 Yb).1;split at h1 <;> omega
 have hfr:∀ y ∈ a++b,y.2≠(l.getD z.1 Yb).1∧y.2≠(t0,0):=fun y hy=>by
  refine⟨fun e=>?_,fun e=>?_⟩
  ·have:0<Ja (Us l (a++b)) (l.getD z.1 Yb).1:=Ci.2 ⟨_,List.mem_map.2 ⟨y,hy,rfl⟩,e⟩;omega
  ·rcases h.fr y (hm y hy) with e1 | e1
   ·exact(hO.fr0 _ (Me Yb (h.lt y (hm y hy)))).1 (e1 ▸ e)
   ·rw [e1] at e;injection e with e _;exact hO.ne e.symm
 have hnz:z.1 ∉ (a++b).map (·.1):=fun hc=>by
  have hs:=h.srt;rw [List.map_append,List.map_cons,List.pairwise_append] at hs;obtain⟨-,h2,h3⟩:=hs;rw [List.map_append] at hc;rcases List.mem_append.1 hc with hc | hc
  ·have:=h3 _ hc z.1 List.mem_cons_self; omega
  ·have:=(List.pairwise_cons.1 h2).1 _ hc; omega
 refine⟨?_,fun y hy=>h.lt y (hm y hy),fun y hy=>h.ne y (hm y hy),fun y hy=>h.fr y (hm y hy),fun y hy=>?_,fun i hi hn=>?_,fun q hq=>?_,fun p hp=>?_,fun q=>?_,h.opn,h.ops,fun i hi=>?_,?_⟩
 ·refine h.srt.sublist ?_;rw [List.map_append,List.map_append,List.map_cons];exact List.Sublist.append_left (List.sublist_cons_self _ _) _
 ·rw [Zur,if_neg (hfr y hy).1,if_neg (fun x=>(hfr y hy).2 x.2)];exact h.val y (hm y hy)
 ·rw [Zur];by_cases e:i=z.1
  ·subst e;rw [if_pos rfl];exact h.val z hz
  ·have hi':=hO.to0 _ (Me Yb hi);rw [if_neg (fun e'=>e (hO.inj hi hzl e')),if_neg (fun x=>hi'.1 x.2)];refine h.done i hi (fun hc=>hn ?_);rw [List.map_append,List.map_cons] at hc;rw [List.map_append];rcases List.mem_append.1 hc with hc | hc
   ·exact List.mem_append_left _ hc
   ·rcases List.mem_cons.1 hc with hc | hc
    ·exact absurd hc e
    ·exact List.mem_append_right _ hc
 ·rw [Zur] at hq;by_cases e:q=(l.getD z.1 Yb).1
  ·exact Or.inl ⟨_,hp,e.symm⟩
  ·rw [if_neg e] at hq;by_cases e2:q=(t0,0)
   ·exact Or.inr (Or.inl e2)
   ·rw [if_neg (fun x=>e2 x.2)] at hq;exact h.oth q hq
 ·rcases List.mem_append.1 hp with hp | hp
  ·exact h.two p hp
  ·unfold mvL at hp;split at hp
   ·rcases List.mem_cons.1 hp with rfl | hp
    ·exact fun x=>hO.c0 x.1
    ·rw [List.mem_singleton.1 hp];exact fun x=>hO.c0 x.2
   ·rename_i hc;rw [List.mem_singleton.1 hp];exact fun x=>hc (by unfold Oy; rw [decide_eq_true x.1,decide_eq_true x.2]; rfl)
 ·unfold Lx;have h1:=hcnt q;have h2:=h.rd q;by_cases e:q=z.2
  ·rw [if_pos e];rw [if_pos e.symm] at h1;omega
  ·rw [if_neg e];rw [if_neg (fun x=>e x.symm)] at h1;omega
 ·have h1:=hcnt (l.getD i Yb).1;have h2:=h.opr i hi;have h3:=Zct (Us l (a++b)) (l.getD i Yb).1;split at h1 <;> omega
 ·have h1:=h.len;have h2:(mvL t0 ((l.getD z.1 Yb).1,z.2)).length<=Kn (l.getD z.1 Yb):=by
   unfold Kn mvL;rw [if_neg (h.ne z hz)];rcases h.fr z hz with e | e
   ·rw [e]; simp only; split <;> simp
   ·rw [e];have:Oy (t1,0)=false:=decide_eq_false hO.c1;simp only [this,Bool.and_false,Bool.false_eq_true,if_false];split <;> simp
  rw [List.map_append,List.sum_append,List.map_cons,List.sum_cons] at h1;rw [List.length_append,List.map_append,List.sum_append];omega
theorem Zgg (hO:Ml l t0 t1){op:List Nat}:∀(b a:GZ) (rd:Yp->Int) (made:List Yx),OI l t0 t1 (a++b) rd made op->∃ b' rd' made',(Us l b).foldl (mfS t0) (Us l a,rd,made)=(Us l (a++b'),rd',made')∧OI l t0 t1 (a++b') rd' made' op∧(b'.length<b.length∨b'=b∧rd'=rd∧made'=made∧∀ z ∈ b,0<rd (l.getD z.1 Yb).1)
 | [],a,rd,made,h=>⟨[],rd,made,by simp [Us],h,Or.inr ⟨rfl,rfl,rfl,fun z hz=>by cases hz⟩⟩
 | z :: b,a,rd,made,h=>by
  rw [Zow,List.foldl_cons];unfold mfS;by_cases hf:0<rd (l.getD z.1 Yb).1
  ·simp only [if_pos hf];have h1:OI l t0 t1 ((a++[z])++b) rd made op:=by simpa using h
   obtain⟨b',rd',made',e,h2,h3⟩:=Zgg hO b (a++[z]) rd made h1;refine⟨z :: b',rd',made',?_,by simpa using h2,?_⟩
   ·rw [show Us l a++[((l.getD z.1 Yb).1,z.2)]=Us l (a++[z]) by simp [Us]];unfold mfS at e;rw [e];simp
   ·rcases h3 with h3 | ⟨rfl,rfl,rfl,h4⟩
    ·exact Or.inl (by simpa using h3)
    ·exact Or.inr ⟨rfl,rfl,rfl,fun y hy=>by
      rcases List.mem_cons.1 hy with rfl | hy
      ·exact hf
      ·exact h4 y hy⟩
  ·simp only [if_neg hf];obtain⟨b',rd',made',e,h2,h3⟩:=Zgg hO b a _ _ (Zzn hO h hf);refine⟨b',rd',made',by unfold mfS at e; exact e,h2,Or.inl ?_⟩;rcases h3 with h3 | ⟨rfl,-⟩
   ·simp; omega
   ·simp
theorem Zzo (hO:Ml l t0 t1){ol:GZ}{rd:Yp->Int}{made:List Yx}{op:List Nat}(h:OI l t0 t1 ol rd made op)(hf:∀ z ∈ ol,0<rd (l.getD z.1 Yb).1):((ol.map fun z=>(l.getD z.1 Yb).1).Perm (ol.map (·.2)))∧(ol.map (·.2)).Nodup∧∀ z ∈ ol,z.2=(l.getD z.1 Yb).2:=by
 have hn:(ol.map fun z=>(l.getD z.1 Yb).1).Nodup:=by
  unfold List.Nodup;rw [List.pairwise_map];have:=h.srt;rw [List.pairwise_map] at this;exact this.imp_of_mem fun{a b} ha hb hab e=>by
   have:=hO.inj (h.lt a ha) (h.lt b hb) e;omega
 have hs:(ol.map fun z=>(l.getD z.1 Yb).1) ⊆ ol.map (·.2):=fun q hq=>by
  obtain⟨z,hz,rfl⟩:=List.mem_map.1 hq;have h1:=hf z hz;rw [h.rd] at h1;obtain⟨p,hp,e⟩:=Ci.1 h1;obtain⟨y,hy,rfl⟩:=List.mem_map.1 hp;exact List.mem_map.2 ⟨y,hy,e⟩
 have hp:=Zov _ _ hn hs (by simp);refine⟨hp,hp.nodup_iff.1 hn,fun z hz=>?_⟩;rcases h.fr z hz with e | e
 ·exact e
 ·have:z.2 ∈ ol.map fun z=>(l.getD z.1 Yb).1:=hp.mem_iff.2 (List.mem_map.2 ⟨z,hz,rfl⟩);obtain⟨y,hy,e2⟩:=List.mem_map.1 this;exact absurd (e2.trans e) (hO.to0 _ (Me Yb (h.lt y hy))).2
theorem Yfl {ol:GZ}(h:(ol.map (·.1)).Pairwise (·<·)){y z:Nat×Yp}(hy:y ∈ ol)(hz:z ∈ ol)(e:y.1=z.1):y=z:=by
 rw [List.pairwise_map] at h;obtain⟨i,hi,rfl⟩:=List.getElem_of_mem hy;obtain⟨j,hj,rfl⟩:=List.getElem_of_mem hz;have:=List.pairwise_iff_getElem.1 h;rcases Nat.lt_trichotomy i j with hl | hl | hl
 ·have:=this i j hi hj hl; omega
 ·subst hl; rfl
 ·have:=this j i hj hi hl; omega
theorem Zzp {ol:GZ}(h:(ol.map (·.2)).Nodup){y z:Nat×Yp}(hy:y ∈ ol)(hz:z ∈ ol)(e:y.2=z.2):y=z:=by
 unfold List.Nodup at h;rw [List.pairwise_map] at h;obtain⟨i,hi,rfl⟩:=List.getElem_of_mem hy;obtain⟨j,hj,rfl⟩:=List.getElem_of_mem hz;have:=List.pairwise_iff_getElem.1 h;rcases Nat.lt_trichotomy i j with hl | hl | hl
 ·exact absurd e (this i j hi hj hl)
 ·subst hl; rfl
 ·exact absurd e.symm (this j i hj hi hl)
theorem Zox (hO:Ml l t0 t1){ol:GZ}{i0:Nat}(hsr:(ol.map (·.1)).Pairwise (·<·))(hlt:∀ z ∈ ol,z.1<l.length)(hne:∀ z ∈ ol,(l.getD z.1 Yb).1≠(l.getD z.1 Yb).2)(hfr:∀ z ∈ ol,z.2=(l.getD z.1 Yb).2)(hnd:(ol.map (·.2)).Nodup)(hcl:∀ z ∈ ol,∃ y ∈ ol,(l.getD y.1 Yb).1=z.2)(hmin:∀ z ∈ ol,i0<=z.1):∀(f:Nat) (V:List Nat) (z:Nat×Yp),z ∈ ol->V.Nodup->(∀ v ∈ V,v<l.length)->z.1 ∉ V->f+V.length=l.length+1->(z.1=i0->V=[])->(∀ v ∈ z.1 :: V,v≠i0->∃ u ∈ ol,u.1 ∈ V∧Mq l (l.getD u.1 Yb).2=v+1)->rgA l i0 f z.1=true
 | 0,V,z,hz,hV,hVl,hzV,hf,_,_=>by
  have h1:(z.1 :: V).Nodup:=List.nodup_cons.2 ⟨hzV,hV⟩;have:=Zmn (z.1 :: V) (List.range l.length) h1 (fun v hv=>by
   rcases List.mem_cons.1 hv with rfl | hv
   ·exact List.mem_range.2 (hlt z hz)
   ·exact List.mem_range.2 (hVl v hv))
  simp at this;omega
 | f+1,V,z,hz,hV,hVl,hzV,hf,hz0,hpr=>by
  obtain⟨y,hy,e⟩:=hcl z hz;have hyl:=hlt y hy;have ht:Mq l (l.getD z.1 Yb).2=y.1+1:=by rw [← hfr z hz,← e,hO.tgt hyl]
  unfold rgA;rw [if_neg (hne z hz),ht];by_cases h0:y.1=i0
  ·rw [if_pos (by omega)]
  ·have hm:=hmin y hy;rw [if_neg (by omega),if_neg (by omega),Nat.add_sub_cancel];have hno:y.1 ∉ z.1 :: V:=fun hc=>by
    obtain⟨u,hu,huV,hut⟩:=hpr y.1 hc h0;have hul:=hlt u hu;obtain⟨x,hx,ex⟩:=hcl u hu;have hxt:Mq l (l.getD u.1 Yb).2=x.1+1:=by rw [← hfr u hu,← ex,hO.tgt (hlt x hx)]
    have hxy:x=y:=Yfl hsr hx hy (by omega);have:u=z:=Zzp hnd hu hz (by rw [← ex,← e,hxy]);exact hzV (this ▸ huV)
   refine Zox hO hsr hlt hne hfr hnd hcl hmin f (z.1 :: V) y hy (List.nodup_cons.2 ⟨hzV,hV⟩) (fun v hv=>?_) hno (by simp; omega) (fun h=>absurd h h0) (fun v hv hv0=>?_)
   ·rcases List.mem_cons.1 hv with rfl | hv
    ·exact hlt z hz
    ·exact hVl v hv
   ·rcases List.mem_cons.1 hv with rfl | hv
    ·exact⟨z,hz,List.mem_cons_self,ht⟩
    ·obtain⟨u,hu,huV,hut⟩:=hpr v hv hv0;exact⟨u,hu,List.mem_cons_of_mem _ huV,hut⟩
def rdZ (pl a:Yp)(z:Nat×Yp):Nat×Yp:=if z.2=pl then (z.1,a) else z
theorem Sn (pl a:Yp)(z:Nat×Yp):(rdZ pl a z).1=z.1:=by unfold rdZ; split <;> rfl
theorem Zut (pl a:Yp)(ol:GZ):(Us l ol).map (rgP pl a)=Us l (ol.map (rdZ pl a)):=by
 unfold Us;rw [List.map_map,List.map_map];apply List.map_congr_left
 intro z _;simp only [Function.comp,rgP,rdZ];split <;> rfl
theorem Zoy (pl a:Yp)(q:Yp):∀(L:List Yx) (rd:Yp->Int),L.foldl (rgR pl a) rd q=rd q+Ja (L.map (rgP pl a)) q-Ja L q
 | [],rd=>by simp [Zot]
 | p :: L,rd=>by
  rw [List.foldl_cons,Zoy pl a q L,List.map_cons,Ch,Ch];unfold rgR rgP Lx;by_cases h:p.2=pl
  ·have e1:(a=q)=(q=a):=propext ⟨Eq.symm,Eq.symm⟩;have e2:(pl=q)=(q=pl):=propext ⟨Eq.symm,Eq.symm⟩;simp only [h,↓reduceIte,e1,e2];repeat' split
   all_goals omega
  ·simp only [if_neg h];omega
theorem Zzq (hO:Ml l t0 t1){z0:Nat×Yp}{r:GZ}{rd:Yp->Int}{made:List Yx}{op:List Nat}(h:OI l t0 t1 (z0 :: r) rd made op)(hf:∀ z ∈ z0 :: r,0<rd (l.getD z.1 Yb).1) :
 OI l t0 t1 ((z0 :: r).map (rdZ (l.getD z0.1 Yb).1 (t1,0))) ((Us l (z0 :: r)).foldl (rgR (l.getD z0.1 Yb).1 (t1,0)) rd) (made++[((t1,0),(l.getD z0.1 Yb).1)]) (z0.1 :: op)∧Ja (Us l ((z0 :: r).map (rdZ (l.getD z0.1 Yb).1 (t1,0)))) (l.getD z0.1 Yb).1=0:=by
 obtain⟨hp,hnd,hcur⟩:=Zzo hO h hf;generalize hol:z0 :: r=ol at *;have hz0:z0 ∈ ol:=hol ▸ List.mem_cons_self;have hl0:=h.lt z0 hz0;have hT:=hO.to0 _ (Me Yb hl0);have hcl:∀ z ∈ ol,∃ y ∈ ol,(l.getD y.1 Yb).1=z.2:=fun z hz=>by
  have:z.2 ∈ ol.map fun z=>(l.getD z.1 Yb).1:=hp.mem_iff.2 (List.mem_map.2 ⟨z,hz,rfl⟩);obtain⟨y,hy,e⟩:=List.mem_map.1 this;exact⟨y,hy,e⟩
 have hmin:∀ z ∈ ol,z0.1<=z.1:=fun z hz=>by
  have hs:=h.srt;rw [← hol] at hs hz;rcases List.mem_cons.1 hz with rfl | hz
  ·exact Nat.le_refl _
  ·have:=(List.pairwise_cons.1 (by simpa using hs)).1 z.1 (List.mem_map.2 ⟨z,hz,rfl⟩);omega
 have hring:rgA l z0.1 (l.length+1) z0.1=true:=Zox hO h.srt h.lt h.ne hcur hnd hcl hmin (l.length+1) [] z0 hz0 List.nodup_nil (fun v hv=>(by cases hv)) (fun hv=>(by cases hv)) rfl (fun _=>rfl) (fun v hv hv0=>by
  rcases List.mem_cons.1 hv with rfl | hv
  ·exact absurd rfl hv0
  ·cases hv)
 have hna:∀ z ∈ ol,z.2≠(t1,0):=fun z hz e=>by
  obtain⟨y,hy,e2⟩:=hcl z hz;exact(hO.to0 _ (Me Yb (h.lt y hy))).2 (e2.trans e)
 have hmap:(ol.map (rdZ (l.getD z0.1 Yb).1 (t1,0))).map (·.1)=ol.map (·.1):=by
  rw [List.map_map];apply List.map_congr_left
  intro z _;exact Sn _ _ _
 have hc0:Ja (Us l (ol.map (rdZ (l.getD z0.1 Yb).1 (t1,0)))) (l.getD z0.1 Yb).1=0:=by
  have hn:¬ 0<Ja (Us l (ol.map (rdZ (l.getD z0.1 Yb).1 (t1,0)))) (l.getD z0.1 Yb).1:=fun hc=>by
   obtain⟨p,hp,e⟩:=Ci.1 hc;obtain⟨y,hy,rfl⟩:=List.mem_map.1 hp;obtain⟨x,hx,rfl⟩:=List.mem_map.1 hy;unfold rdZ at e;split at e
   ·exact hT.2 e.symm
   ·rename_i hx2;exact hx2 e
  have:=Zct (Us l (ol.map (rdZ (l.getD z0.1 Yb).1 (t1,0)))) (l.getD z0.1 Yb).1;omega
 refine⟨⟨?_,fun z hz=>?_,fun z hz=>?_,fun z hz=>?_,fun z hz=>?_,fun i hi hn=>?_,fun q hq=>?_,fun p hp=>?_,fun q=>?_,?_,fun i hi=>?_,fun i hi=>?_,?_⟩,hc0⟩
 ·rw [hmap]; exact h.srt
 ·obtain⟨x,hx,rfl⟩:=List.mem_map.1 hz;rw [Sn]; exact h.lt x hx
 ·obtain⟨x,hx,rfl⟩:=List.mem_map.1 hz;rw [Sn]; exact h.ne x hx
 ·obtain⟨x,hx,rfl⟩:=List.mem_map.1 hz;unfold rdZ;split
  ·exact Or.inr rfl
  ·exact h.fr x hx
 ·obtain⟨x,hx,rfl⟩:=List.mem_map.1 hz;rw [Sn,Ul];unfold rdZ;split
  ·rename_i e;rw [if_pos rfl,← e];exact h.val x hx
  ·rw [if_neg (hna x hx)];exact h.val x hx
 ·rw [hmap] at hn;rw [Ul,if_neg (hO.to0 _ (Me Yb hi)).2];exact h.done i hi hn
 ·rw [Ul] at hq;by_cases e:q=(t1,0)
  ·exact Or.inr (Or.inr e)
  ·rw [if_neg e] at hq;exact h.oth q hq
 ·rcases List.mem_append.1 hp with hp | hp
  ·exact h.two p hp
  ·rw [List.mem_singleton.1 hp];exact fun x=>hO.c1 x.1
 ·rw [Zoy,Zut,h.rd q];omega
 ·refine List.nodup_cons.2 ⟨fun hc=>?_,h.opn⟩;have h1:=h.opr _ hc;have h2:=hf z0 hz0;rw [h.rd] at h2;omega
 ·rcases List.mem_cons.1 hi with rfl | hi
  ·exact⟨hl0,hring⟩
  ·exact h.ops i hi
 ·rcases List.mem_cons.1 hi with rfl | hi
  ·exact hc0
  ·have h1:=h.opr i hi;have hn:¬ 0<Ja (Us l (ol.map (rdZ (l.getD z0.1 Yb).1 (t1,0)))) (l.getD i Yb).1:=fun hc=>by
    obtain⟨p,hp,e⟩:=Ci.1 hc;obtain⟨y,hy,rfl⟩:=List.mem_map.1 hp;obtain⟨x,hx,rfl⟩:=List.mem_map.1 hy;unfold rdZ at e;split at e
    ·exact(hO.to0 _ (Me Yb (h.ops i hi).1)).2 e.symm
    ·have:0<Ja (Us l ol) (l.getD i Yb).1:=Ci.2 ⟨_,List.mem_map.2 ⟨x,hx,rfl⟩,e⟩;omega
   have:=Zct (Us l (ol.map (rdZ (l.getD z0.1 Yb).1 (t1,0)))) (l.getD i Yb).1;omega
 ·have h1:=h.len;have e:(ol.map (rdZ (l.getD z0.1 Yb).1 (t1,0))).map (fun z=>Kn (l.getD z.1 Yb))=ol.map fun z=>Kn (l.getD z.1 Yb):=by
   rw [List.map_map];apply List.map_congr_left
   intro z _;simp only [Function.comp,Sn]
  rw [e,List.length_append];simp only [List.length_cons,List.length_nil];omega
def OrS (l:List Yx)(t0 t1:Int)(x:Dg):Prop:=∃ ol op,x.left=Us l ol∧OI l t0 t1 ol x.rd x.made op
theorem Zoz {f:Yx->Nat}:∀(l:List Yx),(∀ p ∈ l,p.1=p.2->f p=0)->(l.map f).sum=((l.filter fun p=>decide (p.1≠p.2)).map f).sum
 | [],_=>rfl
 | p :: l,h=>by
  have ih:=Zoz l (fun q hq=>h q (List.mem_cons_of_mem _ hq));by_cases e:p.1=p.2
  ·rw [List.map_cons,List.sum_cons,h p List.mem_cons_self e,ih,List.filter_cons_of_neg (by simpa using e)];omega
  ·rw [List.map_cons,List.sum_cons,ih,List.filter_cons_of_pos (by simpa using e)];simp
theorem Zuu {α:Type}(l:List α)(d:α):(List.range l.length).map (fun i=>l.getD i d)=l:=by
 apply List.ext_getElem
 ·simp
 ·intro i h1 h2;simp [List.getD,h2]
def ol0 (l:List Yx):GZ:=((List.range l.length).filter fun i=>decide ((l.getD i Yb).1≠(l.getD i Yb).2)).map fun i=>(i,(l.getD i Yb).2)
theorem Zmo:Us l (ol0 l)=l.filter fun p=>decide (p.1≠p.2):=by
 conv=>rhs; rw [← Zuu l Yb]
 rw [List.filter_map];unfold Us ol0;rw [List.map_map];rfl
theorem Zuv:OrS l t0 t1 (Jb l):=by
 refine⟨ol0 l,[],Zmo.symm,?_⟩;have hm:∀ z ∈ ol0 l,z.1<l.length∧(l.getD z.1 Yb).1≠(l.getD z.1 Yb).2∧z.2=(l.getD z.1 Yb).2:=fun z hz=>by
  obtain⟨i,hi,rfl⟩:=List.mem_map.1 hz;obtain⟨h1,h2⟩:=List.mem_filter.1 hi;exact⟨List.mem_range.1 h1,by simpa using h2,rfl⟩
 refine⟨?_,fun z hz=>(hm z hz).1,fun z hz=>(hm z hz).2.1,fun z hz=>Or.inl (hm z hz).2.2,fun z hz=>(hm z hz).2.2,fun i hi hn=>?_,fun q hq=>absurd rfl hq,fun p hp=>(by cases hp),fun q=>?_,List.nodup_nil,fun i hi=>(by cases hi),fun i hi=>(by cases hi),?_⟩
 ·unfold ol0;rw [List.map_map];exact((List.pairwise_lt_range).sublist (List.filter_sublist)).map _ (fun _ _ h=>h)
 ·by_cases e:(l.getD i Yb).1=(l.getD i Yb).2
  ·exact e
  ·refine absurd ?_ hn;rw [List.mem_map];exact⟨(i,(l.getD i Yb).2),List.mem_map.2 ⟨i,List.mem_filter.2 ⟨List.mem_range.2 hi,by simpa using e⟩,rfl⟩,rfl⟩
 ·rw [Zmo];rfl
 ·have e:(ol0 l).map (fun z=>Kn (l.getD z.1 Yb))=(l.filter fun p=>decide (p.1≠p.2)).map Kn:=by
   rw [← Zmo];unfold Us;rw [List.map_map];apply List.map_congr_left
   intro z hz;simp only [Function.comp];rw [(hm z hz).2.2]
  rw [e];unfold Ot;rw [Zoz l (fun p _ h=>by unfold Kn; rw [if_pos h])];simp [Jb]
def Zcu (x:Dg):Nat:=2*x.left.length+(if (x.left.any fun p=>decide (¬ 0<x.rd p.1))=true then 0 else 1)
theorem Zzr (hO:Ml l t0 t1){x:Dg}(h:OrS l t0 t1 x):OrS l t0 t1 (mfF t0 x)∧((mfF t0 x).left.length<x.left.length∨mfF t0 x=x∧∀ p ∈ x.left,0<x.rd p.1):=by
 obtain⟨ol,op,hl,hi⟩:=h;obtain⟨b',rd',made',e,h2,h3⟩:=Zgg hO ol [] x.rd x.made hi;have em:mfF t0 x=⟨Us l b',rd',made'⟩:=by unfold mfF Oz;rw [List.take_length,hl];rw [show(Us l ([]:GZ),x.rd,x.made)=(([]:List Yx),x.rd,x.made) from rfl,List.nil_append] at e;rw [e]
 refine⟨⟨b',op,by rw [em],by rw [em]; exact h2⟩,?_⟩;rw [em];rcases h3 with h3 | ⟨rfl,rfl,rfl,h4⟩
 ·left
  rw [hl];simpa [Us] using h3
 ·right
  refine⟨by rw [← hl],fun p hp=>?_⟩;rw [hl] at hp;obtain⟨z,hz,rfl⟩:=List.mem_map.1 hp;exact h4 z hz
theorem Zzs (hO:Ml l t0 t1){x:Dg}(h:OrS l t0 t1 x)(hf:∀ p ∈ x.left,0<x.rd p.1)(hn:x.left≠[]):OrS l t0 t1 (Nr t1 x)∧(Nr t1 x).left.length=x.left.length∧∃ p ∈ (Nr t1 x).left,¬ 0<(Nr t1 x).rd p.1:=by
 obtain⟨ol,op,hl,hi⟩:=h;cases ol with
 | nil=>exact absurd hl hn
 | cons z0 r =>
  have hr:=Zzq hO hi (fun z hz=>hf ((l.getD z.1 Yb).1,z.2) (by rw [hl]; exact List.mem_map.2 ⟨z,hz,rfl⟩));have eq0:x.left.getD 0 ((0,0),(0,0))=((l.getD z0.1 Yb).1,z0.2):=by rw [hl]; rfl
  have e1:(Nr t1 x).left=Us l ((z0 :: r).map (rdZ (l.getD z0.1 Yb).1 (t1,0))):=by unfold Nr Ur;simp only [eq0,List.take_length,List.drop_length,List.append_nil];rw [hl,Zut]
  have e2:(Nr t1 x).rd=(Us l (z0 :: r)).foldl (rgR (l.getD z0.1 Yb).1 (t1,0)) x.rd:=by unfold Nr Ur;simp only [eq0,List.take_length];rw [hl]
  have e3:(Nr t1 x).made=x.made++[((t1,0),(l.getD z0.1 Yb).1)]:=by unfold Nr;simp only [eq0]
  refine⟨⟨_,z0.1 :: op,e1,by rw [e2,e3]; exact hr.1⟩,by rw [e1,hl]; simp [Us],?_⟩;refine⟨((l.getD (rdZ (l.getD z0.1 Yb).1 (t1,0) z0).1 Yb).1,(rdZ (l.getD z0.1 Yb).1 (t1,0) z0).2),by rw [e1]; exact List.mem_cons_self,?_⟩;simp only [Sn];rw [e2,hr.1.rd,hr.2];omega
theorem Zuw (hO:Ml l t0 t1){x:Dg}(h:OrS l t0 t1 x)(hn:x.left≠[]):OrS l t0 t1 (Dz t0 t1 x)∧Zcu (Dz t0 t1 x)<Zcu x:=by
 obtain⟨h1,h2⟩:=Zzr hO h;unfold Dz;by_cases hl:(mfF t0 x).left.length<x.left.length
 ·rw [if_pos hl];refine⟨h1,?_⟩;unfold Zcu;split <;> split <;> omega
 ·rw [if_neg hl];rcases h2 with h2 | ⟨e,hf⟩
  ·exact absurd h2 hl
  ·rw [e];obtain⟨g1,g2,p,hp,g3⟩:=Zzs hO h hf hn;refine⟨g1,?_⟩;unfold Zcu;rw [if_pos (by rw [List.any_eq_true]; exact⟨p,hp,decide_eq_true g3⟩),if_neg (by rw [List.any_eq_true]; rintro⟨q,hq,hq2⟩; exact absurd (hf q hq) (of_decide_eq_true hq2)),g2];omega
theorem Ydn {x:Dg}(h:OrS l t0 t1 x)(hl:x.left=[]):(∀ p ∈ l,exF x.made p.1=p.2)∧(∀ q,exF x.made q≠q->(∃ p ∈ l,p.1=q)∨q=(t0,0)∨q=(t1,0))∧(∀ p ∈ x.made,¬ (p.1.1=-1∧p.2.1=-1))∧x.made.length<=Ot l+Im l:=by
 obtain⟨ol,op,e,hi⟩:=h;have hol:ol=[]:=by
  rw [hl] at e;cases ol with
  | nil=>rfl
  | cons z r=>cases e
 subst hol;refine⟨fun p hp=>?_,hi.oth,hi.two,?_⟩
 ·obtain⟨i,h1,rfl⟩:=List.getElem_of_mem hp;have:=hi.done i h1 (by simp);rw [Mw _ h1] at this;exact this
 ·have h1:=hi.len;have h2:=Zmn op ((List.range l.length).filter fun i=>rgA l i (l.length+1) i) hi.opn (fun i hi'=>List.mem_filter.2 ⟨List.mem_range.2 (hi.ops i hi').1,(hi.ops i hi').2⟩);unfold Im;simp at h1;omega
end
end Go.Proofs.YtkenknfgeoecbaaGreatDoor
