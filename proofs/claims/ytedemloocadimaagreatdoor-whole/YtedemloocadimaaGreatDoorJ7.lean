import Derived.Test.YtedemloocadimaaGreatDoorJ4
import Derived.Orders
import Derived.WalkSmall
import Derived.Laws.OwnMore
import Derived.Test.YtedemloocadimaaGreatDoorShelf
namespace Go.Proofs.YtedemloocadimaaGreatDoor
open Go.RowKit
theorem Zvx (p q:Nat→Bool)(i:Nat):∀ l:List Nat,i ∈ l→(∀ j,q j=true→p j=true)→p i=true→q i=false→l.countP q<l.countP p
 | [],hi,_,_,_=>by cases hi
 | x :: r,hi,hpq,hp,hq=>by
  have hm:r.countP q≤r.countP p:=List.countP_mono_left (fun j _ h=>hpq j h);by_cases hx:x=i
  ·
   subst hx; simp [hp,hq]; omega
  ·
   have hi':i ∈ r:=(List.mem_cons.1 hi).resolve_left (fun e=>hx e.symm);have ih:=Zvx p q i r hi' hpq hp hq;cases hqx:q x with
   | false=>simp [List.countP_cons,hqx]; omega
   | true=>simp [hqx,hpq x hqx]; omega
def unl (n:Nat)(L:Array Bool):Nat:=(List.range n).countP fun j=>!L.getD j true
theorem Zbi {P:Program}{md:Region.Mode}{ops:Array Oper}{Q:Exit→Act→World→Prop}(I:Array Bool→Act→World→Prop)
 (step:∀ L a w i,I L a w→i ∈ Region.ready md ops L→wpOp P ops Q i (fun a' w'=>I (L.setIfInBounds i true) a' w') a w)
 (fin:∀ L a w,I L a w→Region.ready md ops L=[]→Q .normal a w) :
 ∀(fuel:Nat) (L:Array Bool) (a:Act) (w:World),unl ops.size L≤fuel→I L a w→wpAny P md ops Q fuel L a w
 | 0,L,a,w,h,hI=>by
  have hr:Region.ready md ops L=[]:=by
   apply List.eq_nil_iff_forall_not_mem.2
   intro i hi;have h1:=(mem_ready.1 hi).1;have hlt:i<ops.size:=by
    obtain⟨_,o,ho,_⟩:=mem_ready.1 hi;exact(Array.getElem?_eq_some_iff.1 ho).1
   have h0:unl ops.size L=0:=by omega
   unfold unl at h0;have:=List.countP_eq_zero.1 h0 i (List.mem_range.2 hlt);rw [h1] at this;simp at this
  exact⟨hr,fin L a w hI hr⟩
 | fuel+1,L,a,w,h,hI=>by
  refine⟨fin L a w hI,fun i hi=>wpOp_mono (fun a' w' h'=>Zbi I step fin fuel _ a' w' ?_ h') (step L a w i hI hi)⟩;have h1:=(mem_ready.1 hi).1;have hlt:i<ops.size:=by
   obtain⟨_,o,ho,_⟩:=mem_ready.1 hi;exact(Array.getElem?_eq_some_iff.1 ho).1
  have hLs:i<L.size:=by
   rcases Nat.lt_or_ge i L.size with h' | h'
   ·
    exact h'
   ·
    simp [Array.getElem?_eq_none h'] at h1
  have:=Zvx (fun j=>!L.getD j true) (fun j=>!(L.setIfInBounds i true).getD j true) i (List.range ops.size) (List.mem_range.2 hlt)
   (fun j hj=>by
    by_cases hji:i=j
    ·
     subst hji; simp [hLs] at hj
    ·
     simpa [Array.getElem?_setIfInBounds,hji] using hj)
   (by simp only [h1]; rfl) (by simp [hLs])
  unfold unl at h ⊢;omega
theorem Cx (a:Act)(d:Nat)(v:Value)(h:d<a.tmps.size):(a.put (some d) v).eval (.tmp d)=v:=by
 simp [Act.put,Act.eval,h]
theorem Uk (a:Act)(d t:Nat)(v:Value)(h:d≠t):(a.put (some d) v).eval (.tmp t)=a.eval (.tmp t):=by
 simp [Act.put,Act.eval,h]
set_option maxHeartbeats 2000000
set_option maxRecDepth 100000
theorem Ze {p:Prop}(h:p):Hid p:=h
theorem Zb {p:Prop}(h:Hid p):p:=h
theorem Gv {P:Program}{t:TypeId}{z:Value}{n b:Nat}(h:(P.info? t).map (fun i=>(i.zero,i.size,i.bytes))=some (some z,n,b)):∃ i,P.info? t=some i∧i.zero=some z∧i.size=n∧i.bytes=b:=by
 obtain⟨i,hi,e⟩:=Option.map_eq_some_iff.1 h;simp only [Prod.mk.injEq] at e;exact⟨i,hi,e.1,e.2.1,e.2.2⟩
theorem Tryz.infoPc:(Tryz.prog.info? 227).map (fun i=>(i.zero,i.size,i.bytes))=some (some (.agg #[.int .i64 0,.int .i64 0,.int .i64 0]),3,24):=by kernel_rfl
def Jz (l:List Tk):List Value:=l.flatMap fun t=>[.int .i64 t.k,.int .i64 t.a,.int .i64 t.e]
theorem Uw (l:List Tk)(t:Tk):Jz (l++[t])=Jz l++[.int .i64 t.k,.int .i64 t.a,.int .i64 t.e]:=by simp [Jz]
theorem Nz:∀(l:List Tk),(Jz l).length=l.length*3
 | []=>rfl
 | t :: r=>by have:=Nz r; simp only [Jz,List.flatMap_cons,List.length_append,List.length_cons,List.length_nil] at this ⊢; omega
def Jf (w:World)(base:Nat)(v:Value)(l:List Tk):Prop:=w.ownsRow base 227 3 v l.length (Jz l)
theorem Jn {w w':World}{base:Nat}{row:Option Nat}(h:w.grownBy w' row)(hr:∀ k,row=some k→base≤k)(hb:base≤w.heap.size):Below base w w' :=
 ⟨h.os,h.tape,h.output,h.size,fun i hi=>h.block i (by omega) (fun e=>by have:=hr i e.symm; omega)⟩
theorem Jf.shape {w:World}{base:Nat}{v:Value}{l:List Tk}(h:Jf w base v l):(l=[]∧v=.slice none 0 0)∨∃ g cap,v=.slice (some ⟨g,0,none⟩) l.length cap:=by
 rcases h.2 with⟨h1,h2⟩ | ⟨g,cap,cur,h1,-⟩
 ·
  exact Or.inl ⟨List.eq_nil_of_length_eq_zero h2,h1⟩
 ·
  exact Or.inr ⟨g,cap,h1⟩
theorem Zkc (w:World)(k p q:Int):∀ j u,([.int .i64 k,.int .i64 p,.int .i64 q]:List Value)[j]?=some u→(w.alloc (.cells #[.int .i64 k,.int .i64 p,.int .i64 q] 227)).cell? ((⟨w.heap.size,0,none⟩:Addr).add j)=some u:=by
 intro j u hj;match j,hj with
 | 0,hj=>simp at hj; subst hj; simp [Addr.add]
 | 1,hj=>simp at hj; subst hj; simp [Addr.add]
 | 2,hj=>simp at hj; subst hj; simp [Addr.add]
theorem Zpi {w:World}{base g cap:Nat}{l:List Tk}{t:Tk}(h:Jf w base (.slice (some ⟨g,0,none⟩) (l.length+1) cap) (l++[t]))(j:Nat)(hj:j<3):w.cell? ⟨g,l.length*3+j,none⟩=([.int .i64 t.k,.int .i64 t.a,.int .i64 t.e]:List Value)[j]?:=by
 have h':w.ownsRow base 227 3 (.slice (some ⟨g,0,none⟩) (l.length+1) cap) (l.length+1) (Jz (l++[t])):=by simpa [Jf] using h
 rw [h'.cellAt (l.length*3+j) (by omega),Uw,List.getElem?_append_right (by rw [Nz]; omega),Nz,Nat.add_sub_cancel_left]
theorem Zbj {w:World}{base g cap:Nat}{l:List Tk}{t:Tk}(h:Jf w base (.slice (some ⟨g,0,none⟩) (l.length+1) cap) (l++[t])):w.cell? ⟨g,l.length*3,none⟩=some (.int .i64 t.k):=Zpi h 0 (by omega)
theorem Zbk {w:World}{base g cap:Nat}{l:List Tk}{t:Tk}(h:Jf w base (.slice (some ⟨g,0,none⟩) (l.length+1) cap) (l++[t])):w.cell? ⟨g,l.length*3+2,none⟩=some (.int .i64 t.e):=Zpi h 2 (by omega)
theorem Jf.frozenAt' {w:World}{base g cap:Nat}{l:List Tk}{t:Tk}(h:Jf w base (.slice (some ⟨g,0,none⟩) (l.length+1) cap) (l++[t]))(j:Nat):w.frozen? ⟨g,j,none⟩=false:=by
 have h':w.ownsRow base 227 3 (.slice (some ⟨g,0,none⟩) (l.length+1) cap) (l.length+1) (Jz (l++[t])):=by simpa [Jf] using h
 exact h'.frozenAt j
theorem Zkd {w:World}{base g cap:Nat}{l:List Tk}{t:Tk}(h:Jf w base (.slice (some ⟨g,0,none⟩) (l.length+1) cap) (l++[t]))(q:Nat):Jf (w.setCell ⟨g,l.length*3+2,none⟩ (.int .i64 q)) base (.slice (some ⟨g,0,none⟩) (l.length+1) cap) (l++[⟨t.k,t.a,q⟩]):=by
 have h':w.ownsRow base 227 3 (.slice (some ⟨g,0,none⟩) (l.length+1) cap) (l.length+1) (Jz (l++[t])):=by simpa [Jf] using h
 have h2:=(h'.stored (l.length*3+2) (.int .i64 q)).1;have e:(Jz (l++[t])).set (l.length*3+2) (.int .i64 q)=Jz (l++[⟨t.k,t.a,q⟩]):=by
  rw [Uw,Uw,List.set_append_right _ _ (by rw [Nz]; omega),Nz,Nat.add_sub_cancel_left];rfl
 rw [e] at h2;simpa [Jf] using h2
theorem Zdv {w:World}{base g cap:Nat}{l:List Tk}{t:Tk}(h:Jf w base (.slice (some ⟨g,0,none⟩) (l.length+1) cap) (l++[t]))(q:Nat)(hb:base≤w.heap.size):Below base w (w.setCell ⟨g,l.length*3+2,none⟩ (.int .i64 q)):=by
 have h':w.ownsRow base 227 3 (.slice (some ⟨g,0,none⟩) (l.length+1) cap) (l.length+1) (Jz (l++[t])):=by simpa [Jf] using h
 exact Jn (h'.stored (l.length*3+2) (.int .i64 q)).2 (fun k hk=>by have:=h'.lt g rfl; simp at hk; omega) hb
theorem Ul {w:World}{base:Nat}{v:Value}{l:List Tk}{k p n:Nat}(hn:l.length=n)(h:w.ownsRow base 227 3 v (n+1) (Jz l++[.int .i64 k,.int .i64 p,.int .i64 (p+1)])):Jf w base v (l++[⟨k,p,p+1⟩]):=by
 unfold Jf;rw [Uw];simpa [hn] using h
theorem Zhf (base:Nat)(a:Option Addr)(cap p:Nat)(w:World)(h:Jf w base (.slice a 0 cap) [])(hp:p≤400)(hb:base≤w.heap.size) :
 Calls Tryz.prog 104 #[.slice a 0 cap,.int .i64 3,.int .i64 p] w fun e w'=>∃ v',e=.returned v'∧Jf w' base v' [⟨3,p,p+1⟩]∧Below base w w':=by
 obtain⟨i0,hi,hz0,hz1,hz2⟩:=Gv Tryz.infoPc;have HH:=Ze h;clear h;go_enter Tryz.func104,Tryz.ntmps104
 go_wp2_with (at_builtin; refine wpList_append_own _ rfl _ _ 163 rfl base 227 i0 _ 3 24 Tryz.underlying163 hi hz0 hz1 hz2 rfl (by decide) _ _ _ rfl ((Zb HH).alloc _) ⟨w.heap.size,0,none⟩ 1 1 [.int .i64 3,.int .i64 p,.int .i64 (p+1)] rfl rfl (Zkc w 3 p (p+1)) (by intro u hu; simp at hu; rcases hu with rfl | rfl | rfl <;> rfl) ?c3 ?c4 ?c5 ?_)
 case c3=>first | (simp [maxLen]; done) | (unfold maxLen; omega) | (unfold maxLen; simp only [List.length_append,List.length_cons,List.length_nil]; omega)
 case c4=>first | (simp; done) | omega | (simp only [List.length_append,List.length_cons,List.length_nil]; omega)
 case c5=>simp; omega
 intro v' w' hown hgr _;have HR:=Ze (Ul (l:=[]) (k:=3) (p:=p) (by first | rfl | exact hn | exact hln) hown);have HG:=Ze (((Below.refl base w).alloc hb _).trans (Jn hgr (fun j hj=>((Zb HH).lt j hj).1) (by simp; omega):Below base _ w'));clear hown hgr;go_wp2;go_ret;exact⟨_,rfl,Zb HR,Zb HG⟩
theorem Zhg (base:Nat)(a:Option Addr)(cap p:Nat)(w:World)(h:Jf w base (.slice a 0 cap) [])(hp:p≤400)(hb:base≤w.heap.size) :
 Calls Tryz.prog 104 #[.slice a 0 cap,.int .i64 4,.int .i64 p] w fun e w'=>∃ v',e=.returned v'∧Jf w' base v' [⟨4,p,p+1⟩]∧Below base w w':=by
 obtain⟨i0,hi,hz0,hz1,hz2⟩:=Gv Tryz.infoPc;have HH:=Ze h;clear h;go_enter Tryz.func104,Tryz.ntmps104
 go_wp2_with (at_builtin; refine wpList_append_own _ rfl _ _ 163 rfl base 227 i0 _ 3 24 Tryz.underlying163 hi hz0 hz1 hz2 rfl (by decide) _ _ _ rfl ((Zb HH).alloc _) ⟨w.heap.size,0,none⟩ 1 1 [.int .i64 4,.int .i64 p,.int .i64 (p+1)] rfl rfl (Zkc w 4 p (p+1)) (by intro u hu; simp at hu; rcases hu with rfl | rfl | rfl <;> rfl) ?c3 ?c4 ?c5 ?_)
 case c3=>first | (simp [maxLen]; done) | (unfold maxLen; omega) | (unfold maxLen; simp only [List.length_append,List.length_cons,List.length_nil]; omega)
 case c4=>first | (simp; done) | omega | (simp only [List.length_append,List.length_cons,List.length_nil]; omega)
 case c5=>simp; omega
 intro v' w' hown hgr _;have HR:=Ze (Ul (l:=[]) (k:=4) (p:=p) (by first | rfl | exact hn | exact hln) hown);have HG:=Ze (((Below.refl base w).alloc hb _).trans (Jn hgr (fun j hj=>((Zb HH).lt j hj).1) (by simp; omega):Below base _ w'));clear hown hgr;go_wp2;go_ret;exact⟨_,rfl,Zb HR,Zb HG⟩
theorem Znk (base g cap p:Nat)(l:List Tk)(t:Tk)(w:World)(h:Jf w base (.slice (some ⟨g,0,none⟩) (l.length+1) cap) (l++[t]))(hl:l.length≤400)(hp:p≤400)(hb:base≤w.heap.size)(hk:(t.k:Int)≠3) :
 Calls Tryz.prog 104 #[.slice (some ⟨g,0,none⟩) (l.length+1) cap,.int .i64 3,.int .i64 p] w fun e w'=>∃ v',e=.returned v'∧Jf w' base v' (l++[t]++[⟨3,p,p+1⟩])∧Below base w w':=by
 obtain⟨i0,hi,hz0,hz1,hz2⟩:=Gv Tryz.infoPc;have ck:=Zbj h;have ce:=Zbk h;have hln:(l++[t]).length=l.length+1:=by simp
 have HH:=Ze h;clear h;generalize t.e=te at *;generalize hn:l.length=n at *;go_enter Tryz.func104,Tryz.ntmps104
 go_wp2_with (at_builtin; refine wpList_append_own _ rfl _ _ 163 rfl base 227 i0 _ 3 24 Tryz.underlying163 hi hz0 hz1 hz2 rfl (by decide) _ _ _ rfl ((Zb HH).alloc _) ⟨w.heap.size,0,none⟩ 1 1 [.int .i64 3,.int .i64 p,.int .i64 (p+1)] rfl rfl (Zkc w 3 p (p+1)) (by intro u hu; simp at hu; rcases hu with rfl | rfl | rfl <;> rfl) ?c3 ?c4 ?c5 ?_)
 case c3=>first | (simp [maxLen]; done) | (unfold maxLen; omega) | (unfold maxLen; simp only [List.length_append,List.length_cons,List.length_nil]; omega)
 case c4=>first | (simp; done) | omega | (simp only [List.length_append,List.length_cons,List.length_nil]; omega)
 case c5=>simp; omega
 intro v' w' hown hgr _;have HR:=Ze (Ul (l:=l++[t]) (k:=3) (p:=p) (by first | rfl | exact hn | exact hln) hown);have HG:=Ze (((Below.refl base w).alloc hb _).trans (Jn hgr (fun j hj=>((Zb HH).lt j hj).1) (by simp; omega):Below base _ w'));clear hown hgr;go_wp2;go_ret;exact⟨_,rfl,Zb HR,Zb HG⟩
theorem Znl (base g cap p:Nat)(l:List Tk)(t:Tk)(w:World)(h:Jf w base (.slice (some ⟨g,0,none⟩) (l.length+1) cap) (l++[t]))(hl:l.length≤400)(hp:p≤400)(hb:base≤w.heap.size)(hk:t.k=3)(he:(t.e:Int)≠p) :
 Calls Tryz.prog 104 #[.slice (some ⟨g,0,none⟩) (l.length+1) cap,.int .i64 3,.int .i64 p] w fun e w'=>∃ v',e=.returned v'∧Jf w' base v' (l++[t]++[⟨3,p,p+1⟩])∧Below base w w':=by
 obtain⟨i0,hi,hz0,hz1,hz2⟩:=Gv Tryz.infoPc;have ck:=Zbj h;have ce:=Zbk h;have hln:(l++[t]).length=l.length+1:=by simp
 have HH:=Ze h;clear h;rw [hk] at ck;generalize t.e=te at *;generalize hn:l.length=n at *;go_enter Tryz.func104,Tryz.ntmps104
 go_wp2_with (at_builtin; refine wpList_append_own _ rfl _ _ 163 rfl base 227 i0 _ 3 24 Tryz.underlying163 hi hz0 hz1 hz2 rfl (by decide) _ _ _ rfl ((Zb HH).alloc _) ⟨w.heap.size,0,none⟩ 1 1 [.int .i64 3,.int .i64 p,.int .i64 (p+1)] rfl rfl (Zkc w 3 p (p+1)) (by intro u hu; simp at hu; rcases hu with rfl | rfl | rfl <;> rfl) ?c3 ?c4 ?c5 ?_)
 case c3=>first | (simp [maxLen]; done) | (unfold maxLen; omega) | (unfold maxLen; simp only [List.length_append,List.length_cons,List.length_nil]; omega)
 case c4=>first | (simp; done) | omega | (simp only [List.length_append,List.length_cons,List.length_nil]; omega)
 case c5=>simp; omega
 intro v' w' hown hgr _;have HR:=Ze (Ul (l:=l++[t]) (k:=3) (p:=p) (by first | rfl | exact hn | exact hln) hown);have HG:=Ze (((Below.refl base w).alloc hb _).trans (Jn hgr (fun j hj=>((Zb HH).lt j hj).1) (by simp; omega):Below base _ w'));clear hown hgr;go_wp2;go_ret;exact⟨_,rfl,Zb HR,Zb HG⟩
theorem Zke (base g cap p:Nat)(l:List Tk)(t:Tk)(w:World)(h:Jf w base (.slice (some ⟨g,0,none⟩) (l.length+1) cap) (l++[t]))(hl:l.length≤400)(hp:p≤400)(hb:base≤w.heap.size)(hk:t.k=3)(he:t.e=p) :
 Calls Tryz.prog 104 #[.slice (some ⟨g,0,none⟩) (l.length+1) cap,.int .i64 3,.int .i64 p] w fun e w'=>∃ v',e=.returned v'∧Jf w' base v' (l++[⟨t.k,t.a,p+1⟩])∧Below base w w':=by
 have ck:=Zbj h;have ce:=Zbk h;have hfz:=h.frozenAt' (l.length*3+2);have HR:=Ze (Zkd h (p+1));have HG:=Ze (Zdv h (p+1) hb);clear h;rw [hk] at ck;rw [he] at ce;generalize hn:l.length=n at *;go_enter Tryz.func104,Tryz.ntmps104
 go_wp2;go_ret;exact⟨_,rfl,Zb HR,Zb HG⟩
theorem Znm (base g cap p:Nat)(l:List Tk)(t:Tk)(w:World)(h:Jf w base (.slice (some ⟨g,0,none⟩) (l.length+1) cap) (l++[t]))(hl:l.length≤400)(hp:p≤400)(hb:base≤w.heap.size)(hk:(t.k:Int)≠4) :
 Calls Tryz.prog 104 #[.slice (some ⟨g,0,none⟩) (l.length+1) cap,.int .i64 4,.int .i64 p] w fun e w'=>∃ v',e=.returned v'∧Jf w' base v' (l++[t]++[⟨4,p,p+1⟩])∧Below base w w':=by
 obtain⟨i0,hi,hz0,hz1,hz2⟩:=Gv Tryz.infoPc;have ck:=Zbj h;have ce:=Zbk h;have hln:(l++[t]).length=l.length+1:=by simp
 have HH:=Ze h;clear h;generalize t.e=te at *;generalize hn:l.length=n at *;go_enter Tryz.func104,Tryz.ntmps104
 go_wp2_with (at_builtin; refine wpList_append_own _ rfl _ _ 163 rfl base 227 i0 _ 3 24 Tryz.underlying163 hi hz0 hz1 hz2 rfl (by decide) _ _ _ rfl ((Zb HH).alloc _) ⟨w.heap.size,0,none⟩ 1 1 [.int .i64 4,.int .i64 p,.int .i64 (p+1)] rfl rfl (Zkc w 4 p (p+1)) (by intro u hu; simp at hu; rcases hu with rfl | rfl | rfl <;> rfl) ?c3 ?c4 ?c5 ?_)
 case c3=>first | (simp [maxLen]; done) | (unfold maxLen; omega) | (unfold maxLen; simp only [List.length_append,List.length_cons,List.length_nil]; omega)
 case c4=>first | (simp; done) | omega | (simp only [List.length_append,List.length_cons,List.length_nil]; omega)
 case c5=>simp; omega
 intro v' w' hown hgr _;have HR:=Ze (Ul (l:=l++[t]) (k:=4) (p:=p) (by first | rfl | exact hn | exact hln) hown);have HG:=Ze (((Below.refl base w).alloc hb _).trans (Jn hgr (fun j hj=>((Zb HH).lt j hj).1) (by simp; omega):Below base _ w'));clear hown hgr;go_wp2;go_ret;exact⟨_,rfl,Zb HR,Zb HG⟩
theorem Znn (base g cap p:Nat)(l:List Tk)(t:Tk)(w:World)(h:Jf w base (.slice (some ⟨g,0,none⟩) (l.length+1) cap) (l++[t]))(hl:l.length≤400)(hp:p≤400)(hb:base≤w.heap.size)(hk:t.k=4)(he:(t.e:Int)≠p) :
 Calls Tryz.prog 104 #[.slice (some ⟨g,0,none⟩) (l.length+1) cap,.int .i64 4,.int .i64 p] w fun e w'=>∃ v',e=.returned v'∧Jf w' base v' (l++[t]++[⟨4,p,p+1⟩])∧Below base w w':=by
 obtain⟨i0,hi,hz0,hz1,hz2⟩:=Gv Tryz.infoPc;have ck:=Zbj h;have ce:=Zbk h;have hln:(l++[t]).length=l.length+1:=by simp
 have HH:=Ze h;clear h;rw [hk] at ck;generalize t.e=te at *;generalize hn:l.length=n at *;go_enter Tryz.func104,Tryz.ntmps104
 go_wp2_with (at_builtin; refine wpList_append_own _ rfl _ _ 163 rfl base 227 i0 _ 3 24 Tryz.underlying163 hi hz0 hz1 hz2 rfl (by decide) _ _ _ rfl ((Zb HH).alloc _) ⟨w.heap.size,0,none⟩ 1 1 [.int .i64 4,.int .i64 p,.int .i64 (p+1)] rfl rfl (Zkc w 4 p (p+1)) (by intro u hu; simp at hu; rcases hu with rfl | rfl | rfl <;> rfl) ?c3 ?c4 ?c5 ?_)
 case c3=>first | (simp [maxLen]; done) | (unfold maxLen; omega) | (unfold maxLen; simp only [List.length_append,List.length_cons,List.length_nil]; omega)
 case c4=>first | (simp; done) | omega | (simp only [List.length_append,List.length_cons,List.length_nil]; omega)
 case c5=>simp; omega
 intro v' w' hown hgr _;have HR:=Ze (Ul (l:=l++[t]) (k:=4) (p:=p) (by first | rfl | exact hn | exact hln) hown);have HG:=Ze (((Below.refl base w).alloc hb _).trans (Jn hgr (fun j hj=>((Zb HH).lt j hj).1) (by simp; omega):Below base _ w'));clear hown hgr;go_wp2;go_ret;exact⟨_,rfl,Zb HR,Zb HG⟩
theorem Zkf (base g cap p:Nat)(l:List Tk)(t:Tk)(w:World)(h:Jf w base (.slice (some ⟨g,0,none⟩) (l.length+1) cap) (l++[t]))(hl:l.length≤400)(hp:p≤400)(hb:base≤w.heap.size)(hk:t.k=4)(he:t.e=p) :
 Calls Tryz.prog 104 #[.slice (some ⟨g,0,none⟩) (l.length+1) cap,.int .i64 4,.int .i64 p] w fun e w'=>∃ v',e=.returned v'∧Jf w' base v' (l++[⟨t.k,t.a,p+1⟩])∧Below base w w':=by
 have ck:=Zbj h;have ce:=Zbk h;have hfz:=h.frozenAt' (l.length*3+2);have HR:=Ze (Zkd h (p+1));have HG:=Ze (Zdv h (p+1) hb);clear h;rw [hk] at ck;rw [he] at ce;generalize hn:l.length=n at *;go_enter Tryz.func104,Tryz.ntmps104
 go_wp2;go_ret;exact⟨_,rfl,Zb HR,Zb HG⟩
theorem Zhh (base n cap p:Nat)(a:Option Addr)(l:List Tk)(w:World)(h:Jf w base (.slice a n cap) l)(hn:l.length=n)(hl:n≤401)(hp:p≤400)(hb:base≤w.heap.size) :
 Calls Tryz.prog 104 #[.slice a n cap,.int .i64 5,.int .i64 p] w fun e w'=>∃ v',e=.returned v'∧Jf w' base v' (l++[⟨5,p,p+1⟩])∧Below base w w':=by
 obtain⟨i0,hi,hz0,hz1,hz2⟩:=Gv Tryz.infoPc;have HH:=Ze h;clear h;go_enter Tryz.func104,Tryz.ntmps104
 go_wp2_with (at_builtin; refine wpList_append_own _ rfl _ _ 163 rfl base 227 i0 _ 3 24 Tryz.underlying163 hi hz0 hz1 hz2 rfl (by decide) _ _ _ rfl ((Zb HH).alloc _) ⟨w.heap.size,0,none⟩ 1 1 [.int .i64 5,.int .i64 p,.int .i64 (p+1)] rfl rfl (Zkc w 5 p (p+1)) (by intro u hu; simp at hu; rcases hu with rfl | rfl | rfl <;> rfl) ?c3 ?c4 ?c5 ?_)
 case c3=>first | (simp [maxLen]; done) | (unfold maxLen; omega) | (unfold maxLen; simp only [List.length_append,List.length_cons,List.length_nil]; omega)
 case c4=>first | (simp; done) | omega | (simp only [List.length_append,List.length_cons,List.length_nil]; omega)
 case c5=>simp; omega
 intro v' w' hown hgr _;have HR:=Ze (Ul (l:=l) (k:=5) (p:=p) (by first | rfl | exact hn | exact hln) hown);have HG:=Ze (((Below.refl base w).alloc hb _).trans (Jn hgr (fun j hj=>((Zb HH).lt j hj).1) (by simp; omega):Below base _ w'));clear hown hgr;go_wp2;go_ret;exact⟨_,rfl,Zb HR,Zb HG⟩
theorem Zhi (base n cap p:Nat)(a:Option Addr)(l:List Tk)(w:World)(h:Jf w base (.slice a n cap) l)(hn:l.length=n)(hl:n≤401)(hp:p≤400)(hb:base≤w.heap.size) :
 Calls Tryz.prog 104 #[.slice a n cap,.int .i64 6,.int .i64 p] w fun e w'=>∃ v',e=.returned v'∧Jf w' base v' (l++[⟨6,p,p+1⟩])∧Below base w w':=by
 obtain⟨i0,hi,hz0,hz1,hz2⟩:=Gv Tryz.infoPc;have HH:=Ze h;clear h;go_enter Tryz.func104,Tryz.ntmps104
 go_wp2_with (at_builtin; refine wpList_append_own _ rfl _ _ 163 rfl base 227 i0 _ 3 24 Tryz.underlying163 hi hz0 hz1 hz2 rfl (by decide) _ _ _ rfl ((Zb HH).alloc _) ⟨w.heap.size,0,none⟩ 1 1 [.int .i64 6,.int .i64 p,.int .i64 (p+1)] rfl rfl (Zkc w 6 p (p+1)) (by intro u hu; simp at hu; rcases hu with rfl | rfl | rfl <;> rfl) ?c3 ?c4 ?c5 ?_)
 case c3=>first | (simp [maxLen]; done) | (unfold maxLen; omega) | (unfold maxLen; simp only [List.length_append,List.length_cons,List.length_nil]; omega)
 case c4=>first | (simp; done) | omega | (simp only [List.length_append,List.length_cons,List.length_nil]; omega)
 case c5=>simp; omega
 intro v' w' hown hgr _;have HR:=Ze (Ul (l:=l) (k:=6) (p:=p) (by first | rfl | exact hn | exact hln) hown);have HG:=Ze (((Below.refl base w).alloc hb _).trans (Jn hgr (fun j hj=>((Zb HH).lt j hj).1) (by simp; omega):Below base _ w'));clear hown hgr;go_wp2;go_ret;exact⟨_,rfl,Zb HR,Zb HG⟩
set_option maxHeartbeats 1000000
set_option maxRecDepth 100000
theorem Zpj {α:Type}:∀(l:List α),l=[]∨∃ l0 t,l=l0++[t]
 | []=>Or.inl rfl
 | a :: r=>Or.inr ⟨(a :: r).dropLast,(a :: r).getLast (by simp),(List.dropLast_concat_getLast (by simp)).symm⟩
theorem Zsc (base:Nat)(l:List Tk)(v:Value)(k p:Nat)(w:World)(h:Jf w base v l)(hl:l.length≤400)(hp:p≤400)(hb:base≤w.heap.size)(hk:3≤k∧k≤6) :
 Calls Tryz.prog 104 #[v,.int .i64 k,.int .i64 p] w fun e w'=>∃ v',e=.returned v'∧Jf w' base v' (Se l k p)∧Below base w w':=by
 by_cases h56:k=5∨k=6
 ·
  have hs:∃ a cap,v=.slice a l.length cap:=by
   rcases h.shape with⟨e,rfl⟩ | ⟨g,cap,rfl⟩
   ·
    subst e; exact⟨_,_,rfl⟩
   ·
    exact⟨_,_,rfl⟩
  obtain⟨a,cap,rfl⟩:=hs;have e:Se l k p=l++[⟨k,p,p+1⟩]:=Zal l k p (fun t _ h3=>by omega);rw [e];rcases h56 with rfl | rfl
  ·
   exact Zhh base _ cap p a l w h rfl (by omega) hp hb
  ·
   exact Zhi base _ cap p a l w h rfl (by omega) hp hb
 have h34:k=3∨k=4:=by omega
 rcases Zpj l with rfl | ⟨l0,t,rfl⟩
 ·
  have hs:∃ a cap,v=.slice a 0 cap:=by
   rcases h.shape with⟨e,rfl⟩ | ⟨g,cap,rfl⟩
   ·
    exact⟨_,_,rfl⟩
   ·
    exact⟨_,_,rfl⟩
  obtain⟨a,cap,rfl⟩:=hs;rcases h34 with rfl | rfl
  ·
   exact Zhf base a cap p w h hp hb
  ·
   exact Zhg base a cap p w h hp hb
 ·
  obtain⟨g,cap,rfl⟩:∃ g cap,v=.slice (some ⟨g,0,none⟩) (l0.length+1) cap:=by
   rcases h.shape with⟨e,_⟩ | ⟨g,cap,e⟩
   ·
    simp at e
   ·
    exact⟨g,cap,by simpa using e⟩
  have hl0:l0.length≤400:=by simp at hl; omega
  by_cases c1:t.k=k
  ·
   by_cases c2:t.e=p
   ·
    have e:Se (l0++[t]) k p=l0++[⟨t.k,t.a,p+1⟩]:=by simp [Se,c1,c2,h34]
    rw [e];rcases h34 with rfl | rfl
    ·
     exact Zke base g cap p l0 t w h hl0 hp hb c1 c2
    ·
     exact Zkf base g cap p l0 t w h hl0 hp hb c1 c2
   ·
    have e:Se (l0++[t]) k p=l0++[t]++[⟨k,p,p+1⟩]:=by simp [Se,c2]
    rw [e];rcases h34 with rfl | rfl
    ·
     exact Znl base g cap p l0 t w h hl0 hp hb c1 (by omega)
    ·
     exact Znn base g cap p l0 t w h hl0 hp hb c1 (by omega)
  ·
   have e:Se (l0++[t]) k p=l0++[t]++[⟨k,p,p+1⟩]:=by simp [Se,c1]
   rw [e];rcases h34 with rfl | rfl
   ·
    exact Znk base g cap p l0 t w h hl0 hp hb (by omega)
   ·
    exact Znm base g cap p l0 t w h hl0 hp hb (by omega)
theorem Zkg (l:List Tk)(k p:Nat):(Se l k p).length≤l.length+1:=by
 unfold Se;split
 ·
  split
  ·
   simp
  ·
   simp
 ·
  simp
theorem Zvz (s:ByteArray)(i:Nat)(h:s.size≤i):s.get! i=0:=by
 obtain⟨d⟩:=s;have h':d.size≤i:=h;simp [ByteArray.get!,show ¬ i<d.size by omega];rfl
theorem Zkh (s:ByteArray)(p k:Nat)(hp:p≤s.size):(s.extract p s.size).get! k=s.get! (p+k):=by
 by_cases h:p+k<s.size
 ·
  rw [Utf8W.get!_of_lt _ _ (by simp; omega),Utf8W.get!_of_lt _ _ h];simp [ByteArray.getElem_extract]
 ·
  have h1:¬ k<(s.extract p s.size).size:=by simp; omega
  have e1:=Zvz (s.extract p s.size) k (by omega);have e2:=Zvz s (p+k) (by omega);rw [e1,e2]
theorem Zki (s:ByteArray)(p:Nat)(hp:p<s.size):Lib.decodeGo (s.extract p s.size)=Utf8.decode s p:=by
 unfold Lib.decodeGo;rw [if_neg (by simp; omega),Lib.decode_at,Lib.decode_at];simp only [Zkh s p _ (by omega)];simp
theorem Zwa (s:ByteArray)(w:World)(hs:0<s.size)(hT:Lib.Utf8Tabs 3 4 w) :
 Calls Tryz.prog 157 #[.string s] w fun e w'=>e=.returned (.tuple #[.int .i32 (Lib.decodeGo s).1,.int .i64 (Lib.decodeGo s).2])∧Below w.heap.size w w':=by
 have HC:=Ze (Tryz.utf8_decodeRuneInStringSlow s w hT);clear hT;have hne:s.toList.isEmpty=false:=by
  rw [Lib.toList_data];cases h:s.data.toList with
  | nil=>exact absurd hs (by rw [Lib.size_eq,h]; simp)
  | cons _ _=>rfl
 obtain⟨x0,hx0⟩:∃ x0,s.get! 0=x0:=⟨_,rfl⟩;have hs0:s[0]'hs=x0:=by rw [← hx0]; exact(Utf8W.get!_of_lt s 0 hs).symm
 have hz0:(0:Int)<(s.size:Int):=by omega
 by_cases ha:x0.toNat<128
 ·
  have hd:Lib.decodeGo s=(x0.toNat,1):=by
   simp only [Lib.decodeGo,show s.size≠0 by omega,if_false];rw [Lib.decode_at,hx0];simp [Lib.decodeN,ha]
  rw [hd];clear HC;have haz:(x0.toNat:Int)<128:=by omega
  go_enter Tryz.func157,Tryz.ntmps157
  go_wp2;go_ret2;exact⟨rfl,Below.refl _ _⟩
 ·
  have haz:¬ ((x0.toNat:Int)<128):=by omega
  generalize (Lib.decodeGo s).1=R at HC;generalize (Lib.decodeGo s).2=K at HC;go_enter Tryz.func157,Tryz.ntmps157
  go_wp2_with fail
  refine(Zb HC).mono ?_;rintro e w' ⟨rfl,hb⟩;have HB:=Ze hb;clear hb;go_wp2;go_ret2;exact⟨rfl,Zb HB⟩
theorem Zno (s:ByteArray)(r:Nat)(w:World)(hs:0<s.size)(hT:Lib.Utf8Tabs 3 4 w) :
 Calls Tryz.prog 102 #[.string s,.int .i32 r] w fun e w'=>e=.returned (.bool (decide (r=65533∧(Lib.decodeGo s).2=1)))∧Below w.heap.size w w':=by
 by_cases h:r=65533
 ·
  have HC:=Ze (Zwa s w hs hT);clear hT;subst h;go_enter Tryz.func102,Tryz.ntmps102
  go_wp2_with fail
  refine(Zb HC).mono ?_;rintro e w' ⟨rfl,hb⟩;have HB:=Ze hb;clear hb;go_wp2;go_ret;refine⟨?_,Zb HB⟩;simp
  first | done | omega | (rw [Bool.eq_iff_iff]; simp; omega)
 ·
  have h':(r:Int)≠65533:=by omega
  go_enter Tryz.func102,Tryz.ntmps102
  go_wp2;go_ret;exact⟨by simp [h],Below.refl _ _⟩
def Rs (w:World)(v:Value)(ns:List Int):Prop:=(ns=[]∧∃ p cap,v=.slice p 0 cap)∨∃ sb so cap,v=.slice (some ⟨sb,so,none⟩) ns.length cap∧∀ i,i<ns.length→w.cell? ⟨sb,so+i,none⟩=some (.int .i64 (ns.getD i 0))
theorem Rs.below {w w':World}{v:Value}{ns:List Int}(h:Rs w v ns)(hb:Below w.heap.size w w'):Rs w' v ns:=by
 rcases h with h | ⟨sb,so,cap,e,hc⟩
 ·
  exact Or.inl h
 ·
  exact Or.inr ⟨sb,so,cap,e,fun i hi=>(hb.cell (p:=⟨sb,so+i,none⟩) (ltc (hc i hi))).trans (hc i hi)⟩
def Yho (r sp lk t0 t1:Int)(ag rs ss:List Int)(al sh by_:Int)(k:Nat):List Int:=[[r],[sp],[lk],[t0,t1],ag,rs,ss,[al],[sh],[by_]].getD k []
def pre (r sp lk t0 t1:Int)(ag rs ss:List Int)(al sh by_:Int):Nat→List UInt8
 | 0=>[]
 | k+1=>pre r sp lk t0 t1 ag rs ss al sh by_ k++Yh k (Yho r sp lk t0 t1 ag rs ss al sh by_ k)
theorem Rs.get {w:World}{v:Value}{ns:List Int}(h:Rs w v ns)(hn:ns≠[]):∃ sb so cap,v=.slice (some ⟨sb,so,none⟩) ns.length cap∧∀ i,i<ns.length→w.cell? ⟨sb,so+i,none⟩=some (.int .i64 (ns.getD i 0)):=by
 rcases h with⟨e,_⟩ | h
 ·
  exact absurd e hn
 ·
  exact h
set_option maxHeartbeats 1000000
set_option maxRecDepth 100000
theorem Dt (ns:List Int)(x:Int)(v:Value)(w:World)(h:Rs w v ns)(hn:ns.length≤1000000):Calls Tryz.prog 163 #[v,.int .i64 x] w fun e w'=>e=.returned (.bool (decide (x ∈ ns)))∧w'=w:=by
 by_cases hne:ns=[]
 ·
  obtain⟨p,cap,rfl⟩:∃ p cap,v=.slice p 0 cap:=by
   rcases h with⟨_,p,cap,e⟩ | ⟨sb,so,cap,e,_⟩
   ·
    exact⟨p,cap,e⟩
   ·
    rw [hne] at e; exact⟨_,_,e⟩
  refine(Tryz.slices_Contains_int_empty p cap x w).mono ?_;rintro e w' ⟨rfl,rfl⟩;exact⟨by rw [hne]; simp,rfl⟩
 ·
  obtain⟨sb,so,cap,rfl,hc⟩:=h.get hne;refine(Tryz.slices_Contains_int sb so ns.length cap ns x w (Nat.le_refl _) (by omega) hc).mono ?_;rintro e w' ⟨rfl,rfl⟩;exact⟨by rw [List.take_length]; simp,rfl⟩
def On (al bs:List Int):Bool:=al.any fun r=>decide (r ∈ bs)
theorem Zeg (al bs:List Int)(va vb:Value)(w:World)(ha:Rs w va al)(hb:Rs w vb bs)(hna:al.length≤1000000)(hnb:bs.length≤1000000):Calls Tryz.prog 111 #[va,vb] w fun e w'=>e=.returned (.bool (On al bs))∧w'=w:=by
 have HB:=Ze hb;clear hb;by_cases hne:al=[]
 ·
  obtain⟨p,cap,rfl⟩:∃ p cap,va=.slice p 0 cap:=by
   rcases ha with⟨_,p,cap,e⟩ | ⟨sb,so,cap,e,_⟩
   ·
    exact⟨p,cap,e⟩
   ·
    rw [hne] at e; exact⟨_,_,e⟩
  subst hne;clear ha;go_enter Tryz.func111,Tryz.ntmps111
  go_wp2_with fail
  refine wp_loop_rounds 1 ?_;rw [rounds_succ];go_wp2;go_ret;exact⟨rfl,rfl⟩
 ·
  obtain⟨sb,so,cap,rfl,hc⟩:=ha.get hne;have HC:=Ze hc;clear ha hc;go_enter Tryz.func111,Tryz.ntmps111
  go_wp2_with fail
  go_loopw [9] (fun j w'=>∃ k:Nat,j=.int .i64 k∧k≤al.length∧w'=w∧On (al.take k) bs=false) (fun j _=>al.length-(intOf j).toNat)
  case atStart=>exact⟨0,rfl,by omega,rfl,by simp [On]⟩
  case round =>
   obtain⟨k,rfl,hk,rfl,hno⟩:=hrel;have HN:=Ze hno;clear hno;by_cases hlt:k<al.length
   ·
    have c:=Zb HC k hlt;have HD:=Ze (Dt bs (al.getD k 0) vb wr (Zb HB) hnb);have hg:al.getD k 0=al[k]:=by simp [List.getD,hlt]
    have hst:On (al.take (k+1)) bs=decide (al.getD k 0 ∈ bs):=by
     rw [List.take_succ_eq_append_getElem hlt];unfold On;rw [List.any_append];have:=Zb HN;unfold On at this;rw [this,hg];simp
    have hall:decide (al.getD k 0 ∈ bs)=true→On al bs=true:=fun h=>by
     unfold On;rw [List.any_eq_true];exact⟨al[k],List.getElem_mem hlt,by rw [← hg]; exact h⟩
    have HS:=Ze hst;have HA:=Ze hall;clear hst hall hg;generalize decide (al.getD k 0 ∈ bs)=yes at *;generalize al.getD k 0=y at *;go_wp2_with fail
    refine(Zb HD).mono ?_;rintro e w2 ⟨rfl,h2⟩;subst w2;cases yes with
    | true =>
     go_wp2;go_ret;exact⟨by simp [Zb HA trivial],rfl⟩
    | false =>
     go_wp2;go_roundw
     case rel=>exact⟨k+1,by go_num,by omega,trivial,Zb HS⟩
     case measure=>simp [intOf]; omega
   ·
    obtain rfl:k=al.length:=by omega
    have HT:=Ze (show On al bs=false by have:=Zb HN; rwa [List.take_length] at this);go_wp2;go_ret;exact⟨by simp [Zb HT],rfl⟩
set_option maxHeartbeats 2000000
set_option maxRecDepth 100000
def Zku (l:List Int)(c:Int)(i:Nat):Bool:=decide (0≤l.getD i 0∧l.getD i 0<c∧¬ l.getD i 0 ∈ l.take i)
def Rh (l:List Int)(c:Int):Bool:=(List.range l.length).all (Zku l c)
theorem Rs.take {w:World}{sb so:Nat}{ns:List Int}(hc:∀ i,i<ns.length→w.cell? ⟨sb,so+i,none⟩=some (.int .i64 (ns.getD i 0)))(k cap':Nat)(hk:k≤ns.length):Rs w (.slice (some ⟨sb,so,none⟩) k cap') (ns.take k):=by
 have hl:(ns.take k).length=k:=by simp; omega
 refine Or.inr ⟨sb,so,cap',by rw [hl],fun i hi=>?_⟩;rw [hl] at hi;rw [hc i (by omega)];simp [List.getD,hi]
theorem Oo (ns:List Int)(c:Int)(v:Value)(w:World)(h:Rs w v ns)(hn:ns.length≤1000000)(hcap:∀ a n cap,v=.slice a n cap→n≤cap):Calls Tryz.prog 110 #[v,.int .i64 c] w fun e w'=>e=.returned (.bool (Rh ns c))∧w'=w:=by
 by_cases hne:ns=[]
 ·
  obtain⟨p,cap,rfl⟩:∃ p cap,v=.slice p 0 cap:=by
   rcases h with⟨_,p,cap,e⟩ | ⟨sb,so,cap,e,_⟩
   ·
    exact⟨p,cap,e⟩
   ·
    rw [hne] at e; exact⟨_,_,e⟩
  subst hne;clear h hcap;go_enter Tryz.func110,Tryz.ntmps110
  go_wp2_with fail
  refine wp_loop_rounds 1 ?_;rw [rounds_succ];go_wp2;go_ret;exact⟨rfl,rfl⟩
 ·
  obtain⟨sb,so,cap,rfl,hc⟩:=h.get hne;have hcp:=hcap _ _ _ rfl;have HC:=Ze hc;clear h hc hcap;go_enter Tryz.func110,Tryz.ntmps110
  go_wp2_with fail
  go_loopw [9] (fun j w'=>∃ k:Nat,j=.int .i64 k∧k≤ns.length∧w'=w∧∀ q,q<k→Zku ns c q=true) (fun j _=>ns.length-(intOf j).toNat)
  case atStart=>exact⟨0,rfl,by omega,rfl,fun q hq=>by omega⟩
  case round =>
   obtain⟨k,rfl,hk,rfl,hno⟩:=hrel;have HN:=Ze hno;clear hno;by_cases hlt:k<ns.length
   ·
    have cc:=Zb HC k hlt;have bad:Zku ns c k=false→Rh ns c=false:=fun hb=>by
     unfold Rh;rw [List.all_eq_false];exact⟨k,List.mem_range.2 hlt,by simp [hb]⟩
    have HBAD:=Ze bad;have hrd:Zku ns c k=decide (0≤ns.getD k 0∧ns.getD k 0<c∧¬ ns.getD k 0 ∈ ns.take k):=rfl;have HRD:=Ze hrd;have HCT:=Ze (fun cap'=>Dt (ns.take k) (ns.getD k 0) _ wr (Rs.take (Zb HC) k cap' (by omega)) (by simp; omega));have next:Zku ns c k=true→∀ q,q<k+1→Zku ns c q=true:=fun hb q hq=>by
     rcases Nat.lt_succ_iff_lt_or_eq.1 hq with h' | h'
     ·
      exact Zb HN q h'
     ·
      subst h'; exact hb
    have HNX:=Ze next;clear bad hrd next;generalize hy:ns.getD k 0=y at cc HRD HCT;clear hy;by_cases h0:0≤y
    ·
     by_cases h1:y<c
     ·
      generalize hm:decide (y ∈ ns.take k)=yes at HCT;have hrr:Zku ns c k=!yes:=by rw [Zb HRD,← hm]; simp [h0,h1]
      have HRR:=Ze hrr;clear hrr hm;go_wp2_with fail
      refine(Zb HCT _).mono ?_;rintro e w2 ⟨rfl,h2⟩;subst w2;cases yes with
      | true =>
       have hrr:=Ze (Zb HBAD (Zb HRR));go_wp2;go_ret;exact⟨by simp [Zb hrr],rfl⟩
      | false =>
       have hrr:=Ze (Zb HNX (Zb HRR));go_wp2;go_roundw
       case rel=>exact⟨k+1,by go_num,by omega,trivial,Zb hrr⟩
       case measure=>simp [intOf]; omega
     ·
      have hrr:=Ze (Zb HBAD (by rw [Zb HRD]; simp; omega));go_wp2;go_ret;exact⟨by simp [Zb hrr],rfl⟩
    ·
     have hrr:=Ze (Zb HBAD (by rw [Zb HRD]; simp; omega));go_wp2;go_ret;exact⟨by simp [Zb hrr],rfl⟩
   ·
    obtain rfl:k=ns.length:=by omega
    have HT:=Ze (show Rh ns c=true by unfold Rh; rw [List.all_eq_true]; exact fun q hq=>Zb HN q (List.mem_range.1 hq));go_wp2;go_ret;exact⟨by simp [Zb HT],rfl⟩
set_option maxHeartbeats 2000000
def Zfw (r al sh by_:Int):Bool:=decide (4≤r∧r≤16∧(al=8∨al=16∨al=32)∧0≤sh∧sh≤32∧sh % 8=0∧0≤by_∧by_≤4)
theorem Zhn (r sp lk t0 t1:Int)(va vr vs:Value)(al sh by_:Int)(pr:Bool)(w:World):Calls Tryz.prog 68 #[.agg (Yt r sp lk t0 t1 va vr vs al sh by_ pr)] w fun e w'=>e=.returned (.bool (Zfw r al sh by_))∧Below w.heap.size w w':=by
 unfold Yt;have no:∀ p:Prop,¬ (4≤r∧r≤16∧(al=8∨al=16∨al=32)∧0≤sh∧sh≤32∧sh % 8=0∧0≤by_∧by_≤4)→Zfw r al sh by_=false:=fun _ h=>decide_eq_false h;have NO:=Ze no;clear no;by_cases h1:4≤r
 ·
  by_cases h2:r≤16
  ·
   by_cases h3:al=8∨al=16∨al=32
   ·
    by_cases h4:0≤sh
    ·
     by_cases h5:sh≤32
     ·
      by_cases h6:sh % 8=0
      ·
       have z6:(sh % 8==0)=true:=by simp [h6]
       by_cases h7:0≤by_
       ·
        by_cases h8:by_≤4
        ·
         have hy:Zfw r al sh by_=true:=decide_eq_true ⟨h1,h2,h3,h4,h5,h6,h7,h8⟩;rw [hy];clear hy h6;rcases h3 with rfl | rfl | rfl;all_goals
          go_enter Tryz.func68,Tryz.ntmps68
          go_wp2;go_ret;exact⟨rfl,by go_grown⟩
        ·
         rw [Zb NO True (by omega)];clear h6;rcases h3 with rfl | rfl | rfl;all_goals
          go_enter Tryz.func68,Tryz.ntmps68
          go_wp2;go_ret;exact⟨rfl,by go_grown⟩
       ·
        rw [Zb NO True (by omega)];clear h6;rcases h3 with rfl | rfl | rfl;all_goals
         go_enter Tryz.func68,Tryz.ntmps68
         go_wp2;go_ret;exact⟨rfl,by go_grown⟩
      ·
       have z6:(sh % 8==0)=false:=by simp [h6]
       rw [Zb NO True (by omega)];clear h6;rcases h3 with rfl | rfl | rfl;all_goals
        go_enter Tryz.func68,Tryz.ntmps68
        go_wp2;go_ret;exact⟨rfl,by go_grown⟩
     ·
      rw [Zb NO True (by omega)];rcases h3 with rfl | rfl | rfl;all_goals
       go_enter Tryz.func68,Tryz.ntmps68
       go_wp2;go_ret;exact⟨rfl,by go_grown⟩
    ·
     rw [Zb NO True (by omega)];rcases h3 with rfl | rfl | rfl;all_goals
      go_enter Tryz.func68,Tryz.ntmps68
      go_wp2;go_ret;exact⟨rfl,by go_grown⟩
   ·
    rw [Zb NO True (by omega)];have z1:(al==8)=false:=by simp; omega
    have z2:(al==16)=false:=by simp; omega
    have z3:(al==32)=false:=by simp; omega
    clear h3;go_enter Tryz.func68,Tryz.ntmps68
    go_wp2;go_ret;exact⟨rfl,by go_grown⟩
  ·
   rw [Zb NO True (by omega)];go_enter Tryz.func68,Tryz.ntmps68
   go_wp2;go_ret;exact⟨rfl,by go_grown⟩
 ·
  rw [Zb NO True (by omega)];go_enter Tryz.func68,Tryz.ntmps68
  go_wp2;go_ret;exact⟨rfl,by go_grown⟩
theorem Rs.shape {w:World}{v:Value}{ns:List Int}(h:Rs w v ns):∃ p cap,v=.slice p ns.length cap:=by
 rcases h with⟨rfl,p,cap,e⟩ | ⟨sb,so,cap,e,_⟩
 ·
  exact⟨p,cap,e⟩
 ·
  exact⟨_,_,e⟩
def Zpq (ag rs ss:List Int):Bool:=decide (ag.length≤8∧rs.length≤4∧ss.length≤12)
theorem Zny (r sp lk t0 t1:Int)(va vr vs:Value)(al sh by_:Int)(pr:Bool)(ag rs ss:List Int)(w:World)(ha:∃ p cap,va=.slice p ag.length cap)(hr:∃ p cap,vr=.slice p rs.length cap)(hs:∃ p cap,vs=.slice p ss.length cap):Calls Tryz.prog 69 #[.agg (Yt r sp lk t0 t1 va vr vs al sh by_ pr)] w fun e w'=>e=.returned (.bool (Zpq ag rs ss))∧Below w.heap.size w w':=by
 unfold Yt;obtain⟨pa,ca,rfl⟩:=ha;obtain⟨pr',cr,rfl⟩:=hr;obtain⟨ps,cs,rfl⟩:=hs;unfold Zpq;generalize ag.length=na;generalize rs.length=nr;generalize ss.length=ns;by_cases h1:na≤8
 ·
  by_cases h2:nr≤4
  ·
   by_cases h3:ns≤12
   ·
    rw [decide_eq_true ⟨h1,h2,h3⟩];go_enter Tryz.func69,Tryz.ntmps69
    go_wp2;go_ret;exact⟨by show Ending.returned (.bool (decide ((ns:Int)≤12)))=_; rw [decide_eq_true (by omega)],by go_grown⟩
   ·
    rw [decide_eq_false (fun h=>h3 h.2.2)];go_enter Tryz.func69,Tryz.ntmps69
    go_wp2;go_ret;exact⟨by show Ending.returned (.bool (decide ((ns:Int)≤12)))=_; rw [decide_eq_false (by omega)],by go_grown⟩
  ·
   rw [decide_eq_false (fun h=>h2 h.2.1)];go_enter Tryz.func69,Tryz.ntmps69
   go_wp2;go_ret;exact⟨rfl,by go_grown⟩
 ·
  rw [decide_eq_false (fun h=>h1 h.1)];go_enter Tryz.func69,Tryz.ntmps69
  go_wp2;go_ret;exact⟨rfl,by go_grown⟩
set_option maxHeartbeats 1000000
theorem Zbh {w:World}{v:Value}{ns:List Int}(h:Rs w v ns):∀ w' b,Below w.heap.size w w'→w.heap.size≤b→Lst w' b v ns:=by
 intro w' b hb hle;rcases h with h | ⟨sb,so,cap,e,hc⟩
 ·
  exact Or.inl h
 ·
  cases ns with
  | nil=>exact Or.inl ⟨rfl,_,_,e⟩
  | cons n r =>
   have h0:=ltc (hc 0 (by simp));exact Or.inr ⟨sb,so,cap,e,⟨fun i hi=>(hb.cell (p:=⟨sb,so+i,none⟩) h0).trans (hc i hi),Or.inl (Nat.lt_of_lt_of_le h0 hle)⟩⟩
structure Tb (w:World)(r sp lk t0 t1:Int)(va vr vs:Value)(al sh by_:Int)(ag rs ss:List Int):Prop where
 tabs:Co w
 o:okN r∧okN sp∧okN lk∧okN t0∧okN t1∧okN al∧okN sh∧okN by_
 a:okI ag∧okI rs∧okI ss
 l:Rs w va ag∧Rs w vr rs∧Rs w vs ss
 n:ag.length+rs.length+ss.length≤4000000
theorem Tb.below {w w':World}{r sp lk t0 t1:Int}{va vr vs:Value}{al sh by_:Int}{ag rs ss:List Int}(h:Tb w r sp lk t0 t1 va vr vs al sh by_ ag rs ss)(hb:Below w.heap.size w w'):Tb w' r sp lk t0 t1 va vr vs al sh by_ ag rs ss :=
 ⟨h.tabs.below hb h.tabs.gb,h.o,h.a,⟨h.l.1.below hb,h.l.2.1.below hb,h.l.2.2.below hb⟩,h.n⟩
theorem Tb.alloc {w:World}{r sp lk t0 t1:Int}{va vr vs:Value}{al sh by_:Int}{ag rs ss:List Int}(h:Tb w r sp lk t0 t1 va vr vs al sh by_ ag rs ss)(o:Obj):Tb (w.alloc o) r sp lk t0 t1 va vr vs al sh by_ ag rs ss :=
 h.below ((Below.refl _ _).alloc (Nat.le_refl _) o)
theorem Yhl {w:World}{r sp lk t0 t1:Int}{va vr vs:Value}{al sh by_:Int}{ag rs ss:List Int}(pr:Bool)(h:Tb w r sp lk t0 t1 va vr vs al sh by_ ag rs ss) :
 Calls Tryz.prog 38 #[.agg (Yt r sp lk t0 t1 va vr vs al sh by_ pr)] w fun e w'=>e=.returned (.string ⟨(Mk r sp lk t0 t1 ag rs ss al sh by_ pr).toArray⟩)∧Below w.heap.size w w' :=
 Yeh r sp lk t0 t1 va vr vs al sh by_ pr ag rs ss w h.tabs h.o.1 h.o.2.1 h.o.2.2.1 h.o.2.2.2.1 h.o.2.2.2.2.1 h.o.2.2.2.2.2.1 h.o.2.2.2.2.2.2.1 h.o.2.2.2.2.2.2.2 h.a.1 h.a.2.1 h.a.2.2 (Zbh h.l.1) (Zbh h.l.2.1) (Zbh h.l.2.2) h.n
theorem Yhm {w:World}{r sp lk t0 t1:Int}{va vr vs:Value}{al sh by_:Int}{ag rs ss:List Int}(pr:Bool)(h:Tb w r sp lk t0 t1 va vr vs al sh by_ ag rs ss) :
 Calls Tryz.prog 23 #[.agg (Yt r sp lk t0 t1 va vr vs al sh by_ pr)] w fun e w'=>e=.returned (.string ⟨(Mk r sp lk t0 t1 ag rs ss al sh by_ pr).toArray⟩)∧Below w.heap.size w w':=by
 have HH:=Ym h;clear h;have HC:=Ym (Yhl pr ((Zh HH).alloc (.cells (Yt r sp lk t0 t1 va vr vs al sh by_ pr) 37)));unfold Yt at HC ⊢;go_enter Tryz.func23,Tryz.ntmps23
 go_wp2_with fail
 refine(Zh HC).mono ?_;rintro e w' ⟨rfl,hb⟩;have HB:=Ym (((Below.refl w.heap.size w).alloc (Nat.le_refl _) _).trans (hb.mono (by simp)));clear hb;go_wp2;go_ret;exact⟨rfl,Zh HB⟩
theorem Yhn {w:World}{r sp lk t0 t1:Int}{va vr vs:Value}{al sh by_:Int}{ag rs ss:List Int}(pr:Bool)(h:Tb w r sp lk t0 t1 va vr vs al sh by_ ag rs ss) :
 Calls Tryz.prog 9 #[.agg (Yt r sp lk t0 t1 va vr vs al sh by_ pr)] w fun e w'=>e=.returned (.string ⟨(Mk r sp lk t0 t1 ag rs ss al sh by_ pr).toArray⟩)∧Below w.heap.size w w':=by
 have HH:=Ym h;clear h;have HC:=Ym (Yhm pr ((Zh HH).alloc (.cells (Yt r sp lk t0 t1 va vr vs al sh by_ pr) 37)));unfold Yt at HC ⊢;go_enter Tryz.func9,Tryz.ntmps9
 go_wp2_with fail
 refine(Zh HC).mono ?_;rintro e w' ⟨rfl,hb⟩;have HB:=Ym (((Below.refl w.heap.size w).alloc (Nat.le_refl _) _).trans (hb.mono (by simp)));clear hb;go_wp2;go_ret;exact⟨rfl,Zh HB⟩
end Go.Proofs.YtedemloocadimaaGreatDoor
