import Derived.Test.YtkenknfgeoecbaaGreatDoorJ5
namespace Go.Proofs.YtkenknfgeoecbaaGreatDoor
open Go.RowKit
set_option maxHeartbeats 2000000
set_option maxRecDepth 100000
theorem Ze {p:Prop}(h:p):Hid p:=h
theorem Zb {p:Prop}(h:Hid p):p:=h
theorem Xv {P:Program}{t:TypeId}{z:Value}{n b:Nat}(h:(P.info? t).map (fun i=>(i.zero,i.size,i.bytes))=some (some z,n,b)):∃ i,P.info? t=some i∧i.zero=some z∧i.size=n∧i.bytes=b:=by obtain⟨i,hi,e⟩:=Option.map_eq_some_iff.1 h;simp only [Prod.mk.injEq] at e;exact⟨i,hi,e.1,e.2.1,e.2.2⟩
theorem Tryz.infoPc:(Tryz.prog.info? 246).map (fun i=>(i.zero,i.size,i.bytes))=some (some (.agg #[.int .i64 0,.int .i64 0,.int .i64 0]),3,24):=by kernel_rfl
def Xh (l:List Tk):List Value:=l.flatMap fun t=>[.int .i64 t.k,.int .i64 t.a,.int .i64 t.e]
theorem Ob (l:List Tk)(t:Tk):Xh (l++[t])=Xh l++[.int .i64 t.k,.int .i64 t.a,.int .i64 t.e]:=by simp [Xh]
theorem Mb:∀(l:List Tk),(Xh l).length=l.length*3
 | []=>rfl
 | t :: r=>by have:=Mb r; simp only [Xh,List.flatMap_cons,List.length_append,List.length_cons,List.length_nil] at this ⊢; omega
def Yt (w:World)(base:Nat)(v:Value)(l:List Tk):Prop:=w.ownsRow base 246 3 v l.length (Xh l)
theorem Yy {w w':World}{base:Nat}{row:Option Nat}(h:w.grownBy w' row)(hr:∀ k,row=some k→base≤k)(hb:base≤w.heap.size):Below base w w' :=
 ⟨h.os,h.tape,h.output,h.size,fun i hi=>h.block i (by omega) (fun e=>by have:=hr i e.symm; omega)⟩
theorem Yt.shape {w:World}{base:Nat}{v:Value}{l:List Tk}(h:Yt w base v l):(l=[]∧v=.slice none 0 0)∨∃ g cap,v=.slice (some ⟨g,0,none⟩) l.length cap:=by
 rcases h.2 with⟨h1,h2⟩ | ⟨g,cap,cur,h1,-⟩
 ·exact Or.inl ⟨List.eq_nil_of_length_eq_zero h2,h1⟩
 ·exact Or.inr ⟨g,cap,h1⟩
theorem Zjo (w:World)(k p q:Int):∀ j u,([.int .i64 k,.int .i64 p,.int .i64 q]:List Value)[j]?=some u→(w.alloc (.cells #[.int .i64 k,.int .i64 p,.int .i64 q] 246)).cell? ((⟨w.heap.size,0,none⟩:Addr).add j)=some u:=by
 intro j u hj;match j,hj with
 | 0,hj=>simp at hj; subst hj; simp [Addr.add]
 | 1,hj=>simp at hj; subst hj; simp [Addr.add]
 | 2,hj=>simp at hj; subst hj; simp [Addr.add]
theorem Zpd {w:World}{base g cap:Nat}{l:List Tk}{t:Tk}(h:Yt w base (.slice (some ⟨g,0,none⟩) (l.length+1) cap) (l++[t]))(j:Nat)(hj:j<3):w.cell? ⟨g,l.length*3+j,none⟩=([.int .i64 t.k,.int .i64 t.a,.int .i64 t.e]:List Value)[j]?:=by
 have h':w.ownsRow base 246 3 (.slice (some ⟨g,0,none⟩) (l.length+1) cap) (l.length+1) (Xh (l++[t])):=by simpa [Yt] using h
 rw [h'.cellAt (l.length*3+j) (by omega),Ob,List.getElem?_append_right (by rw [Mb]; omega),Mb,Nat.add_sub_cancel_left]
theorem Zah {w:World}{base g cap:Nat}{l:List Tk}{t:Tk}(h:Yt w base (.slice (some ⟨g,0,none⟩) (l.length+1) cap) (l++[t])):w.cell? ⟨g,l.length*3,none⟩=some (.int .i64 t.k):=Zpd h 0 (by omega)
theorem Zai {w:World}{base g cap:Nat}{l:List Tk}{t:Tk}(h:Yt w base (.slice (some ⟨g,0,none⟩) (l.length+1) cap) (l++[t])):w.cell? ⟨g,l.length*3+2,none⟩=some (.int .i64 t.e):=Zpd h 2 (by omega)
theorem Yt.frozenAt' {w:World}{base g cap:Nat}{l:List Tk}{t:Tk}(h:Yt w base (.slice (some ⟨g,0,none⟩) (l.length+1) cap) (l++[t]))(j:Nat):w.frozen? ⟨g,j,none⟩=false:=by
 have h':w.ownsRow base 246 3 (.slice (some ⟨g,0,none⟩) (l.length+1) cap) (l.length+1) (Xh (l++[t])):=by simpa [Yt] using h
 exact h'.frozenAt j
theorem Zjp {w:World}{base g cap:Nat}{l:List Tk}{t:Tk}(h:Yt w base (.slice (some ⟨g,0,none⟩) (l.length+1) cap) (l++[t]))(q:Nat):Yt (w.setCell ⟨g,l.length*3+2,none⟩ (.int .i64 q)) base (.slice (some ⟨g,0,none⟩) (l.length+1) cap) (l++[⟨t.k,t.a,q⟩]):=by
 have h':w.ownsRow base 246 3 (.slice (some ⟨g,0,none⟩) (l.length+1) cap) (l.length+1) (Xh (l++[t])):=by simpa [Yt] using h
 have h2:=(h'.stored (l.length*3+2) (.int .i64 q)).1;have e:(Xh (l++[t])).set (l.length*3+2) (.int .i64 q)=Xh (l++[⟨t.k,t.a,q⟩]):=by rw [Ob,Ob,List.set_append_right _ _ (by rw [Mb]; omega),Mb,Nat.add_sub_cancel_left];rfl
 rw [e] at h2;simpa [Yt] using h2
theorem Zdq {w:World}{base g cap:Nat}{l:List Tk}{t:Tk}(h:Yt w base (.slice (some ⟨g,0,none⟩) (l.length+1) cap) (l++[t]))(q:Nat)(hb:base≤w.heap.size):Below base w (w.setCell ⟨g,l.length*3+2,none⟩ (.int .i64 q)):=by
 have h':w.ownsRow base 246 3 (.slice (some ⟨g,0,none⟩) (l.length+1) cap) (l.length+1) (Xh (l++[t])):=by simpa [Yt] using h
 exact Yy (h'.stored (l.length*3+2) (.int .i64 q)).2 (fun k hk=>by have:=h'.lt g rfl; simp at hk; omega) hb
theorem Nk {w:World}{base:Nat}{v:Value}{l:List Tk}{k p n:Nat}(hn:l.length=n)(h:w.ownsRow base 246 3 v (n+1) (Xh l++[.int .i64 k,.int .i64 p,.int .i64 (p+1)])):Yt w base v (l++[⟨k,p,p+1⟩]):=by unfold Yt;rw [Ob];simpa [hn] using h
theorem Zgv (base:Nat)(a:Option Addr)(cap p:Nat)(w:World)(h:Yt w base (.slice a 0 cap) [])(hp:p≤400)(hb:base≤w.heap.size) :
 Calls Tryz.prog 109 #[.slice a 0 cap,.int .i64 3,.int .i64 p] w fun e w'=>∃ v',e=.returned v'∧Yt w' base v' [⟨3,p,p+1⟩]∧Below base w w':=by
 obtain⟨i0,hi,hz0,hz1,hz2⟩:=Xv Tryz.infoPc;have HH:=Ze h;clear h;go_enter Tryz.func109,Tryz.ntmps109
 go_wp2_with (at_builtin; refine wpList_append_own _ rfl _ _ 173 rfl base 246 i0 _ 3 24 Tryz.underlying173 hi hz0 hz1 hz2 rfl (by decide) _ _ _ rfl ((Zb HH).alloc _) ⟨w.heap.size,0,none⟩ 1 1 [.int .i64 3,.int .i64 p,.int .i64 (p+1)] rfl rfl (Zjo w 3 p (p+1)) (by intro u hu; simp at hu; rcases hu with rfl | rfl | rfl <;> rfl) ?c3 ?c4 ?c5 ?_)
 case c3=>first | (simp [maxLen]; done) | (unfold maxLen; omega) | (unfold maxLen; simp only [List.length_append,List.length_cons,List.length_nil]; omega)
 case c4=>first | (simp; done) | omega | (simp only [List.length_append,List.length_cons,List.length_nil]; omega)
 case c5=>simp; omega
 intro v' w' hown hgr _;have HR:=Ze (Nk (l:=[]) (k:=3) (p:=p) (by first | rfl | exact hn | exact hln) hown);have HG:=Ze (((Below.refl base w).alloc hb _).trans (Yy hgr (fun j hj=>((Zb HH).lt j hj).1) (by simp; omega):Below base _ w'));clear hown hgr;go_wp2;go_ret;exact⟨_,rfl,Zb HR,Zb HG⟩
theorem Zgw (base:Nat)(a:Option Addr)(cap p:Nat)(w:World)(h:Yt w base (.slice a 0 cap) [])(hp:p≤400)(hb:base≤w.heap.size) :
 Calls Tryz.prog 109 #[.slice a 0 cap,.int .i64 4,.int .i64 p] w fun e w'=>∃ v',e=.returned v'∧Yt w' base v' [⟨4,p,p+1⟩]∧Below base w w':=by
 obtain⟨i0,hi,hz0,hz1,hz2⟩:=Xv Tryz.infoPc;have HH:=Ze h;clear h;go_enter Tryz.func109,Tryz.ntmps109
 go_wp2_with (at_builtin; refine wpList_append_own _ rfl _ _ 173 rfl base 246 i0 _ 3 24 Tryz.underlying173 hi hz0 hz1 hz2 rfl (by decide) _ _ _ rfl ((Zb HH).alloc _) ⟨w.heap.size,0,none⟩ 1 1 [.int .i64 4,.int .i64 p,.int .i64 (p+1)] rfl rfl (Zjo w 4 p (p+1)) (by intro u hu; simp at hu; rcases hu with rfl | rfl | rfl <;> rfl) ?c3 ?c4 ?c5 ?_)
 case c3=>first | (simp [maxLen]; done) | (unfold maxLen; omega) | (unfold maxLen; simp only [List.length_append,List.length_cons,List.length_nil]; omega)
 case c4=>first | (simp; done) | omega | (simp only [List.length_append,List.length_cons,List.length_nil]; omega)
 case c5=>simp; omega
 intro v' w' hown hgr _;have HR:=Ze (Nk (l:=[]) (k:=4) (p:=p) (by first | rfl | exact hn | exact hln) hown);have HG:=Ze (((Below.refl base w).alloc hb _).trans (Yy hgr (fun j hj=>((Zb HH).lt j hj).1) (by simp; omega):Below base _ w'));clear hown hgr;go_wp2;go_ret;exact⟨_,rfl,Zb HR,Zb HG⟩
theorem Zmq (base g cap p:Nat)(l:List Tk)(t:Tk)(w:World)(h:Yt w base (.slice (some ⟨g,0,none⟩) (l.length+1) cap) (l++[t]))(hl:l.length≤400)(hp:p≤400)(hb:base≤w.heap.size)(hk:(t.k:Int)≠3) :
 Calls Tryz.prog 109 #[.slice (some ⟨g,0,none⟩) (l.length+1) cap,.int .i64 3,.int .i64 p] w fun e w'=>∃ v',e=.returned v'∧Yt w' base v' (l++[t]++[⟨3,p,p+1⟩])∧Below base w w':=by
 obtain⟨i0,hi,hz0,hz1,hz2⟩:=Xv Tryz.infoPc;have ck:=Zah h;have ce:=Zai h;have hln:(l++[t]).length=l.length+1:=by simp
 have HH:=Ze h;clear h;generalize t.e=te at *;generalize hn:l.length=n at *;go_enter Tryz.func109,Tryz.ntmps109
 go_wp2_with (at_builtin; refine wpList_append_own _ rfl _ _ 173 rfl base 246 i0 _ 3 24 Tryz.underlying173 hi hz0 hz1 hz2 rfl (by decide) _ _ _ rfl ((Zb HH).alloc _) ⟨w.heap.size,0,none⟩ 1 1 [.int .i64 3,.int .i64 p,.int .i64 (p+1)] rfl rfl (Zjo w 3 p (p+1)) (by intro u hu; simp at hu; rcases hu with rfl | rfl | rfl <;> rfl) ?c3 ?c4 ?c5 ?_)
 case c3=>first | (simp [maxLen]; done) | (unfold maxLen; omega) | (unfold maxLen; simp only [List.length_append,List.length_cons,List.length_nil]; omega)
 case c4=>first | (simp; done) | omega | (simp only [List.length_append,List.length_cons,List.length_nil]; omega)
 case c5=>simp; omega
 intro v' w' hown hgr _;have HR:=Ze (Nk (l:=l++[t]) (k:=3) (p:=p) (by first | rfl | exact hn | exact hln) hown);have HG:=Ze (((Below.refl base w).alloc hb _).trans (Yy hgr (fun j hj=>((Zb HH).lt j hj).1) (by simp; omega):Below base _ w'));clear hown hgr;go_wp2;go_ret;exact⟨_,rfl,Zb HR,Zb HG⟩
theorem Zmr (base g cap p:Nat)(l:List Tk)(t:Tk)(w:World)(h:Yt w base (.slice (some ⟨g,0,none⟩) (l.length+1) cap) (l++[t]))(hl:l.length≤400)(hp:p≤400)(hb:base≤w.heap.size)(hk:t.k=3)(he:(t.e:Int)≠p) :
 Calls Tryz.prog 109 #[.slice (some ⟨g,0,none⟩) (l.length+1) cap,.int .i64 3,.int .i64 p] w fun e w'=>∃ v',e=.returned v'∧Yt w' base v' (l++[t]++[⟨3,p,p+1⟩])∧Below base w w':=by
 obtain⟨i0,hi,hz0,hz1,hz2⟩:=Xv Tryz.infoPc;have ck:=Zah h;have ce:=Zai h;have hln:(l++[t]).length=l.length+1:=by simp
 have HH:=Ze h;clear h;rw [hk] at ck;generalize t.e=te at *;generalize hn:l.length=n at *;go_enter Tryz.func109,Tryz.ntmps109
 go_wp2_with (at_builtin; refine wpList_append_own _ rfl _ _ 173 rfl base 246 i0 _ 3 24 Tryz.underlying173 hi hz0 hz1 hz2 rfl (by decide) _ _ _ rfl ((Zb HH).alloc _) ⟨w.heap.size,0,none⟩ 1 1 [.int .i64 3,.int .i64 p,.int .i64 (p+1)] rfl rfl (Zjo w 3 p (p+1)) (by intro u hu; simp at hu; rcases hu with rfl | rfl | rfl <;> rfl) ?c3 ?c4 ?c5 ?_)
 case c3=>first | (simp [maxLen]; done) | (unfold maxLen; omega) | (unfold maxLen; simp only [List.length_append,List.length_cons,List.length_nil]; omega)
 case c4=>first | (simp; done) | omega | (simp only [List.length_append,List.length_cons,List.length_nil]; omega)
 case c5=>simp; omega
 intro v' w' hown hgr _;have HR:=Ze (Nk (l:=l++[t]) (k:=3) (p:=p) (by first | rfl | exact hn | exact hln) hown);have HG:=Ze (((Below.refl base w).alloc hb _).trans (Yy hgr (fun j hj=>((Zb HH).lt j hj).1) (by simp; omega):Below base _ w'));clear hown hgr;go_wp2;go_ret;exact⟨_,rfl,Zb HR,Zb HG⟩
theorem Zjq (base g cap p:Nat)(l:List Tk)(t:Tk)(w:World)(h:Yt w base (.slice (some ⟨g,0,none⟩) (l.length+1) cap) (l++[t]))(hl:l.length≤400)(hp:p≤400)(hb:base≤w.heap.size)(hk:t.k=3)(he:t.e=p) :
 Calls Tryz.prog 109 #[.slice (some ⟨g,0,none⟩) (l.length+1) cap,.int .i64 3,.int .i64 p] w fun e w'=>∃ v',e=.returned v'∧Yt w' base v' (l++[⟨t.k,t.a,p+1⟩])∧Below base w w':=by
 have ck:=Zah h;have ce:=Zai h;have hfz:=h.frozenAt' (l.length*3+2);have HR:=Ze (Zjp h (p+1));have HG:=Ze (Zdq h (p+1) hb);clear h;rw [hk] at ck;rw [he] at ce;generalize hn:l.length=n at *;go_enter Tryz.func109,Tryz.ntmps109
 go_wp2;go_ret;exact⟨_,rfl,Zb HR,Zb HG⟩
theorem Zms (base g cap p:Nat)(l:List Tk)(t:Tk)(w:World)(h:Yt w base (.slice (some ⟨g,0,none⟩) (l.length+1) cap) (l++[t]))(hl:l.length≤400)(hp:p≤400)(hb:base≤w.heap.size)(hk:(t.k:Int)≠4) :
 Calls Tryz.prog 109 #[.slice (some ⟨g,0,none⟩) (l.length+1) cap,.int .i64 4,.int .i64 p] w fun e w'=>∃ v',e=.returned v'∧Yt w' base v' (l++[t]++[⟨4,p,p+1⟩])∧Below base w w':=by
 obtain⟨i0,hi,hz0,hz1,hz2⟩:=Xv Tryz.infoPc;have ck:=Zah h;have ce:=Zai h;have hln:(l++[t]).length=l.length+1:=by simp
 have HH:=Ze h;clear h;generalize t.e=te at *;generalize hn:l.length=n at *;go_enter Tryz.func109,Tryz.ntmps109
 go_wp2_with (at_builtin; refine wpList_append_own _ rfl _ _ 173 rfl base 246 i0 _ 3 24 Tryz.underlying173 hi hz0 hz1 hz2 rfl (by decide) _ _ _ rfl ((Zb HH).alloc _) ⟨w.heap.size,0,none⟩ 1 1 [.int .i64 4,.int .i64 p,.int .i64 (p+1)] rfl rfl (Zjo w 4 p (p+1)) (by intro u hu; simp at hu; rcases hu with rfl | rfl | rfl <;> rfl) ?c3 ?c4 ?c5 ?_)
 case c3=>first | (simp [maxLen]; done) | (unfold maxLen; omega) | (unfold maxLen; simp only [List.length_append,List.length_cons,List.length_nil]; omega)
 case c4=>first | (simp; done) | omega | (simp only [List.length_append,List.length_cons,List.length_nil]; omega)
 case c5=>simp; omega
 intro v' w' hown hgr _;have HR:=Ze (Nk (l:=l++[t]) (k:=4) (p:=p) (by first | rfl | exact hn | exact hln) hown);have HG:=Ze (((Below.refl base w).alloc hb _).trans (Yy hgr (fun j hj=>((Zb HH).lt j hj).1) (by simp; omega):Below base _ w'));clear hown hgr;go_wp2;go_ret;exact⟨_,rfl,Zb HR,Zb HG⟩
theorem Zmt (base g cap p:Nat)(l:List Tk)(t:Tk)(w:World)(h:Yt w base (.slice (some ⟨g,0,none⟩) (l.length+1) cap) (l++[t]))(hl:l.length≤400)(hp:p≤400)(hb:base≤w.heap.size)(hk:t.k=4)(he:(t.e:Int)≠p) :
 Calls Tryz.prog 109 #[.slice (some ⟨g,0,none⟩) (l.length+1) cap,.int .i64 4,.int .i64 p] w fun e w'=>∃ v',e=.returned v'∧Yt w' base v' (l++[t]++[⟨4,p,p+1⟩])∧Below base w w':=by
 obtain⟨i0,hi,hz0,hz1,hz2⟩:=Xv Tryz.infoPc;have ck:=Zah h;have ce:=Zai h;have hln:(l++[t]).length=l.length+1:=by simp
 have HH:=Ze h;clear h;rw [hk] at ck;generalize t.e=te at *;generalize hn:l.length=n at *;go_enter Tryz.func109,Tryz.ntmps109
 go_wp2_with (at_builtin; refine wpList_append_own _ rfl _ _ 173 rfl base 246 i0 _ 3 24 Tryz.underlying173 hi hz0 hz1 hz2 rfl (by decide) _ _ _ rfl ((Zb HH).alloc _) ⟨w.heap.size,0,none⟩ 1 1 [.int .i64 4,.int .i64 p,.int .i64 (p+1)] rfl rfl (Zjo w 4 p (p+1)) (by intro u hu; simp at hu; rcases hu with rfl | rfl | rfl <;> rfl) ?c3 ?c4 ?c5 ?_)
 case c3=>first | (simp [maxLen]; done) | (unfold maxLen; omega) | (unfold maxLen; simp only [List.length_append,List.length_cons,List.length_nil]; omega)
 case c4=>first | (simp; done) | omega | (simp only [List.length_append,List.length_cons,List.length_nil]; omega)
 case c5=>simp; omega
 intro v' w' hown hgr _;have HR:=Ze (Nk (l:=l++[t]) (k:=4) (p:=p) (by first | rfl | exact hn | exact hln) hown);have HG:=Ze (((Below.refl base w).alloc hb _).trans (Yy hgr (fun j hj=>((Zb HH).lt j hj).1) (by simp; omega):Below base _ w'));clear hown hgr;go_wp2;go_ret;exact⟨_,rfl,Zb HR,Zb HG⟩
theorem Zjr (base g cap p:Nat)(l:List Tk)(t:Tk)(w:World)(h:Yt w base (.slice (some ⟨g,0,none⟩) (l.length+1) cap) (l++[t]))(hl:l.length≤400)(hp:p≤400)(hb:base≤w.heap.size)(hk:t.k=4)(he:t.e=p) :
 Calls Tryz.prog 109 #[.slice (some ⟨g,0,none⟩) (l.length+1) cap,.int .i64 4,.int .i64 p] w fun e w'=>∃ v',e=.returned v'∧Yt w' base v' (l++[⟨t.k,t.a,p+1⟩])∧Below base w w':=by
 have ck:=Zah h;have ce:=Zai h;have hfz:=h.frozenAt' (l.length*3+2);have HR:=Ze (Zjp h (p+1));have HG:=Ze (Zdq h (p+1) hb);clear h;rw [hk] at ck;rw [he] at ce;generalize hn:l.length=n at *;go_enter Tryz.func109,Tryz.ntmps109
 go_wp2;go_ret;exact⟨_,rfl,Zb HR,Zb HG⟩
theorem Zgx (base n cap p:Nat)(a:Option Addr)(l:List Tk)(w:World)(h:Yt w base (.slice a n cap) l)(hn:l.length=n)(hl:n≤401)(hp:p≤400)(hb:base≤w.heap.size) :
 Calls Tryz.prog 109 #[.slice a n cap,.int .i64 5,.int .i64 p] w fun e w'=>∃ v',e=.returned v'∧Yt w' base v' (l++[⟨5,p,p+1⟩])∧Below base w w':=by
 obtain⟨i0,hi,hz0,hz1,hz2⟩:=Xv Tryz.infoPc;have HH:=Ze h;clear h;go_enter Tryz.func109,Tryz.ntmps109
 go_wp2_with (at_builtin; refine wpList_append_own _ rfl _ _ 173 rfl base 246 i0 _ 3 24 Tryz.underlying173 hi hz0 hz1 hz2 rfl (by decide) _ _ _ rfl ((Zb HH).alloc _) ⟨w.heap.size,0,none⟩ 1 1 [.int .i64 5,.int .i64 p,.int .i64 (p+1)] rfl rfl (Zjo w 5 p (p+1)) (by intro u hu; simp at hu; rcases hu with rfl | rfl | rfl <;> rfl) ?c3 ?c4 ?c5 ?_)
 case c3=>first | (simp [maxLen]; done) | (unfold maxLen; omega) | (unfold maxLen; simp only [List.length_append,List.length_cons,List.length_nil]; omega)
 case c4=>first | (simp; done) | omega | (simp only [List.length_append,List.length_cons,List.length_nil]; omega)
 case c5=>simp; omega
 intro v' w' hown hgr _;have HR:=Ze (Nk (l:=l) (k:=5) (p:=p) (by first | rfl | exact hn | exact hln) hown);have HG:=Ze (((Below.refl base w).alloc hb _).trans (Yy hgr (fun j hj=>((Zb HH).lt j hj).1) (by simp; omega):Below base _ w'));clear hown hgr;go_wp2;go_ret;exact⟨_,rfl,Zb HR,Zb HG⟩
theorem Zgy (base n cap p:Nat)(a:Option Addr)(l:List Tk)(w:World)(h:Yt w base (.slice a n cap) l)(hn:l.length=n)(hl:n≤401)(hp:p≤400)(hb:base≤w.heap.size) :
 Calls Tryz.prog 109 #[.slice a n cap,.int .i64 6,.int .i64 p] w fun e w'=>∃ v',e=.returned v'∧Yt w' base v' (l++[⟨6,p,p+1⟩])∧Below base w w':=by
 obtain⟨i0,hi,hz0,hz1,hz2⟩:=Xv Tryz.infoPc;have HH:=Ze h;clear h;go_enter Tryz.func109,Tryz.ntmps109
 go_wp2_with (at_builtin; refine wpList_append_own _ rfl _ _ 173 rfl base 246 i0 _ 3 24 Tryz.underlying173 hi hz0 hz1 hz2 rfl (by decide) _ _ _ rfl ((Zb HH).alloc _) ⟨w.heap.size,0,none⟩ 1 1 [.int .i64 6,.int .i64 p,.int .i64 (p+1)] rfl rfl (Zjo w 6 p (p+1)) (by intro u hu; simp at hu; rcases hu with rfl | rfl | rfl <;> rfl) ?c3 ?c4 ?c5 ?_)
 case c3=>first | (simp [maxLen]; done) | (unfold maxLen; omega) | (unfold maxLen; simp only [List.length_append,List.length_cons,List.length_nil]; omega)
 case c4=>first | (simp; done) | omega | (simp only [List.length_append,List.length_cons,List.length_nil]; omega)
 case c5=>simp; omega
 intro v' w' hown hgr _;have HR:=Ze (Nk (l:=l) (k:=6) (p:=p) (by first | rfl | exact hn | exact hln) hown);have HG:=Ze (((Below.refl base w).alloc hb _).trans (Yy hgr (fun j hj=>((Zb HH).lt j hj).1) (by simp; omega):Below base _ w'));clear hown hgr;go_wp2;go_ret;exact⟨_,rfl,Zb HR,Zb HG⟩
end Go.Proofs.YtkenknfgeoecbaaGreatDoor
