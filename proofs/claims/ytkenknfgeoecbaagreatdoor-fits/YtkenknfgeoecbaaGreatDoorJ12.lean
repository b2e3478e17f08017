import Derived.Test.YtkenknfgeoecbaaGreatDoorJ3
import Derived.Test.YtkenknfgeoecbaaGreatDoorJ20
namespace Go.Proofs.YtkenknfgeoecbaaGreatDoor
open Go.RowKit
set_option maxHeartbeats 4000000
set_option maxRecDepth 100000
def Zs (s:ByteArray)(l:List Tk):Nat->Uy->Bool×Uy
 | 0,S=>(true,S)
 | f+1,S=>if S.i<l.length then (if (Ln s l S).1 then Zs s l f (Ln s l S).2 else (false,(Ln s l S).2)) else (true,S)
theorem Zkl (s:ByteArray)(l:List Tk)(k:Nat):∀(f i:Nat) (ns:List Int),i<=(Gm s l k f i ns).1
 | 0,i,ns=>Nat.le_refl _
 | f+1,i,ns=>by
  unfold Gm;split
  ·split
   ·have:=Zkl s l k f (i+1) (ns++[‹Int›]); omega
   ·exact Nat.le_refl _
  ·exact Nat.le_refl _
theorem Zkm {s:ByteArray}{l:List Tk}{S:Uy}(h:(Ln s l S).1=true):S.i<(Ln s l S).2.i:=by
 unfold Ln at h ⊢;split at h
 ·simp at h
 ·rename_i k _;have:=Zkl s l k 13 (S.i+1) [];split at h
  ·split at h
   ·rename_i h1 h2; simp only [h1,h2,if_true]; omega
   ·simp at h
  ·simp at h
theorem RS.below {s:ByteArray}{l:List Tk}{W0:Nat}{w w':World}{b:Nat}{v:Value}{S:Uy}{vs:Nat->Value}(h:RS s l W0 w b v S vs)(hb:Below w.heap.size w w'):RS s l W0 w' b v S vs :=
 ⟨h.rdr.below hb,fun k hk=>World.ownsRow.kept (h.row k hk) (Zo (row:=none) hb) (by cases (vs k).ownBlock <;> simp),h.new,h.fit,h.apart⟩
def Yhl:Option Value->Nat
 | some (.int _ n)=>n.toNat
 | _=>0
theorem Zkn (w:World)(b base W0:Nat)(s:ByteArray)(v:Value)(S0:Uy)(vs:Nat->Value)(l:List Tk)(h:RS s l W0 w b v S0 vs)(hb:b<W0)(hW:W0<=w.heap.size)(ho:Yu w base v l)(hvb:v.ownBlock≠some b)(hl:l.length<=400)(hw:WfT s l)(hI:Itm w)(hbI:1≠b) :
 Calls Tryz.prog 68 #[.pointer (some ⟨b,0,none⟩)] w fun e w'=>e=.returned (.bool (Zs s l l.length S0).1)∧w.grownBy w' (some b)∧∃ vs',RS s l W0 w' b v (Zs s l l.length S0).2 vs':=by
 have HS:=Ze h;have HO:=Ze ho;have HW:=Ze hw;have HI:=Ze hI;clear h ho hw hI;obtain⟨a,cap,rfl⟩:∃ a cap,v=.slice a l.length cap:=by
  rcases(Zb HO).shape with⟨e,rfl⟩ | ⟨g,cap,rfl⟩
  ·subst e; exact⟨_,_,rfl⟩
  ·exact⟨_,_,rfl⟩
 go_enter Tryz.func68,Tryz.ntmps68
 go_wp2_with fail
 go_loopw [3] (fun _ wr=>∃ S vs f,RS s l W0 wr b (.slice a l.length cap) S vs∧w.grownBy wr (some b)∧Zs s l f S=Zs s l l.length S0∧l.length<=S.i+f) (fun _ wr=>l.length-Yhl (wr.cell? ⟨b,2,none⟩))
 case atStart=>exact⟨S0,vs,l.length,Zb HS,⟨rfl,rfl,rfl,Nat.le_refl _,fun _ _ _=>rfl⟩,rfl,by omega⟩
 case round =>
  obtain⟨S,vs,f,hR,hg,hE,hf⟩:=hrel;have c1:=hR.rdr.pcs;have c2:=hR.rdr.nxt;have hfit:=hR.fit;have HR:=Ze hR;have HG:=Ze hg;clear hR hg;by_cases hlt:S.i<l.length
  ·obtain⟨f,rfl⟩:∃ f',f=f'+1:=⟨f-1,by omega⟩;have hgd:w.grownBy wr.drew (some b):=Yj (Zb HG) (Zo (by go_grown));have HC:=Ze (Znh wr.drew b base W0 s _ S vs l ((Zb HR).below (by go_grown)) hb (Nat.le_trans hW hgd.size) ((Zb HO).grown hgd hvb) hvb hl (Zb HW) ((Zb HI).grown hgd hbI) hbI hlt);have hstep:Zs s l (f+1) S=if (Ln s l S).1 then Zs s l f (Ln s l S).2 else (false,(Ln s l S).2):=by simp [Zs,hlt]
   rw [hstep] at hE;have hon:=fun h=>Zkm (s:=s) (l:=l) (S:=S) h;generalize hIF:Ln s l S=r at *;obtain⟨ok,S'⟩:=r;have HE:=Ze hE;have HON:=Ze hon;clear hE hon hstep hIF;go_wp2;go_region
   all_goals go_wp2_with fail
   all_goals refine(Zb HC).mono ?_
   all_goals rintro e w1 ⟨rfl,hg1,vs1,hR1⟩
   all_goals
    have G1:=Ze (Yj hgd hg1);have c3:=hR1.rdr.nxt;have HR1:=Ze hR1;clear hg1 hR1;cases ok with
    | true =>
     have hlt2:=Zb HON rfl;go_wp2;go_roundw
     case rel=>exact⟨S',vs1,f,Zb HR1,Zb G1,by simpa using Zb HE,by first | omega | (simp at hlt2; omega)⟩
     case measure=>rw [c3,c2];simp only [Yhl];have:S.i<S'.i:=hlt2;omega
    | false =>
     have hE2:Zs s l l.length S0=(false,S'):=by simpa using (Zb HE).symm
     have HE2:=Ze hE2;clear hE2;go_wp2;go_ret;rw [Zb HE2];exact⟨rfl,Zb G1,vs1,Zb HR1⟩
  ·have hE2:Zs s l l.length S0=(true,S):=by rw [← hE];cases f <;> simp [Zs,hlt]
   have HE2:=Ze hE2;clear hE2 hE;go_wp2;go_region
   all_goals go_wp2
   all_goals go_ret
   all_goals rw [Zb HE2]
   all_goals exact⟨rfl,Yj (Zb HG) (Zo (by go_grown)),vs,(Zb HR).below (by go_grown)⟩
def Zni (s:ByteArray)(l:List Tk)(i:Nat):Nat:=match l[i]? with | some t=>t.a | none=>s.size
def Oj:Uy:=⟨0,fun _=>false,fun _=>[]⟩
def Rw (s:ByteArray)(l:List Tk):(Nat×Nat) ⊕ Uy :=
 if (Zs s l l.length Oj).1=true∧Zfa (Zs s l l.length Oj).2.sn=true then .inr (Zs s l l.length Oj).2 else .inl (1,Zni s l (Zs s l l.length Oj).2.i)
def Xo (s:ByteArray):(Nat×Nat) ⊕ Uy :=
 if 400<s.size then .inl (4,0) else
  match Lp s s.size 0 false [] with
  | .inl p=>.inl (1,p)
  | .inr l=>Rw s l
def Zws (S:Uy):Prop:=∀ k,k<11->S.sn k=true->loK k<=(S.vals k).length∧(S.vals k).length<=hiK k
theorem Zgd (s:ByteArray)(l:List Tk)(k:Nat):∀(f i:Nat) (ns:List Int),ns.length<=hiK k->(Gm s l k f i ns).2.length<=hiK k
 | 0,i,ns,h=>h
 | f+1,i,ns,h=>by
  unfold Gm;split
  ·split
   ·exact Zgd s l k f (i+1) _ (by simp; omega)
   ·exact h
  ·exact h
theorem Znj {s:ByteArray}{l:List Tk}{S:Uy}(h:(Ln s l S).1=true)(hg:Zws S):Zws (Ln s l S).2∧(Ln s l S).2.i<=l.length:=by
 unfold Ln at h ⊢;split at h
 ·simp at h
 ·rename_i k hk;have hn:=Zgd s l k 13 (S.i+1) [] (by simp);split at h
  ·split at h
   ·rename_i h1 h2;simp only [h1,h2,if_true];refine⟨fun j hj hs=>?_,by have:=Yhk h2; omega⟩;by_cases hjk:j=k
    ·subst hjk;simp only [Zeb,if_true];exact⟨h1,hn⟩
    ·simp only [Zeb,Zea,hjk,if_false] at hs ⊢;exact hg j hj hs
   ·simp at h
  ·simp at h
theorem Zbs {s:ByteArray}{l:List Tk}:∀(f:Nat) (S S':Uy),Zs s l f S=(true,S')->S.i<=l.length->l.length<=S.i+f->Zws S->S'.i=l.length∧Zws S'
 | 0,S,S',h,h1,h2,hg=>by
  unfold Zs at h;injection h with _ h;subst h;exact⟨by omega,hg⟩
 | f+1,S,S',h,h1,h2,hg=>by
  unfold Zs at h;split at h
  ·split at h
   ·rename_i hok;have:=Zkm hok;obtain⟨g1,g2⟩:=Znj hok hg;exact Zbs f _ S' h g2 (by omega) g1
   ·cases h
  ·injection h with _ h;subst h;exact⟨by omega,hg⟩
theorem Yhn:Zws Oj:=fun k _ h=>by simp [Oj] at h
theorem Zwt {sn:Nat->Bool}(h:Zfa sn=true)(k:Nat)(hk:k<10):sn k=true:=by unfold Zfa at h;rw [List.all_eq_true] at h;exact h k (List.mem_range.2 hk)
theorem Zbc {α:Type}{l:List α}(h:1<=l.length∧l.length<=1):∃ x,l=[x]:=by
 match l,h with
 | [x],_=>exact⟨x,rfl⟩
theorem Yfg {α:Type}{l:List α}(h:2<=l.length∧l.length<=2):∃ x y,l=[x,y]:=by
 match l,h with
 | [x,y],_=>exact⟨x,y,rfl⟩
theorem Zkq {s:ByteArray}{l:List Tk}{S:Uy}(h:Rw s l=.inr S) :
 Zs s l l.length Oj=(true,S)∧S.i=l.length∧(∃ x,S.vals 0=[x])∧(∃ x,S.vals 1=[x])∧(∃ x,S.vals 2=[x])∧(∃ x y,S.vals 3=[x,y])∧(S.vals 4).length<=8∧(S.vals 5).length<=4∧(S.vals 6).length<=12∧(∃ x,S.vals 7=[x])∧(∃ x,S.vals 8=[x])∧(∃ x,S.vals 9=[x]):=by
 unfold Rw at h;split at h
 ·rename_i hc;injection h with h;have he:Zs s l l.length Oj=(true,S):=by rw [← h];generalize Zs s l l.length Oj=r at *;obtain⟨a,b⟩:=r;simp at hc ⊢;exact hc.1
  obtain⟨h1,h2⟩:=Zbs l.length Oj S he (by simp [Oj]) (by simp [Oj]) Yhn;have ha:Zfa S.sn=true:=by rw [← h]; exact hc.2
  have g:=fun k (hk:k<10)=>h2 k (by omega) (Zwt ha k hk);exact⟨he,h1,Zbc (g 0 (by decide)),Zbc (g 1 (by decide)),Zbc (g 2 (by decide)),Yfg (g 3 (by decide)),(g 4 (by decide)).2,(g 5 (by decide)).2,(g 6 (by decide)).2,Zbc (g 7 (by decide)),Zbc (g 8 (by decide)),Zbc (g 9 (by decide))⟩
 ·cases h
set_option maxHeartbeats 8000000
set_option maxRecDepth 100000
theorem Ym {P:Program}{fn:Func}{p u:Tmp}{ty:TypeId}(h:fn.results=#[.cell p ty,.tmp u])(tmps:Array Value)(w:World)(g:Nat)(t:TypeId)(cs:Array Value)(fr:Nat×Nat)(d:TypeDesc)
 (hp:tmps.getD p undef=.pointer (some ⟨g,0,none⟩)) (hg:w.heap[g]?=some (.cells cs t fr))
 (hu:P.underlying ty=some d) (hd:(match d with | .struct _ | .array _ _=>true | _=>false)=true) (hi:(P.info? ty).map (·.size)=some cs.size) :
 (results fn tmps).run P w=.ok (.tuple #[.agg cs,tmps.getD u undef]) w:=by
 rw [results_cell_tmp h,hp];simp [asAddr,run_loadVar_row w g t ty cs fr d hg hu hd hi]
theorem Rx (w:World)(z cs:Array Value)(t:TypeId)(fr:Nat×Nat):(w.alloc (.cells z t fr)).setRow w.heap.size cs=w.alloc (.cells cs t fr):=by
 unfold World.setRow World.alloc;simp only [World.mk.injEq,and_true];apply Array.ext
 ·simp
 ·intro k h1 h2;simp only [Array.getElem_modify,Array.getElem_push];split
  ·rename_i h; subst h; simp
  ·rename_i h;have:k<w.heap.size:=by simp at h1; omega
   simp [this]
theorem Lj (w:World)(T:Nat)(cs:Array Value):w.grownBy (w.setRow T cs) (some T):=⟨rfl,rfl,rfl,by simp,fun k _ hk=>setRow_other w T k cs (fun e=>hk (by simp [e]))⟩
theorem Gv.setRow {w:World}{q T:Nat}{n f b a:Int}(h:Gv w q n f b a)(hq:q≠T)(cs:Array Value):Gv (w.setRow T cs) q n f b a :=
 have e:=setRow_other w T q cs hq;⟨(World.cell?_of_block e).trans h.c0,(World.cell?_of_block e).trans h.c1,(World.cell?_of_block e).trans h.c2,(World.cell?_of_block e).trans h.c3⟩
theorem Tryz.infTab:(Tryz.prog.info? 25).map (·.size)=some 12:=by kernel_rfl
theorem Zpp (w:World)(b base:Nat)(s:ByteArray)(v:Value)(i:Nat)(sn:Nat->Bool)(vs:Nat->Value)(l:List Tk)(h:Ks w b s v i sn vs)(ho:Yu w base v l)(hl:l.length<=400)(hi:i<=l.length) :
 Calls Tryz.prog 70 #[.pointer (some ⟨b,0,none⟩)] w fun e w'=>e=.returned (.int .i64 (Zni s l i))∧Below w.heap.size w w':=by
 unfold Zni;cases ht:l[i]? with
 | some t=>exact Zwy w b base s v i sn vs l t h ho hl ht
 | none=>obtain rfl:i=l.length:=Nat.le_antisymm hi (List.getElem?_eq_none_iff.1 ht);exact Zry w b base s v sn vs l h ho hl
theorem Zci (n p:Int)(w:World) :
 Calls Tryz.prog 66 #[.int .i64 n,.int .i64 p] w fun e w'=>∃ q,e=.returned (.iface 130 (.pointer (some ⟨q,0,none⟩)))∧Gv w' q n (-1) (-1) p∧w.heap.size<=q∧Below w.heap.size w w':=by
 go_enter Tryz.func66,Tryz.ntmps66
 go_wp2;go_ret;refine⟨_,rfl,⟨?_,?_,?_,?_⟩,Nat.le_refl _,by go_grown⟩;all_goals rw [World.cell?_alloc_at _ _ _ _ rfl]; rfl
theorem Ybv (w:World)(s:ByteArray)(v:Value)(o:TypeId):Ks (w.alloc (.cells #[.string s,v,.int .i64 0,.bool false,.bool false,.bool false,.bool false,.bool false,.bool false,.bool false,.bool false,.bool false,.bool false,.bool false,.slice none 0 0,.slice none 0 0,.slice none 0 0,.slice none 0 0,.slice none 0 0,.slice none 0 0,.slice none 0 0,.slice none 0 0,.slice none 0 0,.slice none 0 0,.slice none 0 0] o)) w.heap.size s v 0 (fun _=>false) (fun _=>.slice none 0 0):=by
 have e:∀ j,(w.alloc (.cells #[.string s,v,.int .i64 0,.bool false,.bool false,.bool false,.bool false,.bool false,.bool false,.bool false,.bool false,.bool false,.bool false,.bool false,.slice none 0 0,.slice none 0 0,.slice none 0 0,.slice none 0 0,.slice none 0 0,.slice none 0 0,.slice none 0 0,.slice none 0 0,.slice none 0 0,.slice none 0 0,.slice none 0 0] o)).cell? ⟨w.heap.size,j,none⟩=(#[.string s,v,.int .i64 0,.bool false,.bool false,.bool false,.bool false,.bool false,.bool false,.bool false,.bool false,.bool false,.bool false,.bool false,.slice none 0 0,.slice none 0 0,.slice none 0 0,.slice none 0 0,.slice none 0 0,.slice none 0 0,.slice none 0 0,.slice none 0 0,.slice none 0 0,.slice none 0 0,.slice none 0 0]:Array Value)[j]?:=fun j=>World.cell?_alloc_at _ _ _ _ rfl;refine⟨e 0,e 1,e 2,fun k hk=>?_,fun k hk=>?_,fun j=>World.frozen?_alloc_at _ _ _ _ rfl⟩
 ·rw [e];match k,hk with
  | 0,_ | 1,_ | 2,_ | 3,_ | 4,_ | 5,_ | 6,_ | 7,_ | 8,_ | 9,_ | 10,_=>rfl
 ·rw [e];match k,hk with
  | 0,_ | 1,_ | 2,_ | 3,_ | 4,_ | 5,_ | 6,_ | 7,_ | 8,_ | 9,_ | 10,_=>rfl
theorem Yfi (w:World)(s:ByteArray)(l:List Tk)(v:Value)(o:TypeId):RS s l (w.heap.size+1) (w.alloc (.cells #[.string s,v,.int .i64 0,.bool false,.bool false,.bool false,.bool false,.bool false,.bool false,.bool false,.bool false,.bool false,.bool false,.bool false,.slice none 0 0,.slice none 0 0,.slice none 0 0,.slice none 0 0,.slice none 0 0,.slice none 0 0,.slice none 0 0,.slice none 0 0,.slice none 0 0,.slice none 0 0,.slice none 0 0] o)) w.heap.size v Oj (fun _=>.slice none 0 0) :=
 ⟨Ybv w s v o,fun k hk=>World.ownsRow_nil _ _ _ _,fun _ _ _=>rfl,by simp [Oj],fun _ _ _ _ _ g h=>by simp [Value.ownBlock] at h⟩
def Zad:Value:=.agg (Zu 0 0 0 0 0 (.slice none 0 0) (.slice none 0 0) (.slice none 0 0) 0 0 0 false)
def Zez (S:Uy)(v4 v5 v6:Value):Value:=.agg (Zu ((S.vals 0).getD 0 0) ((S.vals 1).getD 0 0) ((S.vals 2).getD 0 0) ((S.vals 3).getD 0 0) ((S.vals 3).getD 1 0) v4 v5 v6 ((S.vals 7).getD 0 0) ((S.vals 8).getD 0 0) ((S.vals 9).getD 0 0) (S.sn 10))
theorem Zee {w:World}{B:Nat}{u:Value}{ns:List Int}(h:w.ownsRow B 3 1 u ns.length (Yz ns))(g n cap:Nat)(hu:u=.slice (some ⟨g,0,none⟩) n cap)(i:Nat)(hi:i<ns.length):w.cell? ⟨g,i,none⟩=some (.int .i64 (ns.getD i 0)):=by
 rcases h.2 with⟨e,e0⟩ | ⟨g',cap',cur,e,-⟩
 ·omega
 ·rw [hu] at e;injection e with e1 e2 e3;subst e2;rw [hu] at h;rw [h.cellAt i (by omega)];simp [Yz,hi]
theorem Ybw (w:World)(b W0:Nat)(s:ByteArray)(l:List Tk)(v:Value)(S:Uy)(vs:Nat->Value)(h:RS s l W0 w b v S vs)(hp:Rw s l=.inr S) :
 Calls Tryz.prog 71 #[.pointer (some ⟨b,0,none⟩)] w fun e w'=>e=.returned (Zez S (vs 4) (vs 5) (vs 6))∧Below w.heap.size w w':=by
 obtain⟨_,_,⟨x0,q0⟩,⟨x1,q1⟩,⟨x2,q2⟩,⟨x3,y3,q3⟩,_,_,_,⟨x7,q7⟩,⟨x8,q8⟩,⟨x9,q9⟩⟩:=Zkq hp;have one:∀ k x,k<11->S.vals k=[x]->∃ g n p,vs k=.slice (some ⟨g,0,none⟩) (n+1) p∧w.cell? ⟨g,0,none⟩=some (.int .i64 x):=fun k x hk hx=>by
  have r:=h.row k hk;rw [hx] at r;obtain⟨g,cap,e⟩:=Zbb (n:=0) r;have c:=Zee (ns:=[x]) r g 1 cap e 0 (by simp);exact⟨g,0,cap,e,by simpa using c⟩
 have shp:∀ k,k<11->∃ a n p,vs k=.slice a n p:=fun k hk=>by
  rcases(h.row k hk).2 with⟨e,_⟩ | ⟨g,cap,cur,e,-⟩
  ·exact⟨_,_,_,e⟩
  ·exact⟨_,_,_,e⟩
 obtain⟨g0,n0,p0,v0,e0⟩:=one 0 x0 (by decide) q0;obtain⟨g1,n1,p1,v1,e1⟩:=one 1 x1 (by decide) q1;obtain⟨g2,n2,p2,v2,e2⟩:=one 2 x2 (by decide) q2;obtain⟨g7,n7,p7,v7,e7⟩:=one 7 x7 (by decide) q7;obtain⟨g8,n8,p8,v8,e8⟩:=one 8 x8 (by decide) q8;obtain⟨g9,n9,p9,v9,e9⟩:=one 9 x9 (by decide) q9;obtain⟨a4,n4,p4,v4⟩:=shp 4 (by decide);obtain⟨a5,n5,p5,v5⟩:=shp 5 (by decide);obtain⟨a6,n6,p6,v6⟩:=shp 6 (by decide);obtain⟨a10,n10,p10,v10⟩:=shp 10 (by decide);obtain⟨g3,p3,v3⟩:∃ g p,vs 3=.slice (some ⟨g,0,none⟩) 2 p:=by have r:=h.row 3 (by decide);rw [q3] at r;exact Zbb (n:=1) r
 have r3:=h.row 3 (by decide);rw [q3] at r3;have e30:=Zee (ns:=[x3,y3]) r3 g3 2 p3 v3 0 (by simp);have e31:=Zee (ns:=[x3,y3]) r3 g3 2 p3 v3 1 (by simp);simp at e30 e31;have cc:=fun k hk=>h.rdr.vals k hk;have key:=Zxc w b (S.sn 10) g0 n0 p0 g1 n1 p1 g2 n2 p2 g3 0 p3 g7 n7 p7 g8 n8 p8 g9 n9 p9 x0 x1 x2 x3 y3 x7 x8 x9 a4 a5 a6 a10 n4 p4 n5 p5 n6 p6 n10 p10
  ((cc 0 (by decide)).trans (congrArg some v0)) ((cc 1 (by decide)).trans (congrArg some v1)) ((cc 2 (by decide)).trans (congrArg some v2)) ((cc 3 (by decide)).trans (congrArg some v3)) ((cc 4 (by decide)).trans (congrArg some v4)) ((cc 5 (by decide)).trans (congrArg some v5)) ((cc 6 (by decide)).trans (congrArg some v6)) ((cc 7 (by decide)).trans (congrArg some v7)) ((cc 8 (by decide)).trans (congrArg some v8)) ((cc 9 (by decide)).trans (congrArg some v9)) ((cc 10 (by decide)).trans (congrArg some v10)) (h.rdr.seen 10 (by decide)) e0 e1 e2 e30 e31 e7 e8 e9
 refine key.mono ?_;rintro e w' ⟨rfl,hb⟩;refine⟨?_,hb⟩;simp [Zez,Zu,q0,q1,q2,q3,q7,q8,q9,v4,v5,v6]
def Zbf (v4 v5 v6:Value):Prop:=∀ g,(v4.ownBlock=some g->v5.ownBlock≠some g∧v6.ownBlock≠some g)∧(v5.ownBlock=some g->v6.ownBlock≠some g)
def Jg (s:ByteArray)(B:Nat)(arr:Array Value)(ev:Value)(w':World):Prop :=
 match Xo s with
 | .inl (n,p)=>.agg arr=Zad∧∃ q,ev=.iface 130 (.pointer (some ⟨q,0,none⟩))∧B<=q∧Gv w' q n (-1) (-1) p
 | .inr S=>∃ v4 v5 v6,.agg arr=Zez S v4 v5 v6∧ev=.nilIface∧w'.ownsRow B 3 1 v4 (S.vals 4).length (Yz (S.vals 4))∧w'.ownsRow B 3 1 v5 (S.vals 5).length (Yz (S.vals 5))∧w'.ownsRow B 3 1 v6 (S.vals 6).length (Yz (S.vals 6))∧Zbf v4 v5 v6
def Zpq (s:ByteArray)(w:World)(e:Ending)(w':World):Prop :=
 Below w.heap.size w w'∧∃ arr ev,e=.returned (.tuple #[.agg arr,ev])∧arr.size=12∧arr.all (·.oneCell')=true∧Jg s w.heap.size arr ev w'
theorem Jg.mono {s:ByteArray}{B B0:Nat}{arr:Array Value}{ev:Value}{w':World}(h:Jg s B arr ev w')(hB:B0<=B):Jg s B0 arr ev w':=by
 unfold Jg at *;split
 ·rename_i n p hp;rw [hp] at h;obtain⟨h1,q,h2,h3,h4⟩:=h;exact⟨h1,q,h2,by omega,h4⟩
 ·rename_i S hp;rw [hp] at h;obtain⟨v4,v5,v6,h1,h2,h3,h4,h5,h6⟩:=h;exact⟨v4,v5,v6,h1,h2,Jc h3 hB,Jc h4 hB,Jc h5 hB,h6⟩
theorem Jg.setRow {s:ByteArray}{B T:Nat}{arr:Array Value}{ev:Value}{w':World}(h:Jg s B arr ev w')(hT:T<B)(cs:Array Value):Jg s B arr ev (w'.setRow T cs):=by
 unfold Jg at *;split
 ·rename_i n p hp;rw [hp] at h;obtain⟨h1,q,h2,h3,h4⟩:=h;exact⟨h1,q,h2,h3,h4.setRow (by omega) _⟩
 ·rename_i S hp;rw [hp] at h;obtain⟨v4,v5,v6,h1,h2,h3,h4,h5,h6⟩:=h;exact⟨v4,v5,v6,h1,h2,Lg h3 (Lj _ _ _) hT,Lg h4 (Lj _ _ _) hT,Lg h5 (Lj _ _ _) hT,h6⟩
theorem Tryz.infRdr:(Tryz.prog.info? 179).map (·.size)=some 25:=by kernel_rfl
theorem Zks (s:ByteArray)(w:World)(hU:U8 w)(hI:Itm w):Calls Tryz.prog 45 #[.string s] w (Zpq s w):=by
 have hit:=hI.lt;have HU:=Ze hU;have HI:=Ze hI;clear hU hI;by_cases h4:400<s.size
 ·have hF:Xo s=.inl (4,0):=by unfold Xo; rw [if_pos h4]
  go_enter Tryz.func45,Tryz.ntmps45
  go_wp2_with fail
  have HBL:=Ze ((Below.refl w.heap.size w).alloc (Nat.le_refl _) (.cells #[.int .i64 0,.int .i64 0,.int .i64 0,.int .i64 0,.int .i64 0,.slice none 0 0,.slice none 0 0,.slice none 0 0,.int .i64 0,.int .i64 0,.int .i64 0,.bool false] 25 (0,0)));have HR:=Ze (heap_alloc_new w (.cells #[.int .i64 0,.int .i64 0,.int .i64 0,.int .i64 0,.int .i64 0,.slice none 0 0,.slice none 0 0,.slice none 0 0,.int .i64 0,.int .i64 0,.int .i64 0,.bool false] 25 (0,0)));refine(Zci 4 0 _).mono ?_;rintro e wB ⟨q,rfl,hB,hq,hb⟩;have HBL':=Ze ((Zb HBL).trans (hb.mono (by simp)));have HR':=Ze ((hb.block w.heap.size (by simp)).trans (Zb HR));have HB:=Ze hB;clear hB hb;go_wp2_with (refine wpList_store_row rfl 25 (.tmp 2) (.tmp 10) rfl w.heap.size _ rfl rfl 25 _ (Zb HR') Tryz.infTab rfl (by simp [Value.oneCell']) ?_)
  refine bodyPost_ret (Ym (fn:=Tryz.f45) (p:=2) (u:=3) (ty:=25) rfl _ _ w.heap.size 25 #[.int .i64 0,.int .i64 0,.int .i64 0,.int .i64 0,.int .i64 0,.slice none 0 0,.slice none 0 0,.slice none 0 0,.int .i64 0,.int .i64 0,.int .i64 0,.bool false] (0,0) _ rfl (setRow_heap _ _ _ _ _ _ (Zb HR')) Tryz.underlying25 rfl Tryz.infTab) rfl ?_;refine⟨below_setRow (Zb HBL') (Nat.le_refl _) _,_,_,rfl,rfl,by simp [Value.oneCell'],?_⟩;unfold Jg;rw [hF];exact⟨rfl,q,rfl,by first | omega | (simp at hq; omega),(Zb HB).setRow (by first | omega | (simp at hq; omega)) _⟩
 ·go_enter Tryz.func45,Tryz.ntmps45
  go_wp2_with fail
  refine(Yhj s _ (by omega) ((Zb HU).below ((Below.refl w.heap.size w).alloc (Nat.le_refl _) _) (Zb HU).lt)).mono ?_;rintro e w1 ⟨v,r,rfl,hb1,hm⟩;have HBL:=Ze (((Below.refl w.heap.size w).alloc (Nat.le_refl _) _).trans (hb1.mono (by simp)));have HR:=Ze ((hb1.block w.heap.size (by simp)).trans (heap_alloc_new w _));have hsz1:=hb1.size;simp only [World.size_alloc] at hsz1;clear hb1;cases hc:Lp s s.size 0 false [] with
  | inl p =>
   rw [hc] at hm;simp only at hm;subst hm;have hF:Xo s=.inl (1,p):=by unfold Xo; rw [if_neg h4,hc]
   go_wp2_with fail
   refine(Zci 1 p _).mono ?_;rintro e wB ⟨q,rfl,hB,hq,hb⟩;have HBL':=Ze ((Zb HBL).trans (hb.mono (by omega)));have HR':=Ze ((hb.block w.heap.size (by omega)).trans (Zb HR));have HB:=Ze hB;clear hB hb;go_wp2_with (refine wpList_store_row rfl 25 (.tmp 2) (.tmp 19) rfl w.heap.size _ rfl rfl 25 _ (Zb HR') Tryz.infTab rfl (by simp [Value.oneCell']) ?_)
   refine bodyPost_ret (Ym (fn:=Tryz.f45) (p:=2) (u:=3) (ty:=25) rfl _ _ w.heap.size 25 #[.int .i64 0,.int .i64 0,.int .i64 0,.int .i64 0,.int .i64 0,.slice none 0 0,.slice none 0 0,.slice none 0 0,.int .i64 0,.int .i64 0,.int .i64 0,.bool false] (0,0) _ rfl (setRow_heap _ _ _ _ _ _ (Zb HR')) Tryz.underlying25 rfl Tryz.infTab) rfl ?_;refine⟨below_setRow (Zb HBL') (Nat.le_refl _) _,_,_,rfl,rfl,by simp [Value.oneCell'],?_⟩;unfold Jg;rw [hF];exact⟨rfl,q,rfl,by first | omega | (simp at hq; omega),(Zb HB).setRow (by first | omega | (simp at hq; omega)) _⟩
  | inr l =>
   rw [hc] at hm;simp only at hm;obtain⟨rfl,hown⟩:=hm;have hF:Xo s=Rw s l:=by unfold Xo; rw [if_neg h4,hc]
   obtain⟨hw,hl⟩:=Yfj hc;obtain⟨va,vcap,rfl⟩:∃ a cap,v=.slice a l.length cap:=by
    rcases hown.shape with⟨e,rfl⟩ | ⟨g,cap,rfl⟩
    ·subst e; exact⟨_,_,rfl⟩
    ·exact⟨_,_,rfl⟩
   have hvb:(Value.slice va l.length vcap).ownBlock≠some w1.heap.size:=fun e=>by have:=(hown.lt _ e).2; omega
   have HO:=Ze hown;have HW:=Ze hw;clear hown hw hc;go_wp2_with (refine wpList_store_row rfl 179 (.tmp 6) (.tmp 24) rfl w1.heap.size _ rfl rfl 179 _ (heap_alloc_new _ _) Tryz.infRdr rfl (by simp [Value.oneCell']) ?_; rw [Rx])
   have hlow:∀ X,Below w1.heap.size w1 (w1.alloc X):=fun X=>(Below.refl _ _).alloc (Nat.le_refl _) _;have hgw:∀ X,w.grownBy (w1.alloc X) (some w.heap.size):=fun X=>Zo ((Zb HBL).trans ((hlow X).mono (by omega)));have HOA:=Ze (fun X=>(Zb HO).below (hlow X));have HIA:=Ze (fun X=>(Zb HI).grown (hgw X) (Nat.ne_of_lt hit));have HRA:=Ze (fun X=>(Gs w1 X w.heap.size (by omega)).trans (Zb HR));have HBA:=Ze (fun X=>(Zb HBL).trans ((hlow X).mono (by omega)));clear hlow hgw;refine(Zkn _ w1.heap.size _ (w1.heap.size+1) s _ Oj _ l (Yfi w1 s l _ _) (by omega) (by simp) (Zb HOA _) hvb (by omega) (Zb HW) (Zb HIA _) (by omega)).mono ?_;rintro e w2 ⟨rfl,hg2,vs2,hR2⟩;have hz2:=hg2.size;simp only [World.size_alloc] at hz2;have HR2:=Ze ((hg2.block w.heap.size (by simp; omega) (by simp; omega)).trans (Zb HRA _));have HB2:=Ze ((Zb HBA _).trans (⟨hg2.os,hg2.tape,hg2.output,Nat.le_trans (by simp; try omega) hg2.size,fun q hq=>hg2.block q (by simp; omega) (by simp; omega)⟩:Below w.heap.size _ w2));have HO2:=Ze ((Zb HOA _).grown hg2 hvb);have HI2:=Ze ((Zb HIA _).grown hg2 (by omega));have HRS:=Ze hR2;clear hg2 hR2 HOA HIA HRA HBA;cases hok:(Zs s l l.length Oj).1 with
   | false =>
    have HF':Xo s=.inl (1,Zni s l (Zs s l l.length Oj).2.i):=by rw [hF]; unfold Rw; rw [if_neg (by simp [hok])]
    go_wp2_with fail
    refine(Zpp w2 w1.heap.size _ s _ _ _ _ l (Zb HRS).rdr (Zb HO2) (by omega) (Zb HRS).fit).mono ?_;rintro e w3 ⟨rfl,hb3⟩;have hz3:=hb3.size;have HB3:=Ze ((Zb HB2).trans (hb3.mono (by omega)));have HR3:=Ze ((hb3.block w.heap.size (by omega)).trans (Zb HR2));clear hb3;go_wp2_with fail
    refine(Zci 1 (Zni s l (Zs s l l.length Oj).2.i) _).mono ?_;rintro e wB ⟨q,rfl,hB,hq,hb⟩;have HBL':=Ze ((Zb HB3).trans (hb.mono (by omega)));have HR':=Ze ((hb.block w.heap.size (by omega)).trans (Zb HR3));have HB:=Ze hB;clear hB hb;go_wp2_with (refine wpList_store_row rfl 25 (.tmp 2) (.tmp 31) rfl w.heap.size _ rfl rfl 25 _ (Zb HR') Tryz.infTab rfl (by simp [Value.oneCell']) ?_)
    refine bodyPost_ret (Ym (fn:=Tryz.f45) (p:=2) (u:=3) (ty:=25) rfl _ _ w.heap.size 25 #[.int .i64 0,.int .i64 0,.int .i64 0,.int .i64 0,.int .i64 0,.slice none 0 0,.slice none 0 0,.slice none 0 0,.int .i64 0,.int .i64 0,.int .i64 0,.bool false] (0,0) _ rfl (setRow_heap _ _ _ _ _ _ (Zb HR')) Tryz.underlying25 rfl Tryz.infTab) rfl ?_;refine⟨below_setRow (Zb HBL') (Nat.le_refl _) _,_,_,rfl,rfl,by simp [Value.oneCell'],?_⟩;unfold Jg;rw [HF'];exact⟨rfl,q,rfl,by first | omega | (simp at hq; omega),(Zb HB).setRow (by first | omega | (simp at hq; omega)) _⟩
   | true =>
    go_wp2_with fail
    refine(Zxe w2 w1.heap.size s _ _ _ _ (Zb HRS).rdr (Zb HI2)).mono ?_;rintro e w3 ⟨rfl,h3⟩;subst w3;cases hall:Zfa (Zs s l l.length Oj).2.sn with
    | false =>
     have HF':Xo s=.inl (1,Zni s l (Zs s l l.length Oj).2.i):=by rw [hF]; unfold Rw; rw [if_neg (by simp [hall])]
     go_wp2_with fail
     refine(Zpp w2 w1.heap.size _ s _ _ _ _ l (Zb HRS).rdr (Zb HO2) (by omega) (Zb HRS).fit).mono ?_;rintro e w3 ⟨rfl,hb3⟩;have hz3:=hb3.size;have HB3:=Ze ((Zb HB2).trans (hb3.mono (by omega)));have HR3:=Ze ((hb3.block w.heap.size (by omega)).trans (Zb HR2));clear hb3;go_wp2_with fail
     refine(Zci 1 (Zni s l (Zs s l l.length Oj).2.i) _).mono ?_;rintro e wB ⟨q,rfl,hB,hq,hb⟩;have HBL':=Ze ((Zb HB3).trans (hb.mono (by omega)));have HR':=Ze ((hb.block w.heap.size (by omega)).trans (Zb HR3));have HB:=Ze hB;clear hB hb;go_wp2_with (refine wpList_store_row rfl 25 (.tmp 2) (.tmp 31) rfl w.heap.size _ rfl rfl 25 _ (Zb HR') Tryz.infTab rfl (by simp [Value.oneCell']) ?_)
     refine bodyPost_ret (Ym (fn:=Tryz.f45) (p:=2) (u:=3) (ty:=25) rfl _ _ w.heap.size 25 #[.int .i64 0,.int .i64 0,.int .i64 0,.int .i64 0,.int .i64 0,.slice none 0 0,.slice none 0 0,.slice none 0 0,.int .i64 0,.int .i64 0,.int .i64 0,.bool false] (0,0) _ rfl (setRow_heap _ _ _ _ _ _ (Zb HR')) Tryz.underlying25 rfl Tryz.infTab) rfl ?_;refine⟨below_setRow (Zb HBL') (Nat.le_refl _) _,_,_,rfl,rfl,by simp [Value.oneCell'],?_⟩;unfold Jg;rw [HF'];exact⟨rfl,q,rfl,by first | omega | (simp at hq; omega),(Zb HB).setRow (by first | omega | (simp at hq; omega)) _⟩
    | true =>
     have HP:Rw s l=.inr (Zs s l l.length Oj).2:=by unfold Rw; rw [if_pos ⟨hok,hall⟩]
     go_wp2_with fail
     refine(Ybw w2 w1.heap.size (w1.heap.size+1) s l _ _ vs2 (Zb HRS) HP).mono ?_;rintro e w3 ⟨rfl,hb3⟩;have hz3:=hb3.size;have HB3:=Ze ((Zb HB2).trans (hb3.mono (by omega)));have HR3:=Ze ((hb3.block w.heap.size (by omega)).trans (Zb HR2));have HRW:=Ze (fun k hk=>((Zb HRS).below hb3).row k hk);have HAP:=Ze (show Zbf (vs2 4) (vs2 5) (vs2 6) from fun g=>⟨fun h=>⟨(Zb HRS).apart 4 5 (by decide) (by decide) (by decide) g h,(Zb HRS).apart 4 6 (by decide) (by decide) (by decide) g h⟩,fun h=>(Zb HRS).apart 5 6 (by decide) (by decide) (by decide) g h⟩);clear hb3;have shp:∀ k,k<11->∃ a n p,vs2 k=.slice a n p:=fun k hk=>by
      rcases(Zb HRW k hk).2 with⟨e,_⟩ | ⟨g,cap,cur,e,-⟩
      ·exact⟨_,_,_,e⟩
      ·exact⟨_,_,_,e⟩
     obtain⟨a4,n4,p4,v4⟩:=shp 4 (by decide);obtain⟨a5,n5,p5,v5⟩:=shp 5 (by decide);obtain⟨a6,n6,p6,v6⟩:=shp 6 (by decide);have hA1:(Zu (((Zs s l l.length Oj).2.vals 0).getD 0 0) (((Zs s l l.length Oj).2.vals 1).getD 0 0) (((Zs s l l.length Oj).2.vals 2).getD 0 0) (((Zs s l l.length Oj).2.vals 3).getD 0 0) (((Zs s l l.length Oj).2.vals 3).getD 1 0) (vs2 4) (vs2 5) (vs2 6) (((Zs s l l.length Oj).2.vals 7).getD 0 0) (((Zs s l l.length Oj).2.vals 8).getD 0 0) (((Zs s l l.length Oj).2.vals 9).getD 0 0) ((Zs s l l.length Oj).2.sn 10)).size=12:=rfl;have hA2:(Zu (((Zs s l l.length Oj).2.vals 0).getD 0 0) (((Zs s l l.length Oj).2.vals 1).getD 0 0) (((Zs s l l.length Oj).2.vals 2).getD 0 0) (((Zs s l l.length Oj).2.vals 3).getD 0 0) (((Zs s l l.length Oj).2.vals 3).getD 1 0) (vs2 4) (vs2 5) (vs2 6) (((Zs s l l.length Oj).2.vals 7).getD 0 0) (((Zs s l l.length Oj).2.vals 8).getD 0 0) (((Zs s l l.length Oj).2.vals 9).getD 0 0) ((Zs s l l.length Oj).2.sn 10)).all (·.oneCell')=true:=by rw [v4,v5,v6]; simp [Zu,Value.oneCell']
     clear v4 v5 v6 shp;unfold Zez;generalize hA:Zu (((Zs s l l.length Oj).2.vals 0).getD 0 0) (((Zs s l l.length Oj).2.vals 1).getD 0 0) (((Zs s l l.length Oj).2.vals 2).getD 0 0) (((Zs s l l.length Oj).2.vals 3).getD 0 0) (((Zs s l l.length Oj).2.vals 3).getD 1 0) (vs2 4) (vs2 5) (vs2 6) (((Zs s l l.length Oj).2.vals 7).getD 0 0) (((Zs s l l.length Oj).2.vals 8).getD 0 0) (((Zs s l l.length Oj).2.vals 9).getD 0 0) ((Zs s l l.length Oj).2.sn 10)=arr at hA1 hA2 ⊢;go_wp2_with (refine wpList_store_row rfl 25 (.tmp 2) (.tmp 34) rfl w.heap.size arr rfl rfl 25 _ (Zb HR3) (Tryz.infTab.trans (congrArg some hA1.symm)) hA1.symm hA2 ?_)
     refine bodyPost_ret (Ym (fn:=Tryz.f45) (p:=2) (u:=3) (ty:=25) rfl _ _ w.heap.size 25 arr (0,0) _ rfl (setRow_heap _ _ _ _ _ _ (Zb HR3)) Tryz.underlying25 rfl (Tryz.infTab.trans (congrArg some hA1.symm))) rfl ?_;have row:=fun k hk=>Jc (Lg (Zb HRW k hk) (Lj w3 w.heap.size arr) (by omega)) (show w.heap.size<=w1.heap.size+1 by omega);refine⟨below_setRow (Zb HB3) (Nat.le_refl _) _,_,_,rfl,hA1,hA2,?_⟩;unfold Jg;rw [hF,HP];exact⟨vs2 4,vs2 5,vs2 6,by rw [← hA]; rfl,rfl,row 4 (by decide),row 5 (by decide),row 6 (by decide),Zb HAP⟩
set_option maxHeartbeats 4000000
set_option maxRecDepth 100000
def Jz (r sp lk t0 t1:Int)(ag rs ss:List Int):Bool:=Xz (Yp sp lk t0 t1) r&&(Xz ag r&&!Mu ag (Yp sp lk t0 t1))&&(Xz rs r&&!Mu rs (Yp sp lk t0 t1))&&(Xz ss r&&!Mu ss (Yp sp lk t0 t1))&&!Mu ss ag&&!Mu ss rs
theorem Zek (r sp lk t0 t1:Int)(va vr vs:Value)(al sh by_:Int)(pr:Bool)(ag rs ss:List Int)(w:World)(ha:Rs w va ag)(hr:Rs w vr rs)(hs:Rs w vs ss)(ca:∀ a n cap,va=.slice a n cap->n<=cap)(cr:∀ a n cap,vr=.slice a n cap->n<=cap)(cs:∀ a n cap,vs=.slice a n cap->n<=cap)(la:ag.length<=8)(lr:rs.length<=4)(ls:ss.length<=12):Calls Tryz.prog 76 #[.agg (Zu r sp lk t0 t1 va vr vs al sh by_ pr)] w fun e w'=>e=.returned (.bool (Jz r sp lk t0 t1 ag rs ss))∧Below w.heap.size w w':=by
 obtain⟨pa,xa,rfl⟩:=ha.shape;obtain⟨pq,xr,rfl⟩:=hr.shape;obtain⟨ps,xs,rfl⟩:=hs.shape;have HA0:=Ze ha;have HR0:=Ze hr;have HS0:=Ze hs;have HAC:=Ze ca;have HRC:=Ze cr;have HSC:=Ze cs;clear ha hr hs ca cr cs;unfold Zu;go_enter Tryz.func76,Tryz.ntmps76
 go_wp2_with fail
 refine(Zeg r sp lk t0 t1 _ _ _ al sh by_ pr _).mono ?_;rintro e w1 ⟨vo,rfl,hRo,hco,hb1⟩;have hz1:=hb1.size;simp only [World.size_alloc] at hz1;have q0:=(Yl ((hb1.block w.heap.size (by simp)).trans (heap_alloc_new w _))).1;have HB:=Ze (((Below.refl w.heap.size w).alloc (Nat.le_refl _) _).trans (hb1.mono (by simp)));have HO:=Ze (fun X:Obj=>hRo.below ((Below.refl w1.heap.size w1).alloc (Nat.le_refl _) X));have HA:=Ze (fun X:Obj=>((Zb HA0).below (Zb HB)).below ((Below.refl w1.heap.size w1).alloc (Nat.le_refl _) X));have HR:=Ze (fun X:Obj=>((Zb HR0).below (Zb HB)).below ((Below.refl w1.heap.size w1).alloc (Nat.le_refl _) X));have HS:=Ze (fun X:Obj=>((Zb HS0).below (Zb HB)).below ((Below.refl w1.heap.size w1).alloc (Nat.le_refl _) X));have hol:=Zxi sp lk t0 t1;have c0:=q0 0;have c5:=q0 5;have c6:=q0 6;have c7:=q0 7;simp at c0 c5 c6 c7;have d0:=fun X:Obj=>(World.cell?_alloc_lt w1 X ⟨w.heap.size,0,none⟩ (show w.heap.size<w1.heap.size by omega)).trans c0;have d5:=fun X:Obj=>(World.cell?_alloc_lt w1 X ⟨w.heap.size,5,none⟩ (show w.heap.size<w1.heap.size by omega)).trans c5;have d6:=fun X:Obj=>(World.cell?_alloc_lt w1 X ⟨w.heap.size,6,none⟩ (show w.heap.size<w1.heap.size by omega)).trans c6;have d7:=fun X:Obj=>(World.cell?_alloc_lt w1 X ⟨w.heap.size,7,none⟩ (show w.heap.size<w1.heap.size by omega)).trans c7;have HRO:=Ze hRo;have HCO:=Ze hco;clear hb1 q0 hRo hco HA0 HR0 HS0;go_wp2_with fail
 refine(Mv (Yp sp lk t0 t1) r vo w1 (Zb HRO) (by omega) (Zb HCO)).mono ?_;rintro e w2 ⟨rfl,h2⟩;subst w2;cases y0:Xz (Yp sp lk t0 t1) r with
 | false=>have HY:=Ze y0;clear y0;go_wp2;go_ret;exact⟨by simp [Jz,Zb HY],Zb HB⟩
 | true =>
  have HY0:=Ze y0;clear y0;go_wp2_with fail
  refine wp_loop_rounds 4 ?_;rw [rounds_succ];go_wp2_with fail
  refine(Mv ag r _ _ (Zb HA _) (by omega) (Zb HAC)).mono ?_;rintro e w2 ⟨rfl,h2⟩;subst w2;cases y1:Xz ag r with
  | false=>have HY:=Ze y1;clear y1;go_wp2;go_ret;exact⟨by simp [Jz,Zb HY],(Zb HB).alloc (by omega) _⟩
  | true =>
   have HY1:=Ze y1;clear y1;go_wp2_with fail
   refine(Zei ag (Yp sp lk t0 t1) _ vo _ (Zb HA _) (Zb HO _) (by omega) (by omega)).mono ?_;rintro e w2 ⟨rfl,h2⟩;subst w2;cases z1:Mu ag (Yp sp lk t0 t1) with
   | true=>have HY:=Ze z1;clear z1;go_wp2;go_ret;exact⟨by simp [Jz,Zb HY],(Zb HB).alloc (by omega) _⟩
   | false =>
    have HZ1:=Ze z1;clear z1;go_wp2_with fail
    rw [rounds_succ];go_wp2_with fail
    refine(Mv rs r _ _ (Zb HR _) (by omega) (Zb HRC)).mono ?_;rintro e w2 ⟨rfl,h2⟩;subst w2;cases y2:Xz rs r with
    | false=>have HY:=Ze y2;clear y2;go_wp2;go_ret;exact⟨by simp [Jz,Zb HY],(Zb HB).alloc (by omega) _⟩
    | true =>
     have HY2:=Ze y2;clear y2;go_wp2_with fail
     refine(Zei rs (Yp sp lk t0 t1) _ vo _ (Zb HR _) (Zb HO _) (by omega) (by omega)).mono ?_;rintro e w2 ⟨rfl,h2⟩;subst w2;cases z2:Mu rs (Yp sp lk t0 t1) with
     | true=>have HY:=Ze z2;clear z2;go_wp2;go_ret;exact⟨by simp [Jz,Zb HY],(Zb HB).alloc (by omega) _⟩
     | false =>
      have HZ2:=Ze z2;clear z2;go_wp2_with fail
      rw [rounds_succ];go_wp2_with fail
      refine(Mv ss r _ _ (Zb HS _) (by omega) (Zb HSC)).mono ?_;rintro e w2 ⟨rfl,h2⟩;subst w2;cases y3:Xz ss r with
      | false=>have HY:=Ze y3;clear y3;go_wp2;go_ret;exact⟨by simp [Jz,Zb HY],(Zb HB).alloc (by omega) _⟩
      | true =>
       have HY3:=Ze y3;clear y3;go_wp2_with fail
       refine(Zei ss (Yp sp lk t0 t1) _ vo _ (Zb HS _) (Zb HO _) (by omega) (by omega)).mono ?_;rintro e w2 ⟨rfl,h2⟩;subst w2;cases z3:Mu ss (Yp sp lk t0 t1) with
       | true=>have HY:=Ze z3;clear z3;go_wp2;go_ret;exact⟨by simp [Jz,Zb HY],(Zb HB).alloc (by omega) _⟩
       | false =>
        have HZ3:=Ze z3;clear z3;go_wp2_with fail
        rw [rounds_succ];go_wp2_with fail
        refine(Zei ss ag _ _ _ (Zb HS _) (Zb HA _) (by omega) (by omega)).mono ?_;rintro e w2 ⟨rfl,h2⟩;subst w2;cases x1:Mu ss ag with
        | true=>have HY:=Ze x1;clear x1;go_wp2;go_ret;exact⟨by simp [Jz,Zb HY],(Zb HB).alloc (by omega) _⟩
        | false =>
         have HX1:=Ze x1;clear x1;go_wp2_with fail
         refine(Zei ss rs _ _ _ (Zb HS _) (Zb HR _) (by omega) (by omega)).mono ?_;rintro e w2 ⟨rfl,h2⟩;subst w2;cases x2:Mu ss rs with
         | true=>have HY:=Ze x2;clear x2;go_wp2;go_ret;exact⟨by simp [Jz,Zb HY,Zb HX1,Zb HZ1,Zb HZ2,Zb HZ3,Zb HY1,Zb HY2,Zb HY3,Zb HY0],(Zb HB).alloc (by omega) _⟩
         | false=>have HY:=Ze x2;clear x2;go_wp2;go_ret;exact⟨by simp [Jz,Zb HY,Zb HX1,Zb HZ1,Zb HZ2,Zb HZ3,Zb HY1,Zb HY2,Zb HY3,Zb HY0],(Zb HB).alloc (by omega) _⟩
def Zhx (b:Bool):Value:=match b with
 | true=>.nilIface
 | false=>.iface 127 (.int .i64 2)
def Jl (r sp lk t0 t1:Int)(ag rs ss:List Int)(al sh by_:Int):Bool:=Zaf r al sh by_&&Zeh ag rs ss&&Jz r sp lk t0 t1 ag rs ss
theorem Zcj (r sp lk t0 t1:Int)(va vr vs:Value)(al sh by_:Int)(pr:Bool)(ag rs ss:List Int)(w:World)(ha:Rs w va ag)(hr:Rs w vr rs)(hs:Rs w vs ss)(ca:∀ a n cap,va=.slice a n cap->n<=cap)(cr:∀ a n cap,vr=.slice a n cap->n<=cap)(cs:∀ a n cap,vs=.slice a n cap->n<=cap):Calls Tryz.prog 47 #[.agg (Zu r sp lk t0 t1 va vr vs al sh by_ pr)] w fun e w'=>e=.returned (Zhx (Jl r sp lk t0 t1 ag rs ss al sh by_))∧Below w.heap.size w w':=by
 have HA0:=Ze ha;have HR0:=Ze hr;have HS0:=Ze hs;have HAC:=Ze ca;have HRC:=Ze cr;have HSC:=Ze cs;have SA:=Ze ha.shape;have SR:=Ze hr.shape;have SS:=Ze hs.shape;clear ha hr hs ca cr cs;have HB0:=Ze (fun X:Obj=>(Below.refl w.heap.size w).alloc (Nat.le_refl _) X);have HD:=Ze (fun(u:World) (X:Obj) (cs:Array Value) (h:Below (w.alloc X).heap.size (w.alloc X) u) (hX:X=.cells cs 25 (0,0))=>(h.block w.heap.size (by simp)).trans ((heap_alloc_new w X).trans (congrArg some hX)));unfold Zu;go_enter Tryz.func47,Tryz.ntmps47
 go_wp2_with fail
 refine(Zht r sp lk t0 t1 va vr vs al sh by_ pr _).mono ?_;rintro e w1 ⟨rfl,hb1⟩;have q1:=Yl (Zb HD _ _ _ hb1 rfl);have HB1:=Ze hb1;have hz1:=hb1.size;simp only [World.size_alloc] at hz1;have b1:=Zb HD _ _ _ hb1 rfl;clear hb1;cases y1:Zaf r al sh by_ with
 | false=>have HY:=Ze y1;clear y1 q1 b1;go_wp2;go_ret;exact⟨by rw [show Jl r sp lk t0 t1 ag rs ss al sh by_=false by simp [Jl,Zb HY]]; rfl,(Zb HB0 _).trans ((Zb HB1).mono (by simp))⟩
 | true =>
  have HY1:=Ze y1;clear y1;have k1:=q1.1;clear q1;go_wp2_with fail
  refine(Znn r sp lk t0 t1 va vr vs al sh by_ pr ag rs ss _ (Zb SA) (Zb SR) (Zb SS)).mono ?_;rintro e w2 ⟨rfl,hb2⟩;have hb2':=(Zb HB1).trans (hb2.mono (by simp; omega));have HB2:=Ze hb2';have hz2:=hb2.size;have k2:=(Yl (Zb HD _ _ _ hb2' rfl)).1;clear hb2 hb2' k1 b1;cases y2:Zeh ag rs ss with
  | false=>have HY:=Ze y2;clear y2 k2;go_wp2;go_ret;exact⟨by rw [show Jl r sp lk t0 t1 ag rs ss al sh by_=false by simp [Jl,Zb HY]]; rfl,(Zb HB0 _).trans ((Zb HB2).mono (by simp))⟩
  | true =>
   have hl:ag.length<=8∧rs.length<=4∧ss.length<=12:=of_decide_eq_true y2;have HY2:=Ze y2;have HL:=Ze hl;have HB3:=Ze ((Zb HB0 _).trans ((Zb HB2).mono (by simp)));clear y2 hl;go_wp2_with fail
   refine(Zek r sp lk t0 t1 va vr vs al sh by_ pr ag rs ss _ ((Zb HA0).below (Zb HB3)) ((Zb HR0).below (Zb HB3)) ((Zb HS0).below (Zb HB3)) (Zb HAC) (Zb HRC) (Zb HSC) (Zb HL).1 (Zb HL).2.1 (Zb HL).2.2).mono ?_;rintro e w3 ⟨rfl,hb3⟩;have HB4:=Ze ((Zb HB3).trans (hb3.mono (by omega)));clear hb3 k2;cases y3:Jz r sp lk t0 t1 ag rs ss with
   | false=>have HY:=Ze y3;clear y3;go_wp2;go_ret;exact⟨by rw [show Jl r sp lk t0 t1 ag rs ss al sh by_=false by simp [Jl,Zb HY]]; rfl,Zb HB4⟩
   | true=>have HY:=Ze y3;clear y3;go_wp2;go_ret;exact⟨by rw [show Jl r sp lk t0 t1 ag rs ss al sh by_=true by simp [Jl,Zb HY,Zb HY1,Zb HY2]]; rfl,Zb HB4⟩
theorem Zag {l:List Int}{c:Int}(h:Xz l c=true):∀ n ∈ l,0<=n∧n<c:=by
 intro n hn;obtain⟨q,hq,rfl⟩:=List.getElem_of_mem hn;have h1:=(List.all_eq_true.1 h) q (List.mem_range.2 hq);unfold Zfb at h1;have hg:l.getD q 0=l[q]:=by simp [List.getD,hq]
 rw [hg] at h1;have:=of_decide_eq_true h1;exact⟨this.1,this.2.1⟩
end Go.Proofs.YtkenknfgeoecbaaGreatDoor
