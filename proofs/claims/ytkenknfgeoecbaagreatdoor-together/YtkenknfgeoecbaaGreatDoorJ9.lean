import Derived.Test.YtkenknfgeoecbaaGreatDoorPsTable
import Derived.Test.YtkenknfgeoecbaaGreatDoorJ12
namespace Go.Proofs.YtkenknfgeoecbaaGreatDoor
open Go.RowKit
def Zmy (s:ByteArray)(l:List Tk)(i:Nat):Nat:=match l[i]? with | some t=>t.a | none=>s.size
def Ny:Um:=⟨0,fun _=>false,fun _=>[]⟩
def Rb (s:ByteArray)(l:List Tk):(Nat×Nat) ⊕ Um :=
 if (Zr s l l.length Ny).1=true∧Zea (Zr s l l.length Ny).2.sn=true then .inr (Zr s l l.length Ny).2 else .inl (1,Zmy s l (Zr s l l.length Ny).2.i)
def Xk (s:ByteArray):(Nat×Nat) ⊕ Um :=
 if 400<s.size then .inl (4,0) else
  match Lb s s.size 0 false [] with
  | .inl p=>.inl (1,p)
  | .inr l=>Rb s l
def Zvj (S:Um):Prop:=∀ k,k<11->S.sn k=true->loK k<=(S.vals k).length∧(S.vals k).length<=hiK k
theorem Zff (s:ByteArray)(l:List Tk)(k:Nat):∀(f i:Nat) (ns:List Int),ns.length<=hiK k->(Gc s l k f i ns).2.length<=hiK k
 | 0,i,ns,h=>h
 | f+1,i,ns,h=>by
  unfold Gc;split
  ·split
   ·exact Zff s l k f (i+1) _ (by simp; omega)
   ·exact h
  ·exact h
theorem Zmz {s:ByteArray}{l:List Tk}{S:Um}(h:(Gz s l S).1=true)(hg:Zvj S):Zvj (Gz s l S).2∧(Gz s l S).2.i<=l.length:=by
 unfold Gz at h ⊢;split at h
 ·simp at h
 ·rename_i k hk;have hn:=Zff s l k 13 (S.i+1) [] (by simp);split at h
  ·split at h
   ·rename_i h1 h2;simp only [h1,h2,if_true];refine⟨fun j hj hs=>?_,by have:=Yfs h2; omega⟩;by_cases hjk:j=k
    ·subst hjk;simp only [Zda,if_true];exact⟨h1,hn⟩
    ·simp only [Zda,Zcz,hjk,if_false] at hs ⊢;exact hg j hj hs
   ·simp at h
  ·simp at h
theorem Zaq {s:ByteArray}{l:List Tk}:∀(f:Nat) (S S':Um),Zr s l f S=(true,S')->S.i<=l.length->l.length<=S.i+f->Zvj S->S'.i=l.length∧Zvj S'
 | 0,S,S',h,h1,h2,hg=>by
  unfold Zr at h;injection h with _ h;subst h;exact⟨by omega,hg⟩
 | f+1,S,S',h,h1,h2,hg=>by
  unfold Zr at h;split at h
  ·split at h
   ·rename_i hok;have:=Zjq hok;obtain⟨g1,g2⟩:=Zmz hok hg;exact Zaq f _ S' h g2 (by omega) g1
   ·cases h
  ·injection h with _ h;subst h;exact⟨by omega,hg⟩
theorem Yfv:Zvj Ny:=fun k _ h=>by simp [Ny] at h
theorem Zvk {sn:Nat->Bool}(h:Zea sn=true)(k:Nat)(hk:k<10):sn k=true:=by unfold Zea at h;rw [List.all_eq_true] at h;exact h k (List.mem_range.2 hk)
theorem Iw {α:Type}{l:List α}(h:1<=l.length∧l.length<=1):∃ x,l=[x]:=by
 match l,h with
 | [x],_=>exact⟨x,rfl⟩
theorem Yds {α:Type}{l:List α}(h:2<=l.length∧l.length<=2):∃ x y,l=[x,y]:=by
 match l,h with
 | [x,y],_=>exact⟨x,y,rfl⟩
theorem Zju {s:ByteArray}{l:List Tk}{S:Um}(h:Rb s l=.inr S) :
 Zr s l l.length Ny=(true,S)∧S.i=l.length∧(∃ x,S.vals 0=[x])∧(∃ x,S.vals 1=[x])∧(∃ x,S.vals 2=[x])∧(∃ x y,S.vals 3=[x,y])∧(S.vals 4).length<=8∧(S.vals 5).length<=4∧(S.vals 6).length<=12∧(∃ x,S.vals 7=[x])∧(∃ x,S.vals 8=[x])∧(∃ x,S.vals 9=[x]):=by
 unfold Rb at h;split at h
 ·rename_i hc;injection h with h;have he:Zr s l l.length Ny=(true,S):=by rw [← h];generalize Zr s l l.length Ny=r at *;obtain⟨a,b⟩:=r;simp at hc ⊢;exact hc.1
  obtain⟨h1,h2⟩:=Zaq l.length Ny S he (by simp [Ny]) (by simp [Ny]) Yfv;have ha:Zea S.sn=true:=by rw [← h]; exact hc.2
  have g:=fun k (hk:k<10)=>h2 k (by omega) (Zvk ha k hk);exact⟨he,h1,Iw (g 0 (by decide)),Iw (g 1 (by decide)),Iw (g 2 (by decide)),Yds (g 3 (by decide)),(g 4 (by decide)).2,(g 5 (by decide)).2,(g 6 (by decide)).2,Iw (g 7 (by decide)),Iw (g 8 (by decide)),Iw (g 9 (by decide))⟩
 ·cases h
set_option maxHeartbeats 8000000
set_option maxRecDepth 100000
theorem Ym {P:Program}{fn:Func}{p u:Tmp}{ty:TypeId}(h:fn.results=#[.cell p ty,.tmp u])(tmps:Array Value)(w:World)(g:Nat)(t:TypeId)(cs:Array Value)(fr:Nat×Nat)(d:TypeDesc)
 (hp:tmps.getD p undef=.pointer (some ⟨g,0,none⟩)) (hg:w.heap[g]?=some (.cells cs t fr))
 (hu:P.underlying ty=some d) (hd:(match d with | .struct _ | .array _ _=>true | _=>false)=true) (hi:(P.info? ty).map (·.size)=some cs.size) :
 (results fn tmps).run P w=.ok (.tuple #[.agg cs,tmps.getD u undef]) w:=by
 rw [results_cell_tmp h,hp];simp [asAddr,run_loadVar_row w g t ty cs fr d hg hu hd hi]
theorem Rc (w:World)(z cs:Array Value)(t:TypeId)(fr:Nat×Nat):(w.alloc (.cells z t fr)).setRow w.heap.size cs=w.alloc (.cells cs t fr):=by
 unfold World.setRow World.alloc;simp only [World.mk.injEq,and_true];apply Array.ext
 ·simp
 ·intro k h1 h2;simp only [Array.getElem_modify,Array.getElem_push];split
  ·rename_i h; subst h; simp
  ·rename_i h;have:k<w.heap.size:=by simp at h1; omega
   simp [this]
theorem Gx (w:World)(T:Nat)(cs:Array Value):w.grownBy (w.setRow T cs) (some T):=⟨rfl,rfl,rfl,by simp,fun k _ hk=>setRow_other w T k cs (fun e=>hk (by simp [e]))⟩
theorem Gk.setRow {w:World}{q T:Nat}{n f b a:Int}(h:Gk w q n f b a)(hq:q≠T)(cs:Array Value):Gk (w.setRow T cs) q n f b a :=
 have e:=setRow_other w T q cs hq;⟨(World.cell?_of_block e).trans h.c0,(World.cell?_of_block e).trans h.c1,(World.cell?_of_block e).trans h.c2,(World.cell?_of_block e).trans h.c3⟩
theorem Tryz.infTab:(Tryz.prog.info? 25).map (·.size)=some 12:=by kernel_rfl
theorem Zph (w:World)(b base:Nat)(s:ByteArray)(v:Value)(i:Nat)(sn:Nat->Bool)(vs:Nat->Value)(l:List Tk)(h:So w b s v i sn vs)(ho:Yt w base v l)(hl:l.length<=400)(hi:i<=l.length) :
 Calls Tryz.prog 70 #[.pointer (some ⟨b,0,none⟩)] w fun e w'=>e=.returned (.int .i64 (Zmy s l i))∧Below w.heap.size w w':=by
 unfold Zmy;cases ht:l[i]? with
 | some t=>exact Zvp w b base s v i sn vs l t h ho hl ht
 | none=>obtain rfl:i=l.length:=Nat.le_antisymm hi (List.getElem?_eq_none_iff.1 ht);exact Zrl w b base s v sn vs l h ho hl
theorem Zbg (n p:Int)(w:World) :
 Calls Tryz.prog 66 #[.int .i64 n,.int .i64 p] w fun e w'=>∃ q,e=.returned (.iface 130 (.pointer (some ⟨q,0,none⟩)))∧Gk w' q n (-1) (-1) p∧w.heap.size<=q∧Below w.heap.size w w':=by
 go_enter Tryz.func66,Tryz.ntmps66
 go_wp2;go_ret;refine⟨_,rfl,⟨?_,?_,?_,?_⟩,Nat.le_refl _,by go_grown⟩;all_goals rw [World.cell?_alloc_at _ _ _ _ rfl]; rfl
theorem Yae (w:World)(s:ByteArray)(v:Value)(o:TypeId):So (w.alloc (.cells #[.string s,v,.int .i64 0,.bool false,.bool false,.bool false,.bool false,.bool false,.bool false,.bool false,.bool false,.bool false,.bool false,.bool false,.slice none 0 0,.slice none 0 0,.slice none 0 0,.slice none 0 0,.slice none 0 0,.slice none 0 0,.slice none 0 0,.slice none 0 0,.slice none 0 0,.slice none 0 0,.slice none 0 0] o)) w.heap.size s v 0 (fun _=>false) (fun _=>.slice none 0 0):=by
 have e:∀ j,(w.alloc (.cells #[.string s,v,.int .i64 0,.bool false,.bool false,.bool false,.bool false,.bool false,.bool false,.bool false,.bool false,.bool false,.bool false,.bool false,.slice none 0 0,.slice none 0 0,.slice none 0 0,.slice none 0 0,.slice none 0 0,.slice none 0 0,.slice none 0 0,.slice none 0 0,.slice none 0 0,.slice none 0 0,.slice none 0 0] o)).cell? ⟨w.heap.size,j,none⟩=(#[.string s,v,.int .i64 0,.bool false,.bool false,.bool false,.bool false,.bool false,.bool false,.bool false,.bool false,.bool false,.bool false,.bool false,.slice none 0 0,.slice none 0 0,.slice none 0 0,.slice none 0 0,.slice none 0 0,.slice none 0 0,.slice none 0 0,.slice none 0 0,.slice none 0 0,.slice none 0 0,.slice none 0 0]:Array Value)[j]?:=fun j=>World.cell?_alloc_at _ _ _ _ rfl;refine⟨e 0,e 1,e 2,fun k hk=>?_,fun k hk=>?_,fun j=>World.frozen?_alloc_at _ _ _ _ rfl⟩
 ·rw [e];match k,hk with
  | 0,_ | 1,_ | 2,_ | 3,_ | 4,_ | 5,_ | 6,_ | 7,_ | 8,_ | 9,_ | 10,_=>rfl
 ·rw [e];match k,hk with
  | 0,_ | 1,_ | 2,_ | 3,_ | 4,_ | 5,_ | 6,_ | 7,_ | 8,_ | 9,_ | 10,_=>rfl
theorem Ydu (w:World)(s:ByteArray)(l:List Tk)(v:Value)(o:TypeId):RS s l (w.heap.size+1) (w.alloc (.cells #[.string s,v,.int .i64 0,.bool false,.bool false,.bool false,.bool false,.bool false,.bool false,.bool false,.bool false,.bool false,.bool false,.bool false,.slice none 0 0,.slice none 0 0,.slice none 0 0,.slice none 0 0,.slice none 0 0,.slice none 0 0,.slice none 0 0,.slice none 0 0,.slice none 0 0,.slice none 0 0,.slice none 0 0] o)) w.heap.size v Ny (fun _=>.slice none 0 0) :=
 ⟨Yae w s v o,fun k hk=>World.ownsRow_nil _ _ _ _,fun _ _ _=>rfl,by simp [Ny],fun _ _ _ _ _ g h=>by simp [Value.ownBlock] at h⟩
def Cn:Value:=.agg (Zt 0 0 0 0 0 (.slice none 0 0) (.slice none 0 0) (.slice none 0 0) 0 0 0 false)
def Zdz (S:Um)(v4 v5 v6:Value):Value:=.agg (Zt ((S.vals 0).getD 0 0) ((S.vals 1).getD 0 0) ((S.vals 2).getD 0 0) ((S.vals 3).getD 0 0) ((S.vals 3).getD 1 0) v4 v5 v6 ((S.vals 7).getD 0 0) ((S.vals 8).getD 0 0) ((S.vals 9).getD 0 0) (S.sn 10))
theorem Zdd {w:World}{B:Nat}{u:Value}{ns:List Int}(h:w.ownsRow B 3 1 u ns.length (Yz ns))(g n cap:Nat)(hu:u=.slice (some ⟨g,0,none⟩) n cap)(i:Nat)(hi:i<ns.length):w.cell? ⟨g,i,none⟩=some (.int .i64 (ns.getD i 0)):=by
 rcases h.2 with⟨e,e0⟩ | ⟨g',cap',cur,e,-⟩
 ·omega
 ·rw [hu] at e;injection e with e1 e2 e3;subst e2;rw [hu] at h;rw [h.cellAt i (by omega)];simp [Yz,hi]
theorem Yaf (w:World)(b W0:Nat)(s:ByteArray)(l:List Tk)(v:Value)(S:Um)(vs:Nat->Value)(h:RS s l W0 w b v S vs)(hp:Rb s l=.inr S) :
 Calls Tryz.prog 71 #[.pointer (some ⟨b,0,none⟩)] w fun e w'=>e=.returned (Zdz S (vs 4) (vs 5) (vs 6))∧Below w.heap.size w w':=by
 obtain⟨_,_,⟨x0,q0⟩,⟨x1,q1⟩,⟨x2,q2⟩,⟨x3,y3,q3⟩,_,_,_,⟨x7,q7⟩,⟨x8,q8⟩,⟨x9,q9⟩⟩:=Zju hp;have one:∀ k x,k<11->S.vals k=[x]->∃ g n p,vs k=.slice (some ⟨g,0,none⟩) (n+1) p∧w.cell? ⟨g,0,none⟩=some (.int .i64 x):=fun k x hk hx=>by
  have r:=h.row k hk;rw [hx] at r;obtain⟨g,cap,e⟩:=Iv (n:=0) r;have c:=Zdd (ns:=[x]) r g 1 cap e 0 (by simp);exact⟨g,0,cap,e,by simpa using c⟩
 have shp:∀ k,k<11->∃ a n p,vs k=.slice a n p:=fun k hk=>by
  rcases(h.row k hk).2 with⟨e,_⟩ | ⟨g,cap,cur,e,-⟩
  ·exact⟨_,_,_,e⟩
  ·exact⟨_,_,_,e⟩
 obtain⟨g0,n0,p0,v0,e0⟩:=one 0 x0 (by decide) q0;obtain⟨g1,n1,p1,v1,e1⟩:=one 1 x1 (by decide) q1;obtain⟨g2,n2,p2,v2,e2⟩:=one 2 x2 (by decide) q2;obtain⟨g7,n7,p7,v7,e7⟩:=one 7 x7 (by decide) q7;obtain⟨g8,n8,p8,v8,e8⟩:=one 8 x8 (by decide) q8;obtain⟨g9,n9,p9,v9,e9⟩:=one 9 x9 (by decide) q9;obtain⟨a4,n4,p4,v4⟩:=shp 4 (by decide);obtain⟨a5,n5,p5,v5⟩:=shp 5 (by decide);obtain⟨a6,n6,p6,v6⟩:=shp 6 (by decide);obtain⟨a10,n10,p10,v10⟩:=shp 10 (by decide);obtain⟨g3,p3,v3⟩:∃ g p,vs 3=.slice (some ⟨g,0,none⟩) 2 p:=by have r:=h.row 3 (by decide);rw [q3] at r;exact Iv (n:=1) r
 have r3:=h.row 3 (by decide);rw [q3] at r3;have e30:=Zdd (ns:=[x3,y3]) r3 g3 2 p3 v3 0 (by simp);have e31:=Zdd (ns:=[x3,y3]) r3 g3 2 p3 v3 1 (by simp);simp at e30 e31;have cc:=fun k hk=>h.rdr.vals k hk;have key:=Zvt w b (S.sn 10) g0 n0 p0 g1 n1 p1 g2 n2 p2 g3 0 p3 g7 n7 p7 g8 n8 p8 g9 n9 p9 x0 x1 x2 x3 y3 x7 x8 x9 a4 a5 a6 a10 n4 p4 n5 p5 n6 p6 n10 p10
  ((cc 0 (by decide)).trans (congrArg some v0)) ((cc 1 (by decide)).trans (congrArg some v1)) ((cc 2 (by decide)).trans (congrArg some v2)) ((cc 3 (by decide)).trans (congrArg some v3)) ((cc 4 (by decide)).trans (congrArg some v4)) ((cc 5 (by decide)).trans (congrArg some v5)) ((cc 6 (by decide)).trans (congrArg some v6)) ((cc 7 (by decide)).trans (congrArg some v7)) ((cc 8 (by decide)).trans (congrArg some v8)) ((cc 9 (by decide)).trans (congrArg some v9)) ((cc 10 (by decide)).trans (congrArg some v10)) (h.rdr.seen 10 (by decide)) e0 e1 e2 e30 e31 e7 e8 e9
 refine key.mono ?_;rintro e w' ⟨rfl,hb⟩;refine⟨?_,hb⟩;simp [Zdz,Zt,q0,q1,q2,q3,q7,q8,q9,v4,v5,v6]
def Zaa (v4 v5 v6:Value):Prop:=∀ g,(v4.ownBlock=some g->v5.ownBlock≠some g∧v6.ownBlock≠some g)∧(v5.ownBlock=some g->v6.ownBlock≠some g)
def Xy (s:ByteArray)(B:Nat)(arr:Array Value)(ev:Value)(w':World):Prop :=
 match Xk s with
 | .inl (n,p)=>.agg arr=Cn∧∃ q,ev=.iface 130 (.pointer (some ⟨q,0,none⟩))∧B<=q∧Gk w' q n (-1) (-1) p
 | .inr S=>∃ v4 v5 v6,.agg arr=Zdz S v4 v5 v6∧ev=.nilIface∧w'.ownsRow B 3 1 v4 (S.vals 4).length (Yz (S.vals 4))∧w'.ownsRow B 3 1 v5 (S.vals 5).length (Yz (S.vals 5))∧w'.ownsRow B 3 1 v6 (S.vals 6).length (Yz (S.vals 6))∧Zaa v4 v5 v6
def Zpi (s:ByteArray)(w:World)(e:Ending)(w':World):Prop :=
 Below w.heap.size w w'∧∃ arr ev,e=.returned (.tuple #[.agg arr,ev])∧arr.size=12∧arr.all (·.oneCell')=true∧Xy s w.heap.size arr ev w'
theorem Xy.mono {s:ByteArray}{B B0:Nat}{arr:Array Value}{ev:Value}{w':World}(h:Xy s B arr ev w')(hB:B0<=B):Xy s B0 arr ev w':=by
 unfold Xy at *;split
 ·rename_i n p hp;rw [hp] at h;obtain⟨h1,q,h2,h3,h4⟩:=h;exact⟨h1,q,h2,by omega,h4⟩
 ·rename_i S hp;rw [hp] at h;obtain⟨v4,v5,v6,h1,h2,h3,h4,h5,h6⟩:=h;exact⟨v4,v5,v6,h1,h2,Xw h3 hB,Xw h4 hB,Xw h5 hB,h6⟩
theorem Xy.setRow {s:ByteArray}{B T:Nat}{arr:Array Value}{ev:Value}{w':World}(h:Xy s B arr ev w')(hT:T<B)(cs:Array Value):Xy s B arr ev (w'.setRow T cs):=by
 unfold Xy at *;split
 ·rename_i n p hp;rw [hp] at h;obtain⟨h1,q,h2,h3,h4⟩:=h;exact⟨h1,q,h2,h3,h4.setRow (by omega) _⟩
 ·rename_i S hp;rw [hp] at h;obtain⟨v4,v5,v6,h1,h2,h3,h4,h5,h6⟩:=h;exact⟨v4,v5,v6,h1,h2,Gu h3 (Gx _ _ _) hT,Gu h4 (Gx _ _ _) hT,Gu h5 (Gx _ _ _) hT,h6⟩
theorem Tryz.infRdr:(Tryz.prog.info? 179).map (·.size)=some 25:=by kernel_rfl
theorem Zjw (s:ByteArray)(w:World)(hU:U8 w)(hI:Ck w):Calls Tryz.prog 45 #[.string s] w (Zpi s w):=by
 have hit:=hI.lt;have HU:=Ze hU;have HI:=Ze hI;clear hU hI;by_cases h4:400<s.size
 ·have hF:Xk s=.inl (4,0):=by unfold Xk; rw [if_pos h4]
  go_enter Tryz.func45,Tryz.ntmps45
  go_wp2_with fail
  have HBL:=Ze ((Below.refl w.heap.size w).alloc (Nat.le_refl _) (.cells #[.int .i64 0,.int .i64 0,.int .i64 0,.int .i64 0,.int .i64 0,.slice none 0 0,.slice none 0 0,.slice none 0 0,.int .i64 0,.int .i64 0,.int .i64 0,.bool false] 25 (0,0)));have HR:=Ze (heap_alloc_new w (.cells #[.int .i64 0,.int .i64 0,.int .i64 0,.int .i64 0,.int .i64 0,.slice none 0 0,.slice none 0 0,.slice none 0 0,.int .i64 0,.int .i64 0,.int .i64 0,.bool false] 25 (0,0)));refine(Zbg 4 0 _).mono ?_;rintro e wB ⟨q,rfl,hB,hq,hb⟩;have HBL':=Ze ((Zb HBL).trans (hb.mono (by simp)));have HR':=Ze ((hb.block w.heap.size (by simp)).trans (Zb HR));have HB:=Ze hB;clear hB hb;go_wp2_with (refine wpList_store_row rfl 25 (.tmp 2) (.tmp 10) rfl w.heap.size _ rfl rfl 25 _ (Zb HR') Tryz.infTab rfl (by simp [Value.oneCell']) ?_)
  refine bodyPost_ret (Ym (fn:=Tryz.f45) (p:=2) (u:=3) (ty:=25) rfl _ _ w.heap.size 25 #[.int .i64 0,.int .i64 0,.int .i64 0,.int .i64 0,.int .i64 0,.slice none 0 0,.slice none 0 0,.slice none 0 0,.int .i64 0,.int .i64 0,.int .i64 0,.bool false] (0,0) _ rfl (setRow_heap _ _ _ _ _ _ (Zb HR')) Tryz.underlying25 rfl Tryz.infTab) rfl ?_;refine⟨below_setRow (Zb HBL') (Nat.le_refl _) _,_,_,rfl,rfl,by simp [Value.oneCell'],?_⟩;unfold Xy;rw [hF];exact⟨rfl,q,rfl,by first | omega | (simp at hq; omega),(Zb HB).setRow (by first | omega | (simp at hq; omega)) _⟩
 ·go_enter Tryz.func45,Tryz.ntmps45
  go_wp2_with fail
  refine(Yfr s _ (by omega) ((Zb HU).below ((Below.refl w.heap.size w).alloc (Nat.le_refl _) _) (Zb HU).lt)).mono ?_;rintro e w1 ⟨v,r,rfl,hb1,hm⟩;have HBL:=Ze (((Below.refl w.heap.size w).alloc (Nat.le_refl _) _).trans (hb1.mono (by simp)));have HR:=Ze ((hb1.block w.heap.size (by simp)).trans (heap_alloc_new w _));have hsz1:=hb1.size;simp only [World.size_alloc] at hsz1;clear hb1;cases hc:Lb s s.size 0 false [] with
  | inl p =>
   rw [hc] at hm;simp only at hm;subst hm;have hF:Xk s=.inl (1,p):=by unfold Xk; rw [if_neg h4,hc]
   go_wp2_with fail
   refine(Zbg 1 p _).mono ?_;rintro e wB ⟨q,rfl,hB,hq,hb⟩;have HBL':=Ze ((Zb HBL).trans (hb.mono (by omega)));have HR':=Ze ((hb.block w.heap.size (by omega)).trans (Zb HR));have HB:=Ze hB;clear hB hb;go_wp2_with (refine wpList_store_row rfl 25 (.tmp 2) (.tmp 19) rfl w.heap.size _ rfl rfl 25 _ (Zb HR') Tryz.infTab rfl (by simp [Value.oneCell']) ?_)
   refine bodyPost_ret (Ym (fn:=Tryz.f45) (p:=2) (u:=3) (ty:=25) rfl _ _ w.heap.size 25 #[.int .i64 0,.int .i64 0,.int .i64 0,.int .i64 0,.int .i64 0,.slice none 0 0,.slice none 0 0,.slice none 0 0,.int .i64 0,.int .i64 0,.int .i64 0,.bool false] (0,0) _ rfl (setRow_heap _ _ _ _ _ _ (Zb HR')) Tryz.underlying25 rfl Tryz.infTab) rfl ?_;refine⟨below_setRow (Zb HBL') (Nat.le_refl _) _,_,_,rfl,rfl,by simp [Value.oneCell'],?_⟩;unfold Xy;rw [hF];exact⟨rfl,q,rfl,by first | omega | (simp at hq; omega),(Zb HB).setRow (by first | omega | (simp at hq; omega)) _⟩
  | inr l =>
   rw [hc] at hm;simp only at hm;obtain⟨rfl,hown⟩:=hm;have hF:Xk s=Rb s l:=by unfold Xk; rw [if_neg h4,hc]
   obtain⟨hw,hl⟩:=Ydv hc;obtain⟨va,vcap,rfl⟩:∃ a cap,v=.slice a l.length cap:=by
    rcases hown.shape with⟨e,rfl⟩ | ⟨g,cap,rfl⟩
    ·subst e; exact⟨_,_,rfl⟩
    ·exact⟨_,_,rfl⟩
   have hvb:(Value.slice va l.length vcap).ownBlock≠some w1.heap.size:=fun e=>by have:=(hown.lt _ e).2; omega
   have HO:=Ze hown;have HW:=Ze hw;clear hown hw hc;go_wp2_with (refine wpList_store_row rfl 179 (.tmp 6) (.tmp 24) rfl w1.heap.size _ rfl rfl 179 _ (heap_alloc_new _ _) Tryz.infRdr rfl (by simp [Value.oneCell']) ?_; rw [Rc])
   have hlow:∀ X,Below w1.heap.size w1 (w1.alloc X):=fun X=>(Below.refl _ _).alloc (Nat.le_refl _) _;have hgw:∀ X,w.grownBy (w1.alloc X) (some w.heap.size):=fun X=>Zn ((Zb HBL).trans ((hlow X).mono (by omega)));have HOA:=Ze (fun X=>(Zb HO).below (hlow X));have HIA:=Ze (fun X=>(Zb HI).grown (hgw X) (Nat.ne_of_lt hit));have HRA:=Ze (fun X=>(Gi w1 X w.heap.size (by omega)).trans (Zb HR));have HBA:=Ze (fun X=>(Zb HBL).trans ((hlow X).mono (by omega)));clear hlow hgw;refine(Zjr _ w1.heap.size _ (w1.heap.size+1) s _ Ny _ l (Ydu w1 s l _ _) (by omega) (by simp) (Zb HOA _) hvb (by omega) (Zb HW) (Zb HIA _) (by omega)).mono ?_;rintro e w2 ⟨rfl,hg2,vs2,hR2⟩;have hz2:=hg2.size;simp only [World.size_alloc] at hz2;have HR2:=Ze ((hg2.block w.heap.size (by simp; omega) (by simp; omega)).trans (Zb HRA _));have HB2:=Ze ((Zb HBA _).trans (⟨hg2.os,hg2.tape,hg2.output,Nat.le_trans (by simp; try omega) hg2.size,fun q hq=>hg2.block q (by simp; omega) (by simp; omega)⟩:Below w.heap.size _ w2));have HO2:=Ze ((Zb HOA _).grown hg2 hvb);have HI2:=Ze ((Zb HIA _).grown hg2 (by omega));have HRS:=Ze hR2;clear hg2 hR2 HOA HIA HRA HBA;cases hok:(Zr s l l.length Ny).1 with
   | false =>
    have HF':Xk s=.inl (1,Zmy s l (Zr s l l.length Ny).2.i):=by rw [hF]; unfold Rb; rw [if_neg (by simp [hok])]
    go_wp2_with fail
    refine(Zph w2 w1.heap.size _ s _ _ _ _ l (Zb HRS).rdr (Zb HO2) (by omega) (Zb HRS).fit).mono ?_;rintro e w3 ⟨rfl,hb3⟩;have hz3:=hb3.size;have HB3:=Ze ((Zb HB2).trans (hb3.mono (by omega)));have HR3:=Ze ((hb3.block w.heap.size (by omega)).trans (Zb HR2));clear hb3;go_wp2_with fail
    refine(Zbg 1 (Zmy s l (Zr s l l.length Ny).2.i) _).mono ?_;rintro e wB ⟨q,rfl,hB,hq,hb⟩;have HBL':=Ze ((Zb HB3).trans (hb.mono (by omega)));have HR':=Ze ((hb.block w.heap.size (by omega)).trans (Zb HR3));have HB:=Ze hB;clear hB hb;go_wp2_with (refine wpList_store_row rfl 25 (.tmp 2) (.tmp 31) rfl w.heap.size _ rfl rfl 25 _ (Zb HR') Tryz.infTab rfl (by simp [Value.oneCell']) ?_)
    refine bodyPost_ret (Ym (fn:=Tryz.f45) (p:=2) (u:=3) (ty:=25) rfl _ _ w.heap.size 25 #[.int .i64 0,.int .i64 0,.int .i64 0,.int .i64 0,.int .i64 0,.slice none 0 0,.slice none 0 0,.slice none 0 0,.int .i64 0,.int .i64 0,.int .i64 0,.bool false] (0,0) _ rfl (setRow_heap _ _ _ _ _ _ (Zb HR')) Tryz.underlying25 rfl Tryz.infTab) rfl ?_;refine⟨below_setRow (Zb HBL') (Nat.le_refl _) _,_,_,rfl,rfl,by simp [Value.oneCell'],?_⟩;unfold Xy;rw [HF'];exact⟨rfl,q,rfl,by first | omega | (simp at hq; omega),(Zb HB).setRow (by first | omega | (simp at hq; omega)) _⟩
   | true =>
    go_wp2_with fail
    refine(Zvv w2 w1.heap.size s _ _ _ _ (Zb HRS).rdr (Zb HI2)).mono ?_;rintro e w3 ⟨rfl,h3⟩;subst w3;cases hall:Zea (Zr s l l.length Ny).2.sn with
    | false =>
     have HF':Xk s=.inl (1,Zmy s l (Zr s l l.length Ny).2.i):=by rw [hF]; unfold Rb; rw [if_neg (by simp [hall])]
     go_wp2_with fail
     refine(Zph w2 w1.heap.size _ s _ _ _ _ l (Zb HRS).rdr (Zb HO2) (by omega) (Zb HRS).fit).mono ?_;rintro e w3 ⟨rfl,hb3⟩;have hz3:=hb3.size;have HB3:=Ze ((Zb HB2).trans (hb3.mono (by omega)));have HR3:=Ze ((hb3.block w.heap.size (by omega)).trans (Zb HR2));clear hb3;go_wp2_with fail
     refine(Zbg 1 (Zmy s l (Zr s l l.length Ny).2.i) _).mono ?_;rintro e wB ⟨q,rfl,hB,hq,hb⟩;have HBL':=Ze ((Zb HB3).trans (hb.mono (by omega)));have HR':=Ze ((hb.block w.heap.size (by omega)).trans (Zb HR3));have HB:=Ze hB;clear hB hb;go_wp2_with (refine wpList_store_row rfl 25 (.tmp 2) (.tmp 31) rfl w.heap.size _ rfl rfl 25 _ (Zb HR') Tryz.infTab rfl (by simp [Value.oneCell']) ?_)
     refine bodyPost_ret (Ym (fn:=Tryz.f45) (p:=2) (u:=3) (ty:=25) rfl _ _ w.heap.size 25 #[.int .i64 0,.int .i64 0,.int .i64 0,.int .i64 0,.int .i64 0,.slice none 0 0,.slice none 0 0,.slice none 0 0,.int .i64 0,.int .i64 0,.int .i64 0,.bool false] (0,0) _ rfl (setRow_heap _ _ _ _ _ _ (Zb HR')) Tryz.underlying25 rfl Tryz.infTab) rfl ?_;refine⟨below_setRow (Zb HBL') (Nat.le_refl _) _,_,_,rfl,rfl,by simp [Value.oneCell'],?_⟩;unfold Xy;rw [HF'];exact⟨rfl,q,rfl,by first | omega | (simp at hq; omega),(Zb HB).setRow (by first | omega | (simp at hq; omega)) _⟩
    | true =>
     have HP:Rb s l=.inr (Zr s l l.length Ny).2:=by unfold Rb; rw [if_pos ⟨hok,hall⟩]
     go_wp2_with fail
     refine(Yaf w2 w1.heap.size (w1.heap.size+1) s l _ _ vs2 (Zb HRS) HP).mono ?_;rintro e w3 ⟨rfl,hb3⟩;have hz3:=hb3.size;have HB3:=Ze ((Zb HB2).trans (hb3.mono (by omega)));have HR3:=Ze ((hb3.block w.heap.size (by omega)).trans (Zb HR2));have HRW:=Ze (fun k hk=>((Zb HRS).below hb3).row k hk);have HAP:=Ze (show Zaa (vs2 4) (vs2 5) (vs2 6) from fun g=>⟨fun h=>⟨(Zb HRS).apart 4 5 (by decide) (by decide) (by decide) g h,(Zb HRS).apart 4 6 (by decide) (by decide) (by decide) g h⟩,fun h=>(Zb HRS).apart 5 6 (by decide) (by decide) (by decide) g h⟩);clear hb3;have shp:∀ k,k<11->∃ a n p,vs2 k=.slice a n p:=fun k hk=>by
      rcases(Zb HRW k hk).2 with⟨e,_⟩ | ⟨g,cap,cur,e,-⟩
      ·exact⟨_,_,_,e⟩
      ·exact⟨_,_,_,e⟩
     obtain⟨a4,n4,p4,v4⟩:=shp 4 (by decide);obtain⟨a5,n5,p5,v5⟩:=shp 5 (by decide);obtain⟨a6,n6,p6,v6⟩:=shp 6 (by decide);have hA1:(Zt (((Zr s l l.length Ny).2.vals 0).getD 0 0) (((Zr s l l.length Ny).2.vals 1).getD 0 0) (((Zr s l l.length Ny).2.vals 2).getD 0 0) (((Zr s l l.length Ny).2.vals 3).getD 0 0) (((Zr s l l.length Ny).2.vals 3).getD 1 0) (vs2 4) (vs2 5) (vs2 6) (((Zr s l l.length Ny).2.vals 7).getD 0 0) (((Zr s l l.length Ny).2.vals 8).getD 0 0) (((Zr s l l.length Ny).2.vals 9).getD 0 0) ((Zr s l l.length Ny).2.sn 10)).size=12:=rfl;have hA2:(Zt (((Zr s l l.length Ny).2.vals 0).getD 0 0) (((Zr s l l.length Ny).2.vals 1).getD 0 0) (((Zr s l l.length Ny).2.vals 2).getD 0 0) (((Zr s l l.length Ny).2.vals 3).getD 0 0) (((Zr s l l.length Ny).2.vals 3).getD 1 0) (vs2 4) (vs2 5) (vs2 6) (((Zr s l l.length Ny).2.vals 7).getD 0 0) (((Zr s l l.length Ny).2.vals 8).getD 0 0) (((Zr s l l.length Ny).2.vals 9).getD 0 0) ((Zr s l l.length Ny).2.sn 10)).all (·.oneCell')=true:=by rw [v4,v5,v6]; simp [Zt,Value.oneCell']
     clear v4 v5 v6 shp;unfold Zdz;generalize hA:Zt (((Zr s l l.length Ny).2.vals 0).getD 0 0) (((Zr s l l.length Ny).2.vals 1).getD 0 0) (((Zr s l l.length Ny).2.vals 2).getD 0 0) (((Zr s l l.length Ny).2.vals 3).getD 0 0) (((Zr s l l.length Ny).2.vals 3).getD 1 0) (vs2 4) (vs2 5) (vs2 6) (((Zr s l l.length Ny).2.vals 7).getD 0 0) (((Zr s l l.length Ny).2.vals 8).getD 0 0) (((Zr s l l.length Ny).2.vals 9).getD 0 0) ((Zr s l l.length Ny).2.sn 10)=arr at hA1 hA2 ⊢;go_wp2_with (refine wpList_store_row rfl 25 (.tmp 2) (.tmp 34) rfl w.heap.size arr rfl rfl 25 _ (Zb HR3) (Tryz.infTab.trans (congrArg some hA1.symm)) hA1.symm hA2 ?_)
     refine bodyPost_ret (Ym (fn:=Tryz.f45) (p:=2) (u:=3) (ty:=25) rfl _ _ w.heap.size 25 arr (0,0) _ rfl (setRow_heap _ _ _ _ _ _ (Zb HR3)) Tryz.underlying25 rfl (Tryz.infTab.trans (congrArg some hA1.symm))) rfl ?_;have row:=fun k hk=>Xw (Gu (Zb HRW k hk) (Gx w3 w.heap.size arr) (by omega)) (show w.heap.size<=w1.heap.size+1 by omega);refine⟨below_setRow (Zb HB3) (Nat.le_refl _) _,_,_,rfl,hA1,hA2,?_⟩;unfold Xy;rw [hF,HP];exact⟨vs2 4,vs2 5,vs2 6,by rw [← hA]; rfl,rfl,row 4 (by decide),row 5 (by decide),row 6 (by decide),Zb HAP⟩
theorem Cp {l:List Int}{c:Int}(h:Nf l c=true):∀ n ∈ l,0<=n∧n<c:=by
 intro n hn;obtain⟨q,hq,rfl⟩:=List.getElem_of_mem hn;have h1:=(List.all_eq_true.1 h) q (List.mem_range.2 hq);unfold Zgt at h1;have hg:l.getD q 0=l[q]:=by simp [List.getD,hq]
 rw [hg] at h1;have:=of_decide_eq_true h1;exact⟨this.1,this.2.1⟩
end Go.Proofs.YtkenknfgeoecbaaGreatDoor
