import Derived.Test.YtedemloocadimaaGreatDoorJ9
import Derived.Test.YtedemloocadimaaGreatDoorPsTable
import Derived.Test.YtedemloocadimaaGreatDoorJ13
import Derived.Laws.ResultCell
import Derived.Laws.CopyOwn
import Derived.Test.YtedemloocadimaaGreatDoorJ4
namespace Go.Proofs.YtedemloocadimaaGreatDoor
open Go.RowKit
set_option maxHeartbeats 4000000
set_option maxRecDepth 100000
def Ye (s:ByteArray)(l:List Tk):Nat→Rg→Bool×Rg
 | 0,S=>(true,S)
 | f+1,S=>if S.i<l.length then (if (Ms s l S).1 then Ye s l f (Ms s l S).2 else (false,(Ms s l S).2)) else (true,S)
theorem Zkk (s:ByteArray)(l:List Tk)(k:Nat):∀(f i:Nat) (ns:List Int),i≤(Ln s l k f i ns).1
 | 0,i,ns=>Nat.le_refl _
 | f+1,i,ns=>by
  unfold Ln;split
  ·
   split
   ·
    have:=Zkk s l k f (i+1) (ns++[‹Int›]); omega
   ·
    exact Nat.le_refl _
  ·
   exact Nat.le_refl _
theorem Zkl {s:ByteArray}{l:List Tk}{S:Rg}(h:(Ms s l S).1=true):S.i<(Ms s l S).2.i:=by
 unfold Ms at h ⊢;split at h
 ·
  simp at h
 ·
  rename_i k _;have:=Zkk s l k 13 (S.i+1) [];split at h
  ·
   split at h
   ·
    rename_i h1 h2; simp only [h1,h2,if_true]; omega
   ·
    simp at h
  ·
   simp at h
theorem RS.below {s:ByteArray}{l:List Tk}{W0:Nat}{w w':World}{b:Nat}{v:Value}{S:Rg}{vs:Nat→Value}(h:RS s l W0 w b v S vs)(hb:Below w.heap.size w w'):RS s l W0 w' b v S vs :=
 ⟨h.rdr.below hb,fun k hk=>World.ownsRow.kept (h.row k hk) (Ya (row:=none) hb) (by cases (vs k).ownBlock <;> simp),h.new,h.fit,h.apart⟩
def Ygo:Option Value→Nat
 | some (.int _ n)=>n.toNat
 | _=>0
theorem Zkm (w:World)(b base W0:Nat)(s:ByteArray)(v:Value)(S0:Rg)(vs:Nat→Value)(l:List Tk)(h:RS s l W0 w b v S0 vs)(hb:b<W0)(hW:W0≤w.heap.size)(ho:Jf w base v l)(hvb:v.ownBlock≠some b)(hl:l.length≤400)(hw:WfT s l)(hI:Itm w)(hbI:1≠b) :
 Calls Tryz.prog 62 #[.pointer (some ⟨b,0,none⟩)] w fun e w'=>e=.returned (.bool (Ye s l l.length S0).1)∧w.grownBy w' (some b)∧∃ vs',RS s l W0 w' b v (Ye s l l.length S0).2 vs':=by
 have HS:=Ze h;have HO:=Ze ho;have HW:=Ze hw;have HI:=Ze hI;clear h ho hw hI;obtain⟨a,cap,rfl⟩:∃ a cap,v=.slice a l.length cap:=by
  rcases(Zb HO).shape with⟨e,rfl⟩ | ⟨g,cap,rfl⟩
  ·
   subst e; exact⟨_,_,rfl⟩
  ·
   exact⟨_,_,rfl⟩
 go_enter Tryz.func62,Tryz.ntmps62
 go_wp2_with fail
 go_loopw [3] (fun _ wr=>∃ S vs f,RS s l W0 wr b (.slice a l.length cap) S vs∧w.grownBy wr (some b)∧Ye s l f S=Ye s l l.length S0∧l.length≤S.i+f) (fun _ wr=>l.length-Ygo (wr.cell? ⟨b,2,none⟩))
 case atStart=>exact⟨S0,vs,l.length,Zb HS,⟨rfl,rfl,rfl,Nat.le_refl _,fun _ _ _=>rfl⟩,rfl,by omega⟩
 case round =>
  obtain⟨S,vs,f,hR,hg,hE,hf⟩:=hrel;have c1:=hR.rdr.pcs;have c2:=hR.rdr.nxt;have hfit:=hR.fit;have HR:=Ze hR;have HG:=Ze hg;clear hR hg;by_cases hlt:S.i<l.length
  ·
   obtain⟨f,rfl⟩:∃ f',f=f'+1:=⟨f-1,by omega⟩;have hgd:w.grownBy wr.drew (some b):=Xr (Zb HG) (Ya (by go_grown));have HC:=Ze (Znq wr.drew b base W0 s _ S vs l ((Zb HR).below (by go_grown)) hb (Nat.le_trans hW hgd.size) ((Zb HO).grown hgd hvb) hvb hl (Zb HW) ((Zb HI).grown hgd hbI) hbI hlt);have hstep:Ye s l (f+1) S=if (Ms s l S).1 then Ye s l f (Ms s l S).2 else (false,(Ms s l S).2):=by simp [Ye,hlt]
   rw [hstep] at hE;have hon:=fun h=>Zkl (s:=s) (l:=l) (S:=S) h;generalize hIF:Ms s l S=r at *;obtain⟨ok,S'⟩:=r;have HE:=Ze hE;have HON:=Ze hon;clear hE hon hstep hIF;go_wp2;go_region
   all_goals go_wp2_with fail
   all_goals refine(Zb HC).mono ?_
   all_goals rintro e w1 ⟨rfl,hg1,vs1,hR1⟩
   all_goals
    have G1:=Ze (Xr hgd hg1);have c3:=hR1.rdr.nxt;have HR1:=Ze hR1;clear hg1 hR1;cases ok with
    | true =>
     have hlt2:=Zb HON rfl;go_wp2;go_roundw
     case rel=>exact⟨S',vs1,f,Zb HR1,Zb G1,by simpa using Zb HE,by first | omega | (simp at hlt2; omega)⟩
     case measure =>
      rw [c3,c2];simp only [Ygo];have:S.i<S'.i:=hlt2;omega
    | false =>
     have hE2:Ye s l l.length S0=(false,S'):=by simpa using (Zb HE).symm
     have HE2:=Ze hE2;clear hE2;go_wp2;go_ret;rw [Zb HE2];exact⟨rfl,Zb G1,vs1,Zb HR1⟩
  ·
   have hE2:Ye s l l.length S0=(true,S):=by
    rw [← hE];cases f <;> simp [Ye,hlt]
   have HE2:=Ze hE2;clear hE2 hE;go_wp2;go_region
   all_goals go_wp2
   all_goals go_ret
   all_goals rw [Zb HE2]
   all_goals exact⟨rfl,Xr (Zb HG) (Ya (by go_grown)),vs,(Zb HR).below (by go_grown)⟩
def Znr (s:ByteArray)(l:List Tk)(i:Nat):Nat:=match l[i]? with | some t=>t.a | none=>s.size
def Ut:Rg:=⟨0,fun _=>false,fun _=>[]⟩
def Rm (s:ByteArray)(l:List Tk):(Nat×Nat) ⊕ Rg :=
 if (Ye s l l.length Ut).1=true∧Zch (Ye s l l.length Ut).2.sn=true then .inr (Ye s l l.length Ut).2 else .inl (1,Znr s l (Ye s l l.length Ut).2.i)
def Jt (s:ByteArray):(Nat×Nat) ⊕ Rg :=
 if 400<s.size then .inl (4,0) else
  match Ga s s.size 0 false [] with
  | .inl p=>.inl (1,p)
  | .inr l=>Rm s l
def Zwg (S:Rg):Prop:=∀ k,k<11→S.sn k=true→loK k≤(S.vals k).length∧(S.vals k).length≤hiK k
theorem Zfu (s:ByteArray)(l:List Tk)(k:Nat):∀(f i:Nat) (ns:List Int),ns.length≤hiK k→(Ln s l k f i ns).2.length≤hiK k
 | 0,i,ns,h=>h
 | f+1,i,ns,h=>by
  unfold Ln;split
  ·
   split
   ·
    exact Zfu s l k f (i+1) _ (by simp; omega)
   ·
    exact h
  ·
   exact h
theorem Zns {s:ByteArray}{l:List Tk}{S:Rg}(h:(Ms s l S).1=true)(hg:Zwg S):Zwg (Ms s l S).2∧(Ms s l S).2.i≤l.length:=by
 unfold Ms at h ⊢;split at h
 ·
  simp at h
 ·
  rename_i k hk;have hn:=Zfu s l k 13 (S.i+1) [] (by simp);split at h
  ·
   split at h
   ·
    rename_i h1 h2;simp only [h1,h2,if_true];refine⟨fun j hj hs=>?_,by have:=Ygn h2; omega⟩;by_cases hjk:j=k
    ·
     subst hjk;simp only [Zaj,if_true];exact⟨h1,hn⟩
    ·
     simp only [Zaj,Im,hjk,if_false] at hs ⊢;exact hg j hj hs
   ·
    simp at h
  ·
   simp at h
theorem Zcc {s:ByteArray}{l:List Tk}:∀(f:Nat) (S S':Rg),Ye s l f S=(true,S')→S.i≤l.length→l.length≤S.i+f→Zwg S→S'.i=l.length∧Zwg S'
 | 0,S,S',h,h1,h2,hg=>by
  unfold Ye at h;injection h with _ h;subst h;exact⟨by omega,hg⟩
 | f+1,S,S',h,h1,h2,hg=>by
  unfold Ye at h;split at h
  ·
   split at h
   ·
    rename_i hok;have:=Zkl hok;obtain⟨g1,g2⟩:=Zns hok hg;exact Zcc f _ S' h g2 (by omega) g1
   ·
    cases h
  ·
   injection h with _ h;subst h;exact⟨by omega,hg⟩
theorem Ygq:Zwg Ut:=fun k _ h=>by simp [Ut] at h
theorem Zwh {sn:Nat→Bool}(h:Zch sn=true)(k:Nat)(hk:k<10):sn k=true:=by
 unfold Zch at h;rw [List.all_eq_true] at h;exact h k (List.mem_range.2 hk)
theorem Zbm {α:Type}{l:List α}(h:1≤l.length∧l.length≤1):∃ x,l=[x]:=by
 match l,h with
 | [x],_=>exact⟨x,rfl⟩
theorem Yek {α:Type}{l:List α}(h:2≤l.length∧l.length≤2):∃ x y,l=[x,y]:=by
 match l,h with
 | [x,y],_=>exact⟨x,y,rfl⟩
theorem Zkp {s:ByteArray}{l:List Tk}{S:Rg}(h:Rm s l=.inr S) :
 Ye s l l.length Ut=(true,S)∧S.i=l.length∧(∃ x,S.vals 0=[x])∧(∃ x,S.vals 1=[x])∧(∃ x,S.vals 2=[x])∧(∃ x y,S.vals 3=[x,y])∧(S.vals 4).length≤8∧(S.vals 5).length≤4∧(S.vals 6).length≤12∧(∃ x,S.vals 7=[x])∧(∃ x,S.vals 8=[x])∧(∃ x,S.vals 9=[x]):=by
 unfold Rm at h;split at h
 ·
  rename_i hc;injection h with h;have he:Ye s l l.length Ut=(true,S):=by
   rw [← h];generalize Ye s l l.length Ut=r at *;obtain⟨a,b⟩:=r;simp at hc ⊢;exact hc.1
  obtain⟨h1,h2⟩:=Zcc l.length Ut S he (by simp [Ut]) (by simp [Ut]) Ygq;have ha:Zch S.sn=true:=by rw [← h]; exact hc.2
  have g:=fun k (hk:k<10)=>h2 k (by omega) (Zwh ha k hk);exact⟨he,h1,Zbm (g 0 (by decide)),Zbm (g 1 (by decide)),Zbm (g 2 (by decide)),Yek (g 3 (by decide)),(g 4 (by decide)).2,(g 5 (by decide)).2,(g 6 (by decide)).2,Zbm (g 7 (by decide)),Zbm (g 8 (by decide)),Zbm (g 9 (by decide))⟩
 ·
  cases h
set_option maxHeartbeats 8000000
set_option maxRecDepth 100000
theorem Xx {P:Program}{fn:Func}{p u:Tmp}{ty:TypeId}(h:fn.results=#[.cell p ty,.tmp u])(tmps:Array Value)(w:World)(g:Nat)(t:TypeId)(cs:Array Value)(fr:Nat×Nat)(d:TypeDesc)
 (hp:tmps.getD p undef=.pointer (some ⟨g,0,none⟩)) (hg:w.heap[g]?=some (.cells cs t fr))
 (hu:P.underlying ty=some d) (hd:(match d with | .struct _ | .array _ _=>true | _=>false)=true) (hi:(P.info? ty).map (·.size)=some cs.size) :
 (results fn tmps).run P w=.ok (.tuple #[.agg cs,tmps.getD u undef]) w:=by
 rw [results_cell_tmp h,hp];simp [asAddr,run_loadVar_row w g t ty cs fr d hg hu hd hi]
theorem Sv (w:World)(z cs:Array Value)(t:TypeId)(fr:Nat×Nat):(w.alloc (.cells z t fr)).setRow w.heap.size cs=w.alloc (.cells cs t fr):=by
 unfold World.setRow World.alloc;simp only [World.mk.injEq,and_true];apply Array.ext
 ·
  simp
 ·
  intro k h1 h2;simp only [Array.getElem_modify,Array.getElem_push];split
  ·
   rename_i h; subst h; simp
  ·
   rename_i h;have:k<w.heap.size:=by simp at h1; omega
   simp [this]
theorem Nh (w:World)(T:Nat)(cs:Array Value):w.grownBy (w.setRow T cs) (some T):=⟨rfl,rfl,rfl,by simp,fun k _ hk=>setRow_other w T k cs (fun e=>hk (by simp [e]))⟩
theorem Mq.setRow {w:World}{q T:Nat}{n f b a:Int}(h:Mq w q n f b a)(hq:q≠T)(cs:Array Value):Mq (w.setRow T cs) q n f b a :=
 have e:=setRow_other w T q cs hq;⟨(World.cell?_of_block e).trans h.c0,(World.cell?_of_block e).trans h.c1,(World.cell?_of_block e).trans h.c2,(World.cell?_of_block e).trans h.c3⟩
theorem Tryz.infTab:(Tryz.prog.info? 37).map (·.size)=some 12:=by kernel_rfl
theorem Zpo (w:World)(b base:Nat)(s:ByteArray)(v:Value)(i:Nat)(sn:Nat→Bool)(vs:Nat→Value)(l:List Tk)(h:Ck w b s v i sn vs)(ho:Jf w base v l)(hl:l.length≤400)(hi:i≤l.length) :
 Calls Tryz.prog 64 #[.pointer (some ⟨b,0,none⟩)] w fun e w'=>e=.returned (.int .i64 (Znr s l i))∧Below w.heap.size w w':=by
 unfold Znr;cases ht:l[i]? with
 | some t=>exact Zwl w b base s v i sn vs l t h ho hl ht
 | none =>
  obtain rfl:i=l.length:=Nat.le_antisymm hi (List.getElem?_eq_none_iff.1 ht);exact Zsg w b base s v sn vs l h ho hl
theorem Zcl (n p:Int)(w:World) :
 Calls Tryz.prog 60 #[.int .i64 n,.int .i64 p] w fun e w'=>∃ q,e=.returned (.iface 114 (.pointer (some ⟨q,0,none⟩)))∧Mq w' q n (-1) (-1) p∧w.heap.size≤q∧Below w.heap.size w w':=by
 go_enter Tryz.func60,Tryz.ntmps60
 go_wp2;go_ret;refine⟨_,rfl,⟨?_,?_,?_,?_⟩,Nat.le_refl _,by go_grown⟩;all_goals rw [World.cell?_alloc_at _ _ _ _ rfl]; rfl
theorem Yar (w:World)(s:ByteArray)(v:Value)(o:TypeId):Ck (w.alloc (.cells #[.string s,v,.int .i64 0,.bool false,.bool false,.bool false,.bool false,.bool false,.bool false,.bool false,.bool false,.bool false,.bool false,.bool false,.slice none 0 0,.slice none 0 0,.slice none 0 0,.slice none 0 0,.slice none 0 0,.slice none 0 0,.slice none 0 0,.slice none 0 0,.slice none 0 0,.slice none 0 0,.slice none 0 0] o)) w.heap.size s v 0 (fun _=>false) (fun _=>.slice none 0 0):=by
 have e:∀ j,(w.alloc (.cells #[.string s,v,.int .i64 0,.bool false,.bool false,.bool false,.bool false,.bool false,.bool false,.bool false,.bool false,.bool false,.bool false,.bool false,.slice none 0 0,.slice none 0 0,.slice none 0 0,.slice none 0 0,.slice none 0 0,.slice none 0 0,.slice none 0 0,.slice none 0 0,.slice none 0 0,.slice none 0 0,.slice none 0 0] o)).cell? ⟨w.heap.size,j,none⟩=(#[.string s,v,.int .i64 0,.bool false,.bool false,.bool false,.bool false,.bool false,.bool false,.bool false,.bool false,.bool false,.bool false,.bool false,.slice none 0 0,.slice none 0 0,.slice none 0 0,.slice none 0 0,.slice none 0 0,.slice none 0 0,.slice none 0 0,.slice none 0 0,.slice none 0 0,.slice none 0 0,.slice none 0 0]:Array Value)[j]?:=fun j=>World.cell?_alloc_at _ _ _ _ rfl;refine⟨e 0,e 1,e 2,fun k hk=>?_,fun k hk=>?_,fun j=>World.frozen?_alloc_at _ _ _ _ rfl⟩
 ·
  rw [e];match k,hk with
  | 0,_ | 1,_ | 2,_ | 3,_ | 4,_ | 5,_ | 6,_ | 7,_ | 8,_ | 9,_ | 10,_=>rfl
 ·
  rw [e];match k,hk with
  | 0,_ | 1,_ | 2,_ | 3,_ | 4,_ | 5,_ | 6,_ | 7,_ | 8,_ | 9,_ | 10,_=>rfl
theorem Yem (w:World)(s:ByteArray)(l:List Tk)(v:Value)(o:TypeId):RS s l (w.heap.size+1) (w.alloc (.cells #[.string s,v,.int .i64 0,.bool false,.bool false,.bool false,.bool false,.bool false,.bool false,.bool false,.bool false,.bool false,.bool false,.bool false,.slice none 0 0,.slice none 0 0,.slice none 0 0,.slice none 0 0,.slice none 0 0,.slice none 0 0,.slice none 0 0,.slice none 0 0,.slice none 0 0,.slice none 0 0,.slice none 0 0] o)) w.heap.size v Ut (fun _=>.slice none 0 0) :=
 ⟨Yar w s v o,fun k hk=>World.ownsRow_nil _ _ _ _,fun _ _ _=>rfl,by simp [Ut],fun _ _ _ _ _ g h=>by simp [Value.ownBlock] at h⟩
def Zan:Value:=.agg (Yt 0 0 0 0 0 (.slice none 0 0) (.slice none 0 0) (.slice none 0 0) 0 0 0 false)
def Zex (S:Rg)(v4 v5 v6:Value):Value:=.agg (Yt ((S.vals 0).getD 0 0) ((S.vals 1).getD 0 0) ((S.vals 2).getD 0 0) ((S.vals 3).getD 0 0) ((S.vals 3).getD 1 0) v4 v5 v6 ((S.vals 7).getD 0 0) ((S.vals 8).getD 0 0) ((S.vals 9).getD 0 0) (S.sn 10))
theorem Zea {w:World}{B:Nat}{u:Value}{ns:List Int}(h:w.ownsRow B 3 1 u ns.length (Jo ns))(g n cap:Nat)(hu:u=.slice (some ⟨g,0,none⟩) n cap)(i:Nat)(hi:i<ns.length):w.cell? ⟨g,i,none⟩=some (.int .i64 (ns.getD i 0)):=by
 rcases h.2 with⟨e,e0⟩ | ⟨g',cap',cur,e,-⟩
 ·
  omega
 ·
  rw [hu] at e;injection e with e1 e2 e3;subst e2;rw [hu] at h;rw [h.cellAt i (by omega)];simp [Jo,hi]
theorem Yas (w:World)(b W0:Nat)(s:ByteArray)(l:List Tk)(v:Value)(S:Rg)(vs:Nat→Value)(h:RS s l W0 w b v S vs)(hp:Rm s l=.inr S) :
 Calls Tryz.prog 65 #[.pointer (some ⟨b,0,none⟩)] w fun e w'=>e=.returned (Zex S (vs 4) (vs 5) (vs 6))∧Below w.heap.size w w':=by
 obtain⟨_,_,⟨x0,q0⟩,⟨x1,q1⟩,⟨x2,q2⟩,⟨x3,y3,q3⟩,_,_,_,⟨x7,q7⟩,⟨x8,q8⟩,⟨x9,q9⟩⟩:=Zkp hp;have one:∀ k x,k<11→S.vals k=[x]→∃ g n p,vs k=.slice (some ⟨g,0,none⟩) (n+1) p∧w.cell? ⟨g,0,none⟩=some (.int .i64 x):=fun k x hk hx=>by
  have r:=h.row k hk;rw [hx] at r;obtain⟨g,cap,e⟩:=Zbl (n:=0) r;have c:=Zea (ns:=[x]) r g 1 cap e 0 (by simp);exact⟨g,0,cap,e,by simpa using c⟩
 have shp:∀ k,k<11→∃ a n p,vs k=.slice a n p:=fun k hk=>by
  rcases(h.row k hk).2 with⟨e,_⟩ | ⟨g,cap,cur,e,-⟩
  ·
   exact⟨_,_,_,e⟩
  ·
   exact⟨_,_,_,e⟩
 obtain⟨g0,n0,p0,v0,e0⟩:=one 0 x0 (by decide) q0;obtain⟨g1,n1,p1,v1,e1⟩:=one 1 x1 (by decide) q1;obtain⟨g2,n2,p2,v2,e2⟩:=one 2 x2 (by decide) q2;obtain⟨g7,n7,p7,v7,e7⟩:=one 7 x7 (by decide) q7;obtain⟨g8,n8,p8,v8,e8⟩:=one 8 x8 (by decide) q8;obtain⟨g9,n9,p9,v9,e9⟩:=one 9 x9 (by decide) q9;obtain⟨a4,n4,p4,v4⟩:=shp 4 (by decide);obtain⟨a5,n5,p5,v5⟩:=shp 5 (by decide);obtain⟨a6,n6,p6,v6⟩:=shp 6 (by decide);obtain⟨a10,n10,p10,v10⟩:=shp 10 (by decide);obtain⟨g3,p3,v3⟩:∃ g p,vs 3=.slice (some ⟨g,0,none⟩) 2 p:=by
  have r:=h.row 3 (by decide);rw [q3] at r;exact Zbl (n:=1) r
 have r3:=h.row 3 (by decide);rw [q3] at r3;have e30:=Zea (ns:=[x3,y3]) r3 g3 2 p3 v3 0 (by simp);have e31:=Zea (ns:=[x3,y3]) r3 g3 2 p3 v3 1 (by simp);simp at e30 e31;have cc:=fun k hk=>h.rdr.vals k hk;have key:=Zwp w b (S.sn 10) g0 n0 p0 g1 n1 p1 g2 n2 p2 g3 0 p3 g7 n7 p7 g8 n8 p8 g9 n9 p9 x0 x1 x2 x3 y3 x7 x8 x9 a4 a5 a6 a10 n4 p4 n5 p5 n6 p6 n10 p10
  ((cc 0 (by decide)).trans (congrArg some v0)) ((cc 1 (by decide)).trans (congrArg some v1)) ((cc 2 (by decide)).trans (congrArg some v2)) ((cc 3 (by decide)).trans (congrArg some v3)) ((cc 4 (by decide)).trans (congrArg some v4)) ((cc 5 (by decide)).trans (congrArg some v5)) ((cc 6 (by decide)).trans (congrArg some v6)) ((cc 7 (by decide)).trans (congrArg some v7)) ((cc 8 (by decide)).trans (congrArg some v8)) ((cc 9 (by decide)).trans (congrArg some v9)) ((cc 10 (by decide)).trans (congrArg some v10)) (h.rdr.seen 10 (by decide)) e0 e1 e2 e30 e31 e7 e8 e9
 refine key.mono ?_;rintro e w' ⟨rfl,hb⟩;refine⟨?_,hb⟩;simp [Zex,Yt,q0,q1,q2,q3,q7,q8,q9,v4,v5,v6]
def Zbo (v4 v5 v6:Value):Prop:=∀ g,(v4.ownBlock=some g→v5.ownBlock≠some g∧v6.ownBlock≠some g)∧(v5.ownBlock=some g→v6.ownBlock≠some g)
def La (s:ByteArray)(B:Nat)(arr:Array Value)(ev:Value)(w':World):Prop :=
 match Jt s with
 | .inl (n,p)=>.agg arr=Zan∧∃ q,ev=.iface 114 (.pointer (some ⟨q,0,none⟩))∧B≤q∧Mq w' q n (-1) (-1) p
 | .inr S=>∃ v4 v5 v6,.agg arr=Zex S v4 v5 v6∧ev=.nilIface∧w'.ownsRow B 3 1 v4 (S.vals 4).length (Jo (S.vals 4))∧w'.ownsRow B 3 1 v5 (S.vals 5).length (Jo (S.vals 5))∧w'.ownsRow B 3 1 v6 (S.vals 6).length (Jo (S.vals 6))∧Zbo v4 v5 v6
def Zpp (s:ByteArray)(w:World)(e:Ending)(w':World):Prop :=
 Below w.heap.size w w'∧∃ arr ev,e=.returned (.tuple #[.agg arr,ev])∧arr.size=12∧arr.all (·.oneCell')=true∧La s w.heap.size arr ev w'
theorem La.mono {s:ByteArray}{B B0:Nat}{arr:Array Value}{ev:Value}{w':World}(h:La s B arr ev w')(hB:B0≤B):La s B0 arr ev w':=by
 unfold La at *;split
 ·
  rename_i n p hp;rw [hp] at h;obtain⟨h1,q,h2,h3,h4⟩:=h;exact⟨h1,q,h2,by omega,h4⟩
 ·
  rename_i S hp;rw [hp] at h;obtain⟨v4,v5,v6,h1,h2,h3,h4,h5,h6⟩:=h;exact⟨v4,v5,v6,h1,h2,Gy h3 hB,Gy h4 hB,Gy h5 hB,h6⟩
theorem La.setRow {s:ByteArray}{B T:Nat}{arr:Array Value}{ev:Value}{w':World}(h:La s B arr ev w')(hT:T<B)(cs:Array Value):La s B arr ev (w'.setRow T cs):=by
 unfold La at *;split
 ·
  rename_i n p hp;rw [hp] at h;obtain⟨h1,q,h2,h3,h4⟩:=h;exact⟨h1,q,h2,h3,h4.setRow (by omega) _⟩
 ·
  rename_i S hp;rw [hp] at h;obtain⟨v4,v5,v6,h1,h2,h3,h4,h5,h6⟩:=h;exact⟨v4,v5,v6,h1,h2,Nb h3 (Nh _ _ _) hT,Nb h4 (Nh _ _ _) hT,Nb h5 (Nh _ _ _) hT,h6⟩
theorem Tryz.infRdr:(Tryz.prog.info? 169).map (·.size)=some 25:=by kernel_rfl
theorem Zkq (s:ByteArray)(w:World)(hU:U8 w)(hI:Itm w):Calls Tryz.prog 37 #[.string s] w (Zpp s w):=by
 have hit:=hI.lt;have HU:=Ze hU;have HI:=Ze hI;clear hU hI;by_cases h4:400<s.size
 ·
  have hF:Jt s=.inl (4,0):=by unfold Jt; rw [if_pos h4]
  go_enter Tryz.func37,Tryz.ntmps37
  go_wp2_with fail
  have HBL:=Ze ((Below.refl w.heap.size w).alloc (Nat.le_refl _) (.cells #[.int .i64 0,.int .i64 0,.int .i64 0,.int .i64 0,.int .i64 0,.slice none 0 0,.slice none 0 0,.slice none 0 0,.int .i64 0,.int .i64 0,.int .i64 0,.bool false] 37 (0,0)));have HR:=Ze (heap_alloc_new w (.cells #[.int .i64 0,.int .i64 0,.int .i64 0,.int .i64 0,.int .i64 0,.slice none 0 0,.slice none 0 0,.slice none 0 0,.int .i64 0,.int .i64 0,.int .i64 0,.bool false] 37 (0,0)));refine(Zcl 4 0 _).mono ?_;rintro e wB ⟨q,rfl,hB,hq,hb⟩;have HBL':=Ze ((Zb HBL).trans (hb.mono (by simp)));have HR':=Ze ((hb.block w.heap.size (by simp)).trans (Zb HR));have HB:=Ze hB;clear hB hb;go_wp2_with (refine wpList_store_row rfl 37 (.tmp 2) (.tmp 10) rfl w.heap.size _ rfl rfl 37 _ (Zb HR') Tryz.infTab rfl (by simp [Value.oneCell']) ?_)
  refine bodyPost_ret (Xx (fn:=Tryz.f37) (p:=2) (u:=3) (ty:=37) rfl _ _ w.heap.size 37 #[.int .i64 0,.int .i64 0,.int .i64 0,.int .i64 0,.int .i64 0,.slice none 0 0,.slice none 0 0,.slice none 0 0,.int .i64 0,.int .i64 0,.int .i64 0,.bool false] (0,0) _ rfl (setRow_heap _ _ _ _ _ _ (Zb HR')) Tryz.underlying37 rfl Tryz.infTab) rfl ?_;refine⟨below_setRow (Zb HBL') (Nat.le_refl _) _,_,_,rfl,rfl,by simp [Value.oneCell'],?_⟩;unfold La;rw [hF];exact⟨rfl,q,rfl,by first | omega | (simp at hq; omega),(Zb HB).setRow (by first | omega | (simp at hq; omega)) _⟩
 ·
  go_enter Tryz.func37,Tryz.ntmps37
  go_wp2_with fail
  refine(Ygm s _ (by omega) ((Zb HU).below ((Below.refl w.heap.size w).alloc (Nat.le_refl _) _) (Zb HU).lt)).mono ?_;rintro e w1 ⟨v,r,rfl,hb1,hm⟩;have HBL:=Ze (((Below.refl w.heap.size w).alloc (Nat.le_refl _) _).trans (hb1.mono (by simp)));have HR:=Ze ((hb1.block w.heap.size (by simp)).trans (heap_alloc_new w _));have hsz1:=hb1.size;simp only [World.size_alloc] at hsz1;clear hb1;cases hc:Ga s s.size 0 false [] with
  | inl p =>
   rw [hc] at hm;simp only at hm;subst hm;have hF:Jt s=.inl (1,p):=by unfold Jt; rw [if_neg h4,hc]
   go_wp2_with fail
   refine(Zcl 1 p _).mono ?_;rintro e wB ⟨q,rfl,hB,hq,hb⟩;have HBL':=Ze ((Zb HBL).trans (hb.mono (by omega)));have HR':=Ze ((hb.block w.heap.size (by omega)).trans (Zb HR));have HB:=Ze hB;clear hB hb;go_wp2_with (refine wpList_store_row rfl 37 (.tmp 2) (.tmp 19) rfl w.heap.size _ rfl rfl 37 _ (Zb HR') Tryz.infTab rfl (by simp [Value.oneCell']) ?_)
   refine bodyPost_ret (Xx (fn:=Tryz.f37) (p:=2) (u:=3) (ty:=37) rfl _ _ w.heap.size 37 #[.int .i64 0,.int .i64 0,.int .i64 0,.int .i64 0,.int .i64 0,.slice none 0 0,.slice none 0 0,.slice none 0 0,.int .i64 0,.int .i64 0,.int .i64 0,.bool false] (0,0) _ rfl (setRow_heap _ _ _ _ _ _ (Zb HR')) Tryz.underlying37 rfl Tryz.infTab) rfl ?_;refine⟨below_setRow (Zb HBL') (Nat.le_refl _) _,_,_,rfl,rfl,by simp [Value.oneCell'],?_⟩;unfold La;rw [hF];exact⟨rfl,q,rfl,by first | omega | (simp at hq; omega),(Zb HB).setRow (by first | omega | (simp at hq; omega)) _⟩
  | inr l =>
   rw [hc] at hm;simp only at hm;obtain⟨rfl,hown⟩:=hm;have hF:Jt s=Rm s l:=by unfold Jt; rw [if_neg h4,hc]
   obtain⟨hw,hl⟩:=Yen hc;obtain⟨va,vcap,rfl⟩:∃ a cap,v=.slice a l.length cap:=by
    rcases hown.shape with⟨e,rfl⟩ | ⟨g,cap,rfl⟩
    ·
     subst e; exact⟨_,_,rfl⟩
    ·
     exact⟨_,_,rfl⟩
   have hvb:(Value.slice va l.length vcap).ownBlock≠some w1.heap.size:=fun e=>by have:=(hown.lt _ e).2; omega
   have HO:=Ze hown;have HW:=Ze hw;clear hown hw hc;go_wp2_with (refine wpList_store_row rfl 169 (.tmp 6) (.tmp 24) rfl w1.heap.size _ rfl rfl 169 _ (heap_alloc_new _ _) Tryz.infRdr rfl (by simp [Value.oneCell']) ?_; rw [Sv])
   have hlow:∀ X,Below w1.heap.size w1 (w1.alloc X):=fun X=>(Below.refl _ _).alloc (Nat.le_refl _) _;have hgw:∀ X,w.grownBy (w1.alloc X) (some w.heap.size):=fun X=>Ya ((Zb HBL).trans ((hlow X).mono (by omega)));have HOA:=Ze (fun X=>(Zb HO).below (hlow X));have HIA:=Ze (fun X=>(Zb HI).grown (hgw X) (Nat.ne_of_lt hit));have HRA:=Ze (fun X=>(Mn w1 X w.heap.size (by omega)).trans (Zb HR));have HBA:=Ze (fun X=>(Zb HBL).trans ((hlow X).mono (by omega)));clear hlow hgw;refine(Zkm _ w1.heap.size _ (w1.heap.size+1) s _ Ut _ l (Yem w1 s l _ _) (by omega) (by simp) (Zb HOA _) hvb (by omega) (Zb HW) (Zb HIA _) (by omega)).mono ?_;rintro e w2 ⟨rfl,hg2,vs2,hR2⟩;have hz2:=hg2.size;simp only [World.size_alloc] at hz2;have HR2:=Ze ((hg2.block w.heap.size (by simp; omega) (by simp; omega)).trans (Zb HRA _));have HB2:=Ze ((Zb HBA _).trans (⟨hg2.os,hg2.tape,hg2.output,Nat.le_trans (by simp; try omega) hg2.size,fun q hq=>hg2.block q (by simp; omega) (by simp; omega)⟩:Below w.heap.size _ w2));have HO2:=Ze ((Zb HOA _).grown hg2 hvb);have HI2:=Ze ((Zb HIA _).grown hg2 (by omega));have HRS:=Ze hR2;clear hg2 hR2 HOA HIA HRA HBA;cases hok:(Ye s l l.length Ut).1 with
   | false =>
    have HF':Jt s=.inl (1,Znr s l (Ye s l l.length Ut).2.i):=by
     rw [hF]; unfold Rm; rw [if_neg (by simp [hok])]
    go_wp2_with fail
    refine(Zpo w2 w1.heap.size _ s _ _ _ _ l (Zb HRS).rdr (Zb HO2) (by omega) (Zb HRS).fit).mono ?_;rintro e w3 ⟨rfl,hb3⟩;have hz3:=hb3.size;have HB3:=Ze ((Zb HB2).trans (hb3.mono (by omega)));have HR3:=Ze ((hb3.block w.heap.size (by omega)).trans (Zb HR2));clear hb3;go_wp2_with fail
    refine(Zcl 1 (Znr s l (Ye s l l.length Ut).2.i) _).mono ?_;rintro e wB ⟨q,rfl,hB,hq,hb⟩;have HBL':=Ze ((Zb HB3).trans (hb.mono (by omega)));have HR':=Ze ((hb.block w.heap.size (by omega)).trans (Zb HR3));have HB:=Ze hB;clear hB hb;go_wp2_with (refine wpList_store_row rfl 37 (.tmp 2) (.tmp 31) rfl w.heap.size _ rfl rfl 37 _ (Zb HR') Tryz.infTab rfl (by simp [Value.oneCell']) ?_)
    refine bodyPost_ret (Xx (fn:=Tryz.f37) (p:=2) (u:=3) (ty:=37) rfl _ _ w.heap.size 37 #[.int .i64 0,.int .i64 0,.int .i64 0,.int .i64 0,.int .i64 0,.slice none 0 0,.slice none 0 0,.slice none 0 0,.int .i64 0,.int .i64 0,.int .i64 0,.bool false] (0,0) _ rfl (setRow_heap _ _ _ _ _ _ (Zb HR')) Tryz.underlying37 rfl Tryz.infTab) rfl ?_;refine⟨below_setRow (Zb HBL') (Nat.le_refl _) _,_,_,rfl,rfl,by simp [Value.oneCell'],?_⟩;unfold La;rw [HF'];exact⟨rfl,q,rfl,by first | omega | (simp at hq; omega),(Zb HB).setRow (by first | omega | (simp at hq; omega)) _⟩
   | true =>
    go_wp2_with fail
    refine(Zwr w2 w1.heap.size s _ _ _ _ (Zb HRS).rdr (Zb HI2)).mono ?_;rintro e w3 ⟨rfl,h3⟩;subst w3;cases hall:Zch (Ye s l l.length Ut).2.sn with
    | false =>
     have HF':Jt s=.inl (1,Znr s l (Ye s l l.length Ut).2.i):=by
      rw [hF]; unfold Rm; rw [if_neg (by simp [hall])]
     go_wp2_with fail
     refine(Zpo w2 w1.heap.size _ s _ _ _ _ l (Zb HRS).rdr (Zb HO2) (by omega) (Zb HRS).fit).mono ?_;rintro e w3 ⟨rfl,hb3⟩;have hz3:=hb3.size;have HB3:=Ze ((Zb HB2).trans (hb3.mono (by omega)));have HR3:=Ze ((hb3.block w.heap.size (by omega)).trans (Zb HR2));clear hb3;go_wp2_with fail
     refine(Zcl 1 (Znr s l (Ye s l l.length Ut).2.i) _).mono ?_;rintro e wB ⟨q,rfl,hB,hq,hb⟩;have HBL':=Ze ((Zb HB3).trans (hb.mono (by omega)));have HR':=Ze ((hb.block w.heap.size (by omega)).trans (Zb HR3));have HB:=Ze hB;clear hB hb;go_wp2_with (refine wpList_store_row rfl 37 (.tmp 2) (.tmp 31) rfl w.heap.size _ rfl rfl 37 _ (Zb HR') Tryz.infTab rfl (by simp [Value.oneCell']) ?_)
     refine bodyPost_ret (Xx (fn:=Tryz.f37) (p:=2) (u:=3) (ty:=37) rfl _ _ w.heap.size 37 #[.int .i64 0,.int .i64 0,.int .i64 0,.int .i64 0,.int .i64 0,.slice none 0 0,.slice none 0 0,.slice none 0 0,.int .i64 0,.int .i64 0,.int .i64 0,.bool false] (0,0) _ rfl (setRow_heap _ _ _ _ _ _ (Zb HR')) Tryz.underlying37 rfl Tryz.infTab) rfl ?_;refine⟨below_setRow (Zb HBL') (Nat.le_refl _) _,_,_,rfl,rfl,by simp [Value.oneCell'],?_⟩;unfold La;rw [HF'];exact⟨rfl,q,rfl,by first | omega | (simp at hq; omega),(Zb HB).setRow (by first | omega | (simp at hq; omega)) _⟩
    | true =>
     have HP:Rm s l=.inr (Ye s l l.length Ut).2:=by
      unfold Rm; rw [if_pos ⟨hok,hall⟩]
     go_wp2_with fail
     refine(Yas w2 w1.heap.size (w1.heap.size+1) s l _ _ vs2 (Zb HRS) HP).mono ?_;rintro e w3 ⟨rfl,hb3⟩;have hz3:=hb3.size;have HB3:=Ze ((Zb HB2).trans (hb3.mono (by omega)));have HR3:=Ze ((hb3.block w.heap.size (by omega)).trans (Zb HR2));have HRW:=Ze (fun k hk=>((Zb HRS).below hb3).row k hk);have HAP:=Ze (show Zbo (vs2 4) (vs2 5) (vs2 6) from fun g=>⟨fun h=>⟨(Zb HRS).apart 4 5 (by decide) (by decide) (by decide) g h,(Zb HRS).apart 4 6 (by decide) (by decide) (by decide) g h⟩,fun h=>(Zb HRS).apart 5 6 (by decide) (by decide) (by decide) g h⟩);clear hb3;have shp:∀ k,k<11→∃ a n p,vs2 k=.slice a n p:=fun k hk=>by
      rcases(Zb HRW k hk).2 with⟨e,_⟩ | ⟨g,cap,cur,e,-⟩
      ·
       exact⟨_,_,_,e⟩
      ·
       exact⟨_,_,_,e⟩
     obtain⟨a4,n4,p4,v4⟩:=shp 4 (by decide);obtain⟨a5,n5,p5,v5⟩:=shp 5 (by decide);obtain⟨a6,n6,p6,v6⟩:=shp 6 (by decide);have hA1:(Yt (((Ye s l l.length Ut).2.vals 0).getD 0 0) (((Ye s l l.length Ut).2.vals 1).getD 0 0) (((Ye s l l.length Ut).2.vals 2).getD 0 0) (((Ye s l l.length Ut).2.vals 3).getD 0 0) (((Ye s l l.length Ut).2.vals 3).getD 1 0) (vs2 4) (vs2 5) (vs2 6) (((Ye s l l.length Ut).2.vals 7).getD 0 0) (((Ye s l l.length Ut).2.vals 8).getD 0 0) (((Ye s l l.length Ut).2.vals 9).getD 0 0) ((Ye s l l.length Ut).2.sn 10)).size=12:=rfl;have hA2:(Yt (((Ye s l l.length Ut).2.vals 0).getD 0 0) (((Ye s l l.length Ut).2.vals 1).getD 0 0) (((Ye s l l.length Ut).2.vals 2).getD 0 0) (((Ye s l l.length Ut).2.vals 3).getD 0 0) (((Ye s l l.length Ut).2.vals 3).getD 1 0) (vs2 4) (vs2 5) (vs2 6) (((Ye s l l.length Ut).2.vals 7).getD 0 0) (((Ye s l l.length Ut).2.vals 8).getD 0 0) (((Ye s l l.length Ut).2.vals 9).getD 0 0) ((Ye s l l.length Ut).2.sn 10)).all (·.oneCell')=true:=by rw [v4,v5,v6]; simp [Yt,Value.oneCell']
     clear v4 v5 v6 shp;unfold Zex;generalize hA:Yt (((Ye s l l.length Ut).2.vals 0).getD 0 0) (((Ye s l l.length Ut).2.vals 1).getD 0 0) (((Ye s l l.length Ut).2.vals 2).getD 0 0) (((Ye s l l.length Ut).2.vals 3).getD 0 0) (((Ye s l l.length Ut).2.vals 3).getD 1 0) (vs2 4) (vs2 5) (vs2 6) (((Ye s l l.length Ut).2.vals 7).getD 0 0) (((Ye s l l.length Ut).2.vals 8).getD 0 0) (((Ye s l l.length Ut).2.vals 9).getD 0 0) ((Ye s l l.length Ut).2.sn 10)=arr at hA1 hA2 ⊢;go_wp2_with (refine wpList_store_row rfl 37 (.tmp 2) (.tmp 34) rfl w.heap.size arr rfl rfl 37 _ (Zb HR3) (Tryz.infTab.trans (congrArg some hA1.symm)) hA1.symm hA2 ?_)
     refine bodyPost_ret (Xx (fn:=Tryz.f37) (p:=2) (u:=3) (ty:=37) rfl _ _ w.heap.size 37 arr (0,0) _ rfl (setRow_heap _ _ _ _ _ _ (Zb HR3)) Tryz.underlying37 rfl (Tryz.infTab.trans (congrArg some hA1.symm))) rfl ?_;have row:=fun k hk=>Gy (Nb (Zb HRW k hk) (Nh w3 w.heap.size arr) (by omega)) (show w.heap.size≤w1.heap.size+1 by omega);refine⟨below_setRow (Zb HB3) (Nat.le_refl _) _,_,_,rfl,hA1,hA2,?_⟩;unfold La;rw [hF,HP];exact⟨vs2 4,vs2 5,vs2 6,by rw [← hA]; rfl,rfl,row 4 (by decide),row 5 (by decide),row 6 (by decide),Zb HAP⟩
def vw (s:ByteArray)(t:Tk):Nat×List UInt8:=(t.k,(s.extract t.a t.e).data.toList)
def Zhv (acc:List Tk)(p:Nat):Prop:=∀ t,acc.getLast?=some t→t.e<p
theorem Zhw (pre post:List UInt8)(x:UInt8):(⟨(pre++x :: post).toArray⟩:ByteArray).get! pre.length=x∧pre.length<(⟨(pre++x :: post).toArray⟩:ByteArray).size:=by
 constructor
 ·
  simp [ByteArray.get!]
 ·
  simp [ByteArray.size]
theorem Yfb (pre r post:List UInt8):((⟨(pre++r++post).toArray⟩:ByteArray).extract pre.length (pre.length+r.length)).data.toList=r:=by
 simp [ByteArray.data_extract]
theorem Zle (s:ByteArray)(k a:Nat)(hk:k=3∨k=4):∀(r pre post:List UInt8) (f:Nat) (acc:List Tk),s=⟨(pre++r++post).toArray⟩→(∀ b ∈ r,Jc b.toNat=k) →
 Ga s (f+r.length) pre.length false (acc++[⟨k,a,pre.length⟩])=Ga s f (pre.length+r.length) false (acc++[⟨k,a,pre.length+r.length⟩])
 | [],pre,post,f,acc,_,_=>by simp
 | b :: r,pre,post,f,acc,hs,hb=>by
  have hg:=Zhw pre (r++post) b;have he:s=⟨(pre++b :: (r++post)).toArray⟩:=by rw [hs]; simp
  rw [← he] at hg;have hkb:=hb b (by simp);have ih:=Zle s k a hk r (pre++[b]) post f acc (by rw [hs]; simp) (fun x hx=>hb x (by simp [hx]));have e1:f+(b :: r).length=(f+r.length)+1:=by simp; omega
  rw [e1,Ip s _ _ _ hg.2 (by rw [hg.1,hkb]; omega),hg.1,hkb,Yap _ _ _ _ hk];simp only [List.length_append,List.length_cons,List.length_nil] at ih ⊢;rw [ih];congr 1
  ·
   omega
  ·
   congr 3
   omega
theorem Zqi (s:ByteArray)(k:Nat)(hk:k=3∨k=4)(r pre post:List UInt8)(f:Nat)(acc:List Tk)(hs:s=⟨(pre++r++post).toArray⟩)(hb:∀ b ∈ r,Jc b.toNat=k)(hne:r≠[])(hcl:Zhv acc pre.length) :
 Ga s (f+r.length) pre.length false acc=Ga s f (pre.length+r.length) false (acc++[⟨k,pre.length,pre.length+r.length⟩]):=by
 cases r with
 | nil=>exact absurd rfl hne
 | cons b r =>
  have hg:=Zhw pre (r++post) b;have he:s=⟨(pre++b :: (r++post)).toArray⟩:=by rw [hs]; simp
  rw [← he] at hg;have hkb:=hb b (by simp);have ih:=Zle s k pre.length hk r (pre++[b]) post f acc (by rw [hs]; simp) (fun x hx=>hb x (by simp [hx]));have e1:f+(b :: r).length=(f+r.length)+1:=by simp; omega
  rw [e1,Ip s _ _ _ hg.2 (by rw [hg.1,hkb]; omega),hg.1,hkb,Zal _ _ _ (fun t ht _ _=>Nat.ne_of_lt (hcl t ht))];simp only [List.length_append,List.length_cons,List.length_nil] at ih ⊢;rw [ih];congr 1
  ·
   omega
  ·
   congr 3
   omega
theorem Zqj (s:ByteArray)(k:Nat)(hk:k=5∨k=6)(b:UInt8)(pre post:List UInt8)(f:Nat)(acc:List Tk)(hs:s=⟨(pre++b :: post).toArray⟩)(hb:Jc b.toNat=k) :
 Ga s (f+1) pre.length false acc=Ga s f (pre.length+1) false (acc++[⟨k,pre.length,pre.length+1⟩]):=by
 have hg:=Zhw pre post b;rw [← hs] at hg;rw [Ip s _ _ _ hg.2 (by rw [hg.1,hb]; omega),hg.1,hb,Zal _ _ _ (fun t _ h=>by omega)]
theorem Zyl (s:ByteArray)(b:UInt8)(pre post:List UInt8)(f:Nat)(acc:List Tk)(hs:s=⟨(pre++b :: post).toArray⟩)(hb:Jc b.toNat=1) :
 Ga s (f+1) pre.length false acc=Ga s f (pre.length+1) false acc:=by
 have hg:=Zhw pre post b;rw [← hs] at hg;exact Znt s f _ acc hg.2 (by rw [hg.1]; exact hb)
def Zhx (s:ByteArray)(p:Nat)(seg:List UInt8)(E:List (Nat×List UInt8)):Prop:=∀ f acc,Zhv acc p →
 ∃ toks,Ga s (f+seg.length) p false acc=Ga s f (p+seg.length) false (acc++toks)∧toks.map (vw s)=E∧Zhv (acc++toks) (p+seg.length)
theorem Zhx.app {s:ByteArray}{p:Nat}{g1 g2:List UInt8}{E1 E2:List (Nat×List UInt8)}(h1:Zhx s p g1 E1)(h2:Zhx s (p+g1.length) g2 E2):Zhx s p (g1++g2) (E1++E2):=by
 intro f acc hc;obtain⟨k1,a1,b1,c1⟩:=h1 (f+g2.length) acc hc;obtain⟨k2,a2,b2,c2⟩:=h2 f (acc++k1) c1;refine⟨k1++k2,?_,by rw [List.map_append,b1,b2],?_⟩
 ·
  rw [show f+(g1++g2).length=f+g2.length+g1.length by simp; omega,a1,a2,List.append_assoc];congr 1
  simp; omega
 ·
  rw [← List.append_assoc,show p+(g1++g2).length=p+g1.length+g2.length by simp; omega];exact c2
theorem Zhx.nil (s:ByteArray)(p:Nat):Zhx s p [] []:=fun f acc hc=>⟨[],by simp,rfl,by simpa using hc⟩
theorem Zlf {acc:List Tk}{t:Tk}{p:Nat}(h:t.e<p):Zhv (acc++[t]) p:=fun u hu=>by
 simp at hu;subst hu;exact h
def Du (k:Nat)(n:Int):Nat×List UInt8:=(if k=2∧n=-1 then 5 else 4,Yr k n)
def okT (k:Nat)(n:Int):Prop:=(k=2∧n=-1)∨(0≤n∧n<100)
theorem Zoj {n:Int}(h0:0≤n)(h1:n<100):∃ m:Nat,n=m∧m<100∧Lib.itoa n=(if m<10 then [UInt8.ofNat (48+m)] else [UInt8.ofNat (48+m / 10),UInt8.ofNat (48+m % 10)]):=by
 obtain⟨m,rfl⟩:=Int.eq_ofNat_of_zero_le h0;refine⟨m,rfl,by omega,?_⟩;unfold Lib.itoa;rw [if_neg (by omega)];simp only [Int.toNat_natCast];split
 ·
  rename_i h;rw [Lib.decDigits,dif_pos h]
 ·
  rename_i h;rw [Lib.decDigits,dif_neg h,Lib.decDigits,dif_pos (by omega)];rfl
theorem Iv (d:Nat)(h:d<10):Jc (UInt8.ofNat (48+d)).toNat=4∧(UInt8.ofNat (48+d)).toNat=48+d:=by
 have:(UInt8.ofNat (48+d)).toNat=48+d:=by simp; omega
 rw [this];refine⟨?_,rfl⟩;unfold Jc;rw [if_neg (by omega),if_neg (by omega),if_neg (by omega),if_pos (by omega)]
theorem Dv {k:Nat}{n:Int}(h:¬ (k=2∧n=-1))(h0:0≤n)(h1:n<100):Yr k n≠[]∧(∀ b ∈ Yr k n,Jc b.toNat=4)∧(Yr k n).length≤3∧((Io (Yr k n):Nat):Int)=n:=by
 unfold Yr;rw [if_neg h];obtain⟨m,rfl,hm,e⟩:=Zoj h0 h1;rw [e];split
 ·
  rename_i hlt;have d:=Iv m hlt;refine⟨by simp,fun b hb=>?_,by simp,?_⟩
  ·
   simp only [List.mem_singleton] at hb; subst hb; exact d.1
  ·
   simp only [Io,List.foldl,d.2]; omega
 ·
  rename_i hlt;have d:=Iv (m / 10) (by omega);have d2:=Iv (m % 10) (by omega);refine⟨by simp,fun b hb=>?_,by simp,?_⟩
  ·
   simp only [List.mem_cons,List.not_mem_nil,or_false] at hb;rcases hb with rfl | rfl
   ·
    exact d.1
   ·
    exact d2.1
  ·
   simp only [Io,List.foldl,d.2,d2.2]; omega
theorem Zqk (pre r post:List UInt8)(k:Nat):vw ⟨(pre++r++post).toArray⟩ ⟨k,pre.length,pre.length+r.length⟩=(k,r):=by
 unfold vw;rw [Yfb]
theorem Ybi (k:Nat)(n:Int)(ok:okT k n)(pre post:List UInt8)(s:ByteArray)(hs:s=⟨(pre++(32 :: Yr k n)++post).toArray⟩)(f:Nat)(acc:List Tk)(hc:∀ t,acc.getLast?=some t→t.e≤pre.length) :
 ∃ t,Ga s (f+(32 :: Yr k n).length) pre.length false acc=Ga s f (pre.length+(32 :: Yr k n).length) false (acc++[t])∧vw s t=Du k n∧t.e=pre.length+(32 :: Yr k n).length:=by
 have e0:f+(32 :: Yr k n).length=(f+(Yr k n).length)+1:=by simp; omega
 have h1:=Zyl s 32 pre (Yr k n++post) (f+(Yr k n).length) acc (by rw [hs]; simp) (by decide);have hs2:s=⟨((pre++[32])++Yr k n++post).toArray⟩:=by rw [hs]; simp
 by_cases hd:k=2∧n=-1
 ·
  have hn:Yr k n=[45]:=by unfold Yr; rw [if_pos hd]
  have hs3:s=⟨((pre++[32])++45 :: post).toArray⟩:=by rw [hs2,hn]; simp
  have h2:=Zqj s 5 (Or.inl rfl) 45 (pre++[32]) post f acc hs3 (by decide);refine⟨⟨5,(pre++[32]).length,(pre++[32]).length+1⟩,?_,?_,?_⟩
  ·
   rw [e0,h1,hn];simp only [List.length_append,List.length_cons,List.length_nil] at h2 ⊢;rw [h2]
  ·
   have:=Zqk (pre++[32]) [45] post 5;unfold Du;rw [if_pos hd,hn,hs2,hn];exact this
  ·
   simp [hn]
 ·
  have hdg:0≤n∧n<100:=ok.resolve_left hd;obtain⟨g1,g2,g3,g4⟩:=Dv hd hdg.1 hdg.2;have h2:=Zqi s 4 (Or.inr rfl) (Yr k n) (pre++[32]) post f acc hs2 g2 g1 (fun t ht=>by have:=hc t ht; simp; omega);refine⟨⟨4,(pre++[32]).length,(pre++[32]).length+(Yr k n).length⟩,?_,?_,?_⟩
  ·
   rw [e0,h1];simp only [List.length_append,List.length_cons,List.length_nil] at h2 ⊢;rw [h2];congr 1
   omega
  ·
   have:=Zqk (pre++[32]) (Yr k n) post 4;unfold Du;rw [if_neg hd,hs2];exact this
  ·
   simp; omega
theorem Zlg (k:Nat)(s:ByteArray):∀(ns:List Int) (pre post:List UInt8) (f:Nat) (acc:List Tk),(∀ n ∈ ns,okT k n)→s=⟨(pre++Yb k ns++post).toArray⟩→(∀ t,acc.getLast?=some t→t.e≤pre.length) →
 ∃ toks,Ga s (f+(Yb k ns).length) pre.length false acc=Ga s f (pre.length+(Yb k ns).length) false (acc++toks)∧toks.map (vw s)=ns.map (Du k)∧(∀ t,(acc++toks).getLast?=some t→t.e≤pre.length+(Yb k ns).length)
 | [],pre,post,f,acc,_,_,hc=>⟨[],by simp [Yb],rfl,by simpa [Yb] using hc⟩
 | n :: ns,pre,post,f,acc,hok,hs,hc=>by
  have e1:Yb k (n :: ns)=(32 :: Yr k n)++Yb k ns:=by simp [Yb]
  obtain⟨t,a1,b1,c1⟩:=Ybi k n (hok n (by simp)) pre (Yb k ns++post) s (by rw [hs,e1]; simp) (f+(Yb k ns).length) acc hc;obtain⟨toks,a2,b2,c2⟩:=Zlg k s ns (pre++(32 :: Yr k n)) post f (acc++[t]) (fun x hx=>hok x (by simp [hx])) (by rw [hs,e1]; simp) (fun u hu=>by simp at hu; subst hu; rw [c1]; simp);refine⟨t :: toks,?_,by simp [b1,b2],?_⟩
  ·
   rw [e1,show f+((32 :: Yr k n)++Yb k ns).length=f+(Yb k ns).length+(32 :: Yr k n).length by simp; omega,a1];simp only [List.length_append] at a2 ⊢;rw [a2];simp only [List.append_assoc,List.singleton_append];congr 1
   omega
  ·
   intro u hu;have:=c2 u (by simpa using hu);simp only [List.length_append,e1] at this ⊢;omega
def Gg (k:Nat)(ns:List Int):List (Nat×List UInt8):=(3,nm k) :: (ns.map (Du k)++[(6,[59])])
theorem Ybj (k:Nat)(hk:k<11):nm k≠[]∧∀ b ∈ nm k,Jc b.toNat=3:=by
 match k,hk with
 | 0,_ | 1,_ | 2,_ | 3,_ | 4,_ | 5,_ | 6,_ | 7,_ | 8,_ | 9,_ | 10,_=>exact⟨by decide,by decide⟩
theorem Zym (k:Nat)(hk:k<11)(ns:List Int)(hok:∀ n ∈ ns,okT k n)(pre post:List UInt8)(s:ByteArray)(hs:s=⟨(pre++Yh k ns++post).toArray⟩):Zhx s pre.length (Yh k ns) (Gg k ns):=by
 intro f acc hc;obtain⟨w1,w2⟩:=Ybj k hk;have h1:=Zqi s 3 (Or.inl rfl) (nm k) pre (Yb k ns++[59,10]++post) (f+1+1+(Yb k ns).length) acc (by rw [hs]; simp [Yh]) w2 w1 hc;obtain⟨toks,a2,b2,c2⟩:=Zlg k s ns (pre++nm k) ([59,10]++post) (f+1+1) (acc++[⟨3,pre.length,pre.length+(nm k).length⟩]) hok (by rw [hs]; simp [Yh]) (fun t ht=>by simp at ht; subst ht; simp);have h3:=Zqj s 6 (Or.inr rfl) 59 (pre++nm k++Yb k ns) (10 :: post) (f+1) (acc++[⟨3,pre.length,pre.length+(nm k).length⟩]++toks) (by rw [hs]; simp [Yh]) (by decide);have h4:=Zyl s 10 (pre++nm k++Yb k ns++[59]) post f (acc++[⟨3,pre.length,pre.length+(nm k).length⟩]++toks++[⟨6,(pre++nm k++Yb k ns).length,(pre++nm k++Yb k ns).length+1⟩]) (by rw [hs]; simp [Yh]) (by decide);refine⟨[⟨3,pre.length,pre.length+(nm k).length⟩]++toks++[⟨6,(pre++nm k++Yb k ns).length,(pre++nm k++Yb k ns).length+1⟩],?_,?_,?_⟩
 ·
  rw [show f+(Yh k ns).length=f+1+1+(Yb k ns).length+(nm k).length by simp [Yh]; omega,h1];simp only [List.length_append,List.length_cons,List.length_nil] at a2 h3 h4 ⊢;rw [a2,h3,h4];simp only [List.append_assoc];congr 1
  simp [Yh]; omega
 ·
  simp only [List.map_append,b2,List.map_cons,List.map_nil,Gg];have v1:=Zqk pre (nm k) (Yb k ns++[59,10]++post) 3;have v2:=Zqk (pre++nm k++Yb k ns) [59] (10 :: post) 6;have e1:(⟨(pre++nm k++(Yb k ns++[59,10]++post)).toArray⟩:ByteArray)=s:=by rw [hs]; simp [Yh]
  have e2:(⟨(pre++nm k++Yb k ns++[59]++(10 :: post)).toArray⟩:ByteArray)=s:=by rw [hs]; simp [Yh]
  rw [e1] at v1;rw [e2] at v2;simp only [List.length_cons,List.length_nil] at v2;rw [v1,v2];simp
 ·
  rw [show acc++([⟨3,pre.length,pre.length+(nm k).length⟩]++toks++[⟨6,(pre++nm k++Yb k ns).length,(pre++nm k++Yb k ns).length+1⟩])=(acc++([⟨3,pre.length,pre.length+(nm k).length⟩]++toks))++[⟨6,(pre++nm k++Yb k ns).length,(pre++nm k++Yb k ns).length+1⟩] by simp];exact Zlf (by simp [Yh]; omega)
def Xl (Q:List (Nat×List Int)):List UInt8:=Q.flatMap fun x=>Yh x.1 x.2
def Gw (Q:List (Nat×List Int)):List (Nat×List UInt8):=Q.flatMap fun x=>Gg x.1 x.2
theorem Zga (s:ByteArray):∀(Q:List (Nat×List Int)) (pre post:List UInt8),(∀ x ∈ Q,x.1<11∧∀ n ∈ x.2,okT x.1 n)→s=⟨(pre++Xl Q++post).toArray⟩→Zhx s pre.length (Xl Q) (Gw Q)
 | [],pre,post,_,_=>Zhx.nil s _
 | x :: Q,pre,post,h,hs=>by
  have e1:Xl (x :: Q)=Yh x.1 x.2++Xl Q:=by simp [Xl]
  have e2:Gw (x :: Q)=Gg x.1 x.2++Gw Q:=by simp [Gw]
  rw [e1,e2];refine(Zym x.1 (h x (by simp)).1 x.2 (h x (by simp)).2 pre (Xl Q++post) s (by rw [hs,e1]; simp)).app ?_;have:=Zga s Q (pre++Yh x.1 x.2) post (fun y hy=>h y (by simp [hy])) (by rw [hs,e1]; simp);simpa using this
theorem Ztn (Q:List (Nat×List Int))(h:∀ x ∈ Q,x.1<11∧∀ n ∈ x.2,okT x.1 n):∃ L,Ga ⟨(Xl Q).toArray⟩ (⟨(Xl Q).toArray⟩:ByteArray).size 0 false []=.inr L∧L.map (vw ⟨(Xl Q).toArray⟩)=Gw Q:=by
 obtain⟨toks,a,b,-⟩:=Zga ⟨(Xl Q).toArray⟩ Q [] [] h (by simp) 0 [] (fun t ht=>by simp at ht);refine⟨toks,?_,b⟩;simp only [List.length_nil,Nat.zero_add,List.nil_append] at a;have e:(⟨(Xl Q).toArray⟩:ByteArray).size=(Xl Q).length:=by simp [ByteArray.size]
 rw [e,a];rfl
end Go.Proofs.YtedemloocadimaaGreatDoor
