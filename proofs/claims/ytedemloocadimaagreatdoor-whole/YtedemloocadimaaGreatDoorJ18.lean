import Derived.Test.YtedemloocadimaaGreatDoorJ17
import Derived.Deep.CutRange
import Derived.Test.YtedemloocadimaaGreatDoorRows
import Derived.Test.YtedemloocadimaaGreatDoorCards
import Derived.Test.YtedemloocadimaaGreatDoorTie
import Derived.ProofKit
import Derived.OpenShut
import Derived.ChangeSame
import Derived.ChangeSlices
import Derived.ChangeVars
import Derived.JoinedOf
import Derived.RowKit
import Derived.RowKitTokens
import Derived.LaidLaws
import Derived.LaidHandle
import Derived.LaidSub
import Derived.Stop.Joined
import Derived.SevenTiedAt
import Derived.SizedLaws
import Derived.WideShapes
import Derived.MakeChecks
import Derived.Lib.LaidU8
import Derived.Lay
import Derived.Test.YtedemloocadimaaGreatDoorCkQ
import Derived.Test.YtedemloocadimaaGreatDoorJ23
import Derived.Test.YtedemloocadimaaGreatDoorJ7
namespace Go.Proofs.YtedemloocadimaaGreatDoor
open Go.RowKit
set_option maxHeartbeats 2000000
set_option maxRecDepth 100000
structure TD where
 r:Int
 sp:Int
 lk:Int
 t0:Int
 t1:Int
 al:Int
 sh:Int
 by_:Int
 pr:Bool
 l4:List Int
 l5:List Int
 l6:List Int
def td (k:Nat):TD:=if k=0 then ⟨12,11,-1,9,10,16,0,2,false,[0,1,2,3],[0,1],[5,6,7]⟩ else ⟨14,13,12,10,11,16,16,2,true,[0,1,2,3],[0,1],[6,7,8,9]⟩
def TD.box (d:TD)(v4 v5 v6:Value):Array Value:=Yt d.r d.sp d.lk d.t0 d.t1 v4 v5 v6 d.al d.sh d.by_ d.pr
def Zww (b:Bool):Int:=match b with
 | true=>0
 | false=>2
theorem Zwx (r sp lk t0 t1:Int)(va vr vs:Value)(al sh by_:Int)(pr:Bool)(ag rs ss:List Int)(w:World)(ha:Rs w va ag)(hr:Rs w vr rs)(hs:Rs w vs ss)(ca:∀ a n cap,va=.slice a n cap→n≤cap)(cr:∀ a n cap,vr=.slice a n cap→n≤cap)(cs:∀ a n cap,vs=.slice a n cap→n≤cap):Calls Tryz.prog 24 #[.agg (Yt r sp lk t0 t1 va vr vs al sh by_ pr)] w fun e w'=>e=.returned (Zwv (Lq r sp lk t0 t1 ag rs ss al sh by_))∧Below w.heap.size w w':=by
 have hb:∀ X,Below w.heap.size w (w.alloc X):=fun X=>(Below.refl w.heap.size w).alloc (Nat.le_refl _) X;have HC:=Ze (fun X:Obj=>Zpr r sp lk t0 t1 va vr vs al sh by_ pr ag rs ss (w.alloc X) (ha.below (hb X)) (hr.below (hb X)) (hs.below (hb X)) ca cr cs);have HB:=Ze hb;clear hb ha hr hs ca cr cs;unfold Yt at HC ⊢;go_enter Tryz.func24,Tryz.ntmps24
 go_wp2_with fail
 refine(Zb HC _).mono ?_;rintro e w1 ⟨rfl,hb1⟩;have HB1:=Ze ((Zb HB _).trans (hb1.mono (by simp)));clear hb1;go_wp2;go_ret;exact⟨rfl,Zb HB1⟩
theorem Zsp (r sp lk t0 t1:Int)(va vr vs:Value)(al sh by_:Int)(pr:Bool)(ag rs ss:List Int)(w:World)(hE:Xj w)(ha:Rs w va ag)(hr:Rs w vr rs)(hs:Rs w vs ss)(ca:∀ a n cap,va=.slice a n cap→n≤cap)(cr:∀ a n cap,vr=.slice a n cap→n≤cap)(cs:∀ a n cap,vs=.slice a n cap→n≤cap):Calls Tryz.prog 10 #[.agg (Yt r sp lk t0 t1 va vr vs al sh by_ pr)] w fun e w'=>e=.returned (Iw (Zww (Lq r sp lk t0 t1 ag rs ss al sh by_)) (-1) (-1) (-1))∧Below w.heap.size w w':=by
 have h0:=Jx hE;have hb:∀ X Y,Below w.heap.size w ((w.alloc X).alloc Y):=fun X Y=>((Below.refl w.heap.size w).alloc (Nat.le_refl _) X).alloc (by simp) Y;have HC:=Ze (fun X Y:Obj=>Zwx r sp lk t0 t1 va vr vs al sh by_ pr ag rs ss ((w.alloc X).alloc Y) (ha.below (hb X Y)) (hr.below (hb X Y)) (hs.below (hb X Y)) ca cr cs);have HB:=Ze hb;have HE:=Ze hE;clear hb ha hr hs ca cr cs hE;unfold Yt at HC ⊢;go_enter Tryz.func10,Tryz.ntmps10
 go_wp2_with fail
 refine(Zb HC _ _).mono ?_;rintro e w1 ⟨rfl,hb1⟩;have hz1:=hb1.size;simp only [World.size_alloc] at hz1;have HB1:=Ze ((Zb HB _ _).trans (hb1.mono (by simp; omega)));have HR:=Ze ((hb1.block (w.heap.size+1) (by simp)).trans (heap_alloc2_new w _ _));have hf:Calls Tryz.prog 19 #[Zwv (Lq r sp lk t0 t1 ag rs ss al sh by_)] w1 fun e w'=>e=.returned (Iw (Zww (Lq r sp lk t0 t1 ag rs ss al sh by_)) (-1) (-1) (-1))∧Below w1.heap.size w1 w':=by
  have hE1:Xj w1:=(Zb HE).below (Zb HB1) h0;cases Lq r sp lk t0 t1 ag rs ss al sh by_ with
  | true=>exact Uy w1
  | false=>exact Rf 2 w1 hE1
 have HF:=Ze hf;clear hb1 hf;go_wp2_with fail
 refine(Zb HF).mono ?_;rintro e w2 ⟨rfl,hb2⟩;have HB2:=Ze ((Zb HB1).trans (hb2.mono (by omega)));have HR2:=Ze ((hb2.block (w.heap.size+1) (by omega)).trans (Zb HR));clear hb2;obtain⟨fv,f1,f2,f3⟩:=Zho (Zww (Lq r sp lk t0 t1 ag rs ss al sh by_)) (-1) (-1) (-1);have HF1:=Ze f1;rw [← f1];clear f1;go_wp2_with (refine wpList_store_row rfl 28 (.tmp 2) (.tmp 5) rfl (w.heap.size+1) fv rfl rfl 28 _ (Zb HR2) (Tryz.infFlt.trans (congrArg some f2.symm)) f2.symm f3 ?_)
 refine bodyPost_ret (results_cell_row (fn:=Tryz.f10) (p:=2) (ty:=28) rfl _ _ (w.heap.size+1) 28 fv (0,0) _ rfl (setRow_heap _ _ _ _ _ _ (Zb HR2)) Tryz.underlying28 rfl (Tryz.infFlt.trans (congrArg some f2.symm))) rfl ?_;exact⟨by rw [Zb HF1],below_setRow (Zb HB2) (by omega) _⟩
theorem Zsm (kk:Nat)(hk:kk<2)(w:World)(hU:U8 w)(hI:Itm w)(hE:Xj w):Calls Tryz.prog 7 #[.int .i64 kk] w fun e w'=>Below w.heap.size w w'∧∃ v4 v5 v6,e=.returned (.tuple #[.agg ((td kk).box v4 v5 v6),Iw 0 (-1) (-1) (-1)])∧w'.ownsRow w.heap.size 3 1 v4 (td kk).l4.length (Jo (td kk).l4)∧w'.ownsRow w.heap.size 3 1 v5 (td kk).l5.length (Jo (td kk).l5)∧w'.ownsRow w.heap.size 3 1 v6 (td kk).l6.length (Jo (td kk).l6)∧Zbo v4 v5 v6:=by
 match kk,hk with
 | 0,_ =>
  obtain⟨S,hS,hv,hp⟩:=Zxa Zwy;refine(Zeh 0 (some S) (Or.inl ⟨rfl,S,rfl,hS⟩) w hU hI hE).mono ?_;rintro e w' ⟨hb,arr,fv,rfl,⟨v4,v5,v6,h1,h2,h3,h4,h5⟩,hf⟩;rw [hv 4 (by omega)] at h2;rw [hv 5 (by omega)] at h3;rw [hv 6 (by omega)] at h4;refine⟨hb,v4,v5,v6,?_,h2,h3,h4,h5⟩;rw [h1,hf];unfold Zex;rw [hv 0 (by omega),hv 1 (by omega),hv 2 (by omega),hv 3 (by omega),hv 7 (by omega),hv 8 (by omega),hv 9 (by omega),hp];rfl
 | 1,_ =>
  obtain⟨S,hS,hv,hp⟩:=Zxa Zwz;refine(Zeh 1 (some S) (Or.inr (Or.inl ⟨rfl,S,rfl,hS⟩)) w hU hI hE).mono ?_;rintro e w' ⟨hb,arr,fv,rfl,⟨v4,v5,v6,h1,h2,h3,h4,h5⟩,hf⟩;rw [hv 4 (by omega)] at h2;rw [hv 5 (by omega)] at h3;rw [hv 6 (by omega)] at h4;refine⟨hb,v4,v5,v6,?_,h2,h3,h4,h5⟩;rw [h1,hf];unfold Zex;rw [hv 0 (by omega),hv 1 (by omega),hv 2 (by omega),hv 3 (by omega),hv 7 (by omega),hv 8 (by omega),hv 9 (by omega),hp];rfl
theorem Rs.slice {w:World}{v:Value}{ns:List Int}(h:Rs w v ns):∃ a n p,v=.slice a n p:=by
 obtain⟨p,cap,e⟩:=h.shape;exact⟨_,_,_,e⟩
theorem Dc {w:World}{B n:Nat}{v:Value}{xs:List Value}(h:w.ownsRow B 3 1 v n xs):∃ a k p,v=.slice a k p:=by
 rcases h.2 with⟨e,_⟩ | ⟨g,cap,cur,e,-⟩
 ·
  exact⟨_,_,_,e⟩
 ·
  exact⟨_,_,_,e⟩
theorem Ds (w:World)(X Y:Obj):((w.alloc X).alloc Y).heap[w.heap.size]?=some X∧((w.alloc X).alloc Y).heap[w.heap.size+1]?=some Y∧Below w.heap.size w ((w.alloc X).alloc Y)∧((w.alloc X).alloc Y).heap.size=w.heap.size+2 :=
 ⟨(Mn _ _ _ (by simp)).trans (heap_alloc_new w _),heap_alloc2_new w _ _,((Below.refl w.heap.size w).alloc (Nat.le_refl _) _).alloc (by simp) _,by simp⟩
end Go.Proofs.YtedemloocadimaaGreatDoor
namespace Go.Proofs.YtedemloocadimaaGreatDoor
open Go.ChangeShapes Go.WideShapes Go.ChangeAt Go.RowKit
theorem Tryz.gItemsQ : Tryz.prog.globalNamed "prologue/table.items" = some 1 := by kernel_rfl
theorem Tryz.gItemsTQ:(Tryz.prog.globals[1]?).map (·.type)=some 225:=by kernel_rfl
theorem Tryz.cellsItemQ:Tryz.prog.cellsOf 224=5:=by kernel_rfl
theorem Tryz.cellsStrQ:Tryz.prog.cellsOf 9=1:=by kernel_rfl
theorem Tryz.cellsBoolQ:Tryz.prog.cellsOf 4=1:=by kernel_rfl
theorem Tryz.cellsIntQ:Tryz.prog.cellsOf 3=1:=by kernel_rfl
theorem Sg {α:Type}{tr:TypeId→List Value→Option α}{fs:Array Field}{cs:List Value}{xs:List α}{c:Nat}{i:Nat}{f:Field}{y:α}
 (hf:∀(i:Nat) (f:Field),fs[i]?=some f→tr f.type ((cs.drop f.offset).take (Tryz.prog.cellsOf f.type))=xs[i]?) (hi:fs[i]?=some f) (hc:Tryz.prog.cellsOf f.type=c) (hy:xs[i]?=some y):tr f.type ((cs.drop f.offset).take c)=some y:=by
 rw [← hy,← hf i f hi,hc]
theorem Yeq {α:Type}{l:List α}(h:l.length=5):∃ a0 a1 a2 a3 a4,l=[a0,a1,a2,a3,a4]:=by
 match l,h with
 | [a0,a1,a2,a3,a4],_=>exact⟨_,_,_,_,_,rfl⟩
theorem Znz (k:Nat)(hk:k<11):∃ l:List (DataW Unit),(Rows.laid_prologue_table_items:DataW Unit)=.agg l∧l[k]?=some (.agg [.lit (.string (nm k)),.lit (.int .i64 (loK k)),.lit (.int .i64 (hiK k)),.lit (.bool (decide (k=2))),.lit (.bool (decide (k=10)))]):=by
 refine⟨_,rfl,?_⟩;match k,hk with
 | 0,_ | 1,_ | 2,_ | 3,_ | 4,_ | 5,_ | 6,_ | 7,_ | 8,_ | 9,_ | 10,_=>rfl
theorem Zhp {W : World} (h : Lib.VarReads Tryz.prog W "prologue/table.items" Rows.laid_prologue_table_items) : Itm W := by
 obtain⟨g,t,cs,fuel,p,hg,ht,hv,hd⟩:=h;obtain rfl:=Option.some.inj (Tryz.gItemsQ.symm.trans hg);obtain rfl:=Option.some.inj (Tryz.gItemsTQ.symm.trans ht);obtain⟨xs,m,-,hx,hl,hxl,hall⟩:=DataW.trod_array Tryz.underlying225 hd;have key:∀ k,k<11→W.cell? ⟨1,k*5,none⟩=some (.string ⟨(nm k).toArray⟩)∧W.cell? ⟨1,k*5+1,none⟩=some (.int .i64 (loK k))∧W.cell? ⟨1,k*5+2,none⟩=some (.int .i64 (hiK k))∧W.cell? ⟨1,k*5+3,none⟩=some (.bool (decide (k=2)))∧W.cell? ⟨1,k*5+4,none⟩=some (.bool (decide (k=10))):=by
  intro k hk;obtain⟨l,hl1,hl2⟩:=Znz k hk;rw [hl1] at hx;have hx1:l=xs.map (·.1):=by simpa using congrArg Prod.fst hx
  rw [hx1,List.getElem?_map,Option.map_eq_some_iff] at hl2;obtain⟨⟨y,py⟩,hy,rfl⟩:=hl2;have h1:=(hall k hk).trans hy;rw [Tryz.cellsItemQ] at h1;obtain⟨ys,n,-,hz,-,hyl,hf⟩:=DataW.trod_struct Tryz.underlying224 h1;obtain⟨y0,y1,y2,y3,y4,rfl⟩:=Yeq hyl;have hz1:[.lit (.string (nm k)),.lit (.int .i64 (loK k)),.lit (.int .i64 (hiK k)),.lit (.bool (decide (k=2))),.lit (.bool (decide (k=10)))]=[y0,y1,y2,y3,y4].map (·.1):=by simpa using congrArg Prod.fst hz
  simp only [List.map_cons,List.map_nil,List.cons.injEq,and_true] at hz1;obtain⟨e0,e1,e2,e3,e4⟩:=hz1;have f0:DataW.trod (fun _=>()) Tryz.prog W 0 (fun _=>true) false n 9 ((((cs.toList.drop (k*5)).take 5).drop 0).take 1)=some y0:=Sg hf (i:=0) rfl Tryz.cellsStrQ rfl;have f1:DataW.trod (fun _=>()) Tryz.prog W 0 (fun _=>true) false n 3 ((((cs.toList.drop (k*5)).take 5).drop 1).take 1)=some y1:=Sg hf (i:=1) rfl Tryz.cellsIntQ rfl;have f2:DataW.trod (fun _=>()) Tryz.prog W 0 (fun _=>true) false n 3 ((((cs.toList.drop (k*5)).take 5).drop 2).take 1)=some y2:=Sg hf (i:=2) rfl Tryz.cellsIntQ rfl;have f3:DataW.trod (fun _=>()) Tryz.prog W 0 (fun _=>true) false n 4 ((((cs.toList.drop (k*5)).take 5).drop 3).take 1)=some y3:=Sg hf (i:=3) rfl Tryz.cellsBoolQ rfl;have f4:DataW.trod (fun _=>()) Tryz.prog W 0 (fun _=>true) false n 4 ((((cs.toList.drop (k*5)).take 5).drop 4).take 1)=some y4:=Sg hf (i:=4) rfl Tryz.cellsBoolQ rfl;clear hf hz;obtain⟨s,c0,x0,-⟩:=DataW.trod_string Tryz.underlying9 f0;obtain⟨n1,c1,x1,-⟩:=DataW.trod_int Tryz.underlying3 f1;obtain⟨n2,c2,x2,-⟩:=DataW.trod_int Tryz.underlying3 f2;obtain⟨b3,c3,x3⟩:=DataW.trod_bool Tryz.underlying4 f3;obtain⟨b4,c4,x4⟩:=DataW.trod_bool Tryz.underlying4 f4;subst x0 x1 x2 x3 x4;have hs:s=⟨(nm k).toArray⟩:=by
   simp only [DataW.lit.injEq,Lit.string.injEq] at e0;obtain⟨⟨sl⟩⟩:=s;simp at e0;rw [e0]
  have h1':n1=(loK k:Int):=by simpa using e1.symm
  have h2':n2=(hiK k:Int):=by simpa using e2.symm
  have h3':b3=decide (k=2):=by simpa using e3.symm
  have h4':b4=decide (k=10):=by simpa using e4.symm
  subst hs;rw [h1'] at c1;rw [h2'] at c2;rw [h3'] at c3;rw [h4'] at c4;have g0:=congrArg (·[0]?) c0;have g1:=congrArg (·[0]?) c1;have g2:=congrArg (·[0]?) c2;have g3:=congrArg (·[0]?) c3;have g4:=congrArg (·[0]?) c4;simp [List.getElem?_drop] at g0 g1 g2 g3 g4;refine⟨?_,?_,?_,?_,?_⟩
  ·
   rw [World.var?_cell Tryz.gItemsQ hv (k*5)]; exact g0
  ·
   rw [World.var?_cell Tryz.gItemsQ hv (k*5+1)]; exact g1
  ·
   rw [World.var?_cell Tryz.gItemsQ hv (k*5+2)]; exact g2
  ·
   rw [World.var?_cell Tryz.gItemsQ hv (k*5+3)]; exact g3
  ·
   rw [World.var?_cell Tryz.gItemsQ hv (k*5+4)]; exact g4
 exact⟨fun k hk=>⟨(key k hk).1,(key k hk).2.2.2.1⟩,fun k hk=>(key k hk).2.1,fun k hk=>(key k hk).2.2.1,fun k hk=>(key k hk).2.2.2.2⟩
theorem Tryz.u8X:U8Extra Tryz.prog Tryz.lays260_ren:=by constructor <;> kernel_rfl
theorem Yer:Rows.laid_unicode_utf8_first=Lib.firstData:=by kernel_rfl
theorem Yax:(Rows.laid_unicode_utf8_acceptRanges:DataW Unit)=Lib.acceptData:=by kernel_rfl
section
variable {H:Type} {enc:TypeId×Value→H} {w:World} {fuel:Nat} {held:Bool}
end
end Go.Proofs.YtedemloocadimaaGreatDoor
namespace Go.Proofs.YtedemloocadimaaGreatDoor
open Go.RowKit
set_option maxHeartbeats 2000000
set_option maxRecDepth 100000
theorem Ycp (r sp lk t0 t1:Int)(va vr vs:Value)(al sh by_:Int)(pr:Bool)(ag rs ss:List Int)(p:Zw)(fv ev:Value)(A E:Nat→Array Value)(w:World)(hT:Zlr w va vr vs ag rs ss)(hP:Ov w fv ev p A E)(hnn:Zif p)(hN:Zs w)(h1w:2<w.heap.size) :
 Calls Tryz.prog 26 #[.agg (Yt r sp lk t0 t1 va vr vs al sh by_ pr),.agg #[fv,ev]] w fun e w'=>∃ v,e=.returned v∧Ur w' v (Dw (Lq r sp lk t0 t1 ag rs ss al sh by_) r (Jg sp lk t0 t1) p)∧Below w.heap.size w w':=by
 have hx:=Gk w (.cells (Yt r sp lk t0 t1 va vr vs al sh by_ pr) 37 (0,0));generalize hW1:World.alloc w (.cells (Yt r sp lk t0 t1 va vr vs al sh by_ pr) 37 (0,0))=W1 at hx;have hx2:=Gk W1 (.cells #[fv,ev] 25 (0,0));have hs1:=hx.2.2;have hs2:=hx2.2.2;have hb12:=Zd hx.2.1 hx2.2.1 (by omega);have HCK:=Za (Zig r sp lk t0 t1 va vr vs al sh by_ pr ag rs ss p fv ev A E _ (hT.below hb12) (hP.below hb12) hnn (hN.keep hb12) (by omega));have HW:=Za hb12;have HSZ:=Za (show w.heap.size≤(W1.alloc (.cells #[fv,ev] 25 (0,0))).heap.size by omega);obtain⟨pf,cf,rfl⟩:=hP.fs.shape;obtain⟨pe,ce,rfl⟩:=hP.es.shape;obtain⟨pva,cva,rfl⟩:=hT.a.shape;obtain⟨pvr,cvr,rfl⟩:=hT.r.shape;obtain⟨pvs,cvs,rfl⟩:=hT.s.shape;clear hx hx2 hs1 hs2 hb12 hT hP hnn hN h1w;subst hW1;unfold Yt at HCK HW HSZ ⊢;go_enter Tryz.func26,Tryz.ntmps26
 go_wp2_with fail
 generalize World.alloc (World.alloc w _) _=W at HCK HW HSZ ⊢;refine(J HCK).mono ?_;rintro e w2 ⟨v,rfl,he,hb⟩;have HE:=Za he;have HB:=Za (Zd (J HW) hb (J HSZ));clear he hb;go_wp2;go_ret;exact⟨_,rfl,J HE,J HB⟩
theorem Zih {w:World}{v:Value}{x:Zel}(hE:Xj w)(h:Ur w v x):Calls Tryz.prog 19 #[v] w fun e w'=>e=.returned (Iw x.e x.f x.b x.a)∧Below w.heap.size w w':=by
 rcases h with⟨rfl,rfl⟩ | ⟨n,-,rfl,rfl⟩ | ⟨q,-,rfl,hb⟩
 ·
  exact Uy w
 ·
  exact Rf n w hE
 ·
  exact Zbb _ _ _ _ q w hE hb
theorem Xj.keep {w w':World}(h:Xj w)(hb:Below w.heap.size w w'):Xj w':=(hb.cell (World.block_lt_of_cell? w _ h)).trans h
theorem Ur.shape {w:World}{v:Value}{x:Zel}(h:Ur w v x):v=.nilIface∨∃ t u,v=.iface t u:=by
 rcases h with⟨rfl,rfl⟩ | ⟨n,-,rfl,rfl⟩ | ⟨q,-,rfl,hb⟩
 ·
  exact Or.inl rfl
 ·
  exact Or.inr ⟨_,_,rfl⟩
 ·
  exact Or.inr ⟨_,_,rfl⟩
theorem Tryz.infFltK:(Tryz.prog.info? 28).map (·.size)=some 4:=by kernel_rfl
theorem Zyr (r sp lk t0 t1:Int)(va vr vs:Value)(al sh by_:Int)(pr:Bool)(ag rs ss:List Int)(p:Zw)(fv ev:Value)(A E:Nat→Array Value)(w:World)(hT:Zlr w va vr vs ag rs ss)(hP:Ov w fv ev p A E)(hnn:Zif p)(hN:Zs w)(h1w:2<w.heap.size)(hE:Xj w) :
 Calls Tryz.prog 13 #[.agg (Yt r sp lk t0 t1 va vr vs al sh by_ pr),.agg #[fv,ev]] w fun e w'=>e=.returned (Iw (Dw (Lq r sp lk t0 t1 ag rs ss al sh by_) r (Jg sp lk t0 t1) p).e (Dw (Lq r sp lk t0 t1 ag rs ss al sh by_) r (Jg sp lk t0 t1) p).f (Dw (Lq r sp lk t0 t1 ag rs ss al sh by_) r (Jg sp lk t0 t1) p).b (Dw (Lq r sp lk t0 t1 ag rs ss al sh by_) r (Jg sp lk t0 t1) p).a)∧Below w.heap.size w w':=by
 have hx:=Gk w (.cells (Yt r sp lk t0 t1 va vr vs al sh by_ pr) 37 (0,0));generalize hW1:World.alloc w (.cells (Yt r sp lk t0 t1 va vr vs al sh by_ pr) 37 (0,0))=W1 at hx;have hx2:=Gk W1 (.cells #[fv,ev] 25 (0,0));generalize hW2:World.alloc W1 (.cells #[fv,ev] 25 (0,0))=W2 at hx2;have hx3:=Gk W2 (.cells #[.int .i64 0,.int .i64 0,.int .i64 0,.int .i64 0] 28 (0,0));have hs1:=hx.2.2;have hs2:=hx2.2.2;have hs3:=hx3.2.2;have hb12:=Zd (Zd hx.2.1 hx2.2.1 (by omega)) hx3.2.1 (by omega);have HCK:=Za (Ycp r sp lk t0 t1 va vr vs al sh by_ pr ag rs ss p fv ev A E _ (hT.below hb12) (hP.below hb12) hnn (hN.keep hb12) (by omega));have HW:=Za hb12;have HE:=Za (hE.keep hb12);have hr3:=hx3.1;rw [hs2,hs1] at hr3 hs3;have HR:=Za hr3;have HSZ:=Za hs3;obtain⟨pf,cf,rfl⟩:=hP.fs.shape;obtain⟨pe,ce,rfl⟩:=hP.es.shape;obtain⟨pva,cva,rfl⟩:=hT.a.shape;obtain⟨pvr,cvr,rfl⟩:=hT.r.shape;obtain⟨pvs,cvs,rfl⟩:=hT.s.shape;clear hx hx2 hx3 hs1 hs2 hs3 hr3 hb12 hT hP hnn hN h1w hE;subst hW1 hW2;unfold Yt at HCK HW HSZ HE HR ⊢;generalize (Dw (Lq r sp lk t0 t1 ag rs ss al sh by_) r (Jg sp lk t0 t1) p)=x at HCK ⊢;obtain⟨xe,xf,xb,xa⟩:=x;go_enter Tryz.func13,Tryz.ntmps13
 go_wp2_with fail
 generalize World.alloc (World.alloc (World.alloc w _) _) _=W at HCK HW HSZ HE HR ⊢;refine(J HCK).mono ?_;rintro e w2 ⟨v,rfl,he,hb⟩;have HER:=Za (Zih ((J HE).keep hb) he);have hz:=J HSZ;have HB:=Za (Zd (J HW) hb (by omega));have HR2:=Za ((hb.block (w.heap.size+1+1) (by omega)).trans (J HR));have hb2z:=hb.size;have HZ2:=Za (show w.heap.size+1+1<w2.heap.size by omega);clear he hb hz hb2z;go_wp2_with fail
 refine(J HER).mono ?_;rintro e w3 ⟨rfl,hb3⟩;have HB3:=Za (Zd (J HB) hb3 (J HB).size);have HR3:=Za ((hb3.block (w.heap.size+1+1) (J HZ2)).trans (J HR2));clear hb3;unfold Iw;go_wp2_with (refine wpList_store_row rfl 28 (.tmp 4) (.tmp 8) rfl (w.heap.size+1+1) #[.int .i64 xe,.int .i64 xf,.int .i64 xb,.int .i64 xa] rfl rfl 28 _ (J HR3) (Tryz.infFltK.trans rfl) rfl (by simp [Value.oneCell']) ?_)
 refine bodyPost_ret (Iy (fn:=Tryz.f13) (q:=4) (uy:=28) rfl _ _ (w.heap.size+1+1) 28 #[.int .i64 xe,.int .i64 xf,.int .i64 xb,.int .i64 xa] (0,0) _ rfl (setRow_heap _ _ _ _ _ _ (J HR3)) Tryz.underlying28 rfl (Tryz.infFltK.trans rfl)) rfl ?_;exact⟨rfl,Zx (J HB3) (by omega)⟩
end Go.Proofs.YtedemloocadimaaGreatDoor
namespace Go.Proofs.YtedemloocadimaaGreatDoor
open Go.ChangeShapes Go.WideShapes Go.ChangeAt Go.RowKit Go.Deep
set_option maxRecDepth 100000
theorem Ki {H:Type}{P:Program}{e:TypeId}{d:DataW H}{x:Nat}:∀{l:List (DataW H)},d ∈ l→x ∈ d.weights P e→x ∈ DataW.weightsAll P e l
 | a :: r,hd,hx=>by
  rw [DataW.weightsAll];rcases List.mem_cons.1 hd with rfl | h
  ·
   exact List.mem_append.2 (Or.inl hx)
  ·
   exact List.mem_append.2 (Or.inr (Ki h hx))
theorem LS.congr {size:Nat}{w:World}{v:Value}{n:Nat}{A B:Nat→Array Value}(h:LS size w v n A)(e:∀ i,i<n→A i=B i):LS size w v n B:=by
 obtain⟨p,cap,h1,h2,h3,h4⟩:=h;refine⟨p,cap,h1,h2,h3,fun h0=>?_⟩;obtain⟨sb,so,e1,hl,hc⟩:=h4 h0;exact⟨sb,so,e1,hl,fun i hi=>by rw [← e i hi]; exact hc i hi⟩
section
variable {H:Type} {enc:TypeId×Value→H} {w:World} {held:Bool}
abbrev Kj (t:TypeId)(d:DataW H):Prop:=∀ x ∈ d.weights Tryz.prog t,x≤reachBytes
theorem Oy {t e:TypeId}{α:Type}[Inhabited α]{size b:Nat}{One:Array Value×α→Prop}(ht:Tryz.prog.underlying t=some (.slice e))(hc:Tryz.prog.cellsOf e=size)(hs:0<size)(hby:Tryz.prog.bytesOf e=b)
 (elem:∀ n cs y,cs.length=size→Ct enc w held n e cs y→Kj e y.1→∃ x:α,One (cs.toArray,x))
 {n:Nat} {v:Value} {y:DataW H×List MemPlace} (h:Ct enc w held n t [v] y) (hw:Kj t y.1) :
 ∃ ps:List (Array Value×α),LS size w v ps.length (fun k=>(ps.getD k (#[],default)).1)∧(∀ q ∈ ps,One q)∧ps.length*b≤reachBytes:=by
 rcases open_slice ht h with⟨h0,h1⟩ | ⟨a,len,cap,m,k,D,Pl,h0,-,hl,hm,hmm,h1,hx⟩
 ·
  simp at h0;subst h0 h1;exact⟨[],⟨none,0,rfl,Nat.le_refl _,by show 0<Jk; decide,fun h=>absurd h (Nat.lt_irrefl 0)⟩,fun q hq=>(by cases hq),(by simp)⟩
 ·
  simp at h0;subst h0 h1;simp at hmm;subst hmm;unfold Kj at hw;simp only [DataW.weights,ht,List.length_map,List.length_range,hby] at hw;have hb0:=hw _ List.mem_cons_self;have each:∀ i,i<len→∃ q:Array Value×α,One q∧w.cells? 0 (a.add (i*size)) size=some q.1.toList:=by
   intro i hi;obtain⟨cs',g1,g2⟩:=hx i (by omega);rw [hc] at g1;obtain⟨-,hlen,-⟩:=World.cells?_some g1;obtain⟨x,g3⟩:=elem k cs' _ hlen g2 (fun z hz=>hw z (List.mem_cons.2 (Or.inr (List.mem_append.2 (Or.inl (Ki (List.mem_map.2 ⟨i,List.mem_range.2 hi,rfl⟩) hz))))));exact⟨(cs'.toArray,x),g3,by simpa using g1⟩
  haveI:Inhabited (Array Value×α):=⟨(#[],default)⟩
  obtain⟨f,hf⟩:=choose_lt each;have hlenp:((List.range len).map f).length=len:=by simp
  refine⟨(List.range len).map f,?_,?_,?_⟩
  ·
   rw [hlenp];refine⟨_,_,rfl,hl,Zgm (by omega),fun hpos=>?_⟩;obtain⟨sb,so,spot⟩:=a;have g:=World.cells?_some (hf 0 hpos).2;have hcell:=g.2.2 0 hs;have hlt:0<(f 0).1.toList.length:=by rw [g.2.1]; exact hs
   have hsp:spot=none:=by
    rw [List.getElem?_eq_getElem hlt] at hcell;simpa [Addr.add] using World.cell?_spot hcell
   subst hsp;have hbk:sb<w.heap.size:=by
    rw [List.getElem?_eq_getElem hlt] at hcell;have:=World.block_lt_of_cell? w _ hcell;simpa [Addr.add] using this
   refine⟨sb,so,rfl,hbk,fun i hi=>?_⟩;have g:=World.cells?_some (hf i hi).2;have e1:(((List.range len).map f).getD i (#[],default)).1=(f i).1:=by simp [List.getD,hi]
   show w.rangeAt sb (so+i*size) (((List.range len).map f).getD i (#[],default)).1.toList;rw [e1];intro j x hx';have hj:j<size:=by
    have:=(List.getElem?_eq_some_iff.1 hx').1;rw [g.2.1] at this;exact this
   have:=g.2.2 j hj;rw [hx'] at this;rw [Go.WideShapes.add_plain,Go.WideShapes.add_plain] at this;exact this
  ·
   intro q hq;obtain⟨i,hi,rfl⟩:=List.mem_map.1 hq;exact(hf i (List.mem_range.1 hi)).1
  ·
   rw [hlenp];exact Nat.le_trans (Nat.mul_le_mul_right _ (Nat.le_add_right _ _)) hb0
theorem Zau {α β:Type}(ps:List (α×β))(a:α)(b:β)(k:Nat):(ps.map (·.2)).getD k b=(ps.getD k (a,b)).2:=by
 simp only [List.getD,List.getElem?_map];cases ps[k]? <;> rfl
theorem Ux {α:Type}(ps:List α)(d:α)(k:Nat)(h:k<ps.length):ps.getD k d ∈ ps:=by simp [List.getD,h]
theorem Sj {n:Nat}{v:Value}{y:DataW H×List MemPlace}(h:Ct enc w held n 35 [v] y)(hw:Kj 35 y.1):∃ ns:List Int,Li w v ns:=by
 obtain⟨ps,h1,h2,-⟩:=Oy (One:=fun q:Array Value×Int=>q.1=#[.int .i64 q.2]) Tryz.underlying35 Tryz.cellsIntE (by decide) rfl (fun n cs y hl hy _=>by
  match cs,hl with
  | [v],_ =>
   obtain⟨x,rfl,hx⟩:=Mj hy;exact⟨x,rfl⟩) h hw
 have hl:(ps.map (·.2)).length=ps.length:=by simp
 obtain⟨p,cap,g1,g2,g3,g4⟩:=(h1.congr (B:=fun k=>#[.int .i64 ((ps.map (·.2)).getD k default)]) (fun i hi=>by rw [Zau ps #[]]; exact h2 _ (Ux _ _ _ hi))).ones;exact⟨ps.map (·.2),p,cap,by rw [hl]; exact g1,by rw [hl]; exact g2,by rw [hl]; exact g3,fun h0=>by rw [hl] at h0 ⊢; exact g4 h0⟩
theorem Zbr {t e:TypeId}(ht:Tryz.prog.underlying t=some (.slice e))(hc:Tryz.prog.cellsOf e=2)(hby:Tryz.prog.bytesOf e=16)
 (elem:∀ n cs y,cs.length=2→Ct enc w held n e cs y→∃ x:Int×Int,cs.toArray=#[.int .i64 x.1,.int .i64 x.2])
 {n:Nat} {v:Value} {y:DataW H×List MemPlace} (h:Ct enc w held n t [v] y) (hw:Kj t y.1):∃ xs:List (Int×Int),LS 2 w v xs.length (fun k=>Me (xs.getD k (0,0)))∧xs.length*16≤reachBytes:=by
 obtain⟨ps,h1,h2,h3⟩:=Oy (One:=fun q:Array Value×(Int×Int)=>q.1=Me q.2) ht hc (by decide) hby (fun n cs y hl hy _=>by
  obtain⟨x,hx⟩:=elem n cs y hl hy;exact⟨x,hx⟩) h hw
 have hl:(ps.map (·.2)).length=ps.length:=by simp
 refine⟨ps.map (·.2),?_,by rw [hl]; exact h3⟩;rw [hl];exact h1.congr (fun i hi=>by rw [Zau ps #[]]; exact h2 _ (Ux _ _ _ hi))
theorem Zlu {n:Nat}{v:Value}{y:DataW H×List MemPlace}(h:Ct enc w held n 87 [v] y)(hw:Kj 87 y.1):∃ xs:List (Int×Int),LS 2 w v xs.length (fun k=>Me (xs.getD k (0,0)))∧xs.length*16≤reachBytes :=
 Zbr Tryz.underlying87 Tryz.cellsArgE (by kernel_rfl) (fun n cs y hl hy=>by
  obtain⟨x,⟨hx,-⟩,-⟩:=Zfj Tryz.underlying361 rfl rfl rfl rfl rfl hl hy;exact⟨x,hx⟩) h hw
theorem Zgf {n:Nat}{v:Value}{y:DataW H×List MemPlace}(h:Ct enc w held n 86 [v] y)(hw:Kj 86 y.1):∃ xs:List (Int×Int),LS 2 w v xs.length (fun k=>Me (xs.getD k (0,0)))∧xs.length*16≤reachBytes :=
 Zbr Tryz.underlying86 Tryz.cellsParamE (by kernel_rfl) (fun n cs y hl hy=>by
  obtain⟨x,⟨hx,-⟩,-⟩:=Zfj Tryz.underlying85 rfl rfl rfl rfl rfl hl hy;exact⟨x,hx⟩) h hw
def Zfh (i:Zq):Prop:=0≤i.n∧i.n<18446744073709551616
theorem Zqq {n:Nat}{cs:List Value}{y:DataW H×List MemPlace}(hl:cs.length=8)(h:Ct enc w held n 89 cs y)(hw:Kj 89 y.1):∃ i:Zq,Zls w cs.toArray i∧Zfh i:=by
 obtain⟨c0,c1,c2,c3,c4,c5,c6,c7,rfl⟩:=Zun hl;obtain⟨xs,k,-,hx,-,hxl,hall⟩:=DataW.trod_struct Tryz.underlying89 h;obtain⟨y0,y1,y2,y3,y4,y5,y6,y7,rfl⟩:=Zun hxl;have f0:Ct enc w held k 3 [c0] y0:=Ji hall (i:=0) rfl Tryz.cellsIntE rfl;have f1:Ct enc w held k 3 [c1] y1:=Ji hall (i:=1) rfl Tryz.cellsIntE rfl;have f2:Ct enc w held k 3 [c2] y2:=Ji hall (i:=2) rfl Tryz.cellsIntE rfl;have f3:Ct enc w held k 3 [c3] y3:=Ji hall (i:=3) rfl Tryz.cellsIntE rfl;have f4:Ct enc w held k 50 [c4] y4:=Ji hall (i:=4) rfl Tryz.cellsU64E rfl;have f5:Ct enc w held k 3 [c5] y5:=Ji hall (i:=5) rfl Tryz.cellsIntE rfl;have f6:Ct enc w held k 87 [c6] y6:=Ji hall (i:=6) rfl Tryz.cellsArgsE rfl;have f7:Ct enc w held k 35 [c7] y7:=Ji hall (i:=7) rfl Tryz.cellsIntsE rfl;clear hall;rw [show y.1=_ from congrArg Prod.fst hx] at hw;unfold Kj at hw;simp only [DataW.weights,Tryz.underlying89,List.map_cons,List.map_nil,DataW.weightsEach,List.mem_append] at hw;obtain⟨x0,rfl,b0⟩:=Mj f0;obtain⟨x1,rfl,b1⟩:=Mj f1;obtain⟨x2,rfl,b2⟩:=Mj f2;obtain⟨x3,rfl,b3⟩:=Mj f3;obtain⟨x4,rfl,b4⟩:=Zrc f4;obtain⟨x5,rfl,b5⟩:=Mj f5;obtain⟨gs,l6,-⟩:=Zlu f6 (fun z hz=>hw z (by first | exact Or.inl hz | simp only [hz,true_or,or_true]));obtain⟨os,l7⟩:=Sj f7 (fun z hz=>hw z (by first | exact Or.inl hz | simp only [hz,true_or,or_true]));exact⟨⟨x0,x1,x2,x3,x4,x5,gs,os⟩,⟨c6,c7,rfl,l6,l7⟩,b4⟩
theorem Zii {n:Nat}{cs:List Value}{y:DataW H×List MemPlace}(hl:cs.length=1)(h:Ct enc w held n 90 cs y)(hw:Kj 90 y.1) :
 ∃ l:List Zq,∃ v,cs=[v]∧Zat w v l∧∀ i ∈ l,Zfh i:=by
 match cs,hl with
 | [v],_ =>
  haveI:Inhabited Zq:=⟨⟨0,0,0,0,0,0,[],[]⟩⟩
  obtain⟨ps,h1,h2,-⟩:=Oy (One:=fun q:Array Value×Zq=>Zls w q.1 q.2∧Zfh q.2) Tryz.underlying90 Tryz.cellsInsE (by decide) rfl (fun n cs y hl hy hw=>Zqq hl hy hw) h hw;have hl:(ps.map (·.2)).length=ps.length:=by simp
  refine⟨ps.map (·.2),v,rfl,⟨_,by rw [hl]; exact h1,fun k hk=>?_⟩,fun i hi=>?_⟩
  ·
   rw [hl] at hk;have e1:(ps.getD k (#[],default))=ps[k]:=by simp [List.getD,hk]
   rw [e1,List.getElem_map];exact(h2 _ (List.getElem_mem hk)).1
  ·
   obtain⟨q,hq,rfl⟩:=List.mem_map.1 hi;exact(h2 q hq).2
theorem Zgg {n:Nat}{v:Value}{y:DataW H×List MemPlace}(h:Ct enc w held n 91 [v] y)(hw:Kj 91 y.1) :
 ∃(bl:List (List Zq)) (B:Nat→Value),LS 1 w v bl.length (fun k=>#[B k])∧(∀ k (hk:k<bl.length),Zat w (B k) bl[k])∧∀ l ∈ bl,∀ i ∈ l,Zfh i:=by
 obtain⟨ps,h1,h2,-⟩:=Oy (One:=fun q:Array Value×List Zq=>∃ v,q.1=#[v]∧Zat w v q.2∧∀ i ∈ q.2,Zfh i) Tryz.underlying91 Tryz.cellsInssE (by decide) rfl (fun n cs y hl hy hw=>by
  obtain⟨l,v,rfl,g⟩:=Zii hl hy hw;exact⟨l,v,rfl,g⟩) h hw
 have hl:(ps.map (·.2)).length=ps.length:=by simp
 refine⟨ps.map (·.2),fun k=>((ps.getD k (#[],default)).1).getD 0 undef,?_,fun k hk=>?_,fun l hl i hi=>?_⟩
 ·
  rw [hl];refine h1.congr (fun i hi=>?_);obtain⟨v',e,-⟩:=h2 _ (Ux ps (#[],default) i hi);show(ps.getD i (#[],default)).1=#[((ps.getD i (#[],default)).1).getD 0 undef];rw [e];rfl
 ·
  rw [hl] at hk;have e1:(ps.getD k (#[],default))=ps[k]:=by simp [List.getD,hk]
  obtain⟨v',e,g,-⟩:=h2 _ (List.getElem_mem hk);show Zat w (((ps.getD k (#[],default)).1).getD 0 undef) (ps.map (·.2))[k];rw [e1,List.getElem_map,e];exact g
 ·
  obtain⟨q,hq,rfl⟩:=List.mem_map.1 hl;obtain⟨v',-,-,g⟩:=h2 q hq;exact g i hi
theorem Zqr {n:Nat}{cs:List Value}{y:DataW H×List MemPlace}(hl:cs.length=2)(h:Ct enc w held n 59 cs y)(hw:Kj 59 y.1):∃ s:List Int×Int,Zlt w cs.toArray s:=by
 obtain⟨c0,c1,rfl⟩:=Zay hl;obtain⟨xs,k,-,hx,-,hxl,hall⟩:=DataW.trod_struct Tryz.underlying59 h;obtain⟨y0,y1,rfl⟩:=Zay hxl;have f0:Ct enc w held k 35 [c0] y0:=Ji hall (i:=0) rfl Tryz.cellsIntsE rfl;have f1:Ct enc w held k 3 [c1] y1:=Ji hall (i:=1) rfl Tryz.cellsIntE rfl;clear hall;rw [show y.1=_ from congrArg Prod.fst hx] at hw;unfold Kj at hw;simp only [DataW.weights,Tryz.underlying59,List.map_cons,List.map_nil,DataW.weightsEach,List.mem_append] at hw;obtain⟨ns,l0⟩:=Sj f0 (fun z hz=>hw z (by first | exact Or.inl hz | simp only [hz,true_or,or_true]));obtain⟨x1,rfl,b1⟩:=Mj f1;exact⟨(ns,x1),c0,rfl,l0⟩
def Ztu (f:Zy):Prop:=(∀ l ∈ f.blocks,∀ i ∈ l,Zfh i)∧f.params.length*16≤reachBytes
theorem Zlv {n:Nat}{cs:List Value}{y:DataW H×List MemPlace}(hl:cs.length=5)(h:Ct enc w held n 93 cs y)(hw:Kj 93 y.1):∃ f:Zy,Kh w cs.toArray f∧Ztu f:=by
 obtain⟨c0,c1,c2,c3,c4,rfl⟩:=Zum hl;obtain⟨xs,k,-,hx,-,hxl,hall⟩:=DataW.trod_struct Tryz.underlying93 h;obtain⟨y0,y1,y2,y3,y4,rfl⟩:=Zum hxl;have f0:Ct enc w held k 86 [c0] y0:=Ji hall (i:=0) rfl Tryz.cellsParamsE rfl;have f1:Ct enc w held k 3 [c1] y1:=Ji hall (i:=1) rfl Tryz.cellsIntE rfl;have f2:Ct enc w held k 35 [c2] y2:=Ji hall (i:=2) rfl Tryz.cellsIntsE rfl;have f3:Ct enc w held k 35 [c3] y3:=Ji hall (i:=3) rfl Tryz.cellsIntsE rfl;have f4:Ct enc w held k 91 [c4] y4:=Ji hall (i:=4) rfl Tryz.cellsBlocksE rfl;clear hall;rw [show y.1=_ from congrArg Prod.fst hx] at hw;unfold Kj at hw;simp only [DataW.weights,Tryz.underlying93,List.map_cons,List.map_nil,DataW.weightsEach,List.mem_append] at hw;obtain⟨pp,l0,m0⟩:=Zgf f0 (fun z hz=>hw z (by first | exact Or.inl hz | simp only [hz,true_or,or_true]));obtain⟨x1,rfl,b1⟩:=Mj f1;obtain⟨hs,l2⟩:=Sj f2 (fun z hz=>hw z (by first | exact Or.inl hz | simp only [hz,true_or,or_true]));obtain⟨ss,l3⟩:=Sj f3 (fun z hz=>hw z (by first | exact Or.inl hz | simp only [hz,true_or,or_true]));obtain⟨bl,B,l4,l5,v4⟩:=Zgg f4 (fun z hz=>hw z (by first | exact Or.inl hz | simp only [hz,true_or,or_true]));exact⟨⟨pp,x1,hs,ss,bl⟩,⟨c0,c2,c3,c4,B,rfl,⟨l0,l2,l3,l4,l5⟩⟩,v4,m0⟩
theorem Zlw {b0:Nat}{r:Reach}{v:Value}{d:DataW H}{p:List MemPlace}(hv:Value.okWide Tryz.prog w r b0 25 v)(h:DataW.Trod enc Tryz.prog w 0 (fun _=>true) held 25 v d p)(hw:Kj 25 d) :
 ∃(fv ev:Value) (P:Zw) (A E:Nat→Array Value),v=.agg #[fv,ev]∧Ov w fv ev P A E∧Zif P∧∀ k,(P.funcs.getD k Zp).params.length≤8796093022208:=by
 obtain⟨cs,rfl,hsz⟩:=okWide_struct Tryz.underlying25 hv;obtain⟨l⟩:=cs;obtain⟨c0,c1,rfl⟩:=Zay (l:=l) (hsz.trans (by kernel_rfl));obtain⟨fuel,hf⟩:=h;obtain⟨xs,k,-,hx,-,hxl,hall⟩:=DataW.trod_struct Tryz.underlying25 hf;obtain⟨y0,y1,rfl⟩:=Zay hxl;have f0:Ct enc w held k 22 [c0] y0:=Ji hall (i:=0) rfl Tryz.cellsFuncsE rfl;have f1:Ct enc w held k 23 [c1] y1:=Ji hall (i:=1) rfl Tryz.cellsSigsE rfl;clear hall;rw [show d=_ from congrArg Prod.fst hx] at hw;unfold Kj at hw;simp only [DataW.weights,Tryz.underlying25,List.map_cons,List.map_nil,DataW.weightsEach,List.mem_append] at hw;haveI:Inhabited Zy:=⟨Zp⟩
 obtain⟨pf,l0,v0,-⟩:=Oy (One:=fun q:Array Value×Zy=>Kh w q.1 q.2∧Ztu q.2) Tryz.underlying22 Tryz.cellsFuncE (by decide) rfl (fun n cs y hl hy hw=>Zlv hl hy hw) f0 (fun z hz=>hw z (by first | exact Or.inl hz | simp only [hz,true_or,or_true]));obtain⟨pe,l1,v1,-⟩:=Oy (One:=fun q:Array Value×(List Int×Int)=>Zlt w q.1 q.2) Tryz.underlying23 Tryz.cellsSigE (by decide) rfl (fun n cs y hl hy hw=>Zqr hl hy hw) f1 (fun z hz=>hw z (by first | exact Or.inl hz | simp only [hz,true_or,or_true]));have hl0:(pf.map (·.2)).length=pf.length:=by simp
 have hl1:(pe.map (·.2)).length=pe.length:=by simp
 have hfw:∀ k,Ztu ((pf.map (·.2)).getD k Zp):=fun k=>by
  by_cases hk:k<pf.length
  ·
   rw [Zau pf #[]];exact(v0 _ (Ux _ _ _ hk)).2
  ·
   rw [show(pf.map (·.2)).getD k Zp=Zp by simp [List.getD,Nat.le_of_not_lt hk]];exact⟨fun l hl=>(by cases hl),by simp [Zp]⟩
 refine⟨c0,c1,⟨pf.map (·.2),pe.map (·.2)⟩,_,_,rfl,⟨by rw [hl0]; exact l0,fun k hk=>?_,by rw [hl1]; exact l1,fun k hk=>?_⟩,fun k i j=>?_,fun k=>?_⟩
 ·
  have hk':k<pf.length:=by rw [← hl0]; exact hk
  have e1:(pf.getD k (#[],default))=pf[k]:=by simp [List.getD,hk']
  show Kh w (pf.getD k (#[],default)).1 (pf.map (·.2))[k];rw [e1,List.getElem_map];exact(v0 _ (List.getElem_mem hk')).1
 ·
  have hk':k<pe.length:=by rw [← hl1]; exact hk
  have e1:(pe.getD k (#[],default))=pe[k]:=by simp [List.getD,hk']
  show Zlt w (pe.getD k (#[],default)).1 (pe.map (·.2))[k];rw [e1,List.getElem_map];exact v1 _ (List.getElem_mem hk')
 ·
  have h:=(hfw k).1;show 0≤((((pf.map (·.2)).getD k Zp).blocks.getD i []).getD j Dd).n∧((((pf.map (·.2)).getD k Zp).blocks.getD i []).getD j Dd).n<18446744073709551616;generalize (pf.map (·.2)).getD k Zp=f at h;by_cases hi:i<f.blocks.length
  ·
   by_cases hj:j<(f.blocks.getD i []).length
   ·
    exact h _ (Ux _ _ _ hi) _ (Ux _ _ _ hj)
   ·
    rw [show(f.blocks.getD i []).getD j Dd=Dd by generalize f.blocks.getD i []=l at hj ⊢; simp [List.getD,Nat.le_of_not_lt hj]];exact⟨by decide,by decide⟩
  ·
   rw [show f.blocks.getD i []=[] by simp [List.getD,Nat.le_of_not_lt hi]];exact⟨Int.le_refl 0,by show(0:Int)<_; decide⟩
 ·
  have h:=(hfw k).2;unfold reachBytes at h;show((pf.map (·.2)).getD k Zp).params.length≤8796093022208;omega
end
end Go.Proofs.YtedemloocadimaaGreatDoor
namespace Go.Proofs.YtedemloocadimaaGreatDoor
open Go.RowKit
structure Env (w:World):Prop where
 u8:U8 w
 it:Itm w
 er:Xj w
 tb:Co w
theorem Env.below {w w':World}(h:Env w)(hb:Below w.heap.size w w'):Env w' :=
 ⟨h.u8.below hb h.u8.lt,h.it.grown (Ya (row:=some w.heap.size) hb) (Nat.ne_of_lt h.it.lt),h.er.below hb (Jx h.er),h.tb.below hb h.tb.gb⟩
structure L3 (w:World)(va vr vs:Value)(ag rs ss:List Int):Prop where
 a:Rs w va ag
 r:Rs w vr rs
 s:Rs w vs ss
 ca:∀ a n cap,va=.slice a n cap→n≤cap
 cr:∀ a n cap,vr=.slice a n cap→n≤cap
 cs:∀ a n cap,vs=.slice a n cap→n≤cap
theorem L3.below {w w':World}{va vr vs:Value}{ag rs ss:List Int}(h:L3 w va vr vs ag rs ss)(hb:Below w.heap.size w w'):L3 w' va vr vs ag rs ss:=⟨h.a.below hb,h.r.below hb,h.s.below hb,h.ca,h.cr,h.cs⟩
theorem Zoh {r sp lk t0 t1:Int}{ag rs ss:List Int}{al sh by_:Int}(h:Lq r sp lk t0 t1 ag rs ss al sh by_=true):(okN r∧okN sp∧okN lk∧okN t0∧okN t1∧okN al∧okN sh∧okN by_)∧(okI ag∧okI rs∧okI ss)∧ag.length+rs.length+ss.length≤4000000:=by
 unfold Lq at h;simp only [Bool.and_eq_true] at h;obtain⟨⟨h1,h2⟩,h3⟩:=h;have n1:=of_decide_eq_true h1;have n2:=of_decide_eq_true h2;unfold Ma at h3;simp only [Bool.and_eq_true] at h3;obtain⟨⟨⟨⟨⟨k0,k1,-⟩,k2,-⟩,k3,-⟩,-⟩,-⟩:=h3;have m0:=Um k0;have own:(0≤sp∧sp<r)∧(0≤t0∧t0<r)∧(0≤t1∧t1<r)∧(lk=-1∨(0≤lk∧lk<r)):=by
  unfold Jg at m0;by_cases hk:lk=-1
  ·
   rw [if_pos hk] at m0;exact⟨m0 sp (by simp),m0 t0 (by simp),m0 t1 (by simp),Or.inl hk⟩
  ·
   rw [if_neg hk] at m0;exact⟨m0 sp (by simp),m0 t0 (by simp),m0 t1 (by simp),Or.inr (m0 lk (by simp))⟩
 have each:∀ l:List Int,(∀ n ∈ l,0≤n∧n<r)→okI l:=fun l hl n hn=>by have:=hl n hn; omega
 unfold okN;refine⟨⟨by omega,by omega,by omega,by omega,by omega,by omega,by omega,by omega⟩,⟨each _ (Um k1),each _ (Um k2),each _ (Um k3)⟩,by omega⟩
theorem Yhb {w:World}{r sp lk t0 t1:Int}{va vr vs:Value}{al sh by_:Int}{ag rs ss:List Int}(hE:Env w)(h:Lq r sp lk t0 t1 ag rs ss al sh by_=true)(hl:L3 w va vr vs ag rs ss):Tb w r sp lk t0 t1 va vr vs al sh by_ ag rs ss :=
 have b:=Zoh h;⟨hE.tb,b.1,b.2.1,⟨hl.a,hl.r,hl.s⟩,b.2.2⟩
theorem Ztl {r sp lk t0 t1:Int}{ag rs ss:List Int}{al sh by_:Int}(pr:Bool)(h:Lq r sp lk t0 t1 ag rs ss al sh by_=true)(w:World)(hE:Env w) :
 Calls Tryz.prog 8 #[.string ⟨(Mk r sp lk t0 t1 ag rs ss al sh by_ pr).toArray⟩] w fun e w'=>Below w.heap.size w w'∧∃ a4 n4 p4 a5 n5 p5 a6 n6 p6,e=.returned (.tuple #[.agg (Yt r sp lk t0 t1 (.slice a4 n4 p4) (.slice a5 n5 p5) (.slice a6 n6 p6) al sh by_ pr),Iw 0 (-1) (-1) (-1)])∧L3 w' (.slice a4 n4 p4) (.slice a5 n5 p5) (.slice a6 n6 p6) ag rs ss:=by
 obtain⟨S,hS,v0,v1,v2,v3,v4,v5,v6,v7,v8,v9,v10⟩:=Zlj (pr:=pr) h;refine(Zfv _ w hE.u8 hE.it hE.er).mono ?_;rintro e w' ⟨hb,hm⟩;rw [hS] at hm;simp only at hm;obtain⟨u4,u5,u6,rfl,r4,r5,r6,-⟩:=hm;rw [v4] at r4;rw [v5] at r5;rw [v6] at r6;obtain⟨a4,n4,p4,rfl⟩:=Dc r4;obtain⟨a5,n5,p5,rfl⟩:=Dc r5;obtain⟨a6,n6,p6,rfl⟩:=Dc r6;refine⟨hb,a4,n4,p4,a5,n5,p5,a6,n6,p6,?_,Oa r4,Oa r5,Oa r6,Nc r4,Nc r5,Nc r6⟩;unfold Zex;rw [v0,v1,v2,v3,v7,v8,v9,v10];rfl
theorem Zoi:Jt ⟨#[]⟩=.inl (1,0):=by rfl
theorem Zhu (w:World)(hE:Env w):Calls Tryz.prog 8 #[.string ⟨#[]⟩] w fun e w'=>e=.returned (.tuple #[Zan,Iw 1 (-1) (-1) 0])∧Below w.heap.size w w':=by
 refine(Zfv _ w hE.u8 hE.it hE.er).mono ?_;rintro e w' ⟨hb,hm⟩;rw [Zoi] at hm;exact⟨hm,hb⟩
theorem Ztm (w:World)(hE:Env w):Calls Tryz.prog 7 #[.int .i64 0] w fun e w'=>Below w.heap.size w w'∧∃ a4 n4 p4 a5 n5 p5 a6 n6 p6,e=.returned (.tuple #[.agg (Yt 12 11 (-1) 9 10 (.slice a4 n4 p4) (.slice a5 n5 p5) (.slice a6 n6 p6) 16 0 2 false),Iw 0 (-1) (-1) (-1)])∧L3 w' (.slice a4 n4 p4) (.slice a5 n5 p5) (.slice a6 n6 p6) [0,1,2,3] [0,1] [5,6,7]:=by
 refine(Zsm 0 (by omega) w hE.u8 hE.it hE.er).mono ?_;rintro e w' ⟨hb,v4,v5,v6,rfl,r4,r5,r6,-⟩;obtain⟨a4,n4,p4,rfl⟩:=Dc r4;obtain⟨a5,n5,p5,rfl⟩:=Dc r5;obtain⟨a6,n6,p6,rfl⟩:=Dc r6;exact⟨hb,a4,n4,p4,a5,n5,p5,a6,n6,p6,rfl,Oa (ns:=[0,1,2,3]) r4,Oa (ns:=[0,1]) r5,Oa (ns:=[5,6,7]) r6,Nc r4,Nc r5,Nc r6⟩
theorem Zqh:Lq 12 11 (-1) 9 10 [0,1,2,3] [0,1] [5,6,7] 16 0 2=true:=by kernel_rfl
theorem Ybh:Lq 0 0 0 0 0 [] [] [] 0 0 0=false:=by kernel_rfl
theorem Yht (w:World):L3 w (.slice none 0 0) (.slice none 0 0) (.slice none 0 0) [] [] [] :=
 ⟨Or.inl ⟨rfl,_,_,rfl⟩,Or.inl ⟨rfl,_,_,rfl⟩,Or.inl ⟨rfl,_,_,rfl⟩,fun _ _ _ e=>by injection e with _ e2 e3; omega,fun _ _ _ e=>by injection e with _ e2 e3; omega,fun _ _ _ e=>by injection e with _ e2 e3; omega⟩
theorem Yhc {r sp lk t0 t1:Int}{va vr vs:Value}{al sh by_:Int}(pr:Bool){ag rs ss:List Int}(w:World)(hE:Env w)(hl:L3 w va vr vs ag rs ss):Calls Tryz.prog 10 #[.agg (Yt r sp lk t0 t1 va vr vs al sh by_ pr)] w fun e w'=>e=.returned (Iw (Zww (Lq r sp lk t0 t1 ag rs ss al sh by_)) (-1) (-1) (-1))∧Below w.heap.size w w' :=
 Zsp r sp lk t0 t1 va vr vs al sh by_ pr ag rs ss w hE.er hl.a hl.r hl.s hl.ca hl.cr hl.cs
end Go.Proofs.YtedemloocadimaaGreatDoor
