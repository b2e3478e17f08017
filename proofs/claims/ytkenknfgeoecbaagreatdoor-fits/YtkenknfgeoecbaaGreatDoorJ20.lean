import Derived.Test.YtkenknfgeoecbaaGreatDoorAs
import Derived.Test.YtkenknfgeoecbaaGreatDoorJ14
import Derived.Deep.Slices
import Derived.LaidSub
import Derived.Lib.LaidU8
import Derived.Lay
import Derived.Laws.CopyOwn
import Derived.Deep.OwnRows
import Derived.Test.YtkenknfgeoecbaaGreatDoorCards
import Derived.SevenTiedAt
namespace Go.Proofs.YtkenknfgeoecbaaGreatDoor
open Go.RowKit Go.Extern.Stop Go.Stop Go.Extern
set_option maxHeartbeats 1000000
theorem Xi {w:World}{b o:Nat}{v:Value}(h:w.cell? ⟨b,o,none⟩=some v):b<w.heap.size:=by
 rcases Nat.lt_or_ge b w.heap.size with h' | h'
 ·exact h'
 ·simp [World.cell?,Array.getElem?_eq_none h'] at h
abbrev Rm (e f b a:Int):Value:=.agg #[.int .i64 e,.int .i64 f,.int .i64 b,.int .i64 a]
abbrev Yd (w:World):Prop:=w.cell? ⟨0,0,none⟩=some (.iface 215 (.agg #[.pointer (some ⟨9,93,none⟩)]))
theorem Md (w:World):Calls Tryz.prog 26 #[.nilIface] w fun e w'=>e=.returned (Rm 0 (-1) (-1) (-1))∧Below w.heap.size w w':=by
 go_enter Tryz.func26,Tryz.ntmps26
 go_wp2;go_returns;exact⟨rfl,by go_grown⟩
theorem Yd.alloc {w:World}(h:Yd w)(o:Obj):Yd (w.alloc o):=by show(w.alloc o).cell? _=_;rw [World.cell?_alloc_lt _ _ ⟨0,0,none⟩ (Xi h)]; exact h
theorem Yd.setCell {w:World}(h:Yd w){a:Addr}(ha:0<a.block)(v:Value):Yd (w.setCell a v) :=
 ((Below.refl (min a.block w.heap.size) w).setCell (Nat.min_le_left _ _) v).cell (p:=⟨0,0,none⟩) (by show 0<min a.block w.heap.size; have:=Xi h; omega) |>.trans h
theorem Yd.below {w w':World}{B:Nat}(h:Yd w)(hb:Below B w w')(h0:0<B):Yd w':=(hb.cell (p:=⟨0,0,none⟩) h0).trans h
theorem Yd.drew {w:World}(h:Yd w):Yd w.drew:=h
theorem Me (n:Int)(w:World)(hg:Yd w):Calls Tryz.prog 26 #[.iface 127 (.int .i64 n)] w fun e w'=>e=.returned (Rm n (-1) (-1) (-1))∧Below w.heap.size w w':=by
 have hlt:=Xi hg;have HG:Hid (Yd w):=hg;clear hg;go_enter Tryz.func26,Tryz.ntmps26
 go_wp2_with fail
 refine(Zxw n _ (.int .i64 0) _ ?s1 ?s2 ?s3).mono ?_;case s1=>repeat' (first | exact HG.out | apply Yd.alloc | (apply Yd.setCell) | (simp; done) | (simp; omega))
 case s2=>rw [World.cell?_alloc_at _ _ _ _ (by simp)]; rfl
 case s3=>rw [World.frozen?_alloc_at _ _ _ _ (by simp)]
 rintro e w' ⟨rfl,rfl⟩;go_wp2_with fail
 refine(Zsp n _ _ ?s1).mono ?_;case s1=>repeat' (first | exact HG.out | apply Yd.alloc | (apply Yd.setCell) | (simp; done) | (simp; omega))
 rintro e w' ⟨rfl,rfl⟩;go_wp2_with fail
 go_returns;refine⟨rfl,?_⟩;go_grown
set_option maxHeartbeats 4000000
theorem Zcz {p:Prop}(h:p):Hid p:=h
theorem Rn {p:Prop}(h:Hid p):p:=h
structure Gv (w:World)(q:Nat)(n f b a:Int):Prop where
 c0:w.cell? ⟨q,0,none⟩=some (.iface 127 (.int .i64 n))
 c1:w.cell? ⟨q,1,none⟩=some (.int .i64 f)
 c2:w.cell? ⟨q,2,none⟩=some (.int .i64 b)
 c3:w.cell? ⟨q,3,none⟩=some (.int .i64 a)
theorem Gv.below {w w':World}{q:Nat}{n f b a:Int}(h:Gv w q n f b a)(hb:Below w.heap.size w w'):Gv w' q n f b a :=
 have hq:=Xi h.c0;⟨(hb.cell (p:=⟨q,0,none⟩) hq).trans h.c0,(hb.cell (p:=⟨q,1,none⟩) hq).trans h.c1,(hb.cell (p:=⟨q,2,none⟩) hq).trans h.c2,(hb.cell (p:=⟨q,3,none⟩) hq).trans h.c3⟩
theorem Gv.alloc {w:World}{q:Nat}{n f b a:Int}(h:Gv w q n f b a)(o:Obj):Gv (w.alloc o) q n f b a:=h.below (((Below.refl _ _).alloc (Nat.le_refl _) _))
theorem Gv.setCell {w:World}{q:Nat}{n f b a:Int}(h:Gv w q n f b a){c:Addr}(hc:c.block≠q)(v:Value):Gv (w.setCell c v) q n f b a:=by have e:∀ o,(w.setCell c v).cell? ⟨q,o,none⟩=w.cell? ⟨q,o,none⟩:=fun o=>World.cell?_of_block (Below.heap_setCell w c v q (fun e=>hc e.symm));exact⟨(e _).trans h.c0,(e _).trans h.c1,(e _).trans h.c2,(e _).trans h.c3⟩
structure Ct (w w':World)(t:Addr)(v:Value):Prop where
 same:∀ x,x<w.heap.size->x≠t.block->w'.heap[x]?=w.heap[x]?
 cell:w'.cell? t=some v
 froz:w'.frozen? t=w.frozen? t
 size:w'.heap.size=w.heap.size+4
 os:w'.os=w.os
 tape:w'.tape=w.tape
 output:w'.output=w.output
theorem Ztw (w:World)(a b c d:Obj)(t:Addr)(old v:Value)(h:w.cell? t=some old):Ct w ((((w.alloc a).alloc b).alloc c).alloc d |>.setCell t v) t v:=by have ht:t.block<w.heap.size:=World.block_lt_of_cell? w _ h;have hb:Below w.heap.size w ((((w.alloc a).alloc b).alloc c).alloc d):=((((Below.refl _ _).alloc (Nat.le_refl _) _).alloc (by simp) _).alloc (by simp; try omega) _).alloc (by simp; try omega) _;refine⟨fun x hx hne=>(Below.heap_setCell _ _ _ _ hne).trans (hb.block x hx),World.cell?_setCell_same _ _ _ ((hb.cell (p:=t) ht).trans h),?_,by simp,rfl,rfl,rfl⟩;rw [World.frozen?_setCell];exact hb.frozen (p:=t) ht
theorem Gs (w:World)(o:Obj)(x:Nat)(h:x<w.heap.size):(w.alloc o).heap[x]?=w.heap[x]?:=((Below.refl w.heap.size w).alloc (Nat.le_refl _) o).block x h
theorem Yl {w:World}{T:Nat}{t:TypeId}{cs:Array Value}(h:w.heap[T]?=some (.cells cs t (0,0))):(∀ j,w.cell? ⟨T,j,none⟩=cs[j]?)∧∀ j,w.frozen? ⟨T,j,none⟩=false :=
 ⟨fun j=>by simp [World.cell?,h],fun j=>by simp [World.frozen?,h]⟩
theorem Ct.low {w w':World}{t:Addr}{v:Value}(h:Ct w w' t v){B:Nat}(hB:B<=t.block)(hs:B<=w.heap.size):Below B w w':=⟨h.os,h.tape,h.output,by have:=h.size; omega,fun x hx=>h.same x (by omega) (by omega)⟩
theorem Ct.bad {w w':World}{t:Addr}{v:Value}(h:Ct w w' t v){q:Nat}{n f b a:Int}(hq:q≠t.block)(hb:Gv w q n f b a):Gv w' q n f b a :=
 have e:=h.same q (Xi hb.c0) hq;⟨(World.cell?_of_block e).trans hb.c0,(World.cell?_of_block e).trans hb.c1,(World.cell?_of_block e).trans hb.c2,(World.cell?_of_block e).trans hb.c3⟩
theorem Ct.err {w w':World}{t:Addr}{v:Value}(h:Ct w w' t v)(ht:t.block≠0)(hb:Yd w):Yd w':=(World.cell?_of_block (h.same 0 (Xi hb) (Ne.symm ht))).trans hb
theorem Ztx {w:World}{T:Nat}{o:Obj}(h:w.heap[T]?=some o):w.drew.heap[T]?=some o:=h
theorem Yhv {w:World}{T:Nat}{t:TypeId}{z0 z1 z2 z3:Value}(h:w.heap[T]?=some (.cells #[z0,z1,z2,z3] t (0,0)))(a b c d:Value):((((w.setCell ⟨T,0,none⟩ a).setCell ⟨T,1,none⟩ b).setCell ⟨T,2,none⟩ c).setCell ⟨T,3,none⟩ d).heap[T]?=some (.cells #[a,b,c,d] t (0,0)) :=
 heap_setCell_same _ _ _ _ _ _ (heap_setCell_same _ _ _ _ _ _ (heap_setCell_same _ _ _ _ _ _ (heap_setCell_same _ _ _ _ _ _ h)))
theorem Zao (n f b a:Int)(q:Nat)(w:World)(hg:Yd w)(h:Gv w q n f b a):Calls Tryz.prog 26 #[.iface 130 (.pointer (some ⟨q,0,none⟩))] w fun e w'=>e=.returned (Rm n f b a)∧Below w.heap.size w w':=by
 have hlt:=Xi hg;have hq:=Xi h.c0;have HG:Hid (Yd w):=hg;have HB:Hid (Gv w q n f b a):=h;clear hg h;go_enter Tryz.func26,Tryz.ntmps26
 go_wp2_with fail
 refine(Zsq n q 0 _ (.int .i64 0) _ ?s1 ?s2 ?s3 ?s4).mono ?_;case s1=>repeat' (first | exact HG.out | apply Yd.alloc | (apply Yd.setCell) | (simp; done) | (simp; omega))
 case s2=>rw [World.cell?_alloc_at _ _ _ _ (by simp)]; rfl
 case s3=>rw [World.frozen?_alloc_at _ _ _ _ (by simp)]
 case s4=>refine Gv.c0 (n:=n) (f:=f) (b:=b) (a:=a) ?_;repeat' (first | exact HB.out | apply Gv.alloc | (apply Gv.setCell) | (simp; done) | (simp; omega))
 rintro e w1 ⟨rfl,hw1⟩;have K1:=hw1 ▸ Ztw _ _ _ _ _ _ (.int .i64 0) (.int .i64 n) (by rw [World.cell?_alloc_at _ _ _ _ (by simp)]; rfl);clear hw1;have rR:w1.heap[w.heap.size]?=some (.cells #[.int .i64 0,.int .i64 0,.int .i64 0,.int .i64 0] 29 (0,0)):=(K1.same _ (by simp; omega) (by simp; try omega)).trans ((Gs _ _ _ (by simp; omega)).trans ((Gs _ _ _ (by simp)).trans (heap_alloc_new _ _)));have rF:w1.heap[w.heap.size+1]?=some (.cells #[.int .i64 (-1),.int .i64 (-1),.int .i64 (-1),.int .i64 (-1)] 29 (0,0)):=(K1.same _ (by simp; try omega) (by simp; try omega)).trans ((Gs _ _ _ (by simp)).trans (by simpa using heap_alloc_new (w.alloc _) _));have B1:Gv w1 q n f b a:=K1.bad (by simp; omega) (((HB.out.alloc _).alloc _).alloc _);have E1:Yd w1:=K1.err (by simp) (((HG.out.alloc _).alloc _).alloc _);have L1:Below w.heap.size w w1:=((((Below.refl _ _).alloc (Nat.le_refl _) _).alloc (by simp) _).alloc (by simp; try omega) _).trans (K1.low (by simp; try omega) (by simp; try omega));have z1:w1.heap.size=w.heap.size+7:=by have:=K1.size; simp at this; omega
 have cn:w1.cell? ⟨w.heap.size+1+1,0,none⟩=some (.int .i64 n):=K1.cell;clear K1;have f0:=(Yl rF).1 0;have f1:=(Yl rF).1 1;have f2:=(Yl rF).1 2;have f3:=(Yl rF).1 3;have fz:=(Yl rF).2;simp at f0 f1 f2 f3;have HB1:=Zcz B1;have HE1:=Zcz E1;have HL1:=Zcz L1;have HR1:=Zcz rR;have HF1:=Zcz rF;clear B1 E1 L1 rR rF;go_wp2_with fail
 refine(Zxx ⟨q,0,none⟩ _ (.pointer none) _ ?s1 ?s2 ?s3).mono ?_;case s1=>exact((Rn HE1).setCell (by simp) _).alloc _
 case s2=>rw [World.cell?_alloc_at _ _ _ _ (by simp [z1])]; rfl
 case s3=>rw [World.frozen?_alloc_at _ _ _ _ (by simp [z1])]
 rintro e w2 ⟨rfl,hw2⟩;have K2:=hw2 ▸ Ztw _ _ _ _ _ _ (.pointer none) (.pointer (some ⟨q,0,none⟩)) (by rw [World.cell?_alloc_at _ _ _ _ (by simp [z1])]; rfl);clear hw2;have gR:w2.heap[w.heap.size]?=some (.cells #[.int .i64 0,.int .i64 0,.int .i64 0,.int .i64 0] 29 (0,0)):=(K2.same _ (by simp; omega) (by simp)).trans ((Gs _ _ _ (by simp; omega)).trans ((Below.heap_setCell _ _ _ _ (by simp)).trans (Rn HR1)));have gF:w2.heap[w.heap.size+1]?=some (.cells #[.int .i64 n,.int .i64 (-1),.int .i64 (-1),.int .i64 (-1)] 29 (0,0)):=(K2.same _ (by simp; omega) (by simp)).trans ((Gs _ _ _ (by simp; omega)).trans (heap_setCell_same _ _ _ _ _ _ (Rn HF1)));have B2:Gv w2 q n f b a:=K2.bad (by simp; omega) (((Rn HB1).setCell (by simp; omega) _).alloc _);have L2:Below w.heap.size w w2:=(((Rn HL1).setCell (by simp) _).alloc (by simp; omega) _).trans (K2.low (by simp) (by simp; omega));have cb:w2.cell? ⟨w.heap.size+7,0,none⟩=some (.pointer (some ⟨q,0,none⟩)):=K2.cell;clear K2 f0 f1 f2 f3 fz cn;have f0:=(Yl gF).1 0;have f1:=(Yl gF).1 1;have f2:=(Yl gF).1 2;have f3:=(Yl gF).1 3;have fz:=(Yl gF).2;have r0:=(Yl gR).1 0;have r1:=(Yl gR).1 1;have r2:=(Yl gR).1 2;have r3:=(Yl gR).1 3;have rz:=(Yl gR).2;simp at f0 f1 f2 f3 r0 r1 r2 r3;have d1:=B2.c1;have d2:=B2.c2;have d3:=B2.c3;have HL2:=Zcz L2;have HR2:=Zcz gR;clear B2 L2 gR gF HB1 HE1 HL1 HR1 HF1 HG HB;generalize hT:w.heap.size=T at *;go_wp2_with fail
 go_region
 all_goals go_wp2
 all_goals have hblk:=Yhv ((Below.heap_setCell _ ⟨T+1,3,none⟩ (.int .i64 a) T (by simp)).trans ((Below.heap_setCell _ ⟨T+1,2,none⟩ (.int .i64 b) T (by simp)).trans ((Below.heap_setCell _ ⟨T+1,1,none⟩ (.int .i64 f) T (by simp)).trans (Rn HR2)))) (.int .i64 n) (.int .i64 f) (.int .i64 b) (.int .i64 a)
 all_goals have hinf:(Tryz.prog.info? 29).map (·.size)=some 4:=by kernel_rfl
 all_goals refine bodyPost_ret (results_cell_row (fn:=Tryz.f26) (p:=2) (ty:=29) rfl _ _ T 29 #[.int .i64 n,.int .i64 f,.int .i64 b,.int .i64 a] (0,0) _ rfl (Ztx hblk) Tryz.underlying29 rfl hinf) rfl ?_
 all_goals refine⟨rfl,?_⟩
 all_goals rw [hT]
 all_goals have L:=Rn HL2
 all_goals exact(((((((L.setCell (by show T<=T+1; omega) _).setCell (by show T<=T+1; omega) _).setCell (by show T<=T+1; omega) _).setCell (Nat.le_refl _) _).setCell (Nat.le_refl _) _).setCell (Nat.le_refl _) _).setCell (Nat.le_refl _) _).drew
end Go.Proofs.YtkenknfgeoecbaaGreatDoor
namespace Go.Proofs.YtkenknfgeoecbaaGreatDoor
open Go.ChangeShapes Go.WideShapes Go.ChangeAt Go.RowKit Go.Deep
def Zoi (n:Int):Prop:=-9223372036854775808<=n∧n<=9223372036854775807
namespace bulkE
theorem one_le {H:Type}(d:DataW H):1<=Rows.uptoBulk d:=by
 cases d with
 | lit l=>cases l <;> simp [Rows.uptoBulk]
 | _=>simp [Rows.uptoBulk]
end bulkE
theorem Tryz.cellsIntE:Tryz.prog.cellsOf 3=1:=by kernel_rfl
theorem Tryz.cellsU64E:Tryz.prog.cellsOf 90=1:=by kernel_rfl
theorem Tryz.cellsIntsE:Tryz.prog.cellsOf 23=1:=by kernel_rfl
theorem Tryz.cellsArgE:Tryz.prog.cellsOf 372=2:=by kernel_rfl
theorem Tryz.cellsArgsE:Tryz.prog.cellsOf 108=1:=by kernel_rfl
theorem Tryz.cellsParamE:Tryz.prog.cellsOf 107=2:=by kernel_rfl
theorem Tryz.cellsParamsE:Tryz.prog.cellsOf 68=1:=by kernel_rfl
theorem Tryz.cellsInsE:Tryz.prog.cellsOf 110=8:=by kernel_rfl
theorem Tryz.cellsInssE:Tryz.prog.cellsOf 111=1:=by kernel_rfl
theorem Tryz.cellsBlocksE:Tryz.prog.cellsOf 69=1:=by kernel_rfl
theorem Tryz.cellsSigE:Tryz.prog.cellsOf 43=2:=by kernel_rfl
theorem Tryz.cellsSigsE:Tryz.prog.cellsOf 60=1:=by kernel_rfl
theorem Tryz.cellsFuncE:Tryz.prog.cellsOf 71=5:=by kernel_rfl
theorem Tryz.cellsFuncsE:Tryz.prog.cellsOf 59=1:=by kernel_rfl
theorem Yx {α:Type}{tr:TypeId->List Value->Option α}{fs:Array Field}{cs:List Value}{xs:List α}{c:Nat}{i:Nat}{f:Field}{y:α}
 (hf:∀(i:Nat) (f:Field),fs[i]?=some f->tr f.type ((cs.drop f.offset).take (Tryz.prog.cellsOf f.type))=xs[i]?) (hi:fs[i]?=some f) (hc:Tryz.prog.cellsOf f.type=c) (hy:xs[i]?=some y):tr f.type ((cs.drop f.offset).take c)=some y:=by
 rw [← hy,← hf i f hi,hc]
theorem Zan {α:Type}{l:List α}(h:l.length=2):∃ a0 a1,l=[a0,a1]:=by
 match l,h with
 | [a0,a1],_=>exact⟨_,_,rfl⟩
theorem Ztu {α:Type}{l:List α}(h:l.length=5):∃ a0 a1 a2 a3 a4,l=[a0,a1,a2,a3,a4]:=by
 match l,h with
 | [a0,a1,a2,a3,a4],_=>exact⟨_,_,_,_,_,rfl⟩
theorem Ztv {α:Type}{l:List α}(h:l.length=8):∃ a0 a1 a2 a3 a4 a5 a6 a7,l=[a0,a1,a2,a3,a4,a5,a6,a7]:=by
 match l,h with
 | [a0,a1,a2,a3,a4,a5,a6,a7],_=>exact⟨_,_,_,_,_,_,_,_,rfl⟩
theorem Zgt {n:Nat}(h:n<=maxLen):n<Xe:=by unfold maxLen at h; unfold Xe; omega
section
variable {H:Type} {enc:TypeId×Value->H} {w:World} {held:Bool}
abbrev Uw (enc:TypeId×Value->H)(w:World)(held:Bool)(n:Nat)(t:TypeId)(cs:List Value)(y:DataW H×List MemPlace):Prop:=DataW.trod enc Tryz.prog w 0 (fun _=>true) held n t cs=some y
theorem Ga {n:Nat}{v:Value}{y:DataW H×List MemPlace}(h:Uw enc w held n 3 [v] y):∃ x:Int,v=.int .i64 x∧Zoi x:=by obtain⟨x,e,-,hw⟩:=DataW.trod_int Tryz.underlying3 h;have hb:=bounds_i64 hw;exact⟨x,List.head_eq_of_cons_eq e,by unfold Zoi; omega⟩
theorem Zqr {n:Nat}{v:Value}{y:DataW H×List MemPlace}(h:Uw enc w held n 90 [v] y):∃ x:Int,v=.int .u64 x∧0<=x∧x<18446744073709551616:=by obtain⟨x,e,-,hw⟩:=DataW.trod_int Tryz.underlying90 h;refine⟨x,List.head_eq_of_cons_eq e,?_⟩;have hb:=bounds_u64 hw;omega
theorem Zfm {t:TypeId}{fs:Array Field}{f0 f1:Field}(ht:Tryz.prog.underlying t=some (.struct fs))(hf:fs=#[f0,f1])(t0:f0.type=3)(t1:f1.type=3)(o0:f0.offset=0)(o1:f1.offset=1)
 {n:Nat} {cs:List Value} {y:DataW H×List MemPlace} (hl:cs.length=2) (h:Uw enc w held n t cs y):∃ x:Int×Int,(cs.toArray=#[.int .i64 x.1,.int .i64 x.2]∧Zoi x.1∧Zoi x.2)∧3<=Rows.uptoBulk y.1:=by
 obtain⟨c0,c1,rfl⟩:=Zan hl;obtain⟨xs,k,-,hx,-,hxl,hall⟩:=DataW.trod_struct ht h;subst hf;obtain⟨y0,y1,rfl⟩:=Zan hxl;have g0:=hall 0 f0 rfl;have g1:=hall 1 f1 rfl;rw [t0,o0,Tryz.cellsIntE] at g0;rw [t1,o1,Tryz.cellsIntE] at g1;obtain⟨x0,rfl,b0⟩:=Ga (v:=c0) (y:=y0) g0;obtain⟨x1,rfl,b1⟩:=Ga (v:=c1) (y:=y1) g1;refine⟨(x0,x1),⟨rfl,b0,b1⟩,?_⟩;rw [congrArg Prod.fst hx];have:=bulkE.one_le y0.1;have:=bulkE.one_le y1.1;simp only [List.map_cons,List.map_nil,Rows.uptoBulk,Rows.uptoBulkAll];omega
end
end Go.Proofs.YtkenknfgeoecbaaGreatDoor
namespace Go.Proofs.YtkenknfgeoecbaaGreatDoor
open Go.ChangeShapes Go.WideShapes Go.ChangeAt Go.RowKit
theorem Tryz.ownE:ownKnob Tryz.prog.godebug=none:=by kernel_rfl
theorem Tryz.laidOutE:laidOutB Tryz.prog=true:=by kernel_rfl
theorem Tryz.etE : Tryz.prog.globalNamed "errors.errorType" = some 0 := by kernel_rfl
theorem Tryz.rtE : (Tryz.prog.cutTypes.find? (·.1 == "internal/reflectlite.rtype")).map (·.2) = some 215 := by kernel_rfl
theorem Tryz.oneRowE:((List.range 540).filter fun t=>Tryz.prog.rowNamed t [101,114,114,111,114])=[93]:=by kernel_rfl
theorem Tryz.sizeE:Tryz.prog.types.size=540:=by kernel_rfl
theorem Tryz.handE:typeHandle Tryz.prog 93=.pointer (some ⟨9,93,none⟩):=by kernel_rfl
theorem Tryz.gNeedE : Tryz.prog.globalNamed "prologue/program.needed" = some 2 := by kernel_rfl
theorem Tryz.gNeedTE:(Tryz.prog.globals[2]?).map (·.type)=some 377:=by kernel_rfl
theorem Tryz.cellsFieldsE:Tryz.prog.cellsOf 339=1:=by kernel_rfl
theorem Tryz.cellsNeedE:Tryz.prog.cellsOf 377=19:=by kernel_rfl
theorem Zqq:(Rows.laid_prologue_program_needed:DataW Unit)=Lib.tabData .u8 Zct:=by kernel_rfl
theorem Zcw {W : World} (h : Lib.VarReads Tryz.prog W "prologue/program.needed" Rows.laid_prologue_program_needed) : Zp W := by
 obtain⟨g,t,cs,fuel,p,hg,ht,hv,hd⟩:=h;obtain rfl:=Option.some.inj (Tryz.gNeedE.symm.trans hg);obtain rfl:=Option.some.inj (Tryz.gNeedTE.symm.trans ht);rw [Zqq] at hd;have hc:=Lib.cells_of_tab Tryz.underlying377 Tryz.underlying339 Tryz.cellsFieldsE Tryz.cellsNeedE hd;intro k hk;rw [World.var?_cell Tryz.gNeedE hv k];have h1:cs[k]?=(Zct.map fun z=>Value.int .u8 z)[k]?:=by rw [← hc]; simp
 rw [h1,List.getElem?_map];have h2:Zct[k]?=some (Zct.getD k 0):=by have:k<Zct.length:=hk;simp [List.getD,this]
 rw [h2];rfl
theorem Ztt {W : World} {l : List (String × DataW Unit)} (h : laidMetH Tryz.prog l W) (hm : ("errors.errorType", Rows.laid_errors_errorType) ∈ l.filter fun x => x.2.handleName?.isSome) : Yd W := by obtain ⟨-, h2⟩ := laidMetH_iff.1 h;obtain ⟨name, u, ty, e1, e2, e3, e4, e5⟩ := h2 ("errors.errorType", Rows.laid_errors_errorType) hm;have en : name = [101, 114, 114, 111, 114] := (Option.some.inj e1).symm;subst en;obtain rfl := Option.some.inj (Tryz.rtE.symm.trans e2);have hm : ty ∈ (List.range 540).filter fun t => Tryz.prog.rowNamed t [101, 114, 114, 111, 114] := List.mem_filter.2 ⟨List.mem_range.2 (by rw [← Tryz.sizeE]; exact e3), e4⟩;rw [Tryz.oneRowE] at hm;obtain rfl := List.mem_singleton.1 hm;rw [Tryz.handE] at e5;simpa using World.var?_cell Tryz.etE e5 0
def Zoh (w:World):World :=
 { w with heap:=w.heap.modify 0 fun
  | .cells _ t frozen=>.cells #[.iface 215 (.agg #[.pointer (some ⟨9,93,none⟩)])] t frozen
  | o=>o }
end Go.Proofs.YtkenknfgeoecbaaGreatDoor
namespace Go.Proofs.YtkenknfgeoecbaaGreatDoor
open Go.RowKit
set_option maxHeartbeats 4000000
set_option maxRecDepth 100000
theorem Zlx (p q:Addr)(w:World) :
 CallsD Tryz.prog 77 #[.pointer (some p),.pointer (some q)] .returning w fun e u' w'=>e=.returned (.tuple #[])∧u'=.returning∧w'=w:=by
 refine callsD_of_wpS Tryz.func77 rfl fun c₀ cs hu=>?_;apply wpS_seq
 apply wpS_region
 simp [wpOpsS,go_sem,recoverD,hu,Tryz.ntmps77,Exit.thenS];refine wpS_of_wp ?_;go_wp2;cases c₀
 simp_all [bodyPostS,results,Tryz.results77]
theorem Tryz.assertWrong (x:Value)(u:World):Sem.run Tryz.prog (Instr.typeAssert (.iface 189 x) 20 189 false) u=.ok x u:=by kernel_rfl
theorem Tryz.fieldWrong (u:World):Sem.run Tryz.prog (Instr.field 189 (.agg #[.iface 127 (.int .i64 4)]) 0) u=.ok (.iface 127 (.int .i64 4)) u:=by kernel_rfl
theorem Zgs (p q:Nat)(x y:Value)(w:World)(hp:w.cell? ⟨p,0,none⟩=some x)(hpf:w.frozen? ⟨p,0,none⟩=false)(hq:w.cell? ⟨q,0,none⟩=some y)(hqf:w.frozen? ⟨q,0,none⟩=false)(hpq:p≠q) :
 CallsD Tryz.prog 77 #[.pointer (some ⟨p,0,none⟩),.pointer (some ⟨q,0,none⟩)] (.panicking Sp) w fun e u' w'=>e=.returned (.tuple #[])∧u'=.panicking (Sp.map fun t=>{ t with recovered:=true })∧w'=(w.drew.setCell ⟨p,0,none⟩ (.string { data:=#[] })).setCell ⟨q,0,none⟩ (.iface 127 (.int .i64 4)):=by
 refine callsD_of_wpS Tryz.func77 rfl fun c₀ cs hu=>?_;apply wpS_seq
 apply wpS_region
 unfold Sp at hu;simp [wpOpsS,go_sem,recoverD,hu,Tryz.ntmps77,Exit.thenS];refine wpS_of_wp ?_;go_wp2;have ht:(#[Value.pointer (some ⟨p,0,none⟩),Value.pointer (some ⟨q,0,none⟩)]++((((Array.replicate 7 undef).setIfInBounds 1 (Value.iface 189 (Value.agg #[Value.iface 127 (Value.int IntKind.i64 4)]))).setIfInBounds 0 (Value.iface 189 (Value.agg #[Value.iface 127 (Value.int IntKind.i64 4)]))).setIfInBounds 2 (Value.iface 189 (Value.agg #[Value.iface 127 (Value.int IntKind.i64 4)]))).setIfInBounds 3 (Value.bool true))=#[Value.pointer (some ⟨p,0,none⟩),Value.pointer (some ⟨q,0,none⟩),Value.iface 189 (Value.agg #[Value.iface 127 (Value.int IntKind.i64 4)]),Value.iface 189 (Value.agg #[Value.iface 127 (Value.int IntKind.i64 4)]),Value.iface 189 (Value.agg #[Value.iface 127 (Value.int IntKind.i64 4)]),Value.bool true,undef,undef,undef]:=rfl;rw [ht];have hta:=Tryz.assertWrong;have hfw:=Tryz.fieldWrong;go_region
 simp +zetaDelta [bodyPostS,results,Tryz.results77,Sp]
theorem Kl.mono {w:World}{b b':Nat}{v:Value}{ns:List Int}(h:Kl w b v ns)(hb:b<=b'):Kl w b' v ns:=by
 rcases h with h | ⟨sb,so,cap,h1,h2,h3⟩
 ·exact Or.inl h
 ·exact Or.inr ⟨sb,so,cap,h1,by omega,h3⟩
theorem LsB.mono {α:Type}{size:Nat}{w:World}{b b':Nat}{v:Value}{ps:List (Array Value×α)}(h:LsB size w b v ps)(hb:b<=b'):LsB size w b' v ps:=by
 rcases h with h | ⟨sb,so,cap,h1,h2,h3⟩
 ·exact Or.inl h
 ·exact Or.inr ⟨sb,so,cap,h1,by omega,h3⟩
theorem VsB.mono {α:Type}{w:World}{b b':Nat}{v:Value}{ps:List (Value×α)}(h:VsB w b v ps)(hb:b<=b'):VsB w b' v ps:=by
 rcases h with h | ⟨sb,so,cap,h1,h2,h3⟩
 ·exact Or.inl h
 ·exact Or.inr ⟨sb,so,cap,h1,by omega,h3⟩
theorem Dp.mono {w:World}{b b':Nat}{p:Array Value×Yb}(h:Dp w b p)(hb:b<=b'):Dp w b' p:=by obtain⟨av,ov,pa,h1,h2,h3,h4,h5,h6⟩:=h;exact⟨av,ov,pa,h1,h2,h3,h4.mono hb,h5.mono hb,h6⟩
theorem Uu.mono {w:World}{b b':Nat}{p:Value×List Yb}(h:Uu w b p)(hb:b<=b'):Uu w b' p:=by obtain⟨ps,h1,h2,h3,h4⟩:=h;exact⟨ps,h1,h2.mono hb,fun q hq=>(h3 q hq).mono hb,h4⟩
theorem Sm.mono {w:World}{b b':Nat}{f:Zj}{pv hv sv bv:Value}{pp:List (Array Value×(Int×Int))}{pb:List (Value×List Yb)}(h:Sm w b f pv hv sv bv pp pb)(hb:b<=b'):Sm w b' f pv hv sv bv pp pb :=
 ⟨h.params,h.vals,h.pls.mono hb,h.hls.mono hb,h.sls.mono hb,h.bls.mono hb,h.blocks,fun q hq=>(h.each q hq).mono hb,h.lens⟩
theorem Nc.mono {w:World}{b b':Nat}{p:Array Value×Zj}(h:Nc w b p)(hb:b<=b'):Nc w b' p:=by obtain⟨pv,hv,sv,bv,pp,pb,h1,h2⟩:=h;exact⟨pv,hv,sv,bv,pp,pb,h1,h2.mono hb⟩
theorem Rz.mono {w:World}{b b':Nat}{p:Array Value×(List Int×Int)}(h:Rz w b p)(hb:b<=b'):Rz w b' p:=by obtain⟨lv,h1,h2,h3⟩:=h;exact⟨lv,h1,h2.mono hb,h3⟩
theorem Ow.mono {w:World}{b b':Nat}{p:Zk}{fv ev:Value}{pf:List (Array Value×Zj)}{pe:List (Array Value×(List Int×Int))}(h:Ow w b p fv ev pf pe)(hb:b<=b'):Ow w b' p fv ev pf pe :=
 ⟨h.fls.mono hb,h.els.mono hb,h.funcs,h.externs,fun q hq=>(h.feach q hq).mono hb,fun q hq=>(h.eeach q hq).mono hb,h.lens⟩
def Nd (p:Zk):Option (List UInt8):=match Nk p with
 | some bs=>if bs.length<=4000 then some bs else none
 | none=>none
def Rl:Option (List UInt8)->Value
 | some bs=>.tuple #[.string ⟨bs.toArray⟩,.nilIface]
 | none=>.tuple #[.string ⟨#[]⟩,.iface 127 (.int .i64 4)]
theorem Zy {B k j:Nat}{w w':World}(h:Below B w w')(hk:B<=k)(v:Value):Below B w (w'.setCell ⟨k,j,none⟩ v):=h.trans ⟨rfl,rfl,rfl,by simp,fun q hq=>heap_setCell_other w' ⟨k,j,none⟩ q v (by show q≠k; omega)⟩
theorem Ztr (p:Zk)(fv ev:Value)(pf:List (Array Value×Zj))(pe:List (Array Value×(List Int×Int)))(w:World)(hg:Zp w)(hb:2<w.heap.size)(hP:Ow w w.heap.size p fv ev pf pe) :
 Calls Tryz.prog 48 #[.agg #[fv,ev]] w fun e w'=>e=.returned (Rl (Nd p))∧Below w.heap.size w w':=by
 have hmf:∀(fn:Fn) (first cap:Array Value) (w:World),(Instr.makeFunc fn first cap).run Tryz.prog w=.ok (.func fn first cap) w:=fun _ _ _ _=>rfl;obtain⟨p0,c0',e0⟩:=hP.fls.shape;obtain⟨p2,c2',e2⟩:=hP.els.shape;generalize hn0:pf.length=n0 at e0;generalize hn2:pe.length=n2 at e2;subst e0 e2;clear hn0 hn2;have HP:=Zd hP;have HG:=Zd hg;clear hP hg;go_enter_defers Tryz.func48,Tryz.ntmps48
 go_wp2_with fail
 have hbel:Below w.heap.size w ((((w.alloc (.cells #[.slice p0 n0 c0',.slice p2 n2 c2'] 62)).alloc (.cells #[.string { data:=#[] }] 9)).alloc (.cells #[.nilIface] 93)).alloc (.cells #[.slice none 0 0] 192)):=by go_grown
 have hwt:Wt ((((w.alloc (.cells #[.slice p0 n0 c0',.slice p2 n2 c2'] 62)).alloc (.cells #[.string { data:=#[] }] 9)).alloc (.cells #[.nilIface] 93)).alloc (.cells #[.slice none 0 0] 192)) (w.heap.size+1+1+1) (.slice none 0 0) []:=⟨(World.cell?_alloc_at _ _ _ _ (by simp)).trans rfl,World.frozen?_alloc_at _ _ _ _ (by simp),rfl,Or.inl ⟨rfl,rfl⟩⟩;have cs:(((((w.alloc (.cells #[.slice p0 n0 c0',.slice p2 n2 c2'] 62)).alloc (.cells #[.string { data:=#[] }] 9)).alloc (.cells #[.nilIface] 93)).alloc (.cells #[.slice none 0 0] 192)):World).cell? ⟨w.heap.size+1,0,none⟩=some (.string { data:=#[] }):=(World.cell?_alloc_past _ _ _ (by simp)).trans ((World.cell?_alloc_past _ _ _ (by simp)).trans ((World.cell?_alloc_at _ _ _ _ (by simp)).trans rfl));have csf:(((((w.alloc (.cells #[.slice p0 n0 c0',.slice p2 n2 c2'] 62)).alloc (.cells #[.string { data:=#[] }] 9)).alloc (.cells #[.nilIface] 93)).alloc (.cells #[.slice none 0 0] 192)):World).frozen? ⟨w.heap.size+1,0,none⟩=false:=(World.frozen?_alloc_past _ _ _ (by simp)).trans ((World.frozen?_alloc_past _ _ _ (by simp)).trans (World.frozen?_alloc_at _ _ _ _ (by simp)));have ce:(((((w.alloc (.cells #[.slice p0 n0 c0',.slice p2 n2 c2'] 62)).alloc (.cells #[.string { data:=#[] }] 9)).alloc (.cells #[.nilIface] 93)).alloc (.cells #[.slice none 0 0] 192)):World).cell? ⟨w.heap.size+1+1,0,none⟩=some .nilIface:=(World.cell?_alloc_past _ _ _ (by simp)).trans ((World.cell?_alloc_at _ _ _ _ (by simp)).trans rfl)
 have cef:(((((w.alloc (.cells #[.slice p0 n0 c0',.slice p2 n2 c2'] 62)).alloc (.cells #[.string { data:=#[] }] 9)).alloc (.cells #[.nilIface] 93)).alloc (.cells #[.slice none 0 0] 192)):World).frozen? ⟨w.heap.size+1+1,0,none⟩=false:=(World.frozen?_alloc_past _ _ _ (by simp)).trans (World.frozen?_alloc_at _ _ _ _ (by simp));generalize ((((w.alloc (.cells #[.slice p0 n0 c0',.slice p2 n2 c2'] 62)).alloc (.cells #[.string { data:=#[] }] 9)).alloc (.cells #[.nilIface] 93)).alloc (.cells #[.slice none 0 0] 192))=W0 at hbel hwt cs csf ce cef ⊢;refine(Zqp (w.heap.size+1+1+1) (by omega) (.slice none 0 0) [] p _ _ pf pe W0 hwt (by simp) ((Za HG).below hb hbel) (((Za HP).ws (Sl hbel (Nat.le_refl _))).mono (by omega))).mono ?_;rintro e w1 ⟨hws,hm⟩;have cs1:w1.cell? ⟨w.heap.size+1,0,none⟩=_:=(hws.low.cell (p:=⟨w.heap.size+1,0,none⟩) (show w.heap.size+1<w.heap.size+1+1+1 by omega)).trans cs;have ce1:w1.cell? ⟨w.heap.size+1+1,0,none⟩=_:=(hws.low.cell (p:=⟨w.heap.size+1+1,0,none⟩) (show w.heap.size+1+1<w.heap.size+1+1+1 by omega)).trans ce;have csf1:w1.frozen? ⟨w.heap.size+1,0,none⟩=false:=(World.frozen?_of_block (a:=⟨w.heap.size+1,0,none⟩) (hws.low.block (w.heap.size+1) (by omega))).trans csf;have cef1:w1.frozen? ⟨w.heap.size+1+1,0,none⟩=false:=(World.frozen?_of_block (a:=⟨w.heap.size+1+1,0,none⟩) (hws.low.block (w.heap.size+1+1) (by omega))).trans cef;have HB1:=Zd (hbel.trans (⟨hws.low.os,hws.low.tape,hws.low.output,hws.low.size,fun q hq=>hws.low.block q (by omega)⟩:Below w.heap.size W0 w1))
 clear cs ce csf cef hws hwt hbel HP HG;have HTH:=Zd (Zgs (w.heap.size+1) (w.heap.size+1+1) _ _ w1 cs1 csf1 ce1 cef1 (by omega));cases hr:Nk p with
 | none=>rw [hr] at hm;subst hm;have HO:=Zd (show Nd p=none by unfold Nd; rw [hr]);refine leaves_cons (f:=77) (args:=#[.pointer (some ⟨w.heap.size+1,0,none⟩),.pointer (some ⟨w.heap.size+1+1,0,none⟩)]) (by simp) (by simp [go_sem]) ?_;refine(Za HTH).mono ?_;rintro e u' w'' ⟨rfl,rfl,rfl⟩;have HB2:=Zd (Zy (j:=0) (Zy (j:=0) (Za HB1) (show w.heap.size<=w.heap.size+1 by omega) (.string { data:=#[] })) (show w.heap.size<=w.heap.size+1+1 by omega) (.iface 127 (.int .i64 4)));simp [Leaves,settle,results,Tryz.results48,go_sem,Sp,cs1,ce1,Za HO,Rl];exact⟨(Za HB2).os,(Za HB2).tape,(Za HB2).output,(Za HB2).size,(Za HB2).block⟩
 | some bs =>
  rw [hr] at hm;obtain⟨rfl,v1,hw1⟩:=hm;rw [List.nil_append] at hw1;have hbs:=Zjc p bs hr;have hpos:0<bs.length:=by
   unfold Nk at hr;obtain⟨x,y,ex,ey,rfl⟩:=Gp hr;cases ex
   simp
  have cw:=hw1.cell;have hrow:=hw1.row;obtain⟨g,cap,rfl⟩:∃ g cap,v1=.slice (some ⟨g,0,none⟩) bs.length cap:=by
   rcases hrow.2 with⟨_,h0⟩ | ⟨g,cap,cur,e,-⟩
   ·omega
   ·exact⟨g,cap,e⟩
  have hcv:(convert 182 9 (.slice (some ⟨g,0,none⟩) bs.length cap)).run Tryz.prog w1=.ok (.string ⟨bs.toArray⟩) w1 :=
   run_convert_bytes_back w1 182 9 5 ⟨g,0,none⟩ cap bs Tryz.underlying182 Tryz.underlying5 Tryz.underlying9 (fun j hj=>by
    have:=hrow.cellAt j (by omega);rw [show(⟨g,0,none⟩:Addr).add j=⟨g,j,none⟩ by unfold Addr.add; split <;> simp_all,this];simp [Ox,hj])
  have HIDLE:=Zd (fun w2=>Zlx ⟨w.heap.size+1,0,none⟩ ⟨w.heap.size+1+1,0,none⟩ w2);clear hw1 hrow;by_cases hlen:bs.length<=4000
  ·have HO:=Zd (show Nd p=some bs by unfold Nd; rw [hr]; exact if_pos hlen);generalize bs.length=n at *;go_wp2;refine leaves_cons (f:=77) (args:=#[.pointer (some ⟨w.heap.size+1,0,none⟩),.pointer (some ⟨w.heap.size+1+1,0,none⟩)]) (by simp) (by simp [go_sem]) ?_;refine(Za HIDLE _).mono ?_;rintro e u' w'' ⟨rfl,rfl,rfl⟩;have HB2:=Zd (Zy (j:=0) (Zy (j:=0) (Za HB1) (show w.heap.size<=w.heap.size+1 by omega) (.string ⟨bs.toArray⟩)) (show w.heap.size<=w.heap.size+1+1 by omega) .nilIface);simp [Leaves,settle,results,Tryz.results48,go_sem,cs1,ce1,Za HO,Rl];exact Za HB2
  ·have HO:=Zd (show Nd p=none by unfold Nd; rw [hr]; exact if_neg hlen);go_wp2_with fail
   refine(Sq _ _).mono ?_;rintro e w3 ⟨rfl,hw⟩;subst w3;refine leaves_cons (f:=77) (args:=#[.pointer (some ⟨w.heap.size+1,0,none⟩),.pointer (some ⟨w.heap.size+1+1,0,none⟩)]) (by simp) (by simp [go_sem]) ?_;refine(Za HTH).mono ?_;rintro e u' w'' ⟨rfl,rfl,rfl⟩;have HB2:=Zd (Zy (j:=0) (Zy (j:=0) (Za HB1) (show w.heap.size<=w.heap.size+1 by omega) (.string { data:=#[] })) (show w.heap.size<=w.heap.size+1+1 by omega) (.iface 127 (.int .i64 4)));simp [Leaves,settle,results,Tryz.results48,go_sem,Sp,cs1,ce1,Za HO,Rl];exact⟨(Za HB2).os,(Za HB2).tape,(Za HB2).output,(Za HB2).size,(Za HB2).block⟩
set_option maxHeartbeats 1000000
set_option maxRecDepth 100000
theorem Zqs (p:Zk)(fv ev:Value)(pf:List (Array Value×Zj))(pe:List (Array Value×(List Int×Int)))(w:World)(hg:Zp w)(hb:2<w.heap.size)(hP:Ow w w.heap.size p fv ev pf pe) :
 Calls Tryz.prog 33 #[.agg #[fv,ev]] w fun e w'=>e=.returned (Rl (Nd p))∧Below w.heap.size w w':=by
 have HG:=Zd hg;have HP:=Zd hP;obtain⟨p0,c0',e0⟩:=hP.fls.shape;obtain⟨p2,c2',e2⟩:=hP.els.shape;generalize hn0:pf.length=n0 at e0;generalize hn2:pe.length=n2 at e2;subst e0 e2;clear hn0 hn2 hP hg;go_enter Tryz.func33,Tryz.ntmps33
 go_wp2_with fail
 have hbl:Below w.heap.size w (w.alloc (.cells #[.slice p0 n0 c0',.slice p2 n2 c2'] 62)):=by go_grown
 have hsz:w.heap.size<=(w.alloc (.cells #[.slice p0 n0 c0',.slice p2 n2 c2'] 62)).heap.size:=hbl.size;refine(Ztr p _ _ pf pe _ ((Za HG).below hb hbl) (by omega) (((Za HP).ws (Sl hbl (Nat.le_refl _))).mono hsz)).mono ?_;rintro e w1 ⟨rfl,hb1⟩;have HB:=Zd (hbl.trans (⟨hb1.os,hb1.tape,hb1.output,hb1.size,fun q hq=>hb1.block q (by omega)⟩:Below w.heap.size _ w1));clear hbl hsz hb1;cases ho:Nd p with
 | some bs=>unfold Rl;simp only;go_wp2;go_returns;exact⟨by rw [ho]; rfl,Za HB⟩
 | none=>unfold Rl;simp only;go_wp2;go_returns;exact⟨by rw [ho]; rfl,Za HB⟩
theorem Nu {P:Program}{fn:Func}{u q:Tmp}{uy:TypeId}(h:fn.results=#[.tmp u,.cell q uy])(tmps:Array Value)(w:World)(g':Nat)(t':TypeId)(cs':Array Value)(fr':Nat×Nat)(d':TypeDesc)
 (hp':tmps.getD q undef=.pointer (some ⟨g',0,none⟩)) (hg':w.heap[g']?=some (.cells cs' t' fr')) (hu':P.underlying uy=some d') (hd':(match d' with | .struct _ | .array _ _=>true | _=>false)=true) (hi':(P.info? uy).map (·.size)=some cs'.size) :
 (results fn tmps).run P w=.ok (.tuple #[tmps.getD u undef,.agg cs']) w:=by
 have e2:tmps[q]?.getD undef=.pointer (some ⟨g',0,none⟩):=by simpa using hp'
 simp [results,h,e2,asAddr,run_loadVar_row w g' t' uy cs' fr' d' hg' hu' hd' hi']
theorem Tryz.infFltE:(Tryz.prog.info? 29).map (·.size)=some 4:=by kernel_rfl
def Ydy:Option (List UInt8)->Value
 | some bs=>.tuple #[.string ⟨bs.toArray⟩,Rm 0 (-1) (-1) (-1)]
 | none=>.tuple #[.string ⟨#[]⟩,Rm 4 (-1) (-1) (-1)]
theorem Zly (p:Zk)(fv ev:Value)(pf:List (Array Value×Zj))(pe:List (Array Value×(List Int×Int)))(w:World)(hE:Yd w)(hg:Zp w)(hb:2<w.heap.size)(hP:Ow w w.heap.size p fv ev pf pe) :
 Calls Tryz.prog 20 #[.agg #[fv,ev]] w fun e w'=>e=.returned (Ydy (Nd p))∧Below w.heap.size w w':=by
 have HG:=Zd hg;have HP:=Zd hP;have HE:=Zd hE;obtain⟨p0,c0',e0⟩:=hP.fls.shape;obtain⟨p2,c2',e2⟩:=hP.els.shape;generalize hn0:pf.length=n0 at e0;generalize hn2:pe.length=n2 at e2;subst e0 e2;clear hn0 hn2 hP hg hE;go_enter Tryz.func20,Tryz.ntmps20
 go_wp2_with fail
 have hbl:Below w.heap.size w ((w.alloc (.cells #[.slice p0 n0 c0',.slice p2 n2 c2'] 62)).alloc (.cells #[.int .i64 0,.int .i64 0,.int .i64 0,.int .i64 0] 29)):=by go_grown
 have hsz:=hbl.size;have hrow:((w.alloc (.cells #[.slice p0 n0 c0',.slice p2 n2 c2'] 62)).alloc (.cells #[.int .i64 0,.int .i64 0,.int .i64 0,.int .i64 0] 29)).heap[w.heap.size+1]?=some (.cells #[.int .i64 0,.int .i64 0,.int .i64 0,.int .i64 0] 29 (0,0)):=by have:=heap_alloc_new (w.alloc (.cells #[.slice p0 n0 c0',.slice p2 n2 c2'] 62)) (.cells #[.int .i64 0,.int .i64 0,.int .i64 0,.int .i64 0] 29);simpa using this
 have hsz2:w.heap.size+1<((w.alloc (.cells #[.slice p0 n0 c0',.slice p2 n2 c2'] 62)).alloc (.cells #[.int .i64 0,.int .i64 0,.int .i64 0,.int .i64 0] 29)).heap.size:=by simp
 have HPE:=Zd (Zqs p _ _ pf pe _ ((Za HG).below hb hbl) (by omega) (((Za HP).ws (Sl hbl (Nat.le_refl _))).mono hsz));have hE0:Yd _:=(Za HE).below hbl (by omega);generalize (w.alloc _).alloc _=W0 at hbl hsz hrow hsz2 HPE hE0 ⊢;refine(Za HPE).mono ?_;rintro e w1 ⟨rfl,hb1⟩;have hs1:=hb1.size;have hrow1:=(hb1.block _ hsz2).trans hrow;have hE1:=hE0.below hb1 (by omega);have HB1:=Zd (hbl.trans (⟨hb1.os,hb1.tape,hb1.output,hb1.size,fun q hq=>hb1.block q (by omega)⟩:Below w.heap.size W0 w1));clear hbl hb1 hrow HPE hE0;cases ho:Nd p with
 | some bs =>
  have HFC:=Zd (Md w1);unfold Rl;simp only;go_wp2_with fail
  refine(Za HFC).mono ?_;rintro e w2 ⟨rfl,hb2⟩;have hrow2:=(hb2.block _ (by omega)).trans hrow1;have hs2:=hb2.size;have HB2:=Zd ((Za HB1).trans (⟨hb2.os,hb2.tape,hb2.output,hb2.size,fun q hq=>hb2.block q (by omega)⟩:Below w.heap.size w1 w2));have HROW:=Zd hrow2;clear hb2 hrow2 hrow1;go_wp2_with (refine wpList_store_row rfl 29 (.tmp 3) (.tmp 13) rfl (w.heap.size+1) #[.int .i64 0,.int .i64 (-1),.int .i64 (-1),.int .i64 (-1)] rfl rfl 29 _ (Za HROW) (Tryz.infFltE.trans rfl) rfl (by simp [Value.oneCell']) ?_)
  refine bodyPost_ret (Nu (fn:=Tryz.f20) (u:=2) (q:=3) (uy:=29) rfl _ _ (w.heap.size+1) 29 #[.int .i64 0,.int .i64 (-1),.int .i64 (-1),.int .i64 (-1)] (0,0) _ rfl (setRow_heap _ _ _ _ _ _ (Za HROW)) Tryz.underlying29 rfl (Tryz.infFltE.trans rfl)) rfl ?_;exact⟨by rw [ho]; rfl,below_setRow (Za HB2) (by omega) _⟩
 | none =>
  have HFC:=Zd (Me 4 w1 hE1);unfold Rl;simp only;go_wp2_with fail
  refine(Za HFC).mono ?_;rintro e w2 ⟨rfl,hb2⟩;have hrow2:=(hb2.block _ (by omega)).trans hrow1;have hs2:=hb2.size;have HB2:=Zd ((Za HB1).trans (⟨hb2.os,hb2.tape,hb2.output,hb2.size,fun q hq=>hb2.block q (by omega)⟩:Below w.heap.size w1 w2));have HROW:=Zd hrow2;clear hb2 hrow2 hrow1;go_wp2_with (refine wpList_store_row rfl 29 (.tmp 3) (.tmp 13) rfl (w.heap.size+1) #[.int .i64 4,.int .i64 (-1),.int .i64 (-1),.int .i64 (-1)] rfl rfl 29 _ (Za HROW) (Tryz.infFltE.trans rfl) rfl (by simp [Value.oneCell']) ?_)
  refine bodyPost_ret (Nu (fn:=Tryz.f20) (u:=2) (q:=3) (uy:=29) rfl _ _ (w.heap.size+1) 29 #[.int .i64 4,.int .i64 (-1),.int .i64 (-1),.int .i64 (-1)] (0,0) _ rfl (setRow_heap _ _ _ _ _ _ (Za HROW)) Tryz.underlying29 rfl (Tryz.infFltE.trans rfl)) rfl ?_;exact⟨by rw [ho]; rfl,below_setRow (Za HB2) (by omega) _⟩
def ldv (m:Nat->Int):Nat->Nat->Int
 | _,0=>0
 | a,n+1=>m a+256*ldv m (a+1) n
def byt (v:Int)(k:Nat):Int:=v / 256 ^ k % 256
def upd (m:Nat->Int)(a:Nat)(v:Int)(n:Nat):Nat->Int:=fun i=>if a<=i∧i<a+n then byt v (i-a) else m i
structure Ud where
 fn:Zj
 b:Int
 i:Int
 v:List Int
 s:List (List Int)
 o:List Int
def ldB (bs:List Int)(a k:Nat):Int:=ldv (fun i=>bs.getD i 0) a k
def stB (bs:List Int)(a k:Nat)(v:Int):List Int:=(List.range bs.length).map (upd (fun i=>bs.getD i 0) a v k)
def Yhy (x:Ud)(a:Int×Int):List Int:=if a.1=0 then [x.v.getD a.2.toNat 0] else (List.range a.1.toNat).map fun k=>ldB (x.s.getD a.2.toNat []) (8*k) 8
def Zvk (x:Ud)(l:List (Int×Int)):List Int:=l.flatMap (Yhy x)
def Mh (v:List Int)(l:List Int):List Int:=l.map fun k=>v.getD k.toNat 0
def Zhd (v:List Int)(ds vals:List Int):List Int:=(ds.zip vals).foldl (fun v p=>v.set p.1.toNat p.2) v
def Zou (bs:List Int)(ws:List Int):List Int:=(List.range ws.length).foldl (fun b k=>stB b (8*k) 8 (ws.getD k 0)) bs
def Sy:List (Int×Int)->List Int->List (List Int)->List Int->List Int×List (List Int)
 | [],v,s,_=>(v,s)
 | p :: r,v,s,ws=>if p.1=0 then Sy r (v.set p.2.toNat (ws.getD 0 0)) s (ws.drop 1) else Sy r v (s.set p.2.toNat (Zou (s.getD p.2.toNat []) (ws.take p.1.toNat))) (ws.drop p.1.toNat)
def Im (f:Zj)(ws outs:List Int):Ud :=
 let q:=Sy f.params (List.replicate f.homes.length 0) (f.slots.map fun n=>List.replicate (8*n).toNat 0) ws
 ⟨f,0,0,q.1,q.2,outs⟩
def Zau (op a b:Int):Int :=
 if op=3 then IntKind.u64.wrap (a+b) else if op=4 then IntKind.u64.wrap (a-b) else if op=5 then IntKind.u64.wrap (a*b) else if op=6 then bits .and .u64 a b else if op=7 then bits .xor .u64 a b else if op=8 then (if a<b then 1 else 0) else if op=9 then (if a=b then 1 else 0) else 0
def Zew (y:Ud)(i:Yb):Ud :=
 if i.op=1 then { y with v:=y.v.set i.d.toNat i.n }
 else if i.op=2 then { y with v:=y.v.set i.d.toNat (y.v.getD i.a.toNat 0) }
 else if i.op=10 then { y with v:=y.v.set i.d.toNat (ldB (y.s.getD i.a.toNat []) i.bb.toNat i.n.toNat) }
 else if i.op=11 then { y with s:=y.s.set i.a.toNat (stB (y.s.getD i.a.toNat []) i.bb.toNat i.n.toNat (y.v.getD i.d.toNat 0)) }
 else if i.op=14 then { y with b:=i.a,i:=0 }
 else if i.op=15 then { y with b:=if y.v.getD i.d.toNat 0=0 then i.bb else i.a,i:=0 }
 else { y with v:=y.v.set i.d.toNat (Zau i.op (y.v.getD i.a.toNat 0) (y.v.getD i.bb.toNat 0)) }
def Rp:Type:=(List Int×Nat×List Int×List (Int×List Int)) ⊕ ((Int×Nat×List Int×List (Int×List Int)) ⊕ (List Int×List (Int×List Int)))
abbrev Rp.done (l:List Int)(left:Nat)(sc:List Int)(tr:List (Int×List Int)):Rp:=.inl (l,left,sc,tr)
abbrev Rp.trap (c:Int)(left:Nat)(sc:List Int)(tr:List (Int×List Int)):Rp:=.inr (.inl (c,left,sc,tr))
abbrev Rp.spent (sc:List Int)(tr:List (Int×List Int)):Rp:=.inr (.inr (sc,tr))
theorem Rp.el {motive:Rp->Prop}(r:Rp)(done:∀ l left sc tr,motive (.done l left sc tr))(trap:∀ c left sc tr,motive (.trap c left sc tr))(spent:∀ sc tr,motive (.spent sc tr)):motive r :=
 match r with
 | .inl (l,left,sc,tr)=>done l left sc tr
 | .inr (.inl (c,left,sc,tr))=>trap c left sc tr
 | .inr (.inr (sc,tr))=>spent sc tr
def Yi (x:Ud):Yb:=(x.fn.blocks.getD x.b.toNat []).getD x.i.toNat Jo
def Ju (x:Ud):Ud:={ x with i:=x.i+1 }
def Yck (sc:List Int)(n:Nat):List Int:=(List.range n).map fun k=>sc.getD k 0
def Zhe (P:Zk)(y:Ud)(i:Yb)(outs:List Int):Ud:=Im (P.funcs.getD i.f.toNat Zh) (Zvk y i.args) outs
def ev (P:Zk):Nat->List Ud->List Int->List (Int×List Int)->Rp
 | 0,_,sc,tr=>.spent sc tr
 | _+1,[],sc,tr=>.spent sc tr
 | n+1,x :: R,sc,tr =>
  if (Yi x).op=12 then ev P n (Zhe P (Ju x) (Yi x) (Yi x).outs :: Ju x :: R) sc tr
  else if (Yi x).op=13 then ev P n ({ Ju x with v:=Zhd x.v (Yi x).outs (Yck sc (Yi x).outs.length) } :: R) (sc.drop (Yi x).outs.length) (tr++[((Yi x).f,Zvk x (Yi x).args)])
  else if (Yi x).op=16 then
   match R with
   | []=>.done (Mh x.v (Yi x).outs) n sc tr
   | c :: R'=>ev P n ({ c with v:=Zhd c.v x.o (Mh x.v (Yi x).outs) } :: R') sc tr
  else if (Yi x).op=17 then ev P n (Zhe P (Ju x) (Yi x) x.o :: R) sc tr
  else if (Yi x).op=18 then .trap (Yi x).n n sc tr
  else ev P n (Zew (Ju x) (Yi x) :: R) sc tr
theorem Yeh (y:Ud)(i:Yb):(Zew y i).o=y.o:=by
 unfold Zew;repeat' split
 all_goals rfl
abbrev Lq:=Int×Int
abbrev Gq:=Lq×Lq
def Cx (p:Lq):Bool:=decide (p.1=-1)
def mvL (t0:Int)(p:Gq):List Gq:=if Cx p.1&&Cx p.2 then [((t0,0),p.2),(p.1,(t0,0))] else [p]
structure Ce where
 left:List Gq
 rd:Lq->Int
 made:List Gq
def Ng (f:Lq->Int)(p:Lq)(d:Int):Lq->Int:=fun q=>if q=p then f q+d else f q
def mfS (t0:Int)(s:List Gq×(Lq->Int)×List Gq)(p:Gq):List Gq×(Lq->Int)×List Gq :=
 if 0<s.2.1 p.1 then (s.1++[p],s.2.1,s.2.2) else (s.1,Ng s.2.1 p.2 (-1),s.2.2++mvL t0 p)
def Ux (t0:Int)(x:Ce)(k:Nat):List Gq×(Lq->Int)×List Gq:=(x.left.take k).foldl (mfS t0) ([],x.rd,x.made)
def mfF (t0:Int)(x:Ce):Ce:=⟨(Ux t0 x x.left.length).1,(Ux t0 x x.left.length).2.1,(Ux t0 x x.left.length).2.2⟩
def rgP (pl a:Lq)(p:Gq):Gq:=if p.2=pl then (p.1,a) else p
def rgR (pl a:Lq)(rd:Lq->Int)(p:Gq):Lq->Int:=if p.2=pl then Ng (Ng rd pl (-1)) a 1 else rd
def Dx (pl a:Lq)(x:Ce)(k:Nat):List Gq×(Lq->Int):=((x.left.take k).map (rgP pl a)++x.left.drop k,(x.left.take k).foldl (rgR pl a) x.rd)
def Zjy (t1:Int)(x:Ce):Ce:=⟨(Dx (x.left.getD 0 ((0,0),(0,0))).1 (t1,0) x x.left.length).1,(Dx (x.left.getD 0 ((0,0),(0,0))).1 (t1,0) x x.left.length).2,x.made++[((t1,0),(x.left.getD 0 ((0,0),(0,0))).1)]⟩
def Zav (t0 t1:Int)(x:Ce):Ce:=if (mfF t0 x).left.length<x.left.length then mfF t0 x else Zjy t1 (mfF t0 x)
def Ji (t0 t1:Int):Nat->Ce->Ce
 | 0,x=>x
 | k+1,x=>if x.left=[] then x else Ji t0 t1 k (Zav t0 t1 x)
def Nh (l:List Gq)(q:Lq):Int:=((l.filter fun p=>decide (p.2=q)).length:Int)
def Jk (l:List Gq):Ce:=⟨l.filter fun p=>decide (p.1≠p.2),Nh (l.filter fun p=>decide (p.1≠p.2)),[]⟩
theorem Ybg (a b:List Gq)(q:Lq):Nh (a++b) q=Nh a q+Nh b q:=by unfold Nh;rw [List.filter_append,List.length_append];omega
theorem Ybh (p:Gq)(q:Lq):Nh [p] q=if p.2=q then 1 else 0:=by unfold Nh;by_cases h:p.2=q <;> simp [h]
theorem Yez (l:List Gq)(q:Lq):0<=Nh l q:=by unfold Nh; omega
def Ru:Gq:=((0,0),(0,0))
theorem Kr {α:Type}{l:List α}{i:Nat}(d:α)(h:i<l.length):l.getD i d=l[i]:=by simp [List.getD,h]
theorem Zpf {α:Type}{l:List α}{i:Nat}(d:α)(h:i<l.length):l.getD i d ∈ l:=by rw [Kr d h]; exact List.getElem_mem h
section
variable {l:List Gq} {t0 t1:Int}
end
end Go.Proofs.YtkenknfgeoecbaaGreatDoor
namespace Go.Proofs.YtkenknfgeoecbaaGreatDoor
open Go.RowKit Go.MapKept
set_option maxRecDepth 100000
def kP (p:Lq):Value:=.agg #[.int .i64 p.1,.int .i64 p.2]
theorem Ycq (p q:Lq)(w:World):(Op.equal 34 (kP p) (kP q)).run Tryz.prog w=.ok (decide (p=q)) w:=by
 obtain⟨a,b⟩:=p;obtain⟨a',b'⟩:=q;have u3:=Tryz.underlying3;have a3:=Tryz.isAgg3;have z3:=Tryz.sizeOf3;have hS:Tryz.prog.underlying 34=some (.struct (Tryz.prog.fieldsOf 34)):=by kernel_rfl
 have hp:Tryz.prog.stoodInHeld 34=false:=by kernel_rfl
 show(Op.equalIn 10000 _ _ _).run _ _=_;unfold kP;rw [show(10000:Nat)=9999+1 from rfl,run_equalIn_agg w 9999 34 _ _ hS hp];simp only [Program.fieldsOf,Tryz.underlying34];go_simp;by_cases h1:a=a' <;> by_cases h2:b=b' <;> simp [h1,h2]
theorem Zmx (p:Lq)(e:Bool)(w:World):(Instr.checkKey e 10000 34 (kP p)).run Tryz.prog w=.ok () w:=by
 have u3:=Tryz.underlying3;have a3:=Tryz.isAgg3;have z3:=Tryz.sizeOf3;have hk:∀(v:Int) (n:Nat) (w:World),(Instr.checkKey e (n+1) 3 (.int .i64 v)).run Tryz.prog w=.ok () w:=fun v n w=>by
  unfold Instr.checkKey;simp only [Sem.run_bind,run_underlying u3,Result.andThen];rfl
 unfold kP;rw [show(10000:Nat)=9998+1+1 from rfl,Instr.checkKey];simp only [Sem.run_bind,run_underlying Tryz.underlying34,Result.andThen_ok];go_simp
section
variable {α:Type} (f:α->Value)
def Cw (m:List (Lq×α))(p:Lq):Option α:=match m with
 | []=>none
 | (q,v) :: r=>if q=p then some v else Cw r p
def Kb (m:List (Lq×α))(p:Lq)(v:α):List (Lq×α):=match m with
 | []=>[(p,v)]
 | (q,u) :: r=>if q=p then (q,v) :: r else (q,u) :: Kb r p v
theorem Ybe (m:List (Lq×α))(p q:Lq)(v:α):Cw (Kb m p v) q=if q=p then some v else Cw m q:=by
 induction m with
 | nil =>
  unfold Kb Cw;by_cases h:q=p
  ·rw [if_pos h,if_pos h.symm]
  ·rw [if_neg h,if_neg (fun e=>h e.symm)];rfl
 | cons a r ih =>
  obtain⟨b,u⟩:=a;unfold Kb;by_cases hb:b=p
  ·rw [if_pos hb];unfold Cw;by_cases h:q=p
   ·rw [if_pos h,if_pos (hb.trans h.symm)]
   ·rw [if_neg h,if_neg (fun e=>h (e.symm.trans hb)),if_neg (fun e=>h (e.symm.trans hb))]
  ·rw [if_neg hb];unfold Cw;by_cases h2:b=q
   ·rw [if_pos h2,if_pos h2,if_neg (fun e=>hb (h2.trans e))]
   ·rw [if_neg h2,if_neg h2,ih]
def MpG:List (Lq×α)->List MapEntry->Prop
 | [],[]=>True
 | (q,v) :: m,e :: l=>e.key=kP q∧e.val=f v∧MpG m l
 | _,_=>False
theorem Zvz (p:Lq)(w:World):∀(m:List (Lq×α)) (l:List MapEntry) (i:Nat),MpG f m l->∃ o,(Instr.findAsking 34 (kP p) l i).run Tryz.prog w=.ok o w∧(o=none∧Cw m p=none∧(∀ v x,x.key=kP p->x.val=f v->MpG f (Kb m p v) (l++[x]))∨∃ j v,o=some (i+j,f v)∧Cw m p=some v∧j<l.length∧(∃ x,l[j]?=some x∧x.key=kP p∧x.val=f v)∧∀ u,MpG f (Kb m p u) (l.modify j fun e=>{ e with key:=kP p,val:=f u }))
 | [],[],i,_=>⟨none,by simp [Instr.findAsking],.inl ⟨rfl,rfl,fun v x h1 h2=>⟨h1,h2,trivial⟩⟩⟩
 | [],e :: l,i,h=>h.elim
 | (q,v) :: m,[],i,h=>h.elim
 | (q,v) :: m,e :: l,i,h=>by
  obtain⟨h1,h2,h3⟩:=h;by_cases hq:q=p
  ·refine⟨some (i,e.val),?_,.inr ⟨0,v,by rw [h2]; rfl,by unfold Cw; rw [if_pos hq],by simp,⟨e,rfl,by rw [h1,hq],h2⟩,fun u=>?_⟩⟩
   ·rw [Instr.findAsking];simp only [Sem.run_bind,h1,Ycq,Result.andThen_ok];rw [decide_eq_true hq.symm];simp
   ·unfold Kb;rw [if_pos hq,List.modify_zero_cons];exact⟨by rw [hq],rfl,h3⟩
  ·obtain⟨o,r1,r2⟩:=Zvz p w m l (i+1) h3;refine⟨o,?_,?_⟩
   ·rw [Instr.findAsking];simp only [Sem.run_bind,h1,Ycq,Result.andThen_ok];rw [decide_eq_false (fun e=>hq e.symm)];simpa using r1
   ·have eg:Cw ((q,v) :: m) p=Cw m p:=by rw [Cw,if_neg hq]
    rw [eg];rcases r2 with⟨a,b,c⟩ | ⟨j,u,a,b,c,d,g⟩
    ·refine .inl ⟨a,b,fun u x hx hy=>?_⟩;unfold Kb;rw [if_neg hq];exact⟨h1,h2,c u x hx hy⟩
    ·refine .inr ⟨j+1,u,by rw [a]; congr 2; omega,b,by simp; omega,by simpa using d,fun u=>?_⟩;unfold Kb;rw [if_neg hq,List.modify_succ_cons];exact⟨h1,h2,g u⟩
theorem Zpd (p:Lq)(w:World)(m:List (Lq×α))(l:List MapEntry)(h:MpG f m l):∃ o,(Instr.findKey 34 (kP p) l).run Tryz.prog w=.ok o w∧(o=none∧Cw m p=none∧(∀ v x,x.key=kP p->x.val=f v->MpG f (Kb m p v) (l++[x]))∨∃ j v,o=some (j,f v)∧Cw m p=some v∧j<l.length∧(∃ x,l[j]?=some x∧x.key=kP p∧x.val=f v)∧∀ u,MpG f (Kb m p u) (l.modify j fun e=>{ e with key:=kP p,val:=f u })):=by
 obtain⟨o,h1,h2⟩:=Zvz f p w m l 0 h;simp only [Nat.zero_add] at h2;refine⟨o,?_,h2⟩;unfold Instr.findKey;simp only [Sem.run_bind,run_underlying Tryz.underlying34,Result.andThen_ok];cases l with
 | nil=>simp only [Instr.findNow];rw [Instr.findAsking] at h1;exact h1
 | cons e l =>
  have:Instr.sameNow (.struct (Tryz.prog.fieldsOf 34)) (kP p) e.key=none:=by unfold Instr.sameNow kP;rfl
  simp only [Instr.findNow];exact h1
end
def StE (es:Array MapEntry)(ck:Nat):Prop:=(∀ x ∈ es.toList,x.born<ck)∧(es.toList.map (·.born)).Nodup
def iV (n:Int):Value:=.int .i64 n
def MpO (o:Obj)(m:List (Lq×Int)):Prop:=∃ es ck,o=.map es ck∧MpG iV m es.toList∧StE es ck
def Kc (m:List (Lq×Int))(p:Lq):Int:=(Cw m p).getD 0
theorem Np (m:List (Lq×Int))(p q:Lq)(v:Int):Kc (Kb m p v) q=if q=p then v else Kc m q:=by unfold Kc;rw [Ybe];split <;> rfl
theorem MpO.new:MpO (.map #[] 0) []:=⟨#[],0,rfl,trivial,fun x hx=>(by simp at hx),by simp⟩
theorem Ly {w:World}{r:Nat}{o:Obj}{m:List (Lq×Int)}(hb:w.heap[r]?=some o)(h:MpO o m)(p:Lq) :
 (Instr.lookup 38 (.map (some r)) (kP p) false).run Tryz.prog w=.ok (.int .i64 (Kc m p)) w:=by
 obtain⟨es,ck,rfl,hm,-⟩:=h;obtain⟨o,h1,h2⟩:=Zpd iV p w m es.toList hm;have hz:(zeroValue 3).run Tryz.prog w=.ok (.int .i64 0) w:=by kernel_rfl
 unfold Instr.lookup;simp only [Sem.run_bind,run_underlying Tryz.underlying38,Result.andThen_ok,Go.MapKept.run_getObj_map hb,Sem.run_pure,Zmx,h1];unfold Kc;rcases h2 with⟨rfl,e,-⟩ | ⟨j,v,rfl,e,-⟩
 ·simp only [Sem.run_bind,hz,Result.andThen_ok];rw [e];rfl
 ·rw [e];rfl
theorem Ybf (p:Lq):Instr.sameBits 10000 (kP p) (kP p)=true:=by unfold kP;rw [show(10000:Nat)=9999+1 from rfl,Instr.sameBits];simp [Instr.sameBits]
theorem Zwa (p:Lq)(w:World):(Instr.keyThatStays (kP p) (kP p)).run Tryz.prog w=.ok (kP p) w:=by unfold Instr.keyThatStays;rw [Ybf];rfl
theorem Zga {es:Array MapEntry}(hn:(es.toList.map (·.born)).Nodup){j:Nat}{x:MapEntry}(hx:es[j]?=some x):es.findIdx? (fun e=>((e.born:Int)==(x.born:Int)))=some j:=by obtain⟨l⟩:=es;rw [List.findIdx?_toArray,List.findIdx?_eq_some_iff_getElem];rw [← Array.getElem?_toList] at hx;obtain⟨hj,e⟩:=List.getElem?_eq_some_iff.1 hx;refine⟨hj,by simp [e],fun i hi=>?_⟩;have:=List.pairwise_iff_getElem.1 hn i j (by rw [List.length_map]; exact Nat.lt_trans hi hj) (by simpa using hj) hi;simp only [List.getElem_map] at this;rw [e] at this;intro hc;have h2:=beq_iff_eq.1 hc;exact this (Int.ofNat_inj.1 h2)
theorem Rt {es:Array MapEntry}{ck:Nat}(h:StE es ck)(j:Nat)(f:MapEntry->MapEntry)(hf:∀ e,(f e).born=e.born):StE (es.modify j f) ck:=by
 have e:((es.modify j f).toList.map (·.born))=es.toList.map (·.born):=by
  rw [Array.toList_modify];apply List.ext_getElem
  ·simp
  ·intro i h1 h2;simp only [List.getElem_map,List.getElem_modify];split
   ·exact hf _
   ·rfl
 refine⟨fun x hx=>?_,by rw [e]; exact h.2⟩;have:x.born ∈ (es.modify j f).toList.map (·.born):=List.mem_map.2 ⟨x,hx,rfl⟩;rw [e] at this;obtain⟨y,hy,e2⟩:=List.mem_map.1 this;rw [← e2];exact h.1 y hy
theorem Zjx {es:Array MapEntry}{ck:Nat}(h:StE es ck)(k v:Value):StE (es.push { key:=k,val:=v,born:=ck }) (ck+1):=by
 refine⟨fun x hx=>?_,?_⟩
 ·rw [Array.toList_push] at hx;rcases List.mem_append.1 hx with hx | hx
  ·have:=h.1 x hx; omega
  ·rw [List.mem_singleton.1 hx]; exact Nat.lt_succ_self _
 ·rw [Array.toList_push,List.map_append,List.nodup_append];refine⟨h.2,by simp,fun a ha b hb=>?_⟩;obtain⟨x,hx,rfl⟩:=List.mem_map.1 ha;have:=h.1 x hx;simp at hb;omega
theorem Zwb {w:World}{r:Nat}{o:Obj}{m:List (Lq×Int)}(hb:w.heap[r]?=some o)(h:MpO o m)(p:Lq):∃(v:Value) (s:Int) (o1:Obj),(Instr.mapEntry 38 (.map (some r)) (kP p)).run Tryz.prog w=.ok (.tuple #[v,.int .i64 s]) { w with heap:=w.heap.setIfInBounds r o1 }∧(∃ m1,MpO o1 m1∧∀ q,Kc m1 q=Kc m q) ∧
 ∀(V:World) (n:Int),V.heap[r]?=some o1->∃ o2,(Instr.entryStore 38 (.map (some r)) (.int .i64 s) (.int .i64 n)).run Tryz.prog V=.ok () { V with heap:=V.heap.setIfInBounds r o2 }∧MpO o2 (Kb m p n):=by
 obtain⟨es,ck,rfl,hm,hs⟩:=h;obtain⟨o,h1,h2⟩:=Zpd iV p w m es.toList hm;have hz:(zeroValue 3).run Tryz.prog w=.ok (.int .i64 0) w:=by kernel_rfl
 rcases h2 with⟨rfl,hgn,hput⟩ | ⟨j,v,rfl,hgv,hj,⟨x,hx,hk,hxv⟩,hput⟩
 ·refine⟨.int .i64 0,ck,.map (es.push { key:=kP p,val:=.int .i64 0,born:=ck }) (ck+1),?_,⟨Kb m p 0,⟨_,_,rfl,by rw [Array.toList_push]; exact hput 0 _ rfl rfl,Zjx hs _ _⟩,fun q=>?_⟩,fun V n hV=>?_⟩
  ·unfold Instr.mapEntry;simp only [Sem.run_bind,run_underlying Tryz.underlying38,Result.andThen_ok,Go.MapKept.run_getObj_map hb,Zmx,h1,hz,Go.MapKept.run_setObj_map _ hb];rfl
  ·rw [Np];split
   ·rename_i e;unfold Kc;rw [e,hgn];rfl
   ·rfl
  ·have hp:=Zjx hs (kP p) (.int .i64 0);have hi:(es.push { key:=kP p,val:=.int .i64 0,born:=ck })[es.size]?=some { key:=kP p,val:=.int .i64 0,born:=ck }:=by simp
   have hf:(es.push { key:=kP p,val:=.int .i64 0,born:=ck }).findIdx? (fun e=>((e.born:Int)==(ck:Int)))=some es.size:=Zga hp.2 hi;refine⟨.map ((es.push { key:=kP p,val:=.int .i64 0,born:=ck }).modify es.size fun e=>{ e with val:=.int .i64 n }) (ck+1),?_,_,_,rfl,?_,Rt hp _ _ (fun _=>rfl)⟩
   ·unfold Instr.entryStore;simp only [Sem.run_bind,Result.andThen_ok,Go.MapKept.run_getObj_map hV,asInt,asIntOf,Sem.run_pure];simp only [hf,Go.MapKept.run_setObj_map _ hV]
   ·have:=hput n { key:=kP p,val:=.int .i64 n,born:=ck } rfl rfl;have e:((es.push { key:=kP p,val:=.int .i64 0,born:=ck }).modify es.size fun e=>{ e with val:=.int .i64 n }).toList=es.toList++[{ key:=kP p,val:=.int .i64 n,born:=ck }]:=by
     rw [Array.toList_modify,Array.toList_push];apply List.ext_getElem
     ·simp
     ·intro i h1 h2;rw [List.getElem_modify];by_cases hi:es.size=i
      ·subst hi; simp
      ·have:i<es.size:=by simp at h2; omega
       simp [hi,List.getElem_append_left,this]
    rw [e];exact this
 ·have hx':es[j]?=some x:=by rw [← Array.getElem?_toList]; exact hx
  refine⟨iV v,x.born,.map (es.modify j fun e=>{ e with key:=kP p }) ck,?_,⟨Kb m p v,⟨_,_,rfl,?_,Rt hs _ _ (fun _=>rfl)⟩,fun q=>?_⟩,fun V n hV=>?_⟩
  ·unfold Instr.mapEntry;simp only [Sem.run_bind,run_underlying Tryz.underlying38,Result.andThen_ok,Go.MapKept.run_getObj_map hb,Zmx,h1,hx',Option.map_some,Option.getD_some,hk,Zwa,Go.MapKept.run_setObj_map _ hb];rfl
  ·have:=hput v;have e:(es.modify j fun e=>{ e with key:=kP p }).toList=es.toList.modify j fun e=>{ e with key:=kP p,val:=iV v }:=by
    rw [Array.toList_modify];apply List.ext_getElem
    ·simp
    ·intro i h1 h2;rw [List.getElem_modify,List.getElem_modify];by_cases hi:j=i
     ·subst hi;have hjl:j<es.toList.length:=hj;have hx2:=Option.some.inj ((List.getElem?_eq_getElem hjl).symm.trans hx);rw [if_pos rfl,if_pos rfl];show({ es.toList[j] with key:=kP p }:MapEntry)={ es.toList[j] with key:=kP p,val:=iV v };rw [show iV v=(es.toList[j]).val by rw [hx2,hxv]]
     ·simp [hi]
   rw [e];exact this
  ·rw [Np];split
   ·rename_i e;unfold Kc;rw [e,hgv];rfl
   ·rfl
  ·have hp:=Rt hs j (fun e=>{ e with key:=kP p }) (fun _=>rfl);have hi:(es.modify j fun e=>{ e with key:=kP p })[j]?=some { x with key:=kP p }:=by rw [Array.getElem?_modify,if_pos rfl,hx'];rfl
   have hf:(es.modify j fun e=>{ e with key:=kP p }).findIdx? (fun e=>((e.born:Int)==(x.born:Int)))=some j:=by have h0:=Zga hp.2 hi;exact h0
   refine⟨.map ((es.modify j fun e=>{ e with key:=kP p }).modify j fun e=>{ e with val:=.int .i64 n }) ck,?_,_,_,rfl,?_,Rt hp _ _ (fun _=>rfl)⟩
   ·unfold Instr.entryStore;simp only [Sem.run_bind,Result.andThen_ok,Go.MapKept.run_getObj_map hV,asInt,asIntOf,Sem.run_pure];simp only [hf,Go.MapKept.run_setObj_map _ hV]
   ·have:=hput n;have e:((es.modify j fun e=>{ e with key:=kP p }).modify j fun e=>{ e with val:=.int .i64 n }).toList=es.toList.modify j fun e=>{ e with key:=kP p,val:=iV n }:=by
     rw [Array.toList_modify,Array.toList_modify];apply List.ext_getElem
     ·simp
     ·intro i h1 h2;rw [List.getElem_modify,List.getElem_modify,List.getElem_modify];by_cases hi:j=i <;> simp [hi,iV]
    rw [e];exact this
def Yey (w V:World)(r:Nat)(o:Obj):Prop:=V.heap[r]?=some o∧(∀ g,g≠r->V.heap[g]?=w.heap[g]?)∧V.os=w.os∧V.tape=w.tape∧V.output=w.output∧V.heap.size=w.heap.size
theorem Zpe {w:World}{r:Nat}{o o':Obj}(h:w.heap[r]?=some o'):Yey w { w with heap:=w.heap.setIfInBounds r o } r o :=
 ⟨(Go.MapKept.heap_set h).1,(Go.MapKept.heap_set h).2,rfl,rfl,rfl,by simp⟩
theorem Iz {w:World}{r:Nat}{o:Obj}{m:List (Lq×Int)}(hb:w.heap[r]?=some o)(h:MpO o m)(p:Lq):∃(v:Value) (s:Int) (V1:World) (o1:Obj),(Instr.mapEntry 38 (.map (some r)) (.agg #[.int .i64 p.1,.int .i64 p.2])).run Tryz.prog w=.ok (.tuple #[v,.int .i64 s]) V1∧Yey w V1 r o1∧(∃ m1,MpO o1 m1∧∀ q,Kc m1 q=Kc m q) ∧
 ∀(V:World) (n:Int),V.heap[r]?=some o1->∃ V2 o2,(Instr.entryStore 38 (.map (some r)) (.int .i64 s) (.int .i64 n)).run Tryz.prog V=.ok () V2∧Yey V V2 r o2∧MpO o2 (Kb m p n):=by
 obtain⟨v,s,o1,h1,h2,h3⟩:=Zwb hb h p;refine⟨v,s,_,o1,h1,Zpe hb,h2,fun V n hV=>?_⟩;obtain⟨o2,h4,h5⟩:=h3 V n hV;exact⟨_,o2,h4,Zpe hV,h5⟩
end Go.Proofs.YtkenknfgeoecbaaGreatDoor
namespace Go.Proofs.YtkenknfgeoecbaaGreatDoor
open Go.ChangeShapes Go.WideShapes Go.ChangeAt Go.RowKit
abbrev Zos:List (String×DataW Unit):=Rows.fitsRow.laid.filter fun x=>x.2.handleName?.isNone
theorem Zuu (os:Os)(args:Array Value):laidMetH Tryz.prog Rows.fitsRow.laid ((Zoh (World.laidAll Tryz.prog os Zos)).forCall (fun _ _=>0) ⟨#[],args,[]⟩).memory :=
 laidMetH_of_parts (laidMet_of_run' 16 (by kernel_rfl) (by kernel_rfl)) (by kernel_rfl)
theorem Zzn:Rows.fitsRow.wf (OpenSpec.ofChange Rows.fitsSpec)=true:=by kernel_rfl
theorem Zzo:laidOutB Tryz.pinned.checked.prog=true:=by kernel_rfl
theorem Zzp:mapsRowed Tryz.pinned.checked.prog=true:=by kernel_rfl
theorem Zzq:Tryz.f5.params.all (Tryz.pinned.checked.prog.readableRec ·)=true:=by kernel_rfl
theorem Zzr:namedTie Tryz.pinned.checked.prog Rows.fitsRow.named Rows.fitsSpec.vars=true:=by kernel_rfl
theorem Zzs:(Rows.fitsRow.stops==[])=true:=by kernel_rfl
theorem Zzt:(Tryz.pinned.checked.prog.stops==[])=true:=by kernel_rfl
theorem Zzu:(Rows.fitsRow.knobs==[])=true:=by kernel_rfl
theorem Zzv:(Tryz.pinned.checked.prog.stopKnobs==[])=true:=by kernel_rfl
end Go.Proofs.YtkenknfgeoecbaaGreatDoor
