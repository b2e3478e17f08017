import Derived.Test.YtedemloocadimaaGreatDoorAs
import Derived.Test.YtedemloocadimaaGreatDoorRows
import Derived.Test.YtedemloocadimaaGreatDoorJ22
import Derived.WideShapes
import Derived.SizedLaws
import Derived.ChangeSlices
import Derived.Deep.Slices
import Derived.Test.YtedemloocadimaaGreatDoorJ19
import Derived.ProofKit
import Derived.OpenShut
import Derived.LaidLaws
import Derived.LaidHandle
import Derived.LaidSub
import Derived.Lib.LaidTab
import Derived.Lib.LaidU8
import Derived.Lay
import Derived.Deep.QuietTactic
import Derived.BigQuiet
import Derived.Test.YtedemloocadimaaGreatDoorEncD
namespace Go.Proofs.YtedemloocadimaaGreatDoor
open Go.RowKit Go.Extern.Stop Go.Stop Go.Extern
set_option maxHeartbeats 1000000
theorem Jx {w:World}{b o:Nat}{v:Value}(h:w.cell? ⟨b,o,none⟩=some v):b<w.heap.size:=by
 rcases Nat.lt_or_ge b w.heap.size with h' | h'
 ·
  exact h'
 ·
  simp [World.cell?,Array.getElem?_eq_none h'] at h
abbrev Iw (e f b a:Int):Value:=.agg #[.int .i64 e,.int .i64 f,.int .i64 b,.int .i64 a]
abbrev Xj (w:World):Prop:=w.cell? ⟨0,0,none⟩=some (.iface 200 (.agg #[.pointer (some ⟨9,74,none⟩)]))
theorem Uy (w:World):Calls Tryz.prog 19 #[.nilIface] w fun e w'=>e=.returned (Iw 0 (-1) (-1) (-1))∧Below w.heap.size w w':=by
 go_enter Tryz.func19,Tryz.ntmps19
 go_wp2;go_returns;exact⟨rfl,by go_grown⟩
theorem Xj.alloc {w:World}(h:Xj w)(o:Obj):Xj (w.alloc o):=by
 show(w.alloc o).cell? _=_;rw [World.cell?_alloc_lt _ _ ⟨0,0,none⟩ (Jx h)]; exact h
theorem Xj.setCell {w:World}(h:Xj w){a:Addr}(ha:0<a.block)(v:Value):Xj (w.setCell a v) :=
 ((Below.refl (min a.block w.heap.size) w).setCell (Nat.min_le_left _ _) v).cell (p:=⟨0,0,none⟩) (by show 0<min a.block w.heap.size; have:=Jx h; omega) |>.trans h
theorem Xj.below {w w':World}{B:Nat}(h:Xj w)(hb:Below B w w')(h0:0<B):Xj w':=(hb.cell (p:=⟨0,0,none⟩) h0).trans h
theorem Xj.drew {w:World}(h:Xj w):Xj w.drew:=h
theorem Rf (n:Int)(w:World)(hg:Xj w):Calls Tryz.prog 19 #[.iface 111 (.int .i64 n)] w fun e w'=>e=.returned (Iw n (-1) (-1) (-1))∧Below w.heap.size w w':=by
 have hlt:=Jx hg;have HG:Hid (Xj w):=hg;clear hg;go_enter Tryz.func19,Tryz.ntmps19
 go_wp2_with fail
 refine(Zyn n _ (.int .i64 0) _ ?s1 ?s2 ?s3).mono ?_;case s1=>repeat' (first | exact HG.out | apply Xj.alloc | (apply Xj.setCell) | (simp; done) | (simp; omega))
 case s2=>rw [World.cell?_alloc_at _ _ _ _ (by simp)]; rfl
 case s3=>rw [World.frozen?_alloc_at _ _ _ _ (by simp)]
 rintro e w' ⟨rfl,rfl⟩;go_wp2_with fail
 refine(Ztp n _ _ ?s1).mono ?_;case s1=>repeat' (first | exact HG.out | apply Xj.alloc | (apply Xj.setCell) | (simp; done) | (simp; omega))
 rintro e w' ⟨rfl,rfl⟩;go_wp2_with fail
 go_returns;refine⟨rfl,?_⟩;go_grown
end Go.Proofs.YtedemloocadimaaGreatDoor
namespace Go.Proofs.YtedemloocadimaaGreatDoor
open Go.ChangeShapes Go.WideShapes Go.ChangeAt Go.RowKit Go.Deep
def Zor (n:Int):Prop:=-9223372036854775808≤n∧n≤9223372036854775807
namespace bulkE
theorem one_le {H:Type}(d:DataW H):1≤Rows.uptoBulk d:=by
 cases d with
 | lit l=>cases l <;> simp [Rows.uptoBulk]
 | _=>simp [Rows.uptoBulk]
end bulkE
theorem Tryz.cellsIntE:Tryz.prog.cellsOf 3=1:=by kernel_rfl
theorem Tryz.cellsU64E:Tryz.prog.cellsOf 50=1:=by kernel_rfl
theorem Tryz.cellsIntsE:Tryz.prog.cellsOf 35=1:=by kernel_rfl
theorem Tryz.cellsArgE:Tryz.prog.cellsOf 361=2:=by kernel_rfl
theorem Tryz.cellsArgsE:Tryz.prog.cellsOf 87=1:=by kernel_rfl
theorem Tryz.cellsParamE:Tryz.prog.cellsOf 85=2:=by kernel_rfl
theorem Tryz.cellsParamsE:Tryz.prog.cellsOf 86=1:=by kernel_rfl
theorem Tryz.cellsInsE:Tryz.prog.cellsOf 89=8:=by kernel_rfl
theorem Tryz.cellsInssE:Tryz.prog.cellsOf 90=1:=by kernel_rfl
theorem Tryz.cellsBlocksE:Tryz.prog.cellsOf 91=1:=by kernel_rfl
theorem Tryz.cellsSigE:Tryz.prog.cellsOf 59=2:=by kernel_rfl
theorem Tryz.cellsSigsE:Tryz.prog.cellsOf 23=1:=by kernel_rfl
theorem Tryz.cellsFuncE:Tryz.prog.cellsOf 93=5:=by kernel_rfl
theorem Tryz.cellsFuncsE:Tryz.prog.cellsOf 22=1:=by kernel_rfl
theorem Ji {α:Type}{tr:TypeId→List Value→Option α}{fs:Array Field}{cs:List Value}{xs:List α}{c:Nat}{i:Nat}{f:Field}{y:α}
 (hf:∀(i:Nat) (f:Field),fs[i]?=some f→tr f.type ((cs.drop f.offset).take (Tryz.prog.cellsOf f.type))=xs[i]?) (hi:fs[i]?=some f) (hc:Tryz.prog.cellsOf f.type=c) (hy:xs[i]?=some y):tr f.type ((cs.drop f.offset).take c)=some y:=by
 rw [← hy,← hf i f hi,hc]
theorem Zay {α:Type}{l:List α}(h:l.length=2):∃ a0 a1,l=[a0,a1]:=by
 match l,h with
 | [a0,a1],_=>exact⟨_,_,rfl⟩
theorem Zum {α:Type}{l:List α}(h:l.length=5):∃ a0 a1 a2 a3 a4,l=[a0,a1,a2,a3,a4]:=by
 match l,h with
 | [a0,a1,a2,a3,a4],_=>exact⟨_,_,_,_,_,rfl⟩
theorem Zun {α:Type}{l:List α}(h:l.length=8):∃ a0 a1 a2 a3 a4 a5 a6 a7,l=[a0,a1,a2,a3,a4,a5,a6,a7]:=by
 match l,h with
 | [a0,a1,a2,a3,a4,a5,a6,a7],_=>exact⟨_,_,_,_,_,_,_,_,rfl⟩
theorem Zgm {n:Nat}(h:n≤maxLen):n<Jk:=by unfold maxLen at h; unfold Jk; omega
section
variable {H:Type} {enc:TypeId×Value→H} {w:World} {held:Bool}
abbrev Ct (enc:TypeId×Value→H)(w:World)(held:Bool)(n:Nat)(t:TypeId)(cs:List Value)(y:DataW H×List MemPlace):Prop:=DataW.trod enc Tryz.prog w 0 (fun _=>true) held n t cs=some y
theorem Mj {n:Nat}{v:Value}{y:DataW H×List MemPlace}(h:Ct enc w held n 3 [v] y):∃ x:Int,v=.int .i64 x∧Zor x:=by
 obtain⟨x,e,-,hw⟩:=DataW.trod_int Tryz.underlying3 h;have hb:=bounds_i64 hw;exact⟨x,List.head_eq_of_cons_eq e,by unfold Zor; omega⟩
theorem Zrc {n:Nat}{v:Value}{y:DataW H×List MemPlace}(h:Ct enc w held n 50 [v] y):∃ x:Int,v=.int .u64 x∧0≤x∧x<18446744073709551616:=by
 obtain⟨x,e,-,hw⟩:=DataW.trod_int Tryz.underlying50 h;refine⟨x,List.head_eq_of_cons_eq e,?_⟩;have hb:=bounds_u64 hw;omega
theorem Zfj {t:TypeId}{fs:Array Field}{f0 f1:Field}(ht:Tryz.prog.underlying t=some (.struct fs))(hf:fs=#[f0,f1])(t0:f0.type=3)(t1:f1.type=3)(o0:f0.offset=0)(o1:f1.offset=1)
 {n:Nat} {cs:List Value} {y:DataW H×List MemPlace} (hl:cs.length=2) (h:Ct enc w held n t cs y):∃ x:Int×Int,(cs.toArray=#[.int .i64 x.1,.int .i64 x.2]∧Zor x.1∧Zor x.2)∧3≤Rows.uptoBulk y.1:=by
 obtain⟨c0,c1,rfl⟩:=Zay hl;obtain⟨xs,k,-,hx,-,hxl,hall⟩:=DataW.trod_struct ht h;subst hf;obtain⟨y0,y1,rfl⟩:=Zay hxl;have g0:=hall 0 f0 rfl;have g1:=hall 1 f1 rfl;rw [t0,o0,Tryz.cellsIntE] at g0;rw [t1,o1,Tryz.cellsIntE] at g1;obtain⟨x0,rfl,b0⟩:=Mj (v:=c0) (y:=y0) g0;obtain⟨x1,rfl,b1⟩:=Mj (v:=c1) (y:=y1) g1;refine⟨(x0,x1),⟨rfl,b0,b1⟩,?_⟩;rw [congrArg Prod.fst hx];have:=bulkE.one_le y0.1;have:=bulkE.one_le y1.1;simp only [List.map_cons,List.map_nil,Rows.uptoBulk,Rows.uptoBulkAll];omega
end
end Go.Proofs.YtedemloocadimaaGreatDoor
namespace Go.Proofs.YtedemloocadimaaGreatDoor
open Go.ChangeShapes Go.WideShapes Go.ChangeAt Go.RowKit
theorem Tryz.ownE:ownKnob Tryz.prog.godebug=none:=by kernel_rfl
theorem Tryz.laidOutE:laidOutB Tryz.prog=true:=by kernel_rfl
theorem Tryz.etE : Tryz.prog.globalNamed "errors.errorType" = some 0 := by kernel_rfl
theorem Tryz.rtE : (Tryz.prog.cutTypes.find? (·.1 == "internal/reflectlite.rtype")).map (·.2) = some 200 := by kernel_rfl
theorem Tryz.oneRowE:((List.range 530).filter fun t=>Tryz.prog.rowNamed t [101,114,114,111,114])=[74]:=by kernel_rfl
theorem Tryz.sizeE:Tryz.prog.types.size=530:=by kernel_rfl
theorem Tryz.handE:typeHandle Tryz.prog 74=.pointer (some ⟨9,74,none⟩):=by kernel_rfl
theorem Tryz.gNeedE : Tryz.prog.globalNamed "prologue/program.needed" = some 2 := by kernel_rfl
theorem Tryz.gNeedTE:(Tryz.prog.globals[2]?).map (·.type)=some 366:=by kernel_rfl
theorem Tryz.cellsFieldsE:Tryz.prog.cellsOf 320=1:=by kernel_rfl
theorem Tryz.cellsNeedE:Tryz.prog.cellsOf 366=19:=by kernel_rfl
theorem Zrb:(Rows.laid_prologue_program_needed:DataW Unit)=Lib.tabData .u8 Zcv:=by kernel_rfl
theorem Zcy {W : World} (h : Lib.VarReads Tryz.prog W "prologue/program.needed" Rows.laid_prologue_program_needed) : Zs W := by
 obtain⟨g,t,cs,fuel,p,hg,ht,hv,hd⟩:=h;obtain rfl:=Option.some.inj (Tryz.gNeedE.symm.trans hg);obtain rfl:=Option.some.inj (Tryz.gNeedTE.symm.trans ht);rw [Zrb] at hd;have hc:=Lib.cells_of_tab Tryz.underlying366 Tryz.underlying320 Tryz.cellsFieldsE Tryz.cellsNeedE hd;intro k hk;rw [World.var?_cell Tryz.gNeedE hv k];have h1:cs[k]?=(Zcv.map fun z=>Value.int .u8 z)[k]?:=by rw [← hc]; simp
 rw [h1,List.getElem?_map];have h2:Zcv[k]?=some (Zcv.getD k 0):=by
  have:k<Zcv.length:=hk;simp [List.getD,this]
 rw [h2];rfl
theorem Zul {W : World} {l : List (String × DataW Unit)} (h : laidMetH Tryz.prog l W) (hm : ("errors.errorType", Rows.laid_errors_errorType) ∈ l.filter fun x => x.2.handleName?.isSome) : Xj W := by
 obtain ⟨-, h2⟩ := laidMetH_iff.1 h;obtain ⟨name, u, ty, e1, e2, e3, e4, e5⟩ := h2 ("errors.errorType", Rows.laid_errors_errorType) hm;have en : name = [101, 114, 114, 111, 114] := (Option.some.inj e1).symm;subst en;obtain rfl := Option.some.inj (Tryz.rtE.symm.trans e2);have hm : ty ∈ (List.range 530).filter fun t => Tryz.prog.rowNamed t [101, 114, 114, 111, 114] := List.mem_filter.2 ⟨List.mem_range.2 (by rw [← Tryz.sizeE]; exact e3), e4⟩;rw [Tryz.oneRowE] at hm;obtain rfl := List.mem_singleton.1 hm;rw [Tryz.handE] at e5;simpa using World.var?_cell Tryz.etE e5 0
def Zoq (w:World):World :=
 { w with heap:=w.heap.modify 0 fun
  | .cells _ t frozen=>.cells #[.iface 200 (.agg #[.pointer (some ⟨9,74,none⟩)])] t frozen
  | o=>o }
end Go.Proofs.YtedemloocadimaaGreatDoor
namespace Go.Proofs.YtedemloocadimaaGreatDoor
open Go.RowKit
abbrev Pr:=List UInt8×Bool
def Jw (lo hi x:Int):Pr:=([Zj x],!decide (lo≤x∧x≤hi))
def Gr (a c:Pr):Pr:=(a.1++c.1,a.2||c.2)
def Oj {α:Type}(one:α→Pr):List α→Pr
 | []=>([],false)
 | x :: xs=>Gr (one x) (Oj one xs)
def Zet {α:Type}(lo hi:Int)(one:α→Pr)(xs:List α):Pr:=Gr (Jw lo hi xs.length) (Oj one xs)
def Xd (r:Pr):Option (List UInt8):=if r.2 then none else some r.1
theorem Zm (lo hi x:Int):Xd (Jw lo hi x)=Zf lo hi x:=by
 unfold Xd Jw Zf;by_cases h:lo≤x∧x≤hi <;> simp [h]
theorem Zl (a c:Pr):Xd (Gr a c)=Zz (Xd a) (Xd c):=by
 obtain⟨a1,a2⟩:=a;obtain⟨c1,c2⟩:=c;cases a2 <;> cases c2 <;> rfl
theorem Yp {α:Type}(one:α→Pr):∀ xs:List α,Xd (Oj one xs)=Yi (fun x=>Xd (one x)) xs
 | []=>rfl
 | x :: xs=>by simp only [Oj,Yi]; rw [Zl,Yp one xs]
theorem Zos {α:Type}(lo hi:Int)(one:α→Pr)(xs:List α):Xd (Zet lo hi one xs)=Xh lo hi (fun x=>Xd (one x)) xs:=by
 unfold Zet Xh;rw [Zl,Zm,Yp]
theorem Rv.gb {w w':World}{b:Nat}{v:Value}{ns:List Int}(h:Rv w b v ns)(hw:w.grownBy w' (some b))(hb:b<w.heap.size):Rv w' b v ns:=by
 rcases h with h | ⟨sb,so,cap,h1,h2,h3⟩
 ·
  exact Or.inl h
 ·
  exact Or.inr ⟨sb,so,cap,h1,h2,fun i hi=>(World.cell?_of_block (hw.block sb (by omega) (by intro e; injection e with e; omega))).trans (h3 i hi)⟩
theorem Xy {a c d:World}{row:Option Nat}(h:a.grownBy c row)(k:c.grownBy d row):a.grownBy d row :=
 ⟨k.os.trans h.os,k.tape.trans h.tape,k.output.trans h.output,Nat.le_trans h.size k.size,fun q hq hr=>(k.block q (Nat.lt_of_lt_of_le hq h.size) hr).trans (h.block q hq hr)⟩
theorem Yc (w:World)(o:Obj)(row:Option Nat):w.grownBy (w.alloc o) row :=
 have q:=(Below.refl w.heap.size w).alloc (Nat.le_refl _) o;⟨q.os,q.tape,q.output,q.size,fun k hk _=>q.block k hk⟩
def Ydk:List (Array UInt8):=[#[63],#[68,78],#[68,65],#[68,65,66],#[68,65,66],#[68,65,66],#[68,65,66],#[68,65,66],#[68,65,66],#[68,65,66],#[68,65,66,110],#[68,65,66,110],#[70,82,79],#[70,82,79],#[65],#[68,65,66],#[79],#[70,82],#[78]]
def Ydl (op:Int):ByteArray:=if 0≤op then ⟨Ydk.getD op.toNat #[63]⟩ else ⟨#[63]⟩
def Jm (d a bb n f:Int)(na no:Nat):Bool:=d==0&&a==0&&bb==0&&n==0&&f==0&&(na:Int)==0&&(no:Int)==0
def Zaz (p:Int×Int):Pr:=Gr (Jw 0 8 p.1) (Jw 0 255 p.2)
theorem Zre (p:Int×Int):Xd (Zaz p)=Jl p:=by
 unfold Zaz Jl;rw [Zl,Zm,Zm]
def Gz (i:Zq)(c:UInt8):Pr :=
 if c=68 then Jw 0 255 i.d else if c=65 then Jw 0 255 i.a else if c=66 then Jw 0 255 i.bb
 else if c=110 then ([Zj i.n],decide (255<i.n)) else if c=78 then (Dj i.n 8,false)
 else if c=70 then Jw 0 255 i.f else if c=82 then Zet 0 8 Zaz i.args else if c=79 then Zet 0 4 (Jw 0 255) i.outs else ([],false)
def zap (ls:List UInt8)(c:UInt8)(x:Int):Int:=if ls.contains c then 0 else x
def Sq (ls:List UInt8)(x:Int):Int:=if ls.contains 110||ls.contains 78 then 0 else x
def Rx (ls:List UInt8)(c:UInt8)(x:Nat):Nat:=if ls.contains c then 0 else x
def Xb (i:Zq)(ls:List UInt8):Bool:=Jm (zap ls 68 i.d) (zap ls 65 i.a) (zap ls 66 i.bb) (Sq ls i.n) (zap ls 70 i.f) (Rx ls 82 i.args.length) (Rx ls 79 i.outs.length)
def Zg (op:Int):List UInt8:=(Ydl op).data.toList
def Xi (i:Zq):Pr:=Gr (Jw 1 18 i.op) (Gr (Oj (Gz i) (Zg i.op)) ([],!Xb i (Zg i.op)))
theorem Jd (x:Option (List UInt8))(c:Bool):Zz x (if c then none else some [])=if c then none else x:=by
 cases c <;> cases x <;> simp [Zz]
theorem Yj (c:Bool):Xd ([],c)=if c then none else some []:=by cases c <;> rfl
theorem Ydm:∀ b0 b1 b2 b3 b4 b5 b6:Bool,(bits .andNot .u8 (Gb [b0,b1,b2,b3,b4,b5,b6] 7) 9 != 0)=(b1||b2||b4||b5||b6):=by decide
theorem Ydn:∀ b0 b1 b2 b3 b4 b5 b6:Bool,(bits .andNot .u8 (Gb [b0,b1,b2,b3,b4,b5,b6] 7) 3 != 0)=(b2||b3||b4||b5||b6):=by decide
theorem Kq:∀ b0 b1 b2 b3 b4 b5 b6:Bool,(bits .andNot .u8 (Gb [b0,b1,b2,b3,b4,b5,b6] 7) 7 != 0)=(b3||b4||b5||b6):=by decide
theorem Zot:∀ b0 b1 b2 b3 b4 b5 b6:Bool,(bits .andNot .u8 (Gb [b0,b1,b2,b3,b4,b5,b6] 7) 15 != 0)=(b4||b5||b6):=by decide
theorem Ziv:∀ b0 b1 b2 b3 b4 b5 b6:Bool,(bits .andNot .u8 (Gb [b0,b1,b2,b3,b4,b5,b6] 7) 112 != 0)=(b0||b1||b2||b3):=by decide
theorem Ydo:∀ b0 b1 b2 b3 b4 b5 b6:Bool,(bits .andNot .u8 (Gb [b0,b1,b2,b3,b4,b5,b6] 7) 2 != 0)=(b0||b2||b3||b4||b5||b6):=by decide
theorem Zzh:∀ b0 b1 b2 b3 b4 b5 b6:Bool,(bits .andNot .u8 (Gb [b0,b1,b2,b3,b4,b5,b6] 7) 64 != 0)=(b0||b1||b2||b3||b4||b5):=by decide
theorem Zzi:∀ b0 b1 b2 b3 b4 b5 b6:Bool,(bits .andNot .u8 (Gb [b0,b1,b2,b3,b4,b5,b6] 7) 48 != 0)=(b0||b1||b2||b3||b6):=by decide
theorem Ydp:∀ b0 b1 b2 b3 b4 b5 b6:Bool,(bits .andNot .u8 (Gb [b0,b1,b2,b3,b4,b5,b6] 7) 8 != 0)=(b0||b1||b2||b4||b5||b6):=by decide
theorem Nt (i:Zq):Xd (Zet 0 8 Zaz i.args)=Xh 0 8 Jl i.args:=by
 rw [Zos];congr 1
 funext x
 exact Zre x
theorem Nu (i:Zq):Xd (Zet 0 4 (Jw 0 255) i.outs)=Xh 0 4 (Zf 0 255) i.outs:=by
 rw [Zos];congr 1
 funext x
 exact Zm 0 255 x
theorem Ziw (n:Int)(op:Int)(h:Xp op=1):Xd ([Zj n],decide (255<n))=Mf op n:=by
 unfold Xd Mf;rw [h];by_cases hn:255<n
 ·
  simp [hn]
 ·
  simp [hn,Dj]
theorem Zix (n:Int)(op:Int)(h:Xp op=8):Xd (Dj n 8,false)=Mf op n:=by
 unfold Xd Mf;rw [h];simp
theorem Lr (i:Zq):Gz i 68=Jw 0 255 i.d:=rfl
theorem Ls (i:Zq):Gz i 65=Jw 0 255 i.a:=rfl
theorem Nv (i:Zq):Gz i 66=Jw 0 255 i.bb:=rfl
theorem Zda (i:Zq):Gz i 110=([Zj i.n],decide (255<i.n)):=rfl
theorem Zcj (i:Zq):Gz i 78=(Dj i.n 8,false):=rfl
theorem Zac (i:Zq):Gz i 70=Jw 0 255 i.f:=rfl
theorem Zad (i:Zq):Gz i 82=Zet 0 8 Zaz i.args:=rfl
theorem Zae (i:Zq):Gz i 79=Zet 0 4 (Jw 0 255) i.outs:=rfl
theorem Zml (i:Zq)(h:i.op=1):Xd (Xi i)=Zi i:=by
 have e1:Zg i.op=[68,78]:=by rw [h]; rfl
 have e2:Xa i.op=9:=by rw [h]; rfl
 have e3:Xp i.op=8:=by rw [h]; rfl
 have e4:(!Xb i [68,78])=i.spare:=by
  unfold Zq.spare Xc;rw [e2,Ydm];simp [Xb,zap,Sq,Rx,Jm,bne,Bool.not_and,Bool.or_assoc]
 unfold Xi Zi Yu;rw [Zl,Zm,Zl,Yp,e1,e4,e2,Yj,Jd];simp only [Yi,Lr,Zcj,Zm,Zix _ _ e3,show(bits .and .u8 9 1 != 0)=true by decide,show(bits .and .u8 9 2 != 0)=false by decide,show(bits .and .u8 9 4 != 0)=false by decide,show(bits .and .u8 9 8 != 0)=true by decide,show(bits .and .u8 9 16 != 0)=false by decide,show(bits .and .u8 9 32 != 0)=false by decide,show(bits .and .u8 9 64 != 0)=false by decide,Gc,if_true,Bool.false_eq_true,if_false];repeat rw [Xq]
 repeat rw [Xg]
theorem Zmm (i:Zq)(h:i.op=2):Xd (Xi i)=Zi i:=by
 have e1:Zg i.op=[68,65]:=by rw [h]; rfl
 have e2:Xa i.op=3:=by rw [h]; rfl
 have e4:(!Xb i [68,65])=i.spare:=by
  unfold Zq.spare Xc;rw [e2,Ydn];simp [Xb,zap,Sq,Rx,Jm,bne,Bool.not_and,Bool.or_assoc]
 unfold Xi Zi Yu;rw [Zl,Zm,Zl,Yp,e1,e4,e2,Yj,Jd];simp only [Yi,Lr,Ls,Zm,show(bits .and .u8 3 1 != 0)=true by decide,show(bits .and .u8 3 2 != 0)=true by decide,show(bits .and .u8 3 4 != 0)=false by decide,show(bits .and .u8 3 8 != 0)=false by decide,show(bits .and .u8 3 16 != 0)=false by decide,show(bits .and .u8 3 32 != 0)=false by decide,show(bits .and .u8 3 64 != 0)=false by decide,Gc,if_true,Bool.false_eq_true,if_false];repeat rw [Xq]
 repeat rw [Xg]
theorem Zmn (i:Zq)(h:i.op=3):Xd (Xi i)=Zi i:=by
 have e1:Zg i.op=[68,65,66]:=by rw [h]; rfl
 have e2:Xa i.op=7:=by rw [h]; rfl
 have e4:(!Xb i [68,65,66])=i.spare:=by
  unfold Zq.spare Xc;rw [e2,Kq];simp [Xb,zap,Sq,Rx,Jm,bne,Bool.not_and,Bool.or_assoc]
 unfold Xi Zi Yu;rw [Zl,Zm,Zl,Yp,e1,e4,e2,Yj,Jd];simp only [Yi,Lr,Ls,Nv,Zm,show(bits .and .u8 7 1 != 0)=true by decide,show(bits .and .u8 7 2 != 0)=true by decide,show(bits .and .u8 7 4 != 0)=true by decide,show(bits .and .u8 7 8 != 0)=false by decide,show(bits .and .u8 7 16 != 0)=false by decide,show(bits .and .u8 7 32 != 0)=false by decide,show(bits .and .u8 7 64 != 0)=false by decide,Gc,if_true,Bool.false_eq_true,if_false];repeat rw [Xq]
 repeat rw [Xg]
theorem Zmo (i:Zq)(h:i.op=4):Xd (Xi i)=Zi i:=by
 have e1:Zg i.op=[68,65,66]:=by rw [h]; rfl
 have e2:Xa i.op=7:=by rw [h]; rfl
 have e4:(!Xb i [68,65,66])=i.spare:=by
  unfold Zq.spare Xc;rw [e2,Kq];simp [Xb,zap,Sq,Rx,Jm,bne,Bool.not_and,Bool.or_assoc]
 unfold Xi Zi Yu;rw [Zl,Zm,Zl,Yp,e1,e4,e2,Yj,Jd];simp only [Yi,Lr,Ls,Nv,Zm,show(bits .and .u8 7 1 != 0)=true by decide,show(bits .and .u8 7 2 != 0)=true by decide,show(bits .and .u8 7 4 != 0)=true by decide,show(bits .and .u8 7 8 != 0)=false by decide,show(bits .and .u8 7 16 != 0)=false by decide,show(bits .and .u8 7 32 != 0)=false by decide,show(bits .and .u8 7 64 != 0)=false by decide,Gc,if_true,Bool.false_eq_true,if_false];repeat rw [Xq]
 repeat rw [Xg]
theorem Zmp (i:Zq)(h:i.op=5):Xd (Xi i)=Zi i:=by
 have e1:Zg i.op=[68,65,66]:=by rw [h]; rfl
 have e2:Xa i.op=7:=by rw [h]; rfl
 have e4:(!Xb i [68,65,66])=i.spare:=by
  unfold Zq.spare Xc;rw [e2,Kq];simp [Xb,zap,Sq,Rx,Jm,bne,Bool.not_and,Bool.or_assoc]
 unfold Xi Zi Yu;rw [Zl,Zm,Zl,Yp,e1,e4,e2,Yj,Jd];simp only [Yi,Lr,Ls,Nv,Zm,show(bits .and .u8 7 1 != 0)=true by decide,show(bits .and .u8 7 2 != 0)=true by decide,show(bits .and .u8 7 4 != 0)=true by decide,show(bits .and .u8 7 8 != 0)=false by decide,show(bits .and .u8 7 16 != 0)=false by decide,show(bits .and .u8 7 32 != 0)=false by decide,show(bits .and .u8 7 64 != 0)=false by decide,Gc,if_true,Bool.false_eq_true,if_false];repeat rw [Xq]
 repeat rw [Xg]
theorem Zmq (i:Zq)(h:i.op=6):Xd (Xi i)=Zi i:=by
 have e1:Zg i.op=[68,65,66]:=by rw [h]; rfl
 have e2:Xa i.op=7:=by rw [h]; rfl
 have e4:(!Xb i [68,65,66])=i.spare:=by
  unfold Zq.spare Xc;rw [e2,Kq];simp [Xb,zap,Sq,Rx,Jm,bne,Bool.not_and,Bool.or_assoc]
 unfold Xi Zi Yu;rw [Zl,Zm,Zl,Yp,e1,e4,e2,Yj,Jd];simp only [Yi,Lr,Ls,Nv,Zm,show(bits .and .u8 7 1 != 0)=true by decide,show(bits .and .u8 7 2 != 0)=true by decide,show(bits .and .u8 7 4 != 0)=true by decide,show(bits .and .u8 7 8 != 0)=false by decide,show(bits .and .u8 7 16 != 0)=false by decide,show(bits .and .u8 7 32 != 0)=false by decide,show(bits .and .u8 7 64 != 0)=false by decide,Gc,if_true,Bool.false_eq_true,if_false];repeat rw [Xq]
 repeat rw [Xg]
theorem Zmr (i:Zq)(h:i.op=7):Xd (Xi i)=Zi i:=by
 have e1:Zg i.op=[68,65,66]:=by rw [h]; rfl
 have e2:Xa i.op=7:=by rw [h]; rfl
 have e4:(!Xb i [68,65,66])=i.spare:=by
  unfold Zq.spare Xc;rw [e2,Kq];simp [Xb,zap,Sq,Rx,Jm,bne,Bool.not_and,Bool.or_assoc]
 unfold Xi Zi Yu;rw [Zl,Zm,Zl,Yp,e1,e4,e2,Yj,Jd];simp only [Yi,Lr,Ls,Nv,Zm,show(bits .and .u8 7 1 != 0)=true by decide,show(bits .and .u8 7 2 != 0)=true by decide,show(bits .and .u8 7 4 != 0)=true by decide,show(bits .and .u8 7 8 != 0)=false by decide,show(bits .and .u8 7 16 != 0)=false by decide,show(bits .and .u8 7 32 != 0)=false by decide,show(bits .and .u8 7 64 != 0)=false by decide,Gc,if_true,Bool.false_eq_true,if_false];repeat rw [Xq]
 repeat rw [Xg]
theorem Zms (i:Zq)(h:i.op=8):Xd (Xi i)=Zi i:=by
 have e1:Zg i.op=[68,65,66]:=by rw [h]; rfl
 have e2:Xa i.op=7:=by rw [h]; rfl
 have e4:(!Xb i [68,65,66])=i.spare:=by
  unfold Zq.spare Xc;rw [e2,Kq];simp [Xb,zap,Sq,Rx,Jm,bne,Bool.not_and,Bool.or_assoc]
 unfold Xi Zi Yu;rw [Zl,Zm,Zl,Yp,e1,e4,e2,Yj,Jd];simp only [Yi,Lr,Ls,Nv,Zm,show(bits .and .u8 7 1 != 0)=true by decide,show(bits .and .u8 7 2 != 0)=true by decide,show(bits .and .u8 7 4 != 0)=true by decide,show(bits .and .u8 7 8 != 0)=false by decide,show(bits .and .u8 7 16 != 0)=false by decide,show(bits .and .u8 7 32 != 0)=false by decide,show(bits .and .u8 7 64 != 0)=false by decide,Gc,if_true,Bool.false_eq_true,if_false];repeat rw [Xq]
 repeat rw [Xg]
theorem Zmt (i:Zq)(h:i.op=9):Xd (Xi i)=Zi i:=by
 have e1:Zg i.op=[68,65,66]:=by rw [h]; rfl
 have e2:Xa i.op=7:=by rw [h]; rfl
 have e4:(!Xb i [68,65,66])=i.spare:=by
  unfold Zq.spare Xc;rw [e2,Kq];simp [Xb,zap,Sq,Rx,Jm,bne,Bool.not_and,Bool.or_assoc]
 unfold Xi Zi Yu;rw [Zl,Zm,Zl,Yp,e1,e4,e2,Yj,Jd];simp only [Yi,Lr,Ls,Nv,Zm,show(bits .and .u8 7 1 != 0)=true by decide,show(bits .and .u8 7 2 != 0)=true by decide,show(bits .and .u8 7 4 != 0)=true by decide,show(bits .and .u8 7 8 != 0)=false by decide,show(bits .and .u8 7 16 != 0)=false by decide,show(bits .and .u8 7 32 != 0)=false by decide,show(bits .and .u8 7 64 != 0)=false by decide,Gc,if_true,Bool.false_eq_true,if_false];repeat rw [Xq]
 repeat rw [Xg]
theorem Ziy (i:Zq)(h:i.op=10):Xd (Xi i)=Zi i:=by
 have e1:Zg i.op=[68,65,66,110]:=by rw [h]; rfl
 have e2:Xa i.op=15:=by rw [h]; rfl
 have e3:Xp i.op=1:=by rw [h]; rfl
 have e4:(!Xb i [68,65,66,110])=i.spare:=by
  unfold Zq.spare Xc;rw [e2,Zot];simp [Xb,zap,Sq,Rx,Jm,bne,Bool.not_and,Bool.or_assoc]
 unfold Xi Zi Yu;rw [Zl,Zm,Zl,Yp,e1,e4,e2,Yj,Jd];simp only [Yi,Lr,Ls,Nv,Zda,Zm,Ziw _ _ e3,show(bits .and .u8 15 1 != 0)=true by decide,show(bits .and .u8 15 2 != 0)=true by decide,show(bits .and .u8 15 4 != 0)=true by decide,show(bits .and .u8 15 8 != 0)=true by decide,show(bits .and .u8 15 16 != 0)=false by decide,show(bits .and .u8 15 32 != 0)=false by decide,show(bits .and .u8 15 64 != 0)=false by decide,Gc,if_true,Bool.false_eq_true,if_false];repeat rw [Xq]
 repeat rw [Xg]
theorem Ziz (i:Zq)(h:i.op=11):Xd (Xi i)=Zi i:=by
 have e1:Zg i.op=[68,65,66,110]:=by rw [h]; rfl
 have e2:Xa i.op=15:=by rw [h]; rfl
 have e3:Xp i.op=1:=by rw [h]; rfl
 have e4:(!Xb i [68,65,66,110])=i.spare:=by
  unfold Zq.spare Xc;rw [e2,Zot];simp [Xb,zap,Sq,Rx,Jm,bne,Bool.not_and,Bool.or_assoc]
 unfold Xi Zi Yu;rw [Zl,Zm,Zl,Yp,e1,e4,e2,Yj,Jd];simp only [Yi,Lr,Ls,Nv,Zda,Zm,Ziw _ _ e3,show(bits .and .u8 15 1 != 0)=true by decide,show(bits .and .u8 15 2 != 0)=true by decide,show(bits .and .u8 15 4 != 0)=true by decide,show(bits .and .u8 15 8 != 0)=true by decide,show(bits .and .u8 15 16 != 0)=false by decide,show(bits .and .u8 15 32 != 0)=false by decide,show(bits .and .u8 15 64 != 0)=false by decide,Gc,if_true,Bool.false_eq_true,if_false];repeat rw [Xq]
 repeat rw [Xg]
theorem Zja (i:Zq)(h:i.op=12):Xd (Xi i)=Zi i:=by
 have e1:Zg i.op=[70,82,79]:=by rw [h]; rfl
 have e2:Xa i.op=112:=by rw [h]; rfl
 have e4:(!Xb i [70,82,79])=i.spare:=by
  unfold Zq.spare Xc;rw [e2,Ziv];simp [Xb,zap,Sq,Rx,Jm,bne,Bool.not_and,Bool.or_assoc]
 unfold Xi Zi Yu;rw [Zl,Zm,Zl,Yp,e1,e4,e2,Yj,Jd];simp only [Yi,Zac,Zad,Zae,Zm,Nt,Nu,show(bits .and .u8 112 1 != 0)=false by decide,show(bits .and .u8 112 2 != 0)=false by decide,show(bits .and .u8 112 4 != 0)=false by decide,show(bits .and .u8 112 8 != 0)=false by decide,show(bits .and .u8 112 16 != 0)=true by decide,show(bits .and .u8 112 32 != 0)=true by decide,show(bits .and .u8 112 64 != 0)=true by decide,Gc,if_true,Bool.false_eq_true,if_false];repeat rw [Xq]
 repeat rw [Xg]
theorem Zjb (i:Zq)(h:i.op=13):Xd (Xi i)=Zi i:=by
 have e1:Zg i.op=[70,82,79]:=by rw [h]; rfl
 have e2:Xa i.op=112:=by rw [h]; rfl
 have e4:(!Xb i [70,82,79])=i.spare:=by
  unfold Zq.spare Xc;rw [e2,Ziv];simp [Xb,zap,Sq,Rx,Jm,bne,Bool.not_and,Bool.or_assoc]
 unfold Xi Zi Yu;rw [Zl,Zm,Zl,Yp,e1,e4,e2,Yj,Jd];simp only [Yi,Zac,Zad,Zae,Zm,Nt,Nu,show(bits .and .u8 112 1 != 0)=false by decide,show(bits .and .u8 112 2 != 0)=false by decide,show(bits .and .u8 112 4 != 0)=false by decide,show(bits .and .u8 112 8 != 0)=false by decide,show(bits .and .u8 112 16 != 0)=true by decide,show(bits .and .u8 112 32 != 0)=true by decide,show(bits .and .u8 112 64 != 0)=true by decide,Gc,if_true,Bool.false_eq_true,if_false];repeat rw [Xq]
 repeat rw [Xg]
theorem Zjc (i:Zq)(h:i.op=14):Xd (Xi i)=Zi i:=by
 have e1:Zg i.op=[65]:=by rw [h]; rfl
 have e2:Xa i.op=2:=by rw [h]; rfl
 have e4:(!Xb i [65])=i.spare:=by
  unfold Zq.spare Xc;rw [e2,Ydo];simp [Xb,zap,Sq,Rx,Jm,bne,Bool.not_and,Bool.or_assoc]
 unfold Xi Zi Yu;rw [Zl,Zm,Zl,Yp,e1,e4,e2,Yj,Jd];simp only [Yi,Ls,Zm,show(bits .and .u8 2 1 != 0)=false by decide,show(bits .and .u8 2 2 != 0)=true by decide,show(bits .and .u8 2 4 != 0)=false by decide,show(bits .and .u8 2 8 != 0)=false by decide,show(bits .and .u8 2 16 != 0)=false by decide,show(bits .and .u8 2 32 != 0)=false by decide,show(bits .and .u8 2 64 != 0)=false by decide,Gc,if_true,Bool.false_eq_true,if_false];repeat rw [Xq]
 repeat rw [Xg]
theorem Zjd (i:Zq)(h:i.op=15):Xd (Xi i)=Zi i:=by
 have e1:Zg i.op=[68,65,66]:=by rw [h]; rfl
 have e2:Xa i.op=7:=by rw [h]; rfl
 have e4:(!Xb i [68,65,66])=i.spare:=by
  unfold Zq.spare Xc;rw [e2,Kq];simp [Xb,zap,Sq,Rx,Jm,bne,Bool.not_and,Bool.or_assoc]
 unfold Xi Zi Yu;rw [Zl,Zm,Zl,Yp,e1,e4,e2,Yj,Jd];simp only [Yi,Lr,Ls,Nv,Zm,show(bits .and .u8 7 1 != 0)=true by decide,show(bits .and .u8 7 2 != 0)=true by decide,show(bits .and .u8 7 4 != 0)=true by decide,show(bits .and .u8 7 8 != 0)=false by decide,show(bits .and .u8 7 16 != 0)=false by decide,show(bits .and .u8 7 32 != 0)=false by decide,show(bits .and .u8 7 64 != 0)=false by decide,Gc,if_true,Bool.false_eq_true,if_false];repeat rw [Xq]
 repeat rw [Xg]
theorem Zje (i:Zq)(h:i.op=16):Xd (Xi i)=Zi i:=by
 have e1:Zg i.op=[79]:=by rw [h]; rfl
 have e2:Xa i.op=64:=by rw [h]; rfl
 have e4:(!Xb i [79])=i.spare:=by
  unfold Zq.spare Xc;rw [e2,Zzh];simp [Xb,zap,Sq,Rx,Jm,bne,Bool.not_and,Bool.or_assoc]
 unfold Xi Zi Yu;rw [Zl,Zm,Zl,Yp,e1,e4,e2,Yj,Jd];simp only [Yi,Zae,Nu,show(bits .and .u8 64 1 != 0)=false by decide,show(bits .and .u8 64 2 != 0)=false by decide,show(bits .and .u8 64 4 != 0)=false by decide,show(bits .and .u8 64 8 != 0)=false by decide,show(bits .and .u8 64 16 != 0)=false by decide,show(bits .and .u8 64 32 != 0)=false by decide,show(bits .and .u8 64 64 != 0)=true by decide,Gc,if_true,Bool.false_eq_true,if_false];repeat rw [Xq]
 repeat rw [Xg]
theorem Zjf (i:Zq)(h:i.op=17):Xd (Xi i)=Zi i:=by
 have e1:Zg i.op=[70,82]:=by rw [h]; rfl
 have e2:Xa i.op=48:=by rw [h]; rfl
 have e4:(!Xb i [70,82])=i.spare:=by
  unfold Zq.spare Xc;rw [e2,Zzi];simp [Xb,zap,Sq,Rx,Jm,bne,Bool.not_and,Bool.or_assoc]
 unfold Xi Zi Yu;rw [Zl,Zm,Zl,Yp,e1,e4,e2,Yj,Jd];simp only [Yi,Zac,Zad,Zm,Nt,show(bits .and .u8 48 1 != 0)=false by decide,show(bits .and .u8 48 2 != 0)=false by decide,show(bits .and .u8 48 4 != 0)=false by decide,show(bits .and .u8 48 8 != 0)=false by decide,show(bits .and .u8 48 16 != 0)=true by decide,show(bits .and .u8 48 32 != 0)=true by decide,show(bits .and .u8 48 64 != 0)=false by decide,Gc,if_true,Bool.false_eq_true,if_false];repeat rw [Xq]
 repeat rw [Xg]
theorem Zjg (i:Zq)(h:i.op=18):Xd (Xi i)=Zi i:=by
 have e1:Zg i.op=[78]:=by rw [h]; rfl
 have e2:Xa i.op=8:=by rw [h]; rfl
 have e3:Xp i.op=8:=by rw [h]; rfl
 have e4:(!Xb i [78])=i.spare:=by
  unfold Zq.spare Xc;rw [e2,Ydp];simp [Xb,zap,Sq,Rx,Jm,bne,Bool.not_and,Bool.or_assoc]
 unfold Xi Zi Yu;rw [Zl,Zm,Zl,Yp,e1,e4,e2,Yj,Jd];simp only [Yi,Zcj,Zix _ _ e3,show(bits .and .u8 8 1 != 0)=false by decide,show(bits .and .u8 8 2 != 0)=false by decide,show(bits .and .u8 8 4 != 0)=false by decide,show(bits .and .u8 8 8 != 0)=true by decide,show(bits .and .u8 8 16 != 0)=false by decide,show(bits .and .u8 8 32 != 0)=false by decide,show(bits .and .u8 8 64 != 0)=false by decide,Gc,if_true,Bool.false_eq_true,if_false];repeat rw [Xq]
 repeat rw [Xg]
theorem Nf (i:Zq):Xd (Xi i)=Zi i:=by
 by_cases h:1≤i.op∧i.op≤18
 ·
  have hs:i.op=1∨i.op=2∨i.op=3∨i.op=4∨i.op=5∨i.op=6∨i.op=7∨i.op=8∨i.op=9∨i.op=10∨i.op=11∨i.op=12∨i.op=13∨i.op=14∨i.op=15∨i.op=16∨i.op=17∨i.op=18:=by omega
  rcases hs with h2 | h2 | h2 | h2 | h2 | h2 | h2 | h2 | h2 | h2 | h2 | h2 | h2 | h2 | h2 | h2 | h2 | h2
  ·
   exact Zml i h2
  ·
   exact Zmm i h2
  ·
   exact Zmn i h2
  ·
   exact Zmo i h2
  ·
   exact Zmp i h2
  ·
   exact Zmq i h2
  ·
   exact Zmr i h2
  ·
   exact Zms i h2
  ·
   exact Zmt i h2
  ·
   exact Ziy i h2
  ·
   exact Ziz i h2
  ·
   exact Zja i h2
  ·
   exact Zjb i h2
  ·
   exact Zjc i h2
  ·
   exact Zjd i h2
  ·
   exact Zje i h2
  ·
   exact Zjf i h2
  ·
   exact Zjg i h2
 ·
  have h1:Zf 1 18 i.op=none:=if_neg h;unfold Xi Zi;rw [Zl,Zm,h1];rfl
end Go.Proofs.YtedemloocadimaaGreatDoor
