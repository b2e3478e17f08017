import Derived.Test.YteddfaconabobaaGreatDoorProg
import Derived.Tactics
import Derived.Tactics2
import Derived.Defers
import Derived.Laws.Pointers
import Derived.Laws.LoneSync
import Derived.RegionTactic
import Derived.RegionCalls
import Derived.ChangeAlike
import Derived.Test.YteddfaconabobaaGreatDoorJ3
import Derived.Deep.MidRow
import Derived.Test.YteddfaconabobaaGreatDoorJ0
import Derived.Test.YteddfaconabobaaGreatDoorTblRef
import Derived.Deep.CutRange
import Derived.Test.YteddfaconabobaaGreatDoorRows
import Derived.Test.YteddfaconabobaaGreatDoorCards
import Derived.Test.YteddfaconabobaaGreatDoorTie
import Derived.ProofKit
import Derived.OpenShut
import Derived.ChangeSame
import Derived.ChangeSlices
import Derived.ChangeVars
import Derived.JoinedOf
import Derived.RowKit
import Derived.RowKitTokens
import Derived.LaidLaws
import Derived.LaidHandle
import Derived.LaidSub
import Derived.Stop.Joined
import Derived.SevenTiedAt
import Derived.SizedLaws
import Derived.WideShapes
import Derived.MakeChecks
import Derived.Lib.LaidU8
import Derived.Lay
namespace Go.Proofs.YteddfaconabobaaGreatDoor
open Go.RowKit
theorem Rs.slice {w:World}{v:Value}{ns:List Int}(h:Rs w v ns):∃ a n p,v=.slice a n p:=by
 obtain⟨p,cap,e⟩:=h.shape;exact⟨_,_,_,e⟩
end Go.Proofs.YteddfaconabobaaGreatDoor
namespace Go.Proofs.YteddfaconabobaaGreatDoor
open Go.ChangeShapes Go.WideShapes Go.ChangeAt Go.RowKit
theorem Tryz.cellsBoolQ:Tryz.prog.cellsOf 4=1:=by kernel_rfl
theorem Tryz.cellsIntQ:Tryz.prog.cellsOf 3=1:=by kernel_rfl
theorem Jt {α:Type}{tr:TypeId→List Value→Option α}{fs:Array Field}{cs:List Value}{xs:List α}{c:Nat}{i:Nat}{f:Field}{y:α}
 (hf:∀(i:Nat) (f:Field),fs[i]?=some f→tr f.type ((cs.drop f.offset).take (Tryz.prog.cellsOf f.type))=xs[i]?) (hi:fs[i]?=some f) (hc:Tryz.prog.cellsOf f.type=c) (hy:xs[i]?=some y):tr f.type ((cs.drop f.offset).take c)=some y:=by
 rw [← hy,← hf i f hi,hc]
theorem Zmo {α:Type}{l:List α}(h:l.length=11):∃ a0 a1 a2 a3 a4 a5 a6 a7 a8 a9 a10,l=[a0,a1,a2,a3,a4,a5,a6,a7,a8,a9,a10]:=by
 match l,h with
 | [a0,a1,a2,a3,a4,a5,a6,a7,a8,a9,a10],_=>exact⟨_,_,_,_,_,_,_,_,_,_,_,rfl⟩
theorem Zoj {α:Type}{l:List α}(h:l.length=2):∃ a0 a1,l=[a0,a1]:=by
 match l,h with
 | [a0,a1],_=>exact⟨_,_,rfl⟩
theorem Tryz.cells2iQ:Tryz.prog.cellsOf 22=2:=by kernel_rfl
theorem Tryz.cellsIntsQ:Tryz.prog.cellsOf 23=1:=by kernel_rfl
section
variable {H:Type} {enc:TypeId×Value→H} {w:World} {fuel:Nat} {held:Bool}
theorem Lk {v:Value}{y:DataW H×List MemPlace}(h:DataW.trod enc Tryz.prog w 0 (fun _=>true) held fuel 3 [v]=some y):∃ n:Int,v=.int .i64 n:=by
 obtain⟨n,e,-,hw⟩:=DataW.trod_int Tryz.underlying3 h;exact⟨n,List.head_eq_of_cons_eq e⟩
set_option maxRecDepth 100000 in
theorem Zhj {v0 v1:Value}{y:DataW H×List MemPlace}(h:DataW.trod enc Tryz.prog w 0 (fun _=>true) held fuel 22 [v0,v1]=some y):∃ n m:Int,v0=.int .i64 n∧v1=.int .i64 m:=by
 obtain⟨xs,m,-,-,-,hxl,hall⟩:=DataW.trod_array Tryz.underlying22 h;obtain⟨x0,x1,rfl⟩:=Zoj hxl;have h0:DataW.trod enc Tryz.prog w 0 (fun _=>true) held m 3 [v0]=some x0:=by
  have:=hall 0 (by decide);rw [Tryz.cellsIntQ] at this;exact this
 have h1:DataW.trod enc Tryz.prog w 0 (fun _=>true) held m 3 [v1]=some x1:=by
  have:=hall 1 (by decide);rw [Tryz.cellsIntQ] at this;exact this
 obtain⟨n,e0⟩:=Lk h0;obtain⟨k,e1⟩:=Lk h1;exact⟨n,k,e0,e1⟩
end
end Go.Proofs.YteddfaconabobaaGreatDoor
