import Derived.Test.YteddfaconabobaaGreatDoorJ14
namespace Go.Proofs.YteddfaconabobaaGreatDoor
open Go.RowKit
theorem Znl (w:World)(X0 X1:Obj):((w.alloc X0).alloc X1).heap[w.heap.size]?=some X0∧((w.alloc X0).alloc X1).heap[w.heap.size+1]?=some X1∧((w.alloc X0).alloc X1).heap.size=w.heap.size+1+1∧Below w.heap.size w ((w.alloc X0).alloc X1):=by
 obtain⟨r0,b0,s0⟩:=Yj w X0;obtain⟨r1,b1,s1⟩:=Yj (w.alloc X0) X1;rw [s0] at r1;exact⟨(b1.block _ (by omega)).trans r0,r1,by omega,Za b0 b1 (by omega)⟩
end Go.Proofs.YteddfaconabobaaGreatDoor
