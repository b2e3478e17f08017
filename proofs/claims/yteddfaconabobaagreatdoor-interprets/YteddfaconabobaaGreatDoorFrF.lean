import Derived.Test.YteddfaconabobaaGreatDoorJ16
import Derived.Deep.RegionHeld3
namespace Go.Proofs.YteddfaconabobaaGreatDoor
open Go.RowKit
theorem Zii (w:World)(X0 X1 X2 X3:Obj):((((w.alloc X0).alloc X1).alloc X2).alloc X3).heap[w.heap.size]?=some X0∧((((w.alloc X0).alloc X1).alloc X2).alloc X3).heap[w.heap.size+1]?=some X1∧((((w.alloc X0).alloc X1).alloc X2).alloc X3).heap[w.heap.size+1+1]?=some X2∧((((w.alloc X0).alloc X1).alloc X2).alloc X3).heap[w.heap.size+1+1+1]?=some X3∧((((w.alloc X0).alloc X1).alloc X2).alloc X3).heap.size=w.heap.size+1+1+1+1∧Below w.heap.size w ((((w.alloc X0).alloc X1).alloc X2).alloc X3):=by
 obtain⟨r0,r1,r2,s2,b2⟩:=Zaw w X0 X1 X2;obtain⟨r3,b3,s3⟩:=Yj (((w.alloc X0).alloc X1).alloc X2) X3;rw [s2] at r3;exact⟨(b3.block _ (by omega)).trans r0,(b3.block _ (by omega)).trans r1,(b3.block _ (by omega)).trans r2,r3,by omega,Za b2 b3 (by omega)⟩
end Go.Proofs.YteddfaconabobaaGreatDoor
