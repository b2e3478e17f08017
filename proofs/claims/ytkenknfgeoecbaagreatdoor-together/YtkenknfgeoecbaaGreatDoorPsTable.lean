import Derived.Test.YtkenknfgeoecbaaGreatDoorJ3
import Derived.Laws.CopyOwn
namespace Go.Proofs.YtkenknfgeoecbaaGreatDoor
open Go.RowKit
set_option maxHeartbeats 8000000
set_option maxRecDepth 100000
def OkT (g0 n0 p0 g1 n1 p1 g2 n2 p2 g3 n3 p3 g7 n7 p7 g8 n8 p8 g9 n9 p9:Nat)(x0 x1 x2 x3 y3 x7 x8 x9:Int)(a4 a5 a6:Option Addr)(n4 p4 n5 p5 n6 p6:Nat)(T b:Nat)(pr:Bool)(i:Nat)(v:Value)(w:World):Prop :=
 match i with
 | 0=>v=.pointer (some ⟨T+1,0,none⟩)
 | 1=>v=.slice (some ⟨g0,0,none⟩) (n0+1) p0
 | 2=>v=.pointer (some ⟨g0,0,none⟩)
 | 3=>v=.int .i64 x0
 | 4=>v=.pointer (some ⟨T+1,1,none⟩)
 | 5=>v=.slice (some ⟨g1,0,none⟩) (n1+1) p1
 | 6=>v=.pointer (some ⟨g1,0,none⟩)
 | 7=>v=.int .i64 x1
 | 8=>v=.pointer (some ⟨T+1,2,none⟩)
 | 9=>v=.slice (some ⟨g2,0,none⟩) (n2+1) p2
 | 10=>v=.pointer (some ⟨g2,0,none⟩)
 | 11=>v=.int .i64 x2
 | 12=>v=.pointer (some ⟨T+1,3,none⟩)
 | 13=>v=.slice (some ⟨g3,0,none⟩) (n3+2) p3
 | 14=>v=.pointer (some ⟨g3,0,none⟩)
 | 15=>v=.int .i64 x3
 | 16=>v=.pointer (some ⟨T+1,3,none⟩)
 | 17=>v=.slice (some ⟨g3,0,none⟩) (n3+2) p3
 | 18=>v=.pointer (some ⟨g3,1,none⟩)
 | 19=>v=.int .i64 y3
 | 20=>v=.agg #[.int .i64 x3,.int .i64 y3]
 | 21=>v=.pointer (some ⟨T+1,4,none⟩)
 | 22=>v=.slice a4 n4 p4
 | 23=>v=.pointer (some ⟨T+1,5,none⟩)
 | 24=>v=.slice a5 n5 p5
 | 25=>v=.pointer (some ⟨T+1,6,none⟩)
 | 26=>v=.slice a6 n6 p6
 | 27=>v=.pointer (some ⟨T+1,7,none⟩)
 | 28=>v=.slice (some ⟨g7,0,none⟩) (n7+1) p7
 | 29=>v=.pointer (some ⟨g7,0,none⟩)
 | 30=>v=.int .i64 x7
 | 31=>v=.pointer (some ⟨T+1,8,none⟩)
 | 32=>v=.slice (some ⟨g8,0,none⟩) (n8+1) p8
 | 33=>v=.pointer (some ⟨g8,0,none⟩)
 | 34=>v=.int .i64 x8
 | 35=>v=.pointer (some ⟨T+1,9,none⟩)
 | 36=>v=.slice (some ⟨g9,0,none⟩) (n9+1) p9
 | 37=>v=.pointer (some ⟨g9,0,none⟩)
 | 38=>v=.int .i64 x9
 | 39=>v=.pointer (some ⟨b,0,none⟩)
 | 40=>v=.pointer (some ⟨b,0,none⟩)
 | 41=>v=.pointer (some ⟨b,3,none⟩)
 | 42=>v=.pointer (some ⟨b,13,none⟩)
 | 43=>v=.bool pr
 | 44=>v=.agg #[.int .i64 x0,.int .i64 x1,.int .i64 x2,.int .i64 x3,.int .i64 y3,.slice a4 n4 p4,.slice a5 n5 p5,.slice a6 n6 p6,.int .i64 x7,.int .i64 x8,.int .i64 x9,.bool pr]
 | 45=>w.heap[T]?=some (.cells #[.int .i64 x0,.int .i64 x1,.int .i64 x2,.int .i64 x3,.int .i64 y3,.slice a4 n4 p4,.slice a5 n5 p5,.slice a6 n6 p6,.int .i64 x7,.int .i64 x8,.int .i64 x9,.bool pr] 25 (0,0))
 | _=>True
theorem OkT.stab (g0 n0 p0 g1 n1 p1 g2 n2 p2 g3 n3 p3 g7 n7 p7 g8 n8 p8 g9 n9 p9:Nat)(x0 x1 x2 x3 y3 x7 x8 x9:Int)(a4 a5 a6:Option Addr)(n4 p4 n5 p5 n6 p6:Nat)(T b:Nat)(pr:Bool)(i:Nat)(v:Value)(w w':World)(h:OkT g0 n0 p0 g1 n1 p1 g2 n2 p2 g3 n3 p3 g7 n7 p7 g8 n8 p8 g9 n9 p9 x0 x1 x2 x3 y3 x7 x8 x9 a4 a5 a6 n4 p4 n5 p5 n6 p6 T b pr i v w)(hr:w'=w∨w'.heap[T]?=some (.cells #[.int .i64 x0,.int .i64 x1,.int .i64 x2,.int .i64 x3,.int .i64 y3,.slice a4 n4 p4,.slice a5 n5 p5,.slice a6 n6 p6,.int .i64 x7,.int .i64 x8,.int .i64 x9,.bool pr] 25 (0,0))):OkT g0 n0 p0 g1 n1 p1 g2 n2 p2 g3 n3 p3 g7 n7 p7 g8 n8 p8 g9 n9 p9 x0 x1 x2 x3 y3 x7 x8 x9 a4 a5 a6 n4 p4 n5 p5 n6 p6 T b pr i v w':=by
 rcases hr with rfl | hr
 ·exact h
 ·unfold OkT at *;split at h <;> first | exact h | exact hr
structure Yfw (w0 W:World)(T:Nat)(w:World):Prop where
 same:∀ q,q≠T->w.heap[q]?=W.heap[q]?
 blk:∃ cs,cs.size=12∧w.heap[T]?=some (.cells cs 25 (0,0))
 low:Below T w0 w
theorem Zvt (w:World)(b:Nat)(pr:Bool)(g0 n0 p0 g1 n1 p1 g2 n2 p2 g3 n3 p3 g7 n7 p7 g8 n8 p8 g9 n9 p9:Nat)(x0 x1 x2 x3 y3 x7 x8 x9:Int)(a4 a5 a6 a10:Option Addr)(n4 p4 n5 p5 n6 p6 n10 p10:Nat)
 (c0:w.cell? ⟨b,14,none⟩=some (.slice (some ⟨g0,0,none⟩) (n0+1) p0))
 (c1:w.cell? ⟨b,15,none⟩=some (.slice (some ⟨g1,0,none⟩) (n1+1) p1))
 (c2:w.cell? ⟨b,16,none⟩=some (.slice (some ⟨g2,0,none⟩) (n2+1) p2))
 (c3:w.cell? ⟨b,17,none⟩=some (.slice (some ⟨g3,0,none⟩) (n3+2) p3))
 (c4:w.cell? ⟨b,18,none⟩=some (.slice a4 n4 p4))
 (c5:w.cell? ⟨b,19,none⟩=some (.slice a5 n5 p5))
 (c6:w.cell? ⟨b,20,none⟩=some (.slice a6 n6 p6))
 (c7:w.cell? ⟨b,21,none⟩=some (.slice (some ⟨g7,0,none⟩) (n7+1) p7))
 (c8:w.cell? ⟨b,22,none⟩=some (.slice (some ⟨g8,0,none⟩) (n8+1) p8))
 (c9:w.cell? ⟨b,23,none⟩=some (.slice (some ⟨g9,0,none⟩) (n9+1) p9))
 (c10:w.cell? ⟨b,24,none⟩=some (.slice a10 n10 p10))
 (cs:w.cell? ⟨b,13,none⟩=some (.bool pr))
 (e00:w.cell? ⟨g0,0,none⟩=some (.int .i64 x0))
 (e10:w.cell? ⟨g1,0,none⟩=some (.int .i64 x1))
 (e20:w.cell? ⟨g2,0,none⟩=some (.int .i64 x2))
 (e30:w.cell? ⟨g3,0,none⟩=some (.int .i64 x3))
 (e31:w.cell? ⟨g3,1,none⟩=some (.int .i64 y3))
 (e70:w.cell? ⟨g7,0,none⟩=some (.int .i64 x7))
 (e80:w.cell? ⟨g8,0,none⟩=some (.int .i64 x8))
 (e90:w.cell? ⟨g9,0,none⟩=some (.int .i64 x9))
 : Calls Tryz.prog 71 #[.pointer (some ⟨b,0,none⟩)] w fun e w'=>e=.returned (.agg #[.int .i64 x0,.int .i64 x1,.int .i64 x2,.int .i64 x3,.int .i64 y3,.slice a4 n4 p4,.slice a5 n5 p5,.slice a6 n6 p6,.int .i64 x7,.int .i64 x8,.int .i64 x9,.bool pr])∧Below w.heap.size w w':=by
 have hlb:b<w.heap.size:=World.block_lt_of_cell? w _ cs;go_enter Tryz.func71,Tryz.ntmps71
 go_wp2;generalize hWW:(World.alloc (World.alloc w _) _)=W;have hlow:Below w.heap.size w W:=by rw [← hWW]; exact((Below.refl _ _).alloc (Nat.le_refl _) _).alloc (by simp) _
 have old:∀(q o:Nat) (u:Value),w.cell? ⟨q,o,none⟩=some u->q≠w.heap.size∧W.cell? ⟨q,o,none⟩=some u:=fun q o u hu=>⟨Nat.ne_of_lt (World.block_lt_of_cell? w _ hu),(hlow.cell (p:=⟨q,o,none⟩) (World.block_lt_of_cell? w _ hu)).trans hu⟩;have mk:∀ j,W.cell? ⟨w.heap.size+1,j,none⟩=(#[.slice (some ⟨g0,0,none⟩) (n0+1) p0,.slice (some ⟨g1,0,none⟩) (n1+1) p1,.slice (some ⟨g2,0,none⟩) (n2+1) p2,.slice (some ⟨g3,0,none⟩) (n3+2) p3,.slice a4 n4 p4,.slice a5 n5 p5,.slice a6 n6 p6,.slice (some ⟨g7,0,none⟩) (n7+1) p7,.slice (some ⟨g8,0,none⟩) (n8+1) p8,.slice (some ⟨g9,0,none⟩) (n9+1) p9,.slice a10 n10 p10]:Array Value)[j]?:=fun j=>by rw [← hWW]; exact World.cell?_alloc_at _ _ _ _ (by simp)
 have mb:W.heap[w.heap.size]?=some (.cells #[.int .i64 0,.int .i64 0,.int .i64 0,.int .i64 0,.int .i64 0,.slice none 0 0,.slice none 0 0,.slice none 0 0,.int .i64 0,.int .i64 0,.int .i64 0,.bool false] 25 (0,0)):=by rw [← hWW]; exact(heap_alloc_old _ _ (by simp)).trans (heap_alloc_new w _)
 have m0:w.heap.size+1≠w.heap.size∧W.cell? ⟨w.heap.size+1,0,none⟩=some (.slice (some ⟨g0,0,none⟩) (n0+1) p0):=⟨by omega,mk 0⟩;have m1:w.heap.size+1≠w.heap.size∧W.cell? ⟨w.heap.size+1,1,none⟩=some (.slice (some ⟨g1,0,none⟩) (n1+1) p1):=⟨by omega,mk 1⟩;have m2:w.heap.size+1≠w.heap.size∧W.cell? ⟨w.heap.size+1,2,none⟩=some (.slice (some ⟨g2,0,none⟩) (n2+1) p2):=⟨by omega,mk 2⟩;have m3:w.heap.size+1≠w.heap.size∧W.cell? ⟨w.heap.size+1,3,none⟩=some (.slice (some ⟨g3,0,none⟩) (n3+2) p3):=⟨by omega,mk 3⟩;have m4:w.heap.size+1≠w.heap.size∧W.cell? ⟨w.heap.size+1,4,none⟩=some (.slice a4 n4 p4):=⟨by omega,mk 4⟩;have m5:w.heap.size+1≠w.heap.size∧W.cell? ⟨w.heap.size+1,5,none⟩=some (.slice a5 n5 p5):=⟨by omega,mk 5⟩;have m6:w.heap.size+1≠w.heap.size∧W.cell? ⟨w.heap.size+1,6,none⟩=some (.slice a6 n6 p6):=⟨by omega,mk 6⟩;have m7:w.heap.size+1≠w.heap.size∧W.cell? ⟨w.heap.size+1,7,none⟩=some (.slice (some ⟨g7,0,none⟩) (n7+1) p7):=⟨by omega,mk 7⟩;have m8:w.heap.size+1≠w.heap.size∧W.cell? ⟨w.heap.size+1,8,none⟩=some (.slice (some ⟨g8,0,none⟩) (n8+1) p8):=⟨by omega,mk 8⟩;have m9:w.heap.size+1≠w.heap.size∧W.cell? ⟨w.heap.size+1,9,none⟩=some (.slice (some ⟨g9,0,none⟩) (n9+1) p9):=⟨by omega,mk 9⟩;have m10:w.heap.size+1≠w.heap.size∧W.cell? ⟨w.heap.size+1,10,none⟩=some (.slice a10 n10 p10):=⟨by omega,mk 10⟩
 have oe00:=old _ _ _ e00;have oe10:=old _ _ _ e10;have oe20:=old _ _ _ e20;have oe30:=old _ _ _ e30;have oe31:=old _ _ _ e31;have oe70:=old _ _ _ e70;have oe80:=old _ _ _ e80;have oe90:=old _ _ _ e90;have ocs:=old _ _ _ cs;clear mk old hWW e00 e10 e20 e30 e31 e70 e80 e90 c0 c1 c2 c3 c4 c5 c6 c7 c8 c9 c10 cs;have hTT:w.heap.size<=w.heap.size:=Nat.le_refl _;generalize hT:w.heap.size=T at *;refine Zvi (by kernel_rfl) 8 _ (OkT g0 n0 p0 g1 n1 p1 g2 n2 p2 g3 n3 p3 g7 n7 p7 g8 n8 p8 g9 n9 p9 x0 x1 x2 x3 y3 x7 x8 x9 a4 a5 a6 n4 p4 n5 p5 n6 p6 T b pr) (Yfw w W T) (fun v v'=>v'=v∨(Yfw w W T v'∧v'.heap[T]?=some (.cells #[.int .i64 x0,.int .i64 x1,.int .i64 x2,.int .i64 x3,.int .i64 y3,.slice a4 n4 p4,.slice a5 n5 p5,.slice a6 n6 p6,.int .i64 x7,.int .i64 x8,.int .i64 x9,.bool pr] 25 (0,0)))) ?hd ?hsz ?hle (fun i v u u' h hr=>OkT.stab g0 n0 p0 g1 n1 p1 g2 n2 p2 g3 n3 p3 g7 n7 p7 g8 n8 p8 g9 n9 p9 x0 x1 x2 x3 y3 x7 x8 x9 a4 a5 a6 n4 p4 n5 p5 n6 p6 T b pr i v u u' h (hr.imp id (fun x=>x.2))) (fun u u' hs hr=>hr.elim (fun e=>e ▸ hs) (fun x=>x.1)) ?step ?fin ?hS;case hS=>exact⟨fun q _=>rfl,⟨_,rfl,mb⟩,hlow.drew⟩
 case hd =>
  intro i o ho;have hi:i<46:=(Array.getElem?_eq_some_iff.1 ho).1;match i,hi with
  | 0,_=>obtain rfl:=oR ho; exact⟨Or.inl rfl,rfl⟩
  | 1,_=>obtain rfl:=oR ho; exact⟨Or.inl rfl,rfl⟩
  | 2,_=>obtain rfl:=oR ho; exact⟨Or.inl rfl,rfl⟩
  | 3,_=>obtain rfl:=oR ho; exact⟨Or.inl rfl,rfl⟩
  | 4,_=>obtain rfl:=oR ho; exact⟨Or.inl rfl,rfl⟩
  | 5,_=>obtain rfl:=oR ho; exact⟨Or.inl rfl,rfl⟩
  | 6,_=>obtain rfl:=oR ho; exact⟨Or.inl rfl,rfl⟩
  | 7,_=>obtain rfl:=oR ho; exact⟨Or.inl rfl,rfl⟩
  | 8,_=>obtain rfl:=oR ho; exact⟨Or.inl rfl,rfl⟩
  | 9,_=>obtain rfl:=oR ho; exact⟨Or.inl rfl,rfl⟩
  | 10,_=>obtain rfl:=oR ho; exact⟨Or.inl rfl,rfl⟩
  | 11,_=>obtain rfl:=oR ho; exact⟨Or.inl rfl,rfl⟩
  | 12,_=>obtain rfl:=oR ho; exact⟨Or.inl rfl,rfl⟩
  | 13,_=>obtain rfl:=oR ho; exact⟨Or.inl rfl,rfl⟩
  | 14,_=>obtain rfl:=oR ho; exact⟨Or.inl rfl,rfl⟩
  | 15,_=>obtain rfl:=oR ho; exact⟨Or.inl rfl,rfl⟩
  | 16,_=>obtain rfl:=oR ho; exact⟨Or.inl rfl,rfl⟩
  | 17,_=>obtain rfl:=oR ho; exact⟨Or.inl rfl,rfl⟩
  | 18,_=>obtain rfl:=oR ho; exact⟨Or.inl rfl,rfl⟩
  | 19,_=>obtain rfl:=oR ho; exact⟨Or.inl rfl,rfl⟩
  | 20,_=>obtain rfl:=oR ho; exact⟨Or.inl rfl,rfl⟩
  | 21,_=>obtain rfl:=oR ho; exact⟨Or.inl rfl,rfl⟩
  | 22,_=>obtain rfl:=oR ho; exact⟨Or.inl rfl,rfl⟩
  | 23,_=>obtain rfl:=oR ho; exact⟨Or.inl rfl,rfl⟩
  | 24,_=>obtain rfl:=oR ho; exact⟨Or.inl rfl,rfl⟩
  | 25,_=>obtain rfl:=oR ho; exact⟨Or.inl rfl,rfl⟩
  | 26,_=>obtain rfl:=oR ho; exact⟨Or.inl rfl,rfl⟩
  | 27,_=>obtain rfl:=oR ho; exact⟨Or.inl rfl,rfl⟩
  | 28,_=>obtain rfl:=oR ho; exact⟨Or.inl rfl,rfl⟩
  | 29,_=>obtain rfl:=oR ho; exact⟨Or.inl rfl,rfl⟩
  | 30,_=>obtain rfl:=oR ho; exact⟨Or.inl rfl,rfl⟩
  | 31,_=>obtain rfl:=oR ho; exact⟨Or.inl rfl,rfl⟩
  | 32,_=>obtain rfl:=oR ho; exact⟨Or.inl rfl,rfl⟩
  | 33,_=>obtain rfl:=oR ho; exact⟨Or.inl rfl,rfl⟩
  | 34,_=>obtain rfl:=oR ho; exact⟨Or.inl rfl,rfl⟩
  | 35,_=>obtain rfl:=oR ho; exact⟨Or.inl rfl,rfl⟩
  | 36,_=>obtain rfl:=oR ho; exact⟨Or.inl rfl,rfl⟩
  | 37,_=>obtain rfl:=oR ho; exact⟨Or.inl rfl,rfl⟩
  | 38,_=>obtain rfl:=oR ho; exact⟨Or.inl rfl,rfl⟩
  | 39,_=>obtain rfl:=oR ho; exact⟨Or.inl rfl,rfl⟩
  | 40,_=>obtain rfl:=oR ho; exact⟨Or.inl rfl,rfl⟩
  | 41,_=>obtain rfl:=oR ho; exact⟨Or.inl rfl,rfl⟩
  | 42,_=>obtain rfl:=oR ho; exact⟨Or.inl rfl,rfl⟩
  | 43,_=>obtain rfl:=oR ho; exact⟨Or.inl rfl,rfl⟩
  | 44,_=>obtain rfl:=oR ho; exact⟨Or.inl rfl,rfl⟩
  | 45,_=>obtain rfl:=oR ho; exact⟨Or.inr rfl,rfl⟩
 case hsz =>
  intro i o ho hdo;have hi:i<46:=(Array.getElem?_eq_some_iff.1 ho).1;match i,hi with
  | 0,_=>obtain rfl:=oR ho; show _<53; decide
  | 1,_=>obtain rfl:=oR ho; show _<53; decide
  | 2,_=>obtain rfl:=oR ho; show _<53; decide
  | 3,_=>obtain rfl:=oR ho; show _<53; decide
  | 4,_=>obtain rfl:=oR ho; show _<53; decide
  | 5,_=>obtain rfl:=oR ho; show _<53; decide
  | 6,_=>obtain rfl:=oR ho; show _<53; decide
  | 7,_=>obtain rfl:=oR ho; show _<53; decide
  | 8,_=>obtain rfl:=oR ho; show _<53; decide
  | 9,_=>obtain rfl:=oR ho; show _<53; decide
  | 10,_=>obtain rfl:=oR ho; show _<53; decide
  | 11,_=>obtain rfl:=oR ho; show _<53; decide
  | 12,_=>obtain rfl:=oR ho; show _<53; decide
  | 13,_=>obtain rfl:=oR ho; show _<53; decide
  | 14,_=>obtain rfl:=oR ho; show _<53; decide
  | 15,_=>obtain rfl:=oR ho; show _<53; decide
  | 16,_=>obtain rfl:=oR ho; show _<53; decide
  | 17,_=>obtain rfl:=oR ho; show _<53; decide
  | 18,_=>obtain rfl:=oR ho; show _<53; decide
  | 19,_=>obtain rfl:=oR ho; show _<53; decide
  | 20,_=>obtain rfl:=oR ho; show _<53; decide
  | 21,_=>obtain rfl:=oR ho; show _<53; decide
  | 22,_=>obtain rfl:=oR ho; show _<53; decide
  | 23,_=>obtain rfl:=oR ho; show _<53; decide
  | 24,_=>obtain rfl:=oR ho; show _<53; decide
  | 25,_=>obtain rfl:=oR ho; show _<53; decide
  | 26,_=>obtain rfl:=oR ho; show _<53; decide
  | 27,_=>obtain rfl:=oR ho; show _<53; decide
  | 28,_=>obtain rfl:=oR ho; show _<53; decide
  | 29,_=>obtain rfl:=oR ho; show _<53; decide
  | 30,_=>obtain rfl:=oR ho; show _<53; decide
  | 31,_=>obtain rfl:=oR ho; show _<53; decide
  | 32,_=>obtain rfl:=oR ho; show _<53; decide
  | 33,_=>obtain rfl:=oR ho; show _<53; decide
  | 34,_=>obtain rfl:=oR ho; show _<53; decide
  | 35,_=>obtain rfl:=oR ho; show _<53; decide
  | 36,_=>obtain rfl:=oR ho; show _<53; decide
  | 37,_=>obtain rfl:=oR ho; show _<53; decide
  | 38,_=>obtain rfl:=oR ho; show _<53; decide
  | 39,_=>obtain rfl:=oR ho; show _<53; decide
  | 40,_=>obtain rfl:=oR ho; show _<53; decide
  | 41,_=>obtain rfl:=oR ho; show _<53; decide
  | 42,_=>obtain rfl:=oR ho; show _<53; decide
  | 43,_=>obtain rfl:=oR ho; show _<53; decide
  | 44,_=>obtain rfl:=oR ho; show _<53; decide
  | 45,_=>obtain rfl:=oR ho; cases hdo
 case hle =>
  intro i o ho;have hi:i<46:=(Array.getElem?_eq_some_iff.1 ho).1;match i,hi with
  | 0,_=>obtain rfl:=oR ho; simp
  | 1,_=>obtain rfl:=oR ho; simp
  | 2,_=>obtain rfl:=oR ho; simp
  | 3,_=>obtain rfl:=oR ho; simp
  | 4,_=>obtain rfl:=oR ho; simp
  | 5,_=>obtain rfl:=oR ho; simp
  | 6,_=>obtain rfl:=oR ho; simp
  | 7,_=>obtain rfl:=oR ho; simp
  | 8,_=>obtain rfl:=oR ho; simp
  | 9,_=>obtain rfl:=oR ho; simp
  | 10,_=>obtain rfl:=oR ho; simp
  | 11,_=>obtain rfl:=oR ho; simp
  | 12,_=>obtain rfl:=oR ho; simp
  | 13,_=>obtain rfl:=oR ho; simp
  | 14,_=>obtain rfl:=oR ho; simp
  | 15,_=>obtain rfl:=oR ho; simp
  | 16,_=>obtain rfl:=oR ho; simp
  | 17,_=>obtain rfl:=oR ho; simp
  | 18,_=>obtain rfl:=oR ho; simp
  | 19,_=>obtain rfl:=oR ho; simp
  | 20,_=>obtain rfl:=oR ho; simp
  | 21,_=>obtain rfl:=oR ho; simp
  | 22,_=>obtain rfl:=oR ho; simp
  | 23,_=>obtain rfl:=oR ho; simp
  | 24,_=>obtain rfl:=oR ho; simp
  | 25,_=>obtain rfl:=oR ho; simp
  | 26,_=>obtain rfl:=oR ho; simp
  | 27,_=>obtain rfl:=oR ho; simp
  | 28,_=>obtain rfl:=oR ho; simp
  | 29,_=>obtain rfl:=oR ho; simp
  | 30,_=>obtain rfl:=oR ho; simp
  | 31,_=>obtain rfl:=oR ho; simp
  | 32,_=>obtain rfl:=oR ho; simp
  | 33,_=>obtain rfl:=oR ho; simp
  | 34,_=>obtain rfl:=oR ho; simp
  | 35,_=>obtain rfl:=oR ho; simp
  | 36,_=>obtain rfl:=oR ho; simp
  | 37,_=>obtain rfl:=oR ho; simp
  | 38,_=>obtain rfl:=oR ho; simp
  | 39,_=>obtain rfl:=oR ho; simp
  | 40,_=>obtain rfl:=oR ho; simp
  | 41,_=>obtain rfl:=oR ho; simp
  | 42,_=>obtain rfl:=oR ho; simp
  | 43,_=>obtain rfl:=oR ho; simp
  | 44,_=>obtain rfl:=oR ho; simp
  | 45,_=>obtain rfl:=oR ho; simp
 case step =>
  intro i o ho a u hS hfr hdp;have hi:i<46:=(Array.getElem?_eq_some_iff.1 ho).1;have oc:∀(q j:Nat) (x:Value),(q≠T∧W.cell? ⟨q,j,none⟩=some x)->u.cell? ⟨q,j,none⟩=some x:=fun q j x hx=>(World.cell?_of_block (hS.same q hx.1)).trans hx.2;match i,hi with
  | 0,_=>obtain rfl:=oR ho;have f0:a.eval (.tmp 3)=.pointer (some ⟨T+1,0,none⟩):=hfr 3 (by omega);refine Zy (F:=fun v w'=>_∧_) (v:=.pointer (some ⟨T+1,0,none⟩)) (w':=u) ?_ ⟨Or.inl rfl,rfl⟩;simp [Act.eval] at f0;clear hdp hfr ho oc hS;simp [execOp,f0,go_sem]
  | 1,_=>obtain rfl:=oR ho;have f0:a.eval (.tmp 8)=.pointer (some ⟨T+1,0,none⟩):=hdp ⟨0,.data⟩ (by simp) rfl ⟨_,rfl,rfl⟩;have g:=oc _ _ _ m0;refine Zy (F:=fun v w'=>_∧_) (v:=.slice (some ⟨g0,0,none⟩) (n0+1) p0) (w':=u) ?_ ⟨Or.inl rfl,rfl⟩;simp [Act.eval] at f0;clear hdp hfr ho oc hS;simp [execOp,f0,g,go_sem]
  | 2,_=>obtain rfl:=oR ho;have f0:a.eval (.tmp 9)=.slice (some ⟨g0,0,none⟩) (n0+1) p0:=hdp ⟨1,.data⟩ (by simp) rfl ⟨_,rfl,rfl⟩;refine Zy (F:=fun v w'=>_∧_) (v:=.pointer (some ⟨g0,0,none⟩)) (w':=u) ?_ ⟨Or.inl rfl,rfl⟩;simp [Act.eval] at f0;clear hdp hfr ho oc hS;simp [execOp,f0,go_sem]
  | 3,_=>obtain rfl:=oR ho;have f0:a.eval (.tmp 10)=.pointer (some ⟨g0,0,none⟩):=hdp ⟨2,.data⟩ (by simp) rfl ⟨_,rfl,rfl⟩;have g:=oc _ _ _ oe00;refine Zy (F:=fun v w'=>_∧_) (v:=.int .i64 x0) (w':=u) ?_ ⟨Or.inl rfl,rfl⟩;simp [Act.eval] at f0;clear hdp hfr ho oc hS;simp [execOp,f0,g,go_sem]
  | 4,_=>obtain rfl:=oR ho;have f0:a.eval (.tmp 3)=.pointer (some ⟨T+1,0,none⟩):=hfr 3 (by omega);refine Zy (F:=fun v w'=>_∧_) (v:=.pointer (some ⟨T+1,1,none⟩)) (w':=u) ?_ ⟨Or.inl rfl,rfl⟩;simp [Act.eval] at f0;clear hdp hfr ho oc hS;simp [execOp,f0,go_sem]
  | 5,_=>obtain rfl:=oR ho;have f0:a.eval (.tmp 12)=.pointer (some ⟨T+1,1,none⟩):=hdp ⟨4,.data⟩ (by simp) rfl ⟨_,rfl,rfl⟩;have g:=oc _ _ _ m1;refine Zy (F:=fun v w'=>_∧_) (v:=.slice (some ⟨g1,0,none⟩) (n1+1) p1) (w':=u) ?_ ⟨Or.inl rfl,rfl⟩;simp [Act.eval] at f0;clear hdp hfr ho oc hS;simp [execOp,f0,g,go_sem]
  | 6,_=>obtain rfl:=oR ho;have f0:a.eval (.tmp 13)=.slice (some ⟨g1,0,none⟩) (n1+1) p1:=hdp ⟨5,.data⟩ (by simp) rfl ⟨_,rfl,rfl⟩;refine Zy (F:=fun v w'=>_∧_) (v:=.pointer (some ⟨g1,0,none⟩)) (w':=u) ?_ ⟨Or.inl rfl,rfl⟩;simp [Act.eval] at f0;clear hdp hfr ho oc hS;simp [execOp,f0,go_sem]
  | 7,_=>obtain rfl:=oR ho;have f0:a.eval (.tmp 14)=.pointer (some ⟨g1,0,none⟩):=hdp ⟨6,.data⟩ (by simp) rfl ⟨_,rfl,rfl⟩;have g:=oc _ _ _ oe10;refine Zy (F:=fun v w'=>_∧_) (v:=.int .i64 x1) (w':=u) ?_ ⟨Or.inl rfl,rfl⟩;simp [Act.eval] at f0;clear hdp hfr ho oc hS;simp [execOp,f0,g,go_sem]
  | 8,_=>obtain rfl:=oR ho;have f0:a.eval (.tmp 3)=.pointer (some ⟨T+1,0,none⟩):=hfr 3 (by omega);refine Zy (F:=fun v w'=>_∧_) (v:=.pointer (some ⟨T+1,2,none⟩)) (w':=u) ?_ ⟨Or.inl rfl,rfl⟩;simp [Act.eval] at f0;clear hdp hfr ho oc hS;simp [execOp,f0,go_sem]
  | 9,_=>obtain rfl:=oR ho;have f0:a.eval (.tmp 16)=.pointer (some ⟨T+1,2,none⟩):=hdp ⟨8,.data⟩ (by simp) rfl ⟨_,rfl,rfl⟩;have g:=oc _ _ _ m2;refine Zy (F:=fun v w'=>_∧_) (v:=.slice (some ⟨g2,0,none⟩) (n2+1) p2) (w':=u) ?_ ⟨Or.inl rfl,rfl⟩;simp [Act.eval] at f0;clear hdp hfr ho oc hS;simp [execOp,f0,g,go_sem]
  | 10,_=>obtain rfl:=oR ho;have f0:a.eval (.tmp 17)=.slice (some ⟨g2,0,none⟩) (n2+1) p2:=hdp ⟨9,.data⟩ (by simp) rfl ⟨_,rfl,rfl⟩;refine Zy (F:=fun v w'=>_∧_) (v:=.pointer (some ⟨g2,0,none⟩)) (w':=u) ?_ ⟨Or.inl rfl,rfl⟩;simp [Act.eval] at f0;clear hdp hfr ho oc hS;simp [execOp,f0,go_sem]
  | 11,_=>obtain rfl:=oR ho;have f0:a.eval (.tmp 18)=.pointer (some ⟨g2,0,none⟩):=hdp ⟨10,.data⟩ (by simp) rfl ⟨_,rfl,rfl⟩;have g:=oc _ _ _ oe20;refine Zy (F:=fun v w'=>_∧_) (v:=.int .i64 x2) (w':=u) ?_ ⟨Or.inl rfl,rfl⟩;simp [Act.eval] at f0;clear hdp hfr ho oc hS;simp [execOp,f0,g,go_sem]
  | 12,_=>obtain rfl:=oR ho;have f0:a.eval (.tmp 3)=.pointer (some ⟨T+1,0,none⟩):=hfr 3 (by omega);refine Zy (F:=fun v w'=>_∧_) (v:=.pointer (some ⟨T+1,3,none⟩)) (w':=u) ?_ ⟨Or.inl rfl,rfl⟩;simp [Act.eval] at f0;clear hdp hfr ho oc hS;simp [execOp,f0,go_sem]
  | 13,_=>obtain rfl:=oR ho;have f0:a.eval (.tmp 20)=.pointer (some ⟨T+1,3,none⟩):=hdp ⟨12,.data⟩ (by simp) rfl ⟨_,rfl,rfl⟩;have g:=oc _ _ _ m3;refine Zy (F:=fun v w'=>_∧_) (v:=.slice (some ⟨g3,0,none⟩) (n3+2) p3) (w':=u) ?_ ⟨Or.inl rfl,rfl⟩;simp [Act.eval] at f0;clear hdp hfr ho oc hS;simp [execOp,f0,g,go_sem]
  | 14,_=>obtain rfl:=oR ho;have f0:a.eval (.tmp 21)=.slice (some ⟨g3,0,none⟩) (n3+2) p3:=hdp ⟨13,.data⟩ (by simp) rfl ⟨_,rfl,rfl⟩;refine Zy (F:=fun v w'=>_∧_) (v:=.pointer (some ⟨g3,0,none⟩)) (w':=u) ?_ ⟨Or.inl rfl,rfl⟩;simp [Act.eval] at f0;clear hdp hfr ho oc hS;simp [execOp,f0,go_sem];try omega
  | 15,_=>obtain rfl:=oR ho;have f0:a.eval (.tmp 22)=.pointer (some ⟨g3,0,none⟩):=hdp ⟨14,.data⟩ (by simp) rfl ⟨_,rfl,rfl⟩;have g:=oc _ _ _ oe30;refine Zy (F:=fun v w'=>_∧_) (v:=.int .i64 x3) (w':=u) ?_ ⟨Or.inl rfl,rfl⟩;simp [Act.eval] at f0;clear hdp hfr ho oc hS;simp [execOp,f0,g,go_sem]
  | 16,_=>obtain rfl:=oR ho;have f0:a.eval (.tmp 3)=.pointer (some ⟨T+1,0,none⟩):=hfr 3 (by omega);refine Zy (F:=fun v w'=>_∧_) (v:=.pointer (some ⟨T+1,3,none⟩)) (w':=u) ?_ ⟨Or.inl rfl,rfl⟩;simp [Act.eval] at f0;clear hdp hfr ho oc hS;simp [execOp,f0,go_sem]
  | 17,_=>obtain rfl:=oR ho;have f0:a.eval (.tmp 24)=.pointer (some ⟨T+1,3,none⟩):=hdp ⟨16,.data⟩ (by simp) rfl ⟨_,rfl,rfl⟩;have g:=oc _ _ _ m3;refine Zy (F:=fun v w'=>_∧_) (v:=.slice (some ⟨g3,0,none⟩) (n3+2) p3) (w':=u) ?_ ⟨Or.inl rfl,rfl⟩;simp [Act.eval] at f0;clear hdp hfr ho oc hS;simp [execOp,f0,g,go_sem]
  | 18,_=>obtain rfl:=oR ho;have f0:a.eval (.tmp 25)=.slice (some ⟨g3,0,none⟩) (n3+2) p3:=hdp ⟨17,.data⟩ (by simp) rfl ⟨_,rfl,rfl⟩;refine Zy (F:=fun v w'=>_∧_) (v:=.pointer (some ⟨g3,1,none⟩)) (w':=u) ?_ ⟨Or.inl rfl,rfl⟩;simp [Act.eval] at f0;clear hdp hfr ho oc hS;simp [execOp,f0,go_sem];try omega
  | 19,_=>obtain rfl:=oR ho;have f0:a.eval (.tmp 26)=.pointer (some ⟨g3,1,none⟩):=hdp ⟨18,.data⟩ (by simp) rfl ⟨_,rfl,rfl⟩;have g:=oc _ _ _ oe31;refine Zy (F:=fun v w'=>_∧_) (v:=.int .i64 y3) (w':=u) ?_ ⟨Or.inl rfl,rfl⟩;simp [Act.eval] at f0;clear hdp hfr ho oc hS;simp [execOp,f0,g,go_sem]
  | 20,_=>obtain rfl:=oR ho;have f0:a.eval (.tmp 23)=.int .i64 x3:=hdp ⟨15,.data⟩ (by simp) rfl ⟨_,rfl,rfl⟩;have f1:a.eval (.tmp 27)=.int .i64 y3:=hdp ⟨19,.data⟩ (by simp) rfl ⟨_,rfl,rfl⟩;refine Zy (F:=fun v w'=>_∧_) (v:=.agg #[.int .i64 x3,.int .i64 y3]) (w':=u) ?_ ⟨Or.inl rfl,rfl⟩;simp [Act.eval] at f0 f1;clear hdp hfr ho oc hS;simp [execOp,f0,f1,go_sem]
  | 21,_=>obtain rfl:=oR ho;have f0:a.eval (.tmp 3)=.pointer (some ⟨T+1,0,none⟩):=hfr 3 (by omega);refine Zy (F:=fun v w'=>_∧_) (v:=.pointer (some ⟨T+1,4,none⟩)) (w':=u) ?_ ⟨Or.inl rfl,rfl⟩;simp [Act.eval] at f0;clear hdp hfr ho oc hS;simp [execOp,f0,go_sem]
  | 22,_=>obtain rfl:=oR ho;have f0:a.eval (.tmp 29)=.pointer (some ⟨T+1,4,none⟩):=hdp ⟨21,.data⟩ (by simp) rfl ⟨_,rfl,rfl⟩;have g:=oc _ _ _ m4;refine Zy (F:=fun v w'=>_∧_) (v:=.slice a4 n4 p4) (w':=u) ?_ ⟨Or.inl rfl,rfl⟩;simp [Act.eval] at f0;clear hdp hfr ho oc hS;simp [execOp,f0,g,go_sem]
  | 23,_=>obtain rfl:=oR ho;have f0:a.eval (.tmp 3)=.pointer (some ⟨T+1,0,none⟩):=hfr 3 (by omega);refine Zy (F:=fun v w'=>_∧_) (v:=.pointer (some ⟨T+1,5,none⟩)) (w':=u) ?_ ⟨Or.inl rfl,rfl⟩;simp [Act.eval] at f0;clear hdp hfr ho oc hS;simp [execOp,f0,go_sem]
  | 24,_=>obtain rfl:=oR ho;have f0:a.eval (.tmp 31)=.pointer (some ⟨T+1,5,none⟩):=hdp ⟨23,.data⟩ (by simp) rfl ⟨_,rfl,rfl⟩;have g:=oc _ _ _ m5;refine Zy (F:=fun v w'=>_∧_) (v:=.slice a5 n5 p5) (w':=u) ?_ ⟨Or.inl rfl,rfl⟩;simp [Act.eval] at f0;clear hdp hfr ho oc hS;simp [execOp,f0,g,go_sem]
  | 25,_=>obtain rfl:=oR ho;have f0:a.eval (.tmp 3)=.pointer (some ⟨T+1,0,none⟩):=hfr 3 (by omega);refine Zy (F:=fun v w'=>_∧_) (v:=.pointer (some ⟨T+1,6,none⟩)) (w':=u) ?_ ⟨Or.inl rfl,rfl⟩;simp [Act.eval] at f0;clear hdp hfr ho oc hS;simp [execOp,f0,go_sem]
  | 26,_=>obtain rfl:=oR ho;have f0:a.eval (.tmp 33)=.pointer (some ⟨T+1,6,none⟩):=hdp ⟨25,.data⟩ (by simp) rfl ⟨_,rfl,rfl⟩;have g:=oc _ _ _ m6;refine Zy (F:=fun v w'=>_∧_) (v:=.slice a6 n6 p6) (w':=u) ?_ ⟨Or.inl rfl,rfl⟩;simp [Act.eval] at f0;clear hdp hfr ho oc hS;simp [execOp,f0,g,go_sem]
  | 27,_=>obtain rfl:=oR ho;have f0:a.eval (.tmp 3)=.pointer (some ⟨T+1,0,none⟩):=hfr 3 (by omega);refine Zy (F:=fun v w'=>_∧_) (v:=.pointer (some ⟨T+1,7,none⟩)) (w':=u) ?_ ⟨Or.inl rfl,rfl⟩;simp [Act.eval] at f0;clear hdp hfr ho oc hS;simp [execOp,f0,go_sem]
  | 28,_=>obtain rfl:=oR ho;have f0:a.eval (.tmp 35)=.pointer (some ⟨T+1,7,none⟩):=hdp ⟨27,.data⟩ (by simp) rfl ⟨_,rfl,rfl⟩;have g:=oc _ _ _ m7;refine Zy (F:=fun v w'=>_∧_) (v:=.slice (some ⟨g7,0,none⟩) (n7+1) p7) (w':=u) ?_ ⟨Or.inl rfl,rfl⟩;simp [Act.eval] at f0;clear hdp hfr ho oc hS;simp [execOp,f0,g,go_sem]
  | 29,_=>obtain rfl:=oR ho;have f0:a.eval (.tmp 36)=.slice (some ⟨g7,0,none⟩) (n7+1) p7:=hdp ⟨28,.data⟩ (by simp) rfl ⟨_,rfl,rfl⟩;refine Zy (F:=fun v w'=>_∧_) (v:=.pointer (some ⟨g7,0,none⟩)) (w':=u) ?_ ⟨Or.inl rfl,rfl⟩;simp [Act.eval] at f0;clear hdp hfr ho oc hS;simp [execOp,f0,go_sem]
  | 30,_=>obtain rfl:=oR ho;have f0:a.eval (.tmp 37)=.pointer (some ⟨g7,0,none⟩):=hdp ⟨29,.data⟩ (by simp) rfl ⟨_,rfl,rfl⟩;have g:=oc _ _ _ oe70;refine Zy (F:=fun v w'=>_∧_) (v:=.int .i64 x7) (w':=u) ?_ ⟨Or.inl rfl,rfl⟩;simp [Act.eval] at f0;clear hdp hfr ho oc hS;simp [execOp,f0,g,go_sem]
  | 31,_=>obtain rfl:=oR ho;have f0:a.eval (.tmp 3)=.pointer (some ⟨T+1,0,none⟩):=hfr 3 (by omega);refine Zy (F:=fun v w'=>_∧_) (v:=.pointer (some ⟨T+1,8,none⟩)) (w':=u) ?_ ⟨Or.inl rfl,rfl⟩;simp [Act.eval] at f0;clear hdp hfr ho oc hS;simp [execOp,f0,go_sem]
  | 32,_=>obtain rfl:=oR ho;have f0:a.eval (.tmp 39)=.pointer (some ⟨T+1,8,none⟩):=hdp ⟨31,.data⟩ (by simp) rfl ⟨_,rfl,rfl⟩;have g:=oc _ _ _ m8;refine Zy (F:=fun v w'=>_∧_) (v:=.slice (some ⟨g8,0,none⟩) (n8+1) p8) (w':=u) ?_ ⟨Or.inl rfl,rfl⟩;simp [Act.eval] at f0;clear hdp hfr ho oc hS;simp [execOp,f0,g,go_sem]
  | 33,_=>obtain rfl:=oR ho;have f0:a.eval (.tmp 40)=.slice (some ⟨g8,0,none⟩) (n8+1) p8:=hdp ⟨32,.data⟩ (by simp) rfl ⟨_,rfl,rfl⟩;refine Zy (F:=fun v w'=>_∧_) (v:=.pointer (some ⟨g8,0,none⟩)) (w':=u) ?_ ⟨Or.inl rfl,rfl⟩;simp [Act.eval] at f0;clear hdp hfr ho oc hS;simp [execOp,f0,go_sem]
  | 34,_=>obtain rfl:=oR ho;have f0:a.eval (.tmp 41)=.pointer (some ⟨g8,0,none⟩):=hdp ⟨33,.data⟩ (by simp) rfl ⟨_,rfl,rfl⟩;have g:=oc _ _ _ oe80;refine Zy (F:=fun v w'=>_∧_) (v:=.int .i64 x8) (w':=u) ?_ ⟨Or.inl rfl,rfl⟩;simp [Act.eval] at f0;clear hdp hfr ho oc hS;simp [execOp,f0,g,go_sem]
  | 35,_=>obtain rfl:=oR ho;have f0:a.eval (.tmp 3)=.pointer (some ⟨T+1,0,none⟩):=hfr 3 (by omega);refine Zy (F:=fun v w'=>_∧_) (v:=.pointer (some ⟨T+1,9,none⟩)) (w':=u) ?_ ⟨Or.inl rfl,rfl⟩;simp [Act.eval] at f0;clear hdp hfr ho oc hS;simp [execOp,f0,go_sem]
  | 36,_=>obtain rfl:=oR ho;have f0:a.eval (.tmp 43)=.pointer (some ⟨T+1,9,none⟩):=hdp ⟨35,.data⟩ (by simp) rfl ⟨_,rfl,rfl⟩;have g:=oc _ _ _ m9;refine Zy (F:=fun v w'=>_∧_) (v:=.slice (some ⟨g9,0,none⟩) (n9+1) p9) (w':=u) ?_ ⟨Or.inl rfl,rfl⟩;simp [Act.eval] at f0;clear hdp hfr ho oc hS;simp [execOp,f0,g,go_sem]
  | 37,_=>obtain rfl:=oR ho;have f0:a.eval (.tmp 44)=.slice (some ⟨g9,0,none⟩) (n9+1) p9:=hdp ⟨36,.data⟩ (by simp) rfl ⟨_,rfl,rfl⟩;refine Zy (F:=fun v w'=>_∧_) (v:=.pointer (some ⟨g9,0,none⟩)) (w':=u) ?_ ⟨Or.inl rfl,rfl⟩;simp [Act.eval] at f0;clear hdp hfr ho oc hS;simp [execOp,f0,go_sem]
  | 38,_=>obtain rfl:=oR ho;have f0:a.eval (.tmp 45)=.pointer (some ⟨g9,0,none⟩):=hdp ⟨37,.data⟩ (by simp) rfl ⟨_,rfl,rfl⟩;have g:=oc _ _ _ oe90;refine Zy (F:=fun v w'=>_∧_) (v:=.int .i64 x9) (w':=u) ?_ ⟨Or.inl rfl,rfl⟩;simp [Act.eval] at f0;clear hdp hfr ho oc hS;simp [execOp,f0,g,go_sem]
  | 39,_=>obtain rfl:=oR ho;have f0:a.eval (.tmp 0)=.pointer (some ⟨b,0,none⟩):=hfr 0 (by omega);refine Zy (F:=fun v w'=>_∧_) (v:=.pointer (some ⟨b,0,none⟩)) (w':=u) ?_ ⟨Or.inl rfl,rfl⟩;simp [Act.eval] at f0;clear hdp hfr ho oc hS;simp [execOp,f0,go_sem]
  | 40,_=>obtain rfl:=oR ho;have f0:a.eval (.tmp 47)=.pointer (some ⟨b,0,none⟩):=hdp ⟨39,.data⟩ (by simp) rfl ⟨_,rfl,rfl⟩;refine Zy (F:=fun v w'=>_∧_) (v:=.pointer (some ⟨b,0,none⟩)) (w':=u) ?_ ⟨Or.inl rfl,rfl⟩;simp [Act.eval] at f0;clear hdp hfr ho oc hS;simp [execOp,f0,go_sem]
  | 41,_=>obtain rfl:=oR ho;have f0:a.eval (.tmp 48)=.pointer (some ⟨b,0,none⟩):=hdp ⟨40,.data⟩ (by simp) rfl ⟨_,rfl,rfl⟩;refine Zy (F:=fun v w'=>_∧_) (v:=.pointer (some ⟨b,3,none⟩)) (w':=u) ?_ ⟨Or.inl rfl,rfl⟩;simp [Act.eval] at f0;clear hdp hfr ho oc hS;simp [execOp,f0,go_sem]
  | 42,_=>obtain rfl:=oR ho;have f0:a.eval (.tmp 49)=.pointer (some ⟨b,3,none⟩):=hdp ⟨41,.data⟩ (by simp) rfl ⟨_,rfl,rfl⟩;refine Zy (F:=fun v w'=>_∧_) (v:=.pointer (some ⟨b,13,none⟩)) (w':=u) ?_ ⟨Or.inl rfl,rfl⟩;simp [Act.eval] at f0;clear hdp hfr ho oc hS;simp [execOp,f0,go_sem]
  | 43,_=>obtain rfl:=oR ho;have f0:a.eval (.tmp 50)=.pointer (some ⟨b,13,none⟩):=hdp ⟨42,.data⟩ (by simp) rfl ⟨_,rfl,rfl⟩;have g:=oc _ _ _ ocs;refine Zy (F:=fun v w'=>_∧_) (v:=.bool pr) (w':=u) ?_ ⟨Or.inl rfl,rfl⟩;simp [Act.eval] at f0;clear hdp hfr ho oc hS;simp [execOp,f0,g,go_sem]
  | 44,_=>obtain rfl:=oR ho;have f0:a.eval (.tmp 11)=.int .i64 x0:=hdp ⟨3,.data⟩ (by simp) rfl ⟨_,rfl,rfl⟩;have f1:a.eval (.tmp 15)=.int .i64 x1:=hdp ⟨7,.data⟩ (by simp) rfl ⟨_,rfl,rfl⟩;have f2:a.eval (.tmp 19)=.int .i64 x2:=hdp ⟨11,.data⟩ (by simp) rfl ⟨_,rfl,rfl⟩;have f3:a.eval (.tmp 28)=.agg #[.int .i64 x3,.int .i64 y3]:=hdp ⟨20,.data⟩ (by simp) rfl ⟨_,rfl,rfl⟩;have f4:a.eval (.tmp 30)=.slice a4 n4 p4:=hdp ⟨22,.data⟩ (by simp) rfl ⟨_,rfl,rfl⟩;have f5:a.eval (.tmp 32)=.slice a5 n5 p5:=hdp ⟨24,.data⟩ (by simp) rfl ⟨_,rfl,rfl⟩;have f6:a.eval (.tmp 34)=.slice a6 n6 p6:=hdp ⟨26,.data⟩ (by simp) rfl ⟨_,rfl,rfl⟩;have f7:a.eval (.tmp 38)=.int .i64 x7:=hdp ⟨30,.data⟩ (by simp) rfl ⟨_,rfl,rfl⟩;have f8:a.eval (.tmp 42)=.int .i64 x8:=hdp ⟨34,.data⟩ (by simp) rfl ⟨_,rfl,rfl⟩;have f9:a.eval (.tmp 46)=.int .i64 x9:=hdp ⟨38,.data⟩ (by simp) rfl ⟨_,rfl,rfl⟩;have f10:a.eval (.tmp 51)=.bool pr:=hdp ⟨43,.data⟩ (by simp) rfl ⟨_,rfl,rfl⟩;refine Zy (F:=fun v w'=>_∧_) (v:=.agg #[.int .i64 x0,.int .i64 x1,.int .i64 x2,.int .i64 x3,.int .i64 y3,.slice a4 n4 p4,.slice a5 n5 p5,.slice a6 n6 p6,.int .i64 x7,.int .i64 x8,.int .i64 x9,.bool pr]) (w':=u) ?_ ⟨Or.inl rfl,rfl⟩;simp [Act.eval] at f0 f1 f2 f3 f4 f5 f6 f7 f8 f9 f10;clear hdp hfr ho oc hS;simp [execOp,f0,f1,f2,f3,f4,f5,f6,f7,f8,f9,f10,go_sem]
  | 45,_=>obtain rfl:=oR ho;have f0:a.eval (.tmp 52)=.agg #[.int .i64 x0,.int .i64 x1,.int .i64 x2,.int .i64 x3,.int .i64 y3,.slice a4 n4 p4,.slice a5 n5 p5,.slice a6 n6 p6,.int .i64 x7,.int .i64 x8,.int .i64 x9,.bool pr]:=hdp ⟨44,.data⟩ (by simp) rfl ⟨_,rfl,rfl⟩;have f1:a.eval (.tmp 2)=.pointer (some ⟨T,0,none⟩):=hfr 2 (by omega);obtain⟨cs,hcs,hblk⟩:=hS.blk;have hrun:=Zrk (P:=Tryz.prog) u T 25 cs #[.int .i64 x0,.int .i64 x1,.int .i64 x2,.int .i64 x3,.int .i64 y3,.slice a4 n4 p4,.slice a5 n5 p5,.slice a6 n6 p6,.int .i64 x7,.int .i64 x8,.int .i64 x9,.bool pr] (Tryz.sizeOf25 u) hcs hblk (by intro v hv; simp at hv; rcases hv with rfl | rfl | rfl | rfl | rfl | rfl | rfl | rfl | rfl | rfl | rfl | rfl <;> rfl);refine Ydr (F:=fun v w'=>_∧_) (w':=u.setRow T #[.int .i64 x0,.int .i64 x1,.int .i64 x2,.int .i64 x3,.int .i64 y3,.slice a4 n4 p4,.slice a5 n5 p5,.slice a6 n6 p6,.int .i64 x7,.int .i64 x8,.int .i64 x9,.bool pr]) ?_ ⟨Or.inr ⟨⟨fun q hq=>(setRow_other u T q _ hq).trans (hS.same q hq),⟨_,rfl,setRow_heap u T cs _ _ _ hblk⟩,below_setRow hS.low (Nat.le_refl _) _⟩,setRow_heap u T cs _ _ _ hblk⟩,setRow_heap u T cs _ _ _ hblk⟩;clear hdp hfr ho;simp [execOp,f0,f1,hrun]
 case fin =>
  intro a u hS hdf hts hout hok hno;have hres:u.heap[T]?=some (.cells #[.int .i64 x0,.int .i64 x1,.int .i64 x2,.int .i64 x3,.int .i64 y3,.slice a4 n4 p4,.slice a5 n5 p5,.slice a6 n6 p6,.int .i64 x7,.int .i64 x8,.int .i64 x9,.bool pr] 25 (0,0)):=(hno 45 _ rfl rfl).2.elim fun _ h=>h;have ha:=Yab a _ 8 ((List.range 45).map fun j=>a.eval (.tmp (8+j))) hdf hts (by show 8+45<=53; omega) (fun t ht=>by
   have ht':t<8∨53<=t:=by simpa using ht
   rcases Nat.lt_or_ge t 54 with h | h
   ·rcases ht' with h' | h'
    ·exact hout t (Or.inl h')
    ·obtain rfl:t=53:=by omega
     exact(hno 45 _ rfl rfl).1
   ·exact hout t (Or.inr h)) (fun i hi=>by
   have hi':i<45:=by simpa using hi
   simp [List.getD,hi'])
  have HL:=hS.low;clear hS hok hno hout;rw [show((List.range 45).map fun j=>a.eval (.tmp (8+j)))=[a.eval (.tmp 8),a.eval (.tmp 9),a.eval (.tmp 10),a.eval (.tmp 11),a.eval (.tmp 12),a.eval (.tmp 13),a.eval (.tmp 14),a.eval (.tmp 15),a.eval (.tmp 16),a.eval (.tmp 17),a.eval (.tmp 18),a.eval (.tmp 19),a.eval (.tmp 20),a.eval (.tmp 21),a.eval (.tmp 22),a.eval (.tmp 23),a.eval (.tmp 24),a.eval (.tmp 25),a.eval (.tmp 26),a.eval (.tmp 27),a.eval (.tmp 28),a.eval (.tmp 29),a.eval (.tmp 30),a.eval (.tmp 31),a.eval (.tmp 32),a.eval (.tmp 33),a.eval (.tmp 34),a.eval (.tmp 35),a.eval (.tmp 36),a.eval (.tmp 37),a.eval (.tmp 38),a.eval (.tmp 39),a.eval (.tmp 40),a.eval (.tmp 41),a.eval (.tmp 42),a.eval (.tmp 43),a.eval (.tmp 44),a.eval (.tmp 45),a.eval (.tmp 46),a.eval (.tmp 47),a.eval (.tmp 48),a.eval (.tmp 49),a.eval (.tmp 50),a.eval (.tmp 51),a.eval (.tmp 52)] from rfl] at ha;rw [ha];clear ha;go_wp2;refine bodyPost_ret (results_cell_row rfl _ u T 25 _ (0,0) _ rfl hres Tryz.underlying25 rfl (by kernel_rfl)) rfl ?_;exact⟨rfl,hT ▸ HL⟩
end Go.Proofs.YtkenknfgeoecbaaGreatDoor
