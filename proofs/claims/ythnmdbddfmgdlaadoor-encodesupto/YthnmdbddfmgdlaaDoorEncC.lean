/-
  Encodes: the operand by its contract. Own work of the verifier.
-/
import Derived.Test.YthnmdbddfmgdlaaDoorEncB
import Derived.Deep.RegionLaw
namespace Go.Proofs.YthnmdbddfmgdlaaDoor
open Go.RowKit

def opB (n : Int) : Nat → List UInt8
  | 0 => []
  | c + 1 => byteOf (n / 2 ^ (8 * c)) :: opB n c
theorem opB_len (n : Int) : ∀ c, (opB n c).length = c
  | 0 => rfl
  | c + 1 => by simp [opB, opB_len n c]
def encOp (op n : Int) : Option (List UInt8) := if encWidth op = 1 ∧ n > 255 then none else some (opB n (encWidth op))
theorem step_append_own {P : Program} {ops : Array Oper} {o : Oper} {a : Act} {w : World} {K : Act → World → Prop} {Q : Exit → Act → World → Prop} {E : Prop}
    (hg : o.guard = none) (s x : Operand) (t : TypeId) (ho : o.op = .call { callee := .builtin .append, args := #[s, x], argTypes := #[t, t] })
    (base : Nat) (e : TypeId) (i : TypeInfo) (z : Value) (size bytes : Nat) (ht : P.underlying t = some (.slice e)) (hi : P.info? e = some i) (hz : i.zero = some z)
    (hsize : i.size = size) (hby : i.bytes = bytes) (hzs : z.cells.size = size) (hsz : 0 < size)
    (v : Value) (n : Nat) (xs : List Value) (hs : a.eval s = v) (hown : w.ownsRow base e size v n xs)
    (ad : Addr) (m c : Nat) (news : List Value) (hx : a.eval x = .slice (some ad) m c) (hl : news.length = m * size) (hnews : ∀ j u, news[j]? = some u → w.cell? (ad.add j) = some u) (h1 : ∀ u ∈ news, u.oneCell' = true)
    (h63 : n + m ≤ maxLen) (hbytes : (n + m) * bytes ≤ 140737488355328) (hbase : base ≤ w.heap.size)
    (h : ∀ v' w', w'.ownsRow base e size v' (n + m) (xs ++ news) → w.grownBy w' v.ownBlock → K (a.put o.dst v') w') :
    if Region.wanted o (yielded ops a.tmps) = true then Oper.wp P o a w K Q else E := by
  have hw : Region.wanted o (yielded ops a.tmps) = true := by simp [Region.wanted, hg]
  rw [if_pos hw]
  exact wp_append_own w s x t ho base e i z size bytes ht hi hz hsize hby hzs hsz v n xs hs hown ad m c news hx hl hnews h1 h63 hbytes hbase (fun v' w' h2 h3 _ => h v' w' h2 h3)
theorem wrapU8 (x : Int) : IntKind.u8.wrap x = x % 256 := rfl
theorem wt_grown {w2 : World} {b g2 cap2 : Nat} {v' : Value} {l : List UInt8} {x : UInt8} {y : Int} (hc : w2.cell? ⟨b, 0, none⟩ = some v') (hf : w2.frozen? ⟨b, 0, none⟩ = false) (hown : w2.ownsRow (b + 1) 5 1 (.slice (some ⟨g2, 0, none⟩) (l.length + 1) cap2) (l.length + 1) (bCells l ++ [.int .u8 y])) (hy : (x.toNat : Int) = y) :
    Wt (w2.setCell ⟨b, 0, none⟩ (.slice (some ⟨g2, 0, none⟩) (l.length + 1) cap2)) b (.slice (some ⟨g2, 0, none⟩) (l.length + 1) cap2) (l ++ [x]) := by
  refine ⟨World.cell?_setCell_same _ _ _ hc, by rw [World.frozen?_setCell]; exact hf, ?_⟩
  have h1 := ownsRow_setCell_below hown (a := ⟨b, 0, none⟩) (show b < b + 1 by omega) (.slice (some ⟨g2, 0, none⟩) (l.length + 1) cap2)
  rw [show bCells (l ++ [x]) = bCells l ++ [.int .u8 y] by simp [bCells, hy], show (l ++ [x]).length = l.length + 1 by simp]
  exact h1
theorem ws_grown {w wr w2 : World} {b : Nat} {v' : Value} {n : Nat} {xs : List Value} (h : Ws w wr b) (hb : b < wr.heap.size) (X : Obj) (hr : wr.ownsRow (b + 1) 5 1 v' n xs) (hg : ((wr.drew).alloc X).grownBy w2 v'.ownBlock) (u : Value) : Ws w (w2.setCell ⟨b, 0, none⟩ u) b := by
  have h1 : Ws wr (wr.alloc X) b := ws_alloc wr X b (by omega)
  have hr2 : (wr.drew.alloc X).ownsRow (b + 1) 5 1 v' n xs := World.ownsRow.alloc (w := wr.drew) hr X
  refine h.trans ⟨?_, ?_⟩
  · refine (h1.low.trans ?_).trans (below_set w2 b 0 _)
    exact ⟨hg.os, hg.tape, hg.output, hg.size, fun q hq => hg.block q (by show q < (wr.drew.alloc X).heap.size; have := h1.low.size; have e : (wr.drew.alloc X).heap.size = (wr.alloc X).heap.size := rfl; omega) (by intro e; have := (hr2.lt q e.symm).1; omega)⟩
  · exact (h1.oth.trans (fun k o hk => oth_of_row (b := b) hr2 hg k o hk)).trans (oth_set w2 b 0 _)
set_option maxHeartbeats 4000000 in
set_option maxRecDepth 100000 in
theorem operand8_c (b : Nat) (v : Value) (l : List UInt8) (op n : Int) (w : World) (h : Wt w b v l) (hl : l.length ≤ 99000000000) (hW : encWidth op = 8) :
    Calls Tryd.prog 86 #[.pointer (some ⟨b, 0, none⟩), .int .i64 op, .int .u64 n] w (EncE b l (encOp op n) w) := by
  obtain ⟨ti, hti, hz0, hz1, hz2⟩ := info_partsE Tryd.infoU
  go_enter Tryd.func86, Tryd.ntmps86
  go_wp2_with fail
  refine (widthOf_c _ _).mono ?_
  rintro e w' ⟨rfl, rfl⟩
  rw [hW]
  have HW := hideE h
  clear h
  go_wp2_with fail
  go_loopw [7] (fun j wr => ∃ (z : Int) (v' : Value) (ds : List UInt8), j = .int .i64 z ∧ -1 ≤ z ∧ z ≤ 7 ∧ ds ++ opB n (z + 1).toNat = opB n 8 ∧ Ws w' wr b ∧ Wt wr b v' (l ++ ds)) (fun j _ => (intOf j + 1).toNat)
  case atStart => exact ⟨7, v, [], rfl, by omega, by omega, rfl, Ws.refl _ _, by simpa using unhideE HW⟩
  case round =>
    obtain ⟨z, v', ds, rfl, hz, hz7, hds, hws, hwt⟩ := hrel
    have hbl := hwt.lt
    have hdl : ds.length ≤ 8 := by
      have := congrArg List.length hds
      simp [opB_len] at this
      omega
    have hlen : (l ++ ds).length ≤ 100000000000 := by simp; omega
    have cc := hwt.cell
    have cf := hwt.fz
    by_cases hz0' : 0 ≤ z
    · have hds2 : (ds ++ [byteOf (n / 2 ^ (8 * z.toNat))]) ++ opB n z.toNat = opB n 8 := by
        rw [← hds, show (z + 1).toNat = z.toNat + 1 by omega]
        simp [opB]
      have HDS := hideE hds2
      have HWS := hideE hws
      have HWT := hideE hwt
      have HM := hideE (show ∃ m, m = l ++ ds from ⟨_, rfl⟩)
      clear hds hws hwt hds2
      obtain ⟨m, hm⟩ := unhideE HM
      rw [← hm] at HWT hlen
      have HM2 := hideE hm
      clear hm HM
      have hzs : z = 0 ∨ z = 1 ∨ z = 2 ∨ z = 3 ∨ z = 4 ∨ z = 5 ∨ z = 6 ∨ z = 7 := by omega
      clear hz hz7 hz0'
      rcases hzs with rfl | rfl | rfl | rfl | rfl | rfl | rfl | rfl
      · have eb : ((byteOf (n / 2 ^ (8 * Int.toNat 0))).toNat : Int) = IntKind.u8.wrap n := by
          rw [wrapU8]
          unfold byteOf
          simp
          omega
        have HEB := hideE eb
        have cc2 : (wr.drew.alloc (.cells #[.int .u8 (IntKind.u8.wrap n)] 5)).cell? ⟨b, 0, none⟩ = some v' := (World.cell?_alloc_lt _ _ ⟨b, 0, none⟩ hbl).trans cc
        have cf2 : (wr.drew.alloc (.cells #[.int .u8 (IntKind.u8.wrap n)] 5)).frozen? ⟨b, 0, none⟩ = false := (World.frozen?_alloc_old _ _ ⟨b, 0, none⟩ (by show b ≠ _; exact Nat.ne_of_lt hbl)).trans cf
        clear eb
        have hwr : IntKind.i64.wrap 0 = 0 := by decide
        go_wp2
        go_region_law (refine step_append_own rfl (.tmp 28) (.tmp 34) 91 rfl (b + 1) 5 ti _ 1 1 Tryd.underlying91 hti hz0 hz1 hz2 rfl (by decide) v' m.length (bCells m) (by simp [Act.eval]) (World.ownsRow.alloc (w := wr.drew) (unhideE HWT).row _) ⟨wr.heap.size, 0, none⟩ 1 1 [.int .u8 (IntKind.u8.wrap n)] (by simp [Act.eval]) rfl (by intro j u hj; match j, hj with | 0, hj => simp at hj; subst hj; simp [Addr.add]) (by intro u hu; simp at hu; subst hu; rfl) (by unfold maxLen; omega) (by omega) (by simp; omega) ?_; intro v2 w2 hown hgr; obtain ⟨g2, cap2, rfl⟩ := ownU_form hown; have hblk := hgr.block b (by simp; omega) (by intro e; have := ((World.ownsRow.alloc (w := wr.drew) (unhideE HWT).row (.cells #[.int .u8 (IntKind.u8.wrap n)] 5)).lt b e.symm).1; omega); have cu3 : w2.cell? ⟨b, 0, none⟩ = some v' := (World.cell?_of_block hblk).trans cc2; have cf3 : w2.frozen? ⟨b, 0, none⟩ = false := (World.frozen?_of_block (a := ⟨b, 0, none⟩) hblk).trans cf2; have HOWN := hideE hown; have HGR := hideE hgr; clear hown hgr hblk)
        all_goals go_wp2
        all_goals
          go_roundw
          case rel =>
            refine ⟨-1, .slice (some ⟨g2, 0, none⟩) (m.length + 1) cap2, ds ++ [byteOf (n / 2 ^ (8 * Int.toNat 0))], by first | rfl | go_num, by omega, by omega, unhideE HDS, ws_grown (unhideE HWS) hbl _ (unhideE HWT).row (unhideE HGR) _, ?_⟩
            rw [← List.append_assoc, ← unhideE HM2]
            exact wt_grown cu3 cf3 (unhideE HOWN) (unhideE HEB)
          case measure => simp [intOf]
      · have eb : ((byteOf (n / 2 ^ (8 * Int.toNat 1))).toNat : Int) = IntKind.u8.wrap (n / 256) := by
          rw [wrapU8]
          unfold byteOf
          simp
          omega
        have HEB := hideE eb
        have cc2 : (wr.drew.alloc (.cells #[.int .u8 (IntKind.u8.wrap (n / 256))] 5)).cell? ⟨b, 0, none⟩ = some v' := (World.cell?_alloc_lt _ _ ⟨b, 0, none⟩ hbl).trans cc
        have cf2 : (wr.drew.alloc (.cells #[.int .u8 (IntKind.u8.wrap (n / 256))] 5)).frozen? ⟨b, 0, none⟩ = false := (World.frozen?_alloc_old _ _ ⟨b, 0, none⟩ (by show b ≠ _; exact Nat.ne_of_lt hbl)).trans cf
        clear eb
        have hwr : IntKind.i64.wrap 8 = 8 := by decide
        go_wp2
        go_region_law (refine step_append_own rfl (.tmp 28) (.tmp 34) 91 rfl (b + 1) 5 ti _ 1 1 Tryd.underlying91 hti hz0 hz1 hz2 rfl (by decide) v' m.length (bCells m) (by simp [Act.eval]) (World.ownsRow.alloc (w := wr.drew) (unhideE HWT).row _) ⟨wr.heap.size, 0, none⟩ 1 1 [.int .u8 (IntKind.u8.wrap (n / 256))] (by simp [Act.eval]) rfl (by intro j u hj; match j, hj with | 0, hj => simp at hj; subst hj; simp [Addr.add]) (by intro u hu; simp at hu; subst hu; rfl) (by unfold maxLen; omega) (by omega) (by simp; omega) ?_; intro v2 w2 hown hgr; obtain ⟨g2, cap2, rfl⟩ := ownU_form hown; have hblk := hgr.block b (by simp; omega) (by intro e; have := ((World.ownsRow.alloc (w := wr.drew) (unhideE HWT).row (.cells #[.int .u8 (IntKind.u8.wrap (n / 256))] 5)).lt b e.symm).1; omega); have cu3 : w2.cell? ⟨b, 0, none⟩ = some v' := (World.cell?_of_block hblk).trans cc2; have cf3 : w2.frozen? ⟨b, 0, none⟩ = false := (World.frozen?_of_block (a := ⟨b, 0, none⟩) hblk).trans cf2; have HOWN := hideE hown; have HGR := hideE hgr; clear hown hgr hblk)
        all_goals go_wp2
        all_goals
          go_roundw
          case rel =>
            refine ⟨0, .slice (some ⟨g2, 0, none⟩) (m.length + 1) cap2, ds ++ [byteOf (n / 2 ^ (8 * Int.toNat 1))], by first | rfl | go_num, by omega, by omega, unhideE HDS, ws_grown (unhideE HWS) hbl _ (unhideE HWT).row (unhideE HGR) _, ?_⟩
            rw [← List.append_assoc, ← unhideE HM2]
            exact wt_grown cu3 cf3 (unhideE HOWN) (unhideE HEB)
          case measure => simp [intOf]
      · have eb : ((byteOf (n / 2 ^ (8 * Int.toNat 2))).toNat : Int) = IntKind.u8.wrap (n / 65536) := by
          rw [wrapU8]
          unfold byteOf
          simp
          omega
        have HEB := hideE eb
        have cc2 : (wr.drew.alloc (.cells #[.int .u8 (IntKind.u8.wrap (n / 65536))] 5)).cell? ⟨b, 0, none⟩ = some v' := (World.cell?_alloc_lt _ _ ⟨b, 0, none⟩ hbl).trans cc
        have cf2 : (wr.drew.alloc (.cells #[.int .u8 (IntKind.u8.wrap (n / 65536))] 5)).frozen? ⟨b, 0, none⟩ = false := (World.frozen?_alloc_old _ _ ⟨b, 0, none⟩ (by show b ≠ _; exact Nat.ne_of_lt hbl)).trans cf
        clear eb
        have hwr : IntKind.i64.wrap 16 = 16 := by decide
        go_wp2
        go_region_law (refine step_append_own rfl (.tmp 28) (.tmp 34) 91 rfl (b + 1) 5 ti _ 1 1 Tryd.underlying91 hti hz0 hz1 hz2 rfl (by decide) v' m.length (bCells m) (by simp [Act.eval]) (World.ownsRow.alloc (w := wr.drew) (unhideE HWT).row _) ⟨wr.heap.size, 0, none⟩ 1 1 [.int .u8 (IntKind.u8.wrap (n / 65536))] (by simp [Act.eval]) rfl (by intro j u hj; match j, hj with | 0, hj => simp at hj; subst hj; simp [Addr.add]) (by intro u hu; simp at hu; subst hu; rfl) (by unfold maxLen; omega) (by omega) (by simp; omega) ?_; intro v2 w2 hown hgr; obtain ⟨g2, cap2, rfl⟩ := ownU_form hown; have hblk := hgr.block b (by simp; omega) (by intro e; have := ((World.ownsRow.alloc (w := wr.drew) (unhideE HWT).row (.cells #[.int .u8 (IntKind.u8.wrap (n / 65536))] 5)).lt b e.symm).1; omega); have cu3 : w2.cell? ⟨b, 0, none⟩ = some v' := (World.cell?_of_block hblk).trans cc2; have cf3 : w2.frozen? ⟨b, 0, none⟩ = false := (World.frozen?_of_block (a := ⟨b, 0, none⟩) hblk).trans cf2; have HOWN := hideE hown; have HGR := hideE hgr; clear hown hgr hblk)
        all_goals go_wp2
        all_goals
          go_roundw
          case rel =>
            refine ⟨1, .slice (some ⟨g2, 0, none⟩) (m.length + 1) cap2, ds ++ [byteOf (n / 2 ^ (8 * Int.toNat 2))], by first | rfl | go_num, by omega, by omega, unhideE HDS, ws_grown (unhideE HWS) hbl _ (unhideE HWT).row (unhideE HGR) _, ?_⟩
            rw [← List.append_assoc, ← unhideE HM2]
            exact wt_grown cu3 cf3 (unhideE HOWN) (unhideE HEB)
          case measure => simp [intOf]
      · have eb : ((byteOf (n / 2 ^ (8 * Int.toNat 3))).toNat : Int) = IntKind.u8.wrap (n / 16777216) := by
          rw [wrapU8]
          unfold byteOf
          simp
          omega
        have HEB := hideE eb
        have cc2 : (wr.drew.alloc (.cells #[.int .u8 (IntKind.u8.wrap (n / 16777216))] 5)).cell? ⟨b, 0, none⟩ = some v' := (World.cell?_alloc_lt _ _ ⟨b, 0, none⟩ hbl).trans cc
        have cf2 : (wr.drew.alloc (.cells #[.int .u8 (IntKind.u8.wrap (n / 16777216))] 5)).frozen? ⟨b, 0, none⟩ = false := (World.frozen?_alloc_old _ _ ⟨b, 0, none⟩ (by show b ≠ _; exact Nat.ne_of_lt hbl)).trans cf
        clear eb
        have hwr : IntKind.i64.wrap 24 = 24 := by decide
        go_wp2
        go_region_law (refine step_append_own rfl (.tmp 28) (.tmp 34) 91 rfl (b + 1) 5 ti _ 1 1 Tryd.underlying91 hti hz0 hz1 hz2 rfl (by decide) v' m.length (bCells m) (by simp [Act.eval]) (World.ownsRow.alloc (w := wr.drew) (unhideE HWT).row _) ⟨wr.heap.size, 0, none⟩ 1 1 [.int .u8 (IntKind.u8.wrap (n / 16777216))] (by simp [Act.eval]) rfl (by intro j u hj; match j, hj with | 0, hj => simp at hj; subst hj; simp [Addr.add]) (by intro u hu; simp at hu; subst hu; rfl) (by unfold maxLen; omega) (by omega) (by simp; omega) ?_; intro v2 w2 hown hgr; obtain ⟨g2, cap2, rfl⟩ := ownU_form hown; have hblk := hgr.block b (by simp; omega) (by intro e; have := ((World.ownsRow.alloc (w := wr.drew) (unhideE HWT).row (.cells #[.int .u8 (IntKind.u8.wrap (n / 16777216))] 5)).lt b e.symm).1; omega); have cu3 : w2.cell? ⟨b, 0, none⟩ = some v' := (World.cell?_of_block hblk).trans cc2; have cf3 : w2.frozen? ⟨b, 0, none⟩ = false := (World.frozen?_of_block (a := ⟨b, 0, none⟩) hblk).trans cf2; have HOWN := hideE hown; have HGR := hideE hgr; clear hown hgr hblk)
        all_goals go_wp2
        all_goals
          go_roundw
          case rel =>
            refine ⟨2, .slice (some ⟨g2, 0, none⟩) (m.length + 1) cap2, ds ++ [byteOf (n / 2 ^ (8 * Int.toNat 3))], by first | rfl | go_num, by omega, by omega, unhideE HDS, ws_grown (unhideE HWS) hbl _ (unhideE HWT).row (unhideE HGR) _, ?_⟩
            rw [← List.append_assoc, ← unhideE HM2]
            exact wt_grown cu3 cf3 (unhideE HOWN) (unhideE HEB)
          case measure => simp [intOf]
      · have eb : ((byteOf (n / 2 ^ (8 * Int.toNat 4))).toNat : Int) = IntKind.u8.wrap (n / 4294967296) := by
          rw [wrapU8]
          unfold byteOf
          simp
          omega
        have HEB := hideE eb
        have cc2 : (wr.drew.alloc (.cells #[.int .u8 (IntKind.u8.wrap (n / 4294967296))] 5)).cell? ⟨b, 0, none⟩ = some v' := (World.cell?_alloc_lt _ _ ⟨b, 0, none⟩ hbl).trans cc
        have cf2 : (wr.drew.alloc (.cells #[.int .u8 (IntKind.u8.wrap (n / 4294967296))] 5)).frozen? ⟨b, 0, none⟩ = false := (World.frozen?_alloc_old _ _ ⟨b, 0, none⟩ (by show b ≠ _; exact Nat.ne_of_lt hbl)).trans cf
        clear eb
        have hwr : IntKind.i64.wrap 32 = 32 := by decide
        go_wp2
        go_region_law (refine step_append_own rfl (.tmp 28) (.tmp 34) 91 rfl (b + 1) 5 ti _ 1 1 Tryd.underlying91 hti hz0 hz1 hz2 rfl (by decide) v' m.length (bCells m) (by simp [Act.eval]) (World.ownsRow.alloc (w := wr.drew) (unhideE HWT).row _) ⟨wr.heap.size, 0, none⟩ 1 1 [.int .u8 (IntKind.u8.wrap (n / 4294967296))] (by simp [Act.eval]) rfl (by intro j u hj; match j, hj with | 0, hj => simp at hj; subst hj; simp [Addr.add]) (by intro u hu; simp at hu; subst hu; rfl) (by unfold maxLen; omega) (by omega) (by simp; omega) ?_; intro v2 w2 hown hgr; obtain ⟨g2, cap2, rfl⟩ := ownU_form hown; have hblk := hgr.block b (by simp; omega) (by intro e; have := ((World.ownsRow.alloc (w := wr.drew) (unhideE HWT).row (.cells #[.int .u8 (IntKind.u8.wrap (n / 4294967296))] 5)).lt b e.symm).1; omega); have cu3 : w2.cell? ⟨b, 0, none⟩ = some v' := (World.cell?_of_block hblk).trans cc2; have cf3 : w2.frozen? ⟨b, 0, none⟩ = false := (World.frozen?_of_block (a := ⟨b, 0, none⟩) hblk).trans cf2; have HOWN := hideE hown; have HGR := hideE hgr; clear hown hgr hblk)
        all_goals go_wp2
        all_goals
          go_roundw
          case rel =>
            refine ⟨3, .slice (some ⟨g2, 0, none⟩) (m.length + 1) cap2, ds ++ [byteOf (n / 2 ^ (8 * Int.toNat 4))], by first | rfl | go_num, by omega, by omega, unhideE HDS, ws_grown (unhideE HWS) hbl _ (unhideE HWT).row (unhideE HGR) _, ?_⟩
            rw [← List.append_assoc, ← unhideE HM2]
            exact wt_grown cu3 cf3 (unhideE HOWN) (unhideE HEB)
          case measure => simp [intOf]
      · have eb : ((byteOf (n / 2 ^ (8 * Int.toNat 5))).toNat : Int) = IntKind.u8.wrap (n / 1099511627776) := by
          rw [wrapU8]
          unfold byteOf
          simp
          omega
        have HEB := hideE eb
        have cc2 : (wr.drew.alloc (.cells #[.int .u8 (IntKind.u8.wrap (n / 1099511627776))] 5)).cell? ⟨b, 0, none⟩ = some v' := (World.cell?_alloc_lt _ _ ⟨b, 0, none⟩ hbl).trans cc
        have cf2 : (wr.drew.alloc (.cells #[.int .u8 (IntKind.u8.wrap (n / 1099511627776))] 5)).frozen? ⟨b, 0, none⟩ = false := (World.frozen?_alloc_old _ _ ⟨b, 0, none⟩ (by show b ≠ _; exact Nat.ne_of_lt hbl)).trans cf
        clear eb
        have hwr : IntKind.i64.wrap 40 = 40 := by decide
        go_wp2
        go_region_law (refine step_append_own rfl (.tmp 28) (.tmp 34) 91 rfl (b + 1) 5 ti _ 1 1 Tryd.underlying91 hti hz0 hz1 hz2 rfl (by decide) v' m.length (bCells m) (by simp [Act.eval]) (World.ownsRow.alloc (w := wr.drew) (unhideE HWT).row _) ⟨wr.heap.size, 0, none⟩ 1 1 [.int .u8 (IntKind.u8.wrap (n / 1099511627776))] (by simp [Act.eval]) rfl (by intro j u hj; match j, hj with | 0, hj => simp at hj; subst hj; simp [Addr.add]) (by intro u hu; simp at hu; subst hu; rfl) (by unfold maxLen; omega) (by omega) (by simp; omega) ?_; intro v2 w2 hown hgr; obtain ⟨g2, cap2, rfl⟩ := ownU_form hown; have hblk := hgr.block b (by simp; omega) (by intro e; have := ((World.ownsRow.alloc (w := wr.drew) (unhideE HWT).row (.cells #[.int .u8 (IntKind.u8.wrap (n / 1099511627776))] 5)).lt b e.symm).1; omega); have cu3 : w2.cell? ⟨b, 0, none⟩ = some v' := (World.cell?_of_block hblk).trans cc2; have cf3 : w2.frozen? ⟨b, 0, none⟩ = false := (World.frozen?_of_block (a := ⟨b, 0, none⟩) hblk).trans cf2; have HOWN := hideE hown; have HGR := hideE hgr; clear hown hgr hblk)
        all_goals go_wp2
        all_goals
          go_roundw
          case rel =>
            refine ⟨4, .slice (some ⟨g2, 0, none⟩) (m.length + 1) cap2, ds ++ [byteOf (n / 2 ^ (8 * Int.toNat 5))], by first | rfl | go_num, by omega, by omega, unhideE HDS, ws_grown (unhideE HWS) hbl _ (unhideE HWT).row (unhideE HGR) _, ?_⟩
            rw [← List.append_assoc, ← unhideE HM2]
            exact wt_grown cu3 cf3 (unhideE HOWN) (unhideE HEB)
          case measure => simp [intOf]
      · have eb : ((byteOf (n / 2 ^ (8 * Int.toNat 6))).toNat : Int) = IntKind.u8.wrap (n / 281474976710656) := by
          rw [wrapU8]
          unfold byteOf
          simp
          omega
        have HEB := hideE eb
        have cc2 : (wr.drew.alloc (.cells #[.int .u8 (IntKind.u8.wrap (n / 281474976710656))] 5)).cell? ⟨b, 0, none⟩ = some v' := (World.cell?_alloc_lt _ _ ⟨b, 0, none⟩ hbl).trans cc
        have cf2 : (wr.drew.alloc (.cells #[.int .u8 (IntKind.u8.wrap (n / 281474976710656))] 5)).frozen? ⟨b, 0, none⟩ = false := (World.frozen?_alloc_old _ _ ⟨b, 0, none⟩ (by show b ≠ _; exact Nat.ne_of_lt hbl)).trans cf
        clear eb
        have hwr : IntKind.i64.wrap 48 = 48 := by decide
        go_wp2
        go_region_law (refine step_append_own rfl (.tmp 28) (.tmp 34) 91 rfl (b + 1) 5 ti _ 1 1 Tryd.underlying91 hti hz0 hz1 hz2 rfl (by decide) v' m.length (bCells m) (by simp [Act.eval]) (World.ownsRow.alloc (w := wr.drew) (unhideE HWT).row _) ⟨wr.heap.size, 0, none⟩ 1 1 [.int .u8 (IntKind.u8.wrap (n / 281474976710656))] (by simp [Act.eval]) rfl (by intro j u hj; match j, hj with | 0, hj => simp at hj; subst hj; simp [Addr.add]) (by intro u hu; simp at hu; subst hu; rfl) (by unfold maxLen; omega) (by omega) (by simp; omega) ?_; intro v2 w2 hown hgr; obtain ⟨g2, cap2, rfl⟩ := ownU_form hown; have hblk := hgr.block b (by simp; omega) (by intro e; have := ((World.ownsRow.alloc (w := wr.drew) (unhideE HWT).row (.cells #[.int .u8 (IntKind.u8.wrap (n / 281474976710656))] 5)).lt b e.symm).1; omega); have cu3 : w2.cell? ⟨b, 0, none⟩ = some v' := (World.cell?_of_block hblk).trans cc2; have cf3 : w2.frozen? ⟨b, 0, none⟩ = false := (World.frozen?_of_block (a := ⟨b, 0, none⟩) hblk).trans cf2; have HOWN := hideE hown; have HGR := hideE hgr; clear hown hgr hblk)
        all_goals go_wp2
        all_goals
          go_roundw
          case rel =>
            refine ⟨5, .slice (some ⟨g2, 0, none⟩) (m.length + 1) cap2, ds ++ [byteOf (n / 2 ^ (8 * Int.toNat 6))], by first | rfl | go_num, by omega, by omega, unhideE HDS, ws_grown (unhideE HWS) hbl _ (unhideE HWT).row (unhideE HGR) _, ?_⟩
            rw [← List.append_assoc, ← unhideE HM2]
            exact wt_grown cu3 cf3 (unhideE HOWN) (unhideE HEB)
          case measure => simp [intOf]
      · have eb : ((byteOf (n / 2 ^ (8 * Int.toNat 7))).toNat : Int) = IntKind.u8.wrap (n / 72057594037927936) := by
          rw [wrapU8]
          unfold byteOf
          simp
          omega
        have HEB := hideE eb
        have cc2 : (wr.drew.alloc (.cells #[.int .u8 (IntKind.u8.wrap (n / 72057594037927936))] 5)).cell? ⟨b, 0, none⟩ = some v' := (World.cell?_alloc_lt _ _ ⟨b, 0, none⟩ hbl).trans cc
        have cf2 : (wr.drew.alloc (.cells #[.int .u8 (IntKind.u8.wrap (n / 72057594037927936))] 5)).frozen? ⟨b, 0, none⟩ = false := (World.frozen?_alloc_old _ _ ⟨b, 0, none⟩ (by show b ≠ _; exact Nat.ne_of_lt hbl)).trans cf
        clear eb
        have hwr : IntKind.i64.wrap 56 = 56 := by decide
        go_wp2
        go_region_law (refine step_append_own rfl (.tmp 28) (.tmp 34) 91 rfl (b + 1) 5 ti _ 1 1 Tryd.underlying91 hti hz0 hz1 hz2 rfl (by decide) v' m.length (bCells m) (by simp [Act.eval]) (World.ownsRow.alloc (w := wr.drew) (unhideE HWT).row _) ⟨wr.heap.size, 0, none⟩ 1 1 [.int .u8 (IntKind.u8.wrap (n / 72057594037927936))] (by simp [Act.eval]) rfl (by intro j u hj; match j, hj with | 0, hj => simp at hj; subst hj; simp [Addr.add]) (by intro u hu; simp at hu; subst hu; rfl) (by unfold maxLen; omega) (by omega) (by simp; omega) ?_; intro v2 w2 hown hgr; obtain ⟨g2, cap2, rfl⟩ := ownU_form hown; have hblk := hgr.block b (by simp; omega) (by intro e; have := ((World.ownsRow.alloc (w := wr.drew) (unhideE HWT).row (.cells #[.int .u8 (IntKind.u8.wrap (n / 72057594037927936))] 5)).lt b e.symm).1; omega); have cu3 : w2.cell? ⟨b, 0, none⟩ = some v' := (World.cell?_of_block hblk).trans cc2; have cf3 : w2.frozen? ⟨b, 0, none⟩ = false := (World.frozen?_of_block (a := ⟨b, 0, none⟩) hblk).trans cf2; have HOWN := hideE hown; have HGR := hideE hgr; clear hown hgr hblk)
        all_goals go_wp2
        all_goals
          go_roundw
          case rel =>
            refine ⟨6, .slice (some ⟨g2, 0, none⟩) (m.length + 1) cap2, ds ++ [byteOf (n / 2 ^ (8 * Int.toNat 7))], by first | rfl | go_num, by omega, by omega, unhideE HDS, ws_grown (unhideE HWS) hbl _ (unhideE HWT).row (unhideE HGR) _, ?_⟩
            rw [← List.append_assoc, ← unhideE HM2]
            exact wt_grown cu3 cf3 (unhideE HOWN) (unhideE HEB)
          case measure => simp [intOf]
    · obtain rfl : z = -1 := by omega
      have h1 : ds = opB n 8 := by simpa [opB] using hds
      subst h1
      have HR := hideE (show encOp op n = some (opB n 8) by unfold encOp; rw [hW]; rfl)
      go_wp2
      refine bodyPost_end (results_none (fn := Tryd.f86) rfl _ _ _) rfl ?_
      refine ⟨hws, ?_⟩
      rw [unhideE HR]
      exact ⟨rfl, v', hwt⟩
set_option maxHeartbeats 4000000 in
set_option maxRecDepth 100000 in
theorem operand1_c (b : Nat) (v : Value) (l : List UInt8) (op n : Int) (w : World) (h : Wt w b v l) (hl : l.length ≤ 99000000000) (hW : encWidth op = 1) (h255 : n ≤ 255) :
    Calls Tryd.prog 86 #[.pointer (some ⟨b, 0, none⟩), .int .i64 op, .int .u64 n] w (EncE b l (encOp op n) w) := by
  obtain ⟨ti, hti, hz0, hz1, hz2⟩ := info_partsE Tryd.infoU
  go_enter Tryd.func86, Tryd.ntmps86
  go_wp2_with fail
  refine (widthOf_c _ _).mono ?_
  rintro e w' ⟨rfl, rfl⟩
  rw [hW]
  have HW := hideE h
  clear h
  go_wp2_with fail
  go_loopw [7] (fun j wr => ∃ (z : Int) (v' : Value) (ds : List UInt8), j = .int .i64 z ∧ -1 ≤ z ∧ z ≤ 0 ∧ ds ++ opB n (z + 1).toNat = opB n 1 ∧ Ws w' wr b ∧ Wt wr b v' (l ++ ds)) (fun j _ => (intOf j + 1).toNat)
  case atStart => exact ⟨0, v, [], rfl, by omega, by omega, rfl, Ws.refl _ _, by simpa using unhideE HW⟩
  case round =>
    obtain ⟨z, v', ds, rfl, hz, hz7, hds, hws, hwt⟩ := hrel
    have hbl := hwt.lt
    have hdl : ds.length ≤ 8 := by
      have := congrArg List.length hds
      simp [opB_len] at this
      omega
    have hlen : (l ++ ds).length ≤ 100000000000 := by simp; omega
    have cc := hwt.cell
    have cf := hwt.fz
    by_cases hz0' : 0 ≤ z
    · have hds2 : (ds ++ [byteOf (n / 2 ^ (8 * z.toNat))]) ++ opB n z.toNat = opB n 1 := by
        rw [← hds, show (z + 1).toNat = z.toNat + 1 by omega]
        simp [opB]
      have HDS := hideE hds2
      have HWS := hideE hws
      have HWT := hideE hwt
      have HM := hideE (show ∃ m, m = l ++ ds from ⟨_, rfl⟩)
      clear hds hws hwt hds2
      obtain ⟨m, hm⟩ := unhideE HM
      rw [← hm] at HWT hlen
      have HM2 := hideE hm
      clear hm HM
      have hzs : z = 0 := by omega
      clear hz hz7 hz0'
      subst hzs
      · have eb : ((byteOf (n / 2 ^ (8 * Int.toNat 0))).toNat : Int) = IntKind.u8.wrap n := by
          rw [wrapU8]
          unfold byteOf
          simp
          omega
        have HEB := hideE eb
        have cc2 : (wr.drew.alloc (.cells #[.int .u8 (IntKind.u8.wrap n)] 5)).cell? ⟨b, 0, none⟩ = some v' := (World.cell?_alloc_lt _ _ ⟨b, 0, none⟩ hbl).trans cc
        have cf2 : (wr.drew.alloc (.cells #[.int .u8 (IntKind.u8.wrap n)] 5)).frozen? ⟨b, 0, none⟩ = false := (World.frozen?_alloc_old _ _ ⟨b, 0, none⟩ (by show b ≠ _; exact Nat.ne_of_lt hbl)).trans cf
        clear eb
        have hwr : IntKind.i64.wrap 0 = 0 := by decide
        go_wp2
        go_region_law (refine step_append_own rfl (.tmp 28) (.tmp 34) 91 rfl (b + 1) 5 ti _ 1 1 Tryd.underlying91 hti hz0 hz1 hz2 rfl (by decide) v' m.length (bCells m) (by simp [Act.eval]) (World.ownsRow.alloc (w := wr.drew) (unhideE HWT).row _) ⟨wr.heap.size, 0, none⟩ 1 1 [.int .u8 (IntKind.u8.wrap n)] (by simp [Act.eval]) rfl (by intro j u hj; match j, hj with | 0, hj => simp at hj; subst hj; simp [Addr.add]) (by intro u hu; simp at hu; subst hu; rfl) (by unfold maxLen; omega) (by omega) (by simp; omega) ?_; intro v2 w2 hown hgr; obtain ⟨g2, cap2, rfl⟩ := ownU_form hown; have hblk := hgr.block b (by simp; omega) (by intro e; have := ((World.ownsRow.alloc (w := wr.drew) (unhideE HWT).row (.cells #[.int .u8 (IntKind.u8.wrap n)] 5)).lt b e.symm).1; omega); have cu3 : w2.cell? ⟨b, 0, none⟩ = some v' := (World.cell?_of_block hblk).trans cc2; have cf3 : w2.frozen? ⟨b, 0, none⟩ = false := (World.frozen?_of_block (a := ⟨b, 0, none⟩) hblk).trans cf2; have HOWN := hideE hown; have HGR := hideE hgr; clear hown hgr hblk)
        all_goals go_wp2
        all_goals
          go_roundw
          case rel =>
            refine ⟨-1, .slice (some ⟨g2, 0, none⟩) (m.length + 1) cap2, ds ++ [byteOf (n / 2 ^ (8 * Int.toNat 0))], by first | rfl | go_num, by omega, by omega, unhideE HDS, ws_grown (unhideE HWS) hbl _ (unhideE HWT).row (unhideE HGR) _, ?_⟩
            rw [← List.append_assoc, ← unhideE HM2]
            exact wt_grown cu3 cf3 (unhideE HOWN) (unhideE HEB)
          case measure => simp [intOf]
    · obtain rfl : z = -1 := by omega
      have h1 : ds = opB n 1 := by simpa [opB] using hds
      subst h1
      have HR := hideE (show encOp op n = some (opB n 1) by unfold encOp; rw [hW]; simp; omega)
      go_wp2
      refine bodyPost_end (results_none (fn := Tryd.f86) rfl _ _ _) rfl ?_
      refine ⟨hws, ?_⟩
      rw [unhideE HR]
      exact ⟨rfl, v', hwt⟩
set_option maxRecDepth 100000 in
theorem operand_c (b : Nat) (v : Value) (l : List UInt8) (op n : Int) (w : World) (h : Wt w b v l) (hl : l.length ≤ 99000000000) :
    Calls Tryd.prog 86 #[.pointer (some ⟨b, 0, none⟩), .int .i64 op, .int .u64 n] w (EncE b l (encOp op n) w) := by
  by_cases hW : encWidth op = 1
  · by_cases h255 : n ≤ 255
    · exact operand1_c b v l op n w h hl hW h255
    · have HR := hideE (show encOp op n = none by unfold encOp; rw [if_pos ⟨hW, by omega⟩])
      clear h
      go_enter Tryd.func86, Tryd.ntmps86
      go_wp2_with fail
      refine (widthOf_c _ _).mono ?_
      rintro e w' ⟨rfl, rfl⟩
      rw [hW]
      go_wp2_with fail
      refine (refuse_c _ _).mono ?_
      rintro e w'' ⟨rfl, hw⟩
      subst w''
      refine ⟨rfl, Ws.refl _ _, ?_⟩
      rw [unhideE HR]
  · have h8 : encWidth op = 8 := by unfold encWidth at hW ⊢; split <;> simp_all
    exact operand8_c b v l op n w h hl h8
end Go.Proofs.YthnmdbddfmgdlaaDoor
