/-
  Own work of the verifier: FrSp, ClL, FrZ, FrH, as one text.
-/
import Derived.Test.YtffemeicclhioaaGreatDoorJ20
import Derived.ArgAppend
import Derived.Test.YtffemeicclhioaaGreatDoorJ26
import Derived.Test.YtffemeicclhioaaGreatDoorFrL
import Derived.Test.YtffemeicclhioaaGreatDoorFrG
namespace Go.Proofs.YtffemeicclhioaaGreatDoor
open Go.RowKit

theorem own_setS {w : World} {base n cap g : Nat} {e : TypeId} {xs : List Value} (h : w.ownsRow base e 1 (.slice (some ⟨g, 0, none⟩) n cap) n xs) (i : Nat) (u : Value) : ∃ xs', (w.setCell ⟨g, i, none⟩ u).ownsRow base e 1 (.slice (some ⟨g, 0, none⟩) n cap) n xs' := by
 rcases h.2 with ⟨e1, _⟩ | ⟨g', cap', cur, e1, h2, h3, h4, h5, h6, h7⟩
 ·
  cases e1
 ·
  injection e1 with e1 _ e2
  injection e1 with e1
  injection e1 with e1
  subst e1; subst e2
  refine ⟨(cur.setIfInBounds i u).toList.take (n * 1), ?_, Or.inr ⟨g, cap, cur.setIfInBounds i u, rfl, h2, heap_setCell_same w g i cur e u h3, h4, h5, by simpa using h6, rfl⟩⟩
  simp
  omega
theorem gb_setB (w : World) (b j : Nat) (v : Value) : w.grownBy (w.setCell ⟨b, j, none⟩ v) (some b) := gb_setAt (gb_refl w (some b)) (Or.inr rfl)
theorem gbD_of_below {w w' : World} {row : Option Nat} (h : Below w.heap.size w w') : w.grownBy w' row := ⟨h.os, h.tape, h.output, h.size, fun k hk _ => h.block k hk⟩
theorem gbD_trans {a c d : World} {row : Option Nat} (h : a.grownBy c row) (k : c.grownBy d row) : a.grownBy d row :=
 ⟨k.os.trans h.os, k.tape.trans h.tape, k.output.trans h.output, Nat.le_trans h.size k.size, fun q h1 h2 => (k.block q (Nat.lt_of_lt_of_le h1 h.size) h2).trans (h.block q h1 h2)⟩
set_option maxRecDepth 100000 in
/-- Two numbers behind a list whose value nobody keeps: the row at hand stays one. -/
theorem spoil_append (w : World) {ops : Array Oper} {rest : List Oper} {o : Oper} {a : Act} {Q : Exit → Act → World → Prop} (hgd : o.guard = none) (s x : Operand) (t : TypeId)
 (ho : o.op = .call { callee := .builtin .append, args := #[s, x], argTypes := #[t, t] }) (B : Nat) (i : TypeInfo) (ht : Tryz.prog.underlying t = some (.slice 3)) (hi : Tryz.prog.info? 3 = some i) (hz : i.zero = some (.int .i64 0)) (hsize : i.size = 1) (hby : i.bytes = 8)
 (va : Option Addr) (vc n : Nat) (xs : List Value) (hs : a.eval s = .slice va n vc) (hown : w.ownsRow B 3 1 (.slice va n vc) n xs)
 (ad : Addr) (c : Nat) (news : List Value) (hx : a.eval x = .slice (some ad) 2 c) (hl : news.length = 2) (hnews : ∀ j u, news[j]? = some u → w.cell? (ad.add j) = some u) (h1 : ∀ u ∈ news, u.oneCell' = true) (hn : n ≤ 1000)
 (h : ∀ v' w', (∃ ys, w'.ownsRow B 3 1 (.slice va n vc) n ys) → w.grownBy w' (Value.slice va n vc).ownBlock → wpList Tryz.prog ops Q rest (a.put o.dst v') w') : wpList Tryz.prog ops Q (o :: rest) a w := by
 by_cases hr : n + 2 ≤ vc
 ·
  obtain ⟨g, rfl⟩ : ∃ g, va = some ⟨g, 0, none⟩ := by
   rcases hown.2 with ⟨e, e0⟩ | ⟨g, cap, cur, e, -⟩
   ·
    injection e with _ _ e; omega
   ·
    injection e with e _ _; exact ⟨g, e⟩
  refine wpList_append_fits w hgd s x t ho B 3 i 1 ht hi hsize g n vc xs hs hown ad 2 c news hx (by omega) hnews h1 hr fun w' h2 h3 => h _ w' ?_ h3
  rcases h2.2 with ⟨e, e0⟩ | ⟨g', cap', cur, e, q2, q3, q4, q5, q6, q7⟩
  ·
   omega
  ·
   injection e with e _ e3
   injection e with e
   injection e with e
   subst e e3
   refine ⟨cur.toList.take (n * 1), ?_, Or.inr ⟨g, vc, cur, rfl, q2, q3, by omega, q5, q6, rfl⟩⟩
   simp
   omega
 ·
  refine wpList_append_grows w hgd s x t ho 3 i _ 1 8 ht hi hz hsize hby rfl (by decide) va n vc xs hs ?_ hown.1 ?_ ad 2 c news hx (by omega) hnews h1 (by omega) (by unfold maxLen; omega) (by omega) fun v' w' _ h3 => h v' w' ⟨xs, hown.kept h3 (by cases (Value.slice va n vc).ownBlock <;> simp)⟩ ⟨h3.os, h3.tape, h3.output, h3.size, fun q h4 _ => h3.block q h4 (by simp)⟩
  ·
   rintro rfl
   rcases hown.2 with ⟨e, e0⟩ | ⟨g, cap, cur, e, -⟩
   ·
    injection e with _ e1 e2; exact ⟨e0, e2⟩
   ·
    cases e
  ·
   rintro b rfl j u hj
   rcases hown.2 with ⟨e, e0⟩ | ⟨g, cap, cur, e, -⟩
   ·
    cases e
   ·
    injection e with e _ _
    injection e with e
    subst e
    exact hown.cells (g := g) rfl j u hj
set_option maxHeartbeats 4000000 in
set_option maxRecDepth 100000 in
theorem spoilInts_s (B n : Nat) (v : Value) (xs : List Value) (w : World) (h : w.ownsRow B 3 1 v n xs) (hn : n ≤ 1000) : Calls Tryz.prog 17 #[v] w fun e w' => (∃ x, e = .returned x) ∧ w.grownBy w' v.ownBlock ∧ ∃ ys, w'.ownsRow B 3 1 v n ys := by
 obtain ⟨ti, hti, hz0, hz1, hz2⟩ := info_K Tryz.infoInt
 have HO := Zam h
 obtain ⟨va, vc, rfl⟩ : ∃ a c, v = .slice a n c := by
  rcases h.2 with ⟨e, e0⟩ | ⟨g, cap, cur, e, -⟩
  ·
   subst e0; exact ⟨_, _, e⟩
  ·
   exact ⟨_, _, e⟩
 clear h
 go_enter Tryz.func17, Tryz.ntmps17
 go_wp2_with fail
 go_loopw [5] (fun j wr => ∃ k : Nat, j = .int .i64 k ∧ k ≤ n ∧ w.grownBy wr (Value.slice va n vc).ownBlock ∧ ∃ ys, wr.ownsRow B 3 1 (.slice va n vc) n ys) (fun j _ => n - (intOf j).toNat)
 case atStart => exact ⟨0, rfl, by omega, ⟨rfl, rfl, rfl, Nat.le_refl _, fun _ _ _ => rfl⟩, xs, Zaf HO⟩
 case round =>
  obtain ⟨k, rfl, hk, hb, ys, hown⟩ := hrel
  by_cases hlt : k < n
  ·
   obtain ⟨g, rfl⟩ : ∃ g, va = some ⟨g, 0, none⟩ := by
    rcases hown.2 with ⟨e, e0⟩ | ⟨g, cap, cur, e, -⟩
    ·
     omega
    ·
     injection e with e _ _; exact ⟨g, e⟩
   have hgl := hown.lt g rfl
   obtain ⟨c0, c1⟩ : (∃ u, wr.cell? ⟨g, k, none⟩ = some u) ∧ wr.frozen? ⟨g, k, none⟩ = false := by
    rcases hown.2 with ⟨e, e0⟩ | ⟨g', cap, cur, e, h2, h3, h4, h5, h6, h7⟩
    ·
     omega
    ·
     injection e with e _ e3
     injection e with e
     injection e with e
     subst e e3
     have hkc : k < cur.size := by omega
     exact ⟨⟨cur[k], by simp [World.cell?, h3, hkc]⟩, by simp [World.frozen?, h3]⟩
   obtain ⟨u, c0⟩ := c0
   obtain ⟨ys', ho2⟩ := own_setS hown k (.int .i64 (-9))
   have HO2 := Zam ho2
   have HBL := Zam hb
   clear hb hown ho2
   go_wp2
   go_roundw
   case rel => exact ⟨k + 1, by go_num, by omega, gbD_trans (Zaf HBL) (gb_setB _ _ _ _), ys', Zaf HO2⟩
   case measure => simp [intOf]; omega
  ·
   obtain rfl : k = n := by omega
   have HBL := Zam hb
   have HOW := Zam hown
   have hsz := hb.size
   clear hb hown
   go_wp2_with (at_builtin; refine spoil_append _ rfl _ _ 23 rfl B ti Tryz.underlying23 hti hz0 hz1 hz2 va vc k ys rfl ((Zaf HOW).alloc _) ⟨wr.heap.size, 0, none⟩ 2 [.int .i64 (-9), .int .i64 (-9)] rfl rfl (by intro j u hj; match j, hj with | 0, hj => (simp at hj; subst hj; simp [Addr.add]) | 1, hj => (simp at hj; subst hj; simp [Addr.add])) (by intro u hu; simp at hu; subst hu; rfl) (by omega) ?_)
   intro v' w' ys2 hown' hgr
   have HG := Zam (gbD_trans (Zaf HBL) (gbD_trans (gbD_of_below ((Below.refl wr.heap.size wr).alloc (Nat.le_refl _) _)) hgr))
   have HO3 := Zam (Exists.intro ys2 hown')
   clear hown' hgr
   go_wp2
   go_returns
   exact ⟨⟨_, rfl⟩, Zaf HG, Zaf HO3⟩
end Go.Proofs.YtffemeicclhioaaGreatDoor
namespace Go.Proofs.YtffemeicclhioaaGreatDoor
open Go.RowKit

theorem own_row {w : World} {B e size n : Nat} {v : Value} {xs : List Value} (h : w.ownsRow B e size v n xs) (hn : 0 < n) : ∃ g cap cur, v = .slice (some ⟨g, 0, none⟩) n cap ∧ B ≤ g ∧ w.heap[g]? = some (.cells cur e (0, 0)) ∧ n * size ≤ cur.size ∧ ∀ j, j < n * size → cur[j]? = xs[j]? := by
 rcases h.2 with ⟨-, e0⟩ | ⟨g, cap, cur, e1, h2, h3, h4, -, h6, h7⟩
 ·
  omega
 ·
  refine ⟨g, cap, cur, e1, h2, h3, by rw [h6]; exact Nat.mul_le_mul_right _ h4, fun j hj => ?_⟩
  rw [← h7, List.getElem?_take, if_pos hj]
  simp
/-- What spoiling leaves. -/
structure SpL (B E : Nat) (w w' : World) : Prop where
 os : w'.os = w.os
 tape : w'.tape = w.tape
 output : w'.output = w.output
 size : w.heap.size ≤ w'.heap.size
 oth : ∀ q : Nat, q < w.heap.size → q < B ∨ E ≤ q → w'.heap[q]? = w.heap[q]?
end Go.Proofs.YtffemeicclhioaaGreatDoor
namespace Go.Proofs.YtffemeicclhioaaGreatDoor
open Go.RowKit

/-- Rows but g stay; g stays a row. -/
structure SpK (g m : Nat) (W V : World) : Prop where
 os : V.os = W.os
 tape : V.tape = W.tape
 output : V.output = W.output
 size : V.heap.size = W.heap.size
 oth : ∀ q, q ≠ g → V.heap[q]? = W.heap[q]?
 row : ∃ cs : Array Value, V.heap[g]? = some (.cells cs 56 (0, 0)) ∧ cs.size = m
theorem spK_set {g m : Nat} {W V : World} (h : SpK g m W V) (j : Nat) (v : Value) : SpK g m W (V.setCell ⟨g, j, none⟩ v) := by
 obtain ⟨cs, h1, h2⟩ := h.row
 exact ⟨h.os, h.tape, h.output, by simpa using h.size, fun q hq => (heap_setCell_other _ _ _ _ hq).trans (h.oth q hq), _, heap_setCell_same _ _ j _ _ v h1, by simpa using h2⟩
theorem spK_cell {g m j : Nat} {W V : World} (h : SpK g m W V) (hj : j < m) : (∃ v, V.cell? ⟨g, j, none⟩ = some v) ∧ V.frozen? ⟨g, j, none⟩ = false := by
 obtain ⟨cs, h1, h2⟩ := h.row
 exact ⟨⟨_, (Zab h1 j).trans (Array.getElem?_eq_getElem (by omega))⟩, frozen_of_row _ _ j _ _ h1⟩
set_option maxHeartbeats 4000000 in
set_option maxRecDepth 100000 in
theorem spoilFrame_c (fr : FrmE) (slv kv : Value) (B E : Nat) (w : World) (h : FrO w B fr slv kv) (hE : E ≤ w.heap.size) (hs : ∀ g, slv.ownBlock = some g → g < E) (hk : ∀ g, kv.ownBlock = some g → g < E) (hn : fr.slots.length ≤ 1000) :
 Calls Tryz.prog 8 #[.agg #[.int .i64 fr.out, .int .i64 fr.cop, .int .i64 fr.cells, slv, kv, .int .i64 fr.link, .int .i64 fr.size, .int .i64 fr.in_]] w fun e w' => (∃ v, e = .returned v) ∧ SpL B E w w' := by
 obtain ⟨hsl, hkp⟩ := h
 obtain ⟨p1, c1, rfl⟩ := Zan hsl
 obtain ⟨q1, d1, rfl⟩ := Zan hkp
 have hnK := own_len hkp
 obtain ⟨r0, hB, hZ⟩ := al0 w (.cells #[.int .i64 fr.out, .int .i64 fr.cop, .int .i64 fr.cells, .slice p1 fr.slots.length c1, .slice q1 fr.saves.length d1, .int .i64 fr.link, .int .i64 fr.size, .int .i64 fr.in_] 32 (0, 0))
 have HSB := Zac (fun g (e : (Value.slice p1 fr.slots.length c1).ownBlock = some g) => (World.ownsRow.lt hsl g e).1)
 have HSC := Zac (spoilInts_s B _ _ _ _ (own_gb hsl (gb_ofB (o := none) hB) (fun g _ e => by cases e)) hn)
 have HKP := Zac hkp
 have HR0 := Zac r0
 have HB := Zac hB
 have HS := Zac hs
 have HK := Zac hk
 have HNE := Zac (own_other hkp hsl (by decide))
 clear hsl hkp r0 hB hs hk
 go_enter Tryz.func8, Tryz.ntmps8
 go_wp2_with fail
 generalize World.alloc w _ = W at HSC HR0 HB hZ ⊢
 refine (Zaa HSC).mono ?_
 rintro e w2 ⟨⟨x, rfl⟩, hgr, -⟩
 have hz2 := hgr.size
 have hb : w2.heap[w.heap.size]? = some (.cells #[.int .i64 fr.out, .int .i64 fr.cop, .int .i64 fr.cells, .slice p1 fr.slots.length c1, .slice q1 fr.saves.length d1, .int .i64 fr.link, .int .i64 fr.size, .int .i64 fr.in_] 32 (0, 0)) := (hgr.block w.heap.size (by omega) (fun e => by have := Zaa HS _ e.symm; omega)).trans (Zaa HR0)
 have HRB := Zac hb
 have HOT := Zac (fun (q : Nat) (hq : q < w.heap.size) (hd : q < B ∨ E ≤ q) => show w2.heap[q]? = w.heap[q]? from (hgr.block q (by omega) (fun e => by have h1 := Zaa HS _ e.symm; have h2 := Zaa HSB _ e.symm; omega)).trans ((Zaa HB).block q hq))
 have HOS := Zac (show w2.os = w.os ∧ w2.tape = w.tape ∧ w2.output = w.output from ⟨hgr.os.trans (Zaa HB).os, hgr.tape.trans (Zaa HB).tape, hgr.output.trans (Zaa HB).output⟩)
 have f4 : w2.cell? ⟨w.heap.size, 4, none⟩ = some (.slice q1 fr.saves.length d1) := (Zab hb 4).trans rfl
 have HGR := Zac hgr
 clear hb hgr HSC
 by_cases h0 : 0 < fr.saves.length
 ·
  obtain ⟨g, cap, cur, e1, hg, hrow, hszr, -⟩ := own_row (Zaa HKP) h0
  injection e1 with f1 f2 f3
  subst f1 f3
  have hgE := Zaa HK g rfl
  have hrow2 := ((Zaa HGR).block g (by omega) (fun e => absurd e.symm (Zaa HNE g rfl))).trans (((Zaa HB).block g (row_lt hrow)).trans hrow)
  have HK0 := Zac (show SpK g cur.size w2 w2 from ⟨rfl, rfl, rfl, rfl, fun _ _ => rfl, cur, hrow2, rfl⟩)
  clear f2 hrow hrow2 HKP
  go_wp2
  clear f4
  go_loopw [9] (fun j w' => ∃ (k : Nat), j = .int .i64 k ∧ k ≤ fr.saves.length ∧ SpK g cur.size w2 w') (fun j _ => fr.saves.length - (intOf j).toNat)
  case atStart => exact ⟨0, rfl, by omega, Zaa HK0⟩
  case round =>
   clear HK0
   obtain ⟨k, rfl, hk, hI⟩ := hrel
   by_cases hk2 : k < fr.saves.length
   ·
    obtain ⟨⟨x0, c0⟩, z0⟩ := spK_cell (j := k * 2) hI (by omega)
    obtain ⟨⟨x1, c1⟩, z1⟩ := spK_cell (j := k * 2 + 1) hI (by omega)
    have b4 : wr.cell? ⟨w.heap.size, 4, none⟩ = some (.slice (some ⟨g, 0, none⟩) fr.saves.length d1) := (Zab ((hI.oth w.heap.size (by omega)).trans (Zaa HRB)) 4).trans rfl
    have HX := Zac (spK_set (spK_set hI (k * 2) (.int .i64 (-9))) (k * 2 + 1) (.int .i64 0))
    clear hI
    go_wp2
    go_roundw
    case rel => exact ⟨k + 1, by go_num, by omega, Zaa HX⟩
    case measure => simp [intOf]; omega
   ·
    obtain rfl : k = fr.saves.length := by omega
    have HI := Zac hI
    clear hI
    go_wp2
    go_returns
    have hI := Zaa HI
    have ho := Zaa HOS
    exact ⟨⟨_, rfl⟩, ⟨hI.os.trans ho.1, hI.tape.trans ho.2.1, hI.output.trans ho.2.2, by have := hI.size; omega, fun q hq hd => (hI.oth q (by omega)).trans (Zaa HOT q hq hd)⟩⟩
 ·
  have h00 : fr.saves.length = 0 := by omega
  rw [h00] at f4
  clear h0
  go_wp2
  clear f4
  go_loopw [9] (fun j w' => j = .int .i64 0 ∧ w' = w2) (fun _ _ => 0)
  case atStart => exact ⟨rfl, rfl⟩
  case round =>
   obtain ⟨rfl, hw⟩ := hrel
   subst hw
   go_wp2
   go_returns
   have ho := Zaa HOS
   exact ⟨⟨_, rfl⟩, ⟨ho.1, ho.2.1, ho.2.2, by omega, fun q hq hd => Zaa HOT q hq hd⟩⟩
end Go.Proofs.YtffemeicclhioaaGreatDoor
namespace Go.Proofs.YtffemeicclhioaaGreatDoor
open Go.RowKit

set_option maxHeartbeats 4000000 in
set_option maxRecDepth 100000 in
theorem frames_c (fr : FrmE) (s1 k1 s2 k2 : Value) (B1 B2 : Nat) (w : World) (h1 : w.ownsRow B1 3 1 s1 fr.slots.length (iC fr.slots)) (g1 : w.ownsRow B1 56 2 k1 fr.saves.length (plC fr.saves)) (h2 : w.ownsRow B2 3 1 s2 fr.slots.length (iC fr.slots)) (g2 : w.ownsRow B2 56 2 k2 fr.saves.length (plC fr.saves)) :
 Calls Tryz.prog 6 #[.agg #[.int .i64 fr.out, .int .i64 fr.cop, .int .i64 fr.cells, s1, k1, .int .i64 fr.link, .int .i64 fr.size, .int .i64 fr.in_], .agg #[.int .i64 fr.out, .int .i64 fr.cop, .int .i64 fr.cells, s2, k2, .int .i64 fr.link, .int .i64 fr.size, .int .i64 fr.in_]] w fun e w' => e = .returned (.bool true) ∧ Below w.heap.size w w' := by
 obtain ⟨p1, c1, rfl⟩ := Zan h1
 obtain ⟨p2, c2, rfl⟩ := Zan h2
 obtain ⟨q1, d1, rfl⟩ := Zan g1
 obtain ⟨q2, d2, rfl⟩ := Zan g2
 have hnS := own_len h1
 have hnK := own_len g1
 obtain ⟨r0, r1, hZ, hB⟩ := rows2f w (.cells #[.int .i64 fr.out, .int .i64 fr.cop, .int .i64 fr.cells, .slice p1 fr.slots.length c1, .slice q1 fr.saves.length d1, .int .i64 fr.link, .int .i64 fr.size, .int .i64 fr.in_] 32 (0, 0)) (.cells #[.int .i64 fr.out, .int .i64 fr.cop, .int .i64 fr.cells, .slice p2 fr.slots.length c2, .slice q2 fr.saves.length d2, .int .i64 fr.link, .int .i64 fr.size, .int .i64 fr.in_] 32 (0, 0))
 have b0 : (fr.out != fr.out) = false := by simp
 have b1 : (fr.cop != fr.cop) = false := by simp
 have b2 : (fr.cells != fr.cells) = false := by simp
 have b4 : ((fr.saves.length : Int) != (fr.saves.length : Int)) = false := by simp
 have b5 : (fr.link != fr.link) = false := by simp
 have b6 : (fr.size != fr.size) = false := by simp
 have b7 : (fr.in_ != fr.in_) = false := by simp
 have HL1 := Zac (Li.of_own h1 hnS)
 have HL2 := Zac (Li.of_own h2 hnS)
 have HG1 := Zac g1
 have HG2 := Zac g2
 have HR0 := Zac r0
 have HR1 := Zac r1
 have HB := Zac hB
 clear h1 h2 g1 g2 r0 r1 hB
 go_enter Tryz.func6, Tryz.ntmps6
 go_wp2_with fail
 generalize World.alloc (World.alloc w _) _ = W at HR0 HR1 HB hZ ⊢
 refine (ints_l fr.slots _ _ W ((Zaa HL1).below (Zaa HB)) ((Zaa HL2).below (Zaa HB))).mono ?_
 rintro e w1 ⟨rfl, hb1⟩
 have hz1 := hb1.size
 have HB1 := Zac (Zad (Zaa HB) hb1 (by omega))
 have t0 := (hb1.block w.heap.size (by omega)).trans (Zaa HR0)
 have t1 := (hb1.block (w.heap.size + 1) (by omega)).trans (Zaa HR1)
 have x4 : w1.cell? ⟨w.heap.size, 4, none⟩ = some (.slice q1 fr.saves.length d1) := (Zab t0 4).trans rfl
 have x5 : w1.cell? ⟨w.heap.size, 5, none⟩ = some (.int .i64 fr.link) := (Zab t0 5).trans rfl
 have x6 : w1.cell? ⟨w.heap.size, 6, none⟩ = some (.int .i64 fr.size) := (Zab t0 6).trans rfl
 have x7 : w1.cell? ⟨w.heap.size, 7, none⟩ = some (.int .i64 fr.in_) := (Zab t0 7).trans rfl
 have y4 : w1.cell? ⟨w.heap.size + 1, 4, none⟩ = some (.slice q2 fr.saves.length d2) := (Zab t1 4).trans rfl
 have y5 : w1.cell? ⟨w.heap.size + 1, 5, none⟩ = some (.int .i64 fr.link) := (Zab t1 5).trans rfl
 have y6 : w1.cell? ⟨w.heap.size + 1, 6, none⟩ = some (.int .i64 fr.size) := (Zab t1 6).trans rfl
 have y7 : w1.cell? ⟨w.heap.size + 1, 7, none⟩ = some (.int .i64 fr.in_) := (Zab t1 7).trans rfl
 have HT0 := Zac t0
 have HT1 := Zac t1
 clear t0 t1 hb1 HR0 HR1
 go_wp2
 clear x4 x5 x6 x7 y4 y5 y6 y7
 go_loopw [66] (fun j w' => ∃ (k m : Nat), j = .int .i64 k ∧ k ≤ fr.saves.length ∧ w' = w1.drewN m) (fun j _ => fr.saves.length - (intOf j).toNat)
 case atStart => exact ⟨0, 0, rfl, by omega, rfl⟩
 case round =>
  obtain ⟨k, m, rfl, hk, hw⟩ := hrel
  subst hw
  by_cases hlt : k < fr.saves.length
  ·
   obtain ⟨ga, ca', ea, -, hga, hca⟩ := own_some (Zaa HG1) (by omega)
   obtain ⟨gb, cb', eb, -, hgb, hcb⟩ := own_some (Zaa HG2) (by omega)
   injection ea with e1 e2 e3
   injection eb with e4 e5 e6
   subst e1 e3 e4 e6
   have hw1 := Zaa HB1
   have z1 := (hw1.cell (p := ⟨ga, k * 2, none⟩) hga).trans ((hca (k * 2) (by omega)).trans (plC_get fr.saves k hlt).1)
   have z2 := (hw1.cell (p := ⟨ga, k * 2 + 1, none⟩) hga).trans ((hca (k * 2 + 1) (by omega)).trans (plC_get fr.saves k hlt).2)
   have z3 := (hw1.cell (p := ⟨gb, k * 2, none⟩) hgb).trans ((hcb (k * 2) (by omega)).trans (plC_get fr.saves k hlt).1)
   have z4 := (hw1.cell (p := ⟨gb, k * 2 + 1, none⟩) hgb).trans ((hcb (k * 2 + 1) (by omega)).trans (plC_get fr.saves k hlt).2)
   have x4 : w1.cell? ⟨w.heap.size, 4, none⟩ = some (.slice (some ⟨ga, 0, none⟩) fr.saves.length d1) := (Zab (Zaa HT0) 4).trans rfl
   have y4 : w1.cell? ⟨w.heap.size + 1, 4, none⟩ = some (.slice (some ⟨gb, 0, none⟩) fr.saves.length d2) := (Zab (Zaa HT1) 4).trans rfl
   clear e2 e5 hca hcb hw1
   generalize fr.saves.getD k (0, 0) = y at z1 z2 z3 z4
   obtain ⟨v1, v2⟩ := y
   simp only at z1 z2 z3 z4
   have hy1 : (v1 != v1) = false := by simp
   have hy2 : (v2 != v2) = false := by simp
   go_wp2
   go_quiet (fail)
   go_wp2
   go_roundw
   case rel => exact ⟨k + 1, _, by go_num, by omega, rfl⟩
   case measure => simp [intOf]; omega
  ·
   obtain rfl : k = fr.saves.length := by omega
   go_wp2
   go_ret
   exact ⟨rfl, Zad (Zaa HB1) (Zah (Below.refl _ _) _) (by have := (Zaa HB1).size; omega)⟩
end Go.Proofs.YtffemeicclhioaaGreatDoor
