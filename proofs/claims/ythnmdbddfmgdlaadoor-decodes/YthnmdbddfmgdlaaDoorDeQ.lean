/-
  Decodes: the statement's spoiling of a list of numbers. Own work of the verifier.
-/
import Derived.Test.YthnmdbddfmgdlaaDoorDecR
import Derived.ArgAppend
namespace Go.Proofs.YthnmdbddfmgdlaaDoor
open Go.RowKit

theorem own_set {w : World} {base n cap g : Nat} {e : TypeId} {xs : List Value} (h : w.ownsRow base e 1 (.slice (some ⟨g, 0, none⟩) n cap) n xs) (i : Nat) (u : Value) : ∃ xs', (w.setCell ⟨g, i, none⟩ u).ownsRow base e 1 (.slice (some ⟨g, 0, none⟩) n cap) n xs' := by
  rcases h.2 with ⟨e1, _⟩ | ⟨g', cap', cur, e1, h2, h3, h4, h5, h6, h7⟩
  · cases e1
  · injection e1 with e1 _ e2
    injection e1 with e1
    injection e1 with e1
    subst e1; subst e2
    refine ⟨(cur.setIfInBounds i u).toList.take (n * 1), ?_, Or.inr ⟨g, cap, cur.setIfInBounds i u, rfl, h2, heap_setCell_same w g i cur e u h3, h4, h5, by simpa using h6, rfl⟩⟩
    simp
    omega
theorem gbD_of_below {w w' : World} {row : Option Nat} (h : Below w.heap.size w w') : w.grownBy w' row := ⟨h.os, h.tape, h.output, h.size, fun k hk _ => h.block k hk⟩
theorem gbD_trans {a c d : World} {row : Option Nat} (h : a.grownBy c row) (k : c.grownBy d row) : a.grownBy d row :=
  ⟨k.os.trans h.os, k.tape.trans h.tape, k.output.trans h.output, Nat.le_trans h.size k.size, fun q h1 h2 => (k.block q (Nat.lt_of_lt_of_le h1 h.size) h2).trans (h.block q h1 h2)⟩
set_option maxRecDepth 100000 in
/-- Two numbers behind a list whose value nobody keeps: the row at hand stays one. -/
theorem spoil_append (w : World) {ops : Array Oper} {rest : List Oper} {o : Oper} {a : Act} {Q : Exit → Act → World → Prop} (hgd : o.guard = none) (s x : Operand) (t : TypeId)
    (ho : o.op = .call { callee := .builtin .append, args := #[s, x], argTypes := #[t, t] }) (B : Nat) (i : TypeInfo) (ht : Tryd.prog.underlying t = some (.slice 3)) (hi : Tryd.prog.info? 3 = some i) (hz : i.zero = some (.int .i64 0)) (hsize : i.size = 1) (hby : i.bytes = 8)
    (va : Option Addr) (vc n : Nat) (xs : List Value) (hs : a.eval s = .slice va n vc) (hown : w.ownsRow B 3 1 (.slice va n vc) n xs)
    (ad : Addr) (c : Nat) (news : List Value) (hx : a.eval x = .slice (some ad) 2 c) (hl : news.length = 2) (hnews : ∀ j u, news[j]? = some u → w.cell? (ad.add j) = some u) (h1 : ∀ u ∈ news, u.oneCell' = true) (hn : n ≤ 1000)
    (h : ∀ v' w', (∃ ys, w'.ownsRow B 3 1 (.slice va n vc) n ys) → w.grownBy w' (Value.slice va n vc).ownBlock → wpList Tryd.prog ops Q rest (a.put o.dst v') w') : wpList Tryd.prog ops Q (o :: rest) a w := by
  by_cases hr : n + 2 ≤ vc
  · obtain ⟨g, rfl⟩ : ∃ g, va = some ⟨g, 0, none⟩ := by
      rcases hown.2 with ⟨e, e0⟩ | ⟨g, cap, cur, e, -⟩
      · injection e with _ _ e; omega
      · injection e with e _ _; exact ⟨g, e⟩
    refine wpList_append_fits w hgd s x t ho B 3 i 1 ht hi hsize g n vc xs hs hown ad 2 c news hx (by omega) hnews h1 hr fun w' h2 h3 => h _ w' ?_ h3
    rcases h2.2 with ⟨e, e0⟩ | ⟨g', cap', cur, e, q2, q3, q4, q5, q6, q7⟩
    · omega
    · injection e with e _ e3
      injection e with e
      injection e with e
      subst e e3
      refine ⟨cur.toList.take (n * 1), ?_, Or.inr ⟨g, vc, cur, rfl, q2, q3, by omega, q5, q6, rfl⟩⟩
      simp
      omega
  · refine wpList_append_grows w hgd s x t ho 3 i _ 1 8 ht hi hz hsize hby rfl (by decide) va n vc xs hs ?_ hown.1 ?_ ad 2 c news hx (by omega) hnews h1 (by omega) (by unfold maxLen; omega) (by omega) fun v' w' _ h3 => h v' w' ⟨xs, hown.kept h3 (by cases (Value.slice va n vc).ownBlock <;> simp)⟩ ⟨h3.os, h3.tape, h3.output, h3.size, fun q h4 _ => h3.block q h4 (by simp)⟩
    · rintro rfl
      rcases hown.2 with ⟨e, e0⟩ | ⟨g, cap, cur, e, -⟩
      · injection e with _ e1 e2; exact ⟨e0, e2⟩
      · cases e
    · rintro b rfl j u hj
      rcases hown.2 with ⟨e, e0⟩ | ⟨g, cap, cur, e, -⟩
      · cases e
      · injection e with e _ _
        injection e with e
        subst e
        exact hown.cells (g := g) rfl j u hj
set_option maxHeartbeats 4000000 in
set_option maxRecDepth 100000 in
theorem spoilInts_s (B n : Nat) (v : Value) (xs : List Value) (w : World) (h : w.ownsRow B 3 1 v n xs) (hn : n ≤ 1000) : Calls Tryd.prog 26 #[v] w fun e w' => (∃ x, e = .returned x) ∧ w.grownBy w' v.ownBlock ∧ ∃ ys, w'.ownsRow B 3 1 v n ys := by
  obtain ⟨ti, hti, hz0, hz1, hz2⟩ := info_partsE Tryd.infoIntD
  have HO := hideE h
  obtain ⟨va, vc, rfl⟩ : ∃ a c, v = .slice a n c := by
    rcases h.2 with ⟨e, e0⟩ | ⟨g, cap, cur, e, -⟩
    · subst e0; exact ⟨_, _, e⟩
    · exact ⟨_, _, e⟩
  clear h
  go_enter Tryd.func26, Tryd.ntmps26
  go_wp2_with fail
  go_loopw [5] (fun j wr => ∃ k : Nat, j = .int .i64 k ∧ k ≤ n ∧ w.grownBy wr (Value.slice va n vc).ownBlock ∧ ∃ ys, wr.ownsRow B 3 1 (.slice va n vc) n ys) (fun j _ => n - (intOf j).toNat)
  case atStart => exact ⟨0, rfl, by omega, ⟨rfl, rfl, rfl, Nat.le_refl _, fun _ _ _ => rfl⟩, xs, unhideE HO⟩
  case round =>
    obtain ⟨k, rfl, hk, hb, ys, hown⟩ := hrel
    by_cases hlt : k < n
    · obtain ⟨g, rfl⟩ : ∃ g, va = some ⟨g, 0, none⟩ := by
        rcases hown.2 with ⟨e, e0⟩ | ⟨g, cap, cur, e, -⟩
        · omega
        · injection e with e _ _; exact ⟨g, e⟩
      have hgl := hown.lt g rfl
      obtain ⟨c0, c1⟩ : (∃ u, wr.cell? ⟨g, k, none⟩ = some u) ∧ wr.frozen? ⟨g, k, none⟩ = false := by
        rcases hown.2 with ⟨e, e0⟩ | ⟨g', cap, cur, e, h2, h3, h4, h5, h6, h7⟩
        · omega
        · injection e with e _ e3
          injection e with e
          injection e with e
          subst e e3
          have hkc : k < cur.size := by omega
          exact ⟨⟨cur[k], by simp [World.cell?, h3, hkc]⟩, by simp [World.frozen?, h3]⟩
      obtain ⟨u, c0⟩ := c0
      obtain ⟨ys', ho2⟩ := own_set hown k (.int .i64 (-9))
      have HO2 := hideE ho2
      have HBL := hideE hb
      clear hb hown ho2
      go_wp2
      go_roundw
      case rel => exact ⟨k + 1, by go_num, by omega, gbD_trans (unhideE HBL) (gb_setB _ _ _ _), ys', unhideE HO2⟩
      case measure => simp [intOf]; omega
    · obtain rfl : k = n := by omega
      have HBL := hideE hb
      have HOW := hideE hown
      have hsz := hb.size
      clear hb hown
      go_wp2_with (at_builtin; refine spoil_append _ rfl _ _ 51 rfl B ti Tryd.underlying51 hti hz0 hz1 hz2 va vc k ys rfl ((unhideE HOW).alloc _) ⟨wr.heap.size, 0, none⟩ 2 [.int .i64 (-9), .int .i64 (-9)] rfl rfl (by intro j u hj; match j, hj with | 0, hj => (simp at hj; subst hj; simp [Addr.add]) | 1, hj => (simp at hj; subst hj; simp [Addr.add])) (by intro u hu; simp at hu; subst hu; rfl) (by omega) ?_)
      intro v' w' ys2 hown' hgr
      have HG := hideE (gbD_trans (unhideE HBL) (gbD_trans (gbD_of_below ((Below.refl wr.heap.size wr).alloc (Nat.le_refl _) _)) hgr))
      have HO3 := hideE (Exists.intro ys2 hown')
      clear hown' hgr
      go_wp2
      go_returns
      exact ⟨⟨_, rfl⟩, unhideE HG, unhideE HO3⟩
end Go.Proofs.YthnmdbddfmgdlaaDoor
