/-
  The statement's own stack (prologueref.bytes): Store. Own work of the verifier.
-/
import Derived.Test.YtidhncoecfkbfaaDoorStkRef4
import Derived.Maps.AppendAt
namespace Go.Proofs.YtidhncoecfkbfaaDoor
open Go.RowKit Go.Maps

theorem Mem.put {w' : World} {q k : Nat} {m : Nat → Int} {D : DataW Unit} {a j : Nat} {v x : Int} (hx : x = ((a + j : Nat) : Int)) (hD1 : IsMap D) (hD2 : ∀ i : Nat, D.atKey (.int .i64 i) (.lit (.int .u64 0)) = .lit (.int .u64 (upd m a v j i)))
    (hown : w'.ownsMap Tryd.prog 3 (plainElem Tryd.prog 32) q k (D.put (.int .i64 x) (.lit (.int .u64 (byt v j))))) : Mem w' q k (upd m a v (j + 1)) := by
  subst hx
  refine ⟨_, hown, hD1.put _ _, fun i => ?_⟩
  rw [upd_succ]
  by_cases h : i = a + j
  · subst h; rw [if_pos rfl, atKey_put_same (k := .int .i64 ((a + j : Nat) : Int)) hD1 trivial]
  · rw [if_neg h, atKey_put_other (by intro e; cases e; omega)]; exact hD2 i
theorem ne_some {a b : Nat} (h : a ≠ b) : some a ≠ some b := fun e => h (Option.some.inj e)
theorem div_pow (v : Int) (j : Nat) : v / 256 ^ j / 256 = v / 256 ^ (j + 1) := by rw [Int.pow_succ, Int.ediv_ediv_of_nonneg (Int.pow_nonneg (by omega))]

/-- Behind a store into the statement's own stack: the bytes; all other old memory is as it was. -/
structure RStored (w w' : World) (r q n k : Nat) (m : Nat → Int) : Prop where
  size : w.heap.size ≤ w'.heap.size
  ref : Ref w' r q n k m
  low : Below q w w'
  blk : ∀ x, x ≠ q → x < w.heap.size → w'.heap[x]? = w.heap[x]?

set_option maxHeartbeats 1000000 in
theorem rstore_ok {r q n kk : Nat} {m : Nat → Int} (a k : Nat) (v : Int) (w : World) (R : Ref w r q n kk m) (hn : n ≤ 65536) (hkk : kk ≤ 100000000000000) (hv0 : 0 ≤ v) (hv1 : v < 18446744073709551616) (he : lookE n a k = 0) :
    Calls Tryd.prog 13 #[.pointer (some ⟨r, 0, none⟩), .int .i64 a, .int .i64 k, .int .u64 v] w fun e w' => e = .returned (flt 0 (-1) (-1) (-1)) ∧ RStored w w' r q n (kk + k) (upd m a v k) := by
  obtain ⟨a', k', ea, ek, hk1, hk8, hak⟩ := lookE_zero he
  obtain rfl : a = a' := by omega
  obtain rfl : k = k' := by omega
  clear ea ek
  have hrl := lt_of_cell R.c0
  have hql := R.mem.lt
  have hrq := R.ne
  have HR := hide R
  have HE := hide he
  clear R he
  go_enter Tryd.func13, Tryd.ntmps13
  go_wp2_with fail
  refine (rfault_any r n _ _ _ hn ((unhide HR).alloc _).c0).mono ?_
  rw [unhide HE]
  rintro e w2 ⟨rfl, hb⟩
  have hz := hb.size
  simp only [World.size_alloc] at hz
  have R3 := (((unhide HR).alloc (.cells #[.int .i64 0, .int .i64 0, .int .i64 0, .int .i64 0] 29)).below hb (by simp; omega) (by simp; omega)).alloc (.cells #[.int .i64 0, .int .i64 (-1), .int .i64 (-1), .int .i64 (-1)] 29)
  have hB0 : Below w.heap.size w w2 := ((Below.refl w.heap.size w).alloc (Nat.le_refl _) _).trans (hb.mono (by simp))
  have hB3 : Below w.heap.size w (w2.alloc (.cells #[.int .i64 0, .int .i64 (-1), .int .i64 (-1), .int .i64 (-1)] 29)) := hB0.alloc (by omega) _
  have hcr : ∀ o, (w2.alloc (.cells #[.int .i64 0, .int .i64 (-1), .int .i64 (-1), .int .i64 (-1)] 29)).cell? ⟨w.heap.size, o, none⟩ = (w.alloc (.cells #[.int .i64 0, .int .i64 0, .int .i64 0, .int .i64 0] 29)).cell? ⟨w.heap.size, o, none⟩ := fun o => (World.cell?_alloc_lt _ _ ⟨w.heap.size, o, none⟩ (by show w.heap.size < _; omega)).trans (hb.cell (p := ⟨w.heap.size, o, none⟩) (by simp))
  have hfr : ∀ o, (w2.alloc (.cells #[.int .i64 0, .int .i64 (-1), .int .i64 (-1), .int .i64 (-1)] 29)).frozen? ⟨w.heap.size, o, none⟩ = false := fun o => (World.frozen?_alloc_old _ _ ⟨w.heap.size, o, none⟩ (by show w.heap.size ≠ _; omega)).trans ((hb.frozen (p := ⟨w.heap.size, o, none⟩) (by simp)).trans (World.frozen?_alloc_at _ _ _ _ rfl))
  have hcf : ∀ o, (w2.alloc (.cells #[.int .i64 0, .int .i64 (-1), .int .i64 (-1), .int .i64 (-1)] 29)).cell? ⟨w2.heap.size, o, none⟩ = #[Value.int .i64 0, .int .i64 (-1), .int .i64 (-1), .int .i64 (-1)][o]? := fun o => World.cell?_alloc_at _ _ _ _ rfl
  have hsz : (w2.alloc (.cells #[.int .i64 0, .int .i64 (-1), .int .i64 (-1), .int .i64 (-1)] 29)).heap.size = w2.heap.size + 1 := by simp
  have H3 := hide (And.intro R3 (And.intro hB3 (And.intro hcr (And.intro hfr (And.intro hcf hsz)))))
  clear hb hB0 R3 hB3 hcr hfr hcf hsz
  go_wp2_with fail
  generalize w2.alloc (.cells #[.int .i64 0, .int .i64 (-1), .int .i64 (-1), .int .i64 (-1)] 29) = W3 at H3 ⊢
  go_loopw [3, 10] (fun x i wr => ∃ j : Nat, j ≤ k ∧ i = .int .i64 j ∧ x = .int .u64 (v / 256 ^ j) ∧ Mem wr q (kk + j) (upd m a v j) ∧ W3.grownBy wr (some q)) (fun _ i _ => k - (intOf i).toNat)
  case atStart =>
    refine ⟨0, by omega, rfl, by simp, ?_, World.grownBy.refl _ _⟩
    rw [upd_zero]; exact (unhide H3).1.mem
  case round =>
    obtain ⟨j, hj, rfl, rfl, hmem, hgr⟩ := hrel
    obtain ⟨R3, hB3, hcr, hfr, hcf, hsz⟩ := unhide H3
    have hgs := hgr.size
    have hc1 : wr.cell? ⟨r, 1, none⟩ = some (.map (some q)) := hgr.cell R3.c1 (ne_some hrq)
    have hcf0 : wr.cell? ⟨w2.heap.size, 0, none⟩ = some (.int .i64 0) := hgr.cell (hcf 0) (ne_some (by show w2.heap.size ≠ q; omega))
    have hvn : 0 ≤ v / 256 ^ j := Int.ediv_nonneg hv0 (Int.pow_nonneg (by omega))
    have hvu : v / 256 ^ j < 18446744073709551616 := Int.lt_of_le_of_lt (Int.ediv_le_self _ hv0) hv1
    have HDP := hide (div_pow v j)
    have HBY := hide (show v / 256 ^ j % 256 = byt v j from rfl)
    have HBD := hide (byt_bd v j)
    generalize v / 256 ^ j = y at hvn hvu HDP HBY ⊢
    by_cases hlt : j < k
    · obtain ⟨D, hown, hD1, hD2⟩ := hmem
      have HO := hide hown
      have HG := hide hgr
      have HD := hide (And.intro hD1 hD2)
      clear hown hgr hD1 hD2 R3 hB3 hcr hfr hcf
      go_wp2_with (at_mapUpdate; refine wpList_mapUpdate_own _ rfl _ _ _ 68 rfl 3 32 keyLaw Tryd.underlying68 _ q (kk + j) D rfl (unhide HO) (by unfold maxLen; omega) _ _ _ rfl rfl (keyOf_int_mk Tryd.underlying3 (WalkArith.wf_i64 (by omega))) _ [] (plainElem_int Tryd.underlying32 (WalkArith.wf_u64 (by omega))) ?_; intro w1 hown1 hgrow1)
      go_roundw
      case rel =>
        rw [unhide HBY] at hown1
        exact ⟨j + 1, by omega, by go_num, by rw [unhide HDP], Mem.put (by omega) (unhide HD).1 (unhide HD).2 hown1, (unhide HG).trans hgrow1⟩
      case measure => simp [intOf]; omega
    · obtain rfl : j = k := by omega
      have hcr0 : ∀ o, wr.cell? ⟨w.heap.size, o, none⟩ = (w.alloc (.cells #[.int .i64 0, .int .i64 0, .int .i64 0, .int .i64 0] 29)).cell? ⟨w.heap.size, o, none⟩ := fun o => (World.cell?_of_block (hgr.block w.heap.size (by omega) (ne_some (by show _ ≠ q; omega)))).trans (hcr o)
      have hfr0 : ∀ o, wr.frozen? ⟨w.heap.size, o, none⟩ = false := fun o => (World.frozen?_of_block (hgr.block w.heap.size (by omega) (ne_some (by show _ ≠ q; omega)))).trans (hfr o)
      have hcf1 : wr.cell? ⟨w2.heap.size, 1, none⟩ = some (.int .i64 (-1)) := hgr.cell (hcf 1) (ne_some (by show w2.heap.size ≠ q; omega))
      have hcf2 : wr.cell? ⟨w2.heap.size, 2, none⟩ = some (.int .i64 (-1)) := hgr.cell (hcf 2) (ne_some (by show w2.heap.size ≠ q; omega))
      have hcf3 : wr.cell? ⟨w2.heap.size, 3, none⟩ = some (.int .i64 (-1)) := hgr.cell (hcf 3) (ne_some (by show w2.heap.size ≠ q; omega))
      have HG := hide hgr
      have HM := hide hmem
      have HT := hide (And.intro R3 hB3)
      clear hgr hmem R3 hB3 hcr hfr hcf
      go_wp2
      refine bodyPost_ret (v := flt 0 (-1) (-1) (-1)) (by simp [results, Tryd.results13, go_sem, hcr0]) rfl ⟨rfl, ?_⟩
      obtain ⟨R3, hB3⟩ := unhide HT
      have hgr := unhide HG
      have fin : ∀ x : World, (∀ b, b ≠ w.heap.size → x.heap[b]? = wr.heap[b]?) → Below w.heap.size wr x → RStored w x r q n (kk + j) (upd m a v j) := fun x hx hbx => by
        refine ⟨?_, ⟨?_, ?_, (unhide HM).blk (hx q (by omega))⟩, ?_, fun b hb hbs => ?_⟩
        · have := hbx.size; omega
        · exact (World.cell?_of_block (hx r (by omega))).trans (hgr.cell R3.c0 (ne_some hrq))
        · exact (World.cell?_of_block (hx r (by omega))).trans (hgr.cell R3.c1 (ne_some hrq))
        · exact (hB3.mono (by omega)).trans (((Below.refl q W3).grown hgr (by omega) (by intro b e; cases e; exact Nat.le_refl _)).trans (hbx.mono (by omega)))
        · exact (hx b (by omega)).trans ((hgr.block b (by omega) (ne_some hb)).trans (hB3.block b hbs))
      refine fin _ (fun b hb => ?_) ?_
      · repeat rw [Below.heap_setCell _ _ _ _ hb]
      · go_grown

set_option maxHeartbeats 1000000 in
theorem rstore_err {r q n kk : Nat} {m : Nat → Int} (a k v : Int) (w : World) (R : Ref w r q n kk m) (hn : n ≤ 65536) (he : lookE n a k ≠ 0) :
    Calls Tryd.prog 13 #[.pointer (some ⟨r, 0, none⟩), .int .i64 a, .int .i64 k, .int .u64 v] w fun e w' => e = .returned (flt (lookE n a k) (-1) (-1) (-1)) ∧ Below w.heap.size w w' := by
  have hrl := lt_of_cell R.c0
  have HR := hide R
  have hl0 : (lookE n a k == 0) = false := by simp [he]
  generalize hle : lookE n a k = le at hl0 ⊢
  have HE := hide hle
  clear R he hle
  go_enter Tryd.func13, Tryd.ntmps13
  go_wp2_with fail
  refine (rfault_any r n _ _ _ hn ((unhide HR).alloc _).c0).mono ?_
  rw [unhide HE]
  rintro e w2 ⟨rfl, hb⟩
  have hz := hb.size
  simp only [World.size_alloc] at hz
  have hcell0 : ∀ o, w2.cell? ⟨w.heap.size, o, none⟩ = (w.alloc (.cells #[.int .i64 0, .int .i64 0, .int .i64 0, .int .i64 0] 29)).cell? ⟨w.heap.size, o, none⟩ := fun o => hb.cell (p := ⟨w.heap.size, o, none⟩) (by simp)
  have hfroz0 : ∀ o, w2.frozen? ⟨w.heap.size, o, none⟩ = false := fun o => (hb.frozen (p := ⟨w.heap.size, o, none⟩) (by simp)).trans (World.frozen?_alloc_at _ _ _ _ rfl)
  have hcell : ∀ o, (w2.alloc (.cells #[.int .i64 le, .int .i64 (-1), .int .i64 (-1), .int .i64 (-1)] 29)).cell? ⟨w.heap.size, o, none⟩ = (w.alloc (.cells #[.int .i64 0, .int .i64 0, .int .i64 0, .int .i64 0] 29)).cell? ⟨w.heap.size, o, none⟩ := fun o => (World.cell?_alloc_lt _ _ ⟨w.heap.size, o, none⟩ (by show w.heap.size < _; omega)).trans (hcell0 o)
  have hfroz : ∀ o, (w2.alloc (.cells #[.int .i64 le, .int .i64 (-1), .int .i64 (-1), .int .i64 (-1)] 29)).frozen? ⟨w.heap.size, o, none⟩ = false := fun o => (World.frozen?_alloc_old _ _ ⟨w.heap.size, o, none⟩ (by show w.heap.size ≠ _; omega)).trans (hfroz0 o)
  have hB0 : Below w.heap.size w w2 := ((Below.refl w.heap.size w).alloc (Nat.le_refl _) _).trans (hb.mono (by simp))
  have HB := hide hB0
  clear hb hB0 hcell0 hfroz0
  go_wp2_with fail
  refine wp_loop_rounds 1 ?_
  rw [rounds_succ]
  go_wp2
  all_goals
    refine bodyPost_ret (v := flt le (-1) (-1) (-1)) (by simp [results, Tryd.results13, go_sem, hcell]) rfl ⟨rfl, ?_⟩
    have hB0 := unhide HB
    go_grown
end Go.Proofs.YtidhncoecfkbfaaDoor
