/-
  plain.NewStack, (*plain.Stack).Load, Store by contracts. Own work of the verifier.
-/
import Derived.Test.YtobempobmokkcaaDoorStkUp
namespace Go.Proofs.YtobempobmokkcaaDoor
open Go.RowKit

theorem Stk.alloc {w : World} {b c d n : Nat} {m : Nat → Int} (h : Stk w b c d n m) (o : Obj) (h1 : b < w.heap.size) (h2 : c < w.heap.size) (h3 : d < w.heap.size) : Stk (w.alloc o) b c d n m :=
  h.below ((Below.refl _ _).alloc (Nat.le_refl _) o) h1 h2 h3

set_option maxHeartbeats 400000 in
theorem load_ok {b c d n : Nat} {m : Nat → Int} (a k : Nat) (w : World) (S : Stk w b c d n m) (h1 : b < w.heap.size) (h2 : c < w.heap.size) (h3 : d < w.heap.size) (he : lookE n a k = 0) :
    Calls Tryd.prog 6 #[.pointer (some ⟨b, 0, none⟩), .int .i64 a, .int .i64 k] w fun e w' => e = .returned (.tuple #[.int .u64 (ldv m a k), flt 0 (-1) (-1) (-1)]) ∧ Below w.heap.size w w' := by
  obtain ⟨a', k', ea, ek, hk1, hk8, hak⟩ := lookE_zero he
  obtain rfl : a = a' := by omega
  obtain rfl : k = k' := by omega
  clear ea ek
  have HS := hide S
  have HE := hide he
  have hc1 := S.c1
  clear S he
  go_enter Tryd.func6, Tryd.ntmps6
  go_wp2_with fail
  have S1 := hide ((unhide HS).alloc (.cells #[.int .i64 0, .int .i64 0, .int .i64 0, .int .i64 0] 26) h1 h2 h3)
  refine (pload_ok c d n m a k _ (unhide S1).le hk8 hak (unhide HE) (unhide S1).mb (unhide S1).c3 (unhide S1).c2).mono ?_
  rintro e w' ⟨rfl, rfl⟩
  go_wp2_with fail
  refine (fault_nil _).mono ?_
  rintro e w2 ⟨rfl, hb⟩
  have hB0 : Below w.heap.size w w2 := ((Below.refl w.heap.size w).alloc (Nat.le_refl _) _).trans (hb.mono (by simp))
  obtain ⟨hcell, hfroz⟩ := bcell hb
  have hz := hb.size
  simp only [World.size_alloc] at hcell hfroz hz
  have HB := hide hB0
  clear hb hB0
  go_wp2_with fail
  refine bodyPost_ret (v := .tuple #[.int .u64 (ldv m a k), flt 0 (-1) (-1) (-1)]) (by simp [results, Tryd.results6, go_sem, hcell]) rfl ⟨rfl, ?_⟩
  have hB0 := unhide HB
  go_grown

set_option maxHeartbeats 400000 in
theorem load_err {b c d n : Nat} {m : Nat → Int} (a k : Int) (w : World) (S : Stk w b c d n m) (h1 : b < w.heap.size) (h2 : c < w.heap.size) (h3 : d < w.heap.size) (he : lookE n a k ≠ 0) (hg : ErrTy w) :
    Calls Tryd.prog 6 #[.pointer (some ⟨b, 0, none⟩), .int .i64 a, .int .i64 k] w fun e w' => e = .returned (.tuple #[.int .u64 0, flt (lookE n a k) (-1) (-1) (-1)]) ∧ Below w.heap.size w w' := by
  have HS := hide S
  have HE := hide he
  have HG := hide hg
  have hc1 := S.c1
  have hv : errV (lookE n a k) = .iface 50 (.int .i64 (lookE n a k)) := by simp [errV, he]
  have HV := hide hv
  clear S he hg hv
  go_enter Tryd.func6, Tryd.ntmps6
  go_wp2_with fail
  have S1 := hide ((unhide HS).alloc (.cells #[.int .i64 0, .int .i64 0, .int .i64 0, .int .i64 0] 26) h1 h2 h3)
  refine (pload_err c d n a k _ (unhide S1).le (unhide HE) (unhide S1).c2).mono ?_
  rw [unhide HV]
  rintro e w' ⟨rfl, rfl⟩
  go_wp2_with fail
  refine (fault_errno _ _ ((unhide HG).alloc _)).mono ?_
  rintro e w2 ⟨rfl, hb⟩
  have hB0 : Below w.heap.size w w2 := ((Below.refl w.heap.size w).alloc (Nat.le_refl _) _).trans (hb.mono (by simp))
  obtain ⟨hcell, hfroz⟩ := bcell hb
  have hz := hb.size
  simp only [World.size_alloc] at hcell hfroz hz
  have HB := hide hB0
  clear hb hB0
  go_wp2_with fail
  refine bodyPost_ret (v := .tuple #[.int .u64 0, flt (lookE n a k) (-1) (-1) (-1)]) (by simp [results, Tryd.results6, go_sem, hcell]) rfl ⟨rfl, ?_⟩
  have hB0 := unhide HB
  go_grown

set_option maxHeartbeats 400000 in
theorem store_err {b c d n : Nat} {m : Nat → Int} (a k v : Int) (w : World) (S : Stk w b c d n m) (h1 : b < w.heap.size) (h2 : c < w.heap.size) (h3 : d < w.heap.size) (he : lookE n a k ≠ 0) (hg : ErrTy w) :
    Calls Tryd.prog 7 #[.pointer (some ⟨b, 0, none⟩), .int .i64 a, .int .i64 k, .int .u64 v] w fun e w' => e = .returned (flt (lookE n a k) (-1) (-1) (-1)) ∧ Below w.heap.size w w' := by
  have HS := hide S
  have HE := hide he
  have HG := hide hg
  have hc1 := S.c1
  have hv : errV (lookE n a k) = .iface 50 (.int .i64 (lookE n a k)) := by simp [errV, he]
  have HV := hide hv
  clear S he hg hv
  go_enter Tryd.func7, Tryd.ntmps7
  go_wp2_with fail
  have S1 := hide ((unhide HS).alloc (.cells #[.int .i64 0, .int .i64 0, .int .i64 0, .int .i64 0] 26) h1 h2 h3)
  refine (pstore_err c d n a k v _ (unhide S1).le (unhide HE) (unhide S1).c2).mono ?_
  rw [unhide HV]
  rintro e w' ⟨rfl, rfl⟩
  go_wp2_with fail
  refine (fault_errno _ _ ((unhide HG).alloc _)).mono ?_
  rintro e w2 ⟨rfl, hb⟩
  have hB0 : Below w.heap.size w w2 := ((Below.refl w.heap.size w).alloc (Nat.le_refl _) _).trans (hb.mono (by simp))
  obtain ⟨hcell, hfroz⟩ := bcell hb
  have hz := hb.size
  simp only [World.size_alloc] at hcell hfroz hz
  have HB := hide hB0
  clear hb hB0
  go_wp2_with fail
  refine bodyPost_ret (v := flt (lookE n a k) (-1) (-1) (-1)) (by simp [results, Tryd.results7, go_sem, hcell]) rfl ⟨rfl, ?_⟩
  have hB0 := unhide HB
  go_grown

/- Behind a store: the stack's bytes are those that were, but for the word; all other old memory is as it was. -/
structure Stored (w w' : World) (b c d n : Nat) (m : Nat → Int) (a : Nat) (v : Int) (k : Nat) : Prop where
  size : w.heap.size ≤ w'.heap.size
  stk : Stk w' b c d n (upd m a v k)
  low : Below d w w'
  blk : ∀ x, x ≠ d → x < w.heap.size → w'.heap[x]? = w.heap[x]?
set_option maxHeartbeats 400000 in
theorem store_ok {b c d n : Nat} {m : Nat → Int} (a k : Nat) (v : Int) (w : World) (S : Stk w b c d n m) (h1 : b < w.heap.size) (h2 : c < w.heap.size) (h3 : d < w.heap.size) (he : lookE n a k = 0) :
    Calls Tryd.prog 7 #[.pointer (some ⟨b, 0, none⟩), .int .i64 a, .int .i64 k, .int .u64 v] w fun e w' => e = .returned (flt 0 (-1) (-1) (-1)) ∧ Stored w w' b c d n m a v k := by
  obtain ⟨a', k', ea, ek, hk1, hk8, hak⟩ := lookE_zero he
  obtain rfl : a = a' := by omega
  obtain rfl : k = k' := by omega
  clear ea ek
  have HS := hide S
  have HE := hide he
  have hc1 := S.c1
  clear S he
  go_enter Tryd.func7, Tryd.ntmps7
  go_wp2_with fail
  have S1 := hide ((unhide HS).alloc (.cells #[.int .i64 0, .int .i64 0, .int .i64 0, .int .i64 0] 26) h1 h2 h3)
  refine (pstore_ok c d n m a k v _ (unhide S1).le hk8 hak (unhide HE) (unhide S1).c3 (unhide S1).f3 (unhide S1).c2).mono ?_
  rintro e w' ⟨rfl, hw'⟩
  have S2 := hide ((unhide S1).store a v k hak)
  rw [← hw'] at S2
  have hz1 : w'.heap.size = w.heap.size + 1 := by rw [hw', stw_size]; simp
  have T1 : ∀ x, x ≠ d → x < w.heap.size + 1 → w'.heap[x]? = (w.alloc (.cells #[.int .i64 0, .int .i64 0, .int .i64 0, .int .i64 0] 26)).heap[x]? := fun x hx _ => by rw [hw']; exact stw_blk _ d a v x hx k
  have T2 : ∀ x o, w'.frozen? ⟨x, o, none⟩ = (w.alloc (.cells #[.int .i64 0, .int .i64 0, .int .i64 0, .int .i64 0] 26)).frozen? ⟨x, o, none⟩ := fun x o => by rw [hw']; exact stw_frozen _ d a v ⟨x, o, none⟩ k
  have T3 : Below d w w' := by rw [hw']; exact ((Below.refl d w).alloc (Nat.le_of_lt h3) _).trans (stw_below _ d a v d (Nat.le_refl _) k)
  have HT1 := hide T1
  have HT2 := hide T2
  have HT3 := hide T3
  clear hw' T1 T2 T3
  go_wp2_with fail
  refine (fault_nil _).mono ?_
  rintro e w2 ⟨rfl, hb⟩
  have hz := hb.size
  have hcell : ∀ o, w2.cell? ⟨w.heap.size, o, none⟩ = (w.alloc (.cells #[.int .i64 0, .int .i64 0, .int .i64 0, .int .i64 0] 26)).cell? ⟨w.heap.size, o, none⟩ := fun o => (hb.cell (p := ⟨w.heap.size, o, none⟩) (by show w.heap.size < _; omega)).trans (World.cell?_of_block (unhide HT1 w.heap.size (by omega) (by omega)))
  have hfroz : ∀ o, w2.frozen? ⟨w.heap.size, o, none⟩ = (w.alloc (.cells #[.int .i64 0, .int .i64 0, .int .i64 0, .int .i64 0] 26)).frozen? ⟨w.heap.size, o, none⟩ := fun o => (hb.frozen (p := ⟨w.heap.size, o, none⟩) (by show w.heap.size < _; omega)).trans (unhide HT2 _ _)
  have HB := hide hb
  clear hb
  go_wp2_with fail
  refine bodyPost_ret (v := flt 0 (-1) (-1) (-1)) (by simp [results, Tryd.results7, go_sem, hcell]) rfl ⟨rfl, ?_⟩
  have hB := unhide HB
  have hz1' : w2.heap.size ≥ w.heap.size + 1 := by omega
  have hA : ∀ (x : World), Below w.heap.size w2 (x) → Stored w x b c d n m a v k := fun x hx => by
    have hBx : Below w.heap.size w' x := (hB.mono (by omega)).trans hx
    exact ⟨by have := hx.size; omega, (unhide S2).below hBx h1 h2 h3, (unhide HT3).trans (hBx.mono (by omega)),
      fun y hy hys => (hBx.block y hys).trans ((unhide HT1 y hy (by omega)).trans (Below.heap_alloc _ _ _ hys))⟩
  refine hA _ ?_
  go_grown

set_option maxHeartbeats 400000 in
theorem newstack_err (n : Int) (w : World) (h : n < 0 ∨ 65536 < n) (hg : ErrTy w) : Calls Tryd.prog 5 #[.int .i64 n] w fun e w' => e = .returned (.tuple #[.pointer none, flt 6 (-1) (-1) (-1)]) ∧ Below w.heap.size w w' := by
  have HG := hide hg
  have HN := hide h
  clear hg h
  go_enter Tryd.func5, Tryd.ntmps5
  go_wp2_with fail
  refine (pnew_err n _ (unhide HN)).mono ?_
  rintro e w' ⟨rfl, rfl⟩
  go_wp2_with fail
  refine (fault_errno _ _ ((unhide HG).alloc _)).mono ?_
  rintro e w2 ⟨rfl, hb⟩
  have hB0 : Below w.heap.size w w2 := ((Below.refl w.heap.size w).alloc (Nat.le_refl _) _).trans (hb.mono (by simp))
  obtain ⟨hcell, hfroz⟩ := bcell hb
  have hz := hb.size
  simp only [World.size_alloc] at hcell hfroz hz
  have HB := hide hB0
  clear hb hB0
  go_wp2_with fail
  refine bodyPost_ret (v := .tuple #[.pointer none, flt 6 (-1) (-1) (-1)]) (by simp [results, Tryd.results5, go_sem, hcell]) rfl ⟨rfl, ?_⟩
  have hB0 := unhide HB
  go_grown

theorem made_stk (w : World) (o : Obj) (M : Array Value) (n : Nat) (hM : ∀ i, i < n → M[i]? = some (.int .u8 0)) (hn : n ≤ 65536) :
    Stk ((((w.alloc o).alloc (.cells M 5)).alloc (.cells #[.slice (some ⟨w.heap.size + 1, 0, none⟩) n n] 49)).alloc (.cells #[.pointer (some ⟨w.heap.size + 1 + 1, 0, none⟩)] 40)) (w.heap.size + 3) (w.heap.size + 2) (w.heap.size + 1) n (fun _ => 0) := by
  refine ⟨?_, ?_, fun i hi => ?_, fun i hi => ?_, fun _ => by simp, by omega, by omega, hn⟩
  · rw [World.cell?_alloc_at _ _ _ _ (by simp)]; rfl
  · rw [World.cell?_alloc_lt _ _ ⟨w.heap.size + 2, 0, none⟩ (by simp), World.cell?_alloc_at _ _ _ _ (by simp)]; rfl
  · rw [World.cell?_alloc_lt _ _ ⟨w.heap.size + 1, i, none⟩ (by simp), World.cell?_alloc_lt _ _ ⟨w.heap.size + 1, i, none⟩ (by simp), World.cell?_alloc_at _ _ _ _ (by simp)]; exact hM i hi
  · rw [World.frozen?_alloc_old _ _ ⟨w.heap.size + 1, i, none⟩ (by simp), World.frozen?_alloc_old _ _ ⟨w.heap.size + 1, i, none⟩ (by simp), World.frozen?_alloc_at _ _ _ _ (by simp)]
/-- A store into a block that is none of the stack's. -/
theorem Stk.frame {w : World} {b c d n : Nat} {m : Nat → Int} (h : Stk w b c d n m) {p : Addr} {v : Value} (hp : p.block ≠ b ∧ p.block ≠ c ∧ p.block ≠ d) : Stk (w.setCell p v) b c d n m := by
  have hf : ∀ x o, p.block ≠ x → (w.setCell p v).cell? ⟨x, o, none⟩ = w.cell? ⟨x, o, none⟩ := fun x o hx => World.cell?_setCell_other _ _ _ _ (fun e => hx (by rw [e]))
  exact ⟨(hf _ _ hp.1).trans h.c1, (hf _ _ hp.2.1).trans h.c2, fun i hi => (hf _ _ hp.2.2).trans (h.c3 i hi), fun i hi => (World.frozen?_setCell _ _ _ _).trans (h.f3 i hi), h.mb, h.n1, h.n2, h.le⟩

set_option maxHeartbeats 1000000 in
theorem newstack_ok (n : Nat) (w : World) (h : n ≤ 65536) : Calls Tryd.prog 5 #[.int .i64 n] w fun e w' => e = .returned (.tuple #[.pointer (some ⟨w.heap.size + 3, 0, none⟩), flt 0 (-1) (-1) (-1)]) ∧ Below w.heap.size w w' ∧ w.heap.size + 4 ≤ w'.heap.size ∧ Stk w' (w.heap.size + 3) (w.heap.size + 2) (w.heap.size + 1) n (fun _ => 0) := by
  generalize hM : madeCells #[.int .u8 0] n = M
  have hMc : ∀ i, i < n → M[i]? = some (.int .u8 0) := fun i hi => by subst hM; simp [madeCells, hi, Nat.mod_one]
  have HM := hide hMc
  have HN := hide h
  have HMe := hide hM
  clear h hMc hM
  go_enter Tryd.func5, Tryd.ntmps5
  go_wp2_with fail
  refine (pnew_ok n _ (unhide HN)).mono ?_
  rw [unhide HMe]
  rintro e w' ⟨rfl, rfl⟩
  go_wp2_with fail
  refine (fault_nil _).mono ?_
  rintro e w2 ⟨rfl, hb⟩
  have HK := hide ((made_stk w _ M n (unhide HM) (unhide HN)).below hb (by simp) (by simp) (by simp))
  have hcell : ∀ o, w2.cell? ⟨w.heap.size, o, none⟩ = (w.alloc (.cells #[.int .i64 0, .int .i64 0, .int .i64 0, .int .i64 0] 26)).cell? ⟨w.heap.size, o, none⟩ := fun o => (hb.cell (p := ⟨w.heap.size, o, none⟩) (by simp; omega)).trans (by
    rw [World.cell?_alloc_lt _ _ ⟨w.heap.size, o, none⟩ (by simp; omega), World.cell?_alloc_lt _ _ ⟨w.heap.size, o, none⟩ (by simp; omega), World.cell?_alloc_lt _ _ ⟨w.heap.size, o, none⟩ (by simp)])
  have hfroz : ∀ o, w2.frozen? ⟨w.heap.size, o, none⟩ = false := fun o => (hb.frozen (p := ⟨w.heap.size, o, none⟩) (by simp; omega)).trans (by
    rw [World.frozen?_alloc_old _ _ ⟨w.heap.size, o, none⟩ (by simp; omega), World.frozen?_alloc_old _ _ ⟨w.heap.size, o, none⟩ (by simp; omega), World.frozen?_alloc_old _ _ ⟨w.heap.size, o, none⟩ (by simp), World.frozen?_alloc_at _ _ _ _ rfl])
  have hz := hb.size
  simp only [World.size_alloc] at hz
  have hB0 : Below w.heap.size w w2 := (((((Below.refl w.heap.size w).alloc (Nat.le_refl _) _).alloc (by simp) _).alloc (by simp; omega) _).alloc (by simp; omega) _).trans (hb.mono (by simp; omega))
  have HB := hide hB0
  clear hb hB0
  go_wp2_with fail
  refine bodyPost_ret (v := .tuple #[.pointer (some ⟨w.heap.size + 3, 0, none⟩), flt 0 (-1) (-1) (-1)]) (by simp [results, Tryd.results5, go_sem, hcell]) rfl ⟨rfl, ?_, ?_, ?_⟩
  · have hB0 := unhide HB
    go_grown
  · simp; omega
  · refine (((((unhide HK).frame ?_).frame ?_).frame ?_).frame ?_)
    all_goals exact ⟨by simp, by simp, by simp⟩
end Go.Proofs.YtobempobmokkcaaDoor
