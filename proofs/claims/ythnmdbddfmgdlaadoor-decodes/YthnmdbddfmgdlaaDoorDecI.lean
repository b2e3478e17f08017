/-
  Decodes: codec.Decode by its contract. Own work of the verifier.
-/
import Derived.Test.YthnmdbddfmgdlaaDoorDecH
import Derived.Defers
namespace Go.Proofs.YthnmdbddfmgdlaaDoor
open Go.RowKit

theorem catchD_idle (p q : Addr) (w : World) :
    CallsD Tryd.prog 43 #[.pointer (some p), .pointer (some q)] .returning w fun e u' w' => e = .returned (.tuple #[]) ∧ u' = .returning ∧ w' = w := by
  refine callsD_of_wpS Tryd.func43 rfl fun c₀ cs hu => ?_
  apply wpS_seq
  apply wpS_region
  simp [wpOpsS, go_sem, recoverD, hu, Tryd.ntmps43, Exit.thenS]
  refine wpS_of_wp ?_
  go_wp2
  cases c₀
  simp_all [bodyPostS, results, Tryd.results43]
theorem Tryd.fieldWrongD (g : Nat) (u : World) : Sem.run Tryd.prog (Instr.field 97 (.agg #[.iface 86 (.pointer (some ⟨g, 0, none⟩))]) 0) u = .ok (.iface 86 (.pointer (some ⟨g, 0, none⟩))) u := by kernel_rfl
set_option maxHeartbeats 1000000 in
theorem catchD_thrown (p q g : Nat) (x x' y : Value) (w : World) (hp : w.cell? ⟨p, 0, none⟩ = some x) (hp' : w.cell? ⟨p, 1, none⟩ = some x') (hpf : ∀ j, w.frozen? ⟨p, j, none⟩ = false) (hq : w.cell? ⟨q, 0, none⟩ = some y) (hqf : w.frozen? ⟨q, 0, none⟩ = false) (hpq : p ≠ q) :
    CallsD Tryd.prog 43 #[.pointer (some ⟨p, 0, none⟩), .pointer (some ⟨q, 0, none⟩)] (.panicking (thrownAt g)) w fun e u' w' => e = .returned (.tuple #[]) ∧ u' = .panicking ((thrownAt g).map fun t => { t with recovered := true }) ∧ w' = ((w.drew.setCell ⟨p, 0, none⟩ (.slice none 0 0)).setCell ⟨p, 1, none⟩ (.slice none 0 0)).setCell ⟨q, 0, none⟩ (.iface 86 (.pointer (some ⟨g, 0, none⟩))) := by
  refine callsD_of_wpS Tryd.func43 rfl fun c₀ cs hu => ?_
  apply wpS_seq
  apply wpS_region
  unfold thrownAt at hu
  simp [wpOpsS, go_sem, recoverD, hu, Tryd.ntmps43, Exit.thenS]
  refine wpS_of_wp ?_
  go_wp2
  have ht : (#[Value.pointer (some ⟨p, 0, none⟩), Value.pointer (some ⟨q, 0, none⟩)] ++ ((((Array.replicate 8 undef).setIfInBounds 1 (Value.iface 97 (Value.agg #[Value.iface 86 (Value.pointer (some ⟨g, 0, none⟩))]))).setIfInBounds 0 (Value.iface 97 (Value.agg #[Value.iface 86 (Value.pointer (some ⟨g, 0, none⟩))]))).setIfInBounds 2 (Value.iface 97 (Value.agg #[Value.iface 86 (Value.pointer (some ⟨g, 0, none⟩))]))).setIfInBounds 3 (Value.bool true)) = #[Value.pointer (some ⟨p, 0, none⟩), Value.pointer (some ⟨q, 0, none⟩), Value.iface 97 (Value.agg #[Value.iface 86 (Value.pointer (some ⟨g, 0, none⟩))]), Value.iface 97 (Value.agg #[Value.iface 86 (Value.pointer (some ⟨g, 0, none⟩))]), Value.iface 97 (Value.agg #[Value.iface 86 (Value.pointer (some ⟨g, 0, none⟩))]), Value.bool true, undef, undef, undef, undef] := rfl
  rw [ht]
  have hta := Tryd.assertWrong
  have hfw := Tryd.fieldWrongD g
  go_region
  simp +zetaDelta [bodyPostS, results, Tryd.results43, thrownAt]
theorem kept_low {B k j : Nat} {w u : World} (h : KeptOn B w u) (hk : k < B) (v : Value) : KeptOn B w (u.setCell ⟨k, j, none⟩ v) := fun i h1 h2 => (heap_setCell_other _ _ _ _ (by show i ≠ k; omega)).trans (h i h1 h2)
theorem row_staysD {w u : World} {b T : Nat} {o : Obj} (h : w.heap[T]? = some o) (hg : w.grownBy u (some b)) (hb : T ≠ b) : u.heap[T]? = some o :=
  (hg.block T (row_lt h) (by intro e; injection e with e; exact hb e)).trans h
def DecC (s : ByteArray) (w : World) (e : Ending) (w' : World) : Prop :=
  Below w.heap.size w w' ∧ match decOut s with
    | .ok p => ∃ v, e = .returned (.tuple #[v, .nilIface]) ∧ RProg w' w.heap.size v p
    | .error (n, q) => ∃ g, e = .returned (.tuple #[.agg #[.slice none 0 0, .slice none 0 0], .iface 86 (.pointer (some ⟨g, 0, none⟩))]) ∧ w'.heap[g]? = some (.cells #[.iface 83 (.int .i64 n), .int .i64 (-1), .int .i64 (-1), .int .i64 q] 89 (0, 0)) ∧ w.heap.size ≤ g
set_option maxHeartbeats 4000000 in
set_option maxRecDepth 100000 in
theorem cdecode_big (s : ByteArray) (w : World) (hs : ¬ s.size ≤ 4000) : Calls Tryd.prog 32 #[.string s] w (DecC s w) := by
  have hmf : ∀ (fn : Fn) (first cap : Array Value) (w : World), (Instr.makeFunc fn first cap).run Tryd.prog w = .ok (.func fn first cap) w := fun _ _ _ _ => rfl
  have HO := hideE (show decOut s = .error (4, 0) from if_neg hs)
  go_enter_defers Tryd.func32, Tryd.ntmps32
  go_wp2_with fail
  refine (badAt_d 4 0 _).mono ?_
  rintro e w1 ⟨rfl, hw⟩
  subst w1
  go_wp2
  simp [bodyPostD, Leaves, results, Tryd.results32, go_sem]
  unfold DecC
  rw [unhideE HO]
  refine ⟨by go_grown, w.heap.size + 1 + 1, rfl, ?_, by omega⟩
  have := heap_alloc_new ((w.alloc (.cells #[.slice none 0 0, .slice none 0 0] 25)).alloc (.cells #[.iface 86 (.pointer (some ⟨w.heap.size + 1 + 1, 0, none⟩))] 43)) (.cells #[.iface 83 (.int .i64 4), .int .i64 (-1), .int .i64 (-1), .int .i64 0] 89)
  simpa using this
theorem DecC.err {s : ByteArray} {w w1 : World} {n : Int} {q g : Nat} (hO : decOut s = .error (n, q)) (hb : Below w.heap.size w w1) (hg : w1.heap[g]? = some (.cells #[.iface 83 (.int .i64 n), .int .i64 (-1), .int .i64 (-1), .int .i64 q] 89 (0, 0))) (hl : w.heap.size + 2 ≤ g) (u v x : Value) :
    DecC s w (.returned (.tuple #[.agg #[.slice none 0 0, .slice none 0 0], .iface 86 (.pointer (some ⟨g, 0, none⟩))])) (((w1.drew.setCell ⟨w.heap.size, 0, none⟩ u).setCell ⟨w.heap.size, 1, none⟩ v).setCell ⟨w.heap.size + 1, 0, none⟩ x) := by
  unfold DecC
  rw [hO]
  have hbd : Below w.heap.size w w1.drew := hb.trans ⟨rfl, rfl, rfl, Nat.le_refl _, fun _ _ => rfl⟩
  refine ⟨below_high (below_high (below_high hbd (Nat.le_refl _) _) (Nat.le_refl _) _) (show w.heap.size ≤ w.heap.size + 1 by omega) _, g, rfl, ?_, by omega⟩
  refine (heap_setCell_other _ _ _ _ (by show g ≠ w.heap.size + 1; omega)).trans ((heap_setCell_other _ _ _ _ (by show g ≠ w.heap.size; omega)).trans ((heap_setCell_other _ _ _ _ (by show g ≠ w.heap.size; omega)).trans ?_))
  exact hg
set_option maxHeartbeats 8000000 in
set_option maxRecDepth 100000 in
theorem cdecode_small (s : ByteArray) (w : World) (hs : s.size ≤ 4000) (hN : NeedsAt w) (h1 : 1 < w.heap.size) : Calls Tryd.prog 32 #[.string s] w (DecC s w) := by
  have hmf : ∀ (fn : Fn) (first cap : Array Value) (w : World), (Instr.makeFunc fn first cap).run Tryd.prog w = .ok (.func fn first cap) w := fun _ _ _ _ => rfl
  have hO : decOut s = (match dProg s 0 with | .error q => .error (3, q) | .ok (p, a) => if a < s.size then .error (3, a) else .ok p) := if_pos hs
  have HO := hideE hO
  have HN := hideE hN
  have hs' : ¬ ((4000 : Int) < s.size) := by omega
  clear hO hN
  go_enter_defers Tryd.func32, Tryd.ntmps32
  go_wp2_with fail
  have hbel : Below w.heap.size w (((w.alloc (.cells #[.slice none 0 0, .slice none 0 0] 25)).alloc (.cells #[.nilIface] 43)).alloc (.cells #[.string s, .int .i64 0] 117)) := by go_grown
  have hr0 : (((w.alloc (.cells #[.slice none 0 0, .slice none 0 0] 25)).alloc (.cells #[.nilIface] 43)).alloc (.cells #[.string s, .int .i64 0] 117)).heap[w.heap.size]? = some (.cells #[.slice none 0 0, .slice none 0 0] 25 (0, 0)) := ((gb_alloc _ _ none).block _ (by simp; omega) (by simp)).trans (((gb_alloc _ _ none).block _ (by simp) (by simp)).trans (heap_alloc_new _ _))
  have hr1 : (((w.alloc (.cells #[.slice none 0 0, .slice none 0 0] 25)).alloc (.cells #[.nilIface] 43)).alloc (.cells #[.string s, .int .i64 0] 117)).heap[w.heap.size + 1]? = some (.cells #[.nilIface] 43 (0, 0)) := ((gb_alloc _ _ none).block _ (by simp) (by simp)).trans (heap_alloc2_new _ _ _)
  have hr2 : (((w.alloc (.cells #[.slice none 0 0, .slice none 0 0] 25)).alloc (.cells #[.nilIface] 43)).alloc (.cells #[.string s, .int .i64 0] 117)).heap[w.heap.size + 1 + 1]? = some (.cells #[.string s, .int .i64 0] 117 (0, 0)) := by
    have := heap_alloc_new ((w.alloc (.cells #[.slice none 0 0, .slice none 0 0] 25)).alloc (.cells #[.nilIface] 43)) (.cells #[.string s, .int .i64 0] 117)
    simpa using this
  have hsz : (((w.alloc (.cells #[.slice none 0 0, .slice none 0 0] 25)).alloc (.cells #[.nilIface] 43)).alloc (.cells #[.string s, .int .i64 0] 117)).heap.size = w.heap.size + 1 + 1 + 1 := by simp
  generalize ((w.alloc _).alloc _).alloc _ = W at hbel hr0 hr1 hr2 hsz ⊢
  have hrd : Rd W (w.heap.size + 1 + 1) s 0 := ⟨(cells_of_row hr2 0).trans rfl, (cells_of_row hr2 1).trans rfl, frozen_of_row _ _ _ _ _ hr2, Nat.zero_le _, hs⟩
  refine (program_d (w.heap.size + 1 + 1) s 0 W hrd (by omega) ((unhideE HN).below h1 hbel)).mono ?_
  rintro e w2 ⟨hg2, hm⟩
  have hq0 := row_staysD hr0 hg2 (by omega)
  have hq1 := row_staysD hr1 hg2 (by omega)
  have hz2 := hg2.size
  have cp0 := (cells_of_row hq0 0).trans rfl
  have cp1 := (cells_of_row hq0 1).trans rfl
  have fp : ∀ j, w2.frozen? ⟨w.heap.size, j, none⟩ = false := fun j => frozen_of_row _ _ _ _ _ hq0
  have cq0 := (cells_of_row hq1 0).trans rfl
  have fq : w2.frozen? ⟨w.heap.size + 1, 0, none⟩ = false := frozen_of_row _ _ _ _ _ hq1
  have HB2 := hideE (hbel.trans (⟨hg2.os, hg2.tape, hg2.output, hg2.size, fun q hq => hg2.block q (by omega) (by intro e; injection e with e; omega)⟩ : Below w.heap.size W w2))
  have HQ0 := hideE hq0
  have HQ1 := hideE hq1
  clear hr0 hr1 hr2 hrd hbel hg2 hq0 hq1 HN
  cases hd : dProg s 0 with
  | error q =>
    rw [hd] at hm
    obtain ⟨g, rfl, hg, hgl⟩ := hm
    have HOE := hideE (show decOut s = .error (3, q) by rw [unhideE HO, hd])
    have HTH := hideE (catchD_thrown w.heap.size (w.heap.size + 1) g _ _ _ w2 cp0 cp1 fp cq0 fq (by omega))
    have HF := hideE (fun u v x => DecC.err (w := w) (unhideE HOE) (unhideE HB2) hg (by omega) u v x)
    clear hg HO hd
    refine leaves_cons (f := 43) (args := #[.pointer (some ⟨w.heap.size, 0, none⟩), .pointer (some ⟨w.heap.size + 1, 0, none⟩)]) (by simp) (by simp [go_sem]) ?_
    refine (unhideE HTH).mono ?_
    rintro e u' w'' ⟨rfl, rfl, rfl⟩
    simp [Leaves, settle, results, Tryd.results32, go_sem, thrownAt, cp0, cp1, cq0]
    exact unhideE HF _ _ _
  | ok p =>
    obtain ⟨P, a⟩ := p
    rw [hd] at hm
    obtain ⟨v, rfl, ⟨fv, ev, rfl, hfv, hev⟩, hrd2⟩ := hm
    have HV := hideE (show RProg w2 W.heap.size (.agg #[fv, ev]) P from ⟨fv, ev, rfl, hfv, hev⟩)
    obtain ⟨fp', fc, hfs⟩ := hfv.shape
    obtain ⟨ep', ec, hes⟩ := hev.shape
    generalize P.funcs.length = nf at hfs
    generalize P.externs.length = ne at hes
    subst hfs hes
    have cr := hrd2.c1
    have hba := hrd2.bd
    have HRD := hideE hrd2
    clear hfv hev hrd2
    by_cases hlt : a < s.size
    · have hlt' : (a : Int) < s.size := by omega
      have HOE := hideE (show decOut s = .error (3, a) by rw [unhideE HO, hd]; exact if_pos hlt)
      clear HO hd
      go_wp2_with fail
      have hv0 := heap_setCell_same _ _ 1 _ _ (.slice ep' ne ec) (heap_setCell_same _ _ 0 _ _ (.slice fp' nf fc) (unhideE HQ0))
      have hv1 : ((w2.setCell ⟨w.heap.size, 0, none⟩ (.slice fp' nf fc)).setCell ⟨w.heap.size, 1, none⟩ (.slice ep' ne ec)).heap[w.heap.size + 1]? = _ := (heap_setCell_other _ _ _ _ (by show w.heap.size + 1 ≠ w.heap.size; omega)).trans ((heap_setCell_other _ _ _ _ (by show w.heap.size + 1 ≠ w.heap.size; omega)).trans (unhideE HQ1))
      have hrv : Rd ((w2.setCell ⟨w.heap.size, 0, none⟩ (.slice fp' nf fc)).setCell ⟨w.heap.size, 1, none⟩ (.slice ep' ne ec)) (w.heap.size + 1 + 1) s a := (unhideE HRD).blk ((heap_setCell_other _ _ _ _ (by show w.heap.size + 1 + 1 ≠ w.heap.size; omega)).trans (heap_setCell_other _ _ _ _ (by show w.heap.size + 1 + 1 ≠ w.heap.size; omega)))
      have hbv : Below w.heap.size w ((w2.setCell ⟨w.heap.size, 0, none⟩ (.slice fp' nf fc)).setCell ⟨w.heap.size, 1, none⟩ (.slice ep' ne ec)) := below_high (below_high (unhideE HB2) (Nat.le_refl _) _) (Nat.le_refl _) _
      have hzv : W.heap.size ≤ ((w2.setCell ⟨w.heap.size, 0, none⟩ (.slice fp' nf fc)).setCell ⟨w.heap.size, 1, none⟩ (.slice ep' ne ec)).heap.size := by simpa using hz2
      clear cp0 cp1 fp cq0 fq HQ0 HQ1 HRD HB2 cr HV
      generalize (w2.setCell ⟨w.heap.size, 0, none⟩ (.slice fp' nf fc)).setCell ⟨w.heap.size, 1, none⟩ (.slice ep' ne ec) = V at hv0 hv1 hrv hbv hzv ⊢
      refine (refuse_d RProg (w.heap.size + 1 + 1) s a V hrv).mono ?_
      rintro e w3 ⟨hg3, g, rfl, hg, hgl⟩
      have hq0 := row_staysD hv0 hg3 (by omega)
      have hq1 := row_staysD hv1 hg3 (by omega)
      have cp0 := (cells_of_row hq0 0).trans rfl
      have cp1 := (cells_of_row hq0 1).trans rfl
      have cq0 := (cells_of_row hq1 0).trans rfl
      have HTH := hideE (catchD_thrown w.heap.size (w.heap.size + 1) g _ _ _ w3 cp0 cp1 (fun j => frozen_of_row _ _ _ _ _ hq0) cq0 (frozen_of_row _ _ _ _ _ hq1) (by omega))
      have HF := hideE (fun u v x => DecC.err (w := w) (unhideE HOE) (hbv.trans (⟨hg3.os, hg3.tape, hg3.output, hg3.size, fun q hq => hg3.block q (by omega) (by intro e; injection e with e; omega)⟩ : Below w.heap.size V w3)) hg (by omega) u v x)
      clear hg hv0 hv1 hrv hbv hg3 hq0 hq1
      refine leaves_cons (f := 43) (args := #[.pointer (some ⟨w.heap.size, 0, none⟩), .pointer (some ⟨w.heap.size + 1, 0, none⟩)]) (by simp) (by simp [go_sem]) ?_
      refine (unhideE HTH).mono ?_
      rintro e u' w'' ⟨rfl, rfl, rfl⟩
      simp [Leaves, settle, results, Tryd.results32, go_sem, thrownAt, cp0, cp1, cq0]
      exact unhideE HF _ _ _
    · have hlt' : ¬ (a : Int) < s.size := by omega
      have HOE := hideE (show decOut s = .ok P by rw [unhideE HO, hd]; exact if_neg hlt)
      clear HO hd
      go_wp2
      have hx0 : (((((w2.setCell ⟨w.heap.size, 0, none⟩ (.slice fp' nf fc)).setCell ⟨w.heap.size, 1, none⟩ (.slice ep' ne ec)).setCell ⟨w.heap.size, 0, none⟩ (.slice fp' nf fc)).setCell ⟨w.heap.size, 1, none⟩ (.slice ep' ne ec)).setCell ⟨w.heap.size + 1, 0, none⟩ .nilIface).heap[w.heap.size]? = some (.cells #[.slice fp' nf fc, .slice ep' ne ec] 25 (0, 0)) := (heap_setCell_other _ _ _ _ (by show w.heap.size ≠ w.heap.size + 1; omega)).trans (heap_setCell_same _ _ 1 _ _ (.slice ep' ne ec) (heap_setCell_same _ _ 0 _ _ (.slice fp' nf fc) (heap_setCell_same _ _ 1 _ _ (.slice ep' ne ec) (heap_setCell_same _ _ 0 _ _ (.slice fp' nf fc) (unhideE HQ0)))))
      have hx1 : (((((w2.setCell ⟨w.heap.size, 0, none⟩ (.slice fp' nf fc)).setCell ⟨w.heap.size, 1, none⟩ (.slice ep' ne ec)).setCell ⟨w.heap.size, 0, none⟩ (.slice fp' nf fc)).setCell ⟨w.heap.size, 1, none⟩ (.slice ep' ne ec)).setCell ⟨w.heap.size + 1, 0, none⟩ .nilIface).heap[w.heap.size + 1]? = some (.cells #[.nilIface] 43 (0, 0)) := heap_setCell_same _ _ 0 _ _ .nilIface ((heap_setCell_other _ _ _ _ (by show w.heap.size + 1 ≠ w.heap.size; omega)).trans ((heap_setCell_other _ _ _ _ (by show w.heap.size + 1 ≠ w.heap.size; omega)).trans ((heap_setCell_other _ _ _ _ (by show w.heap.size + 1 ≠ w.heap.size; omega)).trans ((heap_setCell_other _ _ _ _ (by show w.heap.size + 1 ≠ w.heap.size; omega)).trans (unhideE HQ1)))))
      have hbv : Below w.heap.size w (((((w2.setCell ⟨w.heap.size, 0, none⟩ (.slice fp' nf fc)).setCell ⟨w.heap.size, 1, none⟩ (.slice ep' ne ec)).setCell ⟨w.heap.size, 0, none⟩ (.slice fp' nf fc)).setCell ⟨w.heap.size, 1, none⟩ (.slice ep' ne ec)).setCell ⟨w.heap.size + 1, 0, none⟩ .nilIface) := below_high (below_high (below_high (below_high (below_high (unhideE HB2) (Nat.le_refl _) _) (Nat.le_refl _) _) (Nat.le_refl _) _) (Nat.le_refl _) _) (show w.heap.size ≤ w.heap.size + 1 by omega) _
      have hkv : KeptOn W.heap.size w2 (((((w2.setCell ⟨w.heap.size, 0, none⟩ (.slice fp' nf fc)).setCell ⟨w.heap.size, 1, none⟩ (.slice ep' ne ec)).setCell ⟨w.heap.size, 0, none⟩ (.slice fp' nf fc)).setCell ⟨w.heap.size, 1, none⟩ (.slice ep' ne ec)).setCell ⟨w.heap.size + 1, 0, none⟩ .nilIface) := kept_low (kept_low (kept_low (kept_low (kept_low (fun _ _ _ => rfl) (by omega) _) (by omega) _) (by omega) _) (by omega) _) (by omega) _
      clear cp0 cp1 fp cq0 fq HQ0 HQ1 HRD HB2 cr
      generalize ((((w2.setCell ⟨w.heap.size, 0, none⟩ (.slice fp' nf fc)).setCell ⟨w.heap.size, 1, none⟩ (.slice ep' ne ec)).setCell ⟨w.heap.size, 0, none⟩ (.slice fp' nf fc)).setCell ⟨w.heap.size, 1, none⟩ (.slice ep' ne ec)).setCell ⟨w.heap.size + 1, 0, none⟩ .nilIface = V at hx0 hx1 hbv hkv ⊢
      have cp0 := (cells_of_row hx0 0).trans rfl
      have cp1 := (cells_of_row hx0 1).trans rfl
      have cq0 := (cells_of_row hx1 0).trans rfl
      refine leaves_cons (f := 43) (args := #[.pointer (some ⟨w.heap.size, 0, none⟩), .pointer (some ⟨w.heap.size + 1, 0, none⟩)]) (by simp) (by simp [go_sem]) ?_
      refine (catchD_idle _ _ _).mono ?_
      rintro e u' w'' ⟨rfl, rfl, rfl⟩
      simp [Leaves, settle, results, Tryd.results32, go_sem, cp0, cp1, cq0]
      unfold DecC
      rw [unhideE HOE]
      exact ⟨hbv, _, rfl, (unhideE HV).keep (by omega) hkv⟩
theorem cdecode_d (s : ByteArray) (w : World) (hN : NeedsAt w) (h1 : 1 < w.heap.size) : Calls Tryd.prog 32 #[.string s] w (DecC s w) := by
  by_cases hs : s.size ≤ 4000
  · exact cdecode_small s w hs hN h1
  · exact cdecode_big s w hs
end Go.Proofs.YthnmdbddfmgdlaaDoor
