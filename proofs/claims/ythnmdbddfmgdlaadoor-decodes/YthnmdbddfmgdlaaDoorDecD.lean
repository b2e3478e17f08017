/-
  Decodes: what a program's parts read as; pairs, signatures, functions. Own work of the verifier.
-/
import Derived.Test.YthnmdbddfmgdlaaDoorDecC
namespace Go.Proofs.YthnmdbddfmgdlaaDoor
open Go.RowKit

def RI (_ : World) (_ : Nat) (c : Array Value) (x : Int) : Prop := c = #[.int .i64 x]
def RP (_ : World) (_ : Nat) (c : Array Value) (x : Int × Int) : Prop := c = #[.int .i64 x.1, .int .i64 x.2]
abbrev RepI (w : World) (B : Nat) (v : Value) (xs : List Int) : Prop := RepL w B 3 1 (RI w B) v xs
def RSig (w : World) (B : Nat) (c : Array Value) (x : List Int × Int) : Prop := ∃ lv, c = #[lv, .int .i64 x.2] ∧ RepI w B lv x.1
def RIns (w : World) (B : Nat) (c : Array Value) (i : InsE) : Prop := ∃ av ov, c = #[.int .i64 i.op, .int .i64 i.d, .int .i64 i.a, .int .i64 i.bb, .int .u64 i.n, .int .i64 i.f, av, ov] ∧ RepL w B 82 2 (RP w B) av i.args ∧ RepI w B ov i.outs
def RBlk (w : World) (B : Nat) (c : Array Value) (l : List InsE) : Prop := ∃ v, c = #[v] ∧ RepL w B 65 8 (RIns w B) v l
def RFunc (w : World) (B : Nat) (c : Array Value) (f : FuncE) : Prop := ∃ pv hv sv bv, c = #[pv, .int .i64 f.results, hv, sv, bv] ∧ RepL w B 60 2 (RP w B) pv f.params ∧ RepI w B hv f.homes ∧ RepI w B sv f.slots ∧ RepL w B 61 1 (RBlk w B) bv f.blocks
def RProg (w : World) (B : Nat) (v : Value) (p : ProgE) : Prop := ∃ fv ev, v = .agg #[fv, ev] ∧ RepL w B 58 5 (RFunc w B) fv p.funcs ∧ RepL w B 53 2 (RSig w B) ev p.externs
theorem mono_RI : MonoR RI := fun _ _ _ _ _ _ _ _ h => h
theorem mono_RP : MonoR RP := fun _ _ _ _ _ _ _ _ h => h
theorem mono_RSig : MonoR RSig := fun _ _ _ _ _ _ hB hk h => by
  obtain ⟨lv, h1, h2⟩ := h
  exact ⟨lv, h1, h2.keep hB hk fun _ _ h => h⟩
theorem mono_RIns : MonoR RIns := fun _ _ _ _ _ _ hB hk h => by
  obtain ⟨av, ov, h1, h2, h3⟩ := h
  exact ⟨av, ov, h1, h2.keep hB hk fun _ _ h => h, h3.keep hB hk fun _ _ h => h⟩
theorem mono_RBlk : MonoR RBlk := fun _ _ _ _ _ _ hB hk h => by
  obtain ⟨v, h1, h2⟩ := h
  exact ⟨v, h1, h2.keep hB hk fun _ _ h => mono_RIns _ _ _ _ _ _ hB hk h⟩
theorem mono_RFunc : MonoR RFunc := fun _ _ _ _ _ _ hB hk h => by
  obtain ⟨pv, hv, sv, bv, h1, h2, h3, h4, h5⟩ := h
  exact ⟨pv, hv, sv, bv, h1, h2.keep hB hk fun _ _ h => h, h3.keep hB hk fun _ _ h => h, h4.keep hB hk fun _ _ h => h, h5.keep hB hk fun _ _ h => mono_RBlk _ _ _ _ _ _ hB hk h⟩
theorem RProg.keep {w w' : World} {B B' : Nat} {v : Value} {p : ProgE} (h : RProg w B v p) (hB : B' ≤ B) (hk : KeptOn B w w') : RProg w' B' v p := by
  obtain ⟨fv, ev, h1, h2, h3⟩ := h
  exact ⟨fv, ev, h1, h2.keep hB hk fun _ _ h => mono_RFunc _ _ _ _ _ _ hB hk h, h3.keep hB hk fun _ _ h => mono_RSig _ _ _ _ _ _ hB hk h⟩
theorem DecE.imp {α : Type} {b : Nat} {s : ByteArray} {RV RW : World → Nat → Value → α → Prop} {r : Except Nat (α × Nat)} {w w' : World} {e : Ending} (h : DecE b s RV r w e w') (hi : ∀ w B v x, RV w B v x → RW w B v x) : DecE b s RW r w e w' := by
  obtain ⟨hg, hm⟩ := h
  refine ⟨hg, ?_⟩
  cases r with
  | error q => exact hm
  | ok p =>
    obtain ⟨v, he, hv, hR⟩ := hm
    exact ⟨v, he, hi _ _ _ _ hv, hR⟩
theorem int_one (w : World) (B : Nat) (v : Value) (x : Int) (h : RInt w B v x) : ROneI RI w B v x := by
  have h' : v = .int .i64 x := h
  exact ⟨by rw [h']; rfl, x, h'⟩
theorem results_cell {P : Program} {fn : Func} {q : Tmp} {uy : TypeId} (h : fn.results = #[.cell q uy]) (tmps : Array Value) (w : World) (g' : Nat) (t' : TypeId) (cs' : Array Value) (fr' : Nat × Nat) (d' : TypeDesc)
    (hp' : tmps.getD q undef = .pointer (some ⟨g', 0, none⟩)) (hg' : w.heap[g']? = some (.cells cs' t' fr')) (hu' : P.underlying uy = some d') (hd' : (match d' with | .struct _ | .array _ _ => true | _ => false) = true) (hi' : (P.info? uy).map (·.size) = some cs'.size) :
    (results fn tmps).run P w = .ok (.agg cs') w := by
  have e2 : tmps[q]?.getD undef = .pointer (some ⟨g', 0, none⟩) := by simpa using hp'
  simp [results, h, e2, asAddr, run_loadVar_row w g' t' uy cs' fr' d' hg' hu' hd' hi']
/-- A struct that is built at T3, and handed back at T2. -/
structure St (w u : World) (b T2 T3 : Nat) (s : ByteArray) (a : Nat) (T : TypeId) (Z A : Array Value) : Prop where
  rd : Rd u b s a
  gb : w.grownBy u (some b)
  r2 : u.heap[T2]? = some (.cells Z T (0, 0))
  r3 : u.heap[T3]? = some (.cells A T (0, 0))
  h0 : b < w.heap.size
  h2 : w.heap.size ≤ T2
  h3 : T2 < T3
section
variable {w u u' : World} {b T2 T3 : Nat} {s : ByteArray} {a a' : Nat} {T : TypeId} {Z A : Array Value}
theorem St.lt (h : St w u b T2 T3 s a T Z A) : T3 < u.heap.size := row_lt h.r3
theorem St.call (h : St w u b T2 T3 s a T Z A) (hR : Rd u' b s a') (hg : u.grownBy u' (some b)) : St w u' b T2 T3 s a' T Z A :=
  have e0 := h.h0
  have e2 := h.h2
  have e3 := h.h3
  ⟨hR, gb_tr h.gb hg, (hg.block T2 (row_lt h.r2) (by intro e; injection e with e; omega)).trans h.r2, (hg.block T3 (row_lt h.r3) (by intro e; injection e with e; omega)).trans h.r3, e0, e2, e3⟩
theorem St.set (h : St w u b T2 T3 s a T Z A) (j : Nat) (v : Value) : St w (u.setCell ⟨T3, j, none⟩ v) b T2 T3 s a T Z (A.setIfInBounds j v) :=
  have e0 := h.h0
  have e2 := h.h2
  have e3 := h.h3
  ⟨h.rd.blk (heap_setCell_other _ _ _ _ (by show b ≠ T3; omega)), gb_setAt h.gb (Or.inl (by omega)), (heap_setCell_other _ _ _ _ (by show T2 ≠ T3; omega)).trans h.r2, heap_setCell_same _ _ _ _ _ _ h.r3, e0, e2, e3⟩
theorem St.cell (h : St w u b T2 T3 s a T Z A) (j : Nat) (x : Value) (hx : A[j]? = some x) : u.cell? ⟨T3, j, none⟩ = some x := (cells_of_row h.r3 j).trans hx
theorem St.fz (h : St w u b T2 T3 s a T Z A) (j : Nat) : u.frozen? ⟨T3, j, none⟩ = false := frozen_of_row _ _ _ _ _ h.r3
theorem St.kept (h : St w u b T2 T3 s a T Z A) (hg : u.grownBy u' (some b)) : KeptOn (T3 + 1) u u' := KeptOn.of_gb hg (by have := h.h0; have := h.h2; have := h.h3; omega)
theorem kept_set (u : World) (T3 j : Nat) (v : Value) : KeptOn (T3 + 1) u (u.setCell ⟨T3, j, none⟩ v) := fun k h1 _ => heap_setCell_other _ _ _ _ (by show k ≠ T3; omega)
theorem St.start (w : World) (b : Nat) (s : ByteArray) (a : Nat) (T : TypeId) (Z : Array Value) (h : Rd w b s a) : St w ((w.alloc (.cells Z T (0, 0))).alloc (.cells Z T (0, 0))) b w.heap.size (w.heap.size + 1) s a T Z Z :=
  ⟨(h.alloc _).alloc _, gb_tr (gb_alloc _ _ _) (gb_alloc _ _ _), heap_alloc2_old _ _ _, heap_alloc2_new _ _ _, h.lt, Nat.le_refl _, Nat.lt_succ_self _⟩
theorem kept_tr {B : Nat} {x y z : World} (h : KeptOn B x y) (hs : x.heap.size ≤ y.heap.size) (k : KeptOn B y z) : KeptOn B x z := fun i h1 h2 => (k i h1 (by omega)).trans (h i h1 h2)
theorem kept_setRow (u : World) (T2 B : Nat) (A : Array Value) (h : T2 < B) : KeptOn B u (u.setRow T2 A) := fun k h1 _ => setRow_other _ _ _ _ (by omega)
end
def MonoV {α : Type} (RV : World → Nat → Value → α → Prop) : Prop := ∀ w w' B B' v x, B' ≤ B → KeptOn B w w' → RV w B v x → RV w' B' v x
theorem monoV_list {α : Type} {T size : Nat} {R : World → Nat → Array Value → α → Prop} (h : MonoR R) : MonoV (fun w B v xs => RepL w B T size (R w B) v xs) := fun _ _ _ _ _ _ hB hk hr => hr.keep hB hk fun _ _ hh => h _ _ _ _ _ _ hB hk hh
theorem dBind_ok {α β : Type} (x : α) (a : Nat) (k : α → Nat → Except Nat (β × Nat)) : dBind (.ok (x, a)) k = k x a := rfl
theorem dBind_err {α β : Type} (q : Nat) (k : α → Nat → Except Nat (β × Nat)) : dBind (.error q) k = .error q := rfl
theorem gb_setRowAt {w u : World} {b T2 : Nat} (h : w.grownBy u (some b)) (hk : w.heap.size ≤ T2) (A : Array Value) : w.grownBy (u.setRow T2 A) (some b) :=
  ⟨h.os, h.tape, h.output, by simpa using h.size, fun q hq hr => (setRow_other _ _ _ _ (by omega)).trans (h.block q hq hr)⟩
theorem monoV_int : MonoV RInt := fun _ _ _ _ _ _ _ _ h => h
set_option maxHeartbeats 4000000 in
set_option maxRecDepth 100000 in
theorem param_d (b : Nat) (s : ByteArray) (a : Nat) (w : World) (h : Rd w b s a) : Calls Tryd.prog 72 #[.pointer (some ⟨b, 0, none⟩)] w (DecE b s (RAgg 2 RP) (dPair s a) w) := by
  have hst := St.start w b s a 60 #[.int .i64 0, .int .i64 0] h
  obtain ⟨T3, hT3⟩ : ∃ T, T = w.heap.size + 1 := ⟨_, rfl⟩
  have hbw := h.lt
  go_enter Tryd.func72, Tryd.ntmps72
  go_wp2_with fail
  rw [← hT3] at hst ⊢
  generalize (w.alloc (.cells #[.int .i64 0, .int .i64 0] 60)).alloc (.cells #[.int .i64 0, .int .i64 0] 60) = u0 at hst ⊢
  have hT : w.heap.size < T3 := by omega
  have hl0 := hst.lt
  have HS0 := hideE hst
  have HD0 := hideE (show dPair s a = dPair s a from rfl)
  clear hst hT3 h
  refine (words_d b s a u0 (unhideE HS0).rd).mono ?_
  intro e w1 h2
  cases hr : (dNum s 0 8) a with
  | error q =>
    rw [hr] at h2
    have h3 := DecE.err (RW := RAgg 2 RP) h2 (unhideE HS0).gb
    obtain ⟨g1, g, rfl, g2, g3⟩ := h2
    refine ⟨rfl, ?_⟩
    have h4 := unhideE HD0
    unfold dPair at h4 ⊢
    rw [hr]
    exact h3
  | ok p =>
    obtain ⟨x0, a1⟩ := p
    rw [hr] at h2
    obtain ⟨hg, v0, rfl, hv, hR⟩ := h2
    have hsz := hg.size
    have hv' : v0 = .int .i64 x0 := hv
    subst hv'
    clear hv
    have hst := (unhideE HS0).call hR hg
    have cc := hst.cell 0 _ rfl
    have ff := hst.fz 0
    have HS1 := hideE (show St w (w1.setCell ⟨T3, 0, none⟩ (.int .i64 x0)) b w.heap.size T3 s a1 60 #[.int .i64 0, .int .i64 0] #[.int .i64 x0, .int .i64 0] from hst.set 0 _)
    have hl1 := (unhideE HS1).lt
    have h4 := unhideE HD0
    conv at h4 => rhs; unfold dPair
    rw [hr] at h4
    simp only [dBind_ok] at h4
    have HD1 := hideE h4
    clear h4 hr hst hg hR HS0 HD0 hsz
    go_wp2_with fail
    clear cc ff
    refine (anyByte_d b s a1 (w1.setCell ⟨T3, 0, none⟩ (.int .i64 x0)) (unhideE HS1).rd).mono ?_
    intro e w2 h2
    cases hr : (dNum s 0 255) a1 with
    | error q =>
      rw [hr] at h2
      have h3 := DecE.err (RW := RAgg 2 RP) h2 (unhideE HS1).gb
      obtain ⟨g1, g, rfl, g2, g3⟩ := h2
      refine ⟨rfl, ?_⟩
      have h4 := unhideE HD1
      rw [hr, dBind_err] at h4
      rw [h4]
      exact h3
    | ok p =>
      obtain ⟨x1, a2⟩ := p
      rw [hr] at h2
      obtain ⟨hg, v1, rfl, hv, hR⟩ := h2
      have hsz := hg.size
      have hv' : v1 = .int .i64 x1 := hv
      subst hv'
      clear hv
      have hst := (unhideE HS1).call hR hg
      have cc := hst.cell 1 _ rfl
      have ff := hst.fz 1
      have HS2 := hideE (show St w (w2.setCell ⟨T3, 1, none⟩ (.int .i64 x1)) b w.heap.size T3 s a2 60 #[.int .i64 0, .int .i64 0] #[.int .i64 x0, .int .i64 x1] from hst.set 1 _)
      have hl2 := (unhideE HS2).lt
      have h4 := unhideE HD1
      rw [hr] at h4
      simp only [dBind_ok] at h4
      have HD2 := hideE h4
      clear h4 hr hst hg hR HS1 HD1 hsz
      have HR2 := hideE (unhideE HS2).r2
      have HR3 := hideE (unhideE HS2).r3
      go_wp2_with (first | (refine wpList_load_row rfl 60 (.tmp 3) rfl T3 rfl 60 #[.int .i64 x0, .int .i64 x1] (0, 0) _ (unhideE HR3) Tryd.underlying60 rfl (Tryd.infParams.trans rfl) ?_) | (refine wpList_store_row rfl 60 (.tmp 2) (.tmp 10) rfl w.heap.size #[.int .i64 x0, .int .i64 x1] rfl rfl 60 _ (unhideE HR2) (Tryd.infParams.trans rfl) rfl (by simp [Value.oneCell']) ?_))
      refine bodyPost_ret (results_cell (fn := Tryd.f72) (q := 2) (uy := 60) rfl _ _ w.heap.size 60 #[.int .i64 x0, .int .i64 x1] (0, 0) _ rfl (setRow_heap _ _ _ _ _ _ (unhideE HR2)) Tryd.underlying60 rfl (Tryd.infParams.trans rfl)) rfl ?_
      rw [unhideE HD2]
      have hs := unhideE HS2
      exact ⟨gb_setRowAt hs.gb (Nat.le_refl _) _, _, rfl, ⟨#[.int .i64 x0, .int .i64 x1], rfl, rfl, by simp [Value.oneCell'], rfl⟩, hs.rd.blk (setRow_other _ _ _ _ (by omega))⟩
set_option maxHeartbeats 4000000 in
set_option maxRecDepth 100000 in
theorem arg_d (b : Nat) (s : ByteArray) (a : Nat) (w : World) (h : Rd w b s a) : Calls Tryd.prog 91 #[.pointer (some ⟨b, 0, none⟩)] w (DecE b s (RAgg 2 RP) (dPair s a) w) := by
  have hst := St.start w b s a 82 #[.int .i64 0, .int .i64 0] h
  obtain ⟨T3, hT3⟩ : ∃ T, T = w.heap.size + 1 := ⟨_, rfl⟩
  have hbw := h.lt
  go_enter Tryd.func91, Tryd.ntmps91
  go_wp2_with fail
  rw [← hT3] at hst ⊢
  generalize (w.alloc (.cells #[.int .i64 0, .int .i64 0] 82)).alloc (.cells #[.int .i64 0, .int .i64 0] 82) = u0 at hst ⊢
  have hT : w.heap.size < T3 := by omega
  have hl0 := hst.lt
  have HS0 := hideE hst
  have HD0 := hideE (show dPair s a = dPair s a from rfl)
  clear hst hT3 h
  refine (words_d b s a u0 (unhideE HS0).rd).mono ?_
  intro e w1 h2
  cases hr : (dNum s 0 8) a with
  | error q =>
    rw [hr] at h2
    have h3 := DecE.err (RW := RAgg 2 RP) h2 (unhideE HS0).gb
    obtain ⟨g1, g, rfl, g2, g3⟩ := h2
    refine ⟨rfl, ?_⟩
    have h4 := unhideE HD0
    unfold dPair at h4 ⊢
    rw [hr]
    exact h3
  | ok p =>
    obtain ⟨x0, a1⟩ := p
    rw [hr] at h2
    obtain ⟨hg, v0, rfl, hv, hR⟩ := h2
    have hsz := hg.size
    have hv' : v0 = .int .i64 x0 := hv
    subst hv'
    clear hv
    have hst := (unhideE HS0).call hR hg
    have cc := hst.cell 0 _ rfl
    have ff := hst.fz 0
    have HS1 := hideE (show St w (w1.setCell ⟨T3, 0, none⟩ (.int .i64 x0)) b w.heap.size T3 s a1 82 #[.int .i64 0, .int .i64 0] #[.int .i64 x0, .int .i64 0] from hst.set 0 _)
    have hl1 := (unhideE HS1).lt
    have h4 := unhideE HD0
    conv at h4 => rhs; unfold dPair
    rw [hr] at h4
    simp only [dBind_ok] at h4
    have HD1 := hideE h4
    clear h4 hr hst hg hR HS0 HD0 hsz
    go_wp2_with fail
    clear cc ff
    refine (anyByte_d b s a1 (w1.setCell ⟨T3, 0, none⟩ (.int .i64 x0)) (unhideE HS1).rd).mono ?_
    intro e w2 h2
    cases hr : (dNum s 0 255) a1 with
    | error q =>
      rw [hr] at h2
      have h3 := DecE.err (RW := RAgg 2 RP) h2 (unhideE HS1).gb
      obtain ⟨g1, g, rfl, g2, g3⟩ := h2
      refine ⟨rfl, ?_⟩
      have h4 := unhideE HD1
      rw [hr, dBind_err] at h4
      rw [h4]
      exact h3
    | ok p =>
      obtain ⟨x1, a2⟩ := p
      rw [hr] at h2
      obtain ⟨hg, v1, rfl, hv, hR⟩ := h2
      have hsz := hg.size
      have hv' : v1 = .int .i64 x1 := hv
      subst hv'
      clear hv
      have hst := (unhideE HS1).call hR hg
      have cc := hst.cell 1 _ rfl
      have ff := hst.fz 1
      have HS2 := hideE (show St w (w2.setCell ⟨T3, 1, none⟩ (.int .i64 x1)) b w.heap.size T3 s a2 82 #[.int .i64 0, .int .i64 0] #[.int .i64 x0, .int .i64 x1] from hst.set 1 _)
      have hl2 := (unhideE HS2).lt
      have h4 := unhideE HD1
      rw [hr] at h4
      simp only [dBind_ok] at h4
      have HD2 := hideE h4
      clear h4 hr hst hg hR HS1 HD1 hsz
      have HR2 := hideE (unhideE HS2).r2
      have HR3 := hideE (unhideE HS2).r3
      go_wp2_with (first | (refine wpList_load_row rfl 82 (.tmp 3) rfl T3 rfl 82 #[.int .i64 x0, .int .i64 x1] (0, 0) _ (unhideE HR3) Tryd.underlying82 rfl (Tryd.infArgs.trans rfl) ?_) | (refine wpList_store_row rfl 82 (.tmp 2) (.tmp 10) rfl w.heap.size #[.int .i64 x0, .int .i64 x1] rfl rfl 82 _ (unhideE HR2) (Tryd.infArgs.trans rfl) rfl (by simp [Value.oneCell']) ?_))
      refine bodyPost_ret (results_cell (fn := Tryd.f91) (q := 2) (uy := 82) rfl _ _ w.heap.size 82 #[.int .i64 x0, .int .i64 x1] (0, 0) _ rfl (setRow_heap _ _ _ _ _ _ (unhideE HR2)) Tryd.underlying82 rfl (Tryd.infArgs.trans rfl)) rfl ?_
      rw [unhideE HD2]
      have hs := unhideE HS2
      exact ⟨gb_setRowAt hs.gb (Nat.le_refl _) _, _, rfl, ⟨#[.int .i64 x0, .int .i64 x1], rfl, rfl, by simp [Value.oneCell'], rfl⟩, hs.rd.blk (setRow_other _ _ _ _ (by omega))⟩
set_option maxHeartbeats 4000000 in
set_option maxRecDepth 100000 in
theorem sig_d (b : Nat) (s : ByteArray) (a : Nat) (w : World) (h : Rd w b s a) : Calls Tryd.prog 55 #[.pointer (some ⟨b, 0, none⟩)] w (DecE b s (RAgg 2 RSig) (dSig s a) w) := by
  have hst := St.start w b s a 53 #[.slice none 0 0, .int .i64 0] h
  obtain ⟨T3, hT3⟩ : ∃ T, T = w.heap.size + 1 := ⟨_, rfl⟩
  have hbw := h.lt
  go_enter Tryd.func55, Tryd.ntmps55
  go_wp2_with fail
  rw [← hT3] at hst ⊢
  generalize (w.alloc (.cells #[.slice none 0 0, .int .i64 0] 53)).alloc (.cells #[.slice none 0 0, .int .i64 0] 53) = u0 at hst ⊢
  have hT : w.heap.size < T3 := by omega
  have hl0 := hst.lt
  have HS0 := hideE hst
  have HD0 := hideE (show dSig s a = dSig s a from rfl)
  clear hst hT3 h
  refine (readInts_c 70 (fun _ _ => rfl) RI mono_RI (dNum s 0 8) b s a 0 8 u0 (unhideE HS0).rd (by decide) (by decide) (fun a' w' h hgw => (words_d b s a' w' h).mono fun _ _ hh => hh.imp int_one)).mono ?_
  intro e w1 h2
  cases hr : (dList s 0 8 (dNum s 0 8)) a with
  | error q =>
    rw [hr] at h2
    have h3 := DecE.err (RW := RAgg 2 RSig) h2 (unhideE HS0).gb
    obtain ⟨g1, g, rfl, g2, g3⟩ := h2
    refine ⟨rfl, ?_⟩
    have h4 := unhideE HD0
    unfold dSig at h4 ⊢
    rw [hr]
    exact h3
  | ok p =>
    obtain ⟨x0, a1⟩ := p
    rw [hr] at h2
    obtain ⟨hg, v0, rfl, hv, hR⟩ := h2
    have hsz := hg.size
    have HV0 := hideE (show RepL w1 (T3 + 1) 3 1 (RI w1 (T3 + 1)) v0 x0 from (monoV_list mono_RI) _ _ _ _ _ _ (by omega) (fun _ _ _ => rfl) hv)
    obtain ⟨vp0, vc0, hsh⟩ := hv.shape
    subst hsh
    clear hv
    have hst := (unhideE HS0).call hR hg
    have cc := hst.cell 0 _ rfl
    have ff := hst.fz 0
    have HV0 := hideE ((monoV_list mono_RI) _ _ _ _ _ _ (Nat.le_refl _) (kept_set w1 T3 0 (.slice vp0 x0.length vc0)) (unhideE HV0))
    have HS1 := hideE (show St w (w1.setCell ⟨T3, 0, none⟩ (.slice vp0 x0.length vc0)) b w.heap.size T3 s a1 53 #[.slice none 0 0, .int .i64 0] #[.slice vp0 x0.length vc0, .int .i64 0] from hst.set 0 _)
    have hl1 := (unhideE HS1).lt
    have h4 := unhideE HD0
    conv at h4 => rhs; unfold dSig
    rw [hr] at h4
    simp only [dBind_ok] at h4
    have HD1 := hideE h4
    clear h4 hr hst hg hR HS0 HD0 hsz
    go_wp2_with fail
    clear cc ff
    refine (number_d b s a1 0 4 (w1.setCell ⟨T3, 0, none⟩ (.slice vp0 x0.length vc0)) (unhideE HS1).rd (by decide)).mono ?_
    intro e w2 h2
    cases hr : (dNum s 0 4) a1 with
    | error q =>
      rw [hr] at h2
      have h3 := DecE.err (RW := RAgg 2 RSig) h2 (unhideE HS1).gb
      obtain ⟨g1, g, rfl, g2, g3⟩ := h2
      refine ⟨rfl, ?_⟩
      have h4 := unhideE HD1
      rw [hr, dBind_err] at h4
      rw [h4]
      exact h3
    | ok p =>
      obtain ⟨x1, a2⟩ := p
      rw [hr] at h2
      obtain ⟨hg, v1, rfl, hv, hR⟩ := h2
      have hsz := hg.size
      have hv' : v1 = .int .i64 x1 := hv
      subst hv'
      clear hv
      have hst := (unhideE HS1).call hR hg
      have cc := hst.cell 1 _ rfl
      have ff := hst.fz 1
      have HV0 := hideE ((monoV_list mono_RI) _ _ _ _ _ _ (Nat.le_refl _) (kept_tr ((unhideE HS1).kept hg) hsz (kept_set w2 T3 1 (.int .i64 x1))) (unhideE HV0))
      have HS2 := hideE (show St w (w2.setCell ⟨T3, 1, none⟩ (.int .i64 x1)) b w.heap.size T3 s a2 53 #[.slice none 0 0, .int .i64 0] #[.slice vp0 x0.length vc0, .int .i64 x1] from hst.set 1 _)
      have hl2 := (unhideE HS2).lt
      have h4 := unhideE HD1
      rw [hr] at h4
      simp only [dBind_ok] at h4
      have HD2 := hideE h4
      clear h4 hr hst hg hR HS1 HD1 hsz
      have HR2 := hideE (unhideE HS2).r2
      have HR3 := hideE (unhideE HS2).r3
      go_wp2_with (first | (refine wpList_load_row rfl 53 (.tmp 3) rfl T3 rfl 53 #[.slice vp0 x0.length vc0, .int .i64 x1] (0, 0) _ (unhideE HR3) Tryd.underlying53 rfl (Tryd.infSigs.trans rfl) ?_) | (refine wpList_store_row rfl 53 (.tmp 2) (.tmp 12) rfl w.heap.size #[.slice vp0 x0.length vc0, .int .i64 x1] rfl rfl 53 _ (unhideE HR2) (Tryd.infSigs.trans rfl) rfl (by simp [Value.oneCell']) ?_))
      refine bodyPost_ret (results_cell (fn := Tryd.f55) (q := 2) (uy := 53) rfl _ _ w.heap.size 53 #[.slice vp0 x0.length vc0, .int .i64 x1] (0, 0) _ rfl (setRow_heap _ _ _ _ _ _ (unhideE HR2)) Tryd.underlying53 rfl (Tryd.infSigs.trans rfl)) rfl ?_
      rw [unhideE HD2]
      have hs := unhideE HS2
      exact ⟨gb_setRowAt hs.gb (Nat.le_refl _) _, _, rfl, ⟨#[.slice vp0 x0.length vc0, .int .i64 x1], rfl, rfl, by simp [Value.oneCell'], ⟨_, rfl, ((monoV_list mono_RI) _ _ _ _ _ _ (by omega) (kept_setRow _ _ _ _ (by omega)) (unhideE HV0))⟩⟩, hs.rd.blk (setRow_other _ _ _ _ (by omega))⟩
end Go.Proofs.YthnmdbddfmgdlaaDoor
