/-
  Decodes: the reader's instruction, one declaration for each value of what is needed. Own work of the verifier.
-/
import Derived.Test.YthnmdbddfmgdlaaDoorDecF
namespace Go.Proofs.YthnmdbddfmgdlaaDoor
open Go.RowKit

theorem dBind_assoc {α β γ : Type} (m : Except Nat (α × Nat)) (k : α → Nat → Except Nat (β × Nat)) (l : β → Nat → Except Nat (γ × Nat)) : dBind (dBind m k) l = dBind m fun x a => dBind (k x a) l := by
  cases m with
  | error q => rfl
  | ok p => rfl
theorem NeedsAt.gb {w w' : World} {b : Nat} (h : NeedsAt w) (hg : w.grownBy w' (some b)) (hb : 1 < b) (hbw : b < w.heap.size) : NeedsAt w' := fun k hk => (World.cell?_of_block (a := ⟨1, k, none⟩) (hg.block 1 (by omega) (by intro e; injection e with e; omega))).trans (h k hk)
theorem monoV_u : MonoV RU := fun _ _ _ _ _ _ _ _ h => h
abbrev RepA (w : World) (B : Nat) (v : Value) (xs : List (Int × Int)) : Prop := RepL w B 82 2 (RP w B) v xs
theorem formD9 (s : ByteArray) (a a1 : Nat) (op : Int) (hd : dNum s 1 18 a = .ok (op, a1)) (hsh : shapeLs op = [68, 78]) : dIns s a = (dBind (dNum s 0 255 a1) fun x0 p0 => dBind (dOp s 8 p0) fun x1 p1 => .ok (⟨op, x0, 0, 0, x1, 0, [], []⟩, p1)) := by
  unfold dIns
  rw [hd, dBind_ok, hsh]
  simp [dParts, dPart, dBind_assoc, dBind_ok, ins0]
set_option maxHeartbeats 8000000 in
set_option maxRecDepth 100000 in
theorem insD9 (b : Nat) (s : ByteArray) (a a1 : Nat) (op : Int) (w : World) (h : Rd w b s a) (hb1 : 1 < b) (hN : NeedsAt w) (hd : dNum s 1 18 a = .ok (op, a1)) (hsh : shapeLs op = [68, 78]) (hneed : needOf op = 9) (hwd : encWidth op = 8) : Calls Tryd.prog 82 #[.pointer (some ⟨b, 0, none⟩)] w (DecE b s (RAgg 8 RIns) (dIns s a) w) := by
  obtain ⟨ho1, ho2⟩ := dNum_bd hd
  have HD0 := hideE (formD9 s a a1 op hd hsh)
  have hbw := h.lt
  have HC0 := hideE (fun X : Obj => number_d b s a 1 18 (w.alloc X) (h.alloc X) (by decide))
  rw [hd] at HC0
  have HN := hideE hN
  have HWD := hideE hwd
  clear h hd hsh hN hwd
  go_enter Tryd.func82, Tryd.ntmps82
  go_wp2_with fail
  refine (unhideE HC0 _).mono ?_
  rintro e w1 ⟨hg, v, rfl, hv, hR⟩
  have hv' : v = .int .i64 op := hv
  subst hv'
  have hz1 : w.heap.size < w1.heap.size := by have := hg.size; simp at this; omega
  have hst : St w (w1.alloc (.cells #[.int .i64 op, .int .i64 0, .int .i64 0, .int .i64 0, .int .u64 0, .int .i64 0, .slice none 0 0, .slice none 0 0] 65 (0, 0))) b w.heap.size w1.heap.size s a1 65 #[.int .i64 0, .int .i64 0, .int .i64 0, .int .i64 0, .int .u64 0, .int .i64 0, .slice none 0 0, .slice none 0 0] #[.int .i64 op, .int .i64 0, .int .i64 0, .int .i64 0, .int .u64 0, .int .i64 0, .slice none 0 0, .slice none 0 0] := ⟨hR.alloc _, gb_tr (gb_alloc w _ (some b)) (gb_tr hg (gb_alloc w1 _ (some b))), ((gb_alloc w1 _ none).block _ hz1 (by simp)).trans ((hg.block _ (by simp) (by intro e; injection e with e; omega)).trans (heap_alloc_new w _)), heap_alloc_new _ _, hbw, Nat.le_refl _, hz1⟩
  have HST := hideE hst
  clear hv hg hR HC0 hst
  go_wp2_with fail
  have hst := unhideE HST
  clear HST
  obtain ⟨T3, hT3⟩ : ∃ T, T = w1.heap.size := ⟨_, rfl⟩
  rw [← hT3] at hst hz1 ⊢
  generalize w1.alloc (.cells #[.int .i64 op, .int .i64 0, .int .i64 0, .int .i64 0, .int .u64 0, .int .i64 0, .slice none 0 0, .slice none 0 0] 65) = u0 at hst ⊢
  have hl0 := hst.lt
  have HS0 := hideE hst
  clear hst hT3
  refine (needs_c op ho1 ho2 u0 ((unhideE HN).gb (unhideE HS0).gb hb1 hbw)).mono ?_
  rintro e wx ⟨rfl, hwx⟩
  subst wx
  rw [hneed]
  go_wp2_with fail
  refine (has_c 9 1 _).mono ?_
  rintro e wx ⟨rfl, hwx⟩
  subst wx
  rw [show (bits .and .u8 9 1 != 0) = true by decide]
  go_wp2_with fail
  refine (anyByte_d b s a1 u0 (unhideE HS0).rd).mono ?_
  intro e w2 h2
  cases hr : dNum s 0 255 a1 with
  | error q =>
    rw [hr] at h2
    have h3 := DecE.err (RW := RAgg 8 RIns) h2 (unhideE HS0).gb
    obtain ⟨g1, g, rfl, g2, g3⟩ := h2
    refine ⟨rfl, ?_⟩
    have h4 := unhideE HD0
    rw [hr, dBind_err] at h4
    rw [h4]
    exact h3
  | ok p =>
    obtain ⟨x0, a2⟩ := p
    rw [hr] at h2
    obtain ⟨hg, v0, rfl, hv, hR⟩ := h2
    have hsz := hg.size
    have hv' : v0 = .int .i64 x0 := hv
    subst hv'
    clear hv
    have hst := (unhideE HS0).call hR hg
    have cc := hst.cell 1 _ rfl
    have ff := hst.fz 1
    have HS1 := hideE (show St w (w2.setCell ⟨T3, 1, none⟩ (.int .i64 x0)) b w.heap.size T3 s a2 65 #[.int .i64 0, .int .i64 0, .int .i64 0, .int .i64 0, .int .u64 0, .int .i64 0, .slice none 0 0, .slice none 0 0] #[.int .i64 op, .int .i64 x0, .int .i64 0, .int .i64 0, .int .u64 0, .int .i64 0, .slice none 0 0, .slice none 0 0] from hst.set 1 _)
    have hl1 := (unhideE HS1).lt
    have h4 := unhideE HD0
    rw [hr] at h4
    simp only [dBind_ok] at h4
    have HD1 := hideE h4
    clear h4 hr hst hg hR HS0 HD0 hsz
    go_wp2_with fail
    refine (has_c 9 2 _).mono ?_
    rintro e wx ⟨rfl, hwx⟩
    subst wx
    rw [show (bits .and .u8 9 2 != 0) = false by decide]
    go_wp2_with fail
    refine (has_c 9 4 _).mono ?_
    rintro e wx ⟨rfl, hwx⟩
    subst wx
    rw [show (bits .and .u8 9 4 != 0) = false by decide]
    go_wp2_with fail
    refine (has_c 9 8 _).mono ?_
    rintro e wx ⟨rfl, hwx⟩
    subst wx
    rw [show (bits .and .u8 9 8 != 0) = true by decide]
    have cop := (unhideE HS1).cell 0 _ rfl
    go_wp2_with fail
    clear cop
    refine (show Calls Tryd.prog _ _ _ (DecE b s RU (dOp s 8 a2) _) from (unhideE HWD) ▸ operand_d b s a2 op (w2.setCell ⟨T3, 1, none⟩ (.int .i64 x0)) (unhideE HS1).rd).mono ?_
    intro e w3 h2
    cases hr : dOp s 8 a2 with
    | error q =>
      rw [hr] at h2
      have h3 := DecE.err (RW := RAgg 8 RIns) h2 (unhideE HS1).gb
      obtain ⟨g1, g, rfl, g2, g3⟩ := h2
      refine ⟨rfl, ?_⟩
      have h4 := unhideE HD1
      rw [hr, dBind_err] at h4
      rw [h4]
      exact h3
    | ok p =>
      obtain ⟨x1, a3⟩ := p
      rw [hr] at h2
      obtain ⟨hg, v1, rfl, hv, hR⟩ := h2
      have hsz := hg.size
      have hv' : v1 = .int .u64 x1 := hv
      subst hv'
      clear hv
      have hst := (unhideE HS1).call hR hg
      have cc := hst.cell 4 _ rfl
      have ff := hst.fz 4
      have HS2 := hideE (show St w (w3.setCell ⟨T3, 4, none⟩ (.int .u64 x1)) b w.heap.size T3 s a3 65 #[.int .i64 0, .int .i64 0, .int .i64 0, .int .i64 0, .int .u64 0, .int .i64 0, .slice none 0 0, .slice none 0 0] #[.int .i64 op, .int .i64 x0, .int .i64 0, .int .i64 0, .int .u64 x1, .int .i64 0, .slice none 0 0, .slice none 0 0] from hst.set 4 _)
      have hl2 := (unhideE HS2).lt
      have h4 := unhideE HD1
      rw [hr] at h4
      simp only [dBind_ok] at h4
      have HD2 := hideE h4
      clear h4 hr hst hg hR HS1 HD1 hsz
      go_wp2_with fail
      refine (has_c 9 16 _).mono ?_
      rintro e wx ⟨rfl, hwx⟩
      subst wx
      rw [show (bits .and .u8 9 16 != 0) = false by decide]
      go_wp2_with fail
      refine (has_c 9 32 _).mono ?_
      rintro e wx ⟨rfl, hwx⟩
      subst wx
      rw [show (bits .and .u8 9 32 != 0) = false by decide]
      go_wp2_with fail
      refine (has_c 9 64 _).mono ?_
      rintro e wx ⟨rfl, hwx⟩
      subst wx
      rw [show (bits .and .u8 9 64 != 0) = false by decide]
      have HR2 := hideE (unhideE HS2).r2
      have HR3 := hideE (unhideE HS2).r3
      go_wp2_with (first | (refine wpList_load_row rfl 65 (.tmp 3) rfl T3 rfl 65 #[.int .i64 op, .int .i64 x0, .int .i64 0, .int .i64 0, .int .u64 x1, .int .i64 0, .slice none 0 0, .slice none 0 0] (0, 0) _ (unhideE HR3) Tryd.underlying65 rfl (Tryd.infInss.trans rfl) ?_) | (refine wpList_store_row rfl 65 (.tmp 2) (.tmp 52) rfl w.heap.size #[.int .i64 op, .int .i64 x0, .int .i64 0, .int .i64 0, .int .u64 x1, .int .i64 0, .slice none 0 0, .slice none 0 0] rfl rfl 65 _ (unhideE HR2) (Tryd.infInss.trans rfl) rfl (by simp [Value.oneCell']) ?_))
      refine bodyPost_ret (results_cell (fn := Tryd.f82) (q := 2) (uy := 65) rfl _ _ w.heap.size 65 #[.int .i64 op, .int .i64 x0, .int .i64 0, .int .i64 0, .int .u64 x1, .int .i64 0, .slice none 0 0, .slice none 0 0] (0, 0) _ rfl (setRow_heap _ _ _ _ _ _ (unhideE HR2)) Tryd.underlying65 rfl (Tryd.infInss.trans rfl)) rfl ?_
      rw [unhideE HD2]
      have hs := unhideE HS2
      exact ⟨gb_setRowAt hs.gb (Nat.le_refl _) _, _, rfl, ⟨#[.int .i64 op, .int .i64 x0, .int .i64 0, .int .i64 0, .int .u64 x1, .int .i64 0, .slice none 0 0, .slice none 0 0], rfl, rfl, by simp [Value.oneCell'], ⟨_, _, rfl, RepL.nil _ _ _ _ _, RepL.nil _ _ _ _ _⟩⟩, hs.rd.blk (setRow_other _ _ _ _ (by omega))⟩
theorem formD3 (s : ByteArray) (a a1 : Nat) (op : Int) (hd : dNum s 1 18 a = .ok (op, a1)) (hsh : shapeLs op = [68, 65]) : dIns s a = (dBind (dNum s 0 255 a1) fun x0 p0 => dBind (dNum s 0 255 p0) fun x1 p1 => .ok (⟨op, x0, x1, 0, 0, 0, [], []⟩, p1)) := by
  unfold dIns
  rw [hd, dBind_ok, hsh]
  simp [dParts, dPart, dBind_assoc, dBind_ok, ins0]
set_option maxHeartbeats 8000000 in
set_option maxRecDepth 100000 in
theorem insD3 (b : Nat) (s : ByteArray) (a a1 : Nat) (op : Int) (w : World) (h : Rd w b s a) (hb1 : 1 < b) (hN : NeedsAt w) (hd : dNum s 1 18 a = .ok (op, a1)) (hsh : shapeLs op = [68, 65]) (hneed : needOf op = 3) : Calls Tryd.prog 82 #[.pointer (some ⟨b, 0, none⟩)] w (DecE b s (RAgg 8 RIns) (dIns s a) w) := by
  obtain ⟨ho1, ho2⟩ := dNum_bd hd
  have HD0 := hideE (formD3 s a a1 op hd hsh)
  have hbw := h.lt
  have HC0 := hideE (fun X : Obj => number_d b s a 1 18 (w.alloc X) (h.alloc X) (by decide))
  rw [hd] at HC0
  have HN := hideE hN
  clear h hd hsh hN
  go_enter Tryd.func82, Tryd.ntmps82
  go_wp2_with fail
  refine (unhideE HC0 _).mono ?_
  rintro e w1 ⟨hg, v, rfl, hv, hR⟩
  have hv' : v = .int .i64 op := hv
  subst hv'
  have hz1 : w.heap.size < w1.heap.size := by have := hg.size; simp at this; omega
  have hst : St w (w1.alloc (.cells #[.int .i64 op, .int .i64 0, .int .i64 0, .int .i64 0, .int .u64 0, .int .i64 0, .slice none 0 0, .slice none 0 0] 65 (0, 0))) b w.heap.size w1.heap.size s a1 65 #[.int .i64 0, .int .i64 0, .int .i64 0, .int .i64 0, .int .u64 0, .int .i64 0, .slice none 0 0, .slice none 0 0] #[.int .i64 op, .int .i64 0, .int .i64 0, .int .i64 0, .int .u64 0, .int .i64 0, .slice none 0 0, .slice none 0 0] := ⟨hR.alloc _, gb_tr (gb_alloc w _ (some b)) (gb_tr hg (gb_alloc w1 _ (some b))), ((gb_alloc w1 _ none).block _ hz1 (by simp)).trans ((hg.block _ (by simp) (by intro e; injection e with e; omega)).trans (heap_alloc_new w _)), heap_alloc_new _ _, hbw, Nat.le_refl _, hz1⟩
  have HST := hideE hst
  clear hv hg hR HC0 hst
  go_wp2_with fail
  have hst := unhideE HST
  clear HST
  obtain ⟨T3, hT3⟩ : ∃ T, T = w1.heap.size := ⟨_, rfl⟩
  rw [← hT3] at hst hz1 ⊢
  generalize w1.alloc (.cells #[.int .i64 op, .int .i64 0, .int .i64 0, .int .i64 0, .int .u64 0, .int .i64 0, .slice none 0 0, .slice none 0 0] 65) = u0 at hst ⊢
  have hl0 := hst.lt
  have HS0 := hideE hst
  clear hst hT3
  refine (needs_c op ho1 ho2 u0 ((unhideE HN).gb (unhideE HS0).gb hb1 hbw)).mono ?_
  rintro e wx ⟨rfl, hwx⟩
  subst wx
  rw [hneed]
  go_wp2_with fail
  refine (has_c 3 1 _).mono ?_
  rintro e wx ⟨rfl, hwx⟩
  subst wx
  rw [show (bits .and .u8 3 1 != 0) = true by decide]
  go_wp2_with fail
  refine (anyByte_d b s a1 u0 (unhideE HS0).rd).mono ?_
  intro e w2 h2
  cases hr : dNum s 0 255 a1 with
  | error q =>
    rw [hr] at h2
    have h3 := DecE.err (RW := RAgg 8 RIns) h2 (unhideE HS0).gb
    obtain ⟨g1, g, rfl, g2, g3⟩ := h2
    refine ⟨rfl, ?_⟩
    have h4 := unhideE HD0
    rw [hr, dBind_err] at h4
    rw [h4]
    exact h3
  | ok p =>
    obtain ⟨x0, a2⟩ := p
    rw [hr] at h2
    obtain ⟨hg, v0, rfl, hv, hR⟩ := h2
    have hsz := hg.size
    have hv' : v0 = .int .i64 x0 := hv
    subst hv'
    clear hv
    have hst := (unhideE HS0).call hR hg
    have cc := hst.cell 1 _ rfl
    have ff := hst.fz 1
    have HS1 := hideE (show St w (w2.setCell ⟨T3, 1, none⟩ (.int .i64 x0)) b w.heap.size T3 s a2 65 #[.int .i64 0, .int .i64 0, .int .i64 0, .int .i64 0, .int .u64 0, .int .i64 0, .slice none 0 0, .slice none 0 0] #[.int .i64 op, .int .i64 x0, .int .i64 0, .int .i64 0, .int .u64 0, .int .i64 0, .slice none 0 0, .slice none 0 0] from hst.set 1 _)
    have hl1 := (unhideE HS1).lt
    have h4 := unhideE HD0
    rw [hr] at h4
    simp only [dBind_ok] at h4
    have HD1 := hideE h4
    clear h4 hr hst hg hR HS0 HD0 hsz
    go_wp2_with fail
    refine (has_c 3 2 _).mono ?_
    rintro e wx ⟨rfl, hwx⟩
    subst wx
    rw [show (bits .and .u8 3 2 != 0) = true by decide]
    go_wp2_with fail
    refine (anyByte_d b s a2 (w2.setCell ⟨T3, 1, none⟩ (.int .i64 x0)) (unhideE HS1).rd).mono ?_
    intro e w3 h2
    cases hr : dNum s 0 255 a2 with
    | error q =>
      rw [hr] at h2
      have h3 := DecE.err (RW := RAgg 8 RIns) h2 (unhideE HS1).gb
      obtain ⟨g1, g, rfl, g2, g3⟩ := h2
      refine ⟨rfl, ?_⟩
      have h4 := unhideE HD1
      rw [hr, dBind_err] at h4
      rw [h4]
      exact h3
    | ok p =>
      obtain ⟨x1, a3⟩ := p
      rw [hr] at h2
      obtain ⟨hg, v1, rfl, hv, hR⟩ := h2
      have hsz := hg.size
      have hv' : v1 = .int .i64 x1 := hv
      subst hv'
      clear hv
      have hst := (unhideE HS1).call hR hg
      have cc := hst.cell 2 _ rfl
      have ff := hst.fz 2
      have HS2 := hideE (show St w (w3.setCell ⟨T3, 2, none⟩ (.int .i64 x1)) b w.heap.size T3 s a3 65 #[.int .i64 0, .int .i64 0, .int .i64 0, .int .i64 0, .int .u64 0, .int .i64 0, .slice none 0 0, .slice none 0 0] #[.int .i64 op, .int .i64 x0, .int .i64 x1, .int .i64 0, .int .u64 0, .int .i64 0, .slice none 0 0, .slice none 0 0] from hst.set 2 _)
      have hl2 := (unhideE HS2).lt
      have h4 := unhideE HD1
      rw [hr] at h4
      simp only [dBind_ok] at h4
      have HD2 := hideE h4
      clear h4 hr hst hg hR HS1 HD1 hsz
      go_wp2_with fail
      refine (has_c 3 4 _).mono ?_
      rintro e wx ⟨rfl, hwx⟩
      subst wx
      rw [show (bits .and .u8 3 4 != 0) = false by decide]
      go_wp2_with fail
      refine (has_c 3 8 _).mono ?_
      rintro e wx ⟨rfl, hwx⟩
      subst wx
      rw [show (bits .and .u8 3 8 != 0) = false by decide]
      go_wp2_with fail
      refine (has_c 3 16 _).mono ?_
      rintro e wx ⟨rfl, hwx⟩
      subst wx
      rw [show (bits .and .u8 3 16 != 0) = false by decide]
      go_wp2_with fail
      refine (has_c 3 32 _).mono ?_
      rintro e wx ⟨rfl, hwx⟩
      subst wx
      rw [show (bits .and .u8 3 32 != 0) = false by decide]
      go_wp2_with fail
      refine (has_c 3 64 _).mono ?_
      rintro e wx ⟨rfl, hwx⟩
      subst wx
      rw [show (bits .and .u8 3 64 != 0) = false by decide]
      have HR2 := hideE (unhideE HS2).r2
      have HR3 := hideE (unhideE HS2).r3
      go_wp2_with (first | (refine wpList_load_row rfl 65 (.tmp 3) rfl T3 rfl 65 #[.int .i64 op, .int .i64 x0, .int .i64 x1, .int .i64 0, .int .u64 0, .int .i64 0, .slice none 0 0, .slice none 0 0] (0, 0) _ (unhideE HR3) Tryd.underlying65 rfl (Tryd.infInss.trans rfl) ?_) | (refine wpList_store_row rfl 65 (.tmp 2) (.tmp 52) rfl w.heap.size #[.int .i64 op, .int .i64 x0, .int .i64 x1, .int .i64 0, .int .u64 0, .int .i64 0, .slice none 0 0, .slice none 0 0] rfl rfl 65 _ (unhideE HR2) (Tryd.infInss.trans rfl) rfl (by simp [Value.oneCell']) ?_))
      refine bodyPost_ret (results_cell (fn := Tryd.f82) (q := 2) (uy := 65) rfl _ _ w.heap.size 65 #[.int .i64 op, .int .i64 x0, .int .i64 x1, .int .i64 0, .int .u64 0, .int .i64 0, .slice none 0 0, .slice none 0 0] (0, 0) _ rfl (setRow_heap _ _ _ _ _ _ (unhideE HR2)) Tryd.underlying65 rfl (Tryd.infInss.trans rfl)) rfl ?_
      rw [unhideE HD2]
      have hs := unhideE HS2
      exact ⟨gb_setRowAt hs.gb (Nat.le_refl _) _, _, rfl, ⟨#[.int .i64 op, .int .i64 x0, .int .i64 x1, .int .i64 0, .int .u64 0, .int .i64 0, .slice none 0 0, .slice none 0 0], rfl, rfl, by simp [Value.oneCell'], ⟨_, _, rfl, RepL.nil _ _ _ _ _, RepL.nil _ _ _ _ _⟩⟩, hs.rd.blk (setRow_other _ _ _ _ (by omega))⟩
theorem formD7 (s : ByteArray) (a a1 : Nat) (op : Int) (hd : dNum s 1 18 a = .ok (op, a1)) (hsh : shapeLs op = [68, 65, 66]) : dIns s a = (dBind (dNum s 0 255 a1) fun x0 p0 => dBind (dNum s 0 255 p0) fun x1 p1 => dBind (dNum s 0 255 p1) fun x2 p2 => .ok (⟨op, x0, x1, x2, 0, 0, [], []⟩, p2)) := by
  unfold dIns
  rw [hd, dBind_ok, hsh]
  simp [dParts, dPart, dBind_assoc, dBind_ok, ins0]
set_option maxHeartbeats 8000000 in
set_option maxRecDepth 100000 in
theorem insD7 (b : Nat) (s : ByteArray) (a a1 : Nat) (op : Int) (w : World) (h : Rd w b s a) (hb1 : 1 < b) (hN : NeedsAt w) (hd : dNum s 1 18 a = .ok (op, a1)) (hsh : shapeLs op = [68, 65, 66]) (hneed : needOf op = 7) : Calls Tryd.prog 82 #[.pointer (some ⟨b, 0, none⟩)] w (DecE b s (RAgg 8 RIns) (dIns s a) w) := by
  obtain ⟨ho1, ho2⟩ := dNum_bd hd
  have HD0 := hideE (formD7 s a a1 op hd hsh)
  have hbw := h.lt
  have HC0 := hideE (fun X : Obj => number_d b s a 1 18 (w.alloc X) (h.alloc X) (by decide))
  rw [hd] at HC0
  have HN := hideE hN
  clear h hd hsh hN
  go_enter Tryd.func82, Tryd.ntmps82
  go_wp2_with fail
  refine (unhideE HC0 _).mono ?_
  rintro e w1 ⟨hg, v, rfl, hv, hR⟩
  have hv' : v = .int .i64 op := hv
  subst hv'
  have hz1 : w.heap.size < w1.heap.size := by have := hg.size; simp at this; omega
  have hst : St w (w1.alloc (.cells #[.int .i64 op, .int .i64 0, .int .i64 0, .int .i64 0, .int .u64 0, .int .i64 0, .slice none 0 0, .slice none 0 0] 65 (0, 0))) b w.heap.size w1.heap.size s a1 65 #[.int .i64 0, .int .i64 0, .int .i64 0, .int .i64 0, .int .u64 0, .int .i64 0, .slice none 0 0, .slice none 0 0] #[.int .i64 op, .int .i64 0, .int .i64 0, .int .i64 0, .int .u64 0, .int .i64 0, .slice none 0 0, .slice none 0 0] := ⟨hR.alloc _, gb_tr (gb_alloc w _ (some b)) (gb_tr hg (gb_alloc w1 _ (some b))), ((gb_alloc w1 _ none).block _ hz1 (by simp)).trans ((hg.block _ (by simp) (by intro e; injection e with e; omega)).trans (heap_alloc_new w _)), heap_alloc_new _ _, hbw, Nat.le_refl _, hz1⟩
  have HST := hideE hst
  clear hv hg hR HC0 hst
  go_wp2_with fail
  have hst := unhideE HST
  clear HST
  obtain ⟨T3, hT3⟩ : ∃ T, T = w1.heap.size := ⟨_, rfl⟩
  rw [← hT3] at hst hz1 ⊢
  generalize w1.alloc (.cells #[.int .i64 op, .int .i64 0, .int .i64 0, .int .i64 0, .int .u64 0, .int .i64 0, .slice none 0 0, .slice none 0 0] 65) = u0 at hst ⊢
  have hl0 := hst.lt
  have HS0 := hideE hst
  clear hst hT3
  refine (needs_c op ho1 ho2 u0 ((unhideE HN).gb (unhideE HS0).gb hb1 hbw)).mono ?_
  rintro e wx ⟨rfl, hwx⟩
  subst wx
  rw [hneed]
  go_wp2_with fail
  refine (has_c 7 1 _).mono ?_
  rintro e wx ⟨rfl, hwx⟩
  subst wx
  rw [show (bits .and .u8 7 1 != 0) = true by decide]
  go_wp2_with fail
  refine (anyByte_d b s a1 u0 (unhideE HS0).rd).mono ?_
  intro e w2 h2
  cases hr : dNum s 0 255 a1 with
  | error q =>
    rw [hr] at h2
    have h3 := DecE.err (RW := RAgg 8 RIns) h2 (unhideE HS0).gb
    obtain ⟨g1, g, rfl, g2, g3⟩ := h2
    refine ⟨rfl, ?_⟩
    have h4 := unhideE HD0
    rw [hr, dBind_err] at h4
    rw [h4]
    exact h3
  | ok p =>
    obtain ⟨x0, a2⟩ := p
    rw [hr] at h2
    obtain ⟨hg, v0, rfl, hv, hR⟩ := h2
    have hsz := hg.size
    have hv' : v0 = .int .i64 x0 := hv
    subst hv'
    clear hv
    have hst := (unhideE HS0).call hR hg
    have cc := hst.cell 1 _ rfl
    have ff := hst.fz 1
    have HS1 := hideE (show St w (w2.setCell ⟨T3, 1, none⟩ (.int .i64 x0)) b w.heap.size T3 s a2 65 #[.int .i64 0, .int .i64 0, .int .i64 0, .int .i64 0, .int .u64 0, .int .i64 0, .slice none 0 0, .slice none 0 0] #[.int .i64 op, .int .i64 x0, .int .i64 0, .int .i64 0, .int .u64 0, .int .i64 0, .slice none 0 0, .slice none 0 0] from hst.set 1 _)
    have hl1 := (unhideE HS1).lt
    have h4 := unhideE HD0
    rw [hr] at h4
    simp only [dBind_ok] at h4
    have HD1 := hideE h4
    clear h4 hr hst hg hR HS0 HD0 hsz
    go_wp2_with fail
    refine (has_c 7 2 _).mono ?_
    rintro e wx ⟨rfl, hwx⟩
    subst wx
    rw [show (bits .and .u8 7 2 != 0) = true by decide]
    go_wp2_with fail
    refine (anyByte_d b s a2 (w2.setCell ⟨T3, 1, none⟩ (.int .i64 x0)) (unhideE HS1).rd).mono ?_
    intro e w3 h2
    cases hr : dNum s 0 255 a2 with
    | error q =>
      rw [hr] at h2
      have h3 := DecE.err (RW := RAgg 8 RIns) h2 (unhideE HS1).gb
      obtain ⟨g1, g, rfl, g2, g3⟩ := h2
      refine ⟨rfl, ?_⟩
      have h4 := unhideE HD1
      rw [hr, dBind_err] at h4
      rw [h4]
      exact h3
    | ok p =>
      obtain ⟨x1, a3⟩ := p
      rw [hr] at h2
      obtain ⟨hg, v1, rfl, hv, hR⟩ := h2
      have hsz := hg.size
      have hv' : v1 = .int .i64 x1 := hv
      subst hv'
      clear hv
      have hst := (unhideE HS1).call hR hg
      have cc := hst.cell 2 _ rfl
      have ff := hst.fz 2
      have HS2 := hideE (show St w (w3.setCell ⟨T3, 2, none⟩ (.int .i64 x1)) b w.heap.size T3 s a3 65 #[.int .i64 0, .int .i64 0, .int .i64 0, .int .i64 0, .int .u64 0, .int .i64 0, .slice none 0 0, .slice none 0 0] #[.int .i64 op, .int .i64 x0, .int .i64 x1, .int .i64 0, .int .u64 0, .int .i64 0, .slice none 0 0, .slice none 0 0] from hst.set 2 _)
      have hl2 := (unhideE HS2).lt
      have h4 := unhideE HD1
      rw [hr] at h4
      simp only [dBind_ok] at h4
      have HD2 := hideE h4
      clear h4 hr hst hg hR HS1 HD1 hsz
      go_wp2_with fail
      refine (has_c 7 4 _).mono ?_
      rintro e wx ⟨rfl, hwx⟩
      subst wx
      rw [show (bits .and .u8 7 4 != 0) = true by decide]
      go_wp2_with fail
      refine (anyByte_d b s a3 (w3.setCell ⟨T3, 2, none⟩ (.int .i64 x1)) (unhideE HS2).rd).mono ?_
      intro e w4 h2
      cases hr : dNum s 0 255 a3 with
      | error q =>
        rw [hr] at h2
        have h3 := DecE.err (RW := RAgg 8 RIns) h2 (unhideE HS2).gb
        obtain ⟨g1, g, rfl, g2, g3⟩ := h2
        refine ⟨rfl, ?_⟩
        have h4 := unhideE HD2
        rw [hr, dBind_err] at h4
        rw [h4]
        exact h3
      | ok p =>
        obtain ⟨x2, a4⟩ := p
        rw [hr] at h2
        obtain ⟨hg, v2, rfl, hv, hR⟩ := h2
        have hsz := hg.size
        have hv' : v2 = .int .i64 x2 := hv
        subst hv'
        clear hv
        have hst := (unhideE HS2).call hR hg
        have cc := hst.cell 3 _ rfl
        have ff := hst.fz 3
        have HS3 := hideE (show St w (w4.setCell ⟨T3, 3, none⟩ (.int .i64 x2)) b w.heap.size T3 s a4 65 #[.int .i64 0, .int .i64 0, .int .i64 0, .int .i64 0, .int .u64 0, .int .i64 0, .slice none 0 0, .slice none 0 0] #[.int .i64 op, .int .i64 x0, .int .i64 x1, .int .i64 x2, .int .u64 0, .int .i64 0, .slice none 0 0, .slice none 0 0] from hst.set 3 _)
        have hl3 := (unhideE HS3).lt
        have h4 := unhideE HD2
        rw [hr] at h4
        simp only [dBind_ok] at h4
        have HD3 := hideE h4
        clear h4 hr hst hg hR HS2 HD2 hsz
        go_wp2_with fail
        refine (has_c 7 8 _).mono ?_
        rintro e wx ⟨rfl, hwx⟩
        subst wx
        rw [show (bits .and .u8 7 8 != 0) = false by decide]
        go_wp2_with fail
        refine (has_c 7 16 _).mono ?_
        rintro e wx ⟨rfl, hwx⟩
        subst wx
        rw [show (bits .and .u8 7 16 != 0) = false by decide]
        go_wp2_with fail
        refine (has_c 7 32 _).mono ?_
        rintro e wx ⟨rfl, hwx⟩
        subst wx
        rw [show (bits .and .u8 7 32 != 0) = false by decide]
        go_wp2_with fail
        refine (has_c 7 64 _).mono ?_
        rintro e wx ⟨rfl, hwx⟩
        subst wx
        rw [show (bits .and .u8 7 64 != 0) = false by decide]
        have HR2 := hideE (unhideE HS3).r2
        have HR3 := hideE (unhideE HS3).r3
        go_wp2_with (first | (refine wpList_load_row rfl 65 (.tmp 3) rfl T3 rfl 65 #[.int .i64 op, .int .i64 x0, .int .i64 x1, .int .i64 x2, .int .u64 0, .int .i64 0, .slice none 0 0, .slice none 0 0] (0, 0) _ (unhideE HR3) Tryd.underlying65 rfl (Tryd.infInss.trans rfl) ?_) | (refine wpList_store_row rfl 65 (.tmp 2) (.tmp 52) rfl w.heap.size #[.int .i64 op, .int .i64 x0, .int .i64 x1, .int .i64 x2, .int .u64 0, .int .i64 0, .slice none 0 0, .slice none 0 0] rfl rfl 65 _ (unhideE HR2) (Tryd.infInss.trans rfl) rfl (by simp [Value.oneCell']) ?_))
        refine bodyPost_ret (results_cell (fn := Tryd.f82) (q := 2) (uy := 65) rfl _ _ w.heap.size 65 #[.int .i64 op, .int .i64 x0, .int .i64 x1, .int .i64 x2, .int .u64 0, .int .i64 0, .slice none 0 0, .slice none 0 0] (0, 0) _ rfl (setRow_heap _ _ _ _ _ _ (unhideE HR2)) Tryd.underlying65 rfl (Tryd.infInss.trans rfl)) rfl ?_
        rw [unhideE HD3]
        have hs := unhideE HS3
        exact ⟨gb_setRowAt hs.gb (Nat.le_refl _) _, _, rfl, ⟨#[.int .i64 op, .int .i64 x0, .int .i64 x1, .int .i64 x2, .int .u64 0, .int .i64 0, .slice none 0 0, .slice none 0 0], rfl, rfl, by simp [Value.oneCell'], ⟨_, _, rfl, RepL.nil _ _ _ _ _, RepL.nil _ _ _ _ _⟩⟩, hs.rd.blk (setRow_other _ _ _ _ (by omega))⟩
theorem formD15 (s : ByteArray) (a a1 : Nat) (op : Int) (hd : dNum s 1 18 a = .ok (op, a1)) (hsh : shapeLs op = [68, 65, 66, 110]) : dIns s a = (dBind (dNum s 0 255 a1) fun x0 p0 => dBind (dNum s 0 255 p0) fun x1 p1 => dBind (dNum s 0 255 p1) fun x2 p2 => dBind (dOp s 1 p2) fun x3 p3 => .ok (⟨op, x0, x1, x2, x3, 0, [], []⟩, p3)) := by
  unfold dIns
  rw [hd, dBind_ok, hsh]
  simp [dParts, dPart, dBind_assoc, dBind_ok, ins0]
set_option maxHeartbeats 8000000 in
set_option maxRecDepth 100000 in
theorem insD15 (b : Nat) (s : ByteArray) (a a1 : Nat) (op : Int) (w : World) (h : Rd w b s a) (hb1 : 1 < b) (hN : NeedsAt w) (hd : dNum s 1 18 a = .ok (op, a1)) (hsh : shapeLs op = [68, 65, 66, 110]) (hneed : needOf op = 15) (hwd : encWidth op = 1) : Calls Tryd.prog 82 #[.pointer (some ⟨b, 0, none⟩)] w (DecE b s (RAgg 8 RIns) (dIns s a) w) := by
  obtain ⟨ho1, ho2⟩ := dNum_bd hd
  have HD0 := hideE (formD15 s a a1 op hd hsh)
  have hbw := h.lt
  have HC0 := hideE (fun X : Obj => number_d b s a 1 18 (w.alloc X) (h.alloc X) (by decide))
  rw [hd] at HC0
  have HN := hideE hN
  have HWD := hideE hwd
  clear h hd hsh hN hwd
  go_enter Tryd.func82, Tryd.ntmps82
  go_wp2_with fail
  refine (unhideE HC0 _).mono ?_
  rintro e w1 ⟨hg, v, rfl, hv, hR⟩
  have hv' : v = .int .i64 op := hv
  subst hv'
  have hz1 : w.heap.size < w1.heap.size := by have := hg.size; simp at this; omega
  have hst : St w (w1.alloc (.cells #[.int .i64 op, .int .i64 0, .int .i64 0, .int .i64 0, .int .u64 0, .int .i64 0, .slice none 0 0, .slice none 0 0] 65 (0, 0))) b w.heap.size w1.heap.size s a1 65 #[.int .i64 0, .int .i64 0, .int .i64 0, .int .i64 0, .int .u64 0, .int .i64 0, .slice none 0 0, .slice none 0 0] #[.int .i64 op, .int .i64 0, .int .i64 0, .int .i64 0, .int .u64 0, .int .i64 0, .slice none 0 0, .slice none 0 0] := ⟨hR.alloc _, gb_tr (gb_alloc w _ (some b)) (gb_tr hg (gb_alloc w1 _ (some b))), ((gb_alloc w1 _ none).block _ hz1 (by simp)).trans ((hg.block _ (by simp) (by intro e; injection e with e; omega)).trans (heap_alloc_new w _)), heap_alloc_new _ _, hbw, Nat.le_refl _, hz1⟩
  have HST := hideE hst
  clear hv hg hR HC0 hst
  go_wp2_with fail
  have hst := unhideE HST
  clear HST
  obtain ⟨T3, hT3⟩ : ∃ T, T = w1.heap.size := ⟨_, rfl⟩
  rw [← hT3] at hst hz1 ⊢
  generalize w1.alloc (.cells #[.int .i64 op, .int .i64 0, .int .i64 0, .int .i64 0, .int .u64 0, .int .i64 0, .slice none 0 0, .slice none 0 0] 65) = u0 at hst ⊢
  have hl0 := hst.lt
  have HS0 := hideE hst
  clear hst hT3
  refine (needs_c op ho1 ho2 u0 ((unhideE HN).gb (unhideE HS0).gb hb1 hbw)).mono ?_
  rintro e wx ⟨rfl, hwx⟩
  subst wx
  rw [hneed]
  go_wp2_with fail
  refine (has_c 15 1 _).mono ?_
  rintro e wx ⟨rfl, hwx⟩
  subst wx
  rw [show (bits .and .u8 15 1 != 0) = true by decide]
  go_wp2_with fail
  refine (anyByte_d b s a1 u0 (unhideE HS0).rd).mono ?_
  intro e w2 h2
  cases hr : dNum s 0 255 a1 with
  | error q =>
    rw [hr] at h2
    have h3 := DecE.err (RW := RAgg 8 RIns) h2 (unhideE HS0).gb
    obtain ⟨g1, g, rfl, g2, g3⟩ := h2
    refine ⟨rfl, ?_⟩
    have h4 := unhideE HD0
    rw [hr, dBind_err] at h4
    rw [h4]
    exact h3
  | ok p =>
    obtain ⟨x0, a2⟩ := p
    rw [hr] at h2
    obtain ⟨hg, v0, rfl, hv, hR⟩ := h2
    have hsz := hg.size
    have hv' : v0 = .int .i64 x0 := hv
    subst hv'
    clear hv
    have hst := (unhideE HS0).call hR hg
    have cc := hst.cell 1 _ rfl
    have ff := hst.fz 1
    have HS1 := hideE (show St w (w2.setCell ⟨T3, 1, none⟩ (.int .i64 x0)) b w.heap.size T3 s a2 65 #[.int .i64 0, .int .i64 0, .int .i64 0, .int .i64 0, .int .u64 0, .int .i64 0, .slice none 0 0, .slice none 0 0] #[.int .i64 op, .int .i64 x0, .int .i64 0, .int .i64 0, .int .u64 0, .int .i64 0, .slice none 0 0, .slice none 0 0] from hst.set 1 _)
    have hl1 := (unhideE HS1).lt
    have h4 := unhideE HD0
    rw [hr] at h4
    simp only [dBind_ok] at h4
    have HD1 := hideE h4
    clear h4 hr hst hg hR HS0 HD0 hsz
    go_wp2_with fail
    refine (has_c 15 2 _).mono ?_
    rintro e wx ⟨rfl, hwx⟩
    subst wx
    rw [show (bits .and .u8 15 2 != 0) = true by decide]
    go_wp2_with fail
    refine (anyByte_d b s a2 (w2.setCell ⟨T3, 1, none⟩ (.int .i64 x0)) (unhideE HS1).rd).mono ?_
    intro e w3 h2
    cases hr : dNum s 0 255 a2 with
    | error q =>
      rw [hr] at h2
      have h3 := DecE.err (RW := RAgg 8 RIns) h2 (unhideE HS1).gb
      obtain ⟨g1, g, rfl, g2, g3⟩ := h2
      refine ⟨rfl, ?_⟩
      have h4 := unhideE HD1
      rw [hr, dBind_err] at h4
      rw [h4]
      exact h3
    | ok p =>
      obtain ⟨x1, a3⟩ := p
      rw [hr] at h2
      obtain ⟨hg, v1, rfl, hv, hR⟩ := h2
      have hsz := hg.size
      have hv' : v1 = .int .i64 x1 := hv
      subst hv'
      clear hv
      have hst := (unhideE HS1).call hR hg
      have cc := hst.cell 2 _ rfl
      have ff := hst.fz 2
      have HS2 := hideE (show St w (w3.setCell ⟨T3, 2, none⟩ (.int .i64 x1)) b w.heap.size T3 s a3 65 #[.int .i64 0, .int .i64 0, .int .i64 0, .int .i64 0, .int .u64 0, .int .i64 0, .slice none 0 0, .slice none 0 0] #[.int .i64 op, .int .i64 x0, .int .i64 x1, .int .i64 0, .int .u64 0, .int .i64 0, .slice none 0 0, .slice none 0 0] from hst.set 2 _)
      have hl2 := (unhideE HS2).lt
      have h4 := unhideE HD1
      rw [hr] at h4
      simp only [dBind_ok] at h4
      have HD2 := hideE h4
      clear h4 hr hst hg hR HS1 HD1 hsz
      go_wp2_with fail
      refine (has_c 15 4 _).mono ?_
      rintro e wx ⟨rfl, hwx⟩
      subst wx
      rw [show (bits .and .u8 15 4 != 0) = true by decide]
      go_wp2_with fail
      refine (anyByte_d b s a3 (w3.setCell ⟨T3, 2, none⟩ (.int .i64 x1)) (unhideE HS2).rd).mono ?_
      intro e w4 h2
      cases hr : dNum s 0 255 a3 with
      | error q =>
        rw [hr] at h2
        have h3 := DecE.err (RW := RAgg 8 RIns) h2 (unhideE HS2).gb
        obtain ⟨g1, g, rfl, g2, g3⟩ := h2
        refine ⟨rfl, ?_⟩
        have h4 := unhideE HD2
        rw [hr, dBind_err] at h4
        rw [h4]
        exact h3
      | ok p =>
        obtain ⟨x2, a4⟩ := p
        rw [hr] at h2
        obtain ⟨hg, v2, rfl, hv, hR⟩ := h2
        have hsz := hg.size
        have hv' : v2 = .int .i64 x2 := hv
        subst hv'
        clear hv
        have hst := (unhideE HS2).call hR hg
        have cc := hst.cell 3 _ rfl
        have ff := hst.fz 3
        have HS3 := hideE (show St w (w4.setCell ⟨T3, 3, none⟩ (.int .i64 x2)) b w.heap.size T3 s a4 65 #[.int .i64 0, .int .i64 0, .int .i64 0, .int .i64 0, .int .u64 0, .int .i64 0, .slice none 0 0, .slice none 0 0] #[.int .i64 op, .int .i64 x0, .int .i64 x1, .int .i64 x2, .int .u64 0, .int .i64 0, .slice none 0 0, .slice none 0 0] from hst.set 3 _)
        have hl3 := (unhideE HS3).lt
        have h4 := unhideE HD2
        rw [hr] at h4
        simp only [dBind_ok] at h4
        have HD3 := hideE h4
        clear h4 hr hst hg hR HS2 HD2 hsz
        go_wp2_with fail
        refine (has_c 15 8 _).mono ?_
        rintro e wx ⟨rfl, hwx⟩
        subst wx
        rw [show (bits .and .u8 15 8 != 0) = true by decide]
        have cop := (unhideE HS3).cell 0 _ rfl
        go_wp2_with fail
        clear cop
        refine (show Calls Tryd.prog _ _ _ (DecE b s RU (dOp s 1 a4) _) from (unhideE HWD) ▸ operand_d b s a4 op (w4.setCell ⟨T3, 3, none⟩ (.int .i64 x2)) (unhideE HS3).rd).mono ?_
        intro e w5 h2
        cases hr : dOp s 1 a4 with
        | error q =>
          rw [hr] at h2
          have h3 := DecE.err (RW := RAgg 8 RIns) h2 (unhideE HS3).gb
          obtain ⟨g1, g, rfl, g2, g3⟩ := h2
          refine ⟨rfl, ?_⟩
          have h4 := unhideE HD3
          rw [hr, dBind_err] at h4
          rw [h4]
          exact h3
        | ok p =>
          obtain ⟨x3, a5⟩ := p
          rw [hr] at h2
          obtain ⟨hg, v3, rfl, hv, hR⟩ := h2
          have hsz := hg.size
          have hv' : v3 = .int .u64 x3 := hv
          subst hv'
          clear hv
          have hst := (unhideE HS3).call hR hg
          have cc := hst.cell 4 _ rfl
          have ff := hst.fz 4
          have HS4 := hideE (show St w (w5.setCell ⟨T3, 4, none⟩ (.int .u64 x3)) b w.heap.size T3 s a5 65 #[.int .i64 0, .int .i64 0, .int .i64 0, .int .i64 0, .int .u64 0, .int .i64 0, .slice none 0 0, .slice none 0 0] #[.int .i64 op, .int .i64 x0, .int .i64 x1, .int .i64 x2, .int .u64 x3, .int .i64 0, .slice none 0 0, .slice none 0 0] from hst.set 4 _)
          have hl4 := (unhideE HS4).lt
          have h4 := unhideE HD3
          rw [hr] at h4
          simp only [dBind_ok] at h4
          have HD4 := hideE h4
          clear h4 hr hst hg hR HS3 HD3 hsz
          go_wp2_with fail
          refine (has_c 15 16 _).mono ?_
          rintro e wx ⟨rfl, hwx⟩
          subst wx
          rw [show (bits .and .u8 15 16 != 0) = false by decide]
          go_wp2_with fail
          refine (has_c 15 32 _).mono ?_
          rintro e wx ⟨rfl, hwx⟩
          subst wx
          rw [show (bits .and .u8 15 32 != 0) = false by decide]
          go_wp2_with fail
          refine (has_c 15 64 _).mono ?_
          rintro e wx ⟨rfl, hwx⟩
          subst wx
          rw [show (bits .and .u8 15 64 != 0) = false by decide]
          have HR2 := hideE (unhideE HS4).r2
          have HR3 := hideE (unhideE HS4).r3
          go_wp2_with (first | (refine wpList_load_row rfl 65 (.tmp 3) rfl T3 rfl 65 #[.int .i64 op, .int .i64 x0, .int .i64 x1, .int .i64 x2, .int .u64 x3, .int .i64 0, .slice none 0 0, .slice none 0 0] (0, 0) _ (unhideE HR3) Tryd.underlying65 rfl (Tryd.infInss.trans rfl) ?_) | (refine wpList_store_row rfl 65 (.tmp 2) (.tmp 52) rfl w.heap.size #[.int .i64 op, .int .i64 x0, .int .i64 x1, .int .i64 x2, .int .u64 x3, .int .i64 0, .slice none 0 0, .slice none 0 0] rfl rfl 65 _ (unhideE HR2) (Tryd.infInss.trans rfl) rfl (by simp [Value.oneCell']) ?_))
          refine bodyPost_ret (results_cell (fn := Tryd.f82) (q := 2) (uy := 65) rfl _ _ w.heap.size 65 #[.int .i64 op, .int .i64 x0, .int .i64 x1, .int .i64 x2, .int .u64 x3, .int .i64 0, .slice none 0 0, .slice none 0 0] (0, 0) _ rfl (setRow_heap _ _ _ _ _ _ (unhideE HR2)) Tryd.underlying65 rfl (Tryd.infInss.trans rfl)) rfl ?_
          rw [unhideE HD4]
          have hs := unhideE HS4
          exact ⟨gb_setRowAt hs.gb (Nat.le_refl _) _, _, rfl, ⟨#[.int .i64 op, .int .i64 x0, .int .i64 x1, .int .i64 x2, .int .u64 x3, .int .i64 0, .slice none 0 0, .slice none 0 0], rfl, rfl, by simp [Value.oneCell'], ⟨_, _, rfl, RepL.nil _ _ _ _ _, RepL.nil _ _ _ _ _⟩⟩, hs.rd.blk (setRow_other _ _ _ _ (by omega))⟩
theorem formD112 (s : ByteArray) (a a1 : Nat) (op : Int) (hd : dNum s 1 18 a = .ok (op, a1)) (hsh : shapeLs op = [70, 82, 79]) : dIns s a = (dBind (dNum s 0 255 a1) fun x0 p0 => dBind (dList s 0 8 (dPair s) p0) fun x1 p1 => dBind (dList s 0 4 (dNum s 0 255) p1) fun x2 p2 => .ok (⟨op, 0, 0, 0, 0, x0, x1, x2⟩, p2)) := by
  unfold dIns
  rw [hd, dBind_ok, hsh]
  simp [dParts, dPart, dBind_assoc, dBind_ok, ins0]
set_option maxHeartbeats 8000000 in
set_option maxRecDepth 100000 in
theorem insD112 (b : Nat) (s : ByteArray) (a a1 : Nat) (op : Int) (w : World) (h : Rd w b s a) (hb1 : 1 < b) (hN : NeedsAt w) (hd : dNum s 1 18 a = .ok (op, a1)) (hsh : shapeLs op = [70, 82, 79]) (hneed : needOf op = 112) : Calls Tryd.prog 82 #[.pointer (some ⟨b, 0, none⟩)] w (DecE b s (RAgg 8 RIns) (dIns s a) w) := by
  obtain ⟨ho1, ho2⟩ := dNum_bd hd
  have HD0 := hideE (formD112 s a a1 op hd hsh)
  have hbw := h.lt
  have HC0 := hideE (fun X : Obj => number_d b s a 1 18 (w.alloc X) (h.alloc X) (by decide))
  rw [hd] at HC0
  have HN := hideE hN
  clear h hd hsh hN
  go_enter Tryd.func82, Tryd.ntmps82
  go_wp2_with fail
  refine (unhideE HC0 _).mono ?_
  rintro e w1 ⟨hg, v, rfl, hv, hR⟩
  have hv' : v = .int .i64 op := hv
  subst hv'
  have hz1 : w.heap.size < w1.heap.size := by have := hg.size; simp at this; omega
  have hst : St w (w1.alloc (.cells #[.int .i64 op, .int .i64 0, .int .i64 0, .int .i64 0, .int .u64 0, .int .i64 0, .slice none 0 0, .slice none 0 0] 65 (0, 0))) b w.heap.size w1.heap.size s a1 65 #[.int .i64 0, .int .i64 0, .int .i64 0, .int .i64 0, .int .u64 0, .int .i64 0, .slice none 0 0, .slice none 0 0] #[.int .i64 op, .int .i64 0, .int .i64 0, .int .i64 0, .int .u64 0, .int .i64 0, .slice none 0 0, .slice none 0 0] := ⟨hR.alloc _, gb_tr (gb_alloc w _ (some b)) (gb_tr hg (gb_alloc w1 _ (some b))), ((gb_alloc w1 _ none).block _ hz1 (by simp)).trans ((hg.block _ (by simp) (by intro e; injection e with e; omega)).trans (heap_alloc_new w _)), heap_alloc_new _ _, hbw, Nat.le_refl _, hz1⟩
  have HST := hideE hst
  clear hv hg hR HC0 hst
  go_wp2_with fail
  have hst := unhideE HST
  clear HST
  obtain ⟨T3, hT3⟩ : ∃ T, T = w1.heap.size := ⟨_, rfl⟩
  rw [← hT3] at hst hz1 ⊢
  generalize w1.alloc (.cells #[.int .i64 op, .int .i64 0, .int .i64 0, .int .i64 0, .int .u64 0, .int .i64 0, .slice none 0 0, .slice none 0 0] 65) = u0 at hst ⊢
  have hl0 := hst.lt
  have HS0 := hideE hst
  clear hst hT3
  refine (needs_c op ho1 ho2 u0 ((unhideE HN).gb (unhideE HS0).gb hb1 hbw)).mono ?_
  rintro e wx ⟨rfl, hwx⟩
  subst wx
  rw [hneed]
  go_wp2_with fail
  refine (has_c 112 1 _).mono ?_
  rintro e wx ⟨rfl, hwx⟩
  subst wx
  rw [show (bits .and .u8 112 1 != 0) = false by decide]
  go_wp2_with fail
  refine (has_c 112 2 _).mono ?_
  rintro e wx ⟨rfl, hwx⟩
  subst wx
  rw [show (bits .and .u8 112 2 != 0) = false by decide]
  go_wp2_with fail
  refine (has_c 112 4 _).mono ?_
  rintro e wx ⟨rfl, hwx⟩
  subst wx
  rw [show (bits .and .u8 112 4 != 0) = false by decide]
  go_wp2_with fail
  refine (has_c 112 8 _).mono ?_
  rintro e wx ⟨rfl, hwx⟩
  subst wx
  rw [show (bits .and .u8 112 8 != 0) = false by decide]
  go_wp2_with fail
  refine (has_c 112 16 _).mono ?_
  rintro e wx ⟨rfl, hwx⟩
  subst wx
  rw [show (bits .and .u8 112 16 != 0) = true by decide]
  go_wp2_with fail
  refine (anyByte_d b s a1 u0 (unhideE HS0).rd).mono ?_
  intro e w2 h2
  cases hr : dNum s 0 255 a1 with
  | error q =>
    rw [hr] at h2
    have h3 := DecE.err (RW := RAgg 8 RIns) h2 (unhideE HS0).gb
    obtain ⟨g1, g, rfl, g2, g3⟩ := h2
    refine ⟨rfl, ?_⟩
    have h4 := unhideE HD0
    rw [hr, dBind_err] at h4
    rw [h4]
    exact h3
  | ok p =>
    obtain ⟨x0, a2⟩ := p
    rw [hr] at h2
    obtain ⟨hg, v0, rfl, hv, hR⟩ := h2
    have hsz := hg.size
    have hv' : v0 = .int .i64 x0 := hv
    subst hv'
    clear hv
    have hst := (unhideE HS0).call hR hg
    have cc := hst.cell 5 _ rfl
    have ff := hst.fz 5
    have HS1 := hideE (show St w (w2.setCell ⟨T3, 5, none⟩ (.int .i64 x0)) b w.heap.size T3 s a2 65 #[.int .i64 0, .int .i64 0, .int .i64 0, .int .i64 0, .int .u64 0, .int .i64 0, .slice none 0 0, .slice none 0 0] #[.int .i64 op, .int .i64 0, .int .i64 0, .int .i64 0, .int .u64 0, .int .i64 x0, .slice none 0 0, .slice none 0 0] from hst.set 5 _)
    have hl1 := (unhideE HS1).lt
    have h4 := unhideE HD0
    rw [hr] at h4
    simp only [dBind_ok] at h4
    have HD1 := hideE h4
    clear h4 hr hst hg hR HS0 HD0 hsz
    go_wp2_with fail
    refine (has_c 112 32 _).mono ?_
    rintro e wx ⟨rfl, hwx⟩
    subst wx
    rw [show (bits .and .u8 112 32 != 0) = true by decide]
    go_wp2_with fail
    refine (readArgs_c 91 (fun _ _ => rfl) RP mono_RP (dPair s) b s a2 0 8 (w2.setCell ⟨T3, 5, none⟩ (.int .i64 x0)) (unhideE HS1).rd (by decide) (by decide) (fun a' w' h _ => arg_d b s a' w' h)).mono ?_
    intro e w3 h2
    cases hr : dList s 0 8 (dPair s) a2 with
    | error q =>
      rw [hr] at h2
      have h3 := DecE.err (RW := RAgg 8 RIns) h2 (unhideE HS1).gb
      obtain ⟨g1, g, rfl, g2, g3⟩ := h2
      refine ⟨rfl, ?_⟩
      have h4 := unhideE HD1
      rw [hr, dBind_err] at h4
      rw [h4]
      exact h3
    | ok p =>
      obtain ⟨x1, a3⟩ := p
      rw [hr] at h2
      obtain ⟨hg, v1, rfl, hv, hR⟩ := h2
      have hsz := hg.size
      have HV1 := hideE (show RepA w3 (T3 + 1) v1 x1 from (monoV_list mono_RP) _ _ _ _ _ _ (by omega) (fun _ _ _ => rfl) hv)
      obtain ⟨vp1, vc1, hsh⟩ := hv.shape
      subst hsh
      clear hv
      have hst := (unhideE HS1).call hR hg
      have cc := hst.cell 6 _ rfl
      have ff := hst.fz 6
      have HV1 := hideE ((monoV_list mono_RP) _ _ _ _ _ _ (Nat.le_refl _) (kept_set w3 T3 6 (.slice vp1 x1.length vc1)) (unhideE HV1))
      have HS2 := hideE (show St w (w3.setCell ⟨T3, 6, none⟩ (.slice vp1 x1.length vc1)) b w.heap.size T3 s a3 65 #[.int .i64 0, .int .i64 0, .int .i64 0, .int .i64 0, .int .u64 0, .int .i64 0, .slice none 0 0, .slice none 0 0] #[.int .i64 op, .int .i64 0, .int .i64 0, .int .i64 0, .int .u64 0, .int .i64 x0, .slice vp1 x1.length vc1, .slice none 0 0] from hst.set 6 _)
      have hl2 := (unhideE HS2).lt
      have h4 := unhideE HD1
      rw [hr] at h4
      simp only [dBind_ok] at h4
      have HD2 := hideE h4
      clear h4 hr hst hg hR HS1 HD1 hsz
      go_wp2_with fail
      refine (has_c 112 64 _).mono ?_
      rintro e wx ⟨rfl, hwx⟩
      subst wx
      rw [show (bits .and .u8 112 64 != 0) = true by decide]
      go_wp2_with fail
      refine (readInts_c 80 (fun _ _ => rfl) RI mono_RI (dNum s 0 255) b s a3 0 4 (w3.setCell ⟨T3, 6, none⟩ (.slice vp1 x1.length vc1)) (unhideE HS2).rd (by decide) (by decide) (fun a' w' h _ => (anyByte_d b s a' w' h).mono fun _ _ hh => hh.imp int_one)).mono ?_
      intro e w4 h2
      cases hr : dList s 0 4 (dNum s 0 255) a3 with
      | error q =>
        rw [hr] at h2
        have h3 := DecE.err (RW := RAgg 8 RIns) h2 (unhideE HS2).gb
        obtain ⟨g1, g, rfl, g2, g3⟩ := h2
        refine ⟨rfl, ?_⟩
        have h4 := unhideE HD2
        rw [hr, dBind_err] at h4
        rw [h4]
        exact h3
      | ok p =>
        obtain ⟨x2, a4⟩ := p
        rw [hr] at h2
        obtain ⟨hg, v2, rfl, hv, hR⟩ := h2
        have hsz := hg.size
        have HV2 := hideE (show RepI w4 (T3 + 1) v2 x2 from (monoV_list mono_RI) _ _ _ _ _ _ (by omega) (fun _ _ _ => rfl) hv)
        obtain ⟨vp2, vc2, hsh⟩ := hv.shape
        subst hsh
        clear hv
        have hst := (unhideE HS2).call hR hg
        have cc := hst.cell 7 _ rfl
        have ff := hst.fz 7
        have HV1 := hideE ((monoV_list mono_RP) _ _ _ _ _ _ (Nat.le_refl _) (kept_tr ((unhideE HS2).kept hg) hsz (kept_set w4 T3 7 (.slice vp2 x2.length vc2))) (unhideE HV1))
        have HV2 := hideE ((monoV_list mono_RI) _ _ _ _ _ _ (Nat.le_refl _) (kept_set w4 T3 7 (.slice vp2 x2.length vc2)) (unhideE HV2))
        have HS3 := hideE (show St w (w4.setCell ⟨T3, 7, none⟩ (.slice vp2 x2.length vc2)) b w.heap.size T3 s a4 65 #[.int .i64 0, .int .i64 0, .int .i64 0, .int .i64 0, .int .u64 0, .int .i64 0, .slice none 0 0, .slice none 0 0] #[.int .i64 op, .int .i64 0, .int .i64 0, .int .i64 0, .int .u64 0, .int .i64 x0, .slice vp1 x1.length vc1, .slice vp2 x2.length vc2] from hst.set 7 _)
        have hl3 := (unhideE HS3).lt
        have h4 := unhideE HD2
        rw [hr] at h4
        simp only [dBind_ok] at h4
        have HD3 := hideE h4
        clear h4 hr hst hg hR HS2 HD2 hsz
        have HR2 := hideE (unhideE HS3).r2
        have HR3 := hideE (unhideE HS3).r3
        go_wp2_with (first | (refine wpList_load_row rfl 65 (.tmp 3) rfl T3 rfl 65 #[.int .i64 op, .int .i64 0, .int .i64 0, .int .i64 0, .int .u64 0, .int .i64 x0, .slice vp1 x1.length vc1, .slice vp2 x2.length vc2] (0, 0) _ (unhideE HR3) Tryd.underlying65 rfl (Tryd.infInss.trans rfl) ?_) | (refine wpList_store_row rfl 65 (.tmp 2) (.tmp 52) rfl w.heap.size #[.int .i64 op, .int .i64 0, .int .i64 0, .int .i64 0, .int .u64 0, .int .i64 x0, .slice vp1 x1.length vc1, .slice vp2 x2.length vc2] rfl rfl 65 _ (unhideE HR2) (Tryd.infInss.trans rfl) rfl (by simp [Value.oneCell']) ?_))
        refine bodyPost_ret (results_cell (fn := Tryd.f82) (q := 2) (uy := 65) rfl _ _ w.heap.size 65 #[.int .i64 op, .int .i64 0, .int .i64 0, .int .i64 0, .int .u64 0, .int .i64 x0, .slice vp1 x1.length vc1, .slice vp2 x2.length vc2] (0, 0) _ rfl (setRow_heap _ _ _ _ _ _ (unhideE HR2)) Tryd.underlying65 rfl (Tryd.infInss.trans rfl)) rfl ?_
        rw [unhideE HD3]
        have hs := unhideE HS3
        exact ⟨gb_setRowAt hs.gb (Nat.le_refl _) _, _, rfl, ⟨#[.int .i64 op, .int .i64 0, .int .i64 0, .int .i64 0, .int .u64 0, .int .i64 x0, .slice vp1 x1.length vc1, .slice vp2 x2.length vc2], rfl, rfl, by simp [Value.oneCell'], ⟨_, _, rfl, ((monoV_list mono_RP) _ _ _ _ _ _ (by omega) (kept_setRow _ _ _ _ (by omega)) (unhideE HV1)), ((monoV_list mono_RI) _ _ _ _ _ _ (by omega) (kept_setRow _ _ _ _ (by omega)) (unhideE HV2))⟩⟩, hs.rd.blk (setRow_other _ _ _ _ (by omega))⟩
theorem formD2 (s : ByteArray) (a a1 : Nat) (op : Int) (hd : dNum s 1 18 a = .ok (op, a1)) (hsh : shapeLs op = [65]) : dIns s a = (dBind (dNum s 0 255 a1) fun x0 p0 => .ok (⟨op, 0, x0, 0, 0, 0, [], []⟩, p0)) := by
  unfold dIns
  rw [hd, dBind_ok, hsh]
  simp [dParts, dPart, dBind_assoc, dBind_ok, ins0]
set_option maxHeartbeats 8000000 in
set_option maxRecDepth 100000 in
theorem insD2 (b : Nat) (s : ByteArray) (a a1 : Nat) (op : Int) (w : World) (h : Rd w b s a) (hb1 : 1 < b) (hN : NeedsAt w) (hd : dNum s 1 18 a = .ok (op, a1)) (hsh : shapeLs op = [65]) (hneed : needOf op = 2) : Calls Tryd.prog 82 #[.pointer (some ⟨b, 0, none⟩)] w (DecE b s (RAgg 8 RIns) (dIns s a) w) := by
  obtain ⟨ho1, ho2⟩ := dNum_bd hd
  have HD0 := hideE (formD2 s a a1 op hd hsh)
  have hbw := h.lt
  have HC0 := hideE (fun X : Obj => number_d b s a 1 18 (w.alloc X) (h.alloc X) (by decide))
  rw [hd] at HC0
  have HN := hideE hN
  clear h hd hsh hN
  go_enter Tryd.func82, Tryd.ntmps82
  go_wp2_with fail
  refine (unhideE HC0 _).mono ?_
  rintro e w1 ⟨hg, v, rfl, hv, hR⟩
  have hv' : v = .int .i64 op := hv
  subst hv'
  have hz1 : w.heap.size < w1.heap.size := by have := hg.size; simp at this; omega
  have hst : St w (w1.alloc (.cells #[.int .i64 op, .int .i64 0, .int .i64 0, .int .i64 0, .int .u64 0, .int .i64 0, .slice none 0 0, .slice none 0 0] 65 (0, 0))) b w.heap.size w1.heap.size s a1 65 #[.int .i64 0, .int .i64 0, .int .i64 0, .int .i64 0, .int .u64 0, .int .i64 0, .slice none 0 0, .slice none 0 0] #[.int .i64 op, .int .i64 0, .int .i64 0, .int .i64 0, .int .u64 0, .int .i64 0, .slice none 0 0, .slice none 0 0] := ⟨hR.alloc _, gb_tr (gb_alloc w _ (some b)) (gb_tr hg (gb_alloc w1 _ (some b))), ((gb_alloc w1 _ none).block _ hz1 (by simp)).trans ((hg.block _ (by simp) (by intro e; injection e with e; omega)).trans (heap_alloc_new w _)), heap_alloc_new _ _, hbw, Nat.le_refl _, hz1⟩
  have HST := hideE hst
  clear hv hg hR HC0 hst
  go_wp2_with fail
  have hst := unhideE HST
  clear HST
  obtain ⟨T3, hT3⟩ : ∃ T, T = w1.heap.size := ⟨_, rfl⟩
  rw [← hT3] at hst hz1 ⊢
  generalize w1.alloc (.cells #[.int .i64 op, .int .i64 0, .int .i64 0, .int .i64 0, .int .u64 0, .int .i64 0, .slice none 0 0, .slice none 0 0] 65) = u0 at hst ⊢
  have hl0 := hst.lt
  have HS0 := hideE hst
  clear hst hT3
  refine (needs_c op ho1 ho2 u0 ((unhideE HN).gb (unhideE HS0).gb hb1 hbw)).mono ?_
  rintro e wx ⟨rfl, hwx⟩
  subst wx
  rw [hneed]
  go_wp2_with fail
  refine (has_c 2 1 _).mono ?_
  rintro e wx ⟨rfl, hwx⟩
  subst wx
  rw [show (bits .and .u8 2 1 != 0) = false by decide]
  go_wp2_with fail
  refine (has_c 2 2 _).mono ?_
  rintro e wx ⟨rfl, hwx⟩
  subst wx
  rw [show (bits .and .u8 2 2 != 0) = true by decide]
  go_wp2_with fail
  refine (anyByte_d b s a1 u0 (unhideE HS0).rd).mono ?_
  intro e w2 h2
  cases hr : dNum s 0 255 a1 with
  | error q =>
    rw [hr] at h2
    have h3 := DecE.err (RW := RAgg 8 RIns) h2 (unhideE HS0).gb
    obtain ⟨g1, g, rfl, g2, g3⟩ := h2
    refine ⟨rfl, ?_⟩
    have h4 := unhideE HD0
    rw [hr, dBind_err] at h4
    rw [h4]
    exact h3
  | ok p =>
    obtain ⟨x0, a2⟩ := p
    rw [hr] at h2
    obtain ⟨hg, v0, rfl, hv, hR⟩ := h2
    have hsz := hg.size
    have hv' : v0 = .int .i64 x0 := hv
    subst hv'
    clear hv
    have hst := (unhideE HS0).call hR hg
    have cc := hst.cell 2 _ rfl
    have ff := hst.fz 2
    have HS1 := hideE (show St w (w2.setCell ⟨T3, 2, none⟩ (.int .i64 x0)) b w.heap.size T3 s a2 65 #[.int .i64 0, .int .i64 0, .int .i64 0, .int .i64 0, .int .u64 0, .int .i64 0, .slice none 0 0, .slice none 0 0] #[.int .i64 op, .int .i64 0, .int .i64 x0, .int .i64 0, .int .u64 0, .int .i64 0, .slice none 0 0, .slice none 0 0] from hst.set 2 _)
    have hl1 := (unhideE HS1).lt
    have h4 := unhideE HD0
    rw [hr] at h4
    simp only [dBind_ok] at h4
    have HD1 := hideE h4
    clear h4 hr hst hg hR HS0 HD0 hsz
    go_wp2_with fail
    refine (has_c 2 4 _).mono ?_
    rintro e wx ⟨rfl, hwx⟩
    subst wx
    rw [show (bits .and .u8 2 4 != 0) = false by decide]
    go_wp2_with fail
    refine (has_c 2 8 _).mono ?_
    rintro e wx ⟨rfl, hwx⟩
    subst wx
    rw [show (bits .and .u8 2 8 != 0) = false by decide]
    go_wp2_with fail
    refine (has_c 2 16 _).mono ?_
    rintro e wx ⟨rfl, hwx⟩
    subst wx
    rw [show (bits .and .u8 2 16 != 0) = false by decide]
    go_wp2_with fail
    refine (has_c 2 32 _).mono ?_
    rintro e wx ⟨rfl, hwx⟩
    subst wx
    rw [show (bits .and .u8 2 32 != 0) = false by decide]
    go_wp2_with fail
    refine (has_c 2 64 _).mono ?_
    rintro e wx ⟨rfl, hwx⟩
    subst wx
    rw [show (bits .and .u8 2 64 != 0) = false by decide]
    have HR2 := hideE (unhideE HS1).r2
    have HR3 := hideE (unhideE HS1).r3
    go_wp2_with (first | (refine wpList_load_row rfl 65 (.tmp 3) rfl T3 rfl 65 #[.int .i64 op, .int .i64 0, .int .i64 x0, .int .i64 0, .int .u64 0, .int .i64 0, .slice none 0 0, .slice none 0 0] (0, 0) _ (unhideE HR3) Tryd.underlying65 rfl (Tryd.infInss.trans rfl) ?_) | (refine wpList_store_row rfl 65 (.tmp 2) (.tmp 52) rfl w.heap.size #[.int .i64 op, .int .i64 0, .int .i64 x0, .int .i64 0, .int .u64 0, .int .i64 0, .slice none 0 0, .slice none 0 0] rfl rfl 65 _ (unhideE HR2) (Tryd.infInss.trans rfl) rfl (by simp [Value.oneCell']) ?_))
    refine bodyPost_ret (results_cell (fn := Tryd.f82) (q := 2) (uy := 65) rfl _ _ w.heap.size 65 #[.int .i64 op, .int .i64 0, .int .i64 x0, .int .i64 0, .int .u64 0, .int .i64 0, .slice none 0 0, .slice none 0 0] (0, 0) _ rfl (setRow_heap _ _ _ _ _ _ (unhideE HR2)) Tryd.underlying65 rfl (Tryd.infInss.trans rfl)) rfl ?_
    rw [unhideE HD1]
    have hs := unhideE HS1
    exact ⟨gb_setRowAt hs.gb (Nat.le_refl _) _, _, rfl, ⟨#[.int .i64 op, .int .i64 0, .int .i64 x0, .int .i64 0, .int .u64 0, .int .i64 0, .slice none 0 0, .slice none 0 0], rfl, rfl, by simp [Value.oneCell'], ⟨_, _, rfl, RepL.nil _ _ _ _ _, RepL.nil _ _ _ _ _⟩⟩, hs.rd.blk (setRow_other _ _ _ _ (by omega))⟩
theorem formD64 (s : ByteArray) (a a1 : Nat) (op : Int) (hd : dNum s 1 18 a = .ok (op, a1)) (hsh : shapeLs op = [79]) : dIns s a = (dBind (dList s 0 4 (dNum s 0 255) a1) fun x0 p0 => .ok (⟨op, 0, 0, 0, 0, 0, [], x0⟩, p0)) := by
  unfold dIns
  rw [hd, dBind_ok, hsh]
  simp [dParts, dPart, dBind_assoc, dBind_ok, ins0]
set_option maxHeartbeats 8000000 in
set_option maxRecDepth 100000 in
theorem insD64 (b : Nat) (s : ByteArray) (a a1 : Nat) (op : Int) (w : World) (h : Rd w b s a) (hb1 : 1 < b) (hN : NeedsAt w) (hd : dNum s 1 18 a = .ok (op, a1)) (hsh : shapeLs op = [79]) (hneed : needOf op = 64) : Calls Tryd.prog 82 #[.pointer (some ⟨b, 0, none⟩)] w (DecE b s (RAgg 8 RIns) (dIns s a) w) := by
  obtain ⟨ho1, ho2⟩ := dNum_bd hd
  have HD0 := hideE (formD64 s a a1 op hd hsh)
  have hbw := h.lt
  have HC0 := hideE (fun X : Obj => number_d b s a 1 18 (w.alloc X) (h.alloc X) (by decide))
  rw [hd] at HC0
  have HN := hideE hN
  clear h hd hsh hN
  go_enter Tryd.func82, Tryd.ntmps82
  go_wp2_with fail
  refine (unhideE HC0 _).mono ?_
  rintro e w1 ⟨hg, v, rfl, hv, hR⟩
  have hv' : v = .int .i64 op := hv
  subst hv'
  have hz1 : w.heap.size < w1.heap.size := by have := hg.size; simp at this; omega
  have hst : St w (w1.alloc (.cells #[.int .i64 op, .int .i64 0, .int .i64 0, .int .i64 0, .int .u64 0, .int .i64 0, .slice none 0 0, .slice none 0 0] 65 (0, 0))) b w.heap.size w1.heap.size s a1 65 #[.int .i64 0, .int .i64 0, .int .i64 0, .int .i64 0, .int .u64 0, .int .i64 0, .slice none 0 0, .slice none 0 0] #[.int .i64 op, .int .i64 0, .int .i64 0, .int .i64 0, .int .u64 0, .int .i64 0, .slice none 0 0, .slice none 0 0] := ⟨hR.alloc _, gb_tr (gb_alloc w _ (some b)) (gb_tr hg (gb_alloc w1 _ (some b))), ((gb_alloc w1 _ none).block _ hz1 (by simp)).trans ((hg.block _ (by simp) (by intro e; injection e with e; omega)).trans (heap_alloc_new w _)), heap_alloc_new _ _, hbw, Nat.le_refl _, hz1⟩
  have HST := hideE hst
  clear hv hg hR HC0 hst
  go_wp2_with fail
  have hst := unhideE HST
  clear HST
  obtain ⟨T3, hT3⟩ : ∃ T, T = w1.heap.size := ⟨_, rfl⟩
  rw [← hT3] at hst hz1 ⊢
  generalize w1.alloc (.cells #[.int .i64 op, .int .i64 0, .int .i64 0, .int .i64 0, .int .u64 0, .int .i64 0, .slice none 0 0, .slice none 0 0] 65) = u0 at hst ⊢
  have hl0 := hst.lt
  have HS0 := hideE hst
  clear hst hT3
  refine (needs_c op ho1 ho2 u0 ((unhideE HN).gb (unhideE HS0).gb hb1 hbw)).mono ?_
  rintro e wx ⟨rfl, hwx⟩
  subst wx
  rw [hneed]
  go_wp2_with fail
  refine (has_c 64 1 _).mono ?_
  rintro e wx ⟨rfl, hwx⟩
  subst wx
  rw [show (bits .and .u8 64 1 != 0) = false by decide]
  go_wp2_with fail
  refine (has_c 64 2 _).mono ?_
  rintro e wx ⟨rfl, hwx⟩
  subst wx
  rw [show (bits .and .u8 64 2 != 0) = false by decide]
  go_wp2_with fail
  refine (has_c 64 4 _).mono ?_
  rintro e wx ⟨rfl, hwx⟩
  subst wx
  rw [show (bits .and .u8 64 4 != 0) = false by decide]
  go_wp2_with fail
  refine (has_c 64 8 _).mono ?_
  rintro e wx ⟨rfl, hwx⟩
  subst wx
  rw [show (bits .and .u8 64 8 != 0) = false by decide]
  go_wp2_with fail
  refine (has_c 64 16 _).mono ?_
  rintro e wx ⟨rfl, hwx⟩
  subst wx
  rw [show (bits .and .u8 64 16 != 0) = false by decide]
  go_wp2_with fail
  refine (has_c 64 32 _).mono ?_
  rintro e wx ⟨rfl, hwx⟩
  subst wx
  rw [show (bits .and .u8 64 32 != 0) = false by decide]
  go_wp2_with fail
  refine (has_c 64 64 _).mono ?_
  rintro e wx ⟨rfl, hwx⟩
  subst wx
  rw [show (bits .and .u8 64 64 != 0) = true by decide]
  go_wp2_with fail
  refine (readInts_c 80 (fun _ _ => rfl) RI mono_RI (dNum s 0 255) b s a1 0 4 u0 (unhideE HS0).rd (by decide) (by decide) (fun a' w' h _ => (anyByte_d b s a' w' h).mono fun _ _ hh => hh.imp int_one)).mono ?_
  intro e w2 h2
  cases hr : dList s 0 4 (dNum s 0 255) a1 with
  | error q =>
    rw [hr] at h2
    have h3 := DecE.err (RW := RAgg 8 RIns) h2 (unhideE HS0).gb
    obtain ⟨g1, g, rfl, g2, g3⟩ := h2
    refine ⟨rfl, ?_⟩
    have h4 := unhideE HD0
    rw [hr, dBind_err] at h4
    rw [h4]
    exact h3
  | ok p =>
    obtain ⟨x0, a2⟩ := p
    rw [hr] at h2
    obtain ⟨hg, v0, rfl, hv, hR⟩ := h2
    have hsz := hg.size
    have HV0 := hideE (show RepI w2 (T3 + 1) v0 x0 from (monoV_list mono_RI) _ _ _ _ _ _ (by omega) (fun _ _ _ => rfl) hv)
    obtain ⟨vp0, vc0, hsh⟩ := hv.shape
    subst hsh
    clear hv
    have hst := (unhideE HS0).call hR hg
    have cc := hst.cell 7 _ rfl
    have ff := hst.fz 7
    have HV0 := hideE ((monoV_list mono_RI) _ _ _ _ _ _ (Nat.le_refl _) (kept_set w2 T3 7 (.slice vp0 x0.length vc0)) (unhideE HV0))
    have HS1 := hideE (show St w (w2.setCell ⟨T3, 7, none⟩ (.slice vp0 x0.length vc0)) b w.heap.size T3 s a2 65 #[.int .i64 0, .int .i64 0, .int .i64 0, .int .i64 0, .int .u64 0, .int .i64 0, .slice none 0 0, .slice none 0 0] #[.int .i64 op, .int .i64 0, .int .i64 0, .int .i64 0, .int .u64 0, .int .i64 0, .slice none 0 0, .slice vp0 x0.length vc0] from hst.set 7 _)
    have hl1 := (unhideE HS1).lt
    have h4 := unhideE HD0
    rw [hr] at h4
    simp only [dBind_ok] at h4
    have HD1 := hideE h4
    clear h4 hr hst hg hR HS0 HD0 hsz
    have HR2 := hideE (unhideE HS1).r2
    have HR3 := hideE (unhideE HS1).r3
    go_wp2_with (first | (refine wpList_load_row rfl 65 (.tmp 3) rfl T3 rfl 65 #[.int .i64 op, .int .i64 0, .int .i64 0, .int .i64 0, .int .u64 0, .int .i64 0, .slice none 0 0, .slice vp0 x0.length vc0] (0, 0) _ (unhideE HR3) Tryd.underlying65 rfl (Tryd.infInss.trans rfl) ?_) | (refine wpList_store_row rfl 65 (.tmp 2) (.tmp 52) rfl w.heap.size #[.int .i64 op, .int .i64 0, .int .i64 0, .int .i64 0, .int .u64 0, .int .i64 0, .slice none 0 0, .slice vp0 x0.length vc0] rfl rfl 65 _ (unhideE HR2) (Tryd.infInss.trans rfl) rfl (by simp [Value.oneCell']) ?_))
    refine bodyPost_ret (results_cell (fn := Tryd.f82) (q := 2) (uy := 65) rfl _ _ w.heap.size 65 #[.int .i64 op, .int .i64 0, .int .i64 0, .int .i64 0, .int .u64 0, .int .i64 0, .slice none 0 0, .slice vp0 x0.length vc0] (0, 0) _ rfl (setRow_heap _ _ _ _ _ _ (unhideE HR2)) Tryd.underlying65 rfl (Tryd.infInss.trans rfl)) rfl ?_
    rw [unhideE HD1]
    have hs := unhideE HS1
    exact ⟨gb_setRowAt hs.gb (Nat.le_refl _) _, _, rfl, ⟨#[.int .i64 op, .int .i64 0, .int .i64 0, .int .i64 0, .int .u64 0, .int .i64 0, .slice none 0 0, .slice vp0 x0.length vc0], rfl, rfl, by simp [Value.oneCell'], ⟨_, _, rfl, RepL.nil _ _ _ _ _, ((monoV_list mono_RI) _ _ _ _ _ _ (by omega) (kept_setRow _ _ _ _ (by omega)) (unhideE HV0))⟩⟩, hs.rd.blk (setRow_other _ _ _ _ (by omega))⟩
theorem formD48 (s : ByteArray) (a a1 : Nat) (op : Int) (hd : dNum s 1 18 a = .ok (op, a1)) (hsh : shapeLs op = [70, 82]) : dIns s a = (dBind (dNum s 0 255 a1) fun x0 p0 => dBind (dList s 0 8 (dPair s) p0) fun x1 p1 => .ok (⟨op, 0, 0, 0, 0, x0, x1, []⟩, p1)) := by
  unfold dIns
  rw [hd, dBind_ok, hsh]
  simp [dParts, dPart, dBind_assoc, dBind_ok, ins0]
set_option maxHeartbeats 8000000 in
set_option maxRecDepth 100000 in
theorem insD48 (b : Nat) (s : ByteArray) (a a1 : Nat) (op : Int) (w : World) (h : Rd w b s a) (hb1 : 1 < b) (hN : NeedsAt w) (hd : dNum s 1 18 a = .ok (op, a1)) (hsh : shapeLs op = [70, 82]) (hneed : needOf op = 48) : Calls Tryd.prog 82 #[.pointer (some ⟨b, 0, none⟩)] w (DecE b s (RAgg 8 RIns) (dIns s a) w) := by
  obtain ⟨ho1, ho2⟩ := dNum_bd hd
  have HD0 := hideE (formD48 s a a1 op hd hsh)
  have hbw := h.lt
  have HC0 := hideE (fun X : Obj => number_d b s a 1 18 (w.alloc X) (h.alloc X) (by decide))
  rw [hd] at HC0
  have HN := hideE hN
  clear h hd hsh hN
  go_enter Tryd.func82, Tryd.ntmps82
  go_wp2_with fail
  refine (unhideE HC0 _).mono ?_
  rintro e w1 ⟨hg, v, rfl, hv, hR⟩
  have hv' : v = .int .i64 op := hv
  subst hv'
  have hz1 : w.heap.size < w1.heap.size := by have := hg.size; simp at this; omega
  have hst : St w (w1.alloc (.cells #[.int .i64 op, .int .i64 0, .int .i64 0, .int .i64 0, .int .u64 0, .int .i64 0, .slice none 0 0, .slice none 0 0] 65 (0, 0))) b w.heap.size w1.heap.size s a1 65 #[.int .i64 0, .int .i64 0, .int .i64 0, .int .i64 0, .int .u64 0, .int .i64 0, .slice none 0 0, .slice none 0 0] #[.int .i64 op, .int .i64 0, .int .i64 0, .int .i64 0, .int .u64 0, .int .i64 0, .slice none 0 0, .slice none 0 0] := ⟨hR.alloc _, gb_tr (gb_alloc w _ (some b)) (gb_tr hg (gb_alloc w1 _ (some b))), ((gb_alloc w1 _ none).block _ hz1 (by simp)).trans ((hg.block _ (by simp) (by intro e; injection e with e; omega)).trans (heap_alloc_new w _)), heap_alloc_new _ _, hbw, Nat.le_refl _, hz1⟩
  have HST := hideE hst
  clear hv hg hR HC0 hst
  go_wp2_with fail
  have hst := unhideE HST
  clear HST
  obtain ⟨T3, hT3⟩ : ∃ T, T = w1.heap.size := ⟨_, rfl⟩
  rw [← hT3] at hst hz1 ⊢
  generalize w1.alloc (.cells #[.int .i64 op, .int .i64 0, .int .i64 0, .int .i64 0, .int .u64 0, .int .i64 0, .slice none 0 0, .slice none 0 0] 65) = u0 at hst ⊢
  have hl0 := hst.lt
  have HS0 := hideE hst
  clear hst hT3
  refine (needs_c op ho1 ho2 u0 ((unhideE HN).gb (unhideE HS0).gb hb1 hbw)).mono ?_
  rintro e wx ⟨rfl, hwx⟩
  subst wx
  rw [hneed]
  go_wp2_with fail
  refine (has_c 48 1 _).mono ?_
  rintro e wx ⟨rfl, hwx⟩
  subst wx
  rw [show (bits .and .u8 48 1 != 0) = false by decide]
  go_wp2_with fail
  refine (has_c 48 2 _).mono ?_
  rintro e wx ⟨rfl, hwx⟩
  subst wx
  rw [show (bits .and .u8 48 2 != 0) = false by decide]
  go_wp2_with fail
  refine (has_c 48 4 _).mono ?_
  rintro e wx ⟨rfl, hwx⟩
  subst wx
  rw [show (bits .and .u8 48 4 != 0) = false by decide]
  go_wp2_with fail
  refine (has_c 48 8 _).mono ?_
  rintro e wx ⟨rfl, hwx⟩
  subst wx
  rw [show (bits .and .u8 48 8 != 0) = false by decide]
  go_wp2_with fail
  refine (has_c 48 16 _).mono ?_
  rintro e wx ⟨rfl, hwx⟩
  subst wx
  rw [show (bits .and .u8 48 16 != 0) = true by decide]
  go_wp2_with fail
  refine (anyByte_d b s a1 u0 (unhideE HS0).rd).mono ?_
  intro e w2 h2
  cases hr : dNum s 0 255 a1 with
  | error q =>
    rw [hr] at h2
    have h3 := DecE.err (RW := RAgg 8 RIns) h2 (unhideE HS0).gb
    obtain ⟨g1, g, rfl, g2, g3⟩ := h2
    refine ⟨rfl, ?_⟩
    have h4 := unhideE HD0
    rw [hr, dBind_err] at h4
    rw [h4]
    exact h3
  | ok p =>
    obtain ⟨x0, a2⟩ := p
    rw [hr] at h2
    obtain ⟨hg, v0, rfl, hv, hR⟩ := h2
    have hsz := hg.size
    have hv' : v0 = .int .i64 x0 := hv
    subst hv'
    clear hv
    have hst := (unhideE HS0).call hR hg
    have cc := hst.cell 5 _ rfl
    have ff := hst.fz 5
    have HS1 := hideE (show St w (w2.setCell ⟨T3, 5, none⟩ (.int .i64 x0)) b w.heap.size T3 s a2 65 #[.int .i64 0, .int .i64 0, .int .i64 0, .int .i64 0, .int .u64 0, .int .i64 0, .slice none 0 0, .slice none 0 0] #[.int .i64 op, .int .i64 0, .int .i64 0, .int .i64 0, .int .u64 0, .int .i64 x0, .slice none 0 0, .slice none 0 0] from hst.set 5 _)
    have hl1 := (unhideE HS1).lt
    have h4 := unhideE HD0
    rw [hr] at h4
    simp only [dBind_ok] at h4
    have HD1 := hideE h4
    clear h4 hr hst hg hR HS0 HD0 hsz
    go_wp2_with fail
    refine (has_c 48 32 _).mono ?_
    rintro e wx ⟨rfl, hwx⟩
    subst wx
    rw [show (bits .and .u8 48 32 != 0) = true by decide]
    go_wp2_with fail
    refine (readArgs_c 91 (fun _ _ => rfl) RP mono_RP (dPair s) b s a2 0 8 (w2.setCell ⟨T3, 5, none⟩ (.int .i64 x0)) (unhideE HS1).rd (by decide) (by decide) (fun a' w' h _ => arg_d b s a' w' h)).mono ?_
    intro e w3 h2
    cases hr : dList s 0 8 (dPair s) a2 with
    | error q =>
      rw [hr] at h2
      have h3 := DecE.err (RW := RAgg 8 RIns) h2 (unhideE HS1).gb
      obtain ⟨g1, g, rfl, g2, g3⟩ := h2
      refine ⟨rfl, ?_⟩
      have h4 := unhideE HD1
      rw [hr, dBind_err] at h4
      rw [h4]
      exact h3
    | ok p =>
      obtain ⟨x1, a3⟩ := p
      rw [hr] at h2
      obtain ⟨hg, v1, rfl, hv, hR⟩ := h2
      have hsz := hg.size
      have HV1 := hideE (show RepA w3 (T3 + 1) v1 x1 from (monoV_list mono_RP) _ _ _ _ _ _ (by omega) (fun _ _ _ => rfl) hv)
      obtain ⟨vp1, vc1, hsh⟩ := hv.shape
      subst hsh
      clear hv
      have hst := (unhideE HS1).call hR hg
      have cc := hst.cell 6 _ rfl
      have ff := hst.fz 6
      have HV1 := hideE ((monoV_list mono_RP) _ _ _ _ _ _ (Nat.le_refl _) (kept_set w3 T3 6 (.slice vp1 x1.length vc1)) (unhideE HV1))
      have HS2 := hideE (show St w (w3.setCell ⟨T3, 6, none⟩ (.slice vp1 x1.length vc1)) b w.heap.size T3 s a3 65 #[.int .i64 0, .int .i64 0, .int .i64 0, .int .i64 0, .int .u64 0, .int .i64 0, .slice none 0 0, .slice none 0 0] #[.int .i64 op, .int .i64 0, .int .i64 0, .int .i64 0, .int .u64 0, .int .i64 x0, .slice vp1 x1.length vc1, .slice none 0 0] from hst.set 6 _)
      have hl2 := (unhideE HS2).lt
      have h4 := unhideE HD1
      rw [hr] at h4
      simp only [dBind_ok] at h4
      have HD2 := hideE h4
      clear h4 hr hst hg hR HS1 HD1 hsz
      go_wp2_with fail
      refine (has_c 48 64 _).mono ?_
      rintro e wx ⟨rfl, hwx⟩
      subst wx
      rw [show (bits .and .u8 48 64 != 0) = false by decide]
      have HR2 := hideE (unhideE HS2).r2
      have HR3 := hideE (unhideE HS2).r3
      go_wp2_with (first | (refine wpList_load_row rfl 65 (.tmp 3) rfl T3 rfl 65 #[.int .i64 op, .int .i64 0, .int .i64 0, .int .i64 0, .int .u64 0, .int .i64 x0, .slice vp1 x1.length vc1, .slice none 0 0] (0, 0) _ (unhideE HR3) Tryd.underlying65 rfl (Tryd.infInss.trans rfl) ?_) | (refine wpList_store_row rfl 65 (.tmp 2) (.tmp 52) rfl w.heap.size #[.int .i64 op, .int .i64 0, .int .i64 0, .int .i64 0, .int .u64 0, .int .i64 x0, .slice vp1 x1.length vc1, .slice none 0 0] rfl rfl 65 _ (unhideE HR2) (Tryd.infInss.trans rfl) rfl (by simp [Value.oneCell']) ?_))
      refine bodyPost_ret (results_cell (fn := Tryd.f82) (q := 2) (uy := 65) rfl _ _ w.heap.size 65 #[.int .i64 op, .int .i64 0, .int .i64 0, .int .i64 0, .int .u64 0, .int .i64 x0, .slice vp1 x1.length vc1, .slice none 0 0] (0, 0) _ rfl (setRow_heap _ _ _ _ _ _ (unhideE HR2)) Tryd.underlying65 rfl (Tryd.infInss.trans rfl)) rfl ?_
      rw [unhideE HD2]
      have hs := unhideE HS2
      exact ⟨gb_setRowAt hs.gb (Nat.le_refl _) _, _, rfl, ⟨#[.int .i64 op, .int .i64 0, .int .i64 0, .int .i64 0, .int .u64 0, .int .i64 x0, .slice vp1 x1.length vc1, .slice none 0 0], rfl, rfl, by simp [Value.oneCell'], ⟨_, _, rfl, ((monoV_list mono_RP) _ _ _ _ _ _ (by omega) (kept_setRow _ _ _ _ (by omega)) (unhideE HV1)), RepL.nil _ _ _ _ _⟩⟩, hs.rd.blk (setRow_other _ _ _ _ (by omega))⟩
theorem formD8 (s : ByteArray) (a a1 : Nat) (op : Int) (hd : dNum s 1 18 a = .ok (op, a1)) (hsh : shapeLs op = [78]) : dIns s a = (dBind (dOp s 8 a1) fun x0 p0 => .ok (⟨op, 0, 0, 0, x0, 0, [], []⟩, p0)) := by
  unfold dIns
  rw [hd, dBind_ok, hsh]
  simp [dParts, dPart, dBind_assoc, dBind_ok, ins0]
set_option maxHeartbeats 8000000 in
set_option maxRecDepth 100000 in
theorem insD8 (b : Nat) (s : ByteArray) (a a1 : Nat) (op : Int) (w : World) (h : Rd w b s a) (hb1 : 1 < b) (hN : NeedsAt w) (hd : dNum s 1 18 a = .ok (op, a1)) (hsh : shapeLs op = [78]) (hneed : needOf op = 8) (hwd : encWidth op = 8) : Calls Tryd.prog 82 #[.pointer (some ⟨b, 0, none⟩)] w (DecE b s (RAgg 8 RIns) (dIns s a) w) := by
  obtain ⟨ho1, ho2⟩ := dNum_bd hd
  have HD0 := hideE (formD8 s a a1 op hd hsh)
  have hbw := h.lt
  have HC0 := hideE (fun X : Obj => number_d b s a 1 18 (w.alloc X) (h.alloc X) (by decide))
  rw [hd] at HC0
  have HN := hideE hN
  have HWD := hideE hwd
  clear h hd hsh hN hwd
  go_enter Tryd.func82, Tryd.ntmps82
  go_wp2_with fail
  refine (unhideE HC0 _).mono ?_
  rintro e w1 ⟨hg, v, rfl, hv, hR⟩
  have hv' : v = .int .i64 op := hv
  subst hv'
  have hz1 : w.heap.size < w1.heap.size := by have := hg.size; simp at this; omega
  have hst : St w (w1.alloc (.cells #[.int .i64 op, .int .i64 0, .int .i64 0, .int .i64 0, .int .u64 0, .int .i64 0, .slice none 0 0, .slice none 0 0] 65 (0, 0))) b w.heap.size w1.heap.size s a1 65 #[.int .i64 0, .int .i64 0, .int .i64 0, .int .i64 0, .int .u64 0, .int .i64 0, .slice none 0 0, .slice none 0 0] #[.int .i64 op, .int .i64 0, .int .i64 0, .int .i64 0, .int .u64 0, .int .i64 0, .slice none 0 0, .slice none 0 0] := ⟨hR.alloc _, gb_tr (gb_alloc w _ (some b)) (gb_tr hg (gb_alloc w1 _ (some b))), ((gb_alloc w1 _ none).block _ hz1 (by simp)).trans ((hg.block _ (by simp) (by intro e; injection e with e; omega)).trans (heap_alloc_new w _)), heap_alloc_new _ _, hbw, Nat.le_refl _, hz1⟩
  have HST := hideE hst
  clear hv hg hR HC0 hst
  go_wp2_with fail
  have hst := unhideE HST
  clear HST
  obtain ⟨T3, hT3⟩ : ∃ T, T = w1.heap.size := ⟨_, rfl⟩
  rw [← hT3] at hst hz1 ⊢
  generalize w1.alloc (.cells #[.int .i64 op, .int .i64 0, .int .i64 0, .int .i64 0, .int .u64 0, .int .i64 0, .slice none 0 0, .slice none 0 0] 65) = u0 at hst ⊢
  have hl0 := hst.lt
  have HS0 := hideE hst
  clear hst hT3
  refine (needs_c op ho1 ho2 u0 ((unhideE HN).gb (unhideE HS0).gb hb1 hbw)).mono ?_
  rintro e wx ⟨rfl, hwx⟩
  subst wx
  rw [hneed]
  go_wp2_with fail
  refine (has_c 8 1 _).mono ?_
  rintro e wx ⟨rfl, hwx⟩
  subst wx
  rw [show (bits .and .u8 8 1 != 0) = false by decide]
  go_wp2_with fail
  refine (has_c 8 2 _).mono ?_
  rintro e wx ⟨rfl, hwx⟩
  subst wx
  rw [show (bits .and .u8 8 2 != 0) = false by decide]
  go_wp2_with fail
  refine (has_c 8 4 _).mono ?_
  rintro e wx ⟨rfl, hwx⟩
  subst wx
  rw [show (bits .and .u8 8 4 != 0) = false by decide]
  go_wp2_with fail
  refine (has_c 8 8 _).mono ?_
  rintro e wx ⟨rfl, hwx⟩
  subst wx
  rw [show (bits .and .u8 8 8 != 0) = true by decide]
  have cop := (unhideE HS0).cell 0 _ rfl
  go_wp2_with fail
  clear cop
  refine (show Calls Tryd.prog _ _ _ (DecE b s RU (dOp s 8 a1) _) from (unhideE HWD) ▸ operand_d b s a1 op u0 (unhideE HS0).rd).mono ?_
  intro e w2 h2
  cases hr : dOp s 8 a1 with
  | error q =>
    rw [hr] at h2
    have h3 := DecE.err (RW := RAgg 8 RIns) h2 (unhideE HS0).gb
    obtain ⟨g1, g, rfl, g2, g3⟩ := h2
    refine ⟨rfl, ?_⟩
    have h4 := unhideE HD0
    rw [hr, dBind_err] at h4
    rw [h4]
    exact h3
  | ok p =>
    obtain ⟨x0, a2⟩ := p
    rw [hr] at h2
    obtain ⟨hg, v0, rfl, hv, hR⟩ := h2
    have hsz := hg.size
    have hv' : v0 = .int .u64 x0 := hv
    subst hv'
    clear hv
    have hst := (unhideE HS0).call hR hg
    have cc := hst.cell 4 _ rfl
    have ff := hst.fz 4
    have HS1 := hideE (show St w (w2.setCell ⟨T3, 4, none⟩ (.int .u64 x0)) b w.heap.size T3 s a2 65 #[.int .i64 0, .int .i64 0, .int .i64 0, .int .i64 0, .int .u64 0, .int .i64 0, .slice none 0 0, .slice none 0 0] #[.int .i64 op, .int .i64 0, .int .i64 0, .int .i64 0, .int .u64 x0, .int .i64 0, .slice none 0 0, .slice none 0 0] from hst.set 4 _)
    have hl1 := (unhideE HS1).lt
    have h4 := unhideE HD0
    rw [hr] at h4
    simp only [dBind_ok] at h4
    have HD1 := hideE h4
    clear h4 hr hst hg hR HS0 HD0 hsz
    go_wp2_with fail
    refine (has_c 8 16 _).mono ?_
    rintro e wx ⟨rfl, hwx⟩
    subst wx
    rw [show (bits .and .u8 8 16 != 0) = false by decide]
    go_wp2_with fail
    refine (has_c 8 32 _).mono ?_
    rintro e wx ⟨rfl, hwx⟩
    subst wx
    rw [show (bits .and .u8 8 32 != 0) = false by decide]
    go_wp2_with fail
    refine (has_c 8 64 _).mono ?_
    rintro e wx ⟨rfl, hwx⟩
    subst wx
    rw [show (bits .and .u8 8 64 != 0) = false by decide]
    have HR2 := hideE (unhideE HS1).r2
    have HR3 := hideE (unhideE HS1).r3
    go_wp2_with (first | (refine wpList_load_row rfl 65 (.tmp 3) rfl T3 rfl 65 #[.int .i64 op, .int .i64 0, .int .i64 0, .int .i64 0, .int .u64 x0, .int .i64 0, .slice none 0 0, .slice none 0 0] (0, 0) _ (unhideE HR3) Tryd.underlying65 rfl (Tryd.infInss.trans rfl) ?_) | (refine wpList_store_row rfl 65 (.tmp 2) (.tmp 52) rfl w.heap.size #[.int .i64 op, .int .i64 0, .int .i64 0, .int .i64 0, .int .u64 x0, .int .i64 0, .slice none 0 0, .slice none 0 0] rfl rfl 65 _ (unhideE HR2) (Tryd.infInss.trans rfl) rfl (by simp [Value.oneCell']) ?_))
    refine bodyPost_ret (results_cell (fn := Tryd.f82) (q := 2) (uy := 65) rfl _ _ w.heap.size 65 #[.int .i64 op, .int .i64 0, .int .i64 0, .int .i64 0, .int .u64 x0, .int .i64 0, .slice none 0 0, .slice none 0 0] (0, 0) _ rfl (setRow_heap _ _ _ _ _ _ (unhideE HR2)) Tryd.underlying65 rfl (Tryd.infInss.trans rfl)) rfl ?_
    rw [unhideE HD1]
    have hs := unhideE HS1
    exact ⟨gb_setRowAt hs.gb (Nat.le_refl _) _, _, rfl, ⟨#[.int .i64 op, .int .i64 0, .int .i64 0, .int .i64 0, .int .u64 x0, .int .i64 0, .slice none 0 0, .slice none 0 0], rfl, rfl, by simp [Value.oneCell'], ⟨_, _, rfl, RepL.nil _ _ _ _ _, RepL.nil _ _ _ _ _⟩⟩, hs.rd.blk (setRow_other _ _ _ _ (by omega))⟩
set_option maxRecDepth 100000 in
theorem instruction_d (b : Nat) (s : ByteArray) (a : Nat) (w : World) (h : Rd w b s a) (hb1 : 1 < b) (hN : NeedsAt w) : Calls Tryd.prog 82 #[.pointer (some ⟨b, 0, none⟩)] w (DecE b s (RAgg 8 RIns) (dIns s a) w) := by
  cases hd : dNum s 1 18 a with
  | error q =>
    have HD := hideE (show dIns s a = .error q by unfold dIns; rw [hd]; rfl)
    have HC0 := hideE (fun X : Obj => number_d b s a 1 18 (w.alloc X) (h.alloc X) (by decide))
    rw [hd] at HC0
    clear h hd hN
    go_enter Tryd.func82, Tryd.ntmps82
    go_wp2_with fail
    refine (unhideE HC0 _).mono ?_
    intro e w2 h2
    have h3 := DecE.err (RW := RAgg 8 RIns) h2 (gb_alloc w _ (some b))
    obtain ⟨g1, g, rfl, g2, g3⟩ := h2
    refine ⟨rfl, ?_⟩
    rw [unhideE HD]
    exact h3
  | ok p =>
    obtain ⟨op, a1⟩ := p
    obtain ⟨h1, h2⟩ := dNum_bd hd
    have hs : op = 1 ∨ op = 2 ∨ op = 3 ∨ op = 4 ∨ op = 5 ∨ op = 6 ∨ op = 7 ∨ op = 8 ∨ op = 9 ∨ op = 10 ∨ op = 11 ∨ op = 12 ∨ op = 13 ∨ op = 14 ∨ op = 15 ∨ op = 16 ∨ op = 17 ∨ op = 18 := by omega
    rcases hs with hop | hop | hop | hop | hop | hop | hop | hop | hop | hop | hop | hop | hop | hop | hop | hop | hop | hop
    · exact insD9 b s a a1 op w h hb1 hN hd (by rw [hop]; rfl) (by rw [hop]; rfl) (by rw [hop]; rfl)
    · exact insD3 b s a a1 op w h hb1 hN hd (by rw [hop]; rfl) (by rw [hop]; rfl)
    · exact insD7 b s a a1 op w h hb1 hN hd (by rw [hop]; rfl) (by rw [hop]; rfl)
    · exact insD7 b s a a1 op w h hb1 hN hd (by rw [hop]; rfl) (by rw [hop]; rfl)
    · exact insD7 b s a a1 op w h hb1 hN hd (by rw [hop]; rfl) (by rw [hop]; rfl)
    · exact insD7 b s a a1 op w h hb1 hN hd (by rw [hop]; rfl) (by rw [hop]; rfl)
    · exact insD7 b s a a1 op w h hb1 hN hd (by rw [hop]; rfl) (by rw [hop]; rfl)
    · exact insD7 b s a a1 op w h hb1 hN hd (by rw [hop]; rfl) (by rw [hop]; rfl)
    · exact insD7 b s a a1 op w h hb1 hN hd (by rw [hop]; rfl) (by rw [hop]; rfl)
    · exact insD15 b s a a1 op w h hb1 hN hd (by rw [hop]; rfl) (by rw [hop]; rfl) (by rw [hop]; rfl)
    · exact insD15 b s a a1 op w h hb1 hN hd (by rw [hop]; rfl) (by rw [hop]; rfl) (by rw [hop]; rfl)
    · exact insD112 b s a a1 op w h hb1 hN hd (by rw [hop]; rfl) (by rw [hop]; rfl)
    · exact insD112 b s a a1 op w h hb1 hN hd (by rw [hop]; rfl) (by rw [hop]; rfl)
    · exact insD2 b s a a1 op w h hb1 hN hd (by rw [hop]; rfl) (by rw [hop]; rfl)
    · exact insD7 b s a a1 op w h hb1 hN hd (by rw [hop]; rfl) (by rw [hop]; rfl)
    · exact insD64 b s a a1 op w h hb1 hN hd (by rw [hop]; rfl) (by rw [hop]; rfl)
    · exact insD48 b s a a1 op w h hb1 hN hd (by rw [hop]; rfl) (by rw [hop]; rfl)
    · exact insD8 b s a a1 op w h hb1 hN hd (by rw [hop]; rfl) (by rw [hop]; rfl) (by rw [hop]; rfl)
end Go.Proofs.YthnmdbddfmgdlaaDoor
