/-
  Decodes: the reader's blocks, functions, program. Own work of the verifier.
-/
import Derived.Test.YthnmdbddfmgdlaaDoorDecG
namespace Go.Proofs.YthnmdbddfmgdlaaDoor
open Go.RowKit

set_option maxRecDepth 100000 in
theorem block_d (b : Nat) (s : ByteArray) (a : Nat) (w : World) (h : Rd w b s a) (hb1 : 1 < b) (hN : NeedsAt w) : Calls Tryd.prog 76 #[.pointer (some ⟨b, 0, none⟩)] w (DecE b s (ROneS RBlk) (dBlock s a) w) := by
  have hbw := h.lt
  have hmf : ∀ (fn : Fn) (first cap : Array Value) (w : World), (Instr.makeFunc fn first cap).run Tryd.prog w = .ok (.func fn first cap) w := fun _ _ _ _ => rfl
  have HC := hideE (readInss_c 82 (fun _ _ => rfl) RIns mono_RIns (dIns s) b s a 1 24 w h (by decide) (by decide) (fun a' w' h' hg => instruction_d b s a' w' h' hb1 (hN.gb hg hb1 hbw)))
  clear h hN
  go_enter Tryd.func76, Tryd.ntmps76
  go_wp2_with fail
  refine (unhideE HC).mono ?_
  intro e w2 h2
  cases hr : dList s 1 24 (dIns s) a with
  | ok p =>
    obtain ⟨x, a'⟩ := p
    rw [hr] at h2
    obtain ⟨g1, v, rfl, hv, hR⟩ := h2
    have HV := hideE hv
    have HR2 := hideE hR
    have HG2 := hideE g1
    have HE := hideE hr
    obtain ⟨vp, vc, hsh⟩ := hv.shape
    subst hsh
    clear hv hR g1 hr
    go_wp2
    go_ret
    rw [show dBlock s a = .ok (x, a') from unhideE HE]
    exact ⟨unhideE HG2, _, rfl, ⟨⟨_, rfl, unhideE HV⟩, _, _, _, rfl⟩, unhideE HR2⟩
  | error q =>
    rw [hr] at h2
    have h3 := DecE.err (RW := ROneS RBlk) h2 (gb_refl w (some b))
    obtain ⟨g1, g, rfl, g2, g3⟩ := h2
    refine ⟨rfl, ?_⟩
    rw [show dBlock s a = .error q from hr]
    exact h3
set_option maxHeartbeats 4000000 in
set_option maxRecDepth 100000 in
theorem function_d (b : Nat) (s : ByteArray) (a : Nat) (w : World) (h : Rd w b s a) (hb1 : 1 < b) (hN : NeedsAt w) : Calls Tryd.prog 57 #[.pointer (some ⟨b, 0, none⟩)] w (DecE b s (RAgg 5 RFunc) (dFunc s a) w) := by
  have hst := St.start w b s a 58 #[.slice none 0 0, .int .i64 0, .slice none 0 0, .slice none 0 0, .slice none 0 0] h
  obtain ⟨T3, hT3⟩ : ∃ T, T = w.heap.size + 1 := ⟨_, rfl⟩
  have hbw := h.lt
  have HN := hideE hN
  clear hN
  go_enter Tryd.func57, Tryd.ntmps57
  go_wp2_with fail
  rw [← hT3] at hst ⊢
  generalize (w.alloc (.cells #[.slice none 0 0, .int .i64 0, .slice none 0 0, .slice none 0 0, .slice none 0 0] 58)).alloc (.cells #[.slice none 0 0, .int .i64 0, .slice none 0 0, .slice none 0 0, .slice none 0 0] 58) = u0 at hst ⊢
  have hT : w.heap.size < T3 := by omega
  have hl0 := hst.lt
  have HS0 := hideE hst
  have HD0 := hideE (show dFunc s a = dFunc s a from rfl)
  clear hst hT3 h
  refine (readParams_c 72 (fun _ _ => rfl) RP mono_RP (dPair s) b s a 0 8 u0 (unhideE HS0).rd (by decide) (by decide) (fun a' w' h hgw => param_d b s a' w' h)).mono ?_
  intro e w1 h2
  cases hr : (dList s 0 8 (dPair s)) a with
  | error q =>
    rw [hr] at h2
    have h3 := DecE.err (RW := RAgg 5 RFunc) h2 (unhideE HS0).gb
    obtain ⟨g1, g, rfl, g2, g3⟩ := h2
    refine ⟨rfl, ?_⟩
    have h4 := unhideE HD0
    unfold dFunc at h4 ⊢
    rw [hr]
    exact h3
  | ok p =>
    obtain ⟨x0, a1⟩ := p
    rw [hr] at h2
    obtain ⟨hg, v0, rfl, hv, hR⟩ := h2
    have hsz := hg.size
    have HV0 := hideE (show RepL w1 (T3 + 1) 60 2 (RP w1 (T3 + 1)) v0 x0 from (monoV_list mono_RP) _ _ _ _ _ _ (by omega) (fun _ _ _ => rfl) hv)
    obtain ⟨vp0, vc0, hsh⟩ := hv.shape
    subst hsh
    clear hv
    have hst := (unhideE HS0).call hR hg
    have cc := hst.cell 0 _ rfl
    have ff := hst.fz 0
    have HV0 := hideE ((monoV_list mono_RP) _ _ _ _ _ _ (Nat.le_refl _) (kept_set w1 T3 0 (.slice vp0 x0.length vc0)) (unhideE HV0))
    have HS1 := hideE (show St w (w1.setCell ⟨T3, 0, none⟩ (.slice vp0 x0.length vc0)) b w.heap.size T3 s a1 58 #[.slice none 0 0, .int .i64 0, .slice none 0 0, .slice none 0 0, .slice none 0 0] #[.slice vp0 x0.length vc0, .int .i64 0, .slice none 0 0, .slice none 0 0, .slice none 0 0] from hst.set 0 _)
    have hl1 := (unhideE HS1).lt
    have h4 := unhideE HD0
    conv at h4 => rhs; unfold dFunc
    rw [hr] at h4
    simp only [dBind_ok] at h4
    have HD1 := hideE h4
    clear h4 hr hst hg hR HS0 HD0 hsz
    go_wp2_with fail
    clear cc ff
    refine (number_d b s a1 0 4 (w1.setCell ⟨T3, 0, none⟩ (.slice vp0 x0.length vc0)) (unhideE HS1).rd (by decide)).mono ?_
    intro e w2 h2
    cases hr : (dNum s 0 4) a1 with
    | error q =>
      rw [hr] at h2
      have h3 := DecE.err (RW := RAgg 5 RFunc) h2 (unhideE HS1).gb
      obtain ⟨g1, g, rfl, g2, g3⟩ := h2
      refine ⟨rfl, ?_⟩
      have h4 := unhideE HD1
      rw [hr, dBind_err] at h4
      rw [h4]
      exact h3
    | ok p =>
      obtain ⟨x1, a2⟩ := p
      rw [hr] at h2
      obtain ⟨hg, v1, rfl, hv, hR⟩ := h2
      have hsz := hg.size
      have hv' : v1 = .int .i64 x1 := hv
      subst hv'
      clear hv
      have hst := (unhideE HS1).call hR hg
      have cc := hst.cell 1 _ rfl
      have ff := hst.fz 1
      have HV0 := hideE ((monoV_list mono_RP) _ _ _ _ _ _ (Nat.le_refl _) (kept_tr ((unhideE HS1).kept hg) hsz (kept_set w2 T3 1 (.int .i64 x1))) (unhideE HV0))
      have HS2 := hideE (show St w (w2.setCell ⟨T3, 1, none⟩ (.int .i64 x1)) b w.heap.size T3 s a2 58 #[.slice none 0 0, .int .i64 0, .slice none 0 0, .slice none 0 0, .slice none 0 0] #[.slice vp0 x0.length vc0, .int .i64 x1, .slice none 0 0, .slice none 0 0, .slice none 0 0] from hst.set 1 _)
      have hl2 := (unhideE HS2).lt
      have h4 := unhideE HD1
      rw [hr] at h4
      simp only [dBind_ok] at h4
      have HD2 := hideE h4
      clear h4 hr hst hg hR HS1 HD1 hsz
      go_wp2_with fail
      clear cc ff
      refine (readInts_c 73 (fun _ _ => rfl) RI mono_RI (dNum s (-1) 15) b s a2 0 12 (w2.setCell ⟨T3, 1, none⟩ (.int .i64 x1)) (unhideE HS2).rd (by decide) (by decide) (fun a' w' h hgw => (home_d b s a' w' h).mono fun _ _ hh => hh.imp int_one)).mono ?_
      intro e w3 h2
      cases hr : (dList s 0 12 (dNum s (-1) 15)) a2 with
      | error q =>
        rw [hr] at h2
        have h3 := DecE.err (RW := RAgg 5 RFunc) h2 (unhideE HS2).gb
        obtain ⟨g1, g, rfl, g2, g3⟩ := h2
        refine ⟨rfl, ?_⟩
        have h4 := unhideE HD2
        rw [hr, dBind_err] at h4
        rw [h4]
        exact h3
      | ok p =>
        obtain ⟨x2, a3⟩ := p
        rw [hr] at h2
        obtain ⟨hg, v2, rfl, hv, hR⟩ := h2
        have hsz := hg.size
        have HV2 := hideE (show RepL w3 (T3 + 1) 3 1 (RI w3 (T3 + 1)) v2 x2 from (monoV_list mono_RI) _ _ _ _ _ _ (by omega) (fun _ _ _ => rfl) hv)
        obtain ⟨vp2, vc2, hsh⟩ := hv.shape
        subst hsh
        clear hv
        have hst := (unhideE HS2).call hR hg
        have cc := hst.cell 2 _ rfl
        have ff := hst.fz 2
        have HV0 := hideE ((monoV_list mono_RP) _ _ _ _ _ _ (Nat.le_refl _) (kept_tr ((unhideE HS2).kept hg) hsz (kept_set w3 T3 2 (.slice vp2 x2.length vc2))) (unhideE HV0))
        have HV2 := hideE ((monoV_list mono_RI) _ _ _ _ _ _ (Nat.le_refl _) (kept_set w3 T3 2 (.slice vp2 x2.length vc2)) (unhideE HV2))
        have HS3 := hideE (show St w (w3.setCell ⟨T3, 2, none⟩ (.slice vp2 x2.length vc2)) b w.heap.size T3 s a3 58 #[.slice none 0 0, .int .i64 0, .slice none 0 0, .slice none 0 0, .slice none 0 0] #[.slice vp0 x0.length vc0, .int .i64 x1, .slice vp2 x2.length vc2, .slice none 0 0, .slice none 0 0] from hst.set 2 _)
        have hl3 := (unhideE HS3).lt
        have h4 := unhideE HD2
        rw [hr] at h4
        simp only [dBind_ok] at h4
        have HD3 := hideE h4
        clear h4 hr hst hg hR HS2 HD2 hsz
        go_wp2_with fail
        clear cc ff
        refine (readInts_c 74 (fun _ _ => rfl) RI mono_RI (dNum s 1 8) b s a3 0 6 (w3.setCell ⟨T3, 2, none⟩ (.slice vp2 x2.length vc2)) (unhideE HS3).rd (by decide) (by decide) (fun a' w' h hgw => (slot_d b s a' w' h).mono fun _ _ hh => hh.imp int_one)).mono ?_
        intro e w4 h2
        cases hr : (dList s 0 6 (dNum s 1 8)) a3 with
        | error q =>
          rw [hr] at h2
          have h3 := DecE.err (RW := RAgg 5 RFunc) h2 (unhideE HS3).gb
          obtain ⟨g1, g, rfl, g2, g3⟩ := h2
          refine ⟨rfl, ?_⟩
          have h4 := unhideE HD3
          rw [hr, dBind_err] at h4
          rw [h4]
          exact h3
        | ok p =>
          obtain ⟨x3, a4⟩ := p
          rw [hr] at h2
          obtain ⟨hg, v3, rfl, hv, hR⟩ := h2
          have hsz := hg.size
          have HV3 := hideE (show RepL w4 (T3 + 1) 3 1 (RI w4 (T3 + 1)) v3 x3 from (monoV_list mono_RI) _ _ _ _ _ _ (by omega) (fun _ _ _ => rfl) hv)
          obtain ⟨vp3, vc3, hsh⟩ := hv.shape
          subst hsh
          clear hv
          have hst := (unhideE HS3).call hR hg
          have cc := hst.cell 3 _ rfl
          have ff := hst.fz 3
          have HV0 := hideE ((monoV_list mono_RP) _ _ _ _ _ _ (Nat.le_refl _) (kept_tr ((unhideE HS3).kept hg) hsz (kept_set w4 T3 3 (.slice vp3 x3.length vc3))) (unhideE HV0))
          have HV2 := hideE ((monoV_list mono_RI) _ _ _ _ _ _ (Nat.le_refl _) (kept_tr ((unhideE HS3).kept hg) hsz (kept_set w4 T3 3 (.slice vp3 x3.length vc3))) (unhideE HV2))
          have HV3 := hideE ((monoV_list mono_RI) _ _ _ _ _ _ (Nat.le_refl _) (kept_set w4 T3 3 (.slice vp3 x3.length vc3)) (unhideE HV3))
          have HS4 := hideE (show St w (w4.setCell ⟨T3, 3, none⟩ (.slice vp3 x3.length vc3)) b w.heap.size T3 s a4 58 #[.slice none 0 0, .int .i64 0, .slice none 0 0, .slice none 0 0, .slice none 0 0] #[.slice vp0 x0.length vc0, .int .i64 x1, .slice vp2 x2.length vc2, .slice vp3 x3.length vc3, .slice none 0 0] from hst.set 3 _)
          have hl4 := (unhideE HS4).lt
          have h4 := unhideE HD3
          rw [hr] at h4
          simp only [dBind_ok] at h4
          have HD4 := hideE h4
          clear h4 hr hst hg hR HS3 HD3 hsz
          go_wp2_with fail
          clear cc ff
          refine (readBlocks_c 76 (fun _ _ => rfl) RBlk mono_RBlk (dBlock s) b s a4 1 12 (w4.setCell ⟨T3, 3, none⟩ (.slice vp3 x3.length vc3)) (unhideE HS4).rd (by decide) (by decide) (fun a' w' h hgw => block_d b s a' w' h hb1 ((unhideE HN).gb (gb_tr (unhideE HS4).gb hgw) hb1 hbw))).mono ?_
          intro e w5 h2
          cases hr : (dList s 1 12 (dBlock s)) a4 with
          | error q =>
            rw [hr] at h2
            have h3 := DecE.err (RW := RAgg 5 RFunc) h2 (unhideE HS4).gb
            obtain ⟨g1, g, rfl, g2, g3⟩ := h2
            refine ⟨rfl, ?_⟩
            have h4 := unhideE HD4
            rw [hr, dBind_err] at h4
            rw [h4]
            exact h3
          | ok p =>
            obtain ⟨x4, a5⟩ := p
            rw [hr] at h2
            obtain ⟨hg, v4, rfl, hv, hR⟩ := h2
            have hsz := hg.size
            have HV4 := hideE (show RepL w5 (T3 + 1) 61 1 (RBlk w5 (T3 + 1)) v4 x4 from (monoV_list mono_RBlk) _ _ _ _ _ _ (by omega) (fun _ _ _ => rfl) hv)
            obtain ⟨vp4, vc4, hsh⟩ := hv.shape
            subst hsh
            clear hv
            have hst := (unhideE HS4).call hR hg
            have cc := hst.cell 4 _ rfl
            have ff := hst.fz 4
            have HV0 := hideE ((monoV_list mono_RP) _ _ _ _ _ _ (Nat.le_refl _) (kept_tr ((unhideE HS4).kept hg) hsz (kept_set w5 T3 4 (.slice vp4 x4.length vc4))) (unhideE HV0))
            have HV2 := hideE ((monoV_list mono_RI) _ _ _ _ _ _ (Nat.le_refl _) (kept_tr ((unhideE HS4).kept hg) hsz (kept_set w5 T3 4 (.slice vp4 x4.length vc4))) (unhideE HV2))
            have HV3 := hideE ((monoV_list mono_RI) _ _ _ _ _ _ (Nat.le_refl _) (kept_tr ((unhideE HS4).kept hg) hsz (kept_set w5 T3 4 (.slice vp4 x4.length vc4))) (unhideE HV3))
            have HV4 := hideE ((monoV_list mono_RBlk) _ _ _ _ _ _ (Nat.le_refl _) (kept_set w5 T3 4 (.slice vp4 x4.length vc4)) (unhideE HV4))
            have HS5 := hideE (show St w (w5.setCell ⟨T3, 4, none⟩ (.slice vp4 x4.length vc4)) b w.heap.size T3 s a5 58 #[.slice none 0 0, .int .i64 0, .slice none 0 0, .slice none 0 0, .slice none 0 0] #[.slice vp0 x0.length vc0, .int .i64 x1, .slice vp2 x2.length vc2, .slice vp3 x3.length vc3, .slice vp4 x4.length vc4] from hst.set 4 _)
            have hl5 := (unhideE HS5).lt
            have h4 := unhideE HD4
            rw [hr] at h4
            simp only [dBind_ok] at h4
            have HD5 := hideE h4
            clear h4 hr hst hg hR HS4 HD4 hsz
            have HR2 := hideE (unhideE HS5).r2
            have HR3 := hideE (unhideE HS5).r3
            go_wp2_with (first | (refine wpList_load_row rfl 58 (.tmp 3) rfl T3 rfl 58 #[.slice vp0 x0.length vc0, .int .i64 x1, .slice vp2 x2.length vc2, .slice vp3 x3.length vc3, .slice vp4 x4.length vc4] (0, 0) _ (unhideE HR3) Tryd.underlying58 rfl (Tryd.infFuncs.trans rfl) ?_) | (refine wpList_store_row rfl 58 (.tmp 2) (.tmp 27) rfl w.heap.size #[.slice vp0 x0.length vc0, .int .i64 x1, .slice vp2 x2.length vc2, .slice vp3 x3.length vc3, .slice vp4 x4.length vc4] rfl rfl 58 _ (unhideE HR2) (Tryd.infFuncs.trans rfl) rfl (by simp [Value.oneCell']) ?_))
            refine bodyPost_ret (results_cell (fn := Tryd.f57) (q := 2) (uy := 58) rfl _ _ w.heap.size 58 #[.slice vp0 x0.length vc0, .int .i64 x1, .slice vp2 x2.length vc2, .slice vp3 x3.length vc3, .slice vp4 x4.length vc4] (0, 0) _ rfl (setRow_heap _ _ _ _ _ _ (unhideE HR2)) Tryd.underlying58 rfl (Tryd.infFuncs.trans rfl)) rfl ?_
            rw [unhideE HD5]
            have hs := unhideE HS5
            exact ⟨gb_setRowAt hs.gb (Nat.le_refl _) _, _, rfl, ⟨#[.slice vp0 x0.length vc0, .int .i64 x1, .slice vp2 x2.length vc2, .slice vp3 x3.length vc3, .slice vp4 x4.length vc4], rfl, rfl, by simp [Value.oneCell'], ⟨_, _, _, _, rfl, ((monoV_list mono_RP) _ _ _ _ _ _ (by omega) (kept_setRow _ _ _ _ (by omega)) (unhideE HV0)), ((monoV_list mono_RI) _ _ _ _ _ _ (by omega) (kept_setRow _ _ _ _ (by omega)) (unhideE HV2)), ((monoV_list mono_RI) _ _ _ _ _ _ (by omega) (kept_setRow _ _ _ _ (by omega)) (unhideE HV3)), ((monoV_list mono_RBlk) _ _ _ _ _ _ (by omega) (kept_setRow _ _ _ _ (by omega)) (unhideE HV4))⟩⟩, hs.rd.blk (setRow_other _ _ _ _ (by omega))⟩
/-- A struct that is handed back at T2. -/
structure St1 (w u : World) (b T2 : Nat) (s : ByteArray) (a : Nat) (T : TypeId) (Z : Array Value) : Prop where
  rd : Rd u b s a
  gb : w.grownBy u (some b)
  r2 : u.heap[T2]? = some (.cells Z T (0, 0))
  h0 : b < w.heap.size
  h2 : w.heap.size ≤ T2
section
variable {w u u' : World} {b T2 : Nat} {s : ByteArray} {a a' : Nat} {T : TypeId} {Z : Array Value}
theorem St1.lt (h : St1 w u b T2 s a T Z) : T2 < u.heap.size := row_lt h.r2
theorem St1.call (h : St1 w u b T2 s a T Z) (hR : Rd u' b s a') (hg : u.grownBy u' (some b)) : St1 w u' b T2 s a' T Z :=
  have e0 := h.h0
  have e2 := h.h2
  ⟨hR, gb_tr h.gb hg, (hg.block T2 (row_lt h.r2) (by intro e; injection e with e; omega)).trans h.r2, e0, e2⟩
theorem St1.kept (h : St1 w u b T2 s a T Z) (hg : u.grownBy u' (some b)) : KeptOn (T2 + 1) u u' := KeptOn.of_gb hg (by have := h.h0; have := h.h2; omega)
end
theorem Tryd.infProgD : (Tryd.prog.info? 25).map (·.size) = some 2 := by kernel_rfl
set_option maxHeartbeats 4000000 in
set_option maxRecDepth 100000 in
theorem program_d (b : Nat) (s : ByteArray) (a : Nat) (w : World) (h : Rd w b s a) (hb1 : 1 < b) (hN : NeedsAt w) : Calls Tryd.prog 44 #[.pointer (some ⟨b, 0, none⟩)] w (DecE b s RProg (dProg s a) w) := by
  have hmf : ∀ (fn : Fn) (first cap : Array Value) (w : World), (Instr.makeFunc fn first cap).run Tryd.prog w = .ok (.func fn first cap) w := fun _ _ _ _ => rfl
  have hbw := h.lt
  have hst : St1 w (w.alloc (.cells #[.slice none 0 0, .slice none 0 0] 25 (0, 0))) b w.heap.size s a 25 #[.slice none 0 0, .slice none 0 0] := ⟨h.alloc _, gb_alloc _ _ _, heap_alloc_new _ _, hbw, Nat.le_refl _⟩
  have HN := hideE hN
  clear hN h
  go_enter Tryd.func44, Tryd.ntmps44
  go_wp2_with fail
  generalize w.alloc (.cells #[.slice none 0 0, .slice none 0 0] 25) = u0 at hst ⊢
  have hl0 := hst.lt
  have HS0 := hideE hst
  have HD0 := hideE (show dProg s a = dProg s a from rfl)
  clear hst
  refine (number_d b s a 70 70 u0 (unhideE HS0).rd (by decide)).mono ?_
  intro e w1 h2
  cases hr : (dNum s 70 70) a with
  | error q =>
    rw [hr] at h2
    have h3 := DecE.err (RW := RProg) h2 (unhideE HS0).gb
    obtain ⟨g1, g, rfl, g2, g3⟩ := h2
    refine ⟨rfl, ?_⟩
    have h4 := unhideE HD0
    unfold dProg at h4 ⊢
    rw [hr]
    exact h3
  | ok p =>
    obtain ⟨x0, a1⟩ := p
    rw [hr] at h2
    obtain ⟨hg, v0, rfl, hv, hR⟩ := h2
    have hsz := hg.size
    have hv' : v0 = .int .i64 x0 := hv
    subst hv'
    clear hv
    have HS1 := hideE ((unhideE HS0).call hR hg)
    have hl1 := (unhideE HS1).lt
    have h4 := unhideE HD0
    conv at h4 => rhs; unfold dProg
    rw [hr] at h4
    simp only [dBind_ok] at h4
    have HD1 := hideE h4
    clear h4 hr hg hR HS0 HD0 hsz
    go_wp2_with fail
    refine (number_d b s a1 49 49 w1 (unhideE HS1).rd (by decide)).mono ?_
    intro e w2 h2
    cases hr : (dNum s 49 49) a1 with
    | error q =>
      rw [hr] at h2
      have h3 := DecE.err (RW := RProg) h2 (unhideE HS1).gb
      obtain ⟨g1, g, rfl, g2, g3⟩ := h2
      refine ⟨rfl, ?_⟩
      have h4 := unhideE HD1
      rw [hr, dBind_err] at h4
      rw [h4]
      exact h3
    | ok p =>
      obtain ⟨x1, a2⟩ := p
      rw [hr] at h2
      obtain ⟨hg, v1, rfl, hv, hR⟩ := h2
      have hsz := hg.size
      have hv' : v1 = .int .i64 x1 := hv
      subst hv'
      clear hv
      have HS2 := hideE ((unhideE HS1).call hR hg)
      have hl2 := (unhideE HS2).lt
      have h4 := unhideE HD1
      rw [hr] at h4
      simp only [dBind_ok] at h4
      have HD2 := hideE h4
      clear h4 hr hg hR HS1 HD1 hsz
      go_wp2_with fail
      refine (readSigs_c 55 (fun _ _ => rfl) RSig mono_RSig (dSig s) b s a2 0 4 w2 (unhideE HS2).rd (by decide) (by decide) (fun a' w' h _ => sig_d b s a' w' h)).mono ?_
      intro e w3 h2
      cases hr : (dList s 0 4 (dSig s)) a2 with
      | error q =>
        rw [hr] at h2
        have h3 := DecE.err (RW := RProg) h2 (unhideE HS2).gb
        obtain ⟨g1, g, rfl, g2, g3⟩ := h2
        refine ⟨rfl, ?_⟩
        have h4 := unhideE HD2
        rw [hr, dBind_err] at h4
        rw [h4]
        exact h3
      | ok p =>
        obtain ⟨x2, a3⟩ := p
        rw [hr] at h2
        obtain ⟨hg, v2, rfl, hv, hR⟩ := h2
        have hsz := hg.size
        have HV2 := hideE (show RepL w3 (w.heap.size + 1) 53 2 (RSig w3 (w.heap.size + 1)) v2 x2 from (monoV_list mono_RSig) _ _ _ _ _ _ (by omega) (fun _ _ _ => rfl) hv)
        obtain ⟨vp2, vc2, hsh⟩ := hv.shape
        subst hsh
        clear hv
        have HS3 := hideE ((unhideE HS2).call hR hg)
        have hl3 := (unhideE HS3).lt
        have h4 := unhideE HD2
        rw [hr] at h4
        simp only [dBind_ok] at h4
        have HD3 := hideE h4
        clear h4 hr hg hR HS2 HD2 hsz
        go_wp2_with fail
        refine (readFuncs_c 57 (fun _ _ => rfl) RFunc mono_RFunc (dFunc s) b s a3 1 8 w3 (unhideE HS3).rd (by decide) (by decide) (fun a' w' h hgw => function_d b s a' w' h hb1 ((unhideE HN).gb (gb_tr (unhideE HS3).gb hgw) hb1 hbw))).mono ?_
        intro e w4 h2
        cases hr : (dList s 1 8 (dFunc s)) a3 with
        | error q =>
          rw [hr] at h2
          have h3 := DecE.err (RW := RProg) h2 (unhideE HS3).gb
          obtain ⟨g1, g, rfl, g2, g3⟩ := h2
          refine ⟨rfl, ?_⟩
          have h4 := unhideE HD3
          rw [hr, dBind_err] at h4
          rw [h4]
          exact h3
        | ok p =>
          obtain ⟨x3, a4⟩ := p
          rw [hr] at h2
          obtain ⟨hg, v3, rfl, hv, hR⟩ := h2
          have hsz := hg.size
          have HV3 := hideE (show RepL w4 (w.heap.size + 1) 58 5 (RFunc w4 (w.heap.size + 1)) v3 x3 from (monoV_list mono_RFunc) _ _ _ _ _ _ (by omega) (fun _ _ _ => rfl) hv)
          obtain ⟨vp3, vc3, hsh⟩ := hv.shape
          subst hsh
          clear hv
          have HV2 := hideE ((monoV_list mono_RSig) _ _ _ _ _ _ (Nat.le_refl _) ((unhideE HS3).kept hg) (unhideE HV2))
          have HS4 := hideE ((unhideE HS3).call hR hg)
          have hl4 := (unhideE HS4).lt
          have h4 := unhideE HD3
          rw [hr] at h4
          simp only [dBind_ok] at h4
          have HD4 := hideE h4
          clear h4 hr hg hR HS3 HD3 hsz
          have HR2 := hideE (unhideE HS4).r2
          go_wp2_with (refine wpList_store_row rfl 25 (.tmp 2) (.tmp 17) rfl w.heap.size #[.slice vp3 x3.length vc3, .slice vp2 x2.length vc2] rfl rfl 25 _ (unhideE HR2) (Tryd.infProgD.trans rfl) rfl (by simp [Value.oneCell']) ?_)
          refine bodyPost_ret (results_cell (fn := Tryd.f44) (q := 2) (uy := 25) rfl _ _ w.heap.size 25 #[.slice vp3 x3.length vc3, .slice vp2 x2.length vc2] (0, 0) _ rfl (setRow_heap _ _ _ _ _ _ (unhideE HR2)) Tryd.underlying25 rfl (Tryd.infProgD.trans rfl)) rfl ?_
          rw [unhideE HD4]
          have hs := unhideE HS4
          exact ⟨gb_setRowAt hs.gb (Nat.le_refl _) _, _, rfl, ⟨_, _, rfl, ((monoV_list mono_RFunc) _ _ _ _ _ _ (by omega) (kept_setRow _ _ _ _ (by omega)) (unhideE HV3)), ((monoV_list mono_RSig) _ _ _ _ _ _ (by omega) (kept_setRow _ _ _ _ (by omega)) (unhideE HV2))⟩, hs.rd.blk (setRow_other _ _ _ _ (by omega))⟩
end Go.Proofs.YthnmdbddfmgdlaaDoor
