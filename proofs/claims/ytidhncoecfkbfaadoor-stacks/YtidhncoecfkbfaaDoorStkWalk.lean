/-
  prologuelaw.Stacks: its loop. Own work of the verifier.
-/
import Derived.Test.YtidhncoecfkbfaaDoorStkLaw
namespace Go.Proofs.YtidhncoecfkbfaaDoor
open Go.RowKit Go.Maps

/-- One step of a script, in memory. -/
structure StepAt (w : World) (b o : Nat) (x0 x1 x2 x3 : Int) : Prop where
  c0 : w.cell? ⟨b, o, none⟩ = some (.int .i64 x0)
  c1 : w.cell? ⟨b, o + 1, none⟩ = some (.int .i64 x1)
  c2 : w.cell? ⟨b, o + 2, none⟩ = some (.int .i64 x2)
  c3 : w.cell? ⟨b, o + 3, none⟩ = some (.int .u64 x3)
  w3 : 0 ≤ x3 ∧ x3 < 18446744073709551616

theorem Both.mono {w0 w : World} {b c d r q n k k' : Nat} {m : Nat → Int} (h : Both w0 w b c d r q n k m) (hk : k ≤ k') : Both w0 w b c d r q n k' m :=
  ⟨h.inv, ⟨h.ref.c0, h.ref.c1, h.ref.mem.mono hk⟩, h.r0, h.q0, h.rb, h.qb⟩
set_option maxHeartbeats 2000000 in
theorem stacks_ok (n len cap sb so : Nat) (w : World) (hn : n ≤ 65536) (hlen : len ≤ 10000000000000) (hg : ErrTy w) (hs : ∀ i, i < len → ∃ x0 x1 x2 x3, StepAt w sb (so + i * 4) x0 x1 x2 x3) :
    Calls Tryd.prog 3 #[.int .i64 n, .slice (some ⟨sb, so, none⟩) len cap] w fun e w' => e = .returned (.bool true) ∧ Below w.heap.size w w' := by
  have HG := hide hg
  have HS := hide hs
  clear hg hs
  go_enter Tryd.func3, Tryd.ntmps3
  go_wp2_with fail
  refine (new_inv n _ hn).mono ?_
  rintro e w2 ⟨b, c, d, rfl, hI, hK⟩
  have hz2 := hK.size
  have HI := hide hI
  have hb1 := hI.b1; have hc1 := hI.c1; have hd1 := hI.d1
  clear hI hK
  go_wp2_with fail
  refine (rbytes_any n _).mono ?_
  rintro e w3 ⟨rfl, hR, hB3⟩
  have hB0 : Both w w3 b c d (w2.heap.size + 1 + 1) (w2.heap.size + 1) n 0 (fun _ => 0) := by
    have hI3 := ((unhide HI).alloc _).below hB3
    simp only [World.size_alloc] at hR
    exact ⟨hI3, hR, by omega, by omega, ⟨by omega, by omega, by omega⟩, ⟨by omega, by omega, by omega⟩⟩
  have HB := hide hB0
  simp only [World.size_alloc]
  generalize w2.heap.size + 1 + 1 = r at HB ⊢
  generalize w2.heap.size + 1 = q at HB ⊢
  clear hB0 hR hB3
  go_wp2_with fail
  go_loopw [45] (fun i wr => ∃ (j : Nat) (m : Nat → Int), j ≤ len ∧ i = .int .i64 j ∧ Both w wr b c d r q n (8 * j) m) (fun i _ => len - (intOf i).toNat)
  case atStart => exact ⟨0, _, by omega, rfl, unhide HB⟩
  case round =>
    obtain ⟨j, m, hj, rfl, hBoth⟩ := hrel
    have HBo := hide hBoth
    clear hBoth
    by_cases hlt : j < len
    · obtain ⟨x0, x1, x2, x3, hst⟩ := unhide HS j hlt
      have hsb := lt_of_cell hst.c0
      have hlow := (unhide HBo).inv.low
      have d0 : wr.cell? ⟨sb, so + j * 4, none⟩ = some (.int .i64 x0) := (hlow.cell (p := ⟨sb, so + j * 4, none⟩) hsb).trans hst.c0
      have d1 : wr.cell? ⟨sb, so + j * 4 + 1, none⟩ = some (.int .i64 x1) := (hlow.cell (p := ⟨sb, so + j * 4 + 1, none⟩) hsb).trans hst.c1
      have d2 : wr.cell? ⟨sb, so + j * 4 + 2, none⟩ = some (.int .i64 x2) := (hlow.cell (p := ⟨sb, so + j * 4 + 2, none⟩) hsb).trans hst.c2
      have d3 : wr.cell? ⟨sb, so + j * 4 + 3, none⟩ = some (.int .u64 x3) := (hlow.cell (p := ⟨sb, so + j * 4 + 3, none⟩) hsb).trans hst.c3
      have hx3 := hst.w3
      obtain ⟨hx30, hx31⟩ := hx3
      have hws := hlow.size
      clear hst hlow
      by_cases hk : x0 = 0
      · have hk' : (x0 == 0) = true := by simp [hk]
        have HK := hide hk
        clear hk
        obtain ⟨le, hle⟩ : ∃ le, lookE n x1 x2 = le := ⟨_, rfl⟩
        obtain ⟨V, hV⟩ : ∃ V, (if le = 0 then ldv m x1.toNat x2.toNat else 0) = V := ⟨_, rfl⟩
        have HL := hide hle
        have HV := hide hV
        clear hle hV
        go_wp2_with fail
        refine (bload _ _ _ ((unhide HBo).alloc _) (unhide HG)).mono ?_
        rw [unhide HL, unhide HV]
        rintro e w4 ⟨rfl, hB4, hb4⟩
        have hz4 := hb4.size
        simp only [World.size_alloc] at hz4
        have hcs : ∀ o, (w4.alloc (.cells #[.int .i64 le, .int .i64 (-1), .int .i64 (-1), .int .i64 (-1)] 25)).cell? ⟨wr.heap.size, o, none⟩ = (wr.alloc (.cells #[.int .i64 x0, .int .i64 x1, .int .i64 x2, .int .u64 x3] 34)).cell? ⟨wr.heap.size, o, none⟩ := fun o => (World.cell?_alloc_lt _ _ ⟨wr.heap.size, o, none⟩ (by show wr.heap.size < _; omega)).trans (hb4.cell (p := ⟨wr.heap.size, o, none⟩) (by simp))
        have HB4 := hide hB4
        clear hB4 hb4 d0 d1 d2 d3
        go_wp2_with fail
        refine (brload _ _ _ ((unhide HB4).alloc _)).mono ?_
        rw [unhide HL, unhide HV]
        rintro e w5 ⟨rfl, hB5, hb5⟩
        have hz5 := hb5.size
        simp only [World.size_alloc] at hz5
        have hcf : ∀ o, (w5.alloc (.cells #[.int .i64 le, .int .i64 (-1), .int .i64 (-1), .int .i64 (-1)] 29)).cell? ⟨w4.heap.size, o, none⟩ = (w4.alloc (.cells #[.int .i64 le, .int .i64 (-1), .int .i64 (-1), .int .i64 (-1)] 25)).cell? ⟨w4.heap.size, o, none⟩ := fun o => (World.cell?_alloc_lt _ _ ⟨w4.heap.size, o, none⟩ (by show w4.heap.size < _; omega)).trans (hb5.cell (p := ⟨w4.heap.size, o, none⟩) (by simp))
        have HB5 := hide hB5
        clear hB5 hb5 hcs
        go_wp2_with fail
        refine (agrees_same _ _ _ _ _).mono ?_
        rintro e w6 ⟨rfl, hb6⟩
        have HB6 := hide (((unhide HB5).alloc _).below hb6)
        clear hb6 hcf
        go_wp2_with fail
        go_roundw
        case rel => exact ⟨j + 1, m, by omega, by go_num, (unhide HB6).mono (by omega)⟩
        case measure => simp [intOf]; omega
      · have hk' : (x0 == 0) = false := by simp [hk]
        have HK := hide hk
        clear hk
        obtain ⟨le, hle⟩ : ∃ le, lookE n x1 x2 = le := ⟨_, rfl⟩
        have HL := hide hle
        clear hle
        go_wp2_with fail
        refine (bstore _ _ _ _ ((unhide HBo).alloc _) (unhide HG)).mono ?_
        rw [unhide HL]
        rintro e w4 ⟨rfl, hB4, hb4⟩
        have hz4 := hb4.size
        simp only [World.size_alloc] at hz4
        have hdr := (unhide HBo).inv.d1
        have hqr := (unhide HBo).qlt
        have hcs : ∀ o, (w4.alloc (.cells #[.int .i64 le, .int .i64 (-1), .int .i64 (-1), .int .i64 (-1)] 25)).cell? ⟨wr.heap.size, o, none⟩ = (wr.alloc (.cells #[.int .i64 x0, .int .i64 x1, .int .i64 x2, .int .u64 x3] 34)).cell? ⟨wr.heap.size, o, none⟩ := fun o => (World.cell?_alloc_lt _ _ ⟨wr.heap.size, o, none⟩ (by show wr.heap.size < _; omega)).trans (hb4.cell _ _ (by omega) (by simp))
        have HB4 := hide hB4
        clear hB4 hb4 d0 d1 d2 d3
        go_wp2_with fail
        refine (brstore _ _ _ _ ((unhide HB4).alloc _) (by omega) hx30 hx31 rfl).mono ?_
        rw [unhide HL]
        rintro e w5 ⟨rfl, hB5, hb5⟩
        have hz5 := hb5.size
        simp only [World.size_alloc] at hz5
        have hcf : ∀ o, (w5.alloc (.cells #[.int .i64 le, .int .i64 (-1), .int .i64 (-1), .int .i64 (-1)] 29)).cell? ⟨w4.heap.size, o, none⟩ = (w4.alloc (.cells #[.int .i64 le, .int .i64 (-1), .int .i64 (-1), .int .i64 (-1)] 25)).cell? ⟨w4.heap.size, o, none⟩ := fun o => (World.cell?_alloc_lt _ _ ⟨w4.heap.size, o, none⟩ (by show w4.heap.size < _; omega)).trans (hb5.cell _ _ (by omega) (by simp))
        have HB5 := hide hB5
        clear hB5 hb5 hcs
        go_wp2_with fail
        refine (agrees_same _ _ _ _ _).mono ?_
        rintro e w6 ⟨rfl, hb6⟩
        have HB6 := hide (((unhide HB5).alloc _).below hb6)
        clear hb6 hcf
        go_wp2_with fail
        go_roundw
        case rel => exact ⟨j + 1, _, by omega, by go_num, (unhide HB6).mono (by omega)⟩
        case measure => simp [intOf]; omega
    · go_wp2
      go_ret
      exact ⟨rfl, (unhide HBo).inv.low⟩
end Go.Proofs.YtidhncoecfkbfaaDoor
