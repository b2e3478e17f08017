/-
  Decodes: the statement's comparison of programs, at equal ones. Own work of the verifier.
-/
import Derived.Test.YthnmdbddfmgdlaaDoorDeO
namespace Go.Proofs.YthnmdbddfmgdlaaDoor
open Go.RowKit

theorem fn_open {w : World} {b : Nat} {ps : List (Array Value × FuncE)} {is : List FuncE} {p : Option Addr} {c n : Nat} (h : LsB 5 w b (.slice p n c) ps) (hm : ps.map (·.2) = is) (he : ∀ q ∈ ps, FuncAt w b q) (k : Nat) (hk : k < is.length) : ∃ sb so A, p = some ⟨sb, so, none⟩ ∧ sb < b ∧ w.rangeAt sb (so + k * 5) A.toList ∧ FuncAt w b (A, is[k]) := by
  subst hm
  have hk' : k < ps.length := by simpa using hk
  obtain ⟨sb, so, cap, hv, hs, hc⟩ := h.resolve_left (fun c => by rw [c.1] at hk'; simp at hk')
  injection hv with e1 e2 e3
  exact ⟨sb, so, ps[k].1, e1, hs, hc k hk', by simpa using he ps[k] (List.getElem_mem hk')⟩
set_option maxHeartbeats 8000000 in
set_option maxRecDepth 100000 in
theorem programs_c (p : ProgE) (fv1 ev1 fv2 ev2 : Value) (pf1 pf2 : List (Array Value × FuncE)) (pe1 pe2 : List (Array Value × (List Int × Int))) (b : Nat) (w : World) (g1 : ProgV w b p fv1 ev1 pf1 pe1) (g2 : ProgV w b p fv2 ev2 pf2 pe2) (hb : b ≤ w.heap.size) : Calls Tryd.prog 10 #[.agg #[fv1, ev1], .agg #[fv2, ev2]] w fun x w' => x = .returned (.bool true) ∧ Below w.heap.size w w' := by
  obtain ⟨q1, c1, z1⟩ := g1.fls.shape
  obtain ⟨q2, c2, z2⟩ := g2.fls.shape
  obtain ⟨q3, c3, z3⟩ := g1.els.shape
  obtain ⟨q4, c4, z4⟩ := g2.els.shape
  obtain ⟨t1, t2⟩ := map2_len g1.funcs g2.funcs
  obtain ⟨t3, t4⟩ := map2_len g1.externs g2.externs
  rw [t1] at z1
  rw [t2] at z2
  rw [t3] at z3
  rw [t4] at z4
  have hs := g1.lens
  rw [t1, t3] at hs
  obtain ⟨hs1, hs2⟩ := hs
  obtain ⟨funcs, externs⟩ := p
  simp only at *
  subst z1 z2 z3 z4
  have n1 := ne_self funcs.length
  have hn' : funcs.length < 9223372036854775808 := hs1
  have HQ := hideE (fun (V : World) (hV : ∀ k, k < b → V.heap[k]? = w.heap[k]?) => sigs_q externs pe1 pe2 (.slice q3 externs.length c3) (.slice q4 externs.length c4) b V (g1.els.same hV) (g2.els.same hV) g1.externs g2.externs (fun q hq => (g1.eeach q hq).same hV) (fun q hq => (g2.eeach q hq).same hV) hs2)
  have HG1 := hideE g1
  have HG2 := hideE g2
  clear g1 g2 hs1 hs2 t1 t2 t3 t4
  go_enter Tryd.func10, Tryd.ntmps10
  go_wp2_with fail
  have hbl : Below w.heap.size w ((w.alloc (.cells #[.slice q1 funcs.length c1, .slice q3 externs.length c3] 25)).alloc (.cells #[.slice q2 funcs.length c2, .slice q4 externs.length c4] 25)) := by go_grown
  have hsz : ((w.alloc (.cells #[.slice q1 funcs.length c1, .slice q3 externs.length c3] 25)).alloc (.cells #[.slice q2 funcs.length c2, .slice q4 externs.length c4] 25)).heap.size = w.heap.size + 2 := by simp
  have hr0 : ((w.alloc (.cells #[.slice q1 funcs.length c1, .slice q3 externs.length c3] 25)).alloc (.cells #[.slice q2 funcs.length c2, .slice q4 externs.length c4] 25)).heap[w.heap.size]? = some (.cells #[.slice q1 funcs.length c1, .slice q3 externs.length c3] 25 (0, 0)) := heap_alloc2_old _ _ _
  have hr1 : ((w.alloc (.cells #[.slice q1 funcs.length c1, .slice q3 externs.length c3] 25)).alloc (.cells #[.slice q2 funcs.length c2, .slice q4 externs.length c4] 25)).heap[w.heap.size + 1]? = some (.cells #[.slice q2 funcs.length c2, .slice q4 externs.length c4] 25 (0, 0)) := heap_alloc2_new _ _ _
  generalize (w.alloc _).alloc _ = W at hbl hr0 hr1 hsz ⊢
  have hlow : ∀ k, k < b → W.heap[k]? = w.heap[k]? := fun k hk => hbl.block k (by omega)
  refine (unhideE HQ W hlow).mono ?_
  rintro e w2 ⟨rfl, m0, hw0⟩
  have hh : w2.heap = W.heap := by rw [hw0]; rfl
  have hb2 : Below w.heap.size w w2 := by rw [hw0]; exact bel_drewN hbl _
  have d1 := (World.cell?_of_block (by rw [hh])).trans ((cells_of_row hr0 0).trans rfl)
  have d2 := (World.cell?_of_block (by rw [hh])).trans ((cells_of_row hr1 0).trans rfl)
  have HB2 := hideE hb2
  have HS2 := hideE ((congrArg (·.size) hh).trans hsz)
  have HR0 := hideE ((congrArg (·[w.heap.size]?) hh).trans hr0)
  have HR1 := hideE ((congrArg (·[w.heap.size + 1]?) hh).trans hr1)
  have HLOW := hideE (fun k (hk : k < b) => (congrArg (·[k]?) hh).trans (hlow k hk))
  clear hw0 hh hb2 hsz hr0 hr1 hlow hbl
  go_wp2
  go_loopw [24] (fun j w' => ∃ (k : Nat), j = .int .i64 k ∧ k ≤ funcs.length ∧ Below (w.heap.size + 2) w2 w') (fun j _ => funcs.length - (intOf j).toNat)
  case atStart => exact ⟨0, rfl, by omega, Below.refl _ _⟩
  case round =>
    obtain ⟨m, rfl, hm, hw⟩ := hrel
    have HW2 := hideE hw
    clear hw d1 d2
    by_cases hlm : m < funcs.length
    · obtain ⟨sc, oc, A, rfl, hsc, rc, ic⟩ := fn_open (unhideE HG1).fls (unhideE HG1).funcs (unhideE HG1).feach m hlm
      obtain ⟨sd, od, B, rfl, hsd, rd, id⟩ := fn_open (unhideE HG2).fls (unhideE HG2).funcs (unhideE HG2).feach m hlm
      simp only at ic id
      generalize funcs[m] = y at ic id
      have HI := hideE (fun (V : World) (hV : Below (w.heap.size + 2) w2 V) => (functions_c y A B b V (ic.same (fun k hk => (hV.block k (by omega)).trans (unhideE HLOW k hk))) (id.same (fun k hk => (hV.block k (by omega)).trans (unhideE HLOW k hk))) (by have := hV.size; have := unhideE HS2; omega)).mono (R' := fun x w' => x = .returned (.bool true) ∧ Below (w.heap.size + 2) w2 w') (fun x w' h => ⟨h.1, hV.trans (h.2.mono (by have := hV.size; have := unhideE HS2; omega))⟩))
      obtain ⟨pv1, hv1, sv1, bv1, pp1, pb1, e1, l1⟩ := ic
      obtain ⟨pv2, hv2, sv2, bv2, pp2, pb2, e2, l2⟩ := id
      simp only at e1 e2
      subst e1 e2
      have lo : ∀ s, s < b → wr.heap[s]? = w.heap[s]? := fun s hs => ((unhideE HW2).block s (by omega)).trans (unhideE HLOW s hs)
      have c5 := (World.cell?_of_block ((unhideE HW2).block w.heap.size (by omega))).trans ((cells_of_row (unhideE HR0) 0).trans rfl)
      have c6 := (World.cell?_of_block ((unhideE HW2).block (w.heap.size + 1) (by omega))).trans ((cells_of_row (unhideE HR1) 0).trans rfl)
      have k0 := (World.cell?_of_block (lo sc hsc)).trans (rc 0 _ rfl)
      have k1 := (World.cell?_of_block (lo sc hsc)).trans (rc 1 _ rfl)
      have k2 := (World.cell?_of_block (lo sc hsc)).trans (rc 2 _ rfl)
      have k3 := (World.cell?_of_block (lo sc hsc)).trans (rc 3 _ rfl)
      have k4 := (World.cell?_of_block (lo sc hsc)).trans (rc 4 _ rfl)
      have j0 := (World.cell?_of_block (lo sd hsd)).trans (rd 0 _ rfl)
      have j1 := (World.cell?_of_block (lo sd hsd)).trans (rd 1 _ rfl)
      have j2 := (World.cell?_of_block (lo sd hsd)).trans (rd 2 _ rfl)
      have j3 := (World.cell?_of_block (lo sd hsd)).trans (rd 3 _ rfl)
      have j4 := (World.cell?_of_block (lo sd hsd)).trans (rd 4 _ rfl)
      rw [Nat.add_zero] at k0 j0
      clear rc rd lo hsc hsd l1 l2
      go_wp2
      go_region_with (go_at_call 25; refine (unhideE HI _ (Below.drew (unhideE HW2))).mono ?_; rintro e w5 ⟨rfl, hb5⟩; have HB5 := hideE hb5; clear hb5)
      go_wp2
      all_goals exact ⟨⟨m + 1, by go_num, by omega, unhideE HB5⟩, by simp [intOf]; omega⟩
    · obtain rfl : m = funcs.length := by omega
      go_wp2
      go_ret
      exact ⟨rfl, (unhideE HB2).trans ((unhideE HW2).mono (by omega))⟩
end Go.Proofs.YthnmdbddfmgdlaaDoor
