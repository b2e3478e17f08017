/-
  Decodes: the statement's comparison of instructions, at equal ones. Own work of the verifier.
-/
import Derived.Test.YthnmdbddfmgdlaaDoorDeM
namespace Go.Proofs.YthnmdbddfmgdlaaDoor
open Go.RowKit

theorem bel_drewN {B : Nat} {a w : World} (h : Below B a w) (n : Nat) : Below B a (w.drewN n) := h.trans ⟨rfl, rfl, rfl, Nat.le_refl _, fun _ _ => rfl⟩
theorem ne_self (x : Int) : (x != x) = false := by simp
set_option maxHeartbeats 4000000 in
set_option maxRecDepth 100000 in
theorem instructions_c (i : InsE) (A1 A2 : Array Value) (b : Nat) (w : World) (h1 : InsAt w b (A1, i)) (h2 : InsAt w b (A2, i)) (hb : b ≤ w.heap.size) : Calls Tryd.prog 34 #[.agg A1, .agg A2] w fun x w' => x = .returned (.bool true) ∧ Below w.heap.size w w' := by
  obtain ⟨av1, ov1, pa1, e1, m1, v1, l1, o1, s1, s1'⟩ := h1
  obtain ⟨av2, ov2, pa2, e2, m2, v2, l2, o2, s2, s2'⟩ := h2
  simp only at e1 e2 m1 m2 o1 o2 s1 s1' s2 s2'
  subst e1 e2
  obtain ⟨q1, c1, z1⟩ := l1.shape
  obtain ⟨q2, c2, z2⟩ := l2.shape
  obtain ⟨q3, c3, z3⟩ := o1.shape
  obtain ⟨q4, c4, z4⟩ := o2.shape
  obtain ⟨t1, t2⟩ := map2_len m1 m2
  rw [t1] at z1
  rw [t2] at z2
  obtain ⟨op, d, a, bb, n, f, args, outs⟩ := i
  simp only at *
  subst z1 z2 z3 z4
  have n1 := ne_self op
  have n2 := ne_self d
  have n3 := ne_self a
  have n4 := ne_self bb
  have n5 := ne_self n
  have n6 := ne_self f
  have n7 := ne_self args.length
  have hn' : args.length < 9223372036854775808 := s1
  have HQ := hideE (fun (V : World) (hV : ∀ k, k < b → V.heap[k]? = w.heap[k]?) => ints_q outs (.slice q3 outs.length c3) (.slice q4 outs.length c4) b V (o1.same hV) (o2.same hV) s1')
  have HL1 := hideE l1
  have HL2 := hideE l2
  have HM1 := hideE m1
  have HM2 := hideE m2
  have HV1 := hideE v1
  have HV2 := hideE v2
  have HT1 := hideE t1
  have HT2 := hideE t2
  clear l1 l2 m1 m2 v1 v2 o1 o2 s1 s1' s2 s2' t1 t2
  go_enter Tryd.func34, Tryd.ntmps34
  go_wp2_with fail
  have hbl : Below w.heap.size w ((w.alloc (.cells #[.int .i64 op, .int .i64 d, .int .i64 a, .int .i64 bb, .int .u64 n, .int .i64 f, .slice q1 args.length c1, .slice q3 outs.length c3] 65)).alloc (.cells #[.int .i64 op, .int .i64 d, .int .i64 a, .int .i64 bb, .int .u64 n, .int .i64 f, .slice q2 args.length c2, .slice q4 outs.length c4] 65)) := by go_grown
  have hr0 : ((w.alloc (.cells #[.int .i64 op, .int .i64 d, .int .i64 a, .int .i64 bb, .int .u64 n, .int .i64 f, .slice q1 args.length c1, .slice q3 outs.length c3] 65)).alloc (.cells #[.int .i64 op, .int .i64 d, .int .i64 a, .int .i64 bb, .int .u64 n, .int .i64 f, .slice q2 args.length c2, .slice q4 outs.length c4] 65)).heap[w.heap.size]? = some (.cells #[.int .i64 op, .int .i64 d, .int .i64 a, .int .i64 bb, .int .u64 n, .int .i64 f, .slice q1 args.length c1, .slice q3 outs.length c3] 65 (0, 0)) := heap_alloc2_old _ _ _
  have hr1 : ((w.alloc (.cells #[.int .i64 op, .int .i64 d, .int .i64 a, .int .i64 bb, .int .u64 n, .int .i64 f, .slice q1 args.length c1, .slice q3 outs.length c3] 65)).alloc (.cells #[.int .i64 op, .int .i64 d, .int .i64 a, .int .i64 bb, .int .u64 n, .int .i64 f, .slice q2 args.length c2, .slice q4 outs.length c4] 65)).heap[w.heap.size + 1]? = some (.cells #[.int .i64 op, .int .i64 d, .int .i64 a, .int .i64 bb, .int .u64 n, .int .i64 f, .slice q2 args.length c2, .slice q4 outs.length c4] 65 (0, 0)) := heap_alloc2_new _ _ _
  generalize (w.alloc _).alloc _ = W at hbl hr0 hr1 ⊢
  have hlow : ∀ k, k < b → W.heap[k]? = w.heap[k]? := fun k hk => hbl.block k (by omega)
  refine (unhideE HQ W hlow).mono ?_
  rintro e w1 ⟨rfl, m1, hw1⟩
  have hh1 : w1.heap = W.heap := by rw [hw1]; rfl
  have hb1 : Below w.heap.size w w1 := by rw [hw1]; exact bel_drewN hbl _
  have d1 := (World.cell?_of_block (by rw [hh1])).trans ((cells_of_row hr0 6).trans rfl)
  have HB1 := hideE hb1
  have HH1 := hideE hh1
  have HR0 := hideE ((congrArg (·[w.heap.size]?) hh1).trans hr0)
  have HR1 := hideE ((congrArg (·[w.heap.size + 1]?) hh1).trans hr1)
  have HLOW := hideE hlow
  clear hw1 hh1 hb1 hbl hr0 hr1 hlow
  go_wp2
  go_loopw [66] (fun j w' => ∃ (k m : Nat), j = .int .i64 k ∧ k ≤ args.length ∧ w' = w1.drewN m) (fun j _ => args.length - (intOf j).toNat)
  case atStart => exact ⟨0, 0, rfl, by omega, rfl⟩
  case round =>
    obtain ⟨k, m, rfl, hk, hw⟩ := hrel
    have hh : wr.heap = w1.heap := by rw [hw]; rfl
    have HW := hideE hw
    have HH := hideE hh
    clear hw hh d1
    by_cases hlt : k < args.length
    · have hka : k < pa1.length := by rw [unhideE HT1]; exact hlt
      have hkb : k < pa2.length := by rw [unhideE HT2]; exact hlt
      obtain ⟨sa, oa, ca', hva, hsa, hca⟩ := (unhideE HL1).resolve_left (fun c => by rw [c.1] at hka; simp at hka)
      obtain ⟨sb, ob, cb', hvb, hsb, hcb⟩ := (unhideE HL2).resolve_left (fun c => by rw [c.1] at hkb; simp at hkb)
      injection hva with e1 e2 e3
      injection hvb with e4 e5 e6
      subst e1 e4
      have ra := hca k hka
      have rb := hcb k hkb
      rw [unhideE HV1 pa1[k] (List.getElem_mem hka), map2_get (unhideE HM1) k hka hlt] at ra
      rw [unhideE HV2 pa2[k] (List.getElem_mem hkb), map2_get (unhideE HM2) k hkb hlt] at rb
      generalize args[k] = y at ra rb
      obtain ⟨y1, y2⟩ := y
      have lo : ∀ s, s < b → wr.heap[s]? = w.heap[s]? := fun s hs => by rw [unhideE HH, unhideE HH1]; exact unhideE HLOW s hs
      have d1 := (World.cell?_of_block (by rw [unhideE HH])).trans ((cells_of_row (unhideE HR0) 6).trans rfl)
      have d2 := (World.cell?_of_block (by rw [unhideE HH])).trans ((cells_of_row (unhideE HR1) 6).trans rfl)
      have c3 := (World.cell?_of_block (lo sa hsa)).trans (ra 0 _ rfl)
      have c4 := (World.cell?_of_block (lo sa hsa)).trans (ra 1 _ rfl)
      have c5 := (World.cell?_of_block (lo sb hsb)).trans (rb 0 _ rfl)
      have c6 := (World.cell?_of_block (lo sb hsb)).trans (rb 1 _ rfl)
      rw [Nat.add_zero] at c3 c5
      have hy1 : (y1 != y1) = false := by simp
      have hy2 : (y2 != y2) = false := by simp
      clear hca hcb e2 e3 e5 e6 ra rb hka hkb lo hsa hsb
      go_wp2
      go_quiet (fail)
      go_wp2
      go_roundw
      case rel => exact ⟨k + 1, _, by go_num, by omega, by rw [unhideE HW]; exact World.drewN_drewN _ _ _⟩
      case measure => simp [intOf]; omega
    · obtain rfl : k = args.length := by omega
      go_wp2
      go_ret
      exact ⟨rfl, by rw [unhideE HW]; exact bel_drewN (unhideE HB1) _⟩
end Go.Proofs.YthnmdbddfmgdlaaDoor
