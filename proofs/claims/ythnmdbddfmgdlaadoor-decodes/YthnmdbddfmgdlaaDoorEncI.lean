/-
  Encodes: codec.Encode by its contract. Own work of the verifier.
-/
import Derived.Test.YthnmdbddfmgdlaaDoorEncH
import Derived.Defers
namespace Go.Proofs.YthnmdbddfmgdlaaDoor
open Go.RowKit

theorem catch_idle (p q : Addr) (w : World) :
    CallsD Tryd.prog 35 #[.pointer (some p), .pointer (some q)] .returning w fun e u' w' => e = .returned (.tuple #[]) ∧ u' = .returning ∧ w' = w := by
  refine callsD_of_wpS Tryd.func35 rfl fun c₀ cs hu => ?_
  apply wpS_seq
  apply wpS_region
  simp [wpOpsS, go_sem, recoverD, hu, Tryd.ntmps35, Exit.thenS]
  refine wpS_of_wp ?_
  go_wp2
  cases c₀
  simp_all [bodyPostS, results, Tryd.results35]
theorem Tryd.assertWrong (x : Value) (u : World) : Sem.run Tryd.prog (Instr.typeAssert (.iface 97 x) 20 97 false) u = .ok x u := by kernel_rfl
theorem Tryd.fieldWrong (u : World) : Sem.run Tryd.prog (Instr.field 97 (.agg #[.iface 83 (.int .i64 4)]) 0) u = .ok (.iface 83 (.int .i64 4)) u := by kernel_rfl
theorem catch_thrown (p q : Nat) (x y : Value) (w : World) (hp : w.cell? ⟨p, 0, none⟩ = some x) (hpf : w.frozen? ⟨p, 0, none⟩ = false) (hq : w.cell? ⟨q, 0, none⟩ = some y) (hqf : w.frozen? ⟨q, 0, none⟩ = false) (hpq : p ≠ q) :
    CallsD Tryd.prog 35 #[.pointer (some ⟨p, 0, none⟩), .pointer (some ⟨q, 0, none⟩)] (.panicking thrown) w fun e u' w' => e = .returned (.tuple #[]) ∧ u' = .panicking (thrown.map fun t => { t with recovered := true }) ∧ w' = (w.drew.setCell ⟨p, 0, none⟩ (.string { data := #[] })).setCell ⟨q, 0, none⟩ (.iface 83 (.int .i64 4)) := by
  refine callsD_of_wpS Tryd.func35 rfl fun c₀ cs hu => ?_
  apply wpS_seq
  apply wpS_region
  unfold thrown at hu
  simp [wpOpsS, go_sem, recoverD, hu, Tryd.ntmps35, Exit.thenS]
  refine wpS_of_wp ?_
  go_wp2
  have ht : (#[Value.pointer (some ⟨p, 0, none⟩), Value.pointer (some ⟨q, 0, none⟩)] ++ ((((Array.replicate 7 undef).setIfInBounds 1 (Value.iface 97 (Value.agg #[Value.iface 83 (Value.int IntKind.i64 4)]))).setIfInBounds 0 (Value.iface 97 (Value.agg #[Value.iface 83 (Value.int IntKind.i64 4)]))).setIfInBounds 2 (Value.iface 97 (Value.agg #[Value.iface 83 (Value.int IntKind.i64 4)]))).setIfInBounds 3 (Value.bool true)) = #[Value.pointer (some ⟨p, 0, none⟩), Value.pointer (some ⟨q, 0, none⟩), Value.iface 97 (Value.agg #[Value.iface 83 (Value.int IntKind.i64 4)]), Value.iface 97 (Value.agg #[Value.iface 83 (Value.int IntKind.i64 4)]), Value.iface 97 (Value.agg #[Value.iface 83 (Value.int IntKind.i64 4)]), Value.bool true, undef, undef, undef] := rfl
  rw [ht]
  have hta := Tryd.assertWrong
  have hfw := Tryd.fieldWrong
  go_region
  simp +zetaDelta [bodyPostS, results, Tryd.results35, thrown]
theorem RsB.mono {w : World} {b b' : Nat} {v : Value} {ns : List Int} (h : RsB w b v ns) (hb : b ≤ b') : RsB w b' v ns := by
  rcases h with h | ⟨sb, so, cap, h1, h2, h3⟩
  · exact Or.inl h
  · exact Or.inr ⟨sb, so, cap, h1, by omega, h3⟩
theorem LsB.mono {α : Type} {size : Nat} {w : World} {b b' : Nat} {v : Value} {ps : List (Array Value × α)} (h : LsB size w b v ps) (hb : b ≤ b') : LsB size w b' v ps := by
  rcases h with h | ⟨sb, so, cap, h1, h2, h3⟩
  · exact Or.inl h
  · exact Or.inr ⟨sb, so, cap, h1, by omega, h3⟩
theorem VsB.mono {α : Type} {w : World} {b b' : Nat} {v : Value} {ps : List (Value × α)} (h : VsB w b v ps) (hb : b ≤ b') : VsB w b' v ps := by
  rcases h with h | ⟨sb, so, cap, h1, h2, h3⟩
  · exact Or.inl h
  · exact Or.inr ⟨sb, so, cap, h1, by omega, h3⟩
theorem InsAt.mono {w : World} {b b' : Nat} {p : Array Value × InsE} (h : InsAt w b p) (hb : b ≤ b') : InsAt w b' p := by
  obtain ⟨av, ov, pa, h1, h2, h3, h4, h5, h6⟩ := h
  exact ⟨av, ov, pa, h1, h2, h3, h4.mono hb, h5.mono hb, h6⟩
theorem BlkAt.mono {w : World} {b b' : Nat} {p : Value × List InsE} (h : BlkAt w b p) (hb : b ≤ b') : BlkAt w b' p := by
  obtain ⟨ps, h1, h2, h3, h4⟩ := h
  exact ⟨ps, h1, h2.mono hb, fun q hq => (h3 q hq).mono hb, h4⟩
theorem FuncV.mono {w : World} {b b' : Nat} {f : FuncE} {pv hv sv bv : Value} {pp : List (Array Value × (Int × Int))} {pb : List (Value × List InsE)} (h : FuncV w b f pv hv sv bv pp pb) (hb : b ≤ b') : FuncV w b' f pv hv sv bv pp pb :=
  ⟨h.params, h.vals, h.pls.mono hb, h.hls.mono hb, h.sls.mono hb, h.bls.mono hb, h.blocks, fun q hq => (h.each q hq).mono hb, h.lens⟩
theorem FuncAt.mono {w : World} {b b' : Nat} {p : Array Value × FuncE} (h : FuncAt w b p) (hb : b ≤ b') : FuncAt w b' p := by
  obtain ⟨pv, hv, sv, bv, pp, pb, h1, h2⟩ := h
  exact ⟨pv, hv, sv, bv, pp, pb, h1, h2.mono hb⟩
theorem SigAt.mono {w : World} {b b' : Nat} {p : Array Value × (List Int × Int)} (h : SigAt w b p) (hb : b ≤ b') : SigAt w b' p := by
  obtain ⟨lv, h1, h2, h3⟩ := h
  exact ⟨lv, h1, h2.mono hb, h3⟩
theorem ProgV.mono {w : World} {b b' : Nat} {p : ProgE} {fv ev : Value} {pf : List (Array Value × FuncE)} {pe : List (Array Value × (List Int × Int))} (h : ProgV w b p fv ev pf pe) (hb : b ≤ b') : ProgV w b' p fv ev pf pe :=
  ⟨h.fls.mono hb, h.els.mono hb, h.funcs, h.externs, fun q hq => (h.feach q hq).mono hb, fun q hq => (h.eeach q hq).mono hb, h.lens⟩
def encOut (p : ProgE) : Option (List UInt8) := match encProg p with
  | some bs => if bs.length ≤ 4000 then some bs else none
  | none => none
def encRet : Option (List UInt8) → Value
  | some bs => .tuple #[.string ⟨bs.toArray⟩, .nilIface]
  | none => .tuple #[.string ⟨#[]⟩, .iface 83 (.int .i64 4)]
theorem below_high {B k j : Nat} {w w' : World} (h : Below B w w') (hk : B ≤ k) (v : Value) : Below B w (w'.setCell ⟨k, j, none⟩ v) := h.trans ⟨rfl, rfl, rfl, by simp, fun q hq => heap_setCell_other w' ⟨k, j, none⟩ q v (by show q ≠ k; omega)⟩
set_option maxHeartbeats 4000000 in
set_option maxRecDepth 100000 in
theorem encode_c (p : ProgE) (fv ev : Value) (pf : List (Array Value × FuncE)) (pe : List (Array Value × (List Int × Int))) (w : World) (hg : NeedsAt w) (hb : 1 < w.heap.size) (hP : ProgV w w.heap.size p fv ev pf pe) :
    Calls Tryd.prog 27 #[.agg #[fv, ev]] w fun e w' => e = .returned (encRet (encOut p)) ∧ Below w.heap.size w w' := by
  have hmf : ∀ (fn : Fn) (first cap : Array Value) (w : World), (Instr.makeFunc fn first cap).run Tryd.prog w = .ok (.func fn first cap) w := fun _ _ _ _ => rfl
  obtain ⟨p0, c0', e0⟩ := hP.fls.shape
  obtain ⟨p2, c2', e2⟩ := hP.els.shape
  generalize hn0 : pf.length = n0 at e0
  generalize hn2 : pe.length = n2 at e2
  subst e0 e2
  clear hn0 hn2
  have HP := hideE hP
  have HG := hideE hg
  clear hP hg
  go_enter_defers Tryd.func27, Tryd.ntmps27
  go_wp2_with fail
  have hbel : Below w.heap.size w ((((w.alloc (.cells #[.slice p0 n0 c0', .slice p2 n2 c2'] 25)).alloc (.cells #[.string { data := #[] }] 9)).alloc (.cells #[.nilIface] 43)).alloc (.cells #[.slice none 0 0] 100)) := by go_grown
  have hwt : Wt ((((w.alloc (.cells #[.slice p0 n0 c0', .slice p2 n2 c2'] 25)).alloc (.cells #[.string { data := #[] }] 9)).alloc (.cells #[.nilIface] 43)).alloc (.cells #[.slice none 0 0] 100)) (w.heap.size + 1 + 1 + 1) (.slice none 0 0) [] := ⟨(World.cell?_alloc_at _ _ _ _ (by simp)).trans rfl, World.frozen?_alloc_at _ _ _ _ (by simp), rfl, Or.inl ⟨rfl, rfl⟩⟩
  have cs : (((((w.alloc (.cells #[.slice p0 n0 c0', .slice p2 n2 c2'] 25)).alloc (.cells #[.string { data := #[] }] 9)).alloc (.cells #[.nilIface] 43)).alloc (.cells #[.slice none 0 0] 100)) : World).cell? ⟨w.heap.size + 1, 0, none⟩ = some (.string { data := #[] }) := (World.cell?_alloc_past _ _ _ (by simp)).trans ((World.cell?_alloc_past _ _ _ (by simp)).trans ((World.cell?_alloc_at _ _ _ _ (by simp)).trans rfl))
  have csf : (((((w.alloc (.cells #[.slice p0 n0 c0', .slice p2 n2 c2'] 25)).alloc (.cells #[.string { data := #[] }] 9)).alloc (.cells #[.nilIface] 43)).alloc (.cells #[.slice none 0 0] 100)) : World).frozen? ⟨w.heap.size + 1, 0, none⟩ = false := (World.frozen?_alloc_past _ _ _ (by simp)).trans ((World.frozen?_alloc_past _ _ _ (by simp)).trans (World.frozen?_alloc_at _ _ _ _ (by simp)))
  have ce : (((((w.alloc (.cells #[.slice p0 n0 c0', .slice p2 n2 c2'] 25)).alloc (.cells #[.string { data := #[] }] 9)).alloc (.cells #[.nilIface] 43)).alloc (.cells #[.slice none 0 0] 100)) : World).cell? ⟨w.heap.size + 1 + 1, 0, none⟩ = some .nilIface := (World.cell?_alloc_past _ _ _ (by simp)).trans ((World.cell?_alloc_at _ _ _ _ (by simp)).trans rfl)
  have cef : (((((w.alloc (.cells #[.slice p0 n0 c0', .slice p2 n2 c2'] 25)).alloc (.cells #[.string { data := #[] }] 9)).alloc (.cells #[.nilIface] 43)).alloc (.cells #[.slice none 0 0] 100)) : World).frozen? ⟨w.heap.size + 1 + 1, 0, none⟩ = false := (World.frozen?_alloc_past _ _ _ (by simp)).trans (World.frozen?_alloc_at _ _ _ _ (by simp))
  generalize ((((w.alloc (.cells #[.slice p0 n0 c0', .slice p2 n2 c2'] 25)).alloc (.cells #[.string { data := #[] }] 9)).alloc (.cells #[.nilIface] 43)).alloc (.cells #[.slice none 0 0] 100)) = W0 at hbel hwt cs csf ce cef ⊢
  refine (program_c (w.heap.size + 1 + 1 + 1) (by omega) (.slice none 0 0) [] p _ _ pf pe W0 hwt (by simp) ((unhideE HG).below hb hbel) (((unhideE HP).ws (ws_below hbel (Nat.le_refl _))).mono (by omega))).mono ?_
  rintro e w1 ⟨hws, hm⟩
  have cs1 : w1.cell? ⟨w.heap.size + 1, 0, none⟩ = _ := (hws.low.cell (p := ⟨w.heap.size + 1, 0, none⟩) (show w.heap.size + 1 < w.heap.size + 1 + 1 + 1 by omega)).trans cs
  have ce1 : w1.cell? ⟨w.heap.size + 1 + 1, 0, none⟩ = _ := (hws.low.cell (p := ⟨w.heap.size + 1 + 1, 0, none⟩) (show w.heap.size + 1 + 1 < w.heap.size + 1 + 1 + 1 by omega)).trans ce
  have csf1 : w1.frozen? ⟨w.heap.size + 1, 0, none⟩ = false := (World.frozen?_of_block (a := ⟨w.heap.size + 1, 0, none⟩) (hws.low.block (w.heap.size + 1) (by omega))).trans csf
  have cef1 : w1.frozen? ⟨w.heap.size + 1 + 1, 0, none⟩ = false := (World.frozen?_of_block (a := ⟨w.heap.size + 1 + 1, 0, none⟩) (hws.low.block (w.heap.size + 1 + 1) (by omega))).trans cef
  have HB1 := hideE (hbel.trans (⟨hws.low.os, hws.low.tape, hws.low.output, hws.low.size, fun q hq => hws.low.block q (by omega)⟩ : Below w.heap.size W0 w1))
  clear cs ce csf cef hws hwt hbel HP HG
  have HTH := hideE (catch_thrown (w.heap.size + 1) (w.heap.size + 1 + 1) _ _ w1 cs1 csf1 ce1 cef1 (by omega))
  cases hr : encProg p with
  | none =>
    rw [hr] at hm
    subst hm
    have HO := hideE (show encOut p = none by unfold encOut; rw [hr])
    refine leaves_cons (f := 35) (args := #[.pointer (some ⟨w.heap.size + 1, 0, none⟩), .pointer (some ⟨w.heap.size + 1 + 1, 0, none⟩)]) (by simp) (by simp [go_sem]) ?_
    refine (unhideE HTH).mono ?_
    rintro e u' w'' ⟨rfl, rfl, rfl⟩
    have HB2 := hideE (below_high (j := 0) (below_high (j := 0) (unhideE HB1) (show w.heap.size ≤ w.heap.size + 1 by omega) (.string { data := #[] })) (show w.heap.size ≤ w.heap.size + 1 + 1 by omega) (.iface 83 (.int .i64 4)))
    simp [Leaves, settle, results, Tryd.results27, go_sem, thrown, cs1, ce1, unhideE HO, encRet]
    exact ⟨(unhideE HB2).os, (unhideE HB2).tape, (unhideE HB2).output, (unhideE HB2).size, (unhideE HB2).block⟩
  | some bs =>
    rw [hr] at hm
    obtain ⟨rfl, v1, hw1⟩ := hm
    rw [List.nil_append] at hw1
    have hbs := encProg_len p bs hr
    have hpos : 0 < bs.length := by
      unfold encProg at hr
      obtain ⟨x, y, ex, ey, rfl⟩ := seqE_some hr
      cases ex
      simp
    have cw := hw1.cell
    have hrow := hw1.row
    obtain ⟨g, cap, rfl⟩ : ∃ g cap, v1 = .slice (some ⟨g, 0, none⟩) bs.length cap := by
      rcases hrow.2 with ⟨_, h0⟩ | ⟨g, cap, cur, e, -⟩
      · omega
      · exact ⟨g, cap, e⟩
    have hcv : (convert 91 9 (.slice (some ⟨g, 0, none⟩) bs.length cap)).run Tryd.prog w1 = .ok (.string ⟨bs.toArray⟩) w1 :=
      run_convert_bytes_back w1 91 9 5 ⟨g, 0, none⟩ cap bs Tryd.underlying91 Tryd.underlying5 Tryd.underlying9 (fun j hj => by
        have := hrow.cellAt j (by omega)
        rw [show (⟨g, 0, none⟩ : Addr).add j = ⟨g, j, none⟩ by unfold Addr.add; split <;> simp_all, this]
        simp [bCells, hj])
    have HIDLE := hideE (fun w2 => catch_idle ⟨w.heap.size + 1, 0, none⟩ ⟨w.heap.size + 1 + 1, 0, none⟩ w2)
    clear hw1 hrow
    by_cases hlen : bs.length ≤ 4000
    · have HO := hideE (show encOut p = some bs by unfold encOut; rw [hr]; exact if_pos hlen)
      generalize bs.length = n at *
      go_wp2
      refine leaves_cons (f := 35) (args := #[.pointer (some ⟨w.heap.size + 1, 0, none⟩), .pointer (some ⟨w.heap.size + 1 + 1, 0, none⟩)]) (by simp) (by simp [go_sem]) ?_
      refine (unhideE HIDLE _).mono ?_
      rintro e u' w'' ⟨rfl, rfl, rfl⟩
      have HB2 := hideE (below_high (j := 0) (below_high (j := 0) (unhideE HB1) (show w.heap.size ≤ w.heap.size + 1 by omega) (.string ⟨bs.toArray⟩)) (show w.heap.size ≤ w.heap.size + 1 + 1 by omega) .nilIface)
      simp [Leaves, settle, results, Tryd.results27, go_sem, cs1, ce1, unhideE HO, encRet]
      exact unhideE HB2
    · have HO := hideE (show encOut p = none by unfold encOut; rw [hr]; exact if_neg hlen)
      go_wp2_with fail
      refine (refuse_c _ _).mono ?_
      rintro e w3 ⟨rfl, hw⟩
      subst w3
      refine leaves_cons (f := 35) (args := #[.pointer (some ⟨w.heap.size + 1, 0, none⟩), .pointer (some ⟨w.heap.size + 1 + 1, 0, none⟩)]) (by simp) (by simp [go_sem]) ?_
      refine (unhideE HTH).mono ?_
      rintro e u' w'' ⟨rfl, rfl, rfl⟩
      have HB2 := hideE (below_high (j := 0) (below_high (j := 0) (unhideE HB1) (show w.heap.size ≤ w.heap.size + 1 by omega) (.string { data := #[] })) (show w.heap.size ≤ w.heap.size + 1 + 1 by omega) (.iface 83 (.int .i64 4)))
      simp [Leaves, settle, results, Tryd.results27, go_sem, thrown, cs1, ce1, unhideE HO, encRet]
      exact ⟨(unhideE HB2).os, (unhideE HB2).tape, (unhideE HB2).output, (unhideE HB2).size, (unhideE HB2).block⟩
end Go.Proofs.YthnmdbddfmgdlaaDoor
