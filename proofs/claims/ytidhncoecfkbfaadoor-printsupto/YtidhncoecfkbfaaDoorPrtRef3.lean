/-
  prologueref.Print by its contract. Own work of the verifier.
-/
import Derived.Test.YtidhncoecfkbfaaDoorPrtRef2
namespace Go.Proofs.YtidhncoecfkbfaaDoor
open Go.RowKit

set_option maxHeartbeats 4000000 in
theorem rprint (r sp lk t0 t1 : Int) (va vr vs : Value) (al sh by_ : Int) (pr : Bool) (ag rs ss : List Int) (w : World) (hT : Tabs w) (hva : Rs w va ag) (hvr : Rs w vr rs) (hvs : Rs w vs ss)
    (hpl : ∀ k, k ≤ 10 → (pre r sp lk t0 t1 ag rs ss al sh by_ k).length ≤ 1000000000) (hokk : ∀ k, k < 10 → okI (nsOf r sp lk t0 t1 ag rs ss al sh by_ k)) (hnl : ∀ k, k < 10 → (nsOf r sp lk t0 t1 ag rs ss al sh by_ k).length ≤ 4000000) :
    Calls Tryd.prog 19 #[.agg (boxOf r sp lk t0 t1 va vr vs al sh by_ pr)] w fun e w' => e = .returned (.string ⟨(printText r sp lk t0 t1 ag rs ss al sh by_ pr).toArray⟩) ∧ Below w.heap.size w w' := by
  have HT := hideP hT
  have HRva := hideP hva
  have HRvr := hideP hvr
  have HRvs := hideP hvs
  have HPL := hideP hpl
  have HOK := hideP (And.intro hokk hnl)
  clear hT hva hvr hvs hpl hokk hnl
  unfold boxOf
  go_enter Tryd.func19, Tryd.ntmps19
  go_wp2_with fail
  refine (words_any _).mono ?_
  rintro e w1 ⟨nb, nv, rfl, hnm, hnb, hnb1, hb1⟩
  have hbx : ∀ i, w1.cell? ⟨w.heap.size, i, none⟩ = #[Value.int .i64 r, .int .i64 sp, .int .i64 lk, .int .i64 t0, .int .i64 t1, va, vr, vs, .int .i64 al, .int .i64 sh, .int .i64 by_, .bool pr][i]? := fun i =>
    (hb1.cell (p := ⟨w.heap.size, i, none⟩) (by simp)).trans (World.cell?_alloc_at _ _ _ _ rfl)
  have hsz1 := hb1.size
  simp only [World.size_alloc] at hsz1 hnb
  have HNM := hideP hnm
  have HB1 := hideP (((Below.refl w.heap.size w).alloc (Nat.le_refl _) _).trans (hb1.mono (by simp)))
  have HBX := hideP hbx
  clear hnm hb1 hbx
  go_wp2_with fail
  refine flow (by kernel_rfl) 14 _ (OkP r sp lk t0 t1 ag rs ss al sh by_ w.heap.size) (fun w' => Below w.heap.size w w' ∧ Below w1.heap.size w1 w') ?hd ?hsz ?hle (fun i v w w' h hb => OkP.below r sp lk t0 t1 ag rs ss al sh by_ _ i v w w' h hb) (fun w2 w' h hb => ⟨h.1.trans (hb.mono h.1.size), h.2.trans (hb.mono h.2.size)⟩) ?step ?fin ?hS
  case hS => exact ⟨(unhideP HB1).drew, (Below.refl _ _).drew⟩
  case hsz => show 14 + 29 ≤ 81; omega
  case hd =>
    intro i o ho
    have hi : i < 29 := (Array.getElem?_eq_some_iff.1 ho).1
    match i, hi with
    | 0, _ => obtain rfl := (Option.some.inj ho).symm; exact ⟨rfl, rfl⟩
    | 1, _ => obtain rfl := (Option.some.inj ho).symm; exact ⟨rfl, rfl⟩
    | 2, _ => obtain rfl := (Option.some.inj ho).symm; exact ⟨rfl, rfl⟩
    | 3, _ => obtain rfl := (Option.some.inj ho).symm; exact ⟨rfl, rfl⟩
    | 4, _ => obtain rfl := (Option.some.inj ho).symm; exact ⟨rfl, rfl⟩
    | 5, _ => obtain rfl := (Option.some.inj ho).symm; exact ⟨rfl, rfl⟩
    | 6, _ => obtain rfl := (Option.some.inj ho).symm; exact ⟨rfl, rfl⟩
    | 7, _ => obtain rfl := (Option.some.inj ho).symm; exact ⟨rfl, rfl⟩
    | 8, _ => obtain rfl := (Option.some.inj ho).symm; exact ⟨rfl, rfl⟩
    | 9, _ => obtain rfl := (Option.some.inj ho).symm; exact ⟨rfl, rfl⟩
    | 10, _ => obtain rfl := (Option.some.inj ho).symm; exact ⟨rfl, rfl⟩
    | 11, _ => obtain rfl := (Option.some.inj ho).symm; exact ⟨rfl, rfl⟩
    | 12, _ => obtain rfl := (Option.some.inj ho).symm; exact ⟨rfl, rfl⟩
    | 13, _ => obtain rfl := (Option.some.inj ho).symm; exact ⟨rfl, rfl⟩
    | 14, _ => obtain rfl := (Option.some.inj ho).symm; exact ⟨rfl, rfl⟩
    | 15, _ => obtain rfl := (Option.some.inj ho).symm; exact ⟨rfl, rfl⟩
    | 16, _ => obtain rfl := (Option.some.inj ho).symm; exact ⟨rfl, rfl⟩
    | 17, _ => obtain rfl := (Option.some.inj ho).symm; exact ⟨rfl, rfl⟩
    | 18, _ => obtain rfl := (Option.some.inj ho).symm; exact ⟨rfl, rfl⟩
    | 19, _ => obtain rfl := (Option.some.inj ho).symm; exact ⟨rfl, rfl⟩
    | 20, _ => obtain rfl := (Option.some.inj ho).symm; exact ⟨rfl, rfl⟩
    | 21, _ => obtain rfl := (Option.some.inj ho).symm; exact ⟨rfl, rfl⟩
    | 22, _ => obtain rfl := (Option.some.inj ho).symm; exact ⟨rfl, rfl⟩
    | 23, _ => obtain rfl := (Option.some.inj ho).symm; exact ⟨rfl, rfl⟩
    | 24, _ => obtain rfl := (Option.some.inj ho).symm; exact ⟨rfl, rfl⟩
    | 25, _ => obtain rfl := (Option.some.inj ho).symm; exact ⟨rfl, rfl⟩
    | 26, _ => obtain rfl := (Option.some.inj ho).symm; exact ⟨rfl, rfl⟩
    | 27, _ => obtain rfl := (Option.some.inj ho).symm; exact ⟨rfl, rfl⟩
    | 28, _ => obtain rfl := (Option.some.inj ho).symm; exact ⟨rfl, rfl⟩
  case hle =>
    intro i o ho
    have hi : i < 29 := (Array.getElem?_eq_some_iff.1 ho).1
    match i, hi with
    | 0, _ => obtain rfl := (Option.some.inj ho).symm; simp
    | 1, _ => obtain rfl := (Option.some.inj ho).symm; simp
    | 2, _ => obtain rfl := (Option.some.inj ho).symm; simp
    | 3, _ => obtain rfl := (Option.some.inj ho).symm; simp
    | 4, _ => obtain rfl := (Option.some.inj ho).symm; simp
    | 5, _ => obtain rfl := (Option.some.inj ho).symm; simp
    | 6, _ => obtain rfl := (Option.some.inj ho).symm; simp
    | 7, _ => obtain rfl := (Option.some.inj ho).symm; simp
    | 8, _ => obtain rfl := (Option.some.inj ho).symm; simp
    | 9, _ => obtain rfl := (Option.some.inj ho).symm; simp
    | 10, _ => obtain rfl := (Option.some.inj ho).symm; simp
    | 11, _ => obtain rfl := (Option.some.inj ho).symm; simp
    | 12, _ => obtain rfl := (Option.some.inj ho).symm; simp
    | 13, _ => obtain rfl := (Option.some.inj ho).symm; simp
    | 14, _ => obtain rfl := (Option.some.inj ho).symm; simp
    | 15, _ => obtain rfl := (Option.some.inj ho).symm; simp
    | 16, _ => obtain rfl := (Option.some.inj ho).symm; simp
    | 17, _ => obtain rfl := (Option.some.inj ho).symm; simp
    | 18, _ => obtain rfl := (Option.some.inj ho).symm; simp
    | 19, _ => obtain rfl := (Option.some.inj ho).symm; simp
    | 20, _ => obtain rfl := (Option.some.inj ho).symm; simp
    | 21, _ => obtain rfl := (Option.some.inj ho).symm; simp
    | 22, _ => obtain rfl := (Option.some.inj ho).symm; simp
    | 23, _ => obtain rfl := (Option.some.inj ho).symm; simp
    | 24, _ => obtain rfl := (Option.some.inj ho).symm; simp
    | 25, _ => obtain rfl := (Option.some.inj ho).symm; simp
    | 26, _ => obtain rfl := (Option.some.inj ho).symm; simp
    | 27, _ => obtain rfl := (Option.some.inj ho).symm; simp
    | 28, _ => obtain rfl := (Option.some.inj ho).symm; simp
  case step =>
    intro i o ho a w' hSS hfr hdp
    have hi : i < 29 := (Array.getElem?_eq_some_iff.1 ho).1
    obtain ⟨hS, hS1⟩ := hSS
    have hbx' : ∀ i, w'.cell? ⟨w.heap.size, i, none⟩ = #[Value.int .i64 r, .int .i64 sp, .int .i64 lk, .int .i64 t0, .int .i64 t1, va, vr, vs, .int .i64 al, .int .i64 sh, .int .i64 by_, .bool pr][i]? := fun i => (hS1.cell (p := ⟨w.heap.size, i, none⟩) (by show w.heap.size < _; omega)).trans (unhideP HBX i)
    match i, hi with
    | 0, _ =>
      obtain rfl := (Option.some.inj ho).symm
      have e1 : a.eval (.tmp 1) = .pointer (some ⟨w.heap.size, 0, none⟩) := hfr 1 (by omega)
      refine ⟨.pointer (some ⟨w.heap.size, 0, none⟩), w', ?_, Below.refl _ _, rfl⟩
      simp [Act.eval] at e1; clear hdp hfr ho; simp [execOp, e1, go_sem]
    | 1, _ =>
      obtain rfl := (Option.some.inj ho).symm
      have e1 : a.eval (.tmp 14) = .pointer (some ⟨w.heap.size, 0, none⟩) := hdp ⟨0, .data⟩ (by simp) rfl
      refine ⟨.int .i64 r, w', ?_, Below.refl _ _, rfl⟩
      simp [Act.eval] at e1; clear hdp hfr ho; simp [execOp, e1, go_sem, hbx']
    | 2, _ =>
      obtain rfl := (Option.some.inj ho).symm
      have e1 : a.eval (.tmp 15) = .int .i64 r := hdp ⟨1, .data⟩ (by simp) rfl
      refine ⟨_, _, ?_, (Below.refl _ _).alloc (Nat.le_refl _) _, Rs_one w' r⟩
      simp [Act.eval] at e1; clear hdp hfr ho; simp [execOp, e1, go_sem]
    | 3, _ =>
      obtain rfl := (Option.some.inj ho).symm
      have e1 : a.eval (.tmp 1) = .pointer (some ⟨w.heap.size, 0, none⟩) := hfr 1 (by omega)
      refine ⟨.pointer (some ⟨w.heap.size, 1, none⟩), w', ?_, Below.refl _ _, rfl⟩
      simp [Act.eval] at e1; clear hdp hfr ho; simp [execOp, e1, go_sem]
    | 4, _ =>
      obtain rfl := (Option.some.inj ho).symm
      have e1 : a.eval (.tmp 17) = .pointer (some ⟨w.heap.size, 1, none⟩) := hdp ⟨3, .data⟩ (by simp) rfl
      refine ⟨.int .i64 sp, w', ?_, Below.refl _ _, rfl⟩
      simp [Act.eval] at e1; clear hdp hfr ho; simp [execOp, e1, go_sem, hbx']
    | 5, _ =>
      obtain rfl := (Option.some.inj ho).symm
      have e1 : a.eval (.tmp 18) = .int .i64 sp := hdp ⟨4, .data⟩ (by simp) rfl
      refine ⟨_, _, ?_, (Below.refl _ _).alloc (Nat.le_refl _) _, Rs_one w' sp⟩
      simp [Act.eval] at e1; clear hdp hfr ho; simp [execOp, e1, go_sem]
    | 6, _ =>
      obtain rfl := (Option.some.inj ho).symm
      have e1 : a.eval (.tmp 1) = .pointer (some ⟨w.heap.size, 0, none⟩) := hfr 1 (by omega)
      refine ⟨.pointer (some ⟨w.heap.size, 2, none⟩), w', ?_, Below.refl _ _, rfl⟩
      simp [Act.eval] at e1; clear hdp hfr ho; simp [execOp, e1, go_sem]
    | 7, _ =>
      obtain rfl := (Option.some.inj ho).symm
      have e1 : a.eval (.tmp 20) = .pointer (some ⟨w.heap.size, 2, none⟩) := hdp ⟨6, .data⟩ (by simp) rfl
      refine ⟨.int .i64 lk, w', ?_, Below.refl _ _, rfl⟩
      simp [Act.eval] at e1; clear hdp hfr ho; simp [execOp, e1, go_sem, hbx']
    | 8, _ =>
      obtain rfl := (Option.some.inj ho).symm
      have e1 : a.eval (.tmp 21) = .int .i64 lk := hdp ⟨7, .data⟩ (by simp) rfl
      refine ⟨_, _, ?_, (Below.refl _ _).alloc (Nat.le_refl _) _, Rs_one w' lk⟩
      simp [Act.eval] at e1; clear hdp hfr ho; simp [execOp, e1, go_sem]
    | 9, _ =>
      obtain rfl := (Option.some.inj ho).symm
      have e1 : a.eval (.tmp 1) = .pointer (some ⟨w.heap.size, 0, none⟩) := hfr 1 (by omega)
      refine ⟨.pointer (some ⟨w.heap.size, 3, none⟩), w', ?_, Below.refl _ _, rfl⟩
      simp [Act.eval] at e1; clear hdp hfr ho; simp [execOp, e1, go_sem]
    | 10, _ =>
      obtain rfl := (Option.some.inj ho).symm
      have e1 : a.eval (.tmp 23) = .pointer (some ⟨w.heap.size, 3, none⟩) := hdp ⟨9, .data⟩ (by simp) rfl
      refine ⟨.slice (some ⟨w.heap.size, 3, none⟩) 2 2, w', ?_, Below.refl _ _, Or.inr ⟨_, _, _, rfl, fun i hi => ?_⟩⟩
      · simp [Act.eval] at e1; clear hdp hfr ho; simp [execOp, e1, go_sem]
      · rw [hbx']
        match i, hi with
        | 0, _ | 1, _ => rfl
    | 11, _ =>
      obtain rfl := (Option.some.inj ho).symm
      have e1 : a.eval (.tmp 1) = .pointer (some ⟨w.heap.size, 0, none⟩) := hfr 1 (by omega)
      refine ⟨.pointer (some ⟨w.heap.size, 5, none⟩), w', ?_, Below.refl _ _, rfl⟩
      simp [Act.eval] at e1; clear hdp hfr ho; simp [execOp, e1, go_sem]
    | 12, _ =>
      obtain rfl := (Option.some.inj ho).symm
      have e1 : a.eval (.tmp 25) = .pointer (some ⟨w.heap.size, 5, none⟩) := hdp ⟨11, .data⟩ (by simp) rfl
      refine ⟨va, w', ?_, Below.refl _ _, (unhideP HRva).below hS⟩
      simp [Act.eval] at e1; clear hdp hfr ho; simp [execOp, e1, go_sem, hbx']
    | 13, _ =>
      obtain rfl := (Option.some.inj ho).symm
      have e1 : a.eval (.tmp 1) = .pointer (some ⟨w.heap.size, 0, none⟩) := hfr 1 (by omega)
      refine ⟨.pointer (some ⟨w.heap.size, 6, none⟩), w', ?_, Below.refl _ _, rfl⟩
      simp [Act.eval] at e1; clear hdp hfr ho; simp [execOp, e1, go_sem]
    | 14, _ =>
      obtain rfl := (Option.some.inj ho).symm
      have e1 : a.eval (.tmp 27) = .pointer (some ⟨w.heap.size, 6, none⟩) := hdp ⟨13, .data⟩ (by simp) rfl
      refine ⟨vr, w', ?_, Below.refl _ _, (unhideP HRvr).below hS⟩
      simp [Act.eval] at e1; clear hdp hfr ho; simp [execOp, e1, go_sem, hbx']
    | 15, _ =>
      obtain rfl := (Option.some.inj ho).symm
      have e1 : a.eval (.tmp 1) = .pointer (some ⟨w.heap.size, 0, none⟩) := hfr 1 (by omega)
      refine ⟨.pointer (some ⟨w.heap.size, 7, none⟩), w', ?_, Below.refl _ _, rfl⟩
      simp [Act.eval] at e1; clear hdp hfr ho; simp [execOp, e1, go_sem]
    | 16, _ =>
      obtain rfl := (Option.some.inj ho).symm
      have e1 : a.eval (.tmp 29) = .pointer (some ⟨w.heap.size, 7, none⟩) := hdp ⟨15, .data⟩ (by simp) rfl
      refine ⟨vs, w', ?_, Below.refl _ _, (unhideP HRvs).below hS⟩
      simp [Act.eval] at e1; clear hdp hfr ho; simp [execOp, e1, go_sem, hbx']
    | 17, _ =>
      obtain rfl := (Option.some.inj ho).symm
      have e1 : a.eval (.tmp 1) = .pointer (some ⟨w.heap.size, 0, none⟩) := hfr 1 (by omega)
      refine ⟨.pointer (some ⟨w.heap.size, 8, none⟩), w', ?_, Below.refl _ _, rfl⟩
      simp [Act.eval] at e1; clear hdp hfr ho; simp [execOp, e1, go_sem]
    | 18, _ =>
      obtain rfl := (Option.some.inj ho).symm
      have e1 : a.eval (.tmp 31) = .pointer (some ⟨w.heap.size, 8, none⟩) := hdp ⟨17, .data⟩ (by simp) rfl
      refine ⟨.int .i64 al, w', ?_, Below.refl _ _, rfl⟩
      simp [Act.eval] at e1; clear hdp hfr ho; simp [execOp, e1, go_sem, hbx']
    | 19, _ =>
      obtain rfl := (Option.some.inj ho).symm
      have e1 : a.eval (.tmp 32) = .int .i64 al := hdp ⟨18, .data⟩ (by simp) rfl
      refine ⟨_, _, ?_, (Below.refl _ _).alloc (Nat.le_refl _) _, Rs_one w' al⟩
      simp [Act.eval] at e1; clear hdp hfr ho; simp [execOp, e1, go_sem]
    | 20, _ =>
      obtain rfl := (Option.some.inj ho).symm
      have e1 : a.eval (.tmp 1) = .pointer (some ⟨w.heap.size, 0, none⟩) := hfr 1 (by omega)
      refine ⟨.pointer (some ⟨w.heap.size, 9, none⟩), w', ?_, Below.refl _ _, rfl⟩
      simp [Act.eval] at e1; clear hdp hfr ho; simp [execOp, e1, go_sem]
    | 21, _ =>
      obtain rfl := (Option.some.inj ho).symm
      have e1 : a.eval (.tmp 34) = .pointer (some ⟨w.heap.size, 9, none⟩) := hdp ⟨20, .data⟩ (by simp) rfl
      refine ⟨.int .i64 sh, w', ?_, Below.refl _ _, rfl⟩
      simp [Act.eval] at e1; clear hdp hfr ho; simp [execOp, e1, go_sem, hbx']
    | 22, _ =>
      obtain rfl := (Option.some.inj ho).symm
      have e1 : a.eval (.tmp 35) = .int .i64 sh := hdp ⟨21, .data⟩ (by simp) rfl
      refine ⟨_, _, ?_, (Below.refl _ _).alloc (Nat.le_refl _) _, Rs_one w' sh⟩
      simp [Act.eval] at e1; clear hdp hfr ho; simp [execOp, e1, go_sem]
    | 23, _ =>
      obtain rfl := (Option.some.inj ho).symm
      have e1 : a.eval (.tmp 1) = .pointer (some ⟨w.heap.size, 0, none⟩) := hfr 1 (by omega)
      refine ⟨.pointer (some ⟨w.heap.size, 10, none⟩), w', ?_, Below.refl _ _, rfl⟩
      simp [Act.eval] at e1; clear hdp hfr ho; simp [execOp, e1, go_sem]
    | 24, _ =>
      obtain rfl := (Option.some.inj ho).symm
      have e1 : a.eval (.tmp 37) = .pointer (some ⟨w.heap.size, 10, none⟩) := hdp ⟨23, .data⟩ (by simp) rfl
      refine ⟨.int .i64 by_, w', ?_, Below.refl _ _, rfl⟩
      simp [Act.eval] at e1; clear hdp hfr ho; simp [execOp, e1, go_sem, hbx']
    | 25, _ =>
      obtain rfl := (Option.some.inj ho).symm
      have e1 : a.eval (.tmp 38) = .int .i64 by_ := hdp ⟨24, .data⟩ (by simp) rfl
      refine ⟨_, _, ?_, (Below.refl _ _).alloc (Nat.le_refl _) _, Rs_one w' by_⟩
      simp [Act.eval] at e1; clear hdp hfr ho; simp [execOp, e1, go_sem]
    | 26, _ =>
      obtain rfl := (Option.some.inj ho).symm
      have q0 : Rs w' (a.eval (.tmp 16)) [r] := hdp ⟨2, .data⟩ (by simp) rfl
      obtain ⟨p0, n0, k0, e0⟩ := q0.form
      have q1 : Rs w' (a.eval (.tmp 19)) [sp] := hdp ⟨5, .data⟩ (by simp) rfl
      obtain ⟨p1, n1, k1, e1⟩ := q1.form
      have q2 : Rs w' (a.eval (.tmp 22)) [lk] := hdp ⟨8, .data⟩ (by simp) rfl
      obtain ⟨p2, n2, k2, e2⟩ := q2.form
      have q3 : Rs w' (a.eval (.tmp 24)) [t0, t1] := hdp ⟨10, .data⟩ (by simp) rfl
      obtain ⟨p3, n3, k3, e3⟩ := q3.form
      have q4 : Rs w' (a.eval (.tmp 26)) ag := hdp ⟨12, .data⟩ (by simp) rfl
      obtain ⟨p4, n4, k4, e4⟩ := q4.form
      have q5 : Rs w' (a.eval (.tmp 28)) rs := hdp ⟨14, .data⟩ (by simp) rfl
      obtain ⟨p5, n5, k5, e5⟩ := q5.form
      have q6 : Rs w' (a.eval (.tmp 30)) ss := hdp ⟨16, .data⟩ (by simp) rfl
      obtain ⟨p6, n6, k6, e6⟩ := q6.form
      have q7 : Rs w' (a.eval (.tmp 33)) [al] := hdp ⟨19, .data⟩ (by simp) rfl
      obtain ⟨p7, n7, k7, e7⟩ := q7.form
      have q8 : Rs w' (a.eval (.tmp 36)) [sh] := hdp ⟨22, .data⟩ (by simp) rfl
      obtain ⟨p8, n8, k8, e8⟩ := q8.form
      have q9 : Rs w' (a.eval (.tmp 39)) [by_] := hdp ⟨25, .data⟩ (by simp) rfl
      obtain ⟨p9, n9, k9, e9⟩ := q9.form
      refine ⟨.slice (some ⟨w'.heap.size, 0, none⟩) 10 10, w'.alloc (.cells #[a.eval (.tmp 16), a.eval (.tmp 19), a.eval (.tmp 22), a.eval (.tmp 24), a.eval (.tmp 26), a.eval (.tmp 28), a.eval (.tmp 30), a.eval (.tmp 33), a.eval (.tmp 36), a.eval (.tmp 39)] 43), ?_, (Below.refl _ _).alloc (Nat.le_refl _) _, ⟨_, rfl, fun k hk => ?_⟩⟩
      · rw [e0, e1, e2, e3, e4, e5, e6, e7, e8, e9]
        simp [Act.eval] at e0 e1 e2 e3 e4 e5 e6 e7 e8 e9
        clear hdp hfr ho q0 q1 q2 q3 q4 q5 q6 q7 q8 q9
        simp [execOp, e0, e1, e2, e3, e4, e5, e6, e7, e8, e9, go_sem]
      · match k, hk with
        | 0, _ => exact ⟨_, by rw [World.cell?_alloc_at _ _ _ _ rfl]; rfl, q0.below ((Below.refl _ _).alloc (Nat.le_refl _) _)⟩
        | 1, _ => exact ⟨_, by rw [World.cell?_alloc_at _ _ _ _ rfl]; rfl, q1.below ((Below.refl _ _).alloc (Nat.le_refl _) _)⟩
        | 2, _ => exact ⟨_, by rw [World.cell?_alloc_at _ _ _ _ rfl]; rfl, q2.below ((Below.refl _ _).alloc (Nat.le_refl _) _)⟩
        | 3, _ => exact ⟨_, by rw [World.cell?_alloc_at _ _ _ _ rfl]; rfl, q3.below ((Below.refl _ _).alloc (Nat.le_refl _) _)⟩
        | 4, _ => exact ⟨_, by rw [World.cell?_alloc_at _ _ _ _ rfl]; rfl, q4.below ((Below.refl _ _).alloc (Nat.le_refl _) _)⟩
        | 5, _ => exact ⟨_, by rw [World.cell?_alloc_at _ _ _ _ rfl]; rfl, q5.below ((Below.refl _ _).alloc (Nat.le_refl _) _)⟩
        | 6, _ => exact ⟨_, by rw [World.cell?_alloc_at _ _ _ _ rfl]; rfl, q6.below ((Below.refl _ _).alloc (Nat.le_refl _) _)⟩
        | 7, _ => exact ⟨_, by rw [World.cell?_alloc_at _ _ _ _ rfl]; rfl, q7.below ((Below.refl _ _).alloc (Nat.le_refl _) _)⟩
        | 8, _ => exact ⟨_, by rw [World.cell?_alloc_at _ _ _ _ rfl]; rfl, q8.below ((Below.refl _ _).alloc (Nat.le_refl _) _)⟩
        | 9, _ => exact ⟨_, by rw [World.cell?_alloc_at _ _ _ _ rfl]; rfl, q9.below ((Below.refl _ _).alloc (Nat.le_refl _) _)⟩
    | 27, _ =>
      obtain rfl := (Option.some.inj ho).symm
      obtain ⟨b, e1, -⟩ : ∃ b, a.eval (.tmp 40) = .slice (some ⟨b, 0, none⟩) 10 10 ∧ _ := hdp ⟨26, .data⟩ (by simp) rfl
      refine ⟨.int .i64 10, w', ?_, Below.refl _ _, rfl⟩
      simp [Act.eval] at e1; clear hdp hfr ho; simp [execOp, e1, go_sem]
    | 28, _ =>
      obtain rfl := (Option.some.inj ho).symm
      refine ⟨.int .i64 0, w', ?_, Below.refl _ _, rfl⟩
      clear hdp hfr ho; simp [execOp, Act.eval]
  case fin =>
    intro a w' hSS hdf hts hout hok
    obtain ⟨ob, e40, hel⟩ : ∃ b, a.eval (.tmp 40) = .slice (some ⟨b, 0, none⟩) 10 10 ∧ ∀ k, k < 10 → ∃ u, w'.cell? ⟨b, k, none⟩ = some u ∧ Rs w' u (nsOf r sp lk t0 t1 ag rs ss al sh by_ k) := hok 26 (by show 26 < 29; omega)
    have e41 : a.eval (.tmp 41) = .int .i64 10 := hok 27 (by show 27 < 29; omega)
    have e42 : a.eval (.tmp 42) = .int .i64 0 := hok 28 (by show 28 < 29; omega)
    have ha := act_of a _ 14 [a.eval (.tmp 14), a.eval (.tmp 15), a.eval (.tmp 16), a.eval (.tmp 17), a.eval (.tmp 18), a.eval (.tmp 19), a.eval (.tmp 20), a.eval (.tmp 21), a.eval (.tmp 22), a.eval (.tmp 23), a.eval (.tmp 24), a.eval (.tmp 25), a.eval (.tmp 26), a.eval (.tmp 27), a.eval (.tmp 28), a.eval (.tmp 29), a.eval (.tmp 30), a.eval (.tmp 31), a.eval (.tmp 32), a.eval (.tmp 33), a.eval (.tmp 34), a.eval (.tmp 35), a.eval (.tmp 36), a.eval (.tmp 37), a.eval (.tmp 38), a.eval (.tmp 39), a.eval (.tmp 40), a.eval (.tmp 41), a.eval (.tmp 42)] hdf hts (by show 14 + 29 ≤ 81; omega) hout (fun i hi => by
      have hi' : i < 29 := hi
      clear hi
      match i, hi' with
      | 0, _ => rfl
      | 1, _ => rfl
      | 2, _ => rfl
      | 3, _ => rfl
      | 4, _ => rfl
      | 5, _ => rfl
      | 6, _ => rfl
      | 7, _ => rfl
      | 8, _ => rfl
      | 9, _ => rfl
      | 10, _ => rfl
      | 11, _ => rfl
      | 12, _ => rfl
      | 13, _ => rfl
      | 14, _ => rfl
      | 15, _ => rfl
      | 16, _ => rfl
      | 17, _ => rfl
      | 18, _ => rfl
      | 19, _ => rfl
      | 20, _ => rfl
      | 21, _ => rfl
      | 22, _ => rfl
      | 23, _ => rfl
      | 24, _ => rfl
      | 25, _ => rfl
      | 26, _ => rfl
      | 27, _ => rfl
      | 28, _ => rfl
      | n + 29, h => exact absurd h (by omega))
    rw [e40, e41, e42] at ha
    clear hok hout hts hdf e40 e41 e42
    generalize a.eval (.tmp 14) = u14, a.eval (.tmp 15) = u15, a.eval (.tmp 16) = u16, a.eval (.tmp 17) = u17, a.eval (.tmp 18) = u18, a.eval (.tmp 19) = u19, a.eval (.tmp 20) = u20, a.eval (.tmp 21) = u21, a.eval (.tmp 22) = u22, a.eval (.tmp 23) = u23, a.eval (.tmp 24) = u24, a.eval (.tmp 25) = u25, a.eval (.tmp 26) = u26, a.eval (.tmp 27) = u27, a.eval (.tmp 28) = u28, a.eval (.tmp 29) = u29, a.eval (.tmp 30) = u30, a.eval (.tmp 31) = u31, a.eval (.tmp 32) = u32, a.eval (.tmp 33) = u33, a.eval (.tmp 34) = u34, a.eval (.tmp 35) = u35, a.eval (.tmp 36) = u36, a.eval (.tmp 37) = u37, a.eval (.tmp 38) = u38, a.eval (.tmp 39) = u39 at ha
    simp only [List.take_succ_cons, List.take_zero, List.drop_succ_cons, List.drop_zero, List.length_cons, List.length_nil, List.cons_append, List.nil_append] at ha
    subst ha
    have HEL := hideP hel
    have HSS := hideP hSS
    have hsz2 := hSS.2.size
    have HNM2 := hideP (show ∀ k, k < 11 → w'.cell? ⟨nb, k, none⟩ = some (.string ⟨(nm k).toArray⟩) from fun k hk => (hSS.2.cell (p := ⟨nb, k, none⟩) hnb1).trans (unhideP HNM k hk))
    clear hel hSS
    go_wp2_with fail
    go_loopw [5, 42] (fun s i wr => ∃ k : Nat, k ≤ 10 ∧ i = .int .i64 k ∧ s = .string ⟨(pre r sp lk t0 t1 ag rs ss al sh by_ k).toArray⟩ ∧ Below w'.heap.size w' wr) (fun _ i _ => 10 - (intOf i).toNat)
    case atStart => exact ⟨0, by omega, rfl, rfl, Below.refl _ _⟩
    case round =>
      obtain ⟨k, hk, rfl, rfl, hbw⟩ := hrel
      by_cases hlt : k < 10
      · have hdec : decide ((k : Int) < 10) = true := by simp; omega
        obtain ⟨u, hu1, hu2⟩ := unhideP HEL k hlt
        have cu := (hbw.cell (p := ⟨ob, k, none⟩) (ltc hu1)).trans hu1
        have cn := (hbw.cell (p := ⟨nb, k, none⟩) (ltc (unhideP HNM2 k (by omega)))).trans (unhideP HNM2 k (by omega))
        have hu3 := hu2.below hbw
        have HP := hideP (pre_succ r sp lk t0 t1 ag rs ss al sh by_ k)
        have HU := hideP hu3
        have HBW := hideP hbw
        clear hu1 hu2 hu3 hbw
        have hpk := unhideP HPL k hk
        have hnk := nm_len k
        have hok := (unhideP HOK).1 k hlt
        have hnl := (unhideP HOK).2 k hlt
        generalize nsOf r sp lk t0 t1 ag rs ss al sh by_ k = ns at HU HP hok hnl
        have HOK2 := hideP hok
        clear hok
        rcases unhideP HU with ⟨rfl, p, cap, rfl⟩ | ⟨sb, so, cap, rfl, hcl⟩
        · clear HU
          go_wp2_with fail
          rw [cat_mk]
          refine wp_loop_rounds 1 ?_
          rw [rounds_succ]
          have hl2 : (pre r sp lk t0 t1 ag rs ss al sh by_ k ++ nm k).length ≤ 1000000100 := by simp; omega
          go_wp2_with fail
          rw [cat_lit2]
          go_roundw
          case rel =>
            refine ⟨k + 1, by omega, by go_num, ?_, unhideP HBW⟩
            rw [unhideP HP]
            simp [itemText, numsText]
          case measure => simp [intOf]; omega
        · have HCL := hideP hcl
          clear HU hcl
          go_wp2_with fail
          rw [cat_mk]
          go_loopw [5, 55] (fun s i w2 => ∃ j : Nat, j ≤ ns.length ∧ i = .int .i64 j ∧ s = .string ⟨(pre r sp lk t0 t1 ag rs ss al sh by_ k ++ nm k ++ numsText k (ns.take j)).toArray⟩ ∧ Below wr.heap.size wr w2) (fun _ i _ => ns.length - (intOf i).toNat)
          case atStart => exact ⟨0, by omega, rfl, by simp [numsText], Below.refl _ _⟩
          case round =>
            obtain ⟨j, hj, rfl, rfl, hb2⟩ := hrel
            have hln := numsText_len k (ns.take j) (fun n hn => unhideP HOK2 n (List.mem_of_mem_take hn))
            have htl : (ns.take j).length = j := by simp; omega
            have hl2 : (pre r sp lk t0 t1 ag rs ss al sh by_ k ++ nm k ++ numsText k (ns.take j)).length ≤ 1100000100 := by simp; omega
            by_cases hlt2 : j < ns.length
            · have hc0 := unhideP HCL j hlt2
              have hcx := (hb2.cell (p := ⟨sb, so + j, none⟩) (ltc hc0)).trans hc0
              have hn := unhideP HOK2 (ns.getD j 0) (by rw [List.getD, List.getElem?_eq_getElem hlt2]; simp)
              have HS := hideP (numsText_snoc k (ns.take j) (ns.getD j 0))
              have HTS := hideP (take_snoc_getD ns j hlt2)
              have hnl2 := itoa_len hn.1 hn.2
              have HB2 := hideP hb2
              clear hc0 hb2
              generalize ns.getD j 0 = n at hcx hn HS HTS hnl2
              generalize hacc2 : pre r sp lk t0 t1 ag rs ss al sh by_ k ++ nm k ++ numsText k (ns.take j) = acc at hl2 ⊢
              have HACC2 := hideP hacc2
              clear hacc2
              by_cases hk2 : k = 2
              · have hk2' : ((k : Int) == 2) = true := by simp; omega
                by_cases hm1 : n = -1
                · have hm1' : (n == -1) = true := by simp [hm1]
                  have HN := hideP (show numText k n = [45] by unfold numText; rw [if_pos ⟨hk2, hm1⟩])
                  clear hm1 hk2
                  go_wp2_with fail
                  rw [cat_lit2]
                  go_roundw
                  case rel =>
                    refine ⟨j + 1, hlt2, by go_num, ?_, unhideP HB2⟩
                    rw [unhideP HTS, unhideP HS, unhideP HN, ← List.append_assoc, unhideP HACC2]
                  case measure => simp [intOf]; omega
                · have hm1' : (n == -1) = false := by simp [hm1]
                  have HNEG : ¬ (k = 2 ∧ n = -1) := fun h => hm1 h.2
                  clear hm1 hk2
                  have HN := hideP (show numText k n = Lib.itoa n by unfold numText; rw [if_neg HNEG])
                  clear HNEG
                  go_wp2_with fail
                  refine (itoa_any n hn.1 hn.2 _ ((unhideP HT).below ((unhideP HSS).1.trans (((unhideP HBW).trans ((unhideP HB2).mono (unhideP HBW).size)).mono (unhideP HSS).1.size)) (unhideP HT).gb).pow).mono ?_
                  rintro e w3 ⟨rfl, hb3⟩
                  have HB3 := hideP ((unhideP HB2).trans (hb3.mono (unhideP HB2).size))
                  clear hb3
                  go_wp2_with fail
                  rw [cat_lit1, cat_mk]
                  go_roundw
                  case rel =>
                    refine ⟨j + 1, hlt2, by go_num, ?_, unhideP HB3⟩
                    rw [unhideP HTS, unhideP HS, unhideP HN, ← List.append_assoc, unhideP HACC2]
                  case measure => simp [intOf]; omega
              · have hk2' : ((k : Int) == 2) = false := by simp; omega
                have HNEG : ¬ (k = 2 ∧ n = -1) := fun h => hk2 h.1
                clear hk2
                have HN := hideP (show numText k n = Lib.itoa n by unfold numText; rw [if_neg HNEG])
                clear HNEG
                go_wp2_with fail
                refine (itoa_any n hn.1 hn.2 _ ((unhideP HT).below ((unhideP HSS).1.trans (((unhideP HBW).trans ((unhideP HB2).mono (unhideP HBW).size)).mono (unhideP HSS).1.size)) (unhideP HT).gb).pow).mono ?_
                rintro e w3 ⟨rfl, hb3⟩
                have HB3 := hideP ((unhideP HB2).trans (hb3.mono (unhideP HB2).size))
                clear hb3
                go_wp2_with fail
                rw [cat_lit1, cat_mk]
                go_roundw
                case rel =>
                  refine ⟨j + 1, hlt2, by go_num, ?_, unhideP HB3⟩
                  rw [unhideP HTS, unhideP HS, unhideP HN, ← List.append_assoc, unhideP HACC2]
                case measure => simp [intOf]; omega
            · obtain rfl : j = ns.length := by omega
              rw [List.take_length] at hl2 ⊢
              have HB2 := hideP hb2
              clear hb2
              generalize hacc : pre r sp lk t0 t1 ag rs ss al sh by_ k ++ nm k ++ numsText k ns = acc at hl2 ⊢
              have HACC := hideP hacc
              clear hacc
              go_wp2_with fail
              rw [cat_lit2]
              go_roundw
              case rel =>
                refine ⟨k + 1, by omega, by go_num, ?_, (unhideP HBW).trans ((unhideP HB2).mono (unhideP HBW).size)⟩
                rw [unhideP HP, ← unhideP HACC]
                simp [itemText]
              case measure => simp [intOf]; omega
      · obtain rfl : k = 10 := by omega
        have cp := (hbw.cell (p := ⟨w.heap.size, 11, none⟩) (by have := (unhideP HSS).2.size; show w.heap.size < _; omega)).trans (((unhideP HSS).2.cell (p := ⟨w.heap.size, 11, none⟩) (by show w.heap.size < _; omega)).trans (unhideP HBX 11))
        have HBW := hideP ((unhideP HSS).1.trans (hbw.mono (unhideP HSS).1.size))
        have hpk := unhideP HPL 10 (by omega)
        clear hbw
        cases pr with
        | true =>
          simp at cp
          go_wp2_with fail
          go_ret
          refine ⟨?_, unhideP HBW⟩
          rw [pre_ten, cat_lit7]
          rfl
        | false =>
          simp at cp
          go_wp2_with fail
          go_ret
          refine ⟨?_, unhideP HBW⟩
          rw [pre_ten]
          simp
end Go.Proofs.YtidhncoecfkbfaaDoor
