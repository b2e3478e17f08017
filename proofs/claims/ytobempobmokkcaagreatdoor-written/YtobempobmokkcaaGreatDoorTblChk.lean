/-
  Tables: table.Reserved, table.registersFit. Own work of the verifier.
-/
import Derived.Test.YtobempobmokkcaaGreatDoorTblFit
import Derived.Test.YtobempobmokkcaaGreatDoorPsNums
namespace Go.Proofs.YtobempobmokkcaaGreatDoor
open Go.RowKit

def ownL (sp lk t0 t1 : Int) : List Int := if lk = -1 then [sp, t0, t1] else [sp, t0, t1, lk]
theorem ownL_len (sp lk t0 t1 : Int) : (ownL sp lk t0 t1).length ≤ 4 := by unfold ownL; split <;> simp
theorem rs_of_own {w : World} {base : Nat} {v : Value} {ns : List Int} (h : w.ownsRow base 3 1 v ns.length (iCells ns)) : Rs w v ns := by
  rcases h.2 with ⟨e, e0⟩ | ⟨g, cap, cur, e, -⟩
  · exact Or.inl ⟨List.eq_nil_of_length_eq_zero e0, none, 0, by rw [e]⟩
  · refine Or.inr ⟨g, 0, cap, e, fun i hi => ?_⟩
    subst e
    have := h.cellAt i (by omega)
    simp only [Nat.zero_add] at this ⊢
    rw [this]
    simp [iCells, hi]
theorem cap_of_own {w : World} {base n : Nat} {v : Value} {xs : List Value} (h : w.ownsRow base 3 1 v n xs) : ∀ a n cap, v = .slice a n cap → n ≤ cap := by
  intro a m cap e
  rcases h.2 with ⟨e1, e0⟩ | ⟨g, cap', cur, e1, _, _, hc, _⟩
  · rw [e1] at e; injection e with _ h2 h3; omega
  · rw [e1] at e; injection e with _ h2 h3; omega
set_option maxHeartbeats 2000000 in
set_option maxRecDepth 100000 in
theorem reserved_c (r sp lk t0 t1 : Int) (va vr vs : Value) (al sh by_ : Int) (pr : Bool) (w : World) : Calls Tryz.prog 91 #[.agg (boxOf r sp lk t0 t1 va vr vs al sh by_ pr)] w fun e w' => ∃ v, e = .returned v ∧ Rs w' v (ownL sp lk t0 t1) ∧ (∀ a n cap, v = .slice a n cap → n ≤ cap) ∧ Below w.heap.size w w' := by
  obtain ⟨ti, hti, hz0, hz1, hz2⟩ := info_partsP Tryz.infoI
  unfold boxOf
  have HOW := hideQ (fun X : Obj => show ((w.alloc X).alloc (.cells #[.int .i64 sp, .int .i64 t0, .int .i64 t1] 3)).ownsRow w.heap.size 3 1 (.slice (some ⟨w.heap.size + 1, 0, none⟩) 3 3) ([sp, t0, t1] : List Int).length (iCells [sp, t0, t1]) from
    ⟨rfl, Or.inr ⟨w.heap.size + 1, 3, #[.int .i64 sp, .int .i64 t0, .int .i64 t1], rfl, by omega, by have := heap_alloc_new (w.alloc X) (.cells #[.int .i64 sp, .int .i64 t0, .int .i64 t1] 3); simpa using this, by simp, by unfold maxLen; omega, rfl, rfl⟩⟩)
  by_cases hk : lk = -1
  · have hO : ownL sp lk t0 t1 = [sp, t0, t1] := by unfold ownL; rw [if_pos hk]
    rw [hO]
    clear hO
    subst hk
    go_enter Tryz.func91, Tryz.ntmps91
    go_wp2
    go_ret
    exact ⟨_, rfl, rs_of_own (unhideQ HOW _), cap_of_own (unhideQ HOW (.cells #[] 3)), by go_grown⟩
  · have hO : ownL sp lk t0 t1 = [sp, t0, t1] ++ [lk] := by unfold ownL; rw [if_neg hk]; rfl
    rw [hO]
    clear hO
    have zk : (lk == -1) = false := by simpa using hk
    go_enter Tryz.func91, Tryz.ntmps91
    go_wp2_with (at_builtin; refine wpList_append_own _ rfl _ _ 23 rfl w.heap.size 3 ti _ 1 8 Tryz.underlying23 hti hz0 hz1 hz2 rfl (by decide) _ _ _ rfl ((unhideQ HOW _).alloc _) ⟨w.heap.size + 2, 0, none⟩ 1 1 [.int .i64 lk] rfl rfl (by intro j u hj; match j, hj with | 0, hj => (simp at hj; subst hj; exact (World.cell?_alloc_at _ _ _ _ (by simp)).trans rfl)) (by intro u hu; simp at hu; subst hu; rfl) ?c3 ?c4 ?c5 ?_)
    case c3 => unfold maxLen; simp
    case c4 => simp
    case c5 => simp; omega
    intro v' w7 hown hgr _
    have HOWN := hideQ hown
    have HB := hideQ (show Below w.heap.size w w7 from ((((Below.refl w.heap.size w).alloc (Nat.le_refl _) _).alloc (by simp) _).alloc (by simp; omega) _).trans ⟨hgr.os, hgr.tape, hgr.output, hgr.size, fun q hq => hgr.block q (by simp; omega) (fun e => by simp [Value.ownBlock] at e; omega)⟩)
    clear hown hgr
    go_wp2
    go_ret
    have h1 : w7.ownsRow w.heap.size 3 1 v' ([sp, t0, t1] ++ [lk] : List Int).length (iCells ([sp, t0, t1] ++ [lk])) := unhideQ HOWN
    exact ⟨_, rfl, rs_of_own h1, cap_of_own h1, unhideQ HB⟩
end Go.Proofs.YtobempobmokkcaaGreatDoor
