/-
  Checks: the signature of a function, on both sides. Own work of the verifier.
-/
import Derived.Test.YtffemeicclhioaaDoorCkB
namespace Go.Proofs.YtffemeicclhioaaDoor
open Go.RowKit

def iC (ns : List Int) : List Value := ns.map fun n => .int .i64 n
theorem resultsK {P : Program} {fn : Func} {q : Tmp} {uy : TypeId} (h : fn.results = #[.cell q uy]) (tmps : Array Value) (w : World) (g' : Nat) (t' : TypeId) (cs' : Array Value) (fr' : Nat × Nat) (d' : TypeDesc)
    (hp' : tmps.getD q undef = .pointer (some ⟨g', 0, none⟩)) (hg' : w.heap[g']? = some (.cells cs' t' fr')) (hu' : P.underlying uy = some d') (hd' : (match d' with | .struct _ | .array _ _ => true | _ => false) = true) (hi' : (P.info? uy).map (·.size) = some cs'.size) :
    (results fn tmps).run P w = .ok (.agg cs') w := by
  have e2 : tmps[q]?.getD undef = .pointer (some ⟨g', 0, none⟩) := by simpa using hp'
  simp [results, h, e2, asAddr, run_loadVar_row w g' t' uy cs' fr' d' hg' hu' hd' hi']
theorem Tryd.infoInt : (Tryd.prog.info? 3).map (fun i => (i.zero, i.size, i.bytes)) = some (some (.int .i64 0), 1, 8) := by kernel_rfl
theorem Tryd.infSigK : (Tryd.prog.info? 27).map (·.size) = some 2 := by kernel_rfl
theorem info_K {P : Program} {t : TypeId} {z : Value} {n b : Nat} (h : (P.info? t).map (fun i => (i.zero, i.size, i.bytes)) = some (some z, n, b)) : ∃ i, P.info? t = some i ∧ i.zero = some z ∧ i.size = n ∧ i.bytes = b := by
  cases hi : P.info? t with
  | none => simp [hi] at h
  | some i => simp [hi] at h; exact ⟨i, rfl, h.1, h.2.1, h.2.2⟩
theorem Li.of_own {w : World} {base : Nat} {v : Value} {ns : List Int} (h : w.ownsRow base 3 1 v ns.length (iC ns)) (hn : ns.length < 9223372036854775808) : Li w v ns := by
  rcases h.2 with ⟨e, e0⟩ | ⟨g, cap, cur, e, -, -, hc, -⟩
  · exact ⟨none, 0, by rw [e, e0], by omega, hn, fun h0 => by omega⟩
  · refine ⟨_, cap, e, hc, hn, fun h0 => ⟨g, 0, rfl, fun i hi => ?_⟩⟩
    subst e
    have := h.cellAt i (by omega)
    simp only [Nat.zero_add] at this ⊢
    rw [this]
    simp [iC, hi]
theorem own_keepK {w w' : World} {base n size : Nat} {e : TypeId} {v : Value} {xs : List Value} (h : w.ownsRow base e size v n xs) (hk : ∀ g, base ≤ g → w'.heap[g]? = w.heap[g]?) : w'.ownsRow base e size v n xs := by
  obtain ⟨h1, h2 | ⟨g, cap, cur, e1, e2, e3, e4⟩⟩ := h
  · exact ⟨h1, Or.inl h2⟩
  · exact ⟨h1, Or.inr ⟨g, cap, cur, e1, e2, (hk g e2).trans e3, e4⟩⟩
theorem below_setRow {a w : World} {n T : Nat} {cs : Array Value} (h : Below n a w) (hT : n ≤ T) : Below n a (w.setRow T cs) := ⟨h.os, h.tape, h.output, by have := h.size; simpa [World.setRow] using this, fun k hk => (setRow_other w T k cs (by omega)).trans (h.block k hk)⟩
theorem own_formK {w : World} {base n : Nat} {v : Value} {xs : List Value} (h : w.ownsRow base 3 1 v (n + 1) xs) : ∃ g cap, v = .slice (some ⟨g, 0, none⟩) (n + 1) cap := by
  rcases h.2 with ⟨_, e0⟩ | ⟨g, cap, cur, e, -⟩
  · omega
  · exact ⟨g, cap, e⟩
end Go.Proofs.YtffemeicclhioaaDoor

