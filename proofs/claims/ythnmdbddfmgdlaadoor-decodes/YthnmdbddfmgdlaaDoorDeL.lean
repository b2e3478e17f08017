/-
  Decodes: what was read, as something that can be read again (as an argument is). Own work of the verifier.
-/
import Derived.Test.YthnmdbddfmgdlaaDoorDecD
namespace Go.Proofs.YthnmdbddfmgdlaaDoor
open Go.RowKit

theorem flat_get {size : Nat} : ∀ (cs : List (Array Value)), (∀ c ∈ cs, c.size = size) → ∀ i (hi : i < cs.length) j, j < size → (flat cs)[i * size + j]? = cs[i].toList[j]?
  | [], _, i, hi, _, _ => by simp at hi
  | c :: cs, h, i, hi, j, hj => by
    have h1 := h c (by simp)
    have h3 : flat (c :: cs) = c.toList ++ flat cs := by simp [flat]
    have hl : c.toList.length = size := by simpa using h1
    rw [h3]
    cases i with
    | zero =>
      rw [Nat.zero_mul, Nat.zero_add, List.getElem?_append_left (by rw [hl]; exact hj)]
      rfl
    | succ i =>
      have hi' : i < cs.length := by simpa using hi
      rw [List.getElem?_append_right (by rw [hl, Nat.succ_mul]; omega)]
      rw [show (i + 1) * size + j - c.toList.length = i * size + j by rw [hl, Nat.succ_mul]; omega]
      exact flat_get cs (fun d hd => h d (by simp [hd])) i hi' j hj
theorem OwnL.range {w : World} {B T size : Nat} {v : Value} {cs : List (Array Value)} (h : OwnL w B T size v cs) : (cs = [] ∧ ∃ p cap, v = .slice p 0 cap) ∨ ∃ g cap, v = .slice (some ⟨g, 0, none⟩) cs.length cap ∧ g < w.heap.size ∧ cs.length ≤ cap ∧ ∀ i (hi : i < cs.length), w.rangeAt g (0 + i * size) cs[i].toList := by
  rcases h.1.2 with ⟨e, e0⟩ | ⟨g, cap, cur, e, h1, h2, h3, h4, h5, h6⟩
  · exact Or.inl ⟨List.eq_nil_of_length_eq_zero e0, none, 0, e⟩
  · refine Or.inr ⟨g, cap, e, row_lt h2, h3, fun i hi j x hx => ?_⟩
    have hs : cs[i].toList.length = size := by simpa using h.2 cs[i] (List.getElem_mem hi)
    have hj : j < size := by
      have := (List.getElem?_eq_some_iff.1 hx).1
      omega
    rw [cells_of_row h2]
    have h7 := flat_get cs h.2 i hi j hj
    rw [hx, ← h6, List.getElem?_take_of_lt] at h7
    · rw [Nat.zero_add]; simpa using h7
    · have : (i + 1) * size ≤ cs.length * size := Nat.mul_le_mul_right _ hi
      rw [Nat.succ_mul] at this
      omega
theorem zip_get {α β : Type} {R : α → β → Prop} {l : List α} {m : List β} (h : All2 R l m) : (l.zip m).map (·.1) = l ∧ (l.zip m).map (·.2) = m ∧ ∀ q ∈ l.zip m, R q.1 q.2 := by
  refine All2.ind (R := R) (P := fun l m => (l.zip m).map (·.1) = l ∧ (l.zip m).map (·.2) = m ∧ ∀ q ∈ l.zip m, R q.1 q.2) ⟨rfl, rfl, fun q hq => by cases hq⟩ (fun a b l m h ih => ?_) l m h
  refine ⟨by simp [ih.1], by simp [ih.2.1], fun q hq => ?_⟩
  simp at hq
  rcases hq with rfl | hq
  · exact h
  · exact ih.2.2 q hq
theorem RepL.lsb {α : Type} {w : World} {B T size : Nat} {R : Array Value → α → Prop} {v : Value} {xs : List α} (h : RepL w B T size R v xs) :
    ∃ ps : List (Array Value × α), ps.map (·.2) = xs ∧ LsB size w w.heap.size v ps ∧ (∀ q ∈ ps, R q.1 q.2) ∧ ps.length < short ∧ ps.length = xs.length := by
  obtain ⟨cs, h1, h2⟩ := h
  obtain ⟨z1, z2, z3⟩ := zip_get h2
  have hl : (cs.zip xs).length = cs.length := by have := congrArg List.length z1; simpa using this
  have hl2 : cs.length = xs.length := h2.len
  have hsh : cs.length < short := by
    rcases h1.1.2 with ⟨e, e0⟩ | ⟨g, cap, cur, e, q1, q2, q3, q4, q5, q6⟩
    · rw [e0]; decide
    · unfold maxLen at q4; show cs.length < 9223372036854775808; omega
  refine ⟨cs.zip xs, z2, ?_, z3, by rw [hl]; exact hsh, by rw [hl]; exact hl2⟩
  rcases h1.range with ⟨e, p, cap, hv⟩ | ⟨g, cap, hv, hg, -, hr⟩
  · exact Or.inl ⟨by rw [e]; rfl, p, cap, hv⟩
  · refine Or.inr ⟨g, 0, cap, by rw [hl]; exact hv, hg, fun i hi => ?_⟩
    have hi' : i < cs.length := by omega
    have e : (cs.zip xs)[i].1 = cs[i] := by simp
    rw [e]
    exact hr i hi'
theorem RepL.rsb {w : World} {B : Nat} {v : Value} {xs : List Int} (h : RepI w B v xs) : RsB w w.heap.size v xs ∧ xs.length < short := by
  obtain ⟨ps, h1, h2, h3, h4, h5⟩ := h.lsb
  refine ⟨?_, by omega⟩
  rcases h2 with ⟨e, p, cap, hv⟩ | ⟨sb, so, cap, hv, hb, hc⟩
  · exact Or.inl ⟨by rw [← h1, e]; rfl, p, cap, hv⟩
  · refine Or.inr ⟨sb, so, cap, by rw [← h5]; exact hv, hb, fun i hi => ?_⟩
    have hi' : i < ps.length := by omega
    have h0 : ps[i].1 = #[.int .i64 ps[i].2] := h3 ps[i] (List.getElem_mem hi')
    have := hc i hi' 0 (.int .i64 ps[i].2) (by rw [h0]; rfl)
    rw [Nat.mul_one, Nat.add_zero] at this
    rw [this]
    subst h1
    simp [List.getD, hi']
theorem RIns.at {w : World} {B : Nat} {c : Array Value} {i : InsE} (h : RIns w B c i) : InsAt w w.heap.size (c, i) := by
  obtain ⟨av, ov, h1, h2, h3⟩ := h
  obtain ⟨ps, e1, e2, e3, e4, e5⟩ := h2.lsb
  obtain ⟨o1, o2⟩ := RepL.rsb h3
  exact ⟨av, ov, ps, h1, e1, fun q hq => e3 q hq, e2, o1, by rw [← e5]; exact e4, o2⟩
theorem RBlk.at {w : World} {B : Nat} {v : Value} {l : List InsE} (h : RBlk w B #[v] l) : BlkAt w w.heap.size (v, l) := by
  obtain ⟨v', h1, h2⟩ := h
  obtain ⟨ps, e1, e2, e3, e4, e5⟩ := h2.lsb
  have : v = v' := by simpa using h1
  subst this
  exact ⟨ps, e1, e2, fun q hq => (e3 q hq).at, e4⟩
theorem RSig.at {w : World} {B : Nat} {c : Array Value} {x : List Int × Int} (h : RSig w B c x) : SigAt w w.heap.size (c, x) := by
  obtain ⟨lv, h1, h2⟩ := h
  obtain ⟨o1, o2⟩ := RepL.rsb h2
  exact ⟨lv, h1, o1, o2⟩
theorem RFunc.at {w : World} {B : Nat} {c : Array Value} {f : FuncE} (h : RFunc w B c f) : FuncAt w w.heap.size (c, f) := by
  obtain ⟨pv, hv, sv, bv, h1, h2, h3, h4, h5⟩ := h
  obtain ⟨pp, e1, e2, e3, e4, e5⟩ := h2.lsb
  obtain ⟨o1, o2⟩ := RepL.rsb h3
  obtain ⟨q1, q2⟩ := RepL.rsb h4
  obtain ⟨pb, b1, b2, b3, b4, b5⟩ := h5.lsb
  have hsz : ∀ q ∈ pb, q.1 = #[q.1.getD 0 undef] := fun q hq => by
    obtain ⟨v', g1, -⟩ := b3 q hq
    rw [g1]
    rfl
  refine ⟨pv, hv, sv, bv, pp, pb.map fun q => (q.1.getD 0 undef, q.2), h1, ⟨e1, fun q hq => e3 q hq, e2, o1, q1, ?_, ?_, ?_, e4, o2, q2, by rw [List.length_map]; exact b4⟩⟩
  · rcases b2 with ⟨e, p, cap, hv'⟩ | ⟨sb, so, cap, hv', hb, hc⟩
    · exact Or.inl ⟨by rw [e]; rfl, p, cap, hv'⟩
    · refine Or.inr ⟨sb, so, cap, by rw [List.length_map]; exact hv', hb, fun i hi => ?_⟩
      have hi' : i < pb.length := by simpa using hi
      have h0 := hsz pb[i] (List.getElem_mem hi')
      have := hc i hi' 0 (pb[i].1.getD 0 undef) (by rw [h0]; rfl)
      rw [Nat.mul_one, Nat.add_zero] at this
      rw [this]
      simp
  · rw [List.map_map]
    exact b1
  · intro q hq
    obtain ⟨r, hr, rfl⟩ := List.mem_map.1 hq
    have h0 := hsz r hr
    have h9 := b3 r hr
    rw [h0] at h9
    exact h9.at
theorem RProg.progV {w : World} {B : Nat} {fv ev : Value} {p : ProgE} (h : RProg w B (.agg #[fv, ev]) p) : ∃ pf pe, ProgV w w.heap.size p fv ev pf pe := by
  obtain ⟨fv', ev', h1, h2, h3⟩ := h
  injection h1 with h1
  have h4 := congrArg (·.toList) h1
  simp at h4
  obtain ⟨rfl, rfl⟩ := h4
  obtain ⟨pf, e1, e2, e3, e4, e5⟩ := h2.lsb
  obtain ⟨pe, q1, q2, q3, q4, q5⟩ := h3.lsb
  exact ⟨pf, pe, e2, q2, e1, q1, fun q hq => (e3 q hq).at, fun q hq => (q3 q hq).at, e4, q4⟩
end Go.Proofs.YthnmdbddfmgdlaaDoor
