/-
  Written: a table's text, read again: plain mathematics. Own work of the verifier.
-/
import Derived.Test.YtgfliildindkgaaGreatDoorWrtPure
import Derived.Test.YtgfliildindkgaaGreatDoorTblReg
namespace Go.Proofs.YtgfliildindkgaaGreatDoor
open Go.RowKit

theorem kAt_vw {s : ByteArray} {L : List Tk} {i : Nat} {x : Nat × List UInt8} (h : (L.map (vw s))[i]? = some x) : kAt L i = x.1 ∧ (tAt s L i).data.toList = x.2 ∧ i < L.length := by
  rw [List.getElem?_map, Option.map_eq_some_iff] at h
  obtain ⟨t, ht, rfl⟩ := h
  exact ⟨by simp [kAt, ht, vw], by simp [tAt, ht, vw], (List.getElem?_eq_some_iff.1 ht).1⟩
theorem nums_read (k : Nat) (s : ByteArray) (L : List Tk) : ∀ (rest : List Int) (f : Nat) (E1 E2 : List (Nat × List UInt8)) (ns0 : List Int), (∀ n ∈ rest, okT k n) → L.map (vw s) = E1 ++ (rest.map (numTok k) ++ (6, [59]) :: E2) → ns0.length + rest.length ≤ hiK k → rest.length ≤ f →
    numsF s L k f E1.length ns0 = (E1.length + rest.length, ns0 ++ rest)
  | [], f, E1, E2, ns0, _, hv, _, _ => by
    obtain ⟨h1, h2, -⟩ := kAt_vw (s := s) (L := L) (i := E1.length) (x := (6, [59])) (by rw [hv]; simp)
    cases f with
    | zero => simp [numsF]
    | succ f =>
      unfold numsF
      have hn : numF s L E1.length (decide (k = 2)) = none := by
        unfold numF
        rw [h1]
        simp
      rw [hn]
      simp
  | n :: rest, f, E1, E2, ns0, hok, hv, hhi, hf => by
    cases f with
    | zero => simp at hf
    | succ f =>
      obtain ⟨h1, h2, -⟩ := kAt_vw (s := s) (L := L) (i := E1.length) (x := numTok k n) (by rw [hv]; simp)
      have ih := nums_read k s L rest f (E1 ++ [numTok k n]) E2 (ns0 ++ [n]) (fun x hx => hok x (by simp [hx])) (by rw [hv]; simp) (by simp at hhi ⊢; omega) (by simp at hf; omega)
      have hn : numF s L E1.length (decide (k = 2)) = some n := by
        unfold numF
        by_cases hd : k = 2 ∧ n = -1
        · rw [if_pos ⟨by rw [h1]; simp [numTok, hd], by simp [hd.1]⟩, hd.2]
        · have hdg : 0 ≤ n ∧ n < 100 := (hok n (by simp)).resolve_left hd
          obtain ⟨g1, g2, g3, g4⟩ := numText_digits hd hdg.1 hdg.2
          have e4 : kAt L E1.length = 4 := by rw [h1]; simp [numTok, hd]
          have e5 : (tAt s L E1.length).data.toList = numText k n := by rw [h2]; rfl
          have e6 : (tAt s L E1.length).size ≤ 3 := by
            have : (tAt s L E1.length).size = (tAt s L E1.length).data.toList.length := (Array.length_toList (xs := (tAt s L E1.length).data)).symm
            rw [this, e5]; exact g3
          rw [if_neg (by rw [e4]; omega), if_pos ⟨e4, e6⟩, e5, g4]
      unfold numsF
      rw [if_pos (by simp at hhi; omega), hn]
      simp only [List.length_append, List.length_cons, List.length_nil] at ih ⊢
      rw [ih]
      simp
      omega
theorem item_read (s : ByteArray) (L : List Tk) (E1 E2 : List (Nat × List UInt8)) (k : Nat) (ns : List Int) (hv : L.map (vw s) = E1 ++ itemToks k ns ++ E2) (hk : k < 11) (hok : ∀ n ∈ ns, okT k n) (hlo : loK k ≤ ns.length) (hhi : ns.length ≤ hiK k) (sn : Nat → Bool) (vals : Nat → List Int) (hsn : sn k = false) :
    itemF s L ⟨E1.length, sn, vals⟩ = (true, ⟨E1.length + (itemToks k ns).length, updS sn k, updL vals k ns⟩) := by
  obtain ⟨h1, h2, -⟩ := kAt_vw (s := s) (L := L) (i := E1.length) (x := (3, nm k)) (by rw [hv]; simp [itemToks])
  have hN : nameK s L E1.length sn = some k := nameK_some ⟨hk, h2.symm, hsn⟩
  have hn := nums_read k s L ns 13 (E1 ++ [(3, nm k)]) E2 [] hok (by rw [hv]; simp [itemToks]) (by simpa using hhi) (by have := hiK_le k; omega)
  simp only [List.length_append, List.length_cons, List.length_nil, List.nil_append] at hn
  obtain ⟨h6, -, -⟩ := kAt_vw (s := s) (L := L) (i := E1.length + 1 + ns.length) (x := (6, [59])) (by
    rw [hv, show E1 ++ itemToks k ns ++ E2 = (E1 ++ (3, nm k) :: ns.map (numTok k)) ++ ((6, [59]) :: E2) by simp [itemToks], List.getElem?_append_right (by simp; omega)]
    simp [show E1.length + 1 + ns.length - (E1.length + (ns.length + 1)) = 0 by omega])
  unfold itemF
  simp only [hN]
  rw [hn]
  simp only [hlo, h6, if_true]
  simp [itemToks]
  omega
def foldS : List (Nat × List Int) → (Nat → Bool) → Nat → Bool
  | [], sn => sn
  | x :: Q, sn => foldS Q (updS sn x.1)
def foldV : List (Nat × List Int) → (Nat → List Int) → Nat → List Int
  | [], v => v
  | x :: Q, v => foldV Q (updL v x.1 x.2)
def okQ (x : Nat × List Int) : Prop := x.1 < 11 ∧ (∀ n ∈ x.2, okT x.1 n) ∧ loK x.1 ≤ x.2.length ∧ x.2.length ≤ hiK x.1
theorem items_read (s : ByteArray) (L : List Tk) : ∀ (Q : List (Nat × List Int)) (f : Nat) (E1 : List (Nat × List UInt8)) (sn : Nat → Bool) (vals : Nat → List Int), L.map (vw s) = E1 ++ itemsToks Q → (∀ x ∈ Q, okQ x) → (Q.map (·.1)).Nodup → (∀ x ∈ Q, sn x.1 = false) → Q.length ≤ f →
    itemsF s L f ⟨E1.length, sn, vals⟩ = (true, ⟨L.length, foldS Q sn, foldV Q vals⟩)
  | [], f, E1, sn, vals, hv, _, _, _, _ => by
    have hl : L.length = E1.length := by have := congrArg List.length hv; simpa [itemsToks] using this
    cases f with
    | zero => simp [itemsF, foldS, foldV, hl]
    | succ f => unfold itemsF; simp [foldS, foldV, hl]
  | x :: Q, f, E1, sn, vals, hv, hq, hnd, hsn, hf => by
    cases f with
    | zero => simp at hf
    | succ f =>
      have e2 : itemsToks (x :: Q) = itemToks x.1 x.2 ++ itemsToks Q := by simp [itemsToks]
      rw [e2, ← List.append_assoc] at hv
      obtain ⟨o1, o2, o3, o4⟩ := hq x (by simp)
      have h1 := item_read s L E1 (itemsToks Q) x.1 x.2 hv o1 o2 o3 o4 sn vals (hsn x (by simp))
      have hl : L.length = E1.length + (itemToks x.1 x.2).length + (itemsToks Q).length := by have := congrArg List.length hv; simp at this; omega
      have hp : 0 < (itemToks x.1 x.2).length := by simp [itemToks]
      simp only [List.map_cons, List.nodup_cons] at hnd
      have ih := items_read s L Q f (E1 ++ itemToks x.1 x.2) (updS sn x.1) (updL vals x.1 x.2) hv (fun y hy => hq y (by simp [hy])) hnd.2 (fun y hy => by
        have hne : y.1 ≠ x.1 := fun e => hnd.1 (by rw [← e]; exact List.mem_map_of_mem hy)
        simp [updS, hne]
        exact hsn y (by simp [hy])) (by simp at hf; omega)
      unfold itemsF
      rw [if_pos (by simp only; omega), h1]
      simp only [List.length_append] at ih
      simp only [if_true]
      rw [ih]
      rfl
theorem numText_small {k : Nat} {n : Int} (h : okT k n) : (numText k n).length ≤ 3 := by
  by_cases hd : k = 2 ∧ n = -1
  · unfold numText; rw [if_pos hd]; simp
  · have hdg := h.resolve_left hd
    exact (numText_digits hd hdg.1 hdg.2).2.2.1
theorem numsText_small (k : Nat) : ∀ (ns : List Int), (∀ n ∈ ns, okT k n) → (numsText k ns).length ≤ 4 * ns.length
  | [], _ => by simp [numsText]
  | n :: ns, h => by
    have h1 := numText_small (h n (by simp))
    have h2 := numsText_small k ns (fun x hx => h x (by simp [hx]))
    have e1 : numsText k (n :: ns) = (32 :: numText k n) ++ numsText k ns := by simp [numsText]
    rw [e1]
    simp only [List.length_append, List.length_cons]
    omega
theorem itemText_small {x : Nat × List Int} (h : okQ x) : (itemText x.1 x.2).length ≤ 9 + 4 * hiK x.1 := by
  have h1 := nm_len x.1
  have h2 := numsText_small x.1 x.2 h.2.1
  have h3 := h.2.2.2
  simp only [itemText, List.length_append, List.length_cons, List.length_nil]
  omega
theorem parse_items (Q : List (Nat × List Int)) (hq : ∀ x ∈ Q, okQ x) (hnd : (Q.map (·.1)).Nodup) (hsz : (itemsText Q).length ≤ 400) (hall : allB (foldS Q (fun _ => false)) = true) :
    ∃ i, parseF ⟨(itemsText Q).toArray⟩ = .inr ⟨i, foldS Q (fun _ => false), foldV Q (fun _ => [])⟩ := by
  obtain ⟨L, h1, h2⟩ := cut_whole Q (fun x hx => ⟨(hq x hx).1, (hq x hx).2.1⟩)
  have hl : Q.length ≤ L.length := by
    have := congrArg List.length h2
    simp at this
    rw [this]
    clear h1 h2 this hq hnd hsz hall
    induction Q with
    | nil => simp
    | cons x Q ih => simp [itemsToks, itemToks] at ih ⊢; omega
  have h3 := items_read ⟨(itemsText Q).toArray⟩ L Q L.length [] (fun _ => false) (fun _ => []) (by simpa using h2) hq hnd (fun _ _ => rfl) hl
  refine ⟨L.length, ?_⟩
  unfold parseF
  rw [if_neg (by simp [ByteArray.size]; omega), h1]
  simp only
  unfold parseL
  have h4 : itemsF ⟨(itemsText Q).toArray⟩ L L.length S00 = (true, ⟨L.length, foldS Q (fun _ => false), foldV Q (fun _ => [])⟩) := h3
  rw [h4]
  simp only
  rw [if_pos ⟨trivial, hall⟩]
theorem regs_mem {l : List Int} {c : Int} (h : regsB l c = true) : ∀ n ∈ l, 0 ≤ n ∧ n < c := by
  intro n hn
  obtain ⟨q, hq, rfl⟩ := List.getElem_of_mem hn
  have h1 := (List.all_eq_true.1 h) q (List.mem_range.2 hq)
  unfold regB at h1
  have hg : l.getD q 0 = l[q] := by simp [List.getD, hq]
  rw [hg] at h1
  have := of_decide_eq_true h1
  exact ⟨this.1, this.2.1⟩
def tabQ (r sp lk t0 t1 : Int) (ag rs ss : List Int) (al sh by_ : Int) (pr : Bool) : List (Nat × List Int) :=
  [(0, [r]), (1, [sp]), (2, [lk]), (3, [t0, t1]), (4, ag), (5, rs), (6, ss), (7, [al]), (8, [sh]), (9, [by_])] ++ (if pr then [(10, [])] else [])
theorem print_items (r sp lk t0 t1 : Int) (ag rs ss : List Int) (al sh by_ : Int) (pr : Bool) : printText r sp lk t0 t1 ag rs ss al sh by_ pr = itemsText (tabQ r sp lk t0 t1 ag rs ss al sh by_ pr) := by
  cases pr <;> simp [printText, itemsText, tabQ]
/-- A table that may be: its text is read as the table. -/
theorem parse_print {r sp lk t0 t1 : Int} {ag rs ss : List Int} {al sh by_ : Int} {pr : Bool} (h : tabB r sp lk t0 t1 ag rs ss al sh by_ = true) :
    ∃ S, parseF ⟨(printText r sp lk t0 t1 ag rs ss al sh by_ pr).toArray⟩ = .inr S ∧ S.vals 0 = [r] ∧ S.vals 1 = [sp] ∧ S.vals 2 = [lk] ∧ S.vals 3 = [t0, t1] ∧ S.vals 4 = ag ∧ S.vals 5 = rs ∧ S.vals 6 = ss ∧ S.vals 7 = [al] ∧ S.vals 8 = [sh] ∧ S.vals 9 = [by_] ∧ S.sn 10 = pr := by
  have h' := h
  unfold tabB at h'
  simp only [Bool.and_eq_true] at h'
  obtain ⟨⟨h1, h2⟩, h3⟩ := h'
  have n1 := of_decide_eq_true h1
  have n2 := of_decide_eq_true h2
  unfold regsOkB at h3
  simp only [Bool.and_eq_true] at h3
  obtain ⟨⟨⟨⟨⟨k0, k1, -⟩, k2, -⟩, k3, -⟩, -⟩, -⟩ := h3
  have m0 := regs_mem k0
  have m1 := regs_mem k1
  have m2 := regs_mem k2
  have m3 := regs_mem k3
  have own : (0 ≤ sp ∧ sp < r) ∧ (0 ≤ t0 ∧ t0 < r) ∧ (0 ≤ t1 ∧ t1 < r) ∧ (lk = -1 ∨ (0 ≤ lk ∧ lk < r)) := by
    unfold ownL at m0
    by_cases hk : lk = -1
    · rw [if_pos hk] at m0
      exact ⟨m0 sp (by simp), m0 t0 (by simp), m0 t1 (by simp), Or.inl hk⟩
    · rw [if_neg hk] at m0
      exact ⟨m0 sp (by simp), m0 t0 (by simp), m0 t1 (by simp), Or.inr (m0 lk (by simp))⟩
  obtain ⟨a0, a1, a2, a3⟩ := own
  obtain ⟨b0, b1, b2, b3, b4, b5, b6, b7⟩ := n1
  have one : ∀ (k : Nat) (n : Int), 0 ≤ n → n < 100 → loK k ≤ 1 → 1 ≤ hiK k → k < 11 → okQ (k, [n]) := fun k n g0 g1 g2 g3 g4 => ⟨g4, fun x hx => by simp at hx; subst hx; exact Or.inr ⟨g0, g1⟩, by simpa using g2, by simpa using g3⟩
  have lst : ∀ (k : Nat) (l : List Int), (∀ n ∈ l, 0 ≤ n ∧ n < r) → loK k = 0 → l.length ≤ hiK k → k < 11 → okQ (k, l) := fun k l g0 g1 g2 g3 => ⟨g3, fun x hx => Or.inr ⟨(g0 x hx).1, by have := (g0 x hx).2; omega⟩, by simp [g1], g2⟩
  have hq : ∀ x ∈ tabQ r sp lk t0 t1 ag rs ss al sh by_ pr, okQ x := by
    intro x hx
    unfold tabQ at hx
    rw [List.mem_append] at hx
    rcases hx with hx | hx
    · simp only [List.mem_cons, List.not_mem_nil, or_false] at hx
      rcases hx with rfl | rfl | rfl | rfl | rfl | rfl | rfl | rfl | rfl | rfl
      · exact one 0 r (by omega) (by omega) (by decide) (by decide) (by decide)
      · exact one 1 sp (by omega) (by omega) (by decide) (by decide) (by decide)
      · refine ⟨(by decide : 2 < 11), fun x hx => ?_, (by decide : loK 2 ≤ 1), (by decide : 1 ≤ hiK 2)⟩
        simp at hx
        subst hx
        rcases a3 with h | h
        · exact Or.inl ⟨rfl, h⟩
        · exact Or.inr ⟨h.1, by omega⟩
      · refine ⟨(by decide : 3 < 11), fun x hx => ?_, (by decide : loK 3 ≤ 2), (by decide : 2 ≤ hiK 3)⟩
        simp at hx
        rcases hx with rfl | rfl
        · exact Or.inr ⟨by omega, by omega⟩
        · exact Or.inr ⟨by omega, by omega⟩
      · exact lst 4 ag m1 rfl n2.1 (by decide)
      · exact lst 5 rs m2 rfl n2.2.1 (by decide)
      · exact lst 6 ss m3 rfl n2.2.2 (by decide)
      · exact one 7 al (by omega) (by omega) (by decide) (by decide) (by decide)
      · exact one 8 sh (by omega) (by omega) (by decide) (by decide) (by decide)
      · exact one 9 by_ (by omega) (by omega) (by decide) (by decide) (by decide)
    · cases pr with
      | false => simp at hx
      | true =>
        simp at hx
        subst hx
        exact ⟨(by decide : 10 < 11), fun x hx => (by simp at hx), (by decide : loK 10 ≤ 0), (by decide : 0 ≤ hiK 10)⟩
  have hnd : ((tabQ r sp lk t0 t1 ag rs ss al sh by_ pr).map (·.1)).Nodup := by
    cases pr <;> simp [tabQ]
  have hsz : (itemsText (tabQ r sp lk t0 t1 ag rs ss al sh by_ pr)).length ≤ 400 := by
    have g : ∀ x ∈ tabQ r sp lk t0 t1 ag rs ss al sh by_ pr, (itemText x.1 x.2).length ≤ 9 + 4 * hiK x.1 := fun x hx => itemText_small (hq x hx)
    cases pr with
    | false =>
      have g0 := g (0, [r]) (by simp [tabQ])
      have g1 := g (1, [sp]) (by simp [tabQ])
      have g2 := g (2, [lk]) (by simp [tabQ])
      have g3 := g (3, [t0, t1]) (by simp [tabQ])
      have g4 := g (4, ag) (by simp [tabQ])
      have g5 := g (5, rs) (by simp [tabQ])
      have g6 := g (6, ss) (by simp [tabQ])
      have g7 := g (7, [al]) (by simp [tabQ])
      have g8 := g (8, [sh]) (by simp [tabQ])
      have g9 := g (9, [by_]) (by simp [tabQ])
      simp only [hiK, List.getD_cons_zero, List.getD_cons_succ] at g0 g1 g2 g3 g4 g5 g6 g7 g8 g9
      simp only [tabQ, itemsText, List.flatMap_cons, List.flatMap_nil, List.flatMap_append, List.length_append, List.length_nil, Bool.false_eq_true, if_false]
      omega
    | true =>
      have g0 := g (0, [r]) (by simp [tabQ])
      have g1 := g (1, [sp]) (by simp [tabQ])
      have g2 := g (2, [lk]) (by simp [tabQ])
      have g3 := g (3, [t0, t1]) (by simp [tabQ])
      have g4 := g (4, ag) (by simp [tabQ])
      have g5 := g (5, rs) (by simp [tabQ])
      have g6 := g (6, ss) (by simp [tabQ])
      have g7 := g (7, [al]) (by simp [tabQ])
      have g8 := g (8, [sh]) (by simp [tabQ])
      have g9 := g (9, [by_]) (by simp [tabQ])
      have g10 := g (10, []) (by simp [tabQ])
      simp only [hiK, List.getD_cons_zero, List.getD_cons_succ] at g0 g1 g2 g3 g4 g5 g6 g7 g8 g9 g10
      simp only [tabQ, itemsText, List.flatMap_cons, List.flatMap_nil, List.flatMap_append, List.length_append, List.length_nil, if_true]
      omega
  have hall : allB (foldS (tabQ r sp lk t0 t1 ag rs ss al sh by_ pr) (fun _ => false)) = true := by
    cases pr <;> rfl
  obtain ⟨i, hi⟩ := parse_items _ hq hnd hsz hall
  rw [print_items]
  refine ⟨_, hi, ?_⟩
  cases pr <;> exact ⟨rfl, rfl, rfl, rfl, rfl, rfl, rfl, rfl, rfl, rfl, rfl⟩
end Go.Proofs.YtgfliildindkgaaGreatDoor
