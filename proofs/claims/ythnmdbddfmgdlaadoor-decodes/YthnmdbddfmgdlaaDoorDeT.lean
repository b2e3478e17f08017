/-
  Decodes: how long the lists are that were read; what spoiling a program leaves as it was; that spoiling, walked. Own work of the verifier.
-/
import Derived.Test.YthnmdbddfmgdlaaDoorDecP
import Derived.Test.YthnmdbddfmgdlaaDoorDeQ
import Derived.Test.YthnmdbddfmgdlaaDoorDeL
namespace Go.Proofs.YthnmdbddfmgdlaaDoor
open Go.RowKit

theorem dBind_inv {α β : Type} {m : Except Nat (α × Nat)} {k : α → Nat → Except Nat (β × Nat)} {y : β} {b : Nat} (h : dBind m k = .ok (y, b)) : ∃ x a, m = .ok (x, a) ∧ k x a = .ok (y, b) := by
  unfold dBind at h
  split at h
  · exact ⟨_, _, rfl, h⟩
  · cases h
section
variable {s : ByteArray}
theorem dNum_hi {lo hi : Int} {a b : Nat} {x : Int} (h : dNum s lo hi a = .ok (x, b)) : x ≤ hi := by
  unfold dNum dTake at h
  split at h
  · split at h
    · rename_i h1
      injection h with h
      injection h with h _
      omega
    · cases h
  · cases h
theorem dRep_all {α : Type} {one : Dec α} {P : α → Prop} (ho : ∀ a x b, one a = .ok (x, b) → P x) : ∀ (n a : Nat) (xs : List α) (b : Nat), dRep one n a = .ok (xs, b) → xs.length = n ∧ ∀ x ∈ xs, P x
  | 0, a, xs, b, h => by
    injection h with h
    injection h with h _
    subst h
    exact ⟨rfl, fun x hx => by cases hx⟩
  | n + 1, a, xs, b, h => by
    obtain ⟨ys, a1, h1, h⟩ := dBind_inv h
    obtain ⟨y, a2, h2, h⟩ := dBind_inv h
    injection h with h
    injection h with h _
    subst h
    obtain ⟨e, ha⟩ := dRep_all ho n a ys a1 h1
    refine ⟨by simp [e], fun x hx => ?_⟩
    simp at hx
    rcases hx with hx | rfl
    · exact ha x hx
    · exact ho _ _ _ h2
theorem dList_all {α : Type} {one : Dec α} {P : α → Prop} (ho : ∀ a x b, one a = .ok (x, b) → P x) {lo hi : Int} {a b : Nat} {xs : List α} (h : dList s lo hi one a = .ok (xs, b)) : xs.length ≤ hi.toNat ∧ ∀ x ∈ xs, P x := by
  obtain ⟨n, a1, h1, h⟩ := dBind_inv h
  have := dNum_hi h1
  obtain ⟨e, ha⟩ := dRep_all ho _ _ _ _ h
  exact ⟨by omega, ha⟩
theorem dList_len {α : Type} {one : Dec α} {lo hi : Int} {a b : Nat} {xs : List α} (h : dList s lo hi one a = .ok (xs, b)) : xs.length ≤ hi.toNat := (dList_all (P := fun _ => True) (fun _ _ _ _ => trivial) h).1
def LimI (i : InsE) : Prop := i.args.length ≤ 24 ∧ i.outs.length ≤ 24
structure LimF (f : FuncE) : Prop where
  params : f.params.length ≤ 24
  homes : f.homes.length ≤ 24
  slots : f.slots.length ≤ 24
  blocks : f.blocks.length ≤ 24
  each : ∀ b ∈ f.blocks, b.length ≤ 24 ∧ ∀ i ∈ b, LimI i
structure LimP (p : ProgE) : Prop where
  externs : p.externs.length ≤ 24
  sigs : ∀ e ∈ p.externs, e.1.length ≤ 24
  funcs : p.funcs.length ≤ 24
  each : ∀ f ∈ p.funcs, LimF f
theorem dPart_lim {c : UInt8} {i j : InsE} {a b : Nat} (hi : LimI i) (h : dPart s c i a = .ok (j, b)) : LimI j := by
  unfold dPart at h
  repeat' split at h
  all_goals first
    | (obtain ⟨x, a1, h1, h⟩ := dBind_inv h
       injection h with h
       injection h with h _
       subst h
       first
         | exact hi
         | exact ⟨Nat.le_trans (dList_len h1) (by decide), hi.2⟩
         | exact ⟨hi.1, Nat.le_trans (dList_len h1) (by decide)⟩)
    | (injection h with h
       injection h with h _
       subst h
       exact hi)
theorem dParts_lim : ∀ (cs : List UInt8) (i j : InsE) (a b : Nat), LimI i → dParts s cs i a = .ok (j, b) → LimI j
  | [], i, j, a, b, hi, h => by
    injection h with h
    injection h with h _
    subst h
    exact hi
  | c :: cs, i, j, a, b, hi, h => by
    obtain ⟨x, a1, h1, h⟩ := dBind_inv h
    exact dParts_lim cs x j a1 b (dPart_lim hi h1) h
theorem dIns_lim (a : Nat) (i : InsE) (b : Nat) (h : dIns s a = .ok (i, b)) : LimI i := by
  obtain ⟨x, a1, h1, h⟩ := dBind_inv h
  exact dParts_lim _ _ _ _ _ ⟨Nat.zero_le _, Nat.zero_le _⟩ h
theorem dBlock_lim (a : Nat) (l : List InsE) (b : Nat) (h : dBlock s a = .ok (l, b)) : l.length ≤ 24 ∧ ∀ i ∈ l, LimI i := dList_all (fun a i b h => dIns_lim a i b h) h
theorem dFunc_lim (a : Nat) (f : FuncE) (b : Nat) (h : dFunc s a = .ok (f, b)) : LimF f := by
  obtain ⟨ps, a1, h1, h⟩ := dBind_inv h
  obtain ⟨r, a2, h2, h⟩ := dBind_inv h
  obtain ⟨hs, a3, h3, h⟩ := dBind_inv h
  obtain ⟨ss, a4, h4, h⟩ := dBind_inv h
  obtain ⟨bs, a5, h5, h⟩ := dBind_inv h
  injection h with h
  injection h with h _
  subst h
  have h6 := dList_all (fun a l b h => dBlock_lim a l b h) h5
  exact ⟨Nat.le_trans (dList_len h1) (by decide), Nat.le_trans (dList_len h3) (by decide), Nat.le_trans (dList_len h4) (by decide), Nat.le_trans h6.1 (by decide), h6.2⟩
theorem dSig_lim (a : Nat) (e : List Int × Int) (b : Nat) (h : dSig s a = .ok (e, b)) : e.1.length ≤ 24 := by
  obtain ⟨l, a1, h1, h⟩ := dBind_inv h
  obtain ⟨r, a2, h2, h⟩ := dBind_inv h
  injection h with h
  injection h with h _
  subst h
  exact Nat.le_trans (dList_len h1) (by decide)
theorem dProg_lim (a : Nat) (p : ProgE) (b : Nat) (h : dProg s a = .ok (p, b)) : LimP p := by
  obtain ⟨_, a1, h1, h⟩ := dBind_inv h
  obtain ⟨_, a2, h2, h⟩ := dBind_inv h
  obtain ⟨es, a3, h3, h⟩ := dBind_inv h
  obtain ⟨fs, a4, h4, h⟩ := dBind_inv h
  injection h with h
  injection h with h _
  subst h
  have h5 := dList_all (fun a l b h => dSig_lim a l b h) h3
  have h6 := dList_all (fun a l b h => dFunc_lim a l b h) h4
  exact ⟨Nat.le_trans h5.1 (by decide), h5.2, Nat.le_trans h6.1 (by decide), h6.2⟩
end
theorem dPrg_lim (s : ByteArray) : LimP (dPrg s) := by
  have h0 : LimP ⟨[], []⟩ := ⟨Nat.zero_le _, (fun _ h => by cases h), Nat.zero_le _, (fun _ h => by cases h)⟩
  unfold dPrg
  cases hd : decOut s with
  | error q => exact h0
  | ok p =>
    unfold decOut at hd
    split at hd
    · split at hd
      · cases hd
      · rename_i p' a h1
        split at hd
        · cases hd
        · injection hd with hd
          subst hd
          exact dProg_lim _ _ _ h1
    · cases hd

abbrev Loose (T : TypeId) : Prop := T = 3 ∨ T = 60 ∨ T = 82
abbrev nilS : Value := .slice none 0 0
/-- A row that may have been spoilt: its length and type stay; of an instruction the two lists, or none. -/
def Wk (o o' : Obj) : Prop := ∃ (c c' : Array Value) (T : TypeId), o = .cells c T (0, 0) ∧ o' = .cells c' T (0, 0) ∧ c'.size = c.size ∧ (Loose T ∨ (T = 65 ∧ ∀ i, i % 8 = 6 ∨ i % 8 = 7 → c'[i]? = c[i]? ∨ c'[i]? = some nilS))
theorem Wk.trans {o o' o'' : Obj} (h : Wk o o') (k : Wk o' o'') : Wk o o'' := by
  obtain ⟨c, c', T, rfl, rfl, h1, h2⟩ := h
  obtain ⟨d, d', T', e, rfl, k1, k2⟩ := k
  injection e with e1 e2 e3
  subst e1 e2
  refine ⟨c, d', T, rfl, rfl, by omega, ?_⟩
  rcases h2 with h2 | ⟨h2, h3⟩
  · exact Or.inl h2
  · rcases k2 with k2 | ⟨_, k3⟩
    · exact Or.inl k2
    · refine Or.inr ⟨h2, fun i hi => ?_⟩
      rcases k3 i hi with e | e
      · rw [e]; exact h3 i hi
      · exact Or.inr e
structure Sp (B E : Nat) (w w' : World) : Prop where
  os : w'.os = w.os
  tape : w'.tape = w.tape
  output : w'.output = w.output
  size : w.heap.size ≤ w'.heap.size
  block : ∀ k, k < w.heap.size → w'.heap[k]? = w.heap[k]? ∨ (B ≤ k ∧ k < E ∧ ∃ o o', w.heap[k]? = some o ∧ w'.heap[k]? = some o' ∧ Wk o o')
section
variable {B E : Nat} {w w' w'' : World}
theorem Sp.of_below (h : Below w.heap.size w w') : Sp B E w w' := ⟨h.os, h.tape, h.output, h.size, fun k hk => Or.inl (h.block k hk)⟩
theorem Sp.refl (B E : Nat) (w : World) : Sp B E w w := Sp.of_below (Below.refl _ _)
theorem Sp.trans (h : Sp B E w w') (k : Sp B E w' w'') : Sp B E w w'' := by
  refine ⟨k.os.trans h.os, k.tape.trans h.tape, k.output.trans h.output, Nat.le_trans h.size k.size, fun q hq => ?_⟩
  rcases h.block q hq with e | ⟨h1, h2, o, o', h3, h4, h5⟩
  · rcases k.block q (Nat.lt_of_lt_of_le hq h.size) with e' | ⟨k1, k2, p, p', k3, k4, k5⟩
    · exact Or.inl (e'.trans e)
    · exact Or.inr ⟨k1, k2, p, p', e.symm.trans k3, k4, k5⟩
  · rcases k.block q (Nat.lt_of_lt_of_le hq h.size) with e' | ⟨k1, k2, p, p', k3, k4, k5⟩
    · exact Or.inr ⟨h1, h2, o, o', h3, e'.trans h4, h5⟩
    · rw [h4] at k3
      injection k3 with k3
      subst k3
      exact Or.inr ⟨h1, h2, o, p', h3, k4, h5.trans k5⟩
/-- What lies elsewhere is as it was. -/
theorem Sp.out (h : Sp B E w w') (k : Nat) (hk : k < w.heap.size) (ho : k < B ∨ E ≤ k) : w'.heap[k]? = w.heap[k]? := by
  rcases h.block k hk with e | ⟨h1, h2, _⟩
  · exact e
  · omega
/-- A row of another kind is as it was. -/
theorem Sp.row (h : Sp B E w w') {g : Nat} {c : Array Value} {T : TypeId} {fz : Nat × Nat} (hr : w.heap[g]? = some (.cells c T fz)) (hT : ¬ Loose T) (hI : T ≠ 65) : w'.heap[g]? = some (.cells c T fz) := by
  rcases h.block g (row_lt hr) with e | ⟨h1, h2, o, o', h3, h4, c1, c2, T', e1, e2, h5, h6⟩
  · rw [e]; exact hr
  · rw [hr] at h3
    injection h3 with h3
    rw [← h3] at e1
    injection e1 with e1 e3 e4
    subst e3
    rcases h6 with h6 | ⟨h6, _⟩
    · exact absurd h6 hT
    · exact absurd h6 hI
/-- Any row keeps its length and its type. -/
theorem Sp.len (h : Sp B E w w') {g : Nat} {c : Array Value} {T : TypeId} (hr : w.heap[g]? = some (.cells c T (0, 0))) : ∃ c', w'.heap[g]? = some (.cells c' T (0, 0)) ∧ c'.size = c.size ∧ (T = 65 → ∀ i, i % 8 = 6 ∨ i % 8 = 7 → c'[i]? = c[i]? ∨ c'[i]? = some nilS) := by
  rcases h.block g (row_lt hr) with e | ⟨h1, h2, o, o', h3, h4, c1, c2, T', e1, e2, h5, h6⟩
  · exact ⟨c, by rw [e]; exact hr, rfl, fun _ _ _ => Or.inl rfl⟩
  · rw [hr] at h3
    injection h3 with h3
    rw [← h3] at e1
    injection e1 with e1 e3 e4
    subst e1 e3 e2
    refine ⟨c2, h4, h5, fun hT => ?_⟩
    rcases h6 with h6 | ⟨_, h6⟩
    · subst hT
      exact absurd h6 (by decide)
    · exact h6
theorem Sp.owns (h : Sp B E w w') {B' T size n : Nat} {v : Value} {xs : List Value} (ho : w.ownsRow B' T size v n xs) : ∃ ys, w'.ownsRow B' T size v n ys := by
  rcases ho.2 with h0 | ⟨g, cap, cur, e, h1, h2, h3, h4, h5, h6⟩
  · exact ⟨xs, ho.1, Or.inl h0⟩
  · obtain ⟨c', q1, q2, -⟩ := h.len h2
    refine ⟨c'.toList.take (n * size), ?_, Or.inr ⟨g, cap, c', e, h1, q1, h3, h4, by omega, rfl⟩⟩
    have : n * size ≤ cap * size := Nat.mul_le_mul_right _ h3
    simp
    omega
/-- One write. -/
theorem Sp.setCell {g i : Nat} {c : Array Value} {T : TypeId} {u : Value} (hr : w.heap[g]? = some (.cells c T (0, 0))) (hB : B ≤ g) (hE : g < E) (hT : Loose T ∨ (T = 65 ∧ (i % 8 = 6 ∨ i % 8 = 7 → u = nilS))) : Sp B E w (w.setCell ⟨g, i, none⟩ u) := by
  have hgb := gb_setB w g i u
  refine ⟨hgb.os, hgb.tape, hgb.output, hgb.size, fun k hk => ?_⟩
  by_cases hkg : k = g
  · subst hkg
    refine Or.inr ⟨hB, hE, _, _, hr, heap_setCell_same w k i c T u hr, c, _, T, rfl, rfl, by simp, ?_⟩
    rcases hT with hT | ⟨hT, hu⟩
    · exact Or.inl hT
    · refine Or.inr ⟨hT, fun j hj => ?_⟩
      by_cases hij : i = j
      · subst hij
        by_cases hi : i < c.size
        · right
          rw [hu hj]
          simp [hi]
        · left
          rw [Array.getElem?_setIfInBounds_self]
          simp [hi]
      · left
        rw [Array.getElem?_setIfInBounds_ne hij]
  · exact Or.inl (hgb.block k hk (by intro e; injection e with e; exact hkg e))
theorem Sp.setCells {g : Nat} {T : TypeId} (hB : B ≤ g) (hE : g < E) : ∀ (vs : List Value) (o : Nat) (w : World) (c : Array Value), w.heap[g]? = some (.cells c T (0, 0)) → (Loose T ∨ (T = 65 ∧ ∀ j u, vs[j]? = some u → (o + j) % 8 = 6 ∨ (o + j) % 8 = 7 → u = nilS)) → Sp B E w (w.setCells g o vs)
  | [], _, w, _, _, _ => Sp.refl _ _ w
  | u :: vs, o, w, c, hr, hT => by
    have h1 : Sp B E w (w.setCell ⟨g, o, none⟩ u) := Sp.setCell hr hB hE (hT.imp id fun ⟨h, k⟩ => ⟨h, fun hj => k 0 u rfl (by simpa using hj)⟩)
    exact h1.trans (Sp.setCells hB hE vs (o + 1) _ _ (heap_setCell_same w g o c T u hr) (hT.imp id fun ⟨h, k⟩ => ⟨h, fun j u hu hj => k (j + 1) u hu (by rw [show o + (j + 1) = o + 1 + j by omega]; exact hj)⟩))
/-- A list of numbers was spoilt. -/
theorem Sp.ints {n : Nat} {v : Value} {xs ys : List Value} (hg : w.grownBy w' v.ownBlock) (h : w.ownsRow B 3 1 v n xs) (h' : w'.ownsRow B 3 1 v n ys) (hE : ∀ g, v.ownBlock = some g → g < E) : Sp B E w w' := by
  refine ⟨hg.os, hg.tape, hg.output, hg.size, fun k hk => ?_⟩
  rcases h.2 with ⟨e, _⟩ | ⟨g, cap, cur, e, h1, h2, h3, h4, h5, h6⟩
  · exact Or.inl (hg.block k hk (by rw [e]; intro c; cases c))
  · by_cases hkg : k = g
    · subst hkg
      rcases h'.2 with ⟨e', _⟩ | ⟨g', cap', cur', e', k1, k2, k3, k4, k5, k6⟩
      · rw [e] at e'; cases e'
      · rw [e] at e'
        injection e' with e1 _ e3
        injection e1 with e1
        injection e1 with e1
        subst e1 e3
        exact Or.inr ⟨h1, hE k (by rw [e]; rfl), _, _, h2, k2, cur, cur', _, rfl, rfl, by omega, Or.inl (Or.inl rfl)⟩
    · exact Or.inl (hg.block k hk (by rw [e]; intro c; injection c with c; exact hkg c))
end
/-- A list of numbers that belongs to what was read may be spoilt at any time. -/
theorem spoilInts_sp {B E n : Nat} {v : Value} {xs : List Value} {w0 w : World} (h : w0.ownsRow B 3 1 v n xs) (hE : ∀ g, v.ownBlock = some g → g < E) (hn : n ≤ 1000) (hs : Sp B E w0 w) : Calls Tryd.prog 26 #[v] w fun e w' => (∃ x, e = .returned x) ∧ Sp B E w w' := by
  obtain ⟨ys, ho⟩ := hs.owns h
  refine (spoilInts_s B n v ys w ho hn).mono fun e w' ⟨h1, h2, zs, h3⟩ => ⟨h1, Sp.ints h2 ho h3 hE⟩

section
variable {B E : Nat} {w1 w w' : World}
theorem RepL.at_sp {α : Type} {T size : Nat} {R : Array Value → α → Prop} {v : Value} {xs : List α} (h : RepL w1 B T size R v xs) (hs : Sp B E w1 w) (hT : ¬ Loose T) (hI : T ≠ 65) (k : Nat) (hk : k < xs.length) : ∃ g cap A, v = .slice (some ⟨g, 0, none⟩) xs.length cap ∧ w.rangeAt g (0 + k * size) A.toList ∧ R A xs[k] := by
  obtain ⟨cs, h1, h2⟩ := h
  have hl := h2.len
  have hk' : k < cs.length := by omega
  have h3 : OwnL w B T size v cs := by
    refine ⟨⟨h1.1.1, ?_⟩, h1.2⟩
    rcases h1.1.2 with h0 | ⟨g, cap, cur, e, q1, q2, q3⟩
    · exact Or.inl h0
    · exact Or.inr ⟨g, cap, cur, e, q1, hs.row q2 hT hI, q3⟩
  rcases h3.range with ⟨e, -⟩ | ⟨g, cap, hv, hg, -, hr⟩
  · rw [e] at hk'; cases hk'
  · exact ⟨g, cap, cs[k], by rw [← hl]; exact hv, hr k hk', h2.get k hk' hk⟩
theorem RepL.own {α : Type} {T size : Nat} {R : Array Value → α → Prop} {v : Value} {xs : List α} (h : RepL w1 B T size R v xs) : ∃ ys, w1.ownsRow B T size v xs.length ys := by
  obtain ⟨cs, h1, h2⟩ := h
  exact ⟨flat cs, by rw [← h2.len]; exact h1.1⟩
theorem own_at {T size n : Nat} {v : Value} {ys : List Value} (h : w.ownsRow B T size v n ys) (hn : 0 < n) : ∃ g cap c, v = .slice (some ⟨g, 0, none⟩) n cap ∧ B ≤ g ∧ w.heap[g]? = some (.cells c T (0, 0)) ∧ n * size ≤ c.size := by
  rcases h.2 with ⟨_, e⟩ | ⟨g, cap, cur, e, h1, h2, h3, h4, h5, h6⟩
  · omega
  · exact ⟨g, cap, cur, e, h1, h2, by rw [h5]; exact Nat.mul_le_mul_right _ h3⟩
theorem cell_in {g i : Nat} {c : Array Value} {T : TypeId} (h : w.heap[g]? = some (.cells c T (0, 0))) (hi : i < c.size) : (∃ u, w.cell? ⟨g, i, none⟩ = some u) ∧ w.frozen? ⟨g, i, none⟩ = false := ⟨⟨c[i], by simp [World.cell?, h, hi]⟩, by simp [World.frozen?, h]⟩
theorem ins_sp {v : Value} {is : List InsE} (h : RepL w1 B 65 8 (RIns w1 B) v is) (hs : Sp B E w1 w) (k : Nat) (hk : k < is.length) : ∃ g cap c av ov la lo, v = .slice (some ⟨g, 0, none⟩) is.length cap ∧ B ≤ g ∧ g < w1.heap.size ∧ w.heap[g]? = some (.cells c 65 (0, 0)) ∧ k * 8 + 8 ≤ c.size ∧ c[k * 8 + 6]? = some av ∧ c[k * 8 + 7]? = some ov ∧ RepL w1 B 82 2 (RP w1 B) av la ∧ RepI w1 B ov lo ∧ la.length ≤ is[k].args.length ∧ lo.length ≤ is[k].outs.length := by
  obtain ⟨cs, h1, h2⟩ := h
  have hl := h2.len
  have hk' : k < cs.length := by omega
  obtain ⟨av, ov, eA, ra, ro⟩ := h2.get k hk' hk
  rcases h1.1.2 with ⟨_, e⟩ | ⟨g, cap, cur, e, q1, q2, q3, q4, q5, q6⟩
  · omega
  · obtain ⟨c', r1, r2, r3⟩ := hs.len q2
    have hsz : k * 8 + 8 ≤ cur.size := by
      have : (k + 1) * 8 ≤ cap * 8 := Nat.mul_le_mul_right _ (by omega)
      omega
    have hcell : ∀ j x, j < 8 → cs[k].toList[j]? = some x → cur[k * 8 + j]? = some x := fun j x hj hx => by
      have h7 := flat_get cs h1.2 k hk' j hj
      have : (k + 1) * 8 ≤ cs.length * 8 := Nat.mul_le_mul_right _ hk'
      rw [hx, ← q6, List.getElem?_take_of_lt (by omega)] at h7
      simpa using h7
    have h6 := hcell 6 av (by omega) (by rw [eA]; rfl)
    have h7 := hcell 7 ov (by omega) (by rw [eA]; rfl)
    have m6 := r3 rfl (k * 8 + 6) (Or.inl (by omega))
    have m7 := r3 rfl (k * 8 + 7) (Or.inr (by omega))
    rw [h6] at m6
    rw [h7] at m7
    obtain ⟨av', la, a1, a2, a3⟩ : ∃ av' la, c'[k * 8 + 6]? = some av' ∧ RepL w1 B 82 2 (RP w1 B) av' la ∧ la.length ≤ is[k].args.length := by
      rcases m6 with m | m
      · exact ⟨av, _, m, ra, Nat.le_refl _⟩
      · exact ⟨nilS, [], m, RepL.nil _ _ _ _ _, Nat.zero_le _⟩
    obtain ⟨ov', lo, b1, b2, b3⟩ : ∃ ov' lo, c'[k * 8 + 7]? = some ov' ∧ RepI w1 B ov' lo ∧ lo.length ≤ is[k].outs.length := by
      rcases m7 with m | m
      · exact ⟨ov, _, m, ro, Nat.le_refl _⟩
      · exact ⟨nilS, [], m, RepL.nil _ _ _ _ _, Nat.zero_le _⟩
    exact ⟨g, cap, c', av', ov', la, lo, by rw [← hl]; exact e, q1, row_lt q2, r1, by omega, a1, b1, a2, b2, a3, b3⟩
end
set_option maxHeartbeats 8000000 in
set_option maxRecDepth 100000 in
theorem spoilProgram_c (p : ProgE) (fv ev : Value) (B : Nat) (w1 w : World) (hf : RepL w1 B 58 5 (RFunc w1 B) fv p.funcs) (he : RepL w1 B 53 2 (RSig w1 B) ev p.externs) (hl : LimP p) (hb : Below w1.heap.size w1 w) : Calls Tryd.prog 11 #[.agg #[fv, ev]] w fun e w' => (∃ x, e = .returned x) ∧ Sp B w1.heap.size w w' := by
  obtain ⟨funcs, externs⟩ := p
  simp only at hf he
  obtain ⟨q1, c1, rfl⟩ := hf.shape
  obtain ⟨q2, c2, rfl⟩ := he.shape
  have hn1 : funcs.length ≤ 24 := hl.funcs
  have hn2 : externs.length ≤ 24 := hl.externs
  have HF := hideE hf
  have HE := hideE he
  have HL := hideE hl
  have hsz := hb.size
  have HB := hideE (hb.trans ((Below.refl w.heap.size w).alloc (Nat.le_refl _) (.cells #[.slice q1 funcs.length c1, .slice q2 externs.length c2] 25)  |>.mono hsz))
  have HB0 := hideE ((Below.refl w.heap.size w).alloc (Nat.le_refl _) (.cells #[.slice q1 funcs.length c1, .slice q2 externs.length c2] 25))
  clear hf he hl hb
  go_enter Tryd.func11, Tryd.ntmps11
  go_wp2_with fail
  have HBX := hideE (show (w.alloc (.cells #[.slice q1 funcs.length c1, .slice q2 externs.length c2] 25)).heap[w.heap.size]? = some (.cells #[.slice q1 funcs.length c1, .slice q2 externs.length c2] 25 (0, 0)) from heap_alloc_new w _)
  have HWS := hideE (show w.heap.size < (w.alloc (.cells #[.slice q1 funcs.length c1, .slice q2 externs.length c2] 25)).heap.size by simp)
  generalize w.alloc _ = W at HB HB0 HBX HWS ⊢
  go_loopw [14] (fun j w' => ∃ (k : Nat), j = .int .i64 k ∧ k ≤ externs.length ∧ Sp B w1.heap.size W w') (fun j _ => externs.length - (intOf j).toNat)
  case atStart => exact ⟨0, rfl, by omega, Sp.refl _ _ _⟩
  case round =>
    obtain ⟨k, rfl, hk, hs⟩ := hrel
    have HS := hideE hs
    clear hs
    by_cases hlt : k < externs.length
    · obtain ⟨g, cap, A, e1, rA, lv, e2, hI⟩ := (unhideE HE).at_sp ((Sp.of_below (unhideE HB)).trans (unhideE HS)) (by decide) (by decide) k hlt
      injection e1 with e1 e3 e4
      subst e1 e2
      have hlen : externs[k].1.length ≤ 24 := (unhideE HL).sigs _ (List.getElem_mem hlt)
      obtain ⟨ys, hown⟩ := hI.own
      have HC := hideE (fun (V : World) (hV : Sp B w1.heap.size wr V) => spoilInts_sp (E := w1.heap.size) hown (fun g hg => (hown.lt g hg).2) (by omega) (((Sp.of_below (unhideE HB)).trans (unhideE HS)).trans hV))
      generalize externs[k] = x at *
      obtain ⟨x1, x2⟩ := x
      simp only at *
      have k0 := rA 0 _ rfl
      have k1 := rA 1 _ rfl
      rw [Nat.zero_add, Nat.add_zero] at k0
      rw [Nat.zero_add] at k1
      obtain ⟨lp, lc, rfl⟩ := hI.shape
      clear rA hown hI e3 e4
      go_wp2_with fail
      refine (unhideE HC _ (Sp.of_below (by go_grown))).mono ?_
      rintro e w5 ⟨⟨x, rfl⟩, hs5⟩
      have HS5 := hideE ((unhideE HS).trans ((Sp.of_below (by go_grown)).trans hs5))
      clear hs5
      go_wp2
      go_roundw
      case rel => exact ⟨k + 1, by go_num, by omega, unhideE HS5⟩
      case measure => simp [intOf]; omega
    · obtain rfl : k = externs.length := by omega
      have d1 := (World.cell?_of_block ((unhideE HS).out w.heap.size (unhideE HWS) (Or.inr (by omega)))).trans ((cells_of_row (unhideE HBX) 0).trans rfl)
      go_wp2
      clear d1
      go_loopw [25] (fun j w' => ∃ (k : Nat), j = .int .i64 k ∧ k ≤ funcs.length ∧ Sp B w1.heap.size W w') (fun j _ => funcs.length - (intOf j).toNat)
      case atStart => exact ⟨0, rfl, by omega, unhideE HS⟩
      case round =>
        obtain ⟨k, rfl, hk, hs⟩ := hrel
        have HS2 := hideE hs
        clear hs HS
        by_cases hlt : k < funcs.length
        · obtain ⟨g, cap, A, e1, rA, pv, hv, sv, bv, e2, rp, rh, rs, rb⟩ := (unhideE HF).at_sp ((Sp.of_below (unhideE HB)).trans (unhideE HS2)) (by decide) (by decide) k hlt
          injection e1 with e1 e3 e4
          subst e1 e2
          have hL : LimF funcs[k] := (unhideE HL).each _ (List.getElem_mem hlt)
          generalize funcs[k] = f at *
          obtain ⟨params, results, homes, slots, blocks⟩ := f
          simp only at *
          have l1 : params.length ≤ 24 := hL.params
          have l2 : homes.length ≤ 24 := hL.homes
          have l3 : slots.length ≤ 24 := hL.slots
          have l4 : blocks.length ≤ 24 := hL.blocks
          obtain ⟨ys2, hown2⟩ := rh.own
          obtain ⟨ys3, hown3⟩ := rs.own
          have HSP := hideE (fun (V : World) (hV : Sp B w1.heap.size W V) => (Sp.of_below (E := w1.heap.size) (B := B) (unhideE HB)).trans hV)
          have HC2 := hideE (fun (V : World) (hV : Sp B w1.heap.size W V) => spoilInts_sp (E := w1.heap.size) hown2 (fun g hg => (hown2.lt g hg).2) (by omega) (unhideE HSP V hV))
          have HC3 := hideE (fun (V : World) (hV : Sp B w1.heap.size W V) => spoilInts_sp (E := w1.heap.size) hown3 (fun g hg => (hown3.lt g hg).2) (by omega) (unhideE HSP V hV))
          have k0 := rA 0 _ rfl
          have k1 := rA 1 _ rfl
          have k2 := rA 2 _ rfl
          have k3 := rA 3 _ rfl
          have k4 := rA 4 _ rfl
          simp only [Nat.zero_add, Nat.add_zero] at k0 k1 k2 k3 k4
          obtain ⟨p1, z1, rfl⟩ := rp.shape
          obtain ⟨p2, z2, rfl⟩ := rh.shape
          obtain ⟨p3, z3, rfl⟩ := rs.shape
          obtain ⟨p4, z4, rfl⟩ := rb.shape
          have HRP := hideE rp
          have HRB := hideE rb
          have HLF := hideE hL.each
          clear rA hown2 hown3 rp rh rs rb hL e3 e4
          go_wp2_with fail
          have hal : Sp B w1.heap.size W (wr.alloc (.cells #[.slice p1 params.length z1, .int .i64 results, .slice p2 homes.length z2, .slice p3 slots.length z3, .slice p4 blocks.length z4] 58)) := (unhideE HS2).trans (Sp.of_below (by go_grown))
          have hbx : (wr.alloc (.cells #[.slice p1 params.length z1, .int .i64 results, .slice p2 homes.length z2, .slice p3 slots.length z3, .slice p4 blocks.length z4] 58)).heap[wr.heap.size]? = some (.cells #[.slice p1 params.length z1, .int .i64 results, .slice p2 homes.length z2, .slice p3 slots.length z3, .slice p4 blocks.length z4] 58 (0, 0)) := heap_alloc_new wr _
          have hws : wr.heap.size < (wr.alloc (.cells #[.slice p1 params.length z1, .int .i64 results, .slice p2 homes.length z2, .slice p3 slots.length z3, .slice p4 blocks.length z4] 58)).heap.size := by simp
          have hge : w1.heap.size ≤ wr.heap.size := Nat.le_trans (unhideE HB).size (unhideE HS2).size
          generalize wr.alloc _ = V0 at hal hbx hws ⊢
          generalize wr.heap.size = F0 at hbx hws hge ⊢
          clear HS2 k0 k1 k2 k3 k4
          refine (unhideE HC2 V0 hal).mono ?_
          rintro e w5 ⟨⟨x5, rfl⟩, hs5⟩
          have hbx5 := (hs5.out F0 hws (Or.inr hge)).trans hbx
          have hws5 := Nat.lt_of_lt_of_le hws hs5.size
          have hal5 := hal.trans hs5
          have d3 := (cells_of_row hbx5 3).trans rfl
          have HAL5 := hideE hal5
          have HBX5 := hideE hbx5
          have HWS5 := hideE hws5
          clear hs5 hbx hws hal hbx5 hws5 hal5
          go_wp2_with fail
          refine (unhideE HC3 w5 (unhideE HAL5)).mono ?_
          rintro e w6 ⟨⟨x6, rfl⟩, hs6⟩
          have hbx6 := (hs6.out F0 (unhideE HWS5) (Or.inr hge)).trans (unhideE HBX5)
          have d0 := (cells_of_row hbx6 0).trans rfl
          have HAL6 := hideE ((unhideE HAL5).trans hs6)
          have HBX6 := hideE hbx6
          have HWS6 := hideE (Nat.lt_of_lt_of_le (unhideE HWS5) hs6.size)
          clear hs6 hbx6 d3
          go_wp2
          clear d0
          go_loopw [38] (fun j w' => ∃ (m : Nat), j = .int .i64 m ∧ m ≤ params.length ∧ Sp B w1.heap.size w6 w') (fun j _ => params.length - (intOf j).toNat)
          case atStart => exact ⟨0, rfl, by omega, Sp.refl _ _ _⟩
          case round =>
            obtain ⟨m, rfl, hm, hs⟩ := hrel
            have hbx := (hs.out F0 (unhideE HWS6) (Or.inr hge)).trans (unhideE HBX6)
            by_cases hlm : m < params.length
            · obtain ⟨ys, ho⟩ := (unhideE HRP).own
              obtain ⟨ys', ho'⟩ := (unhideE HSP wr ((unhideE HAL6).trans hs)).owns ho
              obtain ⟨g2, cap2, c, e, hBg, hrow, hcs⟩ := own_at ho' (by omega)
              injection e with e e8 e9
              subst e
              clear e8 e9
              have hE := (ho.lt g2 rfl).2
              have d0 := (cells_of_row hbx 0).trans rfl
              obtain ⟨⟨u1, y1⟩, y2⟩ := cell_in hrow (i := m * 2) (by omega)
              obtain ⟨⟨u2, y3⟩, y4⟩ := cell_in hrow (i := m * 2 + 1) (by omega)
              have HSN := hideE (hs.trans (Sp.setCells hBg hE [.int .i64 (-9), .int .i64 0] (m * 2) wr c hrow (Or.inl (by decide))))
              clear hs hbx ho ho' hBg hrow hcs hE
              go_wp2
              go_roundw
              case rel => exact ⟨m + 1, by go_num, by omega, unhideE HSN⟩
              case measure => simp [intOf]; omega
            · obtain rfl : m = params.length := by omega
              have d4 := (cells_of_row hbx 4).trans rfl
              have HS7 := hideE hs
              clear hs hbx
              go_wp2
              clear d4
              go_loopw [50] (fun j w' => ∃ (m : Nat), j = .int .i64 m ∧ m ≤ blocks.length ∧ Sp B w1.heap.size w6 w') (fun j _ => blocks.length - (intOf j).toNat)
              case atStart => exact ⟨0, rfl, by omega, unhideE HS7⟩
              case round =>
                obtain ⟨m, rfl, hm, hs⟩ := hrel
                have HS8 := hideE hs
                clear hs HS7
                by_cases hlm : m < blocks.length
                · obtain ⟨g, cap, A, e1, rA, v, e2, rI⟩ := (unhideE HRB).at_sp (unhideE HSP wr ((unhideE HAL6).trans (unhideE HS8))) (by decide) (by decide) m hlm
                  injection e1 with e1 e8 e9
                  subst e1 e2
                  clear e8 e9
                  obtain ⟨h24, hLI⟩ := unhideE HLF _ (List.getElem_mem hlm)
                  generalize blocks[m] = is at *
                  have k0 := rA 0 _ rfl
                  simp only [Nat.zero_add, Nat.add_zero, Nat.mul_one] at k0
                  obtain ⟨pI, cI, rfl⟩ := rI.shape
                  have HRI := hideE rI
                  have HLI := hideE hLI
                  clear rA rI hLI
                  go_wp2
                  clear k0
                  go_loopw [56] (fun j w' => ∃ (n : Nat), j = .int .i64 n ∧ n ≤ is.length ∧ Sp B w1.heap.size w6 w') (fun j _ => is.length - (intOf j).toNat)
                  case atStart => exact ⟨0, rfl, by omega, unhideE HS8⟩
                  case round =>
                    obtain ⟨n, rfl, hn, hs⟩ := hrel
                    by_cases hln : n < is.length
                    · obtain ⟨g3, cap3, c3, av, ov, la, lo, e3, hB3, hE3, hrow, hcs, h6, h7, rA, rO, hla, hlo⟩ := ins_sp (unhideE HRI) (unhideE HSP wr ((unhideE HAL6).trans hs)) n hln
                      injection e3 with e3 e8 e9
                      subst e3
                      clear e8 e9
                      obtain ⟨lim1, lim2⟩ := unhideE HLI _ (List.getElem_mem hln)
                      obtain ⟨ys, ho⟩ := rO.own
                      have HC := hideE (spoilInts_sp (E := w1.heap.size) ho (fun g hg => (ho.lt g hg).2) (by omega) (unhideE HSP wr ((unhideE HAL6).trans hs)))
                      have k7 := (cells_of_row hrow (n * 8 + 7)).trans h7
                      obtain ⟨po, co, rfl⟩ := rO.shape
                      have HS9 := hideE hs
                      clear hs hrow h6 h7 rA rO hla hlo ho
                      go_wp2_with fail
                      refine (unhideE HC).mono ?_
                      rintro e w9 ⟨⟨x9, rfl⟩, hs9⟩
                      have hs := (unhideE HS9).trans hs9
                      clear hs9 k7
                      obtain ⟨g4, cap4, c4, av, ov, la, lo, e4, -, -, hrow, hcs, h6, -, rA, -, hla, -⟩ := ins_sp (unhideE HRI) (unhideE HSP w9 ((unhideE HAL6).trans hs)) n hln
                      injection e4 with e4 e8 e9
                      injection e4 with e4
                      injection e4 with e4
                      subst e4
                      clear e8 e9
                      have k6 := (cells_of_row hrow (n * 8 + 6)).trans h6
                      obtain ⟨pa, ca, rfl⟩ := rA.shape
                      have hla24 : la.length ≤ 24 := by omega
                      have HS10 := hideE hs
                      have HRW := hideE hrow
                      have HRA := hideE rA
                      have H6 := hideE h6
                      have HCS := hideE hcs
                      clear hs hrow rA h6 hcs hla
                      go_wp2
                      clear k6
                      go_loopw [71] (fun j w' => ∃ (q : Nat), j = .int .i64 q ∧ q ≤ la.length ∧ Sp B w1.heap.size w6 w' ∧ w'.heap[g3]? = some (.cells c4 65 (0, 0))) (fun j _ => la.length - (intOf j).toNat)
                      case atStart => exact ⟨0, rfl, by omega, unhideE HS10, unhideE HRW⟩
                      case round =>
                        obtain ⟨q, rfl, hq, hs, hrow⟩ := hrel
                        by_cases hlq : q < la.length
                        · obtain ⟨ys, ho⟩ := (unhideE HRA).own
                          obtain ⟨ys', ho'⟩ := (unhideE HSP wr ((unhideE HAL6).trans hs)).owns ho
                          obtain ⟨g5, cap5, c5, e, hBg, hrow5, hcs5⟩ := own_at ho' (by omega)
                          injection e with e e8 e9
                          subst e
                          clear e8 e9
                          have hE := (ho.lt g5 rfl).2
                          have k6 := (cells_of_row hrow (n * 8 + 6)).trans (unhideE H6)
                          obtain ⟨⟨u1, y1⟩, y2⟩ := cell_in hrow5 (i := q * 2) (by omega)
                          obtain ⟨⟨u2, y3⟩, y4⟩ := cell_in hrow5 (i := q * 2 + 1) (by omega)
                          have hne : g3 ≠ g5 := by
                            rintro rfl
                            rw [hrow] at hrow5
                            injection hrow5 with e
                            injection e with _ e _
                            exact absurd e (by decide)
                          have HSN := hideE (hs.trans (Sp.setCells hBg hE [.int .i64 (-9), .int .i64 0] (q * 2) wr c5 hrow5 (Or.inl (by decide))))
                          have HRN := hideE (show (wr.setCells g5 (q * 2) [.int .i64 (-9), .int .i64 0]).heap[g3]? = some (.cells c4 65 (0, 0)) from ((gb_setB (wr.setCell ⟨g5, q * 2, none⟩ (.int .i64 (-9))) g5 (q * 2 + 1) (.int .i64 0)).block g3 (Nat.lt_of_lt_of_le (row_lt hrow) (gb_setB wr g5 (q * 2) (.int .i64 (-9))).size) (by intro e; injection e with e; exact hne e)).trans (((gb_setB wr g5 (q * 2) (.int .i64 (-9))).block g3 (row_lt hrow) (by intro e; injection e with e; exact hne e)).trans hrow))
                          clear hs hrow ho ho' hBg hrow5 hcs5 hE hne
                          go_wp2
                          go_roundw
                          case rel => exact ⟨q + 1, by go_num, by omega, unhideE HSN, unhideE HRN⟩
                          case measure => simp [intOf]; omega
                        · obtain rfl : q = la.length := by omega
                          have hcs := unhideE HCS
                          obtain ⟨⟨u0, y0⟩, f0⟩ := cell_in hrow (i := n * 8) (by omega)
                          obtain ⟨⟨u1, y1⟩, f1⟩ := cell_in hrow (i := n * 8 + 1) (by omega)
                          obtain ⟨⟨u2, y2⟩, f2⟩ := cell_in hrow (i := n * 8 + 2) (by omega)
                          obtain ⟨⟨u3, y3⟩, f3⟩ := cell_in hrow (i := n * 8 + 3) (by omega)
                          obtain ⟨⟨u4, y4⟩, f4⟩ := cell_in hrow (i := n * 8 + 4) (by omega)
                          obtain ⟨⟨u5, y5⟩, f5⟩ := cell_in hrow (i := n * 8 + 5) (by omega)
                          obtain ⟨⟨u6, y6⟩, f6⟩ := cell_in hrow (i := n * 8 + 6) (by omega)
                          obtain ⟨⟨u7, y7⟩, f7⟩ := cell_in hrow (i := n * 8 + 7) (by omega)
                          have HSN := hideE (hs.trans (Sp.setCells hB3 hE3 [.int .i64 (-9), .int .i64 0, .int .i64 0, .int .i64 0, .int .u64 0, .int .i64 0, nilS, nilS] (n * 8) wr c4 hrow (Or.inr ⟨rfl, by
                            intro j u hu hj
                            match j, hu with
                            | 0, _ | 1, _ | 2, _ | 3, _ | 4, _ | 5, _ => omega
                            | 6, hu => injection hu with hu; exact hu.symm
                            | 7, hu => injection hu with hu; exact hu.symm⟩)))
                          clear hs hrow hcs
                          go_wp2
                          go_roundw
                          case rel => exact ⟨n + 1, by go_num, by omega, unhideE HSN⟩
                          case measure => simp [intOf]; omega
                    · obtain rfl : n = is.length := by omega
                      have HS9 := hideE hs
                      clear hs
                      go_wp2
                      go_roundw
                      case rel => exact ⟨m + 1, by go_num, by omega, unhideE HS9⟩
                      case measure => simp [intOf]; omega
                · obtain rfl : m = blocks.length := by omega
                  go_wp2
                  go_roundw
                  case rel => exact ⟨k + 1, by go_num, by omega, (unhideE HAL6).trans (unhideE HS8)⟩
                  case measure => simp [intOf]; omega
        · obtain rfl : k = funcs.length := by omega
          go_wp2
          go_returns
          exact ⟨⟨_, rfl⟩, (Sp.of_below (unhideE HB0)).trans (unhideE HS2)⟩
end Go.Proofs.YthnmdbddfmgdlaaDoor
