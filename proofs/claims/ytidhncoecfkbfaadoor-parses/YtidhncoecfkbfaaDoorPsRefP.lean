/-
  Parses: prologueref.Parse: what is of no program: names, numbers; what its own memory holds. Own work of the verifier.
-/
import Derived.Test.YtidhncoecfkbfaaDoorPsParse
import Derived.Test.YtidhncoecfkbfaaDoorPsTok
import Derived.Test.YtidhncoecfkbfaaDoorPrtRef
namespace Go.Proofs.YtidhncoecfkbfaaDoor
open Go.RowKit

theorem nm_head (k : Nat) (hk : k < 11) : ∃ b r, nm k = b :: r ∧ kindN b.toNat = 3 := by
  match k, hk with
  | 0, _ | 1, _ | 2, _ | 3, _ | 4, _ | 5, _ | 6, _ | 7, _ | 8, _ | 9, _ | 10, _ => exact ⟨_, _, rfl, by decide⟩
theorem nameOk_word {s : ByteArray} {l : List Tk} {i k : Nat} {sn : Nat → Bool} (hw : WfT s l) (h : nameOk s l i sn k) : kAt l i = 3 := by
  obtain ⟨b, r, hb, hk⟩ := nm_head k h.1
  have h2 := h.2.1
  unfold tAt at h2
  unfold kAt
  cases ht : l[i]? with
  | none => rw [ht, hb] at h2; simp at h2
  | some t =>
    rw [ht] at h2
    simp only at h2 ⊢
    obtain ⟨w1, w2, _, _, w5⟩ := hw t (List.mem_of_getElem? ht)
    have e0 := get_ext2 s t.a t.e 0 w2 (by omega)
    have hz : 0 < (s.extract t.a t.e).size := by simp; omega
    have e1 : (s.extract t.a t.e).get! 0 = b := by
      rw [Utf8W.get!_of_lt _ 0 hz]
      have : (s.extract t.a t.e).data.toList[0]? = some b := by rw [← h2, hb]; rfl
      rw [Array.getElem?_toList] at this
      have h3 := (Array.getElem?_eq_some_iff.1 this).2
      exact h3
    rw [e1] at e0
    rw [← w5 t.a (Nat.le_refl _) w1]
    rw [Nat.add_zero] at e0
    rw [← e0]
    exact hk
theorem numsF_dash {s : ByteArray} {l : List Tk} {i : Nat} (h : kAt l i = 5) : numsF s l 2 13 i [] = (i + 1, [-1]) := by
  simp [numsF, numF, hiK, h]
theorem numsF_stop {s : ByteArray} {l : List Tk} {k f i : Nat} {ns : List Int} (h : ¬ (kAt l i = 4 ∧ ns.length < hiK k ∧ (tAt s l i).size ≤ 3)) (h2 : k = 2 → kAt l i = 5 → ¬ ns.length < hiK k) : numsF s l k f i ns = (i, ns) := by
  cases f with
  | zero => rfl
  | succ f =>
    unfold numsF
    split
    · rename_i hl
      have : numF s l i (decide (k = 2)) = none := by
        unfold numF
        split
        · rename_i h5
          simp at h5
          exact absurd hl (h2 h5.2 h5.1)
        · split
          · rename_i h4
            exact absurd ⟨h4.1, hl, h4.2⟩ h
          · rfl
      rw [this]
    · rfl
theorem numsF_go {s : ByteArray} {l : List Tk} {k f i : Nat} {ns : List Int} (h : kAt l i = 4) (hl : ns.length < hiK k) (h3 : (tAt s l i).size ≤ 3) : numsF s l k (f + 1) i ns = numsF s l k f (i + 1) (ns ++ [((valN (tAt s l i).data.toList : Nat) : Int)]) := by
  have : numF s l i (decide (k = 2)) = some ((valN (tAt s l i).data.toList : Nat) : Int) := by
    unfold numF
    rw [if_neg (by simp [h]), if_pos ⟨h, h3⟩]
  conv => lhs; unfold numsF
  rw [if_pos hl, this]
/-- A token's kind, by the piece's. -/
def kbAt (l : List Tk) (i : Nat) : Nat := match l[i]? with | some t => kb t.k | none => 0
theorem kAt_cases {s : ByteArray} {l : List Tk} (hw : WfT s l) (i : Nat) : (kAt l i = 0 ∧ kbAt l i = 0 ∧ l.length ≤ i) ∨ (kAt l i = 3 ∧ kbAt l i = 119 ∧ i < l.length) ∨ (kAt l i = 4 ∧ kbAt l i = 110 ∧ i < l.length) ∨ (kAt l i = 5 ∧ kbAt l i = 45 ∧ i < l.length) ∨ (kAt l i = 6 ∧ kbAt l i = 59 ∧ i < l.length) := by
  unfold kAt kbAt
  cases ht : l[i]? with
  | none => exact Or.inl ⟨rfl, rfl, List.getElem?_eq_none_iff.1 ht⟩
  | some t =>
    obtain ⟨_, _, h3, h6, _⟩ := hw t (List.mem_of_getElem? ht)
    have hi := (List.getElem?_eq_some_iff.1 ht).1
    refine Or.inr ?_
    simp only
    have : t.k = 3 ∨ t.k = 4 ∨ t.k = 5 ∨ t.k = 6 := by omega
    rcases this with e | e | e | e
    · exact Or.inl ⟨e, by rw [e]; rfl, hi⟩
    · exact Or.inr (Or.inl ⟨e, by rw [e]; rfl, hi⟩)
    · exact Or.inr (Or.inr (Or.inl ⟨e, by rw [e]; rfl, hi⟩))
    · exact Or.inr (Or.inr (Or.inr ⟨e, by rw [e]; rfl, hi⟩))
/-- What the blocks that prologueref.Parse has made hold, when its loop begins: tokens, names, counts; the results' own cells. -/
structure RW (s : ByteArray) (l : List Tk) (w W : World) (tb nb cb eb gb : Nat) : Prop where
  tk : ∀ i, i ≤ l.length → W.cell? ⟨tb, i * 3, none⟩ = some (.int .u8 (kbAt l i)) ∧ W.cell? ⟨tb, i * 3 + 1, none⟩ = some (.string (tAt s l i)) ∧ W.cell? ⟨tb, i * 3 + 2, none⟩ = some (.int .i64 (atAt s l i))
  nms : ∀ k, k < 11 → W.cell? ⟨nb, k, none⟩ = some (.string ⟨(nm k).toArray⟩)
  cts : ∀ k, k < 11 → W.cell? ⟨cb, k * 2, none⟩ = some (.int .i64 (loK k)) ∧ W.cell? ⟨cb, k * 2 + 1, none⟩ = some (.int .i64 (hiK k))
  ne : (tb ≠ eb ∧ nb ≠ eb ∧ cb ≠ eb ∧ gb ≠ eb) ∧ (tb ≠ gb ∧ nb ≠ gb ∧ cb ≠ gb) ∧ (eb < W.heap.size ∧ gb < W.heap.size) ∧ (w.heap.size + 2 ≤ eb ∧ w.heap.size + 2 ≤ gb)
  r0 : W.heap[w.heap.size]? = some (.cells #[.int .i64 0, .int .i64 0, .int .i64 0, .int .i64 0, .int .i64 0, .slice none 0 0, .slice none 0 0, .slice none 0 0, .int .i64 0, .int .i64 0, .int .i64 0, .bool false] 45 (0, 0))
  r1 : W.heap[w.heap.size + 1]? = some (.cells #[.int .i64 0, .int .i64 0, .int .i64 0, .int .i64 0] 29 (0, 0))
/-- What is kept from item to item. -/
structure RL (w W wr : World) (eb gb : Nat) (S : RSt) (vs : Nat → Value) : Prop where
  keep : ∀ q, q < W.heap.size → q ≠ eb → q ≠ gb → wr.heap[q]? = W.heap[q]?
  low : Below w.heap.size w wr
  size : W.heap.size ≤ wr.heap.size
  sns : ∀ k, k < 11 → wr.cell? ⟨eb, k, none⟩ = some (.bool (S.sn k))
  got : ∀ k, k < 11 → wr.cell? ⟨gb, k, none⟩ = some (vs k)
  sfz : ∀ k, wr.frozen? ⟨eb, k, none⟩ = false
  gfz : ∀ k, wr.frozen? ⟨gb, k, none⟩ = false
  row : ∀ k, k < 11 → wr.ownsRow W.heap.size 3 1 (vs k) (S.vals k).length (iCells (S.vals k))
  new : ∀ k, k < 11 → S.sn k = false → vs k = .slice none 0 0
section
variable {s : ByteArray} {l : List Tk} {w W wr wr' : World} {tb nb cb eb gb : Nat} {S : RSt} {vs : Nat → Value}
theorem RW.lt (h : RW s l w W tb nb cb eb gb) : tb < W.heap.size ∧ nb < W.heap.size ∧ cb < W.heap.size :=
  ⟨World.block_lt_of_cell? W _ (h.tk 0 (by omega)).1, World.block_lt_of_cell? W _ (h.nms 0 (by decide)), World.block_lt_of_cell? W _ (h.cts 0 (by decide)).1⟩
theorem RL.tk (h : RL w W wr eb gb S vs) (hW : RW s l w W tb nb cb eb gb) (i : Nat) (hi : i ≤ l.length) : wr.cell? ⟨tb, i * 3, none⟩ = some (.int .u8 (kbAt l i)) ∧ wr.cell? ⟨tb, i * 3 + 1, none⟩ = some (.string (tAt s l i)) ∧ wr.cell? ⟨tb, i * 3 + 2, none⟩ = some (.int .i64 (atAt s l i)) :=
  have e := h.keep tb hW.lt.1 hW.ne.1.1 hW.ne.2.1.1
  ⟨(World.cell?_of_block e).trans (hW.tk i hi).1, (World.cell?_of_block e).trans (hW.tk i hi).2.1, (World.cell?_of_block e).trans (hW.tk i hi).2.2⟩
theorem RL.nms (h : RL w W wr eb gb S vs) (hW : RW s l w W tb nb cb eb gb) (k : Nat) (hk : k < 11) : wr.cell? ⟨nb, k, none⟩ = some (.string ⟨(nm k).toArray⟩) :=
  (World.cell?_of_block (h.keep nb hW.lt.2.1 hW.ne.1.2.1 hW.ne.2.1.2.1)).trans (hW.nms k hk)
theorem RL.cts (h : RL w W wr eb gb S vs) (hW : RW s l w W tb nb cb eb gb) (k : Nat) (hk : k < 11) : wr.cell? ⟨cb, k * 2, none⟩ = some (.int .i64 (loK k)) ∧ wr.cell? ⟨cb, k * 2 + 1, none⟩ = some (.int .i64 (hiK k)) :=
  have e := h.keep cb hW.lt.2.2 hW.ne.1.2.2.1 hW.ne.2.1.2.2
  ⟨(World.cell?_of_block e).trans (hW.cts k hk).1, (World.cell?_of_block e).trans (hW.cts k hk).2⟩
theorem RL.res (h : RL w W wr eb gb S vs) (hW : RW s l w W tb nb cb eb gb) : wr.heap[w.heap.size]? = some (.cells #[.int .i64 0, .int .i64 0, .int .i64 0, .int .i64 0, .int .i64 0, .slice none 0 0, .slice none 0 0, .slice none 0 0, .int .i64 0, .int .i64 0, .int .i64 0, .bool false] 45 (0, 0)) ∧ wr.heap[w.heap.size + 1]? = some (.cells #[.int .i64 0, .int .i64 0, .int .i64 0, .int .i64 0] 29 (0, 0)) :=
  ⟨(h.keep _ (by have := hW.ne; omega) (by have := hW.ne; omega) (by have := hW.ne; omega)).trans hW.r0, (h.keep _ (by have := hW.ne; omega) (by have := hW.ne; omega) (by have := hW.ne; omega)).trans hW.r1⟩
theorem RL.below (h : RL w W wr eb gb S vs) (hW : RW s l w W tb nb cb eb gb) (hb : Below wr.heap.size wr wr') : RL w W wr' eb gb S vs :=
  have he : eb < wr.heap.size := Nat.lt_of_lt_of_le hW.ne.2.2.1.1 h.size
  have hg : gb < wr.heap.size := Nat.lt_of_lt_of_le hW.ne.2.2.1.2 h.size
  ⟨fun q hq h1 h2 => (hb.block q (Nat.lt_of_lt_of_le hq h.size)).trans (h.keep q hq h1 h2), h.low.trans (hb.mono h.low.size), Nat.le_trans h.size hb.size, fun k hk => (World.cell?_of_block (hb.block eb he)).trans (h.sns k hk), fun k hk => (World.cell?_of_block (hb.block gb hg)).trans (h.got k hk), fun k => (World.frozen?_of_block (a := ⟨eb, k, none⟩) (hb.block eb he)).trans (h.sfz k), fun k => (World.frozen?_of_block (a := ⟨gb, k, none⟩) (hb.block gb hg)).trans (h.gfz k), fun k hk => World.ownsRow.kept (h.row k hk) (gb_of_below (row := none) hb) (by cases (vs k).ownBlock <;> simp), h.new⟩
theorem RL.seen (h : RL w W wr eb gb S vs) (hW : RW s l w W tb nb cb eb gb) (k : Nat) (hk : k < 11) (i : Nat) : RL w W (wr.setCell ⟨eb, k, none⟩ (.bool true)) eb gb ⟨i, updS S.sn k, S.vals⟩ vs := by
  obtain ⟨⟨n1, n2, n3, n4⟩, _, ⟨l1, l2⟩, ⟨b1, b2⟩⟩ := hW.ne
  have e : ∀ q, q ≠ eb → (wr.setCell ⟨eb, k, none⟩ (.bool true)).heap[q]? = wr.heap[q]? := fun q hq => Below.heap_setCell wr ⟨eb, k, none⟩ (.bool true) q hq
  refine ⟨fun q hq h1 h2 => (e q h1).trans (h.keep q hq h1 h2), h.low.setCell (by show _ ≤ eb; omega) _, by simpa using h.size, fun j hj => ?_, fun j hj => (World.cell?_of_block (e _ n4)).trans (h.got j hj), fun j => by rw [World.frozen?_setCell]; exact h.sfz j, fun j => (World.frozen?_of_block (a := ⟨gb, j, none⟩) (e _ n4)).trans (h.gfz j), fun j hj => ownsRow_setCell_below (h.row j hj) (a := ⟨eb, k, none⟩) l1 _, fun j hj hs => ?_⟩
  · by_cases hjk : j = k
    · subst hjk
      rw [World.cell?_setCell_same _ _ _ (h.sns j hj)]
      simp [updS]
    · rw [World.cell?_setCell_other _ _ _ _ (by intro e; simp at e; first | done | omega)]
      rw [h.sns j hj]
      simp [updS, hjk]
  · by_cases hjk : j = k
    · subst hjk; simp [updS] at hs
    · simp only [updS, hjk, if_false] at hs
      exact h.new j hj hs
theorem RL.put {u : Value} {ns : List Int} (h : RL w W wr eb gb S vs) (hW : RW s l w W tb nb cb eb gb) (k : Nat) (hk : k < 11) (hs : S.sn k = true) (hu : wr.ownsRow W.heap.size 3 1 u ns.length (iCells ns)) (i : Nat) : RL w W (wr.setCell ⟨gb, k, none⟩ u) eb gb ⟨i, S.sn, updL S.vals k ns⟩ (updV vs k u) := by
  obtain ⟨⟨n1, n2, n3, n4⟩, _, ⟨l1, l2⟩, ⟨b1, b2⟩⟩ := hW.ne
  have e : ∀ q, q ≠ gb → (wr.setCell ⟨gb, k, none⟩ u).heap[q]? = wr.heap[q]? := fun q hq => Below.heap_setCell wr ⟨gb, k, none⟩ u q hq
  refine ⟨fun q hq h1 h2 => (e q h2).trans (h.keep q hq h1 h2), h.low.setCell (by show _ ≤ gb; omega) _, by simpa using h.size, fun j hj => (World.cell?_of_block (e _ (Ne.symm n4))).trans (h.sns j hj), fun j hj => ?_, fun j => (World.frozen?_of_block (a := ⟨eb, j, none⟩) (e _ (Ne.symm n4))).trans (h.sfz j), fun j => by rw [World.frozen?_setCell]; exact h.gfz j, fun j hj => ?_, fun j hj hs' => ?_⟩
  · by_cases hjk : j = k
    · subst hjk
      rw [World.cell?_setCell_same _ _ _ (h.got j hj)]
      simp [updV]
    · rw [World.cell?_setCell_other _ _ _ _ (by intro e; simp at e; first | done | omega)]
      rw [h.got j hj]
      simp [updV, hjk]
  · by_cases hjk : j = k
    · subst hjk
      simp only [updV, updL, if_true]
      exact ownsRow_setCell_below hu (a := ⟨gb, j, none⟩) l2 _
    · simp only [updV, updL, hjk, if_false]
      exact ownsRow_setCell_below (h.row j hj) (a := ⟨gb, k, none⟩) l2 _
  · by_cases hjk : j = k
    · subst hjk; rw [hs] at hs'; cases hs'
    · simp only [updV, hjk, if_false]
      exact h.new j hj hs'
/-- What is kept from number to number. -/
structure NL (s : ByteArray) (l : List Tk) (w5 wr : World) (gb k i0 : Nat) (vs : Nat → Value) (f i : Nat) (ns : List Int) (u : Value) : Prop where
  grow : w5.grownBy wr (some gb)
  got : ∀ j, j < 11 → wr.cell? ⟨gb, j, none⟩ = some (updV vs k u j)
  gfz : ∀ j, wr.frozen? ⟨gb, j, none⟩ = false
  row : wr.ownsRow w5.heap.size 3 1 u ns.length (iCells ns)
  eq : numsF s l k f i ns = numsF s l k 13 i0 []
  fuel : 13 ≤ ns.length + f
  len : ns.length ≤ 12
  fit : i ≤ l.length
  dash : k = 2 → kAt l i = 5 → ¬ ns.length < hiK k
theorem NL.back {w5 : World} {k i0 f i : Nat} {ns : List Int} {u : Value} (h : NL s l w5 wr gb k i0 vs f i ns u) (hR : RL w W w5 eb gb S vs) (hW : RW s l w W tb nb cb eb gb) (hk : k < 11) (hs : S.sn k = true) (i' : Nat) : RL w W wr eb gb ⟨i', S.sn, updL S.vals k ns⟩ (updV vs k u) := by
  obtain ⟨⟨n1, n2, n3, n4⟩, _, ⟨l1, l2⟩, ⟨b1, b2⟩⟩ := hW.ne
  have hz := hR.size
  have e : ∀ q, q < w5.heap.size → q ≠ gb → wr.heap[q]? = w5.heap[q]? := fun q hq hne => h.grow.block q hq (by simpa using hne)
  refine ⟨fun q hq h1 h2 => (e q (by omega) h2).trans (hR.keep q hq h1 h2), ⟨h.grow.os.trans hR.low.os, h.grow.tape.trans hR.low.tape, h.grow.output.trans hR.low.output, Nat.le_trans hR.low.size h.grow.size, fun q hq => (e q (by have := hR.low.size; omega) (by omega)).trans (hR.low.block q hq)⟩, Nat.le_trans hz h.grow.size, fun j hj => (World.cell?_of_block (e eb (by omega) (Ne.symm n4))).trans (hR.sns j hj), h.got, fun j => (World.frozen?_of_block (a := ⟨eb, j, none⟩) (e eb (by omega) (Ne.symm n4))).trans (hR.sfz j), h.gfz, fun j hj => ?_, fun j hj hs' => ?_⟩
  · by_cases hjk : j = k
    · subst hjk
      simp only [updV, updL, if_true]
      exact row_mono h.row hz
    · simp only [updV, updL, hjk, if_false]
      exact row_kept (hR.row j hj) h.grow l2
  · by_cases hjk : j = k
    · subst hjk; rw [hs] at hs'; cases hs'
    · simp only [updV, hjk, if_false]
      exact hR.new j hj hs'
end
theorem res_cells {w : World} {T : Nat} {t : TypeId} {cs : Array Value} (h : w.heap[T]? = some (.cells cs t (0, 0))) : (∀ j, w.cell? ⟨T, j, none⟩ = cs[j]?) ∧ ∀ j, w.frozen? ⟨T, j, none⟩ = false :=
  ⟨fun j => by simp [World.cell?, h], fun j => by simp [World.frozen?, h]⟩
theorem tok_get (s : ByteArray) (l : List Tk) (i : Nat) (t : Tk) (ht : l[i]? = some t) (j : Nat) (hj : j < 3) : (toCells s l)[i * 3 + j]? = ([.int .u8 (kb t.k), .string (s.extract t.a t.e), .int .i64 t.a] : List Value)[j]? := by
  obtain ⟨hi, rfl⟩ := List.getElem?_eq_some_iff.1 ht
  have e : l = l.take i ++ [l[i]] ++ l.drop (i + 1) := by
    rw [List.append_assoc, List.singleton_append, List.getElem_cons_drop, List.take_append_drop]
  have hl : (toCells s (l.take i)).length = i * 3 := by rw [toCells_len]; simp; omega
  have h3 : toCells s l = toCells s (l.take i) ++ ([.int .u8 (kb (l[i]).k), .string (s.extract (l[i]).a (l[i]).e), .int .i64 (l[i]).a] ++ toCells s (l.drop (i + 1))) := by
    have h4 := congrArg (toCells s) e
    simp only [toCells, List.flatMap_append, List.flatMap_cons, List.flatMap_nil, List.append_nil, List.append_assoc] at h4 ⊢
    exact h4
  rw [h3]
  rw [List.getElem?_append_right (by omega), hl, Nat.add_sub_cancel_left, List.getElem?_append_left (by simpa using hj)]
theorem tok_cells {s : ByteArray} {l : List Tk} {w : World} {base tb cap : Nat} (h : w.ownsRow base 87 3 (.slice (some ⟨tb, 0, none⟩) (l.length + 1) cap) (l.length + 1) (toCells s l ++ [.int .u8 0, .string ByteArray.empty, .int .i64 s.size])) (i : Nat) (hi : i ≤ l.length) :
    w.cell? ⟨tb, i * 3, none⟩ = some (.int .u8 (kbAt l i)) ∧ w.cell? ⟨tb, i * 3 + 1, none⟩ = some (.string (tAt s l i)) ∧ w.cell? ⟨tb, i * 3 + 2, none⟩ = some (.int .i64 (atAt s l i)) := by
  have c := fun j (hj : j < 3) => h.cellAt (i * 3 + j) (by omega)
  have hlen := toCells_len s l
  by_cases hlt : i < l.length
  · have ht : l[i]? = some l[i] := List.getElem?_eq_getElem hlt
    have g := fun j (hj : j < 3) => (c j hj).trans ((List.getElem?_append_left (by omega)).trans (tok_get s l i l[i] ht j hj))
    unfold kbAt tAt atAt
    rw [ht]
    exact ⟨g 0 (by decide), g 1 (by decide), g 2 (by decide)⟩
  · obtain rfl : i = l.length := by omega
    have hn : l[l.length]? = none := List.getElem?_eq_none_iff.2 (Nat.le_refl _)
    have g := fun j (hj : j < 3) => (c j hj).trans (List.getElem?_append_right (by omega))
    unfold kbAt tAt atAt
    rw [hn]
    have g0 := g 0 (by decide)
    have g1 := g 1 (by decide)
    have g2 := g 2 (by decide)
    rw [hlen, Nat.add_sub_cancel_left] at g0 g1 g2
    exact ⟨g0, g1, g2⟩
theorem decFrom_val : ∀ (l : List UInt8) (acc : Nat), (∀ b ∈ l, 48 ≤ b.toNat ∧ b.toNat ≤ 57) → Lib.decFrom acc l = some (l.foldl (fun v b => 10 * v + (b.toNat - 48)) acc)
  | [], acc, _ => rfl
  | b :: r, acc, h => by
    have hb := h b (by simp)
    have hd : Lib.digitVal b = some (b.toNat - 48) := by unfold Lib.digitVal; rw [if_pos hb]
    simp only [Lib.decFrom, hd, List.foldl_cons]
    rw [decFrom_val r _ (fun x hx => h x (by simp [hx])), Nat.mul_comm acc 10]
theorem atoi_val (l : List UInt8) (hne : l ≠ []) (h : ∀ b ∈ l, 48 ≤ b.toNat ∧ b.toNat ≤ 57) : Lib.atoi l = some ((valN l : Nat) : Int) := by
  match l, hne with
  | b :: r, _ =>
    have hb := h b (by simp)
    have h1 : (b == 45) = false := by
      apply Bool.eq_false_iff.2
      intro e
      have := eq_of_beq e
      subst this
      simp at hb
    have h2 : (b == 43) = false := by
      apply Bool.eq_false_iff.2
      intro e
      have := eq_of_beq e
      subst this
      simp at hb
    simp only [Lib.atoi, h1, h2, Lib.decNat, List.isEmpty_cons, Bool.false_eq_true, if_false]
    rw [decFrom_val _ _ h]
    rfl
theorem tok_digits {s : ByteArray} {l : List Tk} {i : Nat} (hw : WfT s l) (hk : kAt l i = 4) : Lib.atoi (tAt s l i).data.toList = some ((valN (tAt s l i).data.toList : Nat) : Int) := by
  apply atoi_val
  · unfold kAt at hk
    unfold tAt
    cases ht : l[i]? with
    | none => rw [ht] at hk; simp at hk
    | some t =>
      obtain ⟨h1, h2, _⟩ := hw t (List.mem_of_getElem? ht)
      intro e
      have := congrArg List.length e
      simp at this
      omega
  · intro b hb
    obtain ⟨j, hj⟩ := List.getElem?_of_mem hb
    have hj2 : j < (tAt s l i).size := by
      have := (List.getElem?_eq_some_iff.1 hj).1
      simpa using this
    have h := digits_of hw hk j hj2
    rw [Utf8W.get!_of_lt _ j hj2] at h
    have e : (tAt s l i)[j]'hj2 = b := by
      have := (List.getElem?_eq_some_iff.1 hj).2
      simp at this
      exact this
    rw [e] at h
    exact h
theorem bytes_low (w : World) (e : TypeId) (t : ByteArray) : Below w.heap.size w (Lib.bytesWorld w e t) := ⟨rfl, rfl, rfl, by rw [Lib.bytesWorld_size]; omega, fun k hk => Lib.bytesWorld_at_old w e t k hk⟩
theorem updV_self (vs : Nat → Value) (k : Nat) : updV vs k (vs k) = vs := funext fun j => by
  unfold updV
  split
  · rename_i h; rw [h]
  · rfl
end Go.Proofs.YtidhncoecfkbfaaDoor
