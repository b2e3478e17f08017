/-
  Parses: the reader: readStop, readNumber, readName. Own work of the verifier.
-/
import Derived.Test.YtobempobmokkcaaGreatDoorPsRead
namespace Go.Proofs.YtobempobmokkcaaGreatDoor
open Go.RowKit

theorem gb_of_below {w w' : World} {row : Option Nat} (h : Below w.heap.size w w') : w.grownBy w' row := ⟨h.os, h.tape, h.output, h.size, fun k hk _ => h.block k hk⟩
theorem gb_trans {a c d : World} {row : Option Nat} (h : a.grownBy c row) (k : c.grownBy d row) : a.grownBy d row :=
  ⟨k.os.trans h.os, k.tape.trans h.tape, k.output.trans h.output, Nat.le_trans h.size k.size, fun q hq hr => (k.block q (Nat.lt_of_lt_of_le hq h.size) hr).trans (h.block q hq hr)⟩
theorem gb_set (w : World) (b j : Nat) (u : Value) : w.grownBy (w.setCell ⟨b, j, none⟩ u) (some b) :=
  ⟨rfl, rfl, rfl, by simp, fun k _ hk => heap_setCell_other w ⟨b, j, none⟩ k u (fun e => hk (by simp [e]))⟩
theorem Rdr.below {w w' : World} {b : Nat} {s : ByteArray} {v : Value} {i : Nat} {sn : Nat → Bool} {vs : Nat → Value} (h : Rdr w b s v i sn vs) (hb : Below w.heap.size w w') : Rdr w' b s v i sn vs := by
  have hlt := World.block_lt_of_cell? w _ h.txt
  have e : ∀ o, w'.cell? ⟨b, o, none⟩ = w.cell? ⟨b, o, none⟩ := fun o => World.cell?_of_block (hb.block b hlt)
  exact ⟨(e _).trans h.txt, (e _).trans h.pcs, (e _).trans h.nxt, fun k hk => (e _).trans (h.seen k hk), fun k hk => (e _).trans (h.vals k hk), fun j => (World.frozen?_of_block (a := ⟨b, j, none⟩) (hb.block b hlt)).trans (h.frz j)⟩
theorem Rdr.set_next {w : World} {b : Nat} {s : ByteArray} {v : Value} {i : Nat} {sn : Nat → Bool} {vs : Nat → Value} (h : Rdr w b s v i sn vs) (q : Nat) : Rdr (w.setCell ⟨b, 2, none⟩ (.int .i64 q)) b s v q sn vs := by
  have e : ∀ o, o ≠ 2 → (w.setCell ⟨b, 2, none⟩ (.int .i64 q)).cell? ⟨b, o, none⟩ = w.cell? ⟨b, o, none⟩ := fun o ho => World.cell?_setCell_other _ _ _ _ (by intro e; simp at e; first | done | omega)
  exact ⟨(e _ (by decide)).trans h.txt, (e _ (by decide)).trans h.pcs, World.cell?_setCell_same _ _ _ h.nxt, fun k hk => (e _ (by omega)).trans (h.seen k hk), fun k hk => (e _ (by omega)).trans (h.vals k hk), fun j => by rw [World.frozen?_setCell]; exact h.frz j⟩
theorem Rdr.set_seen {w : World} {b : Nat} {s : ByteArray} {v : Value} {i : Nat} {sn : Nat → Bool} {vs : Nat → Value} (h : Rdr w b s v i sn vs) (k : Nat) (hk : k < 11) : Rdr (w.setCell ⟨b, 3 + k, none⟩ (.bool true)) b s v i (fun j => if j = k then true else sn j) vs := by
  have e : ∀ o, o ≠ 3 + k → (w.setCell ⟨b, 3 + k, none⟩ (.bool true)).cell? ⟨b, o, none⟩ = w.cell? ⟨b, o, none⟩ := fun o ho => World.cell?_setCell_other _ _ _ _ (by intro e; simp at e; first | done | omega)
  refine ⟨(e _ (by omega)).trans h.txt, (e _ (by omega)).trans h.pcs, (e _ (by omega)).trans h.nxt, fun j hj => ?_, fun j hj => (e _ (by omega)).trans (h.vals j hj), fun j => by rw [World.frozen?_setCell]; exact h.frz j⟩
  by_cases hjk : j = k
  · subst hjk; simp only [if_true]; exact World.cell?_setCell_same _ _ _ (h.seen j hj)
  · simp only [hjk, if_false]; exact (e _ (by omega)).trans (h.seen j hj)
theorem Own3.grown {w w' : World} {base b : Nat} {v : Value} {l : List Tk} (h : Own3 w base v l) (hg : w.grownBy w' (some b)) (hne : v.ownBlock ≠ some b) : Own3 w' base v l := World.ownsRow.kept h hg (Or.inr hne)
/-- The kind of the piece at i; 0 behind the last one. -/
def kAt (l : List Tk) (i : Nat) : Nat := match l[i]? with | some t => t.k | none => 0
def tAt (s : ByteArray) (l : List Tk) (i : Nat) : ByteArray := match l[i]? with | some t => s.extract t.a t.e | none => ⟨#[]⟩
theorem peek_c (w : World) (b base : Nat) (s : ByteArray) (v : Value) (i : Nat) (sn : Nat → Bool) (vs : Nat → Value) (l : List Tk) (h : Rdr w b s v i sn vs) (ho : Own3 w base v l) (hl : l.length ≤ 400) (hi : i ≤ l.length) (hw : WfT s l) :
    Calls Tryz.prog 212 #[.pointer (some ⟨b, 0, none⟩)] w fun e w' => e = .returned (.tuple #[.int .i64 (kAt l i), .string (tAt s l i)]) ∧ Below w.heap.size w w' := by
  cases ht : l[i]? with
  | some t =>
    have e1 : kAt l i = t.k := by simp [kAt, ht]
    have e2 : tAt s l i = s.extract t.a t.e := by simp [tAt, ht]
    rw [e1, e2]
    exact peek_in w b base s v i sn vs l t h ho hl ht hw
  | none =>
    have e1 : kAt l i = 0 := by simp [kAt, ht]
    have e2 : tAt s l i = ⟨#[]⟩ := by simp [tAt, ht]
    have e3 : i = l.length := by have := List.getElem?_eq_none_iff.1 ht; omega
    rw [e1, e2]
    subst e3
    exact peek_end w b base s v sn vs l h ho hl
set_option maxHeartbeats 2000000 in
set_option maxRecDepth 100000 in
theorem readStop_c (w : World) (b base : Nat) (s : ByteArray) (v : Value) (i : Nat) (sn : Nat → Bool) (vs : Nat → Value) (l : List Tk) (h : Rdr w b s v i sn vs) (ho : Own3 w base v l) (hl : l.length ≤ 400) (hi : i ≤ l.length) (hw : WfT s l) :
    Calls Tryz.prog 140 #[.pointer (some ⟨b, 0, none⟩)] w fun e w' => e = .returned (.bool (decide (kAt l i = 6))) ∧ w.grownBy w' (some b) ∧ Rdr w' b s v (if kAt l i = 6 then i + 1 else i) sn vs := by
  have HP := hideQ (peek_c w b base s v i sn vs l h ho hl hi hw)
  have HR := hideQ h
  clear h ho hw
  by_cases hk : kAt l i = 6
  · simp only [hk, decide_true, if_true]
    go_enter Tryz.func140, Tryz.ntmps140
    go_wp2_with fail
    refine (unhideQ HP).mono ?_
    rintro e w1 ⟨rfl, hb1⟩
    have h1 := (unhideQ HR).below hb1
    have HB := hideQ hb1
    have c2 := h1.nxt
    have cf := h1.frz 2
    have H1 := hideQ h1
    clear hb1 h1
    rw [hk]
    go_wp2
    go_ret
    exact ⟨rfl, gb_trans (gb_of_below (unhideQ HB)) (gb_set _ _ _ _), (unhideQ H1).set_next (i + 1)⟩
  · simp only [hk, decide_false, if_false]
    go_enter Tryz.func140, Tryz.ntmps140
    go_wp2_with fail
    refine (unhideQ HP).mono ?_
    rintro e w1 ⟨rfl, hb1⟩
    have H1 := hideQ ((unhideQ HR).below hb1)
    have HB := hideQ hb1
    clear hb1
    generalize kAt l i = kk at *
    have zk : ((kk : Int) != 6) = true := by rw [bne_iff_ne]; omega
    go_wp2
    go_ret
    exact ⟨rfl, gb_of_below (unhideQ HB), unhideQ H1⟩

theorem get_ext2 (s : ByteArray) (a e j : Nat) (he : e ≤ s.size) (hj : a + j < e) : (s.extract a e).get! j = s.get! (a + j) := by
  rw [Utf8W.get!_of_lt _ _ (by simp; omega), Utf8W.get!_of_lt _ _ (by omega)]
  simp [ByteArray.getElem_extract]
theorem digits_of {s : ByteArray} {l : List Tk} {i : Nat} (hw : WfT s l) (hk : kAt l i = 4) : ∀ j, j < (tAt s l i).size → 48 ≤ ((tAt s l i).get! j).toNat ∧ ((tAt s l i).get! j).toNat ≤ 57 := by
  cases ht : l[i]? with
  | none => simp [kAt, ht] at hk
  | some t =>
    have e1 : t.k = 4 := by simpa [kAt, ht] using hk
    have e2 : tAt s l i = s.extract t.a t.e := by simp [tAt, ht]
    obtain ⟨h1, h2, -, -, h5⟩ := hw t (List.mem_of_getElem? ht)
    rw [e2]
    intro j hj
    have hj2 : t.a + j < t.e := by simp at hj; omega
    rw [get_ext2 s t.a t.e j h2 hj2]
    exact of_kind4 ((h5 _ (by omega) hj2).trans e1)
/-- What may be read as a number at i. -/
def numF (s : ByteArray) (l : List Tk) (i : Nat) (d : Bool) : Option Int := if kAt l i = 5 ∧ d = true then some (-1) else if kAt l i = 4 ∧ (tAt s l i).size ≤ 3 then some ((valN (tAt s l i).data.toList : Nat) : Int) else none
set_option maxHeartbeats 2000000 in
set_option maxRecDepth 100000 in
theorem readNumber_c (d : Bool) (w : World) (b base : Nat) (s : ByteArray) (v : Value) (i : Nat) (sn : Nat → Bool) (vs : Nat → Value) (l : List Tk) (h : Rdr w b s v i sn vs) (ho : Own3 w base v l) (hl : l.length ≤ 400) (hi : i ≤ l.length) (hw : WfT s l) :
    Calls Tryz.prog 214 #[.pointer (some ⟨b, 0, none⟩), .bool d] w fun e w' => e = .returned (.tuple #[.int .i64 ((numF s l i d).getD 0), .bool (numF s l i d).isSome]) ∧ w.grownBy w' (some b) ∧ Rdr w' b s v (if (numF s l i d).isSome then i + 1 else i) sn vs := by
  have HP := hideQ (peek_c w b base s v i sn vs l h ho hl hi hw)
  have HR := hideQ h
  have HD := hideQ (fun hk => digits_of (i := i) hw hk)
  clear h ho hw
  by_cases hk : kAt l i = 5 ∧ d = true
  · have hn : numF s l i d = some (-1) := by simp [numF, hk]
    obtain ⟨hk, rfl⟩ := hk
    rw [hn]
    simp only [Option.getD_some, Option.isSome_some, if_true]
    go_enter Tryz.func214, Tryz.ntmps214
    go_wp2_with fail
    refine (unhideQ HP).mono ?_
    rintro e w1 ⟨rfl, hb1⟩
    have h1 := (unhideQ HR).below hb1
    have HB := hideQ hb1
    have c2 := h1.nxt
    have cf := h1.frz 2
    have H1 := hideQ h1
    clear hb1 h1
    rw [hk]
    go_wp2
    go_ret2
    exact ⟨rfl, gb_trans (gb_of_below (unhideQ HB)) (gb_set _ _ _ _), (unhideQ H1).set_next (i + 1)⟩
  by_cases hk4 : kAt l i = 4 ∧ (tAt s l i).size ≤ 3
  · have hn : numF s l i d = some ((valN (tAt s l i).data.toList : Nat) : Int) := by simp [numF, hk4]
    have hdg := unhideQ HD hk4.1
    rw [hn]
    simp only [Option.getD_some, Option.isSome_some, if_true]
    obtain ⟨hk5, hsz⟩ := hk4
    rw [hk5] at HP
    have HV := hideQ (fun w' => valueOf_c (tAt s l i) w' hsz hdg)
    generalize tAt s l i = tt at *
    clear hk hdg
    go_enter Tryz.func214, Tryz.ntmps214
    go_wp2_with fail
    refine (unhideQ HP).mono ?_
    rintro e w1 ⟨rfl, hb1⟩
    have h1 := (unhideQ HR).below hb1
    have HB := hideQ hb1
    have c2 := h1.nxt
    have cf := h1.frz 2
    have H1 := hideQ h1
    clear hb1 h1
    go_wp2_with fail
    refine (unhideQ HV _).mono ?_
    rintro e w2 ⟨rfl, hb2⟩
    have H2 := hideQ (((unhideQ H1).set_next (i + 1)).below hb2)
    have HB2 := hideQ (gb_trans (gb_trans (gb_of_below (unhideQ HB)) (gb_set _ _ _ _)) (gb_of_below hb2) : w.grownBy w2 (some b))
    clear hb2
    go_wp2
    go_ret2
    exact ⟨rfl, unhideQ HB2, unhideQ H2⟩
  · have hn : numF s l i d = none := by simp [numF, hk, hk4]
    rw [hn]
    simp only [Option.getD_none, Option.isSome_none, Bool.false_eq_true, if_false]
    clear hn HD
    generalize kAt l i = kk at *
    generalize tAt s l i = tt at *
    by_cases k5 : kk = 5
    · have hd : d = false := by cases d <;> simp_all
      subst k5 hd
      go_enter Tryz.func214, Tryz.ntmps214
      go_wp2_with fail
      refine (unhideQ HP).mono ?_
      rintro e w1 ⟨rfl, hb1⟩
      have H1 := hideQ ((unhideQ HR).below hb1)
      have HB := hideQ hb1
      clear hb1
      go_wp2
      go_ret2
      exact ⟨rfl, gb_of_below (unhideQ HB), unhideQ H1⟩
    · have z5 : ((kk : Int) == 5) = false := by rw [beq_eq_false_iff_ne]; omega
      by_cases k4 : kk = 4
      · have hsz : ¬ tt.size ≤ 3 := fun h => hk4 ⟨k4, h⟩
        subst k4
        go_enter Tryz.func214, Tryz.ntmps214
        go_wp2_with fail
        refine (unhideQ HP).mono ?_
        rintro e w1 ⟨rfl, hb1⟩
        have H1 := hideQ ((unhideQ HR).below hb1)
        have HB := hideQ hb1
        clear hb1
        go_wp2
        go_ret2
        exact ⟨rfl, gb_of_below (unhideQ HB), unhideQ H1⟩
      · have z4 : ((kk : Int) == 4) = false := by rw [beq_eq_false_iff_ne]; omega
        go_enter Tryz.func214, Tryz.ntmps214
        go_wp2_with fail
        refine (unhideQ HP).mono ?_
        rintro e w1 ⟨rfl, hb1⟩
        have H1 := hideQ ((unhideQ HR).below hb1)
        have HB := hideQ hb1
        clear hb1
        go_wp2
        go_ret2
        exact ⟨rfl, gb_of_below (unhideQ HB), unhideQ H1⟩

theorem tAt_mk (t : ByteArray) : t = ⟨t.data.toList.toArray⟩ := by cases t; simp
theorem nm_inj {j k : Nat} (hj : j < 11) (hk : k < 11) (h : nm j = nm k) : j = k := by
  have key : ∀ a : Fin 11, ∀ c : Fin 11, nm a.val = nm c.val → a = c := by decide
  have := key ⟨j, hj⟩ ⟨k, hk⟩ h
  simpa using this
/-- The item that may be read at i: its number. -/
def nameOk (s : ByteArray) (l : List Tk) (i : Nat) (sn : Nat → Bool) (k : Nat) : Prop := k < 11 ∧ nm k = (tAt s l i).data.toList ∧ sn k = false
set_option maxHeartbeats 2000000 in
set_option maxRecDepth 100000 in
theorem readName_c (w : World) (b base : Nat) (s : ByteArray) (v : Value) (i : Nat) (sn : Nat → Bool) (vs : Nat → Value) (l : List Tk) (h : Rdr w b s v i sn vs) (ho : Own3 w base v l) (hl : l.length ≤ 400) (hi : i ≤ l.length) (hw : WfT s l) (hI : Items w) (hbI : 1 < w.heap.size) :
    Calls Tryz.prog 138 #[.pointer (some ⟨b, 0, none⟩)] w fun e w' =>
      (∃ k, nameOk s l i sn k ∧ e = .returned (.int .i64 k) ∧ w.grownBy w' (some b) ∧ Rdr w' b s v (i + 1) (fun j => if j = k then true else sn j) vs) ∨
      ((∀ k, ¬ nameOk s l i sn k) ∧ e = .returned (.int .i64 (-1)) ∧ w.grownBy w' (some b) ∧ Rdr w' b s v i sn vs) := by
  have HP := hideQ (peek_c w b base s v i sn vs l h ho hl hi hw)
  have HR := hideQ h
  have HI := hideQ hI
  clear h ho hw hI
  have HN := hideQ (fun k => show nameOk s l i sn k ↔ (k < 11 ∧ nm k = (tAt s l i).data.toList ∧ sn k = false) from Iff.rfl)
  generalize nameOk s l i sn = NO at *
  rw [tAt_mk (tAt s l i)] at HP
  generalize (tAt s l i).data.toList = tt at *
  generalize kAt l i = kk at *
  go_enter Tryz.func138, Tryz.ntmps138
  go_wp2_with fail
  refine (unhideQ HP).mono ?_
  rintro e w1 ⟨rfl, hb1⟩
  have H1 := hideQ ((unhideQ HR).below hb1)
  have HI1 := hideQ (show Items w1 from fun k hk => ⟨(World.cell?_of_block (hb1.block _ hbI)).trans (unhideQ HI k hk).1, (World.cell?_of_block (hb1.block _ hbI)).trans (unhideQ HI k hk).2⟩)
  have HB := hideQ hb1
  clear hb1
  go_wp2_with fail
  refine (itemNamed_c tt _ (unhideQ HI1)).mono ?_
  rintro e w2 ⟨hw2, hor⟩
  subst w2
  rcases hor with ⟨k, hk, hnk, rfl⟩ | ⟨hno, rfl⟩
  · have cs := (unhideQ H1).seen k hk
    cases hsn : sn k with
    | true =>
      rw [hsn] at cs
      have hno : ∀ k', ¬ NO k' := fun k' hk' => by
        obtain ⟨a1, a2, a3⟩ := (unhideQ HN k').1 hk'
        have : k' = k := nm_inj a1 hk (a2.trans hnk.symm)
        subst this
        rw [hsn] at a3; cases a3
      have HNO := hideQ hno
      clear hno
      go_wp2
      go_ret
      exact Or.inr ⟨unhideQ HNO, rfl, gb_of_below (unhideQ HB), unhideQ H1⟩
    | false =>
      rw [hsn] at cs
      have hyes : NO k := (unhideQ HN k).2 ⟨hk, hnk, hsn⟩
      have H2 := hideQ ((unhideQ H1).set_seen k hk)
      have c2 := (unhideQ H2).nxt
      have cf := (unhideQ H1).frz (3 + k)
      have cf2 := (unhideQ H1).frz 2
      go_wp2
      go_ret
      exact Or.inl ⟨k, hyes, rfl, gb_trans (gb_trans (gb_of_below (unhideQ HB)) (gb_set _ _ _ _)) (gb_set _ _ _ _), (unhideQ H2).set_next (i + 1)⟩
  · have hno' : ∀ k', ¬ NO k' := fun k' hk' => hno k' ((unhideQ HN k').1 hk').1 ((unhideQ HN k').1 hk').2.1
    have HNO := hideQ hno'
    clear hno hno'
    go_wp2
    go_ret
    exact Or.inr ⟨unhideQ HNO, rfl, gb_of_below (unhideQ HB), unhideQ H1⟩
end Go.Proofs.YtobempobmokkcaaGreatDoor
