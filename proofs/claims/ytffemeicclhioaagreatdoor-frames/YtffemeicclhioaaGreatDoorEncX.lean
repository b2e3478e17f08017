/-
 Encodes: the reference's instruction by its contract. Own work of the verifier.
-/
import Derived.Test.YtffemeicclhioaaGreatDoorJ13
import Derived.WalkSmall
namespace Go.Proofs.YtffemeicclhioaaGreatDoor
open Go.RowKit

theorem LsB.gb {α : Type} {size : Nat} {w w' : World} {b : Nat} {v : Value} {ps : List (Array Value × α)} (h : LsB size w b v ps) (hw : w.grownBy w' (some b)) (hb : b < w.heap.size) : LsB size w' b v ps := by
 rcases h with h | ⟨sb, so, cap, h1, h2, h3⟩
 ·
  exact Or.inl h
 ·
  exact Or.inr ⟨sb, so, cap, h1, h2, fun i hi j x hx => (World.cell?_of_block (a := ⟨sb, so + i * size + j, none⟩) (hw.block sb (by omega) (by intro e; injection e with e; omega))).trans (h3 i hi j x hx)⟩
theorem Pn.blk {w w' : World} {b : Nat} {l : List UInt8} {bad : Bool} (h : Pn w b l bad) (e : w'.heap[b]? = w.heap[b]?) : Pn w' b l bad :=
 ⟨(World.cell?_of_block e).trans h.c0, (World.cell?_of_block e).trans h.c1, (World.frozen?_of_block (a := ⟨b, 0, none⟩) e).trans h.f0, (World.frozen?_of_block (a := ⟨b, 1, none⟩) e).trans h.f1⟩
theorem Pn.setBad {w : World} {b : Nat} {l : List UInt8} {bad : Bool} (h : Pn w b l bad) (c : Bool) : Pn (w.setCell ⟨b, 1, none⟩ (.bool c)) b l c :=
 ⟨(World.cell?_setCell_other _ _ _ _ (by simp)).trans h.c0, World.cell?_setCell_same _ _ _ h.c1, by rw [World.frozen?_setCell]; exact h.f0, by rw [World.frozen?_setCell]; exact h.f1⟩
theorem penAll_ge {α : Type} (one : α → Pr) (h : ∀ x, 1 ≤ (one x).1.length) : ∀ xs : List α, xs.length ≤ (penAll one xs).1.length
 | [] => Nat.le_refl _
 | x :: xs => by
  have h1 := h x
  have h2 := penAll_ge one h xs
  simp only [penAll, penSeq, List.length_append, List.length_cons]
  omega
theorem row_lt {w : World} {T : Nat} {o : Obj} (h : w.heap[T]? = some o) : T < w.heap.size := (Array.getElem?_eq_some_iff.1 h).1
theorem gb_setAt {w u : World} {b k j : Nat} {v : Value} (h : w.grownBy u (some b)) (hk : w.heap.size ≤ k ∨ k = b) : w.grownBy (u.setCell ⟨k, j, none⟩ v) (some b) :=
 ⟨h.os, h.tape, h.output, by simp; exact h.size, fun q hq hr => (heap_setCell_other u ⟨k, j, none⟩ q v (by show q ≠ k; rintro rfl; exact hk.elim (fun x => by omega) (fun x => hr (by rw [x])))).trans (h.block q hq hr)⟩
/-- Where the pen stands in an instruction: T1 holds it, T2 what is left of it, T2 + 1 the letters. -/
structure PI (w u : World) (b T1 T2 : Nat) (A1 A2 : Array Value) (s : ByteArray) (q : Nat) (l : List UInt8) (bad : Bool) : Prop where
 pn : Pn u b l bad
 r1 : u.heap[T1]? = some (.cells A1 76 (0, 0))
 r2 : u.heap[T2]? = some (.cells A2 76 (0, 0))
 it : u.heap[T2 + 1]? = some (.stringIter s q)
 gb : w.grownBy u (some b)
 h0 : b < w.heap.size
 h1 : w.heap.size ≤ T1
 h2 : T1 < T2
section
variable {w u : World} {b T1 T2 : Nat} {A1 A2 : Array Value} {s : ByteArray} {q : Nat} {l : List UInt8} {bad : Bool}
theorem PI.call (h : PI w u b T1 T2 A1 A2 s q l bad) {u' : World} {l' : List UInt8} {bad' : Bool} (hp : Pn u' b l' bad') (hg : u.grownBy u' (some b)) : PI w u' b T1 T2 A1 A2 s q l' bad' :=
 have a0 := h.h0
 have a1 := h.h1
 have a2 := h.h2
 ⟨hp, (hg.block T1 (row_lt h.r1) (by intro e; injection e with e; omega)).trans h.r1, (hg.block T2 (row_lt h.r2) (by intro e; injection e with e; omega)).trans h.r2, (hg.block (T2 + 1) (row_lt h.it) (by intro e; injection e with e; omega)).trans h.it, gb_tr h.gb hg, a0, a1, a2⟩
theorem PI.next (h : PI w u b T1 T2 A1 A2 s q l bad) (q' : Nat) : PI w (u.iterAt (T2 + 1) s q') b T1 T2 A1 A2 s q' l bad :=
 have a0 := h.h0
 have a1 := h.h1
 have a2 := h.h2
 ⟨h.pn.blk (Lib.iterAt_other _ _ _ _ _ (by omega)), (Lib.iterAt_other _ _ _ _ _ (by omega)).trans h.r1, (Lib.iterAt_other _ _ _ _ _ (by omega)).trans h.r2, Lib.iterAt_heap _ _ _ _ _ h.it, ⟨h.gb.os, h.gb.tape, h.gb.output, by rw [Lib.iterAt_size]; exact h.gb.size, fun k hk hr => (Lib.iterAt_other _ _ _ _ _ (by omega)).trans (h.gb.block k hk hr)⟩, a0, a1, a2⟩
theorem PI.zap (h : PI w u b T1 T2 A1 A2 s q l bad) (j : Nat) (v : Value) : PI w (u.setCell ⟨T2, j, none⟩ v) b T1 T2 A1 (A2.setIfInBounds j v) s q l bad :=
 have a0 := h.h0
 have a1 := h.h1
 have a2 := h.h2
 ⟨h.pn.blk (heap_setCell_other _ _ _ _ (by show b ≠ T2; omega)), (heap_setCell_other _ _ _ _ (by show T1 ≠ T2; omega)).trans h.r1, heap_setCell_same _ _ _ _ _ _ h.r2, (heap_setCell_other _ _ _ _ (by show T2 + 1 ≠ T2; omega)).trans h.it, gb_setAt h.gb (Or.inl (by omega)), a0, a1, a2⟩
theorem PI.setBad (h : PI w u b T1 T2 A1 A2 s q l bad) (c : Bool) : PI w (u.setCell ⟨b, 1, none⟩ (.bool c)) b T1 T2 A1 A2 s q l c :=
 have a0 := h.h0
 have a1 := h.h1
 have a2 := h.h2
 ⟨h.pn.setBad c, (heap_setCell_other _ _ _ _ (by show T1 ≠ b; omega)).trans h.r1, (heap_setCell_other _ _ _ _ (by show T2 ≠ b; omega)).trans h.r2, (heap_setCell_other _ _ _ _ (by show T2 + 1 ≠ b; omega)).trans h.it, gb_setAt h.gb (Or.inr rfl), a0, a1, a2⟩
theorem PI.cell1 (h : PI w u b T1 T2 A1 A2 s q l bad) (j : Nat) (x : Value) (hx : A1[j]? = some x) : u.cell? ⟨T1, j, none⟩ = some x := (Zab h.r1 j).trans hx
theorem PI.cell2 (h : PI w u b T1 T2 A1 A2 s q l bad) (j : Nat) (x : Value) (hx : A2[j]? = some x) : u.cell? ⟨T2, j, none⟩ = some x := (Zab h.r2 j).trans hx
theorem PI.fz2 (h : PI w u b T1 T2 A1 A2 s q l bad) (j : Nat) : u.frozen? ⟨T2, j, none⟩ = false := frozen_of_row _ _ _ _ _ h.r2
end
set_option maxHeartbeats 8000000 in
set_option maxRecDepth 100000 in
theorem pins_c (b : Nat) (l : List UInt8) (bad : Bool) (i : InsE) (av ov : Value) (w : World) (h : Pn w b l bad) (hl : l.length + (penIns i).1.length < 9223372036854775807) (hn : 0 ≤ i.n ∧ i.n < 18446744073709551616) (pa : List (Array Value × (Int × Int))) (hpa : pa.map (·.2) = i.args) (hpv : ∀ p ∈ pa, p.1 = #[.int .i64 p.2.1, .int .i64 p.2.2]) (hargs : LsB 2 w b av pa) (houts : RsB w b ov i.outs) :
 Calls Tryz.prog 36 #[.pointer (some ⟨b, 0, none⟩), .agg #[.int .i64 i.op, .int .i64 i.d, .int .i64 i.a, .int .i64 i.bb, .int .u64 i.n, .int .i64 i.f, av, ov]] w (PenE b l bad (penIns i) w) := by
 obtain ⟨ap, ac, hav⟩ := hargs.shape
 obtain ⟨op', oc, hov⟩ := houts.shape
 have hpl : pa.length = i.args.length := by rw [← hpa]; simp
 rw [hpl] at hav
 subst hav hov
 have hbl := h.lt
 have HA := Zam hargs
 have HO := Zam houts
 have HPA := Zam hpa
 have HPV := Zam hpv
 have HL := Zam hl
 have HNN := Zam hn
 have HN := Zam (fun X : Obj => pnum_c b l bad i.op 1 18 (w.alloc X) (h.alloc X) (by have := hl; simp [penIns, penSeq, penNum] at this; omega))
 clear hargs houts hpa hpv hpl h hl hn
 obtain ⟨A1, hA1⟩ : ∃ A1 : Array Value, A1 = #[.int .i64 i.op, .int .i64 i.d, .int .i64 i.a, .int .i64 i.bb, .int .u64 i.n, .int .i64 i.f, .slice ap i.args.length ac, .slice op' i.outs.length oc] := ⟨_, rfl⟩
 go_enter Tryz.func36, Tryz.ntmps36
 go_wp2_with fail
 refine (Zaf HN _).mono ?_
 rintro e w1 ⟨rfl, hp1, hg1⟩
 have hrow1 := (hg1.block w.heap.size (by simp) (by intro e; injection e with e; omega)).trans (heap_alloc_new w _)
 have c0 : w1.cell? ⟨w.heap.size, 0, none⟩ = some (.int .i64 i.op) := (Zab hrow1 0).trans rfl
 have hT1 : w.heap.size < w1.heap.size := row_lt hrow1
 have HROW1 := Zam hrow1
 have HG1 := Zam (gb_tr (gb_alloc w _ (some b)) hg1)
 have HP1 := Zam hp1
 clear hrow1 hg1 hp1 HN
 go_wp2_with (refine wpList_load_row rfl 76 (.tmp 3) rfl w.heap.size rfl 76 _ (0, 0) _ (Zaf HROW1) Tryz.underlying76 rfl (Tryz.infInss.trans rfl) ?_)
 refine (shape_c i.op _).mono ?_
 rintro e wx ⟨rfl, hwx⟩
 subst wx
 obtain ⟨s, hs⟩ : ∃ s, s = shapeB i.op := ⟨_, rfl⟩
 rw [← hs]
 obtain ⟨ls, hls⟩ : ∃ ls, ls = s.data.toList := ⟨_, rfl⟩
 have hsl : ls.length = s.size := by rw [hls]; exact Array.length_toList
 obtain ⟨l1, hl1⟩ : ∃ x, x = l ++ [byteOf i.op] := ⟨_, rfl⟩
 obtain ⟨B0, hB0⟩ : ∃ x, x = (bad || !decide (1 ≤ i.op ∧ i.op ≤ 18)) := ⟨_, rfl⟩
 rw [← hl1, ← hB0] at HP1
 have HL1 := Zam hl1
 have HB0 := Zam hB0
 clear hl1 hB0
 have hpi0 : PI w ((w1.alloc (.cells (restA i (.slice ap i.args.length ac) (.slice op' i.outs.length oc) []) 76 (0, 0))).alloc (.stringIter s 0)) b w.heap.size w1.heap.size A1 (restA i (.slice ap i.args.length ac) (.slice op' i.outs.length oc) []) s 0 l1 B0 := by
  refine ⟨((Zaf HP1).alloc _).alloc _, ?_, heap_alloc2_old _ _ _, heap_alloc2_new _ _ _, gb_tr (Zaf HG1) (gb_tr (gb_alloc _ _ _) (gb_alloc _ _ _)), hbl, Nat.le_refl _, hT1⟩
  rw [hA1]
  exact ((gb_alloc _ _ none).block _ (by simp; omega) (by simp)).trans (((gb_alloc _ _ none).block _ hT1 (by simp)).trans (Zaf HROW1))
 have HPI0 := Zam hpi0
 have HS := Zam hs
 have HLS := Zam hls
 have HA1 := Zam hA1
 have HLEN := Zam hsl
 clear hpi0 hs hls HP1 HG1 HROW1 c0 hA1 hsl
 go_wp2_with fail
 go_loopw [] (fun wr => ∃ q : Nat, q ≤ s.size ∧ PI w wr b w.heap.size w1.heap.size A1 (restA i (.slice ap i.args.length ac) (.slice op' i.outs.length oc) (ls.take q)) s q (l1 ++ (penAll (penPart i) (ls.take q)).1) (B0 || (penAll (penPart i) (ls.take q)).2)) (fun wr => s.size - wr.iterPos (w1.heap.size + 1))
 case atStart => 
  refine ⟨0, by omega, ?_⟩
  have hx := Zaf HPI0
  simp only [List.take_zero, penAll, List.append_nil, Bool.or_false]
  exact hx
 case round =>
  obtain ⟨q, hq, hpi⟩ := hrel
  have hit := hpi.it
  have hm := iterPos_of hit
  clear HPI0
  by_cases hp : q < s.size
  ·
   have hxl : q < ls.length := by rw [Zaf HLEN]; exact hp
   have hmem : ls[q] ∈ Zao i.op := by
    have h2 : ls = Zao i.op := by rw [Zaf HLS, Zaf HS]; rfl
    exact (show ∀ x, x ∈ ls → x ∈ Zao i.op from fun x hx => h2 ▸ hx) _ (List.getElem_mem hxl)
   have hget : s[q]'hp = ls[q] := by
    have := Zaf HLS
    subst this
    rfl
   have htk := take_mid hxl
   have hlet := shape_letters i.op _ hmem
   generalize ls[q] = c at hget htk hlet
   have hsn : penAll (penPart i) (ls.take (q + 1)) = penSeq (penAll (penPart i) (ls.take q)) (penPart i c) := by rw [htk, penAll_snoc]
   have hbound : l1.length + (penAll (penPart i) (ls.take q)).1.length + (penPart i c).1.length < 9223372036854775807 := by
    have h1 := penAll_take_len (penPart i) ls (q + 1)
    rw [hsn] at h1
    have h2 := Zaf HL
    have h3 : (penIns i).1.length = 1 + (penAll (penPart i) ls).1.length := by
     rw [Zaf HLS, Zaf HS]
     simp [penIns, penSeq, penNum, Zao]
     omega
    simp only [penSeq, List.length_append] at h1
    rw [Zaf HL1]
    simp only [List.length_append, List.length_singleton]
    omega
   have HRS := Zam (show ∀ A : Array Value, restA i (.slice ap i.args.length ac) (.slice op' i.outs.length oc) (ls.take q ++ [c]) = A → restA i (.slice ap i.args.length ac) (.slice op' i.outs.length oc) (ls.take (q + 1)) = A from fun A h => by rw [htk]; exact h)
   have hnx : ∀ ty, (Instr.next (.pointer (some ⟨w1.heap.size + 1, 0, none⟩)) true ty).run Tryz.prog wr = .ok (.tuple #[.bool true, .int .i64 q, .int .i32 c.toNat]) (wr.iterAt (w1.heap.size + 1) s (q + 1)) := fun ty => by
    have hc128 : c.toNat < 128 := by rcases hlet with rfl | rfl | rfl | rfl | rfl | rfl | rfl | rfl | rfl <;> decide
    have := Lib.run_next_ascii_at (P := Tryz.prog) wr (w1.heap.size + 1) s q ty hit hp (by rw [hget]; exact hc128)
    rw [hget] at this
    exact this
   have hpi := hpi.next (q + 1)
   obtain ⟨PA, hPA⟩ : ∃ x, x = penAll (penPart i) (ls.take q) := ⟨_, rfl⟩
   rw [← hPA] at hpi hbound
   rw [← hPA] at hsn
   obtain ⟨u, hu⟩ : ∃ u, u = wr.iterAt (w1.heap.size + 1) s (q + 1) := ⟨_, rfl⟩
   rw [← hu] at hnx hpi
   have HSN := Zam hsn
   have HPI := Zam hpi
   have HBND := Zam hbound
   clear hPA hu hsn hbound htk hget hmem hit
   generalize (ls.take q) = lq at HPI HRS
   rcases hlet with rfl | rfl | rfl | rfl | rfl | rfl | rfl | rfl | rfl
   ·
    -- ?
    go_wp2
    go_roundw
    case rel =>
     refine ⟨q + 1, hp, ?_⟩
     rw [Zaf HRS _ (rest_63 i _ _ lq), Zaf HSN, part_63]
     have hz := Zaf HPI
     simp only [penSeq, List.append_nil, Bool.or_false]
     exact hz
    case measure => rw [hm, iterPos_of (Zaf HPI).it]; omega
   ·
    -- D
    have c1 := (Zaf HPI).cell1 1 (.int .i64 i.d) (by rw [Zaf HA1]; rfl)
    have HC := Zam (pnum_c b (l1 ++ PA.1) (B0 || PA.2) i.d 0 255 u (Zaf HPI).pn (by have := Zaf HBND; simp only [part_68, penNum, List.length_append, List.length_singleton] at this ⊢; omega))
    go_wp2_with fail
    refine (Zaf HC).mono ?_
    rintro e w2 ⟨rfl, hp2, hg2⟩
    have hpi2 := (Zaf HPI).call hp2 hg2
    have k2 := hpi2.cell2 1 _ rfl
    have f2 := hpi2.fz2 1
    have HZ := Zam (hpi2.zap 1 (.int .i64 0))
    clear hp2 hg2 hpi2 HC c1
    go_wp2
    go_roundw
    case rel =>
     refine ⟨q + 1, hp, ?_⟩
     rw [Zaf HRS _ (rest_68 i _ _ lq), Zaf HSN, part_68]
     have hz := Zaf HZ
     simp only [penSeq, penNum, ← List.append_assoc, ← Bool.or_assoc]
     exact hz
    case measure => rw [hm, iterPos_of (Zaf HZ).it]; omega
   ·
    -- A
    have c1 := (Zaf HPI).cell1 2 (.int .i64 i.a) (by rw [Zaf HA1]; rfl)
    have HC := Zam (pnum_c b (l1 ++ PA.1) (B0 || PA.2) i.a 0 255 u (Zaf HPI).pn (by have := Zaf HBND; simp only [part_65, penNum, List.length_append, List.length_singleton] at this ⊢; omega))
    go_wp2_with fail
    refine (Zaf HC).mono ?_
    rintro e w2 ⟨rfl, hp2, hg2⟩
    have hpi2 := (Zaf HPI).call hp2 hg2
    have k2 := hpi2.cell2 2 _ rfl
    have f2 := hpi2.fz2 2
    have HZ := Zam (hpi2.zap 2 (.int .i64 0))
    clear hp2 hg2 hpi2 HC c1
    go_wp2
    go_roundw
    case rel =>
     refine ⟨q + 1, hp, ?_⟩
     rw [Zaf HRS _ (rest_65 i _ _ lq), Zaf HSN, part_65]
     have hz := Zaf HZ
     simp only [penSeq, penNum, ← List.append_assoc, ← Bool.or_assoc]
     exact hz
    case measure => rw [hm, iterPos_of (Zaf HZ).it]; omega
   ·
    -- B
    have c1 := (Zaf HPI).cell1 3 (.int .i64 i.bb) (by rw [Zaf HA1]; rfl)
    have HC := Zam (pnum_c b (l1 ++ PA.1) (B0 || PA.2) i.bb 0 255 u (Zaf HPI).pn (by have := Zaf HBND; simp only [part_66, penNum, List.length_append, List.length_singleton] at this ⊢; omega))
    go_wp2_with fail
    refine (Zaf HC).mono ?_
    rintro e w2 ⟨rfl, hp2, hg2⟩
    have hpi2 := (Zaf HPI).call hp2 hg2
    have k2 := hpi2.cell2 3 _ rfl
    have f2 := hpi2.fz2 3
    have HZ := Zam (hpi2.zap 3 (.int .i64 0))
    clear hp2 hg2 hpi2 HC c1
    go_wp2
    go_roundw
    case rel =>
     refine ⟨q + 1, hp, ?_⟩
     rw [Zaf HRS _ (rest_66 i _ _ lq), Zaf HSN, part_66]
     have hz := Zaf HZ
     simp only [penSeq, penNum, ← List.append_assoc, ← Bool.or_assoc]
     exact hz
    case measure => rw [hm, iterPos_of (Zaf HZ).it]; omega
   ·
    -- n
    obtain ⟨BB, hBB⟩ : ∃ x, x = (B0 || PA.2) := ⟨_, rfl⟩
    rw [← hBB] at HPI
    have HBB := Zam hBB
    clear hBB
    obtain ⟨hn0, hn1⟩ := Zaf HNN
    have c4 := (Zaf HPI).cell1 4 (.int .u64 i.n) (by rw [Zaf HA1]; rfl)
    have p1 := (Zaf HPI).pn.c1
    have p1f := (Zaf HPI).pn.f1
    have e5 := fun X => ((Zaf HPI).setBad X).cell1 4 (.int .u64 i.n) (by rw [Zaf HA1]; rfl)
    cases BB with
    | true =>
     have e5' := e5 true
     clear e5
     have HC := Zam (pnum_c b (l1 ++ PA.1) true (i.n % 256) 0 255 (u.setCell ⟨b, 1, none⟩ (.bool true)) ((Zaf HPI).setBad true).pn (by have := Zaf HBND; simp only [part_110, List.length_append, List.length_singleton] at this ⊢; omega))
     have HEQ := Zam (show (true || !decide (0 ≤ i.n % 256 ∧ i.n % 256 ≤ 255)) = (true || decide (255 < i.n)) by
      have e1 : (0 ≤ i.n % 256 ∧ i.n % 256 ≤ 255) := by omega
      simp [e1])
     go_wp2_with fail
     refine (Zaf HC).mono ?_
     rintro e w2 ⟨rfl, hp2, hg2⟩
     have hpi2 := ((Zaf HPI).setBad true).call hp2 hg2
     have k2 := hpi2.cell2 4 _ rfl
     have f2 := hpi2.fz2 4
     have HZ := Zam (hpi2.zap 4 (.int .u64 0))
     clear hp2 hg2 hpi2 HC c4 p1 p1f e5' hn0 hn1
     go_wp2
     go_roundw
     case rel =>
      refine ⟨q + 1, hp, ?_⟩
      rw [Zaf HRS _ (rest_110 i _ _ lq), Zaf HSN, part_110]
      have hz := Zaf HZ
      rw [Zaf HEQ, show byteOf (i.n % 256) = byteOf i.n by unfold byteOf; rw [Int.emod_emod_of_dvd _ (by decide)]] at hz
      simp only [penSeq, ← List.append_assoc, ← Bool.or_assoc]
      rw [← Zaf HBB]
      exact hz
     case measure => rw [hm, iterPos_of (Zaf HZ).it]; omega
    | false =>
     by_cases h255 : 255 < i.n
     ·
      have e5' := e5 true
      clear e5
      have HC := Zam (pnum_c b (l1 ++ PA.1) true (i.n % 256) 0 255 (u.setCell ⟨b, 1, none⟩ (.bool true)) ((Zaf HPI).setBad true).pn (by have := Zaf HBND; simp only [part_110, List.length_append, List.length_singleton] at this ⊢; omega))
      have HEQ := Zam (show (true || !decide (0 ≤ i.n % 256 ∧ i.n % 256 ≤ 255)) = (false || decide (255 < i.n)) by
       have e1 : (0 ≤ i.n % 256 ∧ i.n % 256 ≤ 255) := by omega
       simp [e1, h255])
      go_wp2_with fail
      refine (Zaf HC).mono ?_
      rintro e w2 ⟨rfl, hp2, hg2⟩
      have hpi2 := ((Zaf HPI).setBad true).call hp2 hg2
      have k2 := hpi2.cell2 4 _ rfl
      have f2 := hpi2.fz2 4
      have HZ := Zam (hpi2.zap 4 (.int .u64 0))
      clear hp2 hg2 hpi2 HC c4 p1 p1f e5' hn0 hn1
      go_wp2
      go_roundw
      case rel =>
       refine ⟨q + 1, hp, ?_⟩
       rw [Zaf HRS _ (rest_110 i _ _ lq), Zaf HSN, part_110]
       have hz := Zaf HZ
       rw [Zaf HEQ, show byteOf (i.n % 256) = byteOf i.n by unfold byteOf; rw [Int.emod_emod_of_dvd _ (by decide)]] at hz
       simp only [penSeq, ← List.append_assoc, ← Bool.or_assoc]
       rw [← Zaf HBB]
       exact hz
      case measure => rw [hm, iterPos_of (Zaf HZ).it]; omega
     ·
      have e5' := e5 false
      clear e5
      have HC := Zam (pnum_c b (l1 ++ PA.1) false (i.n % 256) 0 255 (u.setCell ⟨b, 1, none⟩ (.bool false)) ((Zaf HPI).setBad false).pn (by have := Zaf HBND; simp only [part_110, List.length_append, List.length_singleton] at this ⊢; omega))
      have HEQ := Zam (show (false || !decide (0 ≤ i.n % 256 ∧ i.n % 256 ≤ 255)) = (false || decide (255 < i.n)) by
       have e1 : (0 ≤ i.n % 256 ∧ i.n % 256 ≤ 255) := by omega
       simp [e1, h255])
      go_wp2_with fail
      refine (Zaf HC).mono ?_
      rintro e w2 ⟨rfl, hp2, hg2⟩
      have hpi2 := ((Zaf HPI).setBad false).call hp2 hg2
      have k2 := hpi2.cell2 4 _ rfl
      have f2 := hpi2.fz2 4
      have HZ := Zam (hpi2.zap 4 (.int .u64 0))
      clear hp2 hg2 hpi2 HC c4 p1 p1f e5' hn0 hn1
      go_wp2
      go_roundw
      case rel =>
       refine ⟨q + 1, hp, ?_⟩
       rw [Zaf HRS _ (rest_110 i _ _ lq), Zaf HSN, part_110]
       have hz := Zaf HZ
       rw [Zaf HEQ, show byteOf (i.n % 256) = byteOf i.n by unfold byteOf; rw [Int.emod_emod_of_dvd _ (by decide)]] at hz
       simp only [penSeq, ← List.append_assoc, ← Bool.or_assoc]
       rw [← Zaf HBB]
       exact hz
      case measure => rw [hm, iterPos_of (Zaf HZ).it]; omega
   ·
    -- N
    obtain ⟨BB, hBB⟩ : ∃ x, x = (B0 || PA.2) := ⟨_, rfl⟩
    rw [← hBB] at HPI
    have HBB := Zam hBB
    clear hBB
    have hb8 : l1.length + PA.1.length + 8 < 9223372036854775807 := by have := Zaf HBND; simp only [part_78, opB_len] at this; exact this
    go_wp2_with fail
    go_loopw [7] (fun j w' => ∃ (z : Int) (ds : List UInt8), j = .int .i64 z ∧ -1 ≤ z ∧ z ≤ 7 ∧ ds ++ opB i.n (z + 1).toNat = opB i.n 8 ∧ PI w w' b w.heap.size w1.heap.size A1 (restA i (.slice ap i.args.length ac) (.slice op' i.outs.length oc) lq) s (q + 1) (l1 ++ PA.1 ++ ds) BB) (fun j _ => (intOf j + 1).toNat)
    case atStart => exact ⟨7, [], rfl, by omega, by omega, rfl, by simpa using Zaf HPI⟩
    case round =>
     obtain ⟨z, ds, rfl, hz, hz7, hds, hpi3⟩ := hrel
     have hdl : ds.length ≤ 8 := by
      have := congrArg List.length hds
      simp [opB_len] at this
      omega
     by_cases hz0' : 0 ≤ z
     ·
      have hds2 : (ds ++ [byteOf (i.n / 2 ^ (8 * z.toNat))]) ++ opB i.n z.toNat = opB i.n 8 := by
       rw [← hds, show (z + 1).toNat = z.toNat + 1 by omega]
       simp [opB]
      have c4 := hpi3.cell1 4 (.int .u64 i.n) (by rw [Zaf HA1]; rfl)
      obtain ⟨hn0, hn1⟩ := Zaf HNN
      have HDS := Zam hds2
      have HP3 := Zam hpi3
      clear hds hds2 hpi3
      have hzs : z = 0 ∨ z = 1 ∨ z = 2 ∨ z = 3 ∨ z = 4 ∨ z = 5 ∨ z = 6 ∨ z = 7 := by omega
      clear hz hz7 hz0'
      rcases hzs with rfl | rfl | rfl | rfl | rfl | rfl | rfl | rfl
      ·
       have HC := Zam (pnum_c b (l1 ++ PA.1 ++ ds) BB (i.n % 256) 0 255 wr (Zaf HP3).pn (by simp only [List.length_append]; omega))
       have HEB := Zam (show byteOf (i.n % 256) = byteOf (i.n / 2 ^ (8 * Int.toNat 0)) by
        rw [show i.n / 2 ^ (8 * Int.toNat 0) = i.n by simp]
        unfold byteOf
        rw [Int.emod_emod_of_dvd _ (by decide)])
       have HEQ := Zam (show (BB || !decide (0 ≤ i.n % 256 ∧ i.n % 256 ≤ 255)) = BB by
        have e1 : (0 ≤ i.n % 256 ∧ i.n % 256 ≤ 255) := by omega
        simp [e1])
       go_wp2_with fail
       refine (Zaf HC).mono ?_
       rintro e w2 ⟨rfl, hp2, hg2⟩
       have HP4 := Zam ((Zaf HP3).call hp2 hg2)
       clear hp2 hg2 HC c4 hn0 hn1
       go_wp2
       go_roundw
       case rel =>
        refine ⟨-1, ds ++ [byteOf (i.n / 2 ^ (8 * Int.toNat 0))], by first | rfl | go_num, by omega, by omega, Zaf HDS, ?_⟩
        have hx := Zaf HP4
        rw [Zaf HEQ, Zaf HEB] at hx
        rw [← List.append_assoc]
        exact hx
       case measure => simp [intOf]
      ·
       have HC := Zam (pnum_c b (l1 ++ PA.1 ++ ds) BB (i.n / 256 % 256) 0 255 wr (Zaf HP3).pn (by simp only [List.length_append]; omega))
       have HEB := Zam (show byteOf (i.n / 256 % 256) = byteOf (i.n / 2 ^ (8 * Int.toNat 1)) by
        rw [show i.n / 2 ^ (8 * Int.toNat 1) = i.n / 256 by simp]
        unfold byteOf
        rw [Int.emod_emod_of_dvd _ (by decide)])
       have HEQ := Zam (show (BB || !decide (0 ≤ i.n / 256 % 256 ∧ i.n / 256 % 256 ≤ 255)) = BB by
        have e1 : (0 ≤ i.n / 256 % 256 ∧ i.n / 256 % 256 ≤ 255) := by omega
        simp [e1])
       go_wp2_with fail
       refine (Zaf HC).mono ?_
       rintro e w2 ⟨rfl, hp2, hg2⟩
       have HP4 := Zam ((Zaf HP3).call hp2 hg2)
       clear hp2 hg2 HC c4 hn0 hn1
       go_wp2
       go_roundw
       case rel =>
        refine ⟨0, ds ++ [byteOf (i.n / 2 ^ (8 * Int.toNat 1))], by first | rfl | go_num, by omega, by omega, Zaf HDS, ?_⟩
        have hx := Zaf HP4
        rw [Zaf HEQ, Zaf HEB] at hx
        rw [← List.append_assoc]
        exact hx
       case measure => simp [intOf]
      ·
       have HC := Zam (pnum_c b (l1 ++ PA.1 ++ ds) BB (i.n / 65536 % 256) 0 255 wr (Zaf HP3).pn (by simp only [List.length_append]; omega))
       have HEB := Zam (show byteOf (i.n / 65536 % 256) = byteOf (i.n / 2 ^ (8 * Int.toNat 2)) by
        rw [show i.n / 2 ^ (8 * Int.toNat 2) = i.n / 65536 by simp]
        unfold byteOf
        rw [Int.emod_emod_of_dvd _ (by decide)])
       have HEQ := Zam (show (BB || !decide (0 ≤ i.n / 65536 % 256 ∧ i.n / 65536 % 256 ≤ 255)) = BB by
        have e1 : (0 ≤ i.n / 65536 % 256 ∧ i.n / 65536 % 256 ≤ 255) := by omega
        simp [e1])
       go_wp2_with fail
       refine (Zaf HC).mono ?_
       rintro e w2 ⟨rfl, hp2, hg2⟩
       have HP4 := Zam ((Zaf HP3).call hp2 hg2)
       clear hp2 hg2 HC c4 hn0 hn1
       go_wp2
       go_roundw
       case rel =>
        refine ⟨1, ds ++ [byteOf (i.n / 2 ^ (8 * Int.toNat 2))], by first | rfl | go_num, by omega, by omega, Zaf HDS, ?_⟩
        have hx := Zaf HP4
        rw [Zaf HEQ, Zaf HEB] at hx
        rw [← List.append_assoc]
        exact hx
       case measure => simp [intOf]
      ·
       have HC := Zam (pnum_c b (l1 ++ PA.1 ++ ds) BB (i.n / 16777216 % 256) 0 255 wr (Zaf HP3).pn (by simp only [List.length_append]; omega))
       have HEB := Zam (show byteOf (i.n / 16777216 % 256) = byteOf (i.n / 2 ^ (8 * Int.toNat 3)) by
        rw [show i.n / 2 ^ (8 * Int.toNat 3) = i.n / 16777216 by simp]
        unfold byteOf
        rw [Int.emod_emod_of_dvd _ (by decide)])
       have HEQ := Zam (show (BB || !decide (0 ≤ i.n / 16777216 % 256 ∧ i.n / 16777216 % 256 ≤ 255)) = BB by
        have e1 : (0 ≤ i.n / 16777216 % 256 ∧ i.n / 16777216 % 256 ≤ 255) := by omega
        simp [e1])
       go_wp2_with fail
       refine (Zaf HC).mono ?_
       rintro e w2 ⟨rfl, hp2, hg2⟩
       have HP4 := Zam ((Zaf HP3).call hp2 hg2)
       clear hp2 hg2 HC c4 hn0 hn1
       go_wp2
       go_roundw
       case rel =>
        refine ⟨2, ds ++ [byteOf (i.n / 2 ^ (8 * Int.toNat 3))], by first | rfl | go_num, by omega, by omega, Zaf HDS, ?_⟩
        have hx := Zaf HP4
        rw [Zaf HEQ, Zaf HEB] at hx
        rw [← List.append_assoc]
        exact hx
       case measure => simp [intOf]
      ·
       have HC := Zam (pnum_c b (l1 ++ PA.1 ++ ds) BB (i.n / 4294967296 % 256) 0 255 wr (Zaf HP3).pn (by simp only [List.length_append]; omega))
       have HEB := Zam (show byteOf (i.n / 4294967296 % 256) = byteOf (i.n / 2 ^ (8 * Int.toNat 4)) by
        rw [show i.n / 2 ^ (8 * Int.toNat 4) = i.n / 4294967296 by simp]
        unfold byteOf
        rw [Int.emod_emod_of_dvd _ (by decide)])
       have HEQ := Zam (show (BB || !decide (0 ≤ i.n / 4294967296 % 256 ∧ i.n / 4294967296 % 256 ≤ 255)) = BB by
        have e1 : (0 ≤ i.n / 4294967296 % 256 ∧ i.n / 4294967296 % 256 ≤ 255) := by omega
        simp [e1])
       go_wp2_with fail
       refine (Zaf HC).mono ?_
       rintro e w2 ⟨rfl, hp2, hg2⟩
       have HP4 := Zam ((Zaf HP3).call hp2 hg2)
       clear hp2 hg2 HC c4 hn0 hn1
       go_wp2
       go_roundw
       case rel =>
        refine ⟨3, ds ++ [byteOf (i.n / 2 ^ (8 * Int.toNat 4))], by first | rfl | go_num, by omega, by omega, Zaf HDS, ?_⟩
        have hx := Zaf HP4
        rw [Zaf HEQ, Zaf HEB] at hx
        rw [← List.append_assoc]
        exact hx
       case measure => simp [intOf]
      ·
       have HC := Zam (pnum_c b (l1 ++ PA.1 ++ ds) BB (i.n / 1099511627776 % 256) 0 255 wr (Zaf HP3).pn (by simp only [List.length_append]; omega))
       have HEB := Zam (show byteOf (i.n / 1099511627776 % 256) = byteOf (i.n / 2 ^ (8 * Int.toNat 5)) by
        rw [show i.n / 2 ^ (8 * Int.toNat 5) = i.n / 1099511627776 by simp]
        unfold byteOf
        rw [Int.emod_emod_of_dvd _ (by decide)])
       have HEQ := Zam (show (BB || !decide (0 ≤ i.n / 1099511627776 % 256 ∧ i.n / 1099511627776 % 256 ≤ 255)) = BB by
        have e1 : (0 ≤ i.n / 1099511627776 % 256 ∧ i.n / 1099511627776 % 256 ≤ 255) := by omega
        simp [e1])
       go_wp2_with fail
       refine (Zaf HC).mono ?_
       rintro e w2 ⟨rfl, hp2, hg2⟩
       have HP4 := Zam ((Zaf HP3).call hp2 hg2)
       clear hp2 hg2 HC c4 hn0 hn1
       go_wp2
       go_roundw
       case rel =>
        refine ⟨4, ds ++ [byteOf (i.n / 2 ^ (8 * Int.toNat 5))], by first | rfl | go_num, by omega, by omega, Zaf HDS, ?_⟩
        have hx := Zaf HP4
        rw [Zaf HEQ, Zaf HEB] at hx
        rw [← List.append_assoc]
        exact hx
       case measure => simp [intOf]
      ·
       have HC := Zam (pnum_c b (l1 ++ PA.1 ++ ds) BB (i.n / 281474976710656 % 256) 0 255 wr (Zaf HP3).pn (by simp only [List.length_append]; omega))
       have HEB := Zam (show byteOf (i.n / 281474976710656 % 256) = byteOf (i.n / 2 ^ (8 * Int.toNat 6)) by
        rw [show i.n / 2 ^ (8 * Int.toNat 6) = i.n / 281474976710656 by simp]
        unfold byteOf
        rw [Int.emod_emod_of_dvd _ (by decide)])
       have HEQ := Zam (show (BB || !decide (0 ≤ i.n / 281474976710656 % 256 ∧ i.n / 281474976710656 % 256 ≤ 255)) = BB by
        have e1 : (0 ≤ i.n / 281474976710656 % 256 ∧ i.n / 281474976710656 % 256 ≤ 255) := by omega
        simp [e1])
       go_wp2_with fail
       refine (Zaf HC).mono ?_
       rintro e w2 ⟨rfl, hp2, hg2⟩
       have HP4 := Zam ((Zaf HP3).call hp2 hg2)
       clear hp2 hg2 HC c4 hn0 hn1
       go_wp2
       go_roundw
       case rel =>
        refine ⟨5, ds ++ [byteOf (i.n / 2 ^ (8 * Int.toNat 6))], by first | rfl | go_num, by omega, by omega, Zaf HDS, ?_⟩
        have hx := Zaf HP4
        rw [Zaf HEQ, Zaf HEB] at hx
        rw [← List.append_assoc]
        exact hx
       case measure => simp [intOf]
      ·
       have HC := Zam (pnum_c b (l1 ++ PA.1 ++ ds) BB (i.n / 72057594037927936 % 256) 0 255 wr (Zaf HP3).pn (by simp only [List.length_append]; omega))
       have HEB := Zam (show byteOf (i.n / 72057594037927936 % 256) = byteOf (i.n / 2 ^ (8 * Int.toNat 7)) by
        rw [show i.n / 2 ^ (8 * Int.toNat 7) = i.n / 72057594037927936 by simp]
        unfold byteOf
        rw [Int.emod_emod_of_dvd _ (by decide)])
       have HEQ := Zam (show (BB || !decide (0 ≤ i.n / 72057594037927936 % 256 ∧ i.n / 72057594037927936 % 256 ≤ 255)) = BB by
        have e1 : (0 ≤ i.n / 72057594037927936 % 256 ∧ i.n / 72057594037927936 % 256 ≤ 255) := by omega
        simp [e1])
       go_wp2_with fail
       refine (Zaf HC).mono ?_
       rintro e w2 ⟨rfl, hp2, hg2⟩
       have HP4 := Zam ((Zaf HP3).call hp2 hg2)
       clear hp2 hg2 HC c4 hn0 hn1
       go_wp2
       go_roundw
       case rel =>
        refine ⟨6, ds ++ [byteOf (i.n / 2 ^ (8 * Int.toNat 7))], by first | rfl | go_num, by omega, by omega, Zaf HDS, ?_⟩
        have hx := Zaf HP4
        rw [Zaf HEQ, Zaf HEB] at hx
        rw [← List.append_assoc]
        exact hx
       case measure => simp [intOf]
     ·
      obtain rfl : z = -1 := by omega
      have hdd : ds = opB i.n 8 := by rw [← hds]; simp [opB]
      have k2 := hpi3.cell2 4 _ rfl
      have f2 := hpi3.fz2 4
      have HZ := Zam (hpi3.zap 4 (.int .u64 0))
      have HDD := Zam hdd
      clear hpi3 hdd hds
      go_wp2
      go_roundw
      case rel =>
       refine ⟨q + 1, hp, ?_⟩
       rw [Zaf HRS _ (rest_78 i _ _ lq), Zaf HSN, part_78]
       have hz := Zaf HZ
       rw [Zaf HDD] at hz
       simp only [penSeq, Bool.or_false, ← List.append_assoc]
       rw [← Zaf HBB]
       exact hz
      case measure => rw [hm, iterPos_of (Zaf HZ).it]; omega
   ·
    -- F
    have c1 := (Zaf HPI).cell1 5 (.int .i64 i.f) (by rw [Zaf HA1]; rfl)
    have HC := Zam (pnum_c b (l1 ++ PA.1) (B0 || PA.2) i.f 0 255 u (Zaf HPI).pn (by have := Zaf HBND; simp only [part_70, penNum, List.length_append, List.length_singleton] at this ⊢; omega))
    go_wp2_with fail
    refine (Zaf HC).mono ?_
    rintro e w2 ⟨rfl, hp2, hg2⟩
    have hpi2 := (Zaf HPI).call hp2 hg2
    have k2 := hpi2.cell2 5 _ rfl
    have f2 := hpi2.fz2 5
    have HZ := Zam (hpi2.zap 5 (.int .i64 0))
    clear hp2 hg2 hpi2 HC c1
    go_wp2
    go_roundw
    case rel =>
     refine ⟨q + 1, hp, ?_⟩
     rw [Zaf HRS _ (rest_70 i _ _ lq), Zaf HSN, part_70]
     have hz := Zaf HZ
     simp only [penSeq, penNum, ← List.append_assoc, ← Bool.or_assoc]
     exact hz
    case measure => rw [hm, iterPos_of (Zaf HZ).it]; omega
   ·
    -- R
    obtain ⟨BB, hBB⟩ : ∃ x, x = (B0 || PA.2) := ⟨_, rfl⟩
    rw [← hBB] at HPI
    have HBB := Zam hBB
    clear hBB
    obtain ⟨X, hX⟩ : ∃ X, X = penNum 0 8 i.args.length := ⟨_, rfl⟩
    have hpl : pa.length = i.args.length := by rw [← Zaf HPA]; simp
    have hbR : ∀ k, l1.length + PA.1.length + 1 + (penAll penArg ((pa.take k).map (·.2))).1.length ≤ 9223372036854775806 := by
     intro k
     have h0 := Zaf HBND
     have h1 := penAll_take_len penArg i.args k
     rw [part_82] at h0
     rw [List.map_take, Zaf HPA]
     simp only [penL, penSeq, penNum, List.length_append, List.length_singleton] at h0
     omega
    have hlast : pa.length < 9223372036854775807 := by
     have h1 := hbR pa.length
     have h2 := penAll_ge penArg (fun x => by simp [penArg, penSeq, penNum]) (pa.map (·.2))
     rw [List.take_length] at h1
     rw [List.length_map] at h2
     omega
    have HBR := Zam hbR
    have c6 := (Zaf HPI).cell1 6 (.slice ap i.args.length ac) (by rw [Zaf HA1]; rfl)
    have HC := Zam (pnum_c b (l1 ++ PA.1) BB i.args.length 0 8 u (Zaf HPI).pn (by have := hbR 0; simp only [List.length_append]; omega))
    clear hbR
    go_wp2_with fail
    refine (Zaf HC).mono ?_
    rintro e w2 ⟨rfl, hp2, hg2⟩
    have hpi2 := (Zaf HPI).call hp2 hg2
    rw [show l1 ++ PA.1 ++ [byteOf (i.args.length : Int)] = l1 ++ PA.1 ++ X.1 by rw [hX]; rfl, show (BB || !decide ((0 : Int) ≤ (i.args.length : Int) ∧ (i.args.length : Int) ≤ 8)) = (BB || X.2) by rw [hX]; rfl] at hpi2
    have c6 := hpi2.cell1 6 (.slice ap i.args.length ac) (by rw [Zaf HA1]; rfl)
    have HPI2 := Zam hpi2
    have HX := Zam hX
    have hXl : X.1.length = 1 := by rw [hX]; rfl
    clear hp2 hg2 hpi2 HC hX
    go_wp2_with fail
    go_loopw [101] (fun j w' => ∃ k : Nat, j = .int .i64 k ∧ k ≤ pa.length ∧ PI w w' b w.heap.size w1.heap.size A1 (restA i (.slice ap i.args.length ac) (.slice op' i.outs.length oc) lq) s (q + 1) (l1 ++ PA.1 ++ X.1 ++ (penAll penArg ((pa.take k).map (·.2))).1) (BB || X.2 || (penAll penArg ((pa.take k).map (·.2))).2)) (fun j _ => pa.length - (intOf j).toNat)
    case atStart => exact ⟨0, rfl, by omega, by simpa [penAll] using Zaf HPI2⟩
    case round =>
     obtain ⟨k, rfl, hk, hpi3⟩ := hrel
     clear HPI2 c6
     by_cases hlt : k < pa.length
     ·
      obtain ⟨sb, so, cap', hv, hsb, hc⟩ := ((Zaf HA).gb hpi3.gb hbl).resolve_left (fun c => by rw [c.1] at hlt; simp at hlt)
      injection hv with e1 e2 e3
      subst e1
      have hrg := hc k hlt
      have hmem : pa[k] ∈ pa := List.getElem_mem hlt
      have hval := Zaf HPV pa[k] hmem
      have HSN2 := Zam (show penAll penArg ((pa.take (k + 1)).map (·.2)) = penSeq (penAll penArg ((pa.take k).map (·.2))) (penArg pa[k].2) by rw [take_mid hlt, List.map_append]; exact penAll_snoc _ _ _)
      have hb1 := Zaf HBR (k + 1)
      rw [Zaf HSN2] at hb1
      generalize pa[k] = y at hrg hval HSN2 hb1
      obtain ⟨arr, y1, y2⟩ := y
      simp only at hval hrg HSN2 hb1
      subst hval
      obtain ⟨R, hR⟩ : ∃ R, R = penAll penArg ((pa.take k).map (·.2)) := ⟨_, rfl⟩
      rw [← hR] at hpi3 HSN2 hb1
      simp only [penSeq, penArg, penNum, List.length_append, List.length_singleton] at hb1
      have hrg0 : wr.cell? ⟨sb, so + k * 2, none⟩ = some (.int .i64 y1) := by have := hrg 0 (.int .i64 y1) rfl; simpa using this
      have hrg1 : wr.cell? ⟨sb, so + k * 2 + 1, none⟩ = some (.int .i64 y2) := hrg 1 (.int .i64 y2) rfl
      have HRG := Zam hrg
      have HCALL := Zam (fun X' : Obj => pnum_c b (l1 ++ PA.1 ++ X.1 ++ R.1) (BB || X.2 || R.2) y1 0 8 (wr.alloc X') (hpi3.pn.alloc X') (by simp only [List.length_append]; omega))
      have HP3 := Zam hpi3
      clear hc hR hpi3 e2 e3 hmem hrg hrg0 hrg1
      go_wp2_with (first | (refine wpList_load_mid rfl 116 (.tmp 103) rfl sb (so + k * 2) rfl [.int .i64 y1, .int .i64 y2] _ (Zaf HRG) Tryz.underlying116 rfl (Tryz.infArgs.trans rfl) ?_))
      refine (Zaf HCALL _).mono ?_
      rintro e w3 ⟨rfl, hp3, hg3⟩
      have hrow := (hg3.block wr.heap.size (by simp) (by intro e; injection e with e; have := (Zaf HP3).pn.lt; omega)).trans (heap_alloc_new wr _)
      have c9 : w3.cell? ⟨wr.heap.size, 1, none⟩ = some (.int .i64 y2) := (Zab hrow 1).trans rfl
      have HC2 := Zam (pnum_c b _ _ y2 0 255 w3 hp3 (by simp only [List.length_append, List.length_singleton]; omega))
      have HG3 := Zam (gb_tr (gb_alloc wr _ (some b)) hg3)
      clear hp3 hg3 hrow HCALL HRG
      go_wp2_with fail
      refine (Zaf HC2).mono ?_
      rintro e w4 ⟨rfl, hp4, hg4⟩
      have HP4 := Zam ((Zaf HP3).call hp4 (gb_tr (Zaf HG3) hg4))
      clear hp4 hg4 HC2 c9 HG3
      go_wp2
      go_roundw
      case rel =>
       refine ⟨k + 1, by go_num, by omega, ?_⟩
       rw [Zaf HSN2]
       have hz := Zaf HP4
       simp only [penSeq, penArg, penNum, ← List.append_assoc, ← Bool.or_assoc]
       exact hz
      case measure => simp [intOf]; omega
     ·
      obtain rfl : k = pa.length := by omega
      rw [List.take_length, Zaf HPA] at hpi3
      have k2 := hpi3.cell2 6 _ rfl
      have f2 := hpi3.fz2 6
      have HZ := Zam (hpi3.zap 6 (.slice none 0 0))
      clear hpi3
      go_wp2
      go_roundw
      case rel =>
       refine ⟨q + 1, hp, ?_⟩
       rw [Zaf HRS _ (rest_82 i _ _ lq), Zaf HSN, part_82]
       have hz := Zaf HZ
       unfold penL
       rw [← Zaf HX]
       simp only [penSeq, ← List.append_assoc, ← Bool.or_assoc]
       rw [← Zaf HBB]
       exact hz
      case measure => rw [hm, iterPos_of (Zaf HZ).it]; omega
   ·
    -- O
    obtain ⟨BB, hBB⟩ : ∃ x, x = (B0 || PA.2) := ⟨_, rfl⟩
    rw [← hBB] at HPI
    have HBB := Zam hBB
    clear hBB
    obtain ⟨X, hX⟩ : ∃ X, X = penNum 0 4 i.outs.length := ⟨_, rfl⟩
    have hbR : ∀ k, l1.length + PA.1.length + 1 + (penAll (penNum 0 255) (i.outs.take k)).1.length ≤ 9223372036854775806 := by
     intro k
     have h0 := Zaf HBND
     have h1 := penAll_take_len (penNum 0 255) i.outs k
     rw [part_79] at h0
     simp only [penL, penSeq, penNum, List.length_append, List.length_singleton] at h0
     change _ + 1 + (penAll (penNum 0 255) _).1.length ≤ _
     have h2 : (penAll (fun x => ([byteOf x], !decide (0 ≤ x ∧ x ≤ 255))) i.outs).1.length = (penAll (penNum 0 255) i.outs).1.length := rfl
     omega
    have hlast : i.outs.length < 9223372036854775807 := by
     have h1 := hbR i.outs.length
     have h2 := penAll_ge (penNum 0 255) (fun x => by simp [penNum]) i.outs
     rw [List.take_length] at h1
     omega
    have HBR := Zam hbR
    have c7 := (Zaf HPI).cell1 7 (.slice op' i.outs.length oc) (by rw [Zaf HA1]; rfl)
    have HC := Zam (pnum_c b (l1 ++ PA.1) BB i.outs.length 0 4 u (Zaf HPI).pn (by have := hbR 0; simp only [List.length_append]; omega))
    clear hbR
    go_wp2_with fail
    refine (Zaf HC).mono ?_
    rintro e w2 ⟨rfl, hp2, hg2⟩
    have hpi2 := (Zaf HPI).call hp2 hg2
    rw [show l1 ++ PA.1 ++ [byteOf (i.outs.length : Int)] = l1 ++ PA.1 ++ X.1 by rw [hX]; rfl, show (BB || !decide ((0 : Int) ≤ (i.outs.length : Int) ∧ (i.outs.length : Int) ≤ 4)) = (BB || X.2) by rw [hX]; rfl] at hpi2
    have c7 := hpi2.cell1 7 (.slice op' i.outs.length oc) (by rw [Zaf HA1]; rfl)
    have HPI2 := Zam hpi2
    have HX := Zam hX
    have hXl : X.1.length = 1 := by rw [hX]; rfl
    clear hp2 hg2 hpi2 HC hX
    go_wp2_with fail
    go_loopw [125] (fun j w' => ∃ k : Nat, j = .int .i64 k ∧ k ≤ i.outs.length ∧ PI w w' b w.heap.size w1.heap.size A1 (restA i (.slice ap i.args.length ac) (.slice op' i.outs.length oc) lq) s (q + 1) (l1 ++ PA.1 ++ X.1 ++ (penAll (penNum 0 255) (i.outs.take k)).1) (BB || X.2 || (penAll (penNum 0 255) (i.outs.take k)).2)) (fun j _ => i.outs.length - (intOf j).toNat)
    case atStart => exact ⟨0, rfl, by omega, by simpa [penAll] using Zaf HPI2⟩
    case round =>
     obtain ⟨k, rfl, hk, hpi3⟩ := hrel
     clear HPI2 c7
     by_cases hlt : k < i.outs.length
     ·
      obtain ⟨sb, so, cap', hv, hsb, hc⟩ := ((Zaf HO).gb hpi3.gb hbl).resolve_left (fun c => by rw [c.1] at hlt; simp at hlt)
      injection hv with e1 e2 e3
      subst e1
      have cc := hc k hlt
      have HSN2 := Zam (show penAll (penNum 0 255) (i.outs.take (k + 1)) = penSeq (penAll (penNum 0 255) (i.outs.take k)) (penNum 0 255 (i.outs.getD k 0)) by rw [getD_mid hlt, penAll_snoc])
      have hb1 := Zaf HBR (k + 1)
      rw [Zaf HSN2] at hb1
      obtain ⟨R, hR⟩ : ∃ R, R = penAll (penNum 0 255) (i.outs.take k) := ⟨_, rfl⟩
      rw [← hR] at hpi3 HSN2 hb1
      simp only [penSeq, penNum, List.length_append, List.length_singleton] at hb1
      generalize i.outs.getD k 0 = y at cc HSN2 hb1
      have HCALL := Zam (pnum_c b (l1 ++ PA.1 ++ X.1 ++ R.1) (BB || X.2 || R.2) y 0 255 wr hpi3.pn (by simp only [List.length_append]; omega))
      have HP3 := Zam hpi3
      clear hc hR hpi3 e2 e3
      go_wp2_with fail
      refine (Zaf HCALL).mono ?_
      rintro e w4 ⟨rfl, hp4, hg4⟩
      have HP4 := Zam ((Zaf HP3).call hp4 hg4)
      clear hp4 hg4 HCALL cc
      go_wp2
      go_roundw
      case rel =>
       refine ⟨k + 1, by go_num, by omega, ?_⟩
       rw [Zaf HSN2]
       have hz := Zaf HP4
       simp only [penSeq, penNum, ← List.append_assoc, ← Bool.or_assoc]
       exact hz
      case measure => simp [intOf]; omega
     ·
      obtain rfl : k = i.outs.length := by omega
      rw [List.take_length] at hpi3
      have k2 := hpi3.cell2 7 _ rfl
      have f2 := hpi3.fz2 7
      have HZ := Zam (hpi3.zap 7 (.slice none 0 0))
      clear hpi3
      go_wp2
      go_roundw
      case rel =>
       refine ⟨q + 1, hp, ?_⟩
       rw [Zaf HRS _ (rest_79 i _ _ lq), Zaf HSN, part_79]
       have hz := Zaf HZ
       unfold penL
       rw [← Zaf HX]
       simp only [penSeq, ← List.append_assoc, ← Bool.or_assoc]
       rw [← Zaf HBB]
       exact hz
      case measure => rw [hm, iterPos_of (Zaf HZ).it]; omega
  ·
   obtain rfl : q = s.size := by omega
   have htl : ls.take s.size = ls := by rw [← Zaf HLEN]; exact List.take_length
   rw [htl] at hpi
   have hnx : ∀ ty, (Instr.next (.pointer (some ⟨w1.heap.size + 1, 0, none⟩)) true ty).run Tryz.prog wr = _ := fun ty => Lib.run_next_end_at wr (w1.heap.size + 1) s _ ty hit hp
   obtain ⟨pz, kz, hz⟩ := zapV_slice ls 82 ap i.args.length ac
   obtain ⟨py, ky, hy⟩ := zapV_slice ls 79 op' i.outs.length oc
   have HF := Zam (show penIns i = penSeq (penNum 1 18 i.op) (penSeq (penAll (penPart i) ls) ([], !restB i ls)) by
    have h2 : ls = Zao i.op := by rw [Zaf HLS, Zaf HS]; rfl
    rw [h2]; rfl)
   obtain ⟨PA, hPA⟩ : ∃ x, x = penAll (penPart i) ls := ⟨_, rfl⟩
   rw [← hPA] at hpi HF
   obtain ⟨BB, hBB⟩ : ∃ x, x = (B0 || PA.2) := ⟨_, rfl⟩
   rw [← hBB] at hpi
   have HBB := Zam hBB
   have p1 := hpi.pn.c1
   have p1f := hpi.pn.f1
   cases BB with
   | true =>
    have HPI := Zam (hpi.setBad true)
    clear hBB hPA hpi hit hm
    go_wp2
    refine bodyPost_end (results_none (fn := Tryz.f36) rfl _ _ _) rfl ?_
    have hz := Zaf HPI
    refine ⟨rfl, ?_, hz.gb⟩
    rw [Zaf HF]
    simp only [penSeq, penNum, List.append_nil, ← List.append_assoc, ← Bool.or_assoc]
    rw [← Zaf HL1, ← Zaf HB0, ← Zaf HBB]
    exact hz.pn
   | false =>
    have k0 := hpi.cell2 0 _ rfl
    have k1 := hpi.cell2 1 _ rfl
    have k2 := hpi.cell2 2 _ rfl
    have k3 := hpi.cell2 3 _ rfl
    have k4 := hpi.cell2 4 _ rfl
    have k5 := hpi.cell2 5 _ rfl
    have k6 := (hpi.cell2 6 _ rfl).trans (congrArg some hz)
    have k7 := (hpi.cell2 7 _ rfl).trans (congrArg some hy)
    have HC := Zam (nothing_c 0 (zap ls 68 i.d) (zap ls 65 i.a) (zap ls 66 i.bb) (zapN ls i.n) (zap ls 70 i.f) pz py (zapL ls 82 i.args.length) (zapL ls 79 i.outs.length) kz ky wr)
    have HPI := Zam hpi
    clear hBB hPA hpi hit hm hz hy
    go_wp2_with fail
    refine (Zaf HC).mono ?_
    rintro e w2 ⟨rfl, hbel⟩
    have hpi2 := (Zaf HPI).call ((Zaf HPI).pn.blk (hbel.block b (Zaf HPI).pn.lt)) ⟨hbel.os, hbel.tape, hbel.output, hbel.size, fun k hk _ => hbel.block k hk⟩
    have p2 := hpi2.pn.c1
    have p2f := hpi2.pn.f1
    have HPI2 := Zam (hpi2.setBad (!restB i ls))
    clear hbel hpi2 k0 k1 k2 k3 k4 k5 k6 k7 HC
    go_wp2
    refine bodyPost_end (results_none (fn := Tryz.f36) rfl _ _ _) rfl ?_
    have hz := Zaf HPI2
    refine ⟨rfl, ?_, hz.gb⟩
    rw [Zaf HF]
    simp only [penSeq, penNum, List.append_nil, ← List.append_assoc, ← Bool.or_assoc]
    rw [← Zaf HL1, ← Zaf HB0, ← Zaf HBB]
    exact hz.pn
end Go.Proofs.YtffemeicclhioaaGreatDoor

