/-
  Encodes: the reference's signatures by their contract. Own work of the verifier.
-/
import Derived.Test.YthnmdbddfmgdlaaDoorEncR
namespace Go.Proofs.YthnmdbddfmgdlaaDoor
open Go.RowKit

theorem RsB.gb {w w' : World} {b : Nat} {v : Value} {ns : List Int} (h : RsB w b v ns) (hw : w.grownBy w' (some b)) (hb : b < w.heap.size) : RsB w' b v ns := by
  rcases h with h | ⟨sb, so, cap, h1, h2, h3⟩
  · exact Or.inl h
  · exact Or.inr ⟨sb, so, cap, h1, h2, fun i hi => (World.cell?_of_block (hw.block sb (by omega) (by intro e; injection e with e; omega))).trans (h3 i hi)⟩
theorem gb_tr {a c d : World} {row : Option Nat} (h : a.grownBy c row) (k : c.grownBy d row) : a.grownBy d row :=
  ⟨k.os.trans h.os, k.tape.trans h.tape, k.output.trans h.output, Nat.le_trans h.size k.size, fun q hq hr => (k.block q (Nat.lt_of_lt_of_le hq h.size) hr).trans (h.block q hq hr)⟩
theorem gb_alloc (w : World) (o : Obj) (row : Option Nat) : w.grownBy (w.alloc o) row :=
  have q := (Below.refl w.heap.size w).alloc (Nat.le_refl _) o
  ⟨q.os, q.tape, q.output, q.size, fun k hk _ => q.block k hk⟩
theorem Pn.lt {w : World} {b : Nat} {l : List UInt8} {bad : Bool} (h : Pn w b l bad) : b < w.heap.size := World.block_lt_of_cell? w _ h.c0
theorem Pn.alloc {w : World} {b : Nat} {l : List UInt8} {bad : Bool} (h : Pn w b l bad) (o : Obj) : Pn (w.alloc o) b l bad :=
  have e := ((Below.refl w.heap.size w).alloc (Nat.le_refl _) o).block b h.lt
  ⟨(World.cell?_of_block e).trans h.c0, (World.cell?_of_block e).trans h.c1, (World.frozen?_of_block (a := ⟨b, 0, none⟩) e).trans h.f0, (World.frozen?_of_block (a := ⟨b, 1, none⟩) e).trans h.f1⟩
set_option maxHeartbeats 2000000 in
set_option maxRecDepth 100000 in
theorem psig_c (b : Nat) (l : List UInt8) (bad : Bool) (lv : Value) (ns : List Int) (r : Int) (w : World) (h : Pn w b l bad) (hl : l.length + ns.length + 2 < 9223372036854775807) (hns : RsB w b lv ns) :
    Calls Tryd.prog 15 #[.pointer (some ⟨b, 0, none⟩), .agg #[lv, .int .i64 r]] w (PenE b l bad (penSig (ns, r)) w) := by
  obtain ⟨pp, cap, hlv⟩ := hns.shape
  subst hlv
  have hbl := h.lt
  have HNS := hideE hns
  have HN := hideE (fun X : Obj => pnum_c b l bad ns.length 0 8 (w.alloc X) (h.alloc X) (by omega))
  clear h hns
  go_enter Tryd.func15, Tryd.ntmps15
  go_wp2_with fail
  refine (unhideE HN _).mono ?_
  rintro e w1 ⟨rfl, hp1, hg1⟩
  have hrow1 := (hg1.block w.heap.size (by simp) (by intro e; injection e with e; omega)).trans (heap_alloc_new w _)
  have c0 := (cells_of_row hrow1 0).trans rfl
  have c1 := (cells_of_row hrow1 1).trans rfl
  obtain ⟨X, hX⟩ : ∃ X, X = penNum 0 8 ns.length := ⟨_, rfl⟩
  have hp1' : Pn w1 b (l ++ X.1) (bad || X.2) := by rw [hX]; exact hp1
  have hXl : X.1.length = 1 := by rw [hX]; rfl
  have HX := hideE hX
  have HP1 := hideE hp1'
  have HG1 := hideE hg1
  have HROW1 := hideE hrow1
  clear hp1 hp1' hg1 hrow1 hX HN
  go_wp2_with fail
  clear c0 c1
  go_loopw [14] (fun j w' => ∃ k : Nat, j = .int .i64 k ∧ k ≤ ns.length ∧ Pn w' b (l ++ X.1 ++ (penAll (penNum 0 8) (ns.take k)).1) (bad || X.2 || (penAll (penNum 0 8) (ns.take k)).2) ∧ w1.grownBy w' (some b)) (fun j _ => ns.length - (intOf j).toNat)
  case atStart => exact ⟨0, rfl, by omega, by simpa [penAll] using unhideE HP1, ⟨rfl, rfl, rfl, Nat.le_refl _, fun _ _ _ => rfl⟩⟩
  case round =>
    obtain ⟨k, rfl, hk, hp, hg⟩ := hrel
    have hpl : ∀ xs : List Int, (penAll (penNum 0 8) xs).1.length = xs.length := by
      intro xs
      induction xs with
      | nil => rfl
      | cons y ys ih => simp [penAll, penSeq, penNum, ih]
    have hplk := hpl (ns.take k)
    have hb1 : b < w1.heap.size := (unhideE HP1).lt
    have HP := hideE hp
    have HG := hideE hg
    clear hp hg hpl
    by_cases hlt : k < ns.length
    · have hrs := ((unhideE HNS).gb (gb_tr (gb_tr (gb_alloc w _ (some b)) (unhideE HG1)) (unhideE HG)) hbl)
      obtain ⟨sb, so, cap', hv, hsb, hc⟩ := hrs.resolve_left (fun c => by rw [c.1] at hlt; simp at hlt)
      injection hv with e1 e2 e3
      subst e1
      have cc := hc k hlt
      have HCALL := hideE (pnum_c b _ _ (ns.getD k 0) 0 8 wr (unhideE HP) (by rw [List.length_append, List.length_append, hXl, hplk]; simp; omega))
      have HSN := hideE (show penAll (penNum 0 8) (ns.take (k + 1)) = penSeq (penAll (penNum 0 8) (ns.take k)) (penNum 0 8 (ns.getD k 0)) by rw [getD_mid hlt, penAll_snoc])
      clear hc e2 e3
      generalize ns.getD k 0 = y at cc HCALL HSN
      go_wp2_with fail
      refine (unhideE HCALL).mono ?_
      rintro e w2 ⟨rfl, hp2, hg2⟩
      have HP2 := hideE hp2
      have HG2 := hideE (gb_tr (unhideE HG) hg2)
      clear hp2 hg2
      go_wp2
      go_roundw
      case rel =>
        refine ⟨k + 1, by go_num, by omega, ?_, unhideE HG2⟩
        have h2 := unhideE HP2
        rw [unhideE HSN]
        simp only [penSeq, penNum, ← List.append_assoc, ← Bool.or_assoc]
        exact h2
      case measure => simp [intOf]; omega
    · obtain rfl : k = ns.length := by omega
      have h1 := unhideE HP
      rw [List.take_length] at h1 hplk
      have hrow2 := ((unhideE HG).block w.heap.size (by
        rcases Nat.lt_or_ge w.heap.size w1.heap.size with x | x
        · exact x
        · have := unhideE HROW1; simp [Array.getElem?_eq_none x] at this) (by intro e; injection e with e; omega)).trans (unhideE HROW1)
      have c1 := (cells_of_row hrow2 1).trans rfl
      have HCALL := hideE (pnum_c b _ _ r 0 4 wr h1 (by rw [List.length_append, List.length_append, hXl, hplk]; omega))
      clear h1 hrow2
      go_wp2_with fail
      refine (unhideE HCALL).mono ?_
      rintro e w2 ⟨rfl, hp2, hg2⟩
      have HP2 := hideE hp2
      have HG2 := hideE (gb_tr (gb_tr (gb_tr (gb_alloc w _ (some b)) (unhideE HG1)) (unhideE HG)) hg2)
      clear hp2 hg2
      go_wp2
      refine bodyPost_end (results_none (fn := Tryd.f15) rfl _ _ _) rfl ?_
      refine ⟨rfl, ?_, unhideE HG2⟩
      have h2 := unhideE HP2
      unfold penSig penL
      rw [← unhideE HX]
      simp only [penSeq, penNum, ← List.append_assoc, ← Bool.or_assoc]
      exact h2
end Go.Proofs.YthnmdbddfmgdlaaDoor
