/-
  Parses: table.cut's loop. Own work of the verifier.
-/
import Derived.Test.YtobempobmokkcaaGreatDoorPsCut
namespace Go.Proofs.YtobempobmokkcaaGreatDoor
open Go.RowKit

def U8 (w : World) : Prop := Lib.Utf8Tabs 3 4 w
theorem U8.lt {w : World} (h : U8 w) : 3 < w.heap.size ∧ 4 < w.heap.size :=
  ⟨World.block_lt_of_cell? w _ (h.1 0 (by decide)), World.block_lt_of_cell? w _ (h.2 0 (by decide)).1⟩
theorem U8.below {w w' : World} {B : Nat} (h : U8 w) (hb : Below B w w') (hB : 3 < B ∧ 4 < B) : U8 w' :=
  ⟨fun c hc => (World.cell?_of_block (hb.block _ hB.1)).trans (h.1 c hc), fun i hi => ⟨(World.cell?_of_block (hb.block _ hB.2)).trans (h.2 i hi).1, (World.cell?_of_block (hb.block _ hB.2)).trans (h.2 i hi).2⟩⟩
theorem dec_lt (s : ByteArray) (p : Nat) : (Utf8.decode s p).1 < 2147483648 := by
  rw [Lib.decode_at]
  have := (s.get! p).toNat_lt
  unfold Lib.decodeN
  repeat' split
  all_goals first | omega | (simp; omega) | simp
theorem Own3.mono {w : World} {b c : Nat} {v : Value} {l : List Tk} (h : Own3 w b v l) (hc : c ≤ b) : Own3 w c v l := by
  refine ⟨h.1, ?_⟩
  rcases h.2 with h' | ⟨g, cap, cur, h1, h2, h3⟩
  · exact Or.inl h'
  · exact Or.inr ⟨g, cap, cur, h1, by omega, h3⟩
theorem Own3.below {w w' : World} {b : Nat} {v : Value} {l : List Tk} (h : Own3 w b v l) (hb : Below w.heap.size w w') : Own3 w' b v l := by
  refine ⟨h.1, ?_⟩
  rcases h.2 with h' | ⟨g, cap, cur, h1, h2, h3, h4⟩
  · exact Or.inl h'
  · refine Or.inr ⟨g, cap, cur, h1, h2, ?_, h4⟩
    have hg : g < w.heap.size := by
      rcases Nat.lt_or_ge g w.heap.size with x | x
      · exact x
      · simp [Array.getElem?_eq_none x] at h3
    rw [hb.block g hg]; exact h3
/-- What the loop keeps. -/
structure CutI (s : ByteArray) (w wr : World) (v : Value) (c : Bool) (pos f : Nat) (l : List Tk) : Prop where
  it : wr.heap[w.heap.size]? = some (.stringIter s pos)
  own : Own3 wr (w.heap.size + 1) v l
  low : Below w.heap.size w wr
  eq : cutF s f pos c l = cutF s s.size 0 false []
  fuel : s.size ≤ pos + f
  len : l.length ≤ pos
theorem CutI.lt {s : ByteArray} {w wr : World} {v : Value} {c : Bool} {pos f : Nat} {l : List Tk} (h : CutI s w wr v c pos f l) : w.heap.size < wr.heap.size := (Array.getElem?_eq_some_iff.1 h.it).1
/-- A step of the iterator. -/
theorem CutI.step {s : ByteArray} {w wr : World} {v : Value} {c : Bool} {pos f : Nat} {l : List Tk} (h : CutI s w wr v c pos f l) (q : Nat) :
    (wr.iterAt w.heap.size s q).heap[w.heap.size]? = some (.stringIter s q) ∧ Own3 (wr.iterAt w.heap.size s q) (w.heap.size + 1) v l ∧ Below w.heap.size w (wr.iterAt w.heap.size s q) ∧ (wr.iterAt w.heap.size s q).heap.size = wr.heap.size :=
  ⟨Lib.iterAt_heap _ _ _ _ _ h.it, ownsRow_iterAt h.own (by omega) _ _, Lib.below_iterAt h.low (Nat.le_refl _) _ _, Lib.iterAt_size _ _ _ _⟩
def CutP (s : ByteArray) (w : World) (e : Ending) (w' : World) : Prop :=
  ∃ v r, e = .returned (.tuple #[v, .int .i64 r]) ∧ Below w.heap.size w w' ∧ (match cutF s s.size 0 false [] with | .inl p => r = p | .inr l => r = -1 ∧ Own3 w' w.heap.size v l)
theorem kindN_le (r : Nat) : kindN r ≤ 6 := by
  unfold kindN
  repeat' split
  all_goals omega
theorem cutF_k0 {s : ByteArray} {f p r n : Nat} {l : List Tk} (hp : p < s.size) (hd : Utf8.decode s p = (r, n)) (hk : kindN r = 0) : cutF s (f + 1) p false l = .inl p := by simp [cutF, hp, hd, hk]
theorem cutF_k1 {s : ByteArray} {f p r n : Nat} {l : List Tk} (hp : p < s.size) (hd : Utf8.decode s p = (r, n)) (hk : kindN r = 1) : cutF s (f + 1) p false l = cutF s f (p + n) false l := by simp [cutF, hp, hd, hk]
theorem cutF_k2 {s : ByteArray} {f p r n : Nat} {l : List Tk} (hp : p < s.size) (hd : Utf8.decode s p = (r, n)) (hk : kindN r = 2) : cutF s (f + 1) p false l = cutF s f (p + n) true l := by simp [cutF, hp, hd, hk]
theorem cutF_k3 {s : ByteArray} {f p r n : Nat} {l : List Tk} (k : Nat) (hp : p < s.size) (hd : Utf8.decode s p = (r, n)) (hk : kindN r = k) (h3 : 3 ≤ k) : cutF s (f + 1) p false l = cutF s f (p + n) false (addR l k p) := by
  simp only [cutF, hp, hd, hk, if_true]
  rw [if_neg (by decide), if_neg (by omega), if_neg (by omega), if_neg (by omega)]
theorem cutF_cb {s : ByteArray} {f p r n : Nat} {l : List Tk} (hp : p < s.size) (hd : Utf8.decode s p = (r, n)) (hk : r = 65533 ∧ n = 1) : cutF s (f + 1) p true l = .inl p := by simp [cutF, hp, hd, hk]
theorem cutF_cn {s : ByteArray} {f p r n : Nat} {l : List Tk} (hp : p < s.size) (hd : Utf8.decode s p = (r, n)) (hk : ¬ (r = 65533 ∧ n = 1)) : cutF s (f + 1) p true l = cutF s f (p + n) (decide (r ≠ 10)) l := by simp [cutF, hp, hd, hk]
set_option maxHeartbeats 4000000 in
set_option maxRecDepth 100000 in
theorem cut_c (s : ByteArray) (w : World) (hs : s.size ≤ 400) (hT : U8 w) : Calls Tryz.prog 56 #[.string s] w (CutP s w) := by
  have HT := hideQ hT
  clear hT
  go_enter Tryz.func56, Tryz.ntmps56
  go_wp2_with fail
  go_loopw [4, 5] (fun v c wr => ∃ (cc : Bool) (pos f : Nat) (l : List Tk), c = .bool cc ∧ CutI s w wr v cc pos f l) (fun _ _ wr => s.size - wr.iterPos w.heap.size)
  case atStart => exact ⟨false, 0, s.size, [], rfl, ⟨heap_alloc_new w _, World.ownsRow_nil _ _ _ _, (Below.refl _ _).alloc (Nat.le_refl _) _, rfl, by omega, by simp⟩⟩
  case round =>
    obtain ⟨cc, pos, f, l, rfl, hI⟩ := hrel
    have hit := hI.it
    by_cases hp : pos < s.size
    · obtain ⟨r, n, hd⟩ : ∃ r n, Utf8.decode s pos = (r, n) := ⟨_, _, rfl⟩
      have hn1 : 1 ≤ n := by have := dec_pos s pos; rw [hd] at this; exact this
      have hr := dec_lt s pos
      rw [hd] at hr
      have hnx : ∀ ty, (Instr.next (.pointer (some ⟨w.heap.size, 0, none⟩)) true ty).run Tryz.prog _ = .ok (.tuple #[.bool true, .int .i64 pos, .int .i32 r]) _ := fun ty => by have := Lib.run_next_any_at (P := Tryz.prog) _ w.heap.size s pos ty hit hp; rw [hd] at this; exact this
      obtain ⟨g1, g2, g3, g4⟩ := hI.step (pos + n)
      have hm := iterPos_of hit
      have hm2 := iterPos_of g1
      have hU := (unhideQ HT).below g3 (unhideQ HT).lt
      have hlt := hI.lt
      obtain ⟨f, rfl⟩ : ∃ f', f = f' + 1 := ⟨f - 1, by have := hI.fuel; omega⟩
      have HI := hideQ hI
      have hlen := hI.len
      have G1 := hideQ g1
      have G2 := hideQ g2
      have G3 := hideQ g3
      clear hI g1 g2 g3 hit
      cases cc with
      | true =>
        have HC := hideQ (isBroken_c (s.extract pos s.size) r _ (by simp; omega) hU)
        rw [dec_extract s pos hp, hd] at HC
        clear hU
        go_wp2_with fail
        refine (unhideQ HC).mono ?_
        rintro e w1 ⟨rfl, hb1⟩
        have k1 := (hb1.block w.heap.size (by rw [g4]; exact hlt)).trans (unhideQ G1)
        have K2 := hideQ ((unhideQ G2).below hb1)
        have K3 := hideQ ((unhideQ G3).trans (hb1.mono (by rw [g4]; omega)))
        have hm3 := iterPos_of k1
        have K1 := hideQ k1
        clear hb1 HC k1
        by_cases hbk : r = 65533 ∧ n = 1
        · have hE := (cutF_cb (f := f) (l := l) hp hd hbk).symm.trans (unhideQ HI).eq
          simp only [hbk, and_self, decide_true]
          go_wp2
          go_ret2
          exact ⟨_, _, rfl, unhideQ K3, by rw [← hE]⟩
        · have hE := (cutF_cn (f := f) (l := l) hp hd hbk).symm.trans (unhideQ HI).eq
          simp only [hbk, decide_false]
          go_wp2
          go_roundw
          case rel => exact ⟨decide (r ≠ 10), pos + n, f, l, by rw [Value.bool.injEq, Bool.eq_iff_iff]; simp; try omega, ⟨unhideQ K1, unhideQ K2, unhideQ K3, hE, by have := (unhideQ HI).fuel; omega, by omega⟩⟩
          case measure => omega
      | false =>
        have HC := hideQ (kindOf_c r (wr.iterAt w.heap.size s (pos + n)) hr)
        have h6 := kindN_le r
        clear hU
        go_wp2_with fail
        refine (unhideQ HC).mono ?_
        rintro e w1 ⟨rfl, rfl⟩
        clear HC
        have hcs : kindN r = 0 ∨ kindN r = 1 ∨ kindN r = 2 ∨ 3 ≤ kindN r := by omega
        rcases hcs with hk | hk | hk | hk
        · have hE := (cutF_k0 (f := f) (l := l) hp hd hk).symm.trans (unhideQ HI).eq
          rw [hk]
          clear hk
          go_wp2
          go_ret2
          exact ⟨_, _, rfl, unhideQ G3, by rw [← hE]⟩
        · have hE := (cutF_k1 (f := f) (l := l) hp hd hk).symm.trans (unhideQ HI).eq
          rw [hk]
          clear hk
          go_wp2
          go_roundw
          case rel => exact ⟨false, pos + n, f, l, rfl, ⟨unhideQ G1, unhideQ G2, unhideQ G3, hE, by have := (unhideQ HI).fuel; omega, by omega⟩⟩
          case measure => omega
        · have hE := (cutF_k2 (f := f) (l := l) hp hd hk).symm.trans (unhideQ HI).eq
          rw [hk]
          clear hk
          go_wp2
          go_roundw
          case rel => exact ⟨true, pos + n, f, l, rfl, ⟨unhideQ G1, unhideQ G2, unhideQ G3, hE, by have := (unhideQ HI).fuel; omega, by omega⟩⟩
          case measure => omega
        · have hE := (cutF_k3 (f := f) (l := l) (kindN r) hp hd rfl hk).symm.trans (unhideQ HI).eq
          have hl2 := addR_len l (kindN r) pos
          have HA := hideQ (addRune_c (w.heap.size + 1) l u4 (kindN r) pos _ (unhideQ G2) (by omega) (by omega) (by rw [g4]; omega) ⟨hk, h6⟩)
          generalize kindN r = kk at *
          have hcs : kk = 3 ∨ kk = 4 ∨ kk = 5 ∨ kk = 6 := by omega
          rcases hcs with rfl | rfl | rfl | rfl
          all_goals
            go_wp2_with fail
            refine (unhideQ HA).mono ?_
            rintro e w1 ⟨v', rfl, hO, hb1⟩
            have k1 := (hb1.block w.heap.size (by omega)).trans (unhideQ G1)
            have K3 := hideQ ((unhideQ G3).trans (hb1.mono (by omega)))
            have K2 := hideQ hO
            have hm3 := iterPos_of k1
            have K1 := hideQ k1
            clear hb1 HA k1 hO
            go_wp2
            go_roundw
            case rel => exact ⟨false, pos + n, f, _, rfl, ⟨unhideQ K1, unhideQ K2, unhideQ K3, hE, by have := (unhideQ HI).fuel; omega, by omega⟩⟩
            case measure => omega
    · have hnx : ∀ ty, (Instr.next (.pointer (some ⟨w.heap.size, 0, none⟩)) true ty).run Tryz.prog _ = _ := fun ty => Lib.run_next_end_at _ w.heap.size s pos ty hit hp
      have HI := hideQ hI
      clear hI
      go_wp2
      go_ret2
      have h := unhideQ HI
      have e := h.eq
      rw [cutF_end s f pos cc l hp] at e
      exact ⟨_, _, rfl, h.low, by rw [← e]; exact ⟨rfl, h.own.mono (by omega)⟩⟩
end Go.Proofs.YtobempobmokkcaaGreatDoor
