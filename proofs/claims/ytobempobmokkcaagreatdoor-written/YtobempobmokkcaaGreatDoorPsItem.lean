/-
  Parses: the reader: readItem. Own work of the verifier.
-/
import Derived.Test.YtobempobmokkcaaGreatDoorPsWf
namespace Go.Proofs.YtobempobmokkcaaGreatDoor
open Go.RowKit

/-- How far the reader is: the next piece, what was seen, the numbers. -/
structure RSt where
  i : Nat
  sn : Nat → Bool
  vals : Nat → List Int
def updS (sn : Nat → Bool) (k : Nat) : Nat → Bool := fun j => if j = k then true else sn j
def updL (vals : Nat → List Int) (k : Nat) (ns : List Int) : Nat → List Int := fun j => if j = k then ns else vals j
def nameK (s : ByteArray) (l : List Tk) (i : Nat) (sn : Nat → Bool) : Option Nat := (List.range 11).find? fun k => decide (nm k = (tAt s l i).data.toList) && !sn k
theorem nameK_none {s : ByteArray} {l : List Tk} {i : Nat} {sn : Nat → Bool} (h : ∀ k, ¬ nameOk s l i sn k) : nameK s l i sn = none := by
  unfold nameK
  rw [List.find?_eq_none]
  intro k hk hc
  simp at hc
  exact h k ⟨List.mem_range.1 hk, hc.1, hc.2⟩
theorem nameK_some {s : ByteArray} {l : List Tk} {i : Nat} {sn : Nat → Bool} {k : Nat} (h : nameOk s l i sn k) : nameK s l i sn = some k := by
  cases hf : nameK s l i sn with
  | none =>
    unfold nameK at hf
    rw [List.find?_eq_none] at hf
    have := hf k (List.mem_range.2 h.1)
    simp [h.2.1, h.2.2] at this
  | some j =>
    unfold nameK at hf
    have h1 := List.find?_some hf
    have h2 := List.mem_of_find?_eq_some hf
    simp at h1
    exact congrArg some (nm_inj (List.mem_range.1 h2) h.1 (h1.1.trans h.2.1.symm))
/-- An item: whether it could be read, and how far the reader came. -/
def itemF (s : ByteArray) (l : List Tk) (S : RSt) : Bool × RSt :=
  match nameK s l S.i S.sn with
  | none => (false, S)
  | some k =>
    if loK k ≤ (numsF s l k 13 (S.i + 1) []).2.length then
      (if kAt l (numsF s l k 13 (S.i + 1) []).1 = 6 then (true, ⟨(numsF s l k 13 (S.i + 1) []).1 + 1, updS S.sn k, updL S.vals k (numsF s l k 13 (S.i + 1) []).2⟩)
      else (false, ⟨(numsF s l k 13 (S.i + 1) []).1, updS S.sn k, updL S.vals k (numsF s l k 13 (S.i + 1) []).2⟩))
    else (false, ⟨(numsF s l k 13 (S.i + 1) []).1, updS S.sn k, updL S.vals k (numsF s l k 13 (S.i + 1) []).2⟩)
/-- No two lists in one block. -/
def Apart (vs : Nat → Value) : Prop := ∀ j k, j < 11 → k < 11 → j ≠ k → ∀ g, (vs j).ownBlock = some g → (vs k).ownBlock ≠ some g
theorem Apart.upd {vs : Nat → Value} {k N : Nat} {u : Value} (h : Apart vs) (hu : ∀ g, u.ownBlock = some g → N ≤ g) (ho : ∀ j, j < 11 → ∀ g, (vs j).ownBlock = some g → g < N) : Apart (updV vs k u) := by
  intro i j hi hj hij g h1 h2
  unfold updV at h1 h2
  split at h1
  · split at h2
    · omega
    · have := hu g h1; have := ho j hj g h2; omega
  · split at h2
    · have := hu g h2; have := ho i hi g h1; omega
    · exact h i j hi hj hij g h1 h2
structure RS (s : ByteArray) (l : List Tk) (W0 : Nat) (w : World) (b : Nat) (v : Value) (S : RSt) (vs : Nat → Value) : Prop where
  rdr : Rdr w b s v S.i S.sn vs
  row : ∀ k, k < 11 → w.ownsRow W0 3 1 (vs k) (S.vals k).length (iCells (S.vals k))
  new : ∀ k, k < 11 → S.sn k = false → vs k = .slice none 0 0
  fit : S.i ≤ l.length
  apart : Apart vs
theorem row_kept {w w' : World} {W0 b n : Nat} {u : Value} {xs : List Value} (h : w.ownsRow W0 3 1 u n xs) (hg : w.grownBy w' (some b)) (hb : b < W0) : w'.ownsRow W0 3 1 u n xs :=
  World.ownsRow.kept h hg (Or.inr (fun e => by have := (h.lt b e).1; omega))
theorem row_mono {w : World} {b c n : Nat} {u : Value} {xs : List Value} (h : w.ownsRow b 3 1 u n xs) (hc : c ≤ b) : w.ownsRow c 3 1 u n xs := by
  refine ⟨h.1, ?_⟩
  rcases h.2 with h' | ⟨g, cap, cur, h1, h2, h3⟩
  · exact Or.inl h'
  · exact Or.inr ⟨g, cap, cur, h1, by omega, h3⟩
theorem kAt6 {l : List Tk} {i : Nat} (h : kAt l i = 6) : i < l.length := by
  unfold kAt at h
  split at h
  · rename_i t ht; exact (List.getElem?_eq_some_iff.1 ht).1
  · simp at h
set_option maxHeartbeats 4000000 in
set_option maxRecDepth 100000 in
theorem readItem_c (w : World) (b base W0 : Nat) (s : ByteArray) (v : Value) (S : RSt) (vs : Nat → Value) (l : List Tk) (h : RS s l W0 w b v S vs) (hb : b < W0) (hW : W0 ≤ w.heap.size) (ho : Own3 w base v l) (hvb : v.ownBlock ≠ some b) (hl : l.length ≤ 400) (hw : WfT s l) (hI : Itm w) (hbI : 1 ≠ b) (hlt : S.i < l.length) :
    Calls Tryz.prog 97 #[.pointer (some ⟨b, 0, none⟩)] w fun e w' => e = .returned (.bool (itemF s l S).1) ∧ w.grownBy w' (some b) ∧ ∃ vs', RS s l W0 w' b v (itemF s l S).2 vs' := by
  have HC := hideQ (readName_c w b base s v S.i S.sn vs l h.rdr ho hl h.fit hw hI.items hI.lt)
  have HS := hideQ h
  have HO := hideQ ho
  have HW := hideQ hw
  have HI := hideQ hI
  clear h ho hw hI
  go_enter Tryz.func97, Tryz.ntmps97
  go_wp2_with fail
  refine (unhideQ HC).mono ?_
  clear HC
  rintro e w1 (⟨k, hn, rfl, hg1, hr1⟩ | ⟨hno, rfl, hg1, hr1⟩)
  · have hk := hn.1
    have HN := hideQ (readNumbers_c k hk w1 b base s v (S.i + 1) (updS S.sn k) vs l hr1 ((unhideQ HS).new k hk hn.2.2) ((unhideQ HO).grown hg1 hvb) hvb hl (by omega) (unhideQ HW) ((unhideQ HI).grown hg1 hbI) hbI)
    have HK := hideQ (nameK_some hn)
    have G1 := hideQ hg1
    clear hn hg1 hr1
    go_wp2_with fail
    refine (unhideQ HN).mono ?_
    clear HN
    rintro e w2 ⟨f, i', ns, u, hNI, hE, rfl⟩
    have hrows : ∀ j, j < 11 → w2.ownsRow W0 3 1 (updV vs k u j) (updL S.vals k ns j).length (iCells (updL S.vals k ns j)) := fun j hj => by
      by_cases hjk : j = k
      · subst hjk
        simp only [updV, updL, if_true]
        exact row_mono hNI.row (Nat.le_trans hW (unhideQ G1).size)
      · simp only [updV, updL, hjk, if_false]
        exact row_kept (row_kept ((unhideQ HS).row j hj) (unhideQ G1) hb) hNI.gb hb
    have hnew : ∀ j, j < 11 → updS S.sn k j = false → updV vs k u j = .slice none 0 0 := fun j hj hs => by
      by_cases hjk : j = k
      · subst hjk; simp [updS] at hs
      · simp only [updS, updV, hjk, if_false] at hs ⊢
        exact (unhideQ HS).new j hj hs
    have HAP := hideQ ((unhideQ HS).apart.upd (k := k) (fun g hg => (hNI.row.lt g hg).1) (fun j hj g hg => Nat.lt_of_lt_of_le ((unhideQ HS).row j hj |>.lt g hg).2 (unhideQ G1).size))
    have G2 := hideQ (gb_trans (unhideQ G1) hNI.gb)
    have hN1 : (numsF s l k 13 (S.i + 1) []).1 = i' := by rw [← hE]
    have hN2 : (numsF s l k 13 (S.i + 1) []).2 = ns := by rw [← hE]
    by_cases hlo : loK k ≤ ns.length
    · have HT := hideQ (readStop_c w2 b base s v i' (updS S.sn k) _ l hNI.rdr ((unhideQ HO).grown (unhideQ G2) hvb) hl hNI.fit (unhideQ HW))
      have hfit := hNI.fit
      have hF : itemF s l S = (decide (kAt l i' = 6), ⟨if kAt l i' = 6 then i' + 1 else i', updS S.sn k, updL S.vals k ns⟩) := by
        unfold itemF
        rw [unhideQ HK]
        simp only [hN1, hN2, hlo, if_true]
        by_cases h6 : kAt l i' = 6 <;> simp [h6]
      have HR := hideQ hrows
      have HNW := hideQ hnew
      have HF := hideQ hF
      clear hNI hE hrows hnew hN1 hN2 hF
      simp only [hlo, decide_true]
      go_wp2_with fail
      refine (unhideQ HT).mono ?_
      rintro e w3 ⟨rfl, hg3, hr3⟩
      have G3 := hideQ (gb_trans (unhideQ G2) hg3)
      have HR3 := hideQ (fun j hj => row_kept (unhideQ HR j hj) hg3 hb)
      have H3 := hideQ hr3
      have hf3 : (if kAt l i' = 6 then i' + 1 else i') ≤ l.length := by
        split
        · rename_i h6; have := kAt6 h6; omega
        · exact hfit
      clear hg3 hr3
      go_wp2
      go_ret
      rw [unhideQ HF]
      exact ⟨rfl, unhideQ G3, _, ⟨unhideQ H3, unhideQ HR3, unhideQ HNW, hf3, unhideQ HAP⟩⟩
    · have hF : itemF s l S = (false, ⟨i', updS S.sn k, updL S.vals k ns⟩) := by
        unfold itemF
        rw [unhideQ HK]
        simp only [hN1, hN2, hlo, if_false]
      have HR := hideQ hrows
      have HNW := hideQ hnew
      have HD := hideQ hNI.rdr
      have hfit := hNI.fit
      have HF := hideQ hF
      clear hNI hE hrows hnew hN1 hN2 hF
      simp only [hlo, decide_false]
      go_wp2
      go_ret
      rw [unhideQ HF]
      exact ⟨rfl, unhideQ G2, _, ⟨unhideQ HD, unhideQ HR, unhideQ HNW, hfit, unhideQ HAP⟩⟩
  · have hF : itemF s l S = (false, S) := by
      unfold itemF
      rw [nameK_none hno]
    have HF := hideQ hF
    clear hF
    have H1 := hideQ hr1
    have G1 := hideQ hg1
    clear hno hr1 hg1
    go_wp2
    go_ret
    rw [unhideQ HF]
    exact ⟨rfl, unhideQ G1, vs, ⟨unhideQ H1, fun k hk => row_kept ((unhideQ HS).row k hk) (unhideQ G1) hb, (unhideQ HS).new, (unhideQ HS).fit, (unhideQ HS).apart⟩⟩
end Go.Proofs.YtobempobmokkcaaGreatDoor
