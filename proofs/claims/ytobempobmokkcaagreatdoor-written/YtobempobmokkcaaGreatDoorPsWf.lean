/-
  Parses: the pieces that a text is cut into are pieces of it; hasAll. Own work of the verifier.
-/
import Derived.Test.YtobempobmokkcaaGreatDoorPsNums
namespace Go.Proofs.YtobempobmokkcaaGreatDoor
open Go.RowKit

theorem addR_wf {s : ByteArray} {l : List Tk} {k p : Nat} (h : WfT s l) (hp : p < s.size) (hk : kindN (s.get! p).toNat = k) (h3 : 3 ≤ k ∧ k ≤ 6) : WfT s (addR l k p) := by
  have hnew : WfT s (l ++ [⟨k, p, p + 1⟩]) := fun t ht => by
    rcases List.mem_append.1 ht with h1 | h1
    · exact h t h1
    · simp at h1
      subst h1
      exact ⟨by simp, hp, h3.1, h3.2, fun i h4 h5 => by
        have h4' : p ≤ i := h4
        have h5' : i < p + 1 := h5
        have : i = p := by omega
        subst this; exact hk⟩
  unfold addR
  split
  · rename_i t ht
    split
    · rename_i hc
      obtain ⟨hc1, hc2, hc3⟩ := hc
      have hl : t ∈ l := List.mem_of_getLast? ht
      obtain ⟨a1, a2, a3, a4, a5⟩ := h t hl
      intro u hu
      rcases List.mem_append.1 hu with h1 | h1
      · exact h u (List.dropLast_subset l h1)
      · simp at h1
        subst h1
        refine ⟨show t.a < p + 1 by omega, hp, a3, a4, fun i h4 h5 => ?_⟩
        have h4' : t.a ≤ i := h4
        have h5' : i < p + 1 := h5
        show _ = t.k
        by_cases hi : i = p
        · subst hi; rw [hk, hc2]
        · exact a5 i h4' (by omega)
    · exact hnew
  · exact hnew
theorem cutF_wf {s : ByteArray} : ∀ (f p : Nat) (c : Bool) (acc l : List Tk), cutF s f p c acc = .inr l → WfT s acc → WfT s l ∧ l.length + p ≤ acc.length + max p s.size
  | 0, p, c, acc, l, h, hw => by
    simp only [cutF, Sum.inr.injEq] at h
    subst h
    exact ⟨hw, by omega⟩
  | f + 1, p, c, acc, l, h, hw => by
    have hd := dec_pos s p
    by_cases hp : p < s.size
    · have hfit := dec_fit s p hp
      cases c with
      | true =>
        simp only [cutF, hp, if_true] at h
        split at h
        · cases h
        · have := cutF_wf f _ _ acc l h hw
          exact ⟨this.1, by have := this.2; omega⟩
      | false =>
        simp only [cutF, hp, if_true, Bool.false_eq_true, if_false] at h
        split at h
        · cases h
        · rename_i h0
          split at h
          · have := cutF_wf f _ _ acc l h hw
            exact ⟨this.1, by have := this.2; omega⟩
          · split at h
            · have := cutF_wf f _ _ acc l h hw
              exact ⟨this.1, by have := this.2; omega⟩
            · have h6 := kindN_le (Utf8.decode s p).1
              have := cutF_wf f _ _ _ l h (addR_wf hw hp (dec_kind s p).symm ⟨by omega, h6⟩)
              have h7 := addR_len acc (kindN (Utf8.decode s p).1) p
              exact ⟨this.1, by have := this.2; omega⟩
    · simp only [cutF, hp, if_false, Sum.inr.injEq] at h
      subst h
      exact ⟨hw, by omega⟩
theorem cut_wf {s : ByteArray} {l : List Tk} (h : cutF s s.size 0 false [] = .inr l) : WfT s l ∧ l.length ≤ s.size := by
  have := cutF_wf _ _ _ _ _ h (fun t ht => by cases ht)
  exact ⟨this.1, by have := this.2; simp at this; omega⟩
def allB (sn : Nat → Bool) : Bool := (List.range 10).all sn
set_option maxHeartbeats 2000000 in
set_option maxRecDepth 100000 in
theorem hasAll_c (w : World) (b : Nat) (s : ByteArray) (v : Value) (i : Nat) (sn : Nat → Bool) (vs : Nat → Value) (h : Rdr w b s v i sn vs) (hI : Itm w) :
    Calls Tryz.prog 58 #[.pointer (some ⟨b, 0, none⟩)] w fun e w' => e = .returned (.bool (allB sn)) ∧ w' = w := by
  have HR := hideQ h
  have HI := hideQ hI
  clear h hI
  go_enter Tryz.func58, Tryz.ntmps58
  go_wp2_with fail
  go_loopw [4] (fun j w2 => ∃ k : Nat, j = .int .i64 k ∧ w2 = w ∧ k ≤ 11 ∧ ∀ q, q < k → q < 10 → sn q = true) (fun j _ => 11 - (intOf j).toNat)
  case atStart => exact ⟨0, rfl, rfl, by omega, fun i hi => by omega⟩
  case round =>
    obtain ⟨k, rfl, rfl, hk, hall⟩ := hrel
    by_cases hk2 : k < 11
    · have cs := (unhideQ HR).seen k hk2
      have cp := (unhideQ HI).spare k hk2
      have HA := hideQ hall
      clear hall
      cases hsn : sn k with
      | true =>
        rw [hsn] at cs
        go_wp2
        go_roundw
        case rel => exact ⟨k + 1, by go_num, by trivial, by omega, fun q hq hq2 => by
          rcases Nat.lt_succ_iff_lt_or_eq.1 hq with h | h
          · exact unhideQ HA q h hq2
          · subst h; exact hsn⟩
        case measure => simp [intOf]; omega
      | false =>
        rw [hsn] at cs
        by_cases h10 : k = 10
        · subst h10
          simp only [decide_true] at cp
          go_wp2
          go_roundw
          case rel => exact ⟨11, by go_num, by trivial, by omega, fun q hq hq2 => unhideQ HA q (by omega) hq2⟩
          case measure => simp [intOf]
        · have hno : allB sn = false := by
            unfold allB
            rw [List.all_eq_false]
            exact ⟨k, List.mem_range.2 (by omega), by simp [hsn]⟩
          simp only [h10, decide_false] at cp
          go_wp2
          go_ret
          exact ⟨by rw [hno]; rfl, rfl⟩
    · have hk3 : k = 11 := by omega
      subst hk3
      have hyes : allB sn = true := by
        unfold allB
        rw [List.all_eq_true]
        exact fun q hq => hall q (by have := List.mem_range.1 hq; omega) (List.mem_range.1 hq)
      clear hall
      go_wp2
      go_ret
      exact ⟨by rw [hyes]; rfl, rfl⟩
end Go.Proofs.YtobempobmokkcaaGreatDoor
