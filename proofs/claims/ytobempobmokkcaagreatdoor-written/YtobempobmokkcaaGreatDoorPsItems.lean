/-
  Parses: the reader: readItems. Own work of the verifier.
-/
import Derived.Test.YtobempobmokkcaaGreatDoorPsItem
namespace Go.Proofs.YtobempobmokkcaaGreatDoor
open Go.RowKit

def itemsF (s : ByteArray) (l : List Tk) : Nat → RSt → Bool × RSt
  | 0, S => (true, S)
  | f + 1, S => if S.i < l.length then (if (itemF s l S).1 then itemsF s l f (itemF s l S).2 else (false, (itemF s l S).2)) else (true, S)
theorem numsF_ge (s : ByteArray) (l : List Tk) (k : Nat) : ∀ (f i : Nat) (ns : List Int), i ≤ (numsF s l k f i ns).1
  | 0, i, ns => Nat.le_refl _
  | f + 1, i, ns => by
    unfold numsF
    split
    · split
      · have := numsF_ge s l k f (i + 1) (ns ++ [‹Int›]); omega
      · exact Nat.le_refl _
    · exact Nat.le_refl _
theorem itemF_on {s : ByteArray} {l : List Tk} {S : RSt} (h : (itemF s l S).1 = true) : S.i < (itemF s l S).2.i := by
  unfold itemF at h ⊢
  split at h
  · simp at h
  · rename_i k _
    have := numsF_ge s l k 13 (S.i + 1) []
    split at h
    · split at h
      · rename_i h1 h2; simp only [h1, h2, if_true]; omega
      · simp at h
    · simp at h
theorem RS.below {s : ByteArray} {l : List Tk} {W0 : Nat} {w w' : World} {b : Nat} {v : Value} {S : RSt} {vs : Nat → Value} (h : RS s l W0 w b v S vs) (hb : Below w.heap.size w w') : RS s l W0 w' b v S vs :=
  ⟨h.rdr.below hb, fun k hk => World.ownsRow.kept (h.row k hk) (gb_of_below (row := none) hb) (by cases (vs k).ownBlock <;> simp), h.new, h.fit, h.apart⟩
def numV : Option Value → Nat
  | some (.int _ n) => n.toNat
  | _ => 0
set_option maxHeartbeats 4000000 in
set_option maxRecDepth 100000 in
theorem readItems_c (w : World) (b base W0 : Nat) (s : ByteArray) (v : Value) (S0 : RSt) (vs : Nat → Value) (l : List Tk) (h : RS s l W0 w b v S0 vs) (hb : b < W0) (hW : W0 ≤ w.heap.size) (ho : Own3 w base v l) (hvb : v.ownBlock ≠ some b) (hl : l.length ≤ 400) (hw : WfT s l) (hI : Itm w) (hbI : 1 ≠ b) :
    Calls Tryz.prog 57 #[.pointer (some ⟨b, 0, none⟩)] w fun e w' => e = .returned (.bool (itemsF s l l.length S0).1) ∧ w.grownBy w' (some b) ∧ ∃ vs', RS s l W0 w' b v (itemsF s l l.length S0).2 vs' := by
  have HS := hideQ h
  have HO := hideQ ho
  have HW := hideQ hw
  have HI := hideQ hI
  clear h ho hw hI
  obtain ⟨a, cap, rfl⟩ : ∃ a cap, v = .slice a l.length cap := by
    rcases (unhideQ HO).shape with ⟨e, rfl⟩ | ⟨g, cap, rfl⟩
    · subst e; exact ⟨_, _, rfl⟩
    · exact ⟨_, _, rfl⟩
  go_enter Tryz.func57, Tryz.ntmps57
  go_wp2_with fail
  go_loopw [3] (fun _ wr => ∃ S vs f, RS s l W0 wr b (.slice a l.length cap) S vs ∧ w.grownBy wr (some b) ∧ itemsF s l f S = itemsF s l l.length S0 ∧ l.length ≤ S.i + f) (fun _ wr => l.length - numV (wr.cell? ⟨b, 2, none⟩))
  case atStart => exact ⟨S0, vs, l.length, unhideQ HS, ⟨rfl, rfl, rfl, Nat.le_refl _, fun _ _ _ => rfl⟩, rfl, by omega⟩
  case round =>
    obtain ⟨S, vs, f, hR, hg, hE, hf⟩ := hrel
    have c1 := hR.rdr.pcs
    have c2 := hR.rdr.nxt
    have hfit := hR.fit
    have HR := hideQ hR
    have HG := hideQ hg
    clear hR hg
    by_cases hlt : S.i < l.length
    · obtain ⟨f, rfl⟩ : ∃ f', f = f' + 1 := ⟨f - 1, by omega⟩
      have hgd : w.grownBy wr.drew (some b) := gb_trans (unhideQ HG) (gb_of_below (by go_grown))
      have HC := hideQ (readItem_c wr.drew b base W0 s _ S vs l ((unhideQ HR).below (by go_grown)) hb (Nat.le_trans hW hgd.size) ((unhideQ HO).grown hgd hvb) hvb hl (unhideQ HW) ((unhideQ HI).grown hgd hbI) hbI hlt)
      have hstep : itemsF s l (f + 1) S = if (itemF s l S).1 then itemsF s l f (itemF s l S).2 else (false, (itemF s l S).2) := by simp [itemsF, hlt]
      rw [hstep] at hE
      have hon := fun h => itemF_on (s := s) (l := l) (S := S) h
      generalize hIF : itemF s l S = r at *
      obtain ⟨ok, S'⟩ := r
      have HE := hideQ hE
      have HON := hideQ hon
      clear hE hon hstep hIF
      go_wp2
      go_region
      all_goals go_wp2_with fail
      all_goals refine (unhideQ HC).mono ?_
      all_goals rintro e w1 ⟨rfl, hg1, vs1, hR1⟩
      all_goals
        have G1 := hideQ (gb_trans hgd hg1)
        have c3 := hR1.rdr.nxt
        have HR1 := hideQ hR1
        clear hg1 hR1
        cases ok with
        | true =>
          have hlt2 := unhideQ HON rfl
          go_wp2
          go_roundw
          case rel => exact ⟨S', vs1, f, unhideQ HR1, unhideQ G1, by simpa using unhideQ HE, by first | omega | (simp at hlt2; omega)⟩
          case measure =>
            rw [c3, c2]
            simp only [numV]
            have : S.i < S'.i := hlt2
            omega
        | false =>
          have hE2 : itemsF s l l.length S0 = (false, S') := by simpa using (unhideQ HE).symm
          have HE2 := hideQ hE2
          clear hE2
          go_wp2
          go_ret
          rw [unhideQ HE2]
          exact ⟨rfl, unhideQ G1, vs1, unhideQ HR1⟩
    · have hE2 : itemsF s l l.length S0 = (true, S) := by
        rw [← hE]
        cases f <;> simp [itemsF, hlt]
      have HE2 := hideQ hE2
      clear hE2 hE
      go_wp2
      go_region
      all_goals go_wp2
      all_goals go_ret
      all_goals rw [unhideQ HE2]
      all_goals exact ⟨rfl, gb_trans (unhideQ HG) (gb_of_below (by go_grown)), vs, (unhideQ HR).below (by go_grown)⟩
end Go.Proofs.YtobempobmokkcaaGreatDoor
