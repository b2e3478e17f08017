/-
  Decodes: the reference's lists of numbers. Own work of the verifier.
-/
import Derived.Test.YthnmdbddfmgdlaaDoorDecQ
namespace Go.Proofs.YthnmdbddfmgdlaaDoor
open Go.RowKit

theorem gb_own {w u u' : World} {b : Nat} {v : Value} (h : w.grownBy u (some b)) (k : u.grownBy u' v.ownBlock) (hv : ∀ g, v.ownBlock = some g → w.heap.size ≤ g) : w.grownBy u' (some b) :=
  ⟨k.os.trans h.os, k.tape.trans h.tape, k.output.trans h.output, Nat.le_trans h.size k.size, fun q hq hr => (k.block q (Nat.lt_of_lt_of_le hq h.size) (fun e => by have := hv q e.symm; omega)).trans (h.block q hq hr)⟩
theorem OwnL.snoc {w : World} {B T size : Nat} {v : Value} {cs : List (Array Value)} {c : Array Value} {n : Nat} {xs : List Value} (h : w.ownsRow B T size v n xs) (hn : n = (cs ++ [c]).length) (hx : xs = flat (cs ++ [c])) (hcs : ∀ d ∈ cs, d.size = size) (hc : c.size = size) : OwnL w B T size v (cs ++ [c]) := by
  subst hn hx
  exact ⟨h, fun d hd => by
    rcases List.mem_append.1 hd with hd | hd
    · exact hcs d hd
    · simp at hd; subst hd; exact hc⟩
theorem OwnL.own {w : World} {B T size : Nat} {v : Value} {cs : List (Array Value)} (h : OwnL w B T size v cs) : ∀ g, v.ownBlock = some g → B ≤ g ∧ g < w.heap.size := h.1.lt
theorem own_shape {w : World} {B T size n : Nat} {v : Value} {xs : List Value} (h : w.ownsRow B T size v n xs) : ∃ p c, v = .slice p n c := by
  rcases h.2 with ⟨e, e0⟩ | ⟨g, cap, cur, e, -⟩
  · exact ⟨none, 0, by rw [e0]; exact e⟩
  · exact ⟨_, _, e⟩
theorem own_slice {w : World} {B T size n : Nat} {v : Value} {xs : List Value} (h : w.ownsRow B T size v (n + 1) xs) : ∃ g c, v = .slice (some ⟨g, 0, none⟩) (n + 1) c := by
  rcases h.2 with ⟨e, e0⟩ | ⟨g, cap, cur, e, -⟩
  · omega
  · exact ⟨_, _, e⟩
theorem dRep_len {α : Type} {one : Dec α} : ∀ (k : Nat) {a a' : Nat} {xs : List α}, dRep one k a = .ok (xs, a') → xs.length = k
  | 0, a, a', xs, h => by injection h with h; injection h with h1 h2; subst h1; rfl
  | k + 1, a, a', xs, h => by
    unfold dRep at h
    cases h1 : dRep one k a with
    | error q => rw [h1] at h; cases h
    | ok p =>
      obtain ⟨ys, a1⟩ := p
      rw [h1, dBind_ok] at h
      cases h2 : one a1 with
      | error q => rw [h2] at h; cases h
      | ok p =>
        obtain ⟨z, a2⟩ := p
        rw [h2, dBind_ok] at h
        injection h with h
        injection h with h3 h4
        rw [← h3, List.length_append, dRep_len k h1]
        rfl
theorem int_pred {m : Nat} (h : 0 < m) : Value.int .i64 ((m : Int) - 1) = .int .i64 ((m - 1 : Nat) : Int) := by
  congr 1
  omega
/-- What becomes of a call of the eye's that hands a list back. -/
def LstE {α : Type} (b : Nat) (s : ByteArray) (RV : World → Nat → Value → List α → Prop) (r : Except Nat (List α × Nat)) (w : World) (e : Ending) (w' : World) : Prop :=
  w.grownBy w' (some b) ∧ ∃ v, e = .returned v ∧ EyS w' b s (stOf r) ∧ (∃ p n c, v = .slice p n c) ∧ ∀ xs a, r = .ok (xs, a) → RV w' w.heap.size v xs
theorem Tryd.infoIntD : (Tryd.prog.info? 3).map (fun i => (i.zero, i.size, i.bytes)) = some (some (.int .i64 0), 1, 8) := by kernel_rfl
set_option maxHeartbeats 4000000 in
set_option maxRecDepth 100000 in
theorem enums_c (b : Nat) (s : ByteArray) (st : Stt) (most lo hi : Int) (w : World) (h : EyS w b s st) (hm : most ≤ 1000) : Calls Tryd.prog 22 #[.pointer (some ⟨b, 0, none⟩), .int .i64 most, .int .i64 lo, .int .i64 hi] w (LstE b s RepI (sBind st (dList s 0 most (dNum s lo hi))) w) := by
  obtain ⟨ti, hti, hz0, hz1, hz2⟩ := info_partsE Tryd.infoIntD
  have hbw := h.lt
  have HN := hideE (enum_c b s st 0 most w h)
  clear h
  cases hr : sBind st (dNum s 0 most) with
  | error q =>
    have HD := hideE (show sBind st (dList s 0 most (dNum s lo hi)) = .error q by
      cases st with
      | error q' => injection hr with hr; subst hr; rfl
      | ok a => show dBind (dNum s 0 most a) _ = _; rw [show dNum s 0 most a = .error q from hr]; rfl)
    rw [hr] at HN
    clear hr
    go_enter Tryd.func22, Tryd.ntmps22
    go_wp2_with fail
    refine (unhideE HN).mono ?_
    rintro e w1 ⟨rfl, hg1, hE1⟩
    have HG1 := hideE hg1
    have HE1 := hideE hE1
    clear hg1 hE1
    simp only [valOr]
    go_wp2_with fail
    refine wp_loop_rounds 1 ?_
    rw [rounds_succ]
    go_wp2
    go_ret
    rw [unhideE HD]
    exact ⟨unhideE HG1, _, rfl, unhideE HE1, ⟨_, _, _, rfl⟩, fun xs a h => by cases h⟩
  | ok p =>
    obtain ⟨nv, a1⟩ := p
    obtain ⟨a0, rfl, hd0⟩ : ∃ a0, st = .ok a0 ∧ dNum s 0 most a0 = .ok (nv, a1) := by
      cases st with
      | error q' => cases hr
      | ok a => exact ⟨a, rfl, hr⟩
    obtain ⟨hn0, hn1⟩ := dNum_bd hd0
    obtain ⟨N, rfl⟩ := Int.eq_ofNat_of_zero_le hn0
    have HD := hideE (show sBind (.ok a0) (dList s 0 most (dNum s lo hi)) = dRep (dNum s lo hi) N a1 by show dBind (dNum s 0 most a0) _ = _; rw [hd0]; rfl)
    rw [hr] at HN
    clear hr hd0 hn0
    go_enter Tryd.func22, Tryd.ntmps22
    go_wp2_with fail
    refine (unhideE HN).mono ?_
    rintro e w1 ⟨rfl, hg1, hE1⟩
    have HG1 := hideE hg1
    have HE1 := hideE hE1
    clear hg1 hE1
    simp only [valOr]
    go_wp2_with fail
    go_loopw [9, 10] (fun l n w' => ∃ m : Nat, n = .int .i64 m ∧ m ≤ N ∧ w.grownBy w' (some b) ∧ ((∃ xs ak, dRep (dNum s lo hi) (N - m) a1 = .ok (xs, ak) ∧ EyS w' b s (.ok ak) ∧ RepI w' w.heap.size l xs) ∨ (∃ q, dRep (dNum s lo hi) N a1 = .error q ∧ EyS w' b s (.error q) ∧ ∃ p nn c, l = .slice p nn c))) (fun _ n _ => (intOf n).toNat)
    case atStart => exact ⟨N, rfl, Nat.le_refl _, unhideE HG1, Or.inl ⟨[], a1, by rw [Nat.sub_self]; rfl, unhideE HE1, RepL.nil _ _ _ _ _⟩⟩
    case round =>
      obtain ⟨m, rfl, hmN, hgb, hst⟩ := hrel
      rcases hst with ⟨xs, ak, hrep, hEy, hl⟩ | ⟨q, hrep, hEy, p, nn, c, rfl⟩
      · have c2 : wr.cell? ⟨b, 2, none⟩ = some (.int .i64 (-1)) := Ey.c2 hEy
        by_cases hm0 : m = 0
        · subst hm0
          have HREP := hideE hrep
          have HEY := hideE hEy
          have HL := hideE hl
          have HGB := hideE hgb
          obtain ⟨lp, lc, hsh⟩ := hl.shape
          subst hsh
          clear hrep hEy hl hgb
          go_wp2
          go_ret
          have h3 := unhideE HREP
          rw [Nat.sub_zero] at h3
          rw [unhideE HD, h3]
          exact ⟨unhideE HGB, _, rfl, unhideE HEY, ⟨_, _, _, rfl⟩, fun ys a h => by injection h with h; injection h with h1 h2; subst h1; exact unhideE HL⟩
        · have hmp : (0 : Int) < m := by omega
          obtain ⟨cs, hown, hall⟩ := hl
          have hcl := hall.len
          have HC := hideE (enum_c b s (.ok ak) lo hi wr hEy)
          have HNX := hideE (dRep_next hrep)
          have HGB := hideE hgb
          have HOWN := hideE hown
          have HALL := hideE hall
          obtain ⟨lp, lc, hsh⟩ := own_shape hown.1
          subst hsh
          have hlN : xs.length = N - m := dRep_len _ hrep
          have HLV := hideE (show ∀ g, (Value.slice lp cs.length lc).ownBlock = some g → w.heap.size ≤ g from fun g hg => (hown.own g hg).1)
          have hbr := (EyS.lt hEy : b < wr.heap.size)
          have hsz := hgb.size
          have hcn : cs.length ≤ 1000 := by omega
          clear hrep hEy hgb hown hall hlN hcl
          go_wp2_with fail
          refine (unhideE HC).mono ?_
          rintro e w2 ⟨rfl, hg2, hE2⟩
          have hE2' : EyS w2 b s (stOf (dNum s lo hi ak)) := hE2
          have hs2 := hg2.size
          have HOW2 := hideE ((unhideE HOWN).keep (Nat.le_refl _) (KeptOn.of_gb hg2 hbw))
          have HG2 := hideE (gb_tr (unhideE HGB) hg2)
          have HE2 := hideE hE2'
          obtain ⟨x, hx⟩ : ∃ x, x = valOr (dNum s lo hi ak) := ⟨_, rfl⟩
          rw [show valOr (sBind (.ok ak) (dNum s lo hi)) = x from hx.symm]
          have HX := hideE hx
          clear hE2 hE2' hg2 HC HOWN HGB hx
          go_wp2_with (at_builtin; refine wpList_append_own _ rfl _ _ 51 rfl w.heap.size 3 ti _ 1 8 Tryd.underlying51 hti hz0 hz1 hz2 rfl (by decide) _ _ _ rfl ((unhideE HOW2).1.alloc _) ⟨w2.heap.size, 0, none⟩ 1 1 [.int .i64 x] rfl rfl (by intro j u hj; match j, hj with | 0, hj => (simp at hj; subst hj; exact (World.cell?_alloc_at _ _ _ _ (by simp)).trans rfl)) (by intro u hu; simp at hu; subst hu; rfl) ?c3 ?c4 ?c5 ?_)
          case c3 => unfold maxLen; omega
          case c4 => omega
          case c5 => simp; omega
          intro v' w7 hown hgr _
          have hal := gb_alloc w2 (.cells #[.int .i64 x] 3) (some b)
          have hE7 : EyS w7 b s (stOf (dNum s lo hi ak)) := ((unhideE HE2).alloc (.cells #[.int .i64 x] 3)).blk (hgr.block b (by simp; omega) (fun e => by have := unhideE HLV b e.symm; omega))
          have HG7 := hideE (gb_own (gb_tr (unhideE HG2) hal) hgr (unhideE HLV))
          obtain ⟨g7, c7, rfl⟩ := own_slice hown
          have HE7 := hideE hE7
          have HL7 := hideE (OwnL.snoc (cs := cs) (c := #[.int .i64 x]) hown (by simp) (by rw [flat_snoc]) (unhideE HOW2).2 rfl)
          clear hown hgr hal hE7 HOW2 HG2 HE2
          go_wp2
          go_roundw
          case rel =>
            refine ⟨m - 1, int_pred (by omega), by omega, unhideE HG7, ?_⟩
            have e1 : N - (m - 1) = N - m + 1 := by omega
            cases ho : dNum s lo hi ak with
            | ok p =>
              obtain ⟨y, a2⟩ := p
              have h7 := unhideE HE7
              have hn := unhideE HNX
              have hxx := unhideE HX
              rw [ho] at h7 hn hxx
              refine Or.inl ⟨xs ++ [y], a2, by rw [e1]; exact hn, h7, _, unhideE HL7, All2.snoc (unhideE HALL) ?_⟩
              show #[Value.int .i64 x] = #[Value.int .i64 y]
              rw [hxx]
              rfl
            | error q =>
              have h7 := unhideE HE7
              have hn := unhideE HNX
              rw [ho] at h7 hn
              exact Or.inr ⟨q, dRep_err (k := N - m + 1) hn (by omega), h7, _, _, _, rfl⟩
          case measure => simp [intOf]; omega
      · have c2 : wr.cell? ⟨b, 2, none⟩ = some (.int .i64 q) := by obtain ⟨-, a, h⟩ := hEy; exact h.c2
        have HREP := hideE hrep
        have HEY := hideE hEy
        have HGB := hideE hgb
        clear hrep hEy hgb
        have hq : ¬ ((q : Int) < 0) := by omega
        by_cases hm0 : m = 0
        · subst hm0
          go_wp2
          go_ret
          rw [unhideE HD, unhideE HREP]
          exact ⟨unhideE HGB, _, rfl, unhideE HEY, ⟨_, _, _, rfl⟩, fun ys a h => by cases h⟩
        · have hmp : (0 : Int) < m := by omega
          go_wp2
          go_ret
          rw [unhideE HD, unhideE HREP]
          exact ⟨unhideE HGB, _, rfl, unhideE HEY, ⟨_, _, _, rfl⟩, fun ys a h => by cases h⟩
end Go.Proofs.YthnmdbddfmgdlaaDoor
