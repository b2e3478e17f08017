/-
  Encodes: lists of numbers by their contracts. Own work of the verifier.
-/
import Derived.Test.YthnmdbddfmgdlaaDoorEncW
namespace Go.Proofs.YthnmdbddfmgdlaaDoor
open Go.RowKit

def seqE (a c : Option (List UInt8)) : Option (List UInt8) := match a with
  | none => none
  | some x => match c with
    | none => none
    | some y => some (x ++ y)
def encAll {α : Type} (one : α → Option (List UInt8)) : List α → Option (List UInt8)
  | [] => some []
  | x :: xs => seqE (one x) (encAll one xs)
def encL {α : Type} (lo hi : Int) (one : α → Option (List UInt8)) (xs : List α) : Option (List UInt8) := seqE (encNum lo hi xs.length) (encAll one xs)
theorem encAll_snoc {α : Type} (one : α → Option (List UInt8)) : ∀ (xs : List α) (x : α), encAll one (xs ++ [x]) = seqE (encAll one xs) (one x)
  | [], x => by
    simp only [List.nil_append, encAll, seqE]
    cases one x <;> simp
  | y :: xs, x => by
    simp only [List.cons_append, encAll, encAll_snoc one xs x]
    cases one y with
    | none => rfl
    | some a =>
      cases encAll one xs with
      | none => rfl
      | some c =>
        cases one x with
        | none => rfl
        | some d => simp [seqE]
theorem encAll_none {α : Type} (one : α → Option (List UInt8)) : ∀ (xs ys : List α), encAll one xs = none → encAll one (xs ++ ys) = none
  | [], ys, h => by cases h
  | x :: xs, ys, h => by
    simp only [List.cons_append, encAll] at h ⊢
    cases hx : one x with
    | none => rfl
    | some a =>
      rw [hx] at h
      simp only [seqE] at h ⊢
      cases hxs : encAll one xs with
      | none => rw [encAll_none one xs ys hxs]
      | some c => rw [hxs] at h; cases h
/-- A list of numbers that lies below the writer. -/
def RsB (w : World) (b : Nat) (v : Value) (ns : List Int) : Prop := (ns = [] ∧ ∃ p cap, v = .slice p 0 cap) ∨ ∃ sb so cap, v = .slice (some ⟨sb, so, none⟩) ns.length cap ∧ sb < b ∧ ∀ i, i < ns.length → w.cell? ⟨sb, so + i, none⟩ = some (.int .i64 (ns.getD i 0))
theorem RsB.ws {w w' : World} {b : Nat} {v : Value} {ns : List Int} (h : RsB w b v ns) (hw : Ws w w' b) : RsB w' b v ns := by
  rcases h with h | ⟨sb, so, cap, h1, h2, h3⟩
  · exact Or.inl h
  · exact Or.inr ⟨sb, so, cap, h1, h2, fun i hi => (hw.low.cell (p := ⟨sb, so + i, none⟩) h2).trans (h3 i hi)⟩
theorem RsB.shape {w : World} {b : Nat} {v : Value} {ns : List Int} (h : RsB w b v ns) : ∃ p cap, v = .slice p ns.length cap := by
  rcases h with ⟨rfl, p, cap, e⟩ | ⟨sb, so, cap, e, _⟩
  · exact ⟨p, cap, e⟩
  · exact ⟨_, _, e⟩
theorem getD_mid {ns : List Int} {k : Nat} (hk : k < ns.length) : ns.take (k + 1) = ns.take k ++ [ns.getD k 0] := by
  rw [List.take_succ_eq_append_getElem hk]
  simp [List.getD, hk]
theorem encNum_len {lo hi x : Int} {bs : List UInt8} (h : encNum lo hi x = some bs) : bs.length = 1 := by
  unfold encNum at h
  split at h
  · cases h; rfl
  · cases h
theorem encAll_len {α : Type} (one : α → Option (List UInt8)) (K : Nat) (hK : ∀ x bs, one x = some bs → bs.length ≤ K) : ∀ (xs : List α) (bs : List UInt8), encAll one xs = some bs → bs.length ≤ K * xs.length
  | [], bs, h => by cases h; simp
  | x :: xs, bs, h => by
    simp only [encAll] at h
    cases hx : one x with
    | none => rw [hx] at h; cases h
    | some a =>
      rw [hx] at h
      cases hxs : encAll one xs with
      | none => rw [hxs] at h; cases h
      | some c =>
        rw [hxs] at h
        cases h
        have h1 := hK x a hx
        have h2 := encAll_len one K hK xs c hxs
        simp only [List.length_append, List.length_cons, Nat.mul_add, Nat.mul_one]
        omega
theorem seqE_some {a c : Option (List UInt8)} {bs : List UInt8} (h : seqE a c = some bs) : ∃ x y, a = some x ∧ c = some y ∧ bs = x ++ y := by
  unfold seqE at h
  split at h
  · cases h
  · split at h
    · cases h
    · injection h with h; exact ⟨_, _, rfl, rfl, h.symm⟩
theorem seqE_len {a c : Option (List UInt8)} {bs : List UInt8} {A C : Nat} (ha : ∀ x, a = some x → x.length ≤ A) (hc : ∀ x, c = some x → x.length ≤ C) (h : seqE a c = some bs) : bs.length ≤ A + C := by
  obtain ⟨x, y, h1, h2, rfl⟩ := seqE_some h
  have := ha x h1
  have := hc y h2
  simp; omega
theorem encL_len {α : Type} (one : α → Option (List UInt8)) (K : Nat) (hK : ∀ x bs, one x = some bs → bs.length ≤ K) (lo : Int) (hi : Nat) (xs : List α) (bs : List UInt8) (h : encL lo hi one xs = some bs) : bs.length ≤ 1 + K * hi := by
  obtain ⟨x, y, h1, h2, rfl⟩ := seqE_some h
  have e1 := encNum_len h1
  have e2 := encAll_len one K hK xs y h2
  have h3 : xs.length ≤ hi := by
    unfold encNum at h1
    split at h1
    · omega
    · cases h1
  have := Nat.mul_le_mul_left K h3
  simp; omega
set_option maxHeartbeats 2000000 in
set_option maxRecDepth 100000 in
theorem writeInts_c (F : Nat) (hcf : ∀ args w, (callFunc F args).run Tryd.prog w = .ok (.enter F args) w) (one : Int → Option (List UInt8)) (K : Nat) (hK : ∀ x bs, one x = some bs → bs.length ≤ K) (hK2 : K ≤ 1000000) (b : Nat) (M : Nat) (hM : M ≤ 90000000000)
    (hone : ∀ x v l w, Wt w b v l → l.length ≤ M + 1000000001 → Calls Tryd.prog F #[.pointer (some ⟨b, 0, none⟩), .int .i64 x] w (EncE b l (one x) w))
    (lo hi : Int) (hhi : hi ≤ 1000) (v : Value) (l : List UInt8) (lv : Value) (ns : List Int) (w : World) (h : Wt w b v l) (hl : l.length ≤ M) (hns : RsB w b lv ns) (hlen : ns.length < 9223372036854775808) :
    Calls Tryd.prog 59 #[.pointer (some ⟨b, 0, none⟩), lv, .int .i64 lo, .int .i64 hi, .func (.func F) #[.pointer (some ⟨b, 0, none⟩)] #[]] w (EncE b l (encL lo hi one ns) w) := by
  obtain ⟨pp, cap, hlv⟩ := hns.shape
  have HN := hideE hns
  subst hlv
  have HNC := hideE (number_c b v l ns.length lo hi w h (by omega))
  have HONE := hideE hone
  have HK := hideE hK
  clear hone hK h hns
  go_enter Tryd.func59, Tryd.ntmps59
  go_wp2_with fail
  refine (unhideE HNC).mono ?_
  rintro e w1 ⟨hws, hm⟩
  cases hr : encNum lo hi ns.length with
  | none =>
    rw [hr] at hm
    subst hm
    refine ⟨rfl, hws, ?_⟩
    unfold encL
    rw [hr]
    rfl
  | some bs =>
    rw [hr] at hm
    obtain ⟨rfl, v1, hw1⟩ := hm
    have hb1 := encNum_len hr
    have hle : lo ≤ ns.length ∧ (ns.length : Int) ≤ hi := by
      unfold encNum at hr
      split at hr
      · assumption
      · cases hr
    have HWS := hideE hws
    have HW1 := hideE hw1
    have HR := hideE hr
    clear hws hw1 hr HNC
    go_wp2_with fail
    go_loopw [20] (fun j w' => ∃ (k : Nat) (v' : Value) (cs : List UInt8), j = .int .i64 k ∧ k ≤ ns.length ∧ Ws w w' b ∧ encAll one (ns.take k) = some cs ∧ Wt w' b v' (l ++ bs ++ cs)) (fun j _ => ns.length - (intOf j).toNat)
    case atStart => exact ⟨0, v1, [], rfl, by omega, unhideE HWS, by simp [encAll], by simpa using unhideE HW1⟩
    case round =>
      obtain ⟨k, v', cs, rfl, hk, hws', hcs, hwt⟩ := hrel
      have hcl := encAll_len one K (unhideE HK) _ _ hcs
      have HWS' := hideE hws'
      have HCS := hideE hcs
      have HWT := hideE hwt
      clear hws' hcs hwt
      by_cases hlt : k < ns.length
      · obtain ⟨sb, so, cap', hv, hsb, hc⟩ := ((unhideE HN).ws (unhideE HWS')).resolve_left (fun c => by rw [c.1] at hlt; simp at hlt)
        injection hv with e1 e2 e3
        subst e1
        have cc := hc k hlt
        have hkl : K * (ns.take k).length ≤ 1000000 * 1000 := Nat.mul_le_mul hK2 (by simp; omega)
        have HCALL := hideE (unhideE HONE (ns.getD k 0) v' (l ++ bs ++ cs) wr (unhideE HWT) (by simp [hb1]; omega))
        have hsn := encAll_snoc one (ns.take k) (ns.getD k 0)
        rw [← getD_mid hlt, unhideE HCS] at hsn
        have HSN := hideE hsn
        have HAN := hideE (fun hn => encAll_none one (ns.take (k + 1)) (ns.drop (k + 1)) hn)
        clear hc hsn e2 e3
        generalize ns.getD k 0 = y at cc HCALL HSN
        go_wp2_with fail
        refine (unhideE HCALL).mono ?_
        rintro e w2 ⟨hws2, hm⟩
        cases hy : one y with
        | none =>
          rw [hy] at hm
          subst hm
          refine ⟨rfl, (unhideE HWS').trans hws2, ?_⟩
          have h1 := unhideE HSN
          rw [hy] at h1
          have h2 := unhideE HAN h1
          rw [List.take_append_drop] at h2
          unfold encL
          rw [unhideE HR, h2]
          rfl
        | some ys =>
          rw [hy] at hm
          obtain ⟨rfl, v2, hw2⟩ := hm
          have h1 := unhideE HSN
          rw [hy] at h1
          have HS2 := hideE h1
          have HW2 := hideE hw2
          have HWS2 := hideE ((unhideE HWS').trans hws2)
          clear hws2 hw2 h1 hy
          go_wp2
          go_roundw
          case rel => exact ⟨k + 1, v2, cs ++ ys, by go_num, by omega, unhideE HWS2, unhideE HS2, by rw [← List.append_assoc]; exact unhideE HW2⟩
          case measure => simp [intOf]; omega
      · obtain rfl : k = ns.length := by omega
        have h1 := unhideE HCS
        rw [List.take_length] at h1
        have HC1 := hideE h1
        clear h1
        go_wp2
        refine bodyPost_end (results_none (fn := Tryd.f59) rfl _ _ _) rfl ?_
        refine ⟨unhideE HWS', ?_⟩
        unfold encL
        rw [unhideE HR, unhideE HC1]
        simp only [seqE]
        exact ⟨trivial, v', by rw [← List.append_assoc]; exact unhideE HWT⟩
end Go.Proofs.YthnmdbddfmgdlaaDoor
