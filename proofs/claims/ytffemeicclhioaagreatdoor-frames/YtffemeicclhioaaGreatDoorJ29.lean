/-
  Own work of the verifier: FrQ, FrR, as one text.
-/
import Derived.Test.YtffemeicclhioaaGreatDoorFrG
namespace Go.Proofs.YtffemeicclhioaaGreatDoor
open Go.RowKit

theorem firstN_good {n : Nat} {ok : Nat → Bool} (h : firstN n ok = none) : ∀ k, k < n → ok k = true := fun k hk => by
 unfold firstN at h
 rw [List.find?_eq_none] at h
 have := h k (List.mem_range.2 hk)
 simpa using this
theorem chk_good {tab : Bool} {r : Int} {own : List Int} {p : ProgE} (h : (chkB tab r own p).e = 0) : tab = true ∧ countsB p = true ∧ (∀ k, k < p.funcs.length → headB r own (p.funcs.getD k Zaj) = true) ∧ ∀ k, k < p.funcs.length → bodyB p (p.funcs.getD k Zaj) = true := by
 unfold chkB at h
 cases tab with
 | false => simp at h
 | true =>
  cases hc : countsB p with
  | false => rw [hc] at h; simp at h
  | true =>
   rw [hc] at h
   simp only [Bool.true_eq_false, if_false] at h
   cases h1 : firstN p.funcs.length (fun k => headB r own (p.funcs.getD k Zaj)) with
   | some k => rw [h1] at h; simp at h
   | none =>
    rw [h1] at h
    cases h2 : firstN p.funcs.length (fun k => bodyB p (p.funcs.getD k Zaj)) with
    | some k => rw [h2] at h; simp at h
    | none => exact ⟨rfl, rfl, firstN_good h1, firstN_good h2⟩
theorem chk_zero {tab : Bool} {r : Int} {own : List Int} {p : ProgE} (h : (chkB tab r own p).e = 0) : chkB tab r own p = ⟨0, -1, -1, -1⟩ := by
 obtain ⟨h0, h1, h2, h3⟩ := chk_good h
 unfold chkB
 rw [h0, h1, firstN_none h2, firstN_none h3]
 rfl
theorem sgOk_of {s : List Int × Int} (h : sigB s = true) : SgOk s := by
 obtain ⟨ps, n⟩ := s
 obtain ⟨h1, h2, h3, h4⟩ := sig_parts h
 exact ⟨h4, h1, h2, h3⟩
theorem head_sig {r : Int} {own : List Int} {f : FuncE} (h : headB r own f = true) : SgOk (sigE f) ∧ f.homes.length ≤ 12 ∧ f.slots.length ≤ 6 ∧ numsIn f.slots 1 8 = true ∧ inB f.blocks.length 1 12 = true ∧ blocksB f.blocks = true := by
 unfold headB at h
 simp only [Bool.and_eq_true, decide_eq_true_eq] at h
 obtain ⟨-, h2, h3, -, h5, h6, h7, h8, -⟩ := h
 exact ⟨sgOk_of h2, h3, h5, h6, h7, h8⟩
theorem callsOk_of {r : Int} {own : List Int} {P : ProgE} (hc : countsB P = true) (hh : ∀ k, k < P.funcs.length → headB r own (P.funcs.getD k Zaj) = true) (hb : ∀ k, k < P.funcs.length → bodyB P (P.funcs.getD k Zaj) = true) (k0 : Nat) (hk0 : k0 < P.funcs.length) : CallsOk P (P.funcs.getD k0 Zaj) := by
 obtain ⟨g1, g2, g3, g4, g5, g6⟩ := head_sig (hh k0 hk0)
 have hbd := hb k0 hk0
 have hins : ∀ k j, k < (P.funcs.getD k0 Zaj).blocks.length → j < ((P.funcs.getD k0 Zaj).blocks.getD k []).length → Zai P (P.funcs.getD k0 Zaj) (((P.funcs.getD k0 Zaj).blocks.getD k []).getD j noIns) = true := fun k j hk hj => by
  have h := upB_get hbd hk
  have h := upB_get h hj
  unfold okAt insB at h
  simp only [Bool.and_eq_true] at h
  exact h.2.2.2
 generalize P.funcs.getD k0 Zaj = fn at g1 g2 g3 g4 g5 g6 hins
 have hfi : ∀ i, Zai P fn i = true → (i.op = 12 ∨ i.op = 17 → 0 ≤ i.f ∧ i.f < P.funcs.length) ∧ (i.op = 13 → 0 ≤ i.f ∧ i.f < P.externs.length) := fun i h => by
  refine ⟨fun ho => ?_, fun ho => ?_⟩
  ·
   unfold Zai at h
   rcases ho with ho | ho
   ·
    simp only [ho] at h
    simp [inB] at h
    omega
   ·
    simp only [ho] at h
    simp [inB] at h
    omega
  ·
   unfold Zai at h
   simp only [ho] at h
   simp [inB] at h
   omega
 refine ⟨fun k j hk hj => (hfi _ (hins k j hk hj)).1, fun k j hk hj => (hfi _ (hins k j hk hj)).2, fun k j s hk hj hs => ?_, g1, fun k hk => ?_, ?_⟩
 ·
  have h := hfi _ (hins k j hk hj)
  generalize (fn.blocks.getD k []).getD j noIns = i at h hs
  unfold sigAt at hs
  split at hs
  ·
   rename_i ho
   injection hs with hs
   subst hs
   obtain ⟨h0, h1⟩ := h.1 ho
   exact (head_sig (hh i.f.toNat (by omega))).1
  ·
   split at hs
   ·
    rename_i ho
    injection hs with hs
    subst hs
    obtain ⟨h0, h1⟩ := h.2 ho
    unfold countsB at hc
    simp only [Bool.and_eq_true] at hc
    exact sgOk_of (upB_get hc.2.2 (k := i.f.toNat) (by omega))
   ·
    cases hs
 ·
  have h := upB_get g6 hk
  unfold inB at h
  have := of_decide_eq_true h
  omega
 ·
  unfold inB at g5
  have := of_decide_eq_true g5
  omega
theorem fnOk_of {T : TbE} {own : List Int} {fn : FuncE} (ht : tabT T = true) (h : headB T.r own fn = true) : FnOk T fn := by
 obtain ⟨-, h2, h3, h4, -, -⟩ := head_sig h
 unfold tabT tabB numsB lensB at ht
 simp at ht
 refine ⟨fun k hk => ?_, h2, h3, by omega, by omega, by omega, by omega, by omega⟩
 have hq := upB_get h4 hk
 unfold inB at hq
 have hq := of_decide_eq_true hq
 omega
theorem tbOk_of {T : TbE} (ht : tabT T = true) : TbOk T := by
 obtain ⟨h1, h2, h3, h4⟩ := tabT_lens ht
 exact ⟨h1, h2, h3, h4⟩
end Go.Proofs.YtffemeicclhioaaGreatDoor
namespace Go.Proofs.YtffemeicclhioaaGreatDoor
open Go.RowKit

theorem regsB_lt {l : List Int} {c : Int} (h : regsB l c = true) : ∀ x ∈ l, 0 ≤ x ∧ x < c := fun x hx => by
 obtain ⟨i, hi, rfl⟩ := List.getElem_of_mem hx
 unfold regsB at h
 rw [List.all_eq_true] at h
 have h2 := h i (List.mem_range.2 hi)
 unfold regB at h2
 have h3 := of_decide_eq_true h2
 rw [getD_at _ _ _ hi] at h3
 exact ⟨h3.1, h3.2.1⟩
/-- No register of a table is kept that it lacks. -/
theorem savL_all {ss hs : List Int} {R : Nat} (h : ∀ x ∈ ss, x < (R : Int)) : ∀ k, R ≤ k → savL ss hs k = savL ss hs R
 | 0, hk => by rw [Nat.le_zero.1 hk]
 | k + 1, hk => by
  rcases Nat.lt_or_ge k R with h1 | h1
  ·
   rw [show R = k + 1 by omega]
  ·
   rw [savL_next, savL_all h k h1]
   have h2 : ¬ (k : Int) ∈ ss := fun hm => by have := h _ hm; omega
   simp [h2]
theorem tab_saves {T : TbE} (ht : tabT T = true) : ∀ x ∈ T.ss, x < (T.r.toNat : Int) := fun x hx => by
 unfold tabT tabB regsOkB at ht
 simp only [Bool.and_eq_true] at ht
 have hr : 0 ≤ T.r := by have := ht.1.1; unfold numsB at this; have := of_decide_eq_true this; omega
 have h := regsB_lt (l := T.ss) (c := T.r) ht.2.1.1.2.1 x hx
 omega
theorem savF_16 {T : TbE} {fn : FuncE} (ht : tabT T = true) : savL T.ss fn.homes 16 = savF T fn := by
 have hr : T.r ≤ 16 := (tabB_regs (by unfold tabT at ht; exact ht)).2
 exact savL_all (tab_saves ht) 16 (by omega)
theorem tab_link {T : TbE} (ht : tabT T = true) : T.lk = -1 ∨ 0 ≤ T.lk := by
 by_cases h : T.lk = -1
 ·
  exact Or.inl h
 ·
  right
  unfold tabT tabB regsOkB at ht
  simp only [Bool.and_eq_true] at ht
  have h1 := ht.2.1.1.1.1.1
  have h2 := regsB_lt h1 T.lk (by unfold ownL; rw [if_neg h]; simp)
  exact h2.1
/-- Counting up until the end is a multiple. -/
theorem up_ends {n al a : Int} (hal : 1 ≤ al) (h0 : n ≤ a) (h1 : a ≤ (n + al - 1) / al * al) (hm : a % al = 0) : a = (n + al - 1) / al * al := by
 have hq : (n + al - 1) / al * al ≤ n + al - 1 := Int.ediv_mul_le _ (by omega)
 have ha : a = a / al * al := by have := Int.mul_ediv_add_emod a al; rw [hm] at this; rw [Int.mul_comm] at this; omega
 generalize hx : (n + al - 1) / al = q at *
 generalize hy : a / al = k at *
 have h2 : k * al ≤ q * al := by omega
 rcases Int.lt_or_le k q with h3 | h3
 ·
  have h4 : (k + 1) * al ≤ q * al := Int.mul_le_mul_of_nonneg_right (by omega) (by omega)
  rw [Int.add_mul] at h4
  omega
 ·
  have h4 : q * al ≤ k * al := Int.mul_le_mul_of_nonneg_right h3 (by omega)
  omega
theorem up_goes {n al a : Int} (h1 : a ≤ (n + al - 1) / al * al) (hm : ¬ a % al = 0) : a + 1 ≤ (n + al - 1) / al * al := by
 rcases Int.lt_or_le a ((n + al - 1) / al * al) with h | h
 ·
  omega
 ·
  exact absurd (by rw [show a = (n + al - 1) / al * al by omega]; exact Int.mul_emod_left _ _) hm
theorem up_first {n al : Int} (hal : 1 ≤ al) : n ≤ (n + al - 1) / al * al := by
 have h1 := Int.lt_ediv_add_one_mul_self (n + al - 1) (show 0 < al by omega)
 rw [Int.add_mul] at h1
 omega
end Go.Proofs.YtffemeicclhioaaGreatDoor
