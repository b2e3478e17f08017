/-
  Decodes: the reference's instruction by its contract. Own work of the verifier.
-/
import Derived.Test.YthnmdbddfmgdlaaDoorDecT
namespace Go.Proofs.YthnmdbddfmgdlaaDoor
open Go.RowKit

def JunkA (A : Array Value) : Prop := ∃ (x0 x1 x2 x3 n x5 : Int) (p1 : Option Addr) (n1 c1 : Nat) (p2 : Option Addr) (n2 c2 : Nat), A = #[.int .i64 x0, .int .i64 x1, .int .i64 x2, .int .i64 x3, .int .u64 n, .int .i64 x5, .slice p1 n1 c1, .slice p2 n2 c2] ∧ 0 ≤ n ∧ n < 18446744073709551616
theorem dParts_snoc (s : ByteArray) : ∀ (pre : List UInt8) (c : UInt8) (i : InsE) (a : Nat), dParts s (pre ++ [c]) i a = dBind (dParts s pre i a) fun j a1 => dPart s c j a1
  | [], c, i, a => by
    show dBind (dPart s c i a) _ = dPart s c i a
    cases dPart s c i a with
    | error q => rfl
    | ok p => rfl
  | d :: pre, c, i, a => by
    show dBind (dPart s d i a) _ = dBind (dBind (dPart s d i a) _) _
    rw [dBind_assoc]
    cases h : dPart s d i a with
    | error q => rfl
    | ok p =>
      obtain ⟨j, a1⟩ := p
      exact dParts_snoc s pre c j a1
/-- How far an instruction is. -/
def InsS (s : ByteArray) (op : Int) (a1 : Nat) (u : World) (T3 : Nat) (A : Array Value) (st : Stt) (pre : List UInt8) : Prop :=
  (∃ i a, dParts s pre (ins0 op) a1 = .ok (i, a) ∧ st = .ok a ∧ RIns u (T3 + 2) A i ∧ ((110 : UInt8) ∉ pre → (78 : UInt8) ∉ pre → i.n = 0) ∧ ((82 : UInt8) ∉ pre → i.args = [])) ∨ (∃ q, dParts s pre (ins0 op) a1 = .error q ∧ st = .error q)
theorem InsS.keep {s : ByteArray} {op : Int} {a1 : Nat} {u u' : World} {T3 : Nat} {A : Array Value} {st : Stt} {pre : List UInt8} (h : InsS s op a1 u T3 A st pre) (hk : KeptOn (T3 + 2) u u') : InsS s op a1 u' T3 A st pre := by
  rcases h with ⟨i, a, h1, h2, h3, h4⟩ | h
  · exact Or.inl ⟨i, a, h1, h2, mono_RIns _ _ _ _ _ _ (Nat.le_refl _) hk h3, h4⟩
  · exact Or.inr h
theorem InsS.num {s : ByteArray} {op : Int} {a1 : Nat} {u : World} {T3 : Nat} {A : Array Value} {st : Stt} {pre : List UInt8} (h : InsS s op a1 u T3 A st pre) (c : UInt8) (j : Nat) (upd : InsE → Int → InsE)
    (hpart : ∀ i a, dPart s c i a = dBind (dNum s 0 255 a) fun x a1 => .ok (upd i x, a1)) (hR : ∀ w B A i x, RIns w B A i → RIns w B (A.setIfInBounds j (.int .i64 x)) (upd i x)) (hn : ∀ i x, (upd i x).n = i.n) (ha : ∀ i x, (upd i x).args = i.args) :
    InsS s op a1 u T3 (A.setIfInBounds j (.int .i64 (valOr (sBind st (dNum s 0 255))))) (stOf (sBind st (dNum s 0 255))) (pre ++ [c]) := by
  rcases h with ⟨i, a, h1, rfl, h3, h4, h5⟩ | ⟨q, h1, rfl⟩
  · show InsS s op a1 u T3 (A.setIfInBounds j (.int .i64 (valOr (dNum s 0 255 a)))) (stOf (dNum s 0 255 a)) (pre ++ [c])
    have hs := dParts_snoc s pre c (ins0 op) a1
    rw [h1, dBind_ok, hpart] at hs
    cases hd : dNum s 0 255 a with
    | error q => rw [hd] at hs; exact Or.inr ⟨q, hs, rfl⟩
    | ok p =>
      obtain ⟨x, a2⟩ := p
      rw [hd] at hs
      refine Or.inl ⟨upd i x, a2, hs, rfl, hR _ _ _ _ _ h3, fun q1 q2 => ?_, fun q1 => ?_⟩
      · rw [hn]; exact h4 (fun e => q1 (by simp [e])) (fun e => q2 (by simp [e]))
      · rw [ha]; exact h5 (fun e => q1 (by simp [e]))
  · refine Or.inr ⟨q, ?_, rfl⟩
    rw [dParts_snoc, h1]
    rfl
theorem val64_err (q : Nat) (n : Int) (s : ByteArray) : ∀ k, (val64 k (.error q) n s).2 = .error q
  | 0 => rfl
  | k + 1 => by
    show stOf (sBind (val64 k (.error q) n s).2 (dNum s 0 255)) = _
    rw [val64_err q n s k]
    rfl
theorem val64_bd (st : Stt) (n : Int) (s : ByteArray) (h : 0 ≤ n ∧ n < 18446744073709551616) : ∀ k, 0 ≤ (val64 k st n s).1 ∧ (val64 k st n s).1 < 18446744073709551616
  | 0 => h
  | k + 1 => by
    show 0 ≤ (_ : Int) % 18446744073709551616 ∧ (_ : Int) % 18446744073709551616 < 18446744073709551616
    omega
theorem pow_le8 {k : Nat} (h : k ≤ 8) : (256 : Int) ^ k ≤ 18446744073709551616 := by
  have : k = 0 ∨ k = 1 ∨ k = 2 ∨ k = 3 ∨ k = 4 ∨ k = 5 ∨ k = 6 ∨ k = 7 ∨ k = 8 := by omega
  rcases this with rfl | rfl | rfl | rfl | rfl | rfl | rfl | rfl | rfl <;> decide
theorem val64_ok (s : ByteArray) (a : Nat) : ∀ k, k ≤ 8 → (∀ x a', dOp s k a = .ok (x, a') → val64 k (.ok a) 0 s = (x, .ok a')) ∧ (∀ q, dOp s k a = .error q → (val64 k (.ok a) 0 s).2 = .error q)
  | 0, _ => ⟨fun x a' h => by injection h with h; injection h with h1 h2; subst h1 h2; rfl, fun q h => by cases h⟩
  | k + 1, hk => by
    obtain ⟨i1, i2⟩ := val64_ok s a k (by omega)
    cases hd : dOp s k a with
    | error q =>
      have h2 := i2 q hd
      have e : dOp s (k + 1) a = .error q := dOp_err hd (by omega)
      refine ⟨fun x a' h => (by rw [e] at h; cases h), fun q' h => ?_⟩
      rw [e] at h
      injection h with h
      subst h
      show stOf (sBind (val64 k (.ok a) 0 s).2 (dNum s 0 255)) = _
      rw [h2]
      rfl
    | ok p =>
      obtain ⟨x, a1⟩ := p
      have h1 := i1 x a1 hd
      have hb := dOp_bd k hd
      have hn := dOp_next hd
      have hv : val64 (k + 1) (.ok a) 0 s = ((256 * x + valOr (dNum s 0 255 a1)) % 18446744073709551616, stOf (dNum s 0 255 a1)) := by
        show ((256 * (val64 k (.ok a) 0 s).1 + valOr (sBind (val64 k (.ok a) 0 s).2 (dNum s 0 255))) % 18446744073709551616, stOf (sBind (val64 k (.ok a) 0 s).2 (dNum s 0 255))) = _
        rw [h1]
        rfl
      rw [hv]
      cases hd2 : dNum s 0 255 a1 with
      | error q =>
        rw [hd2] at hn
        exact ⟨fun x a' h => (by rw [hn] at h; cases h), fun q' h => (by rw [hn] at h; injection h with h; subst h; rfl)⟩
      | ok p =>
        obtain ⟨y, a2⟩ := p
        rw [hd2] at hn
        have hb2 := dOp_bd (k + 1) hn
        have hp8 := pow_le8 hk
        refine ⟨fun x' a' h => ?_, fun q h => (by rw [hn] at h; cases h)⟩
        rw [hn] at h
        injection h with h
        injection h with h3 h4
        subst h3 h4
        show ((256 * x + y) % 18446744073709551616, _) = _
        rw [show (256 * x + y) % 18446744073709551616 = 256 * x + y by omega]
        rfl
theorem shape_fresh (op : Int) : ∀ q (h : q < (shapeLs op).length), (shapeLs op)[q] ∉ (shapeLs op).take q ∧ ((shapeLs op)[q] = 78 → (110 : UInt8) ∉ (shapeLs op).take q) := by
  have key : ∀ k, k < 19 → ∀ q (h : q < (shapeL.getD k #[63]).toList.length), (shapeL.getD k #[63]).toList[q] ∉ (shapeL.getD k #[63]).toList.take q ∧ ((shapeL.getD k #[63]).toList[q] = 78 → (110 : UInt8) ∉ (shapeL.getD k #[63]).toList.take q) := by
    intro k hk
    have : k = 0 ∨ k = 1 ∨ k = 2 ∨ k = 3 ∨ k = 4 ∨ k = 5 ∨ k = 6 ∨ k = 7 ∨ k = 8 ∨ k = 9 ∨ k = 10 ∨ k = 11 ∨ k = 12 ∨ k = 13 ∨ k = 14 ∨ k = 15 ∨ k = 16 ∨ k = 17 ∨ k = 18 := by omega
    rcases this with rfl | rfl | rfl | rfl | rfl | rfl | rfl | rfl | rfl | rfl | rfl | rfl | rfl | rfl | rfl | rfl | rfl | rfl | rfl <;> decide
  have one : ∀ q (h : q < (#[63] : Array UInt8).toList.length), (#[63] : Array UInt8).toList[q] ∉ (#[63] : Array UInt8).toList.take q ∧ ((#[63] : Array UInt8).toList[q] = 78 → (110 : UInt8) ∉ (#[63] : Array UInt8).toList.take q) := by decide
  unfold shapeLs shapeB
  split
  · by_cases h : op.toNat < 19
    · exact key op.toNat h
    · have h3 : shapeL.length ≤ op.toNat := by simp [shapeL]; omega
      have e : shapeL.getD op.toNat #[63] = #[63] := by simp [List.getD, List.getElem?_eq_none h3]
      simp only [e]
      exact one
  · exact one
theorem InsS.one {s : ByteArray} {op : Int} {a1 : Nat} {u : World} {T3 : Nat} {A : Array Value} {st : Stt} {pre : List UInt8} (h : InsS s op a1 u T3 A st pre) :
    InsS s op a1 u T3 (A.setIfInBounds 4 (.int .u64 (valOr (sBind st (dNum s 0 255))))) (stOf (sBind st (dNum s 0 255))) (pre ++ [110]) := by
  rcases h with ⟨i, a, h1, rfl, h3, h4, h5⟩ | ⟨q, h1, rfl⟩
  · show InsS s op a1 u T3 (A.setIfInBounds 4 (.int .u64 (valOr (dNum s 0 255 a)))) (stOf (dNum s 0 255 a)) (pre ++ [110])
    have hs := dParts_snoc s pre 110 (ins0 op) a1
    have hp : dPart s 110 i a = dBind (dNum s 0 255 a) fun y a2 => .ok ({ i with n := 256 * 0 + y }, a2) := by
      show dBind (dBind (dNum s 0 255 a) _) _ = _
      rw [dBind_assoc]
      rfl
    rw [h1, dBind_ok, hp] at hs
    cases hd : dNum s 0 255 a with
    | error q => rw [hd] at hs; exact Or.inr ⟨q, hs, rfl⟩
    | ok p =>
      obtain ⟨x, a2⟩ := p
      rw [hd] at hs
      obtain ⟨av, ov, rfl, g1, g2⟩ := h3
      refine Or.inl ⟨_, a2, hs, rfl, ⟨av, ov, ?_, g1, g2⟩, fun q1 q2 => absurd (by simp) q1, fun q1 => h5 (fun e => q1 (by simp [e]))⟩
      show _ = #[_, _, _, _, Value.int .u64 (256 * 0 + x), _, _, _]
      rw [show 256 * 0 + x = x by omega]
      rfl
  · refine Or.inr ⟨q, ?_, rfl⟩
    rw [dParts_snoc, h1]
    rfl
theorem InsS.eight {s : ByteArray} {op : Int} {a1 : Nat} {u : World} {T3 : Nat} {x0 x1 x2 x3 n x5 : Int} {av ov : Value} {st : Stt} {pre : List UInt8} (h : InsS s op a1 u T3 #[.int .i64 x0, .int .i64 x1, .int .i64 x2, .int .i64 x3, .int .u64 n, .int .i64 x5, av, ov] st pre) (f1 : (110 : UInt8) ∉ pre) (f2 : (78 : UInt8) ∉ pre) :
    InsS s op a1 u T3 #[.int .i64 x0, .int .i64 x1, .int .i64 x2, .int .i64 x3, .int .u64 (val64 8 st n s).1, .int .i64 x5, av, ov] (val64 8 st n s).2 (pre ++ [78]) := by
  rcases h with ⟨i, a, h1, rfl, h3, h4, h5⟩ | ⟨q, h1, rfl⟩
  · have hs := dParts_snoc s pre 78 (ins0 op) a1
    have hp : dPart s 78 i a = dBind (dOp s 8 a) fun x a1 => .ok ({ i with n := x }, a1) := rfl
    rw [h1, dBind_ok, hp] at hs
    have hn0 := h4 f1 f2
    obtain ⟨av', ov', e, g1, g2⟩ := h3
    have e' := congrArg (·.toList) e
    simp at e'
    obtain ⟨e0, e1, e2, e3, e4, e5, e6, e7⟩ := e'
    rw [hn0] at e4
    subst e4 e6 e7
    obtain ⟨i1, i2⟩ := val64_ok s a 8 (Nat.le_refl _)
    cases hd : dOp s 8 a with
    | error q =>
      rw [hd] at hs
      exact Or.inr ⟨q, hs, i2 q hd⟩
    | ok p =>
      obtain ⟨x, a2⟩ := p
      rw [hd] at hs
      rw [i1 x a2 hd]
      exact Or.inl ⟨_, a2, hs, rfl, ⟨av, ov, by simp [e0, e1, e2, e3, e5], g1, g2⟩, fun q1 q2 => absurd (by simp) q2, fun q1 => h5 (fun e => q1 (by simp [e]))⟩
  · refine Or.inr ⟨q, ?_, val64_err q n s 8⟩
    rw [dParts_snoc, h1]
    rfl
theorem InsS.list {s : ByteArray} {op : Int} {a1 : Nat} {u u' : World} {T3 : Nat} {x0 x1 x2 x3 n x5 : Int} {av ov ov' : Value} {st : Stt} {pre : List UInt8} (h : InsS s op a1 u T3 #[.int .i64 x0, .int .i64 x1, .int .i64 x2, .int .i64 x3, .int .u64 n, .int .i64 x5, av, ov] st pre) (hk : KeptOn (T3 + 2) u u')
    (ho : ∀ xs a, sBind st (dList s 0 4 (dNum s 0 255)) = .ok (xs, a) → RepI u' (T3 + 2) ov' xs) :
    InsS s op a1 u' T3 #[.int .i64 x0, .int .i64 x1, .int .i64 x2, .int .i64 x3, .int .u64 n, .int .i64 x5, av, ov'] (stOf (sBind st (dList s 0 4 (dNum s 0 255)))) (pre ++ [79]) := by
  rcases h with ⟨i, a, h1, rfl, h3, h4, h5⟩ | ⟨q, h1, rfl⟩
  · have hs := dParts_snoc s pre 79 (ins0 op) a1
    have hp : dPart s 79 i a = dBind (dList s 0 4 (dNum s 0 255) a) fun x a1 => .ok ({ i with outs := x }, a1) := rfl
    rw [h1, dBind_ok, hp] at hs
    obtain ⟨av', ov'', e, g1, g2⟩ := h3
    have e' := congrArg (·.toList) e
    simp at e'
    obtain ⟨e0, e1, e2, e3, e4, e5, e6, e7⟩ := e'
    subst e6 e7
    show InsS s op a1 u' T3 _ (stOf (dList s 0 4 (dNum s 0 255) a)) (pre ++ [79])
    cases hd : dList s 0 4 (dNum s 0 255) a with
    | error q => rw [hd] at hs; exact Or.inr ⟨q, hs, rfl⟩
    | ok p =>
      obtain ⟨x, a2⟩ := p
      rw [hd] at hs
      exact Or.inl ⟨_, a2, hs, rfl, ⟨av, ov', by simp [e0, e1, e2, e3, e4, e5], g1.keep (Nat.le_refl _) hk (fun _ _ h => h), ho x a2 hd⟩, fun q1 q2 => h4 (fun e => q1 (by simp [e])) (fun e => q2 (by simp [e])), fun q1 => h5 (fun e => q1 (by simp [e]))⟩
  · refine Or.inr ⟨q, ?_, rfl⟩
    rw [dParts_snoc, h1]
    rfl
theorem InsS.args {s : ByteArray} {op : Int} {a1 : Nat} {u u' : World} {T3 : Nat} {x0 x1 x2 x3 n x5 : Int} {av av' ov : Value} {a N a2 : Nat} {pre : List UInt8} (h : InsS s op a1 u T3 #[.int .i64 x0, .int .i64 x1, .int .i64 x2, .int .i64 x3, .int .u64 n, .int .i64 x5, av, ov] (.ok a) pre) (hd : dNum s 0 8 a = .ok ((N : Int), a2)) (hk : KeptT (T3 + 2) 82 u u')
    (ho : ∀ xs a3, dRep (dPair s) N a2 = .ok (xs, a3) → RepA u' (T3 + 2) av' xs) :
    InsS s op a1 u' T3 #[.int .i64 x0, .int .i64 x1, .int .i64 x2, .int .i64 x3, .int .u64 n, .int .i64 x5, av', ov] (stOf (dRep (dPair s) N a2)) (pre ++ [82]) := by
  rcases h with ⟨i, a', h1, h2, h3, h4, h5⟩ | ⟨q, h1, h2⟩
  · injection h2 with h2
    subst h2
    have hs := dParts_snoc s pre 82 (ins0 op) a1
    have hp : dPart s 82 i a = dBind (dRep (dPair s) N a2) fun x a1 => .ok ({ i with args := x }, a1) := by
      show dBind (dBind (dNum s 0 8 a) _) _ = _
      rw [hd]
      rfl
    rw [h1, dBind_ok, hp] at hs
    obtain ⟨av'', ov'', e, g1, g2⟩ := h3
    have e' := congrArg (·.toList) e
    simp at e'
    obtain ⟨e0, e1, e2, e3, e4, e5, e6, e7⟩ := e'
    subst e6 e7
    cases hd : dRep (dPair s) N a2 with
    | error q => rw [hd] at hs; exact Or.inr ⟨q, hs, rfl⟩
    | ok p =>
      obtain ⟨x, a3⟩ := p
      rw [hd] at hs
      exact Or.inl ⟨_, a3, hs, rfl, ⟨av', ov, by simp [e0, e1, e2, e3, e4, e5], ho x a3 hd, g2.keepT (by decide) hk (fun _ _ h => h)⟩, fun q1 q2 => h4 (fun e => q1 (by simp [e])) (fun e => q2 (by simp [e])), fun q1 => absurd (by simp) q1⟩
  · cases h2
theorem InsS.noArgs {s : ByteArray} {op : Int} {a1 : Nat} {u : World} {T3 : Nat} {x0 x1 x2 x3 n x5 : Int} {av ov : Value} {a : Nat} {pre : List UInt8} (h : InsS s op a1 u T3 #[.int .i64 x0, .int .i64 x1, .int .i64 x2, .int .i64 x3, .int .u64 n, .int .i64 x5, av, ov] (.ok a) pre) (f : (82 : UInt8) ∉ pre) : RepA u (T3 + 2) av [] := by
  rcases h with ⟨i, a', h1, h2, h3, h4, h5⟩ | ⟨q, h1, h2⟩
  · obtain ⟨av'', ov'', e, g1, g2⟩ := h3
    have e' := congrArg (·.toList) e
    simp at e'
    obtain ⟨e0, e1, e2, e3, e4, e5, e6, e7⟩ := e'
    subst e6 e7
    rw [h5 f] at g1
    exact g1
  · cases h2
theorem InsS.bad {s : ByteArray} {op : Int} {a1 : Nat} {u u' : World} {T3 : Nat} {A A' : Array Value} {st : Stt} {q : Nat} {pre : List UInt8} (h : InsS s op a1 u T3 A st pre) (hd : sBind st (dNum s 0 8) = .error q) : InsS s op a1 u' T3 A' (.error q) (pre ++ [82]) := by
  rcases h with ⟨i, a', h1, rfl, h3, h4, h5⟩ | ⟨q', h1, rfl⟩
  · refine Or.inr ⟨q, ?_, rfl⟩
    rw [dParts_snoc, h1, dBind_ok]
    show dBind (dBind (dNum s 0 8 a') _) _ = _
    rw [show dNum s 0 8 a' = .error q from hd]
    rfl
  · injection hd with hd
    subst hd
    refine Or.inr ⟨q', ?_, rfl⟩
    rw [dParts_snoc, h1]
    rfl
theorem InsS.none {s : ByteArray} {op : Int} {a1 : Nat} {u : World} {T3 : Nat} {A : Array Value} {st : Stt} {pre : List UInt8} (h : InsS s op a1 u T3 A st pre) : InsS s op a1 u T3 A st (pre ++ [63]) := by
  rcases h with ⟨i, a', h1, rfl, h3, h4, h5⟩ | ⟨q', h1, rfl⟩
  · refine Or.inl ⟨i, a', ?_, rfl, h3, fun q1 q2 => h4 (fun e => q1 (by simp [e])) (fun e => q2 (by simp [e])), fun q1 => h5 (fun e => q1 (by simp [e]))⟩
    rw [dParts_snoc, h1, dBind_ok]
    rfl
  · refine Or.inr ⟨q', ?_, rfl⟩
    rw [dParts_snoc, h1]
    rfl
def EinsE (b : Nat) (s : ByteArray) (r : Except Nat (InsE × Nat)) (w : World) (e : Ending) (w' : World) : Prop :=
  w.grownBy w' (some b) ∧ ∃ A, e = .returned (.agg A) ∧ JunkA A ∧ EyS w' b s (stOf r) ∧ ∀ i a, r = .ok (i, a) → RIns w' w.heap.size A i
end Go.Proofs.YthnmdbddfmgdlaaDoor
