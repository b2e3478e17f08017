/-
  The pieces of a table's text: plain mathematics. Own work of the verifier.
-/
import Derived.Test.YtobempobmokkcaaGreatDoorProg
import Derived.Lib.DecodeN
namespace Go.Proofs.YtobempobmokkcaaGreatDoor

def kindN (r : Nat) : Nat :=
  if r = 32 ∨ r = 9 ∨ r = 10 then 1 else if r = 35 then 2 else if 97 ≤ r ∧ r ≤ 122 then 3 else if 48 ≤ r ∧ r ≤ 57 then 4 else if r = 45 then 5 else if r = 59 then 6 else 0
/-- A piece: its kind (3 a word, 4 a number, 5 a dash, 6 a stop), where it begins, where it ends. -/
structure Tk where
  k : Nat
  a : Nat
  e : Nat
def addR (l : List Tk) (k p : Nat) : List Tk :=
  match l.getLast? with
  | some t => if (k = 3 ∨ k = 4) ∧ t.k = k ∧ t.e = p then l.dropLast ++ [⟨t.k, t.a, p + 1⟩] else l ++ [⟨k, p, p + 1⟩]
  | none => l ++ [⟨k, p, p + 1⟩]
/-- A text from p on, rune by rune: the place of the first byte that begins no piece, or the pieces. -/
def cutF (s : ByteArray) : Nat → Nat → Bool → List Tk → Nat ⊕ List Tk
  | 0, _, _, acc => .inr acc
  | f + 1, p, c, acc =>
    if p < s.size then
      (if c then (if (Utf8.decode s p).1 = 65533 ∧ (Utf8.decode s p).2 = 1 then .inl p else cutF s f (p + (Utf8.decode s p).2) (decide ((Utf8.decode s p).1 ≠ 10)) acc)
      else if kindN (Utf8.decode s p).1 = 0 then .inl p
      else if kindN (Utf8.decode s p).1 = 2 then cutF s f (p + (Utf8.decode s p).2) true acc
      else if kindN (Utf8.decode s p).1 = 1 then cutF s f (p + (Utf8.decode s p).2) false acc
      else cutF s f (p + (Utf8.decode s p).2) false (addR acc (kindN (Utf8.decode s p).1) p))
    else .inr acc
/-- What the document's own 'scalar' gives: how many bytes, or 0. -/
def scalN (n b0 b1 b2 b3 : Nat) : Nat :=
  if b0 < 128 then 1
  else if 194 ≤ b0 ∧ b0 < 224 then (if 1 < n ∧ b1 / 64 = 2 then 2 else 0)
  else if 224 ≤ b0 ∧ b0 < 240 then
    (if (1 < n ∧ b1 / 64 = 2) ∧ (2 < n ∧ b2 / 64 = 2) then
      (if b0 % 16 * 4096 + b1 % 64 * 64 + b2 % 64 < 2048 ∨ (55296 ≤ b0 % 16 * 4096 + b1 % 64 * 64 + b2 % 64 ∧ b0 % 16 * 4096 + b1 % 64 * 64 + b2 % 64 < 57344) then 0 else 3) else 0)
  else if 240 ≤ b0 ∧ b0 < 245 then
    (if (1 < n ∧ b1 / 64 = 2) ∧ (2 < n ∧ b2 / 64 = 2) ∧ (3 < n ∧ b3 / 64 = 2) then
      (if b0 % 8 * 262144 + b1 % 64 * 4096 + b2 % 64 * 64 + b3 % 64 < 65536 ∨ 1114111 < b0 % 8 * 262144 + b1 % 64 * 4096 + b2 % 64 * 64 + b3 % 64 then 0 else 4) else 0)
  else 0
set_option maxRecDepth 100000 in
set_option maxHeartbeats 4000000 in
theorem scalN_eq (n b0 b1 b2 b3 : Nat) (h0 : b0 < 256) :
    scalN n b0 b1 b2 b3 = if (Lib.decodeN n b0 b1 b2 b3).1 = 65533 ∧ (Lib.decodeN n b0 b1 b2 b3).2 = 1 then 0 else (Lib.decodeN n b0 b1 b2 b3).2 := by
  by_cases c0 : b0 < 128
  · simp [scalN, Lib.decodeN, c0]; omega
  by_cases c1 : b0 / 32 = 6
  · by_cases d1 : 1 < n ∧ b1 / 64 = 2
    · have e : Lib.decodeN n b0 b1 b2 b3 = if b0 % 32 * 64 + b1 % 64 ≥ 128 then (b0 % 32 * 64 + b1 % 64, 2) else (65533, 1) := by simp [Lib.decodeN, c0, c1, d1]
      rw [e]
      unfold scalN
      repeat' split
      all_goals first | rfl | (exfalso; omega) | (simp_all; done) | (simp_all; omega)
    · have e : Lib.decodeN n b0 b1 b2 b3 = (65533, 1) := by
        unfold Lib.decodeN
        repeat' split
        all_goals first | rfl | (exfalso; omega)
      rw [e]
      unfold scalN
      repeat' split
      all_goals first | rfl | (exfalso; omega) | (simp_all; done) | (simp_all; omega)
  by_cases c2 : b0 / 16 = 14
  · by_cases d2 : (1 < n ∧ b1 / 64 = 2) ∧ (2 < n ∧ b2 / 64 = 2)
    · generalize hc : b0 % 16 * 4096 + b1 % 64 * 64 + b2 % 64 = c
      have e : Lib.decodeN n b0 b1 b2 b3 = if c ≥ 2048 ∧ (c < 55296 ∨ (57344 ≤ c ∧ c ≤ 1114111)) then (c, 3) else (65533, 1) := by subst hc; simp [Lib.decodeN, c0, c1, c2, d2]
      have e2 : scalN n b0 b1 b2 b3 = if c < 2048 ∨ (55296 ≤ c ∧ c < 57344) then 0 else 3 := by
        subst hc
        unfold scalN
        repeat' split
        all_goals first | rfl | (exfalso; omega)
      rw [e, e2]
      have : c ≤ 65535 := by omega
      repeat' split
      all_goals first | rfl | (exfalso; omega) | (simp_all; done)
    · have e : Lib.decodeN n b0 b1 b2 b3 = (65533, 1) := by
        unfold Lib.decodeN
        repeat' split
        all_goals first | rfl | (exfalso; omega)
      have e2 : scalN n b0 b1 b2 b3 = 0 := by
        unfold scalN
        repeat' split
        all_goals first | rfl | (exfalso; omega)
      simp [e, e2]
  by_cases c3 : b0 / 8 = 30
  · by_cases d3 : (1 < n ∧ b1 / 64 = 2) ∧ (2 < n ∧ b2 / 64 = 2) ∧ (3 < n ∧ b3 / 64 = 2)
    · generalize hc : b0 % 8 * 262144 + b1 % 64 * 4096 + b2 % 64 * 64 + b3 % 64 = c
      have e : Lib.decodeN n b0 b1 b2 b3 = if c ≥ 65536 ∧ (c < 55296 ∨ (57344 ≤ c ∧ c ≤ 1114111)) then (c, 4) else (65533, 1) := by subst hc; simp [Lib.decodeN, c0, c1, c2, c3, d3]
      have e2 : scalN n b0 b1 b2 b3 = if c < 65536 ∨ 1114111 < c then 0 else 4 := by
        subst hc
        unfold scalN
        repeat' split
        all_goals first | rfl | (exfalso; omega)
      rw [e, e2]
      repeat' split
      all_goals first | rfl | (exfalso; omega) | (simp_all; done)
    · have e : Lib.decodeN n b0 b1 b2 b3 = (65533, 1) := by
        unfold Lib.decodeN
        repeat' split
        all_goals first | rfl | (exfalso; omega)
      have e2 : scalN n b0 b1 b2 b3 = 0 := by
        unfold scalN
        repeat' split
        all_goals first | rfl | (exfalso; omega)
      simp [e, e2]
  · have e : Lib.decodeN n b0 b1 b2 b3 = (65533, 1) := by
      unfold Lib.decodeN
      repeat' split
      all_goals first | rfl | (exfalso; omega)
    have e2 : scalN n b0 b1 b2 b3 = 0 := by
      unfold scalN
      repeat' split
      all_goals first | rfl | (exfalso; omega)
    simp [e, e2]

/-! ### the text, cut -/
theorem dec_pos (s : ByteArray) (p : Nat) : 1 ≤ (Utf8.decode s p).2 := by
  rw [Lib.decode_at]
  unfold Lib.decodeN
  repeat' split
  all_goals simp
theorem dec_ascii (s : ByteArray) (p : Nat) (h : (s.get! p).toNat < 128) : Utf8.decode s p = ((s.get! p).toNat, 1) := by
  rw [Lib.decode_at]
  simp [Lib.decodeN, h]
theorem dec_high (s : ByteArray) (p : Nat) (h : 128 ≤ (s.get! p).toNat) : 128 ≤ (Utf8.decode s p).1 := by
  rw [Lib.decode_at]
  unfold Lib.decodeN
  repeat' split
  all_goals first | omega | (simp; omega)
theorem dec_kind (s : ByteArray) (p : Nat) : kindN (Utf8.decode s p).1 = kindN (s.get! p).toNat := by
  by_cases h : (s.get! p).toNat < 128
  · rw [dec_ascii s p h]
  · have h1 := dec_high s p (by omega)
    generalize (Utf8.decode s p).1 = r at h1
    generalize (s.get! p).toNat = b at h
    simp only [kindN]
    repeat' split
    all_goals first | rfl | (exfalso; omega)
theorem kind_ascii (b : Nat) (h : kindN b ≠ 0) : b < 128 := by
  simp only [kindN] at h
  repeat' split at h
  all_goals omega
theorem cutF_end (s : ByteArray) (f p : Nat) (c : Bool) (acc : List Tk) (h : ¬ p < s.size) : cutF s f p c acc = .inr acc := by
  cases f <;> simp [cutF, h]
theorem cutF_wrong (s : ByteArray) (f p : Nat) (acc : List Tk) (h : p < s.size) (hk : kindN (s.get! p).toNat = 0) : cutF s (f + 1) p false acc = .inl p := by
  simp [cutF, h, dec_kind, hk]
theorem cutF_space (s : ByteArray) (f p : Nat) (acc : List Tk) (h : p < s.size) (hk : kindN (s.get! p).toNat = 1) : cutF s (f + 1) p false acc = cutF s f (p + 1) false acc := by
  have hd := dec_ascii s p (kind_ascii _ (by omega))
  simp [cutF, h, dec_kind, hk]
  rw [hd]
theorem cutF_comment (s : ByteArray) (f p : Nat) (acc : List Tk) (h : p < s.size) (hk : kindN (s.get! p).toNat = 2) : cutF s (f + 1) p false acc = cutF s f (p + 1) true acc := by
  have hd := dec_ascii s p (kind_ascii _ (by omega))
  simp [cutF, h, dec_kind, hk]
  rw [hd]
theorem cutF_piece (s : ByteArray) (f p : Nat) (acc : List Tk) (h : p < s.size) (hk : 3 ≤ kindN (s.get! p).toNat) : cutF s (f + 1) p false acc = cutF s f (p + 1) false (addR acc (kindN (s.get! p).toNat) p) := by
  have hd := dec_ascii s p (kind_ascii _ (by omega))
  simp only [cutF, h, dec_kind, if_true]
  rw [if_neg (by decide), if_neg (by omega), if_neg (by omega), if_neg (by omega), hd]
/-- The document's 'scalar' at a place. -/
def scalAt (s : ByteArray) (p : Nat) : Nat := scalN (s.size - p) (s.get! p).toNat (s.get! (p + 1)).toNat (s.get! (p + 2)).toNat (s.get! (p + 3)).toNat
theorem scalAt_eq (s : ByteArray) (p : Nat) : scalAt s p = if (Utf8.decode s p).1 = 65533 ∧ (Utf8.decode s p).2 = 1 then 0 else (Utf8.decode s p).2 := by
  rw [Lib.decode_at]
  exact scalN_eq _ _ _ _ _ (by have := (s.get! p).toNat_lt; omega)
theorem cutF_broken (s : ByteArray) (f p : Nat) (acc : List Tk) (h : p < s.size) (hk : scalAt s p = 0) : cutF s (f + 1) p true acc = .inl p := by
  rw [scalAt_eq] at hk
  have := dec_pos s p
  split at hk
  · rename_i hx; simp [cutF, h, hx]
  · omega
theorem cutF_on (s : ByteArray) (f p : Nat) (acc : List Tk) (h : p < s.size) (hk : scalAt s p ≠ 0) (h10 : (s.get! p).toNat ≠ 10) : cutF s (f + 1) p true acc = cutF s f (p + scalAt s p) true acc := by
  rw [scalAt_eq] at hk ⊢
  split at hk
  · omega
  · rename_i hx
    have hd : (Utf8.decode s p).1 ≠ 10 := by
      by_cases ha : (s.get! p).toNat < 128
      · rw [dec_ascii s p ha]; exact h10
      · have := dec_high s p (by omega); omega
    simp [cutF, h, hx, hd]
theorem cutF_line (s : ByteArray) (f p : Nat) (acc : List Tk) (h : p < s.size) (h10 : (s.get! p).toNat = 10) : cutF s (f + 1) p true acc = cutF s (f + 1) p false acc := by
  have hd := dec_ascii s p (by omega)
  rw [cutF_space s f p acc h (by rw [h10]; rfl)]
  simp [cutF, h, hd, h10]
theorem addR_new (l : List Tk) (k p : Nat) (h : ∀ t, l.getLast? = some t → (k = 3 ∨ k = 4) → t.k = k → t.e ≠ p) : addR l k p = l ++ [⟨k, p, p + 1⟩] := by
  unfold addR
  split
  · rename_i t ht
    rw [if_neg]
    rintro ⟨h1, h2, h3⟩
    exact h t ht h1 h2 h3
  · rfl
theorem addR_on (l : List Tk) (k a p : Nat) (h : k = 3 ∨ k = 4) : addR (l ++ [⟨k, a, p⟩]) k p = l ++ [⟨k, a, p + 1⟩] := by
  simp [addR, h]
end Go.Proofs.YtobempobmokkcaaGreatDoor
