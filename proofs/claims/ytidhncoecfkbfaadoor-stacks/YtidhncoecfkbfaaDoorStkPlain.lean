/-
  A stack of bytes in memory: plain mathematics, and what a world holds of it. Own work of the verifier.
-/
import Derived.Test.YtidhncoecfkbfaaDoorFault
import Derived.Deep.OwnRows
import Derived.Laws.BitsLemmas
import Derived.Laws.Bits64
namespace Go.Proofs.YtidhncoecfkbfaaDoor
open Go.RowKit

theorem hide {p : Prop} (h : p) : Hid p := h
theorem unhide {p : Prop} (h : Hid p) : p := h
/-- The word of n bytes from a on, the lowest first. -/
def ldv (m : Nat → Int) : Nat → Nat → Int
  | _, 0 => 0
  | a, n + 1 => m a + 256 * ldv m (a + 1) n
/-- The k-th byte of a word. -/
def byt (v : Int) (k : Nat) : Int := v / 256 ^ k % 256
theorem byt_shr (v : Int) (k : Nat) : v / 2 ^ (8 * k) % 256 = byt v k := by
  unfold byt; rw [Int.pow_mul]; rfl
theorem byt_bd (v : Int) (k : Nat) : 0 ≤ byt v k ∧ byt v k < 256 := by unfold byt; omega
theorem ldv_bd {m : Nat → Int} (hm : ∀ i, 0 ≤ m i ∧ m i < 256) : ∀ (n a : Nat), 0 ≤ ldv m a n ∧ ldv m a n < 256 ^ n
  | 0, a => by simp [ldv]
  | n + 1, a => by
    have h := ldv_bd hm n (a + 1)
    have h0 := hm a
    simp only [ldv, Int.pow_succ]
    omega
/-- Bytes n of the word v, from a on. -/
def upd (m : Nat → Int) (a : Nat) (v : Int) (n : Nat) : Nat → Int := fun i => if a ≤ i ∧ i < a + n then byt v (i - a) else m i
theorem upd_zero (m : Nat → Int) (a : Nat) (v : Int) : upd m a v 0 = m := by
  funext i; unfold upd; rw [if_neg (by omega)]
theorem upd_succ (m : Nat → Int) (a : Nat) (v : Int) (n i : Nat) : upd m a v (n + 1) i = if i = a + n then byt v n else upd m a v n i := by
  unfold upd
  by_cases h : i = a + n
  · subst h; rw [if_pos (by omega), if_pos rfl]; congr 1; omega
  · rw [if_neg h]
    by_cases h2 : a ≤ i ∧ i < a + n
    · rw [if_pos (by omega), if_pos h2]
    · rw [if_neg (by omega), if_neg h2]
theorem upd_bd {m : Nat → Int} (hm : ∀ i, 0 ≤ m i ∧ m i < 256) (a : Nat) (v : Int) (n : Nat) : ∀ i, 0 ≤ upd m a v n i ∧ upd m a v n i < 256 := by
  intro i; unfold upd; split
  · exact byt_bd _ _
  · exact hm i
/-- What is loaded behind a store of the same place and width. -/
theorem ldv_congr {m m' : Nat → Int} : ∀ (n a : Nat), (∀ i, a ≤ i → i < a + n → m i = m' i) → ldv m a n = ldv m' a n
  | 0, _, _ => rfl
  | n + 1, a, h => by
    simp only [ldv]
    rw [h a (Nat.le_refl _) (by omega), ldv_congr n (a + 1) (fun i h1 h2 => h i (by omega) (by omega))]
theorem mod_mul (x p : Int) (hp : 0 < p) : x % 256 + 256 * (x / 256 % p) = x % (256 * p) := by
  have h1 := Int.emod_add_mul_ediv x 256
  have h2 := Int.emod_add_mul_ediv (x / 256) p
  have h3 := Int.emod_nonneg (x / 256) (Int.ne_of_gt hp)
  have h4 := Int.emod_lt_of_pos (x / 256) hp
  have e : x = (x % 256 + 256 * (x / 256 % p)) + 256 * p * (x / 256 / p) := by
    rw [Int.mul_assoc]; omega
  have hr0 : 0 ≤ x % 256 := Int.emod_nonneg _ (by omega)
  have hr1 : x % 256 < 256 := Int.emod_lt_of_pos _ (by omega)
  generalize x % 256 = r at e hr0 hr1 ⊢
  generalize x / 256 % p = t at e h3 h4 ⊢
  generalize x / 256 / p = s at e ⊢
  rw [e, Int.add_mul_emod_self_left]
  exact (Int.emod_eq_of_lt (by omega) (by omega)).symm
theorem ldv_byt (v : Int) : ∀ (n k a : Nat) (m : Nat → Int), (∀ i, i < n → m (a + i) = byt v (k + i)) → ldv m a n = v / 256 ^ k % 256 ^ n
  | 0, k, a, m, _ => by simp [ldv, Int.emod_one]
  | n + 1, k, a, m, h => by
    simp only [ldv]
    have h0 := h 0 (by omega)
    rw [Nat.add_zero, Nat.add_zero] at h0
    rw [h0, ldv_byt v n (k + 1) (a + 1) m (fun i hi => by have := h (i + 1) (by omega); rw [show a + 1 + i = a + (i + 1) by omega, show k + 1 + i = k + (i + 1) by omega]; exact this)]
    unfold byt
    have e1 : v / 256 ^ (k + 1) = v / 256 ^ k / 256 := by rw [Int.pow_succ, Int.ediv_ediv_of_nonneg (Int.pow_nonneg (by omega))]
    rw [e1, Int.pow_succ]
    generalize v / 256 ^ k = x
    have hp : (0 : Int) < 256 ^ n := Int.pow_pos (by omega)
    generalize (256 : Int) ^ n = p at hp ⊢
    rw [Int.mul_comm p 256]
    exact mod_mul x p hp

theorem wraps64 (n : Int) (h₀ : 0 ≤ n) (h₁ : n < 2 ^ 64) : IntKind.u64.wrap n = n := by rw [IntKind.wrap_u64]; omega
theorem or8 (x y : Int) (h0 : 0 ≤ x) (h1 : x < 72057594037927936) (h2 : 0 ≤ y) (h3 : y < 256) : bits .or .u64 (x * 256) y = y + 256 * x := by
  rw [bits_join .u64 64 (by decide) wraps64 8 (x * 256) y (by omega) (by omega) (by omega) h2 (by omega) (by omega)]
  omega
theorem mask8 (x : Int) (h0 : 0 ≤ x) (h1 : x < 18446744073709551616) : bits .and .u64 x 255 = x % 256 := by
  have h := bits_mask .u64 64 (by decide) wraps64 8 (by decide) x h0 (by omega)
  exact h
theorem mask16 (x : Int) (h0 : 0 ≤ x) (h1 : x < 18446744073709551616) : bits .and .u64 x 65535 = x % 65536 := by
  have h := bits_mask .u64 64 (by decide) wraps64 16 (by decide) x h0 (by omega)
  exact h
theorem mask32 (x : Int) (h0 : 0 ≤ x) (h1 : x < 18446744073709551616) : bits .and .u64 x 4294967295 = x % 4294967296 := by
  have h := bits_mask .u64 64 (by decide) wraps64 32 (by decide) x h0 (by omega)
  exact h
theorem pow256_le (k : Nat) (hk : k ≤ 7) : (256 : Int) ^ k ≤ 72057594037927936 := by
  match k, hk with
  | 0, _ | 1, _ | 2, _ | 3, _ | 4, _ | 5, _ | 6, _ | 7, _ => decide

/-- A stack of n bytes at block b, by the blocks b, c, d. -/
structure Stk (w : World) (b c d n : Nat) (m : Nat → Int) : Prop where
  c1 : w.cell? ⟨b, 0, none⟩ = some (.pointer (some ⟨c, 0, none⟩))
  c2 : w.cell? ⟨c, 0, none⟩ = some (.slice (some ⟨d, 0, none⟩) n n)
  c3 : ∀ i, i < n → w.cell? ⟨d, i, none⟩ = some (.int .u8 (m i))
  f3 : ∀ i, i < n → w.frozen? ⟨d, i, none⟩ = false
  mb : ∀ i, 0 ≤ m i ∧ m i < 256
  n1 : d ≠ b
  n2 : d ≠ c
  le : n ≤ 65536
/-- The world behind k rounds of a store. -/
def stw (w : World) (d a : Nat) (v : Int) : Nat → World
  | 0 => w
  | k + 1 => (stw w d a v k).setCell ⟨d, a + k, none⟩ (.int .u8 (byt v k))
theorem stw_size (w : World) (d a : Nat) (v : Int) : ∀ k, (stw w d a v k).heap.size = w.heap.size
  | 0 => rfl
  | k + 1 => by simp [stw, stw_size w d a v k]
theorem stw_frozen (w : World) (d a : Nat) (v : Int) (x : Addr) : ∀ k, (stw w d a v k).frozen? x = w.frozen? x
  | 0 => rfl
  | k + 1 => by simp only [stw, World.frozen?_setCell]; exact stw_frozen w d a v x k
theorem stw_far (w : World) (d a : Nat) (v : Int) (b o : Nat) (h : b ≠ d) : ∀ k, (stw w d a v k).cell? ⟨b, o, none⟩ = w.cell? ⟨b, o, none⟩
  | 0 => rfl
  | k + 1 => by
    simp only [stw]
    rw [World.cell?_setCell_other _ _ _ _ (by intro e; cases e; exact h rfl)]
    exact stw_far w d a v b o h k
theorem stw_blk (w : World) (d a : Nat) (v : Int) (x : Nat) (h : x ≠ d) : ∀ k, (stw w d a v k).heap[x]? = w.heap[x]?
  | 0 => rfl
  | k + 1 => by
    simp only [stw]
    rw [Below.heap_setCell _ _ _ _ h]
    exact stw_blk w d a v x h k
theorem stw_cell (w : World) (d a : Nat) (v : Int) (n : Nat) (m : Nat → Int) (hc : ∀ i, i < n → w.cell? ⟨d, i, none⟩ = some (.int .u8 (m i))) :
    ∀ k, a + k ≤ n → ∀ i, i < n → (stw w d a v k).cell? ⟨d, i, none⟩ = some (.int .u8 (upd m a v k i))
  | 0, _, i, hi => by rw [upd_zero]; exact hc i hi
  | k + 1, hk, i, hi => by
    simp only [stw]
    rw [upd_succ]
    have ih := stw_cell w d a v n m hc k (by omega)
    by_cases h : i = a + k
    · subst h
      rw [if_pos rfl, World.cell?_setCell_same _ _ _ (ih _ hi)]
    · rw [if_neg h, World.cell?_setCell_other _ _ _ _ (by intro e; cases e; exact h rfl)]
      exact ih i hi
theorem stw_below (w : World) (d a : Nat) (v : Int) (B : Nat) (hB : B ≤ d) : ∀ k, Below B w (stw w d a v k)
  | 0 => Below.refl _ _
  | k + 1 => (stw_below w d a v B hB k).setCell hB _

theorem Stk.below {w w' : World} {b c d n B : Nat} {m : Nat → Int} (h : Stk w b c d n m) (hb : Below B w w') (h1 : b < B) (h2 : c < B) (h3 : d < B) : Stk w' b c d n m :=
  ⟨(hb.cell (p := ⟨b, 0, none⟩) h1).trans h.c1, (hb.cell (p := ⟨c, 0, none⟩) h2).trans h.c2, fun i hi => (hb.cell (p := ⟨d, i, none⟩) h3).trans (h.c3 i hi),
    fun i hi => (hb.frozen (p := ⟨d, i, none⟩) h3).trans (h.f3 i hi), h.mb, h.n1, h.n2, h.le⟩
theorem Stk.store {w : World} {b c d n : Nat} {m : Nat → Int} (h : Stk w b c d n m) (a : Nat) (v : Int) (k : Nat) (hk : a + k ≤ n) : Stk (stw w d a v k) b c d n (upd m a v k) :=
  ⟨(stw_far w d a v b 0 (Ne.symm h.n1) k).trans h.c1, (stw_far w d a v c 0 (Ne.symm h.n2) k).trans h.c2, stw_cell w d a v n m h.c3 k hk,
    fun i hi => (stw_frozen w d a v _ k).trans (h.f3 i hi), upd_bd h.mb a v k, h.n1, h.n2, h.le⟩
end Go.Proofs.YtidhncoecfkbfaaDoor
