/-
  Written: a table's text, cut and read again: plain mathematics. Own work of the verifier.
-/
import Derived.Test.YtgfliildindkgaaGreatDoorPsParse
import Derived.Test.YtgfliildindkgaaGreatDoorPrtPrint
namespace Go.Proofs.YtgfliildindkgaaGreatDoor
open Go.RowKit

def vw (s : ByteArray) (t : Tk) : Nat × List UInt8 := (t.k, (s.extract t.a t.e).data.toList)
def Closed (acc : List Tk) (p : Nat) : Prop := ∀ t, acc.getLast? = some t → t.e < p
theorem get_at (pre post : List UInt8) (x : UInt8) : (⟨(pre ++ x :: post).toArray⟩ : ByteArray).get! pre.length = x ∧ pre.length < (⟨(pre ++ x :: post).toArray⟩ : ByteArray).size := by
  constructor
  · simp [ByteArray.get!]
  · simp [ByteArray.size]
theorem ext_at (pre r post : List UInt8) : ((⟨(pre ++ r ++ post).toArray⟩ : ByteArray).extract pre.length (pre.length + r.length)).data.toList = r := by
  simp [ByteArray.data_extract]
/-- A run goes on. -/
theorem cut_more (s : ByteArray) (k a : Nat) (hk : k = 3 ∨ k = 4) : ∀ (r pre post : List UInt8) (f : Nat) (acc : List Tk), s = ⟨(pre ++ r ++ post).toArray⟩ → (∀ b ∈ r, kindN b.toNat = k) →
    cutF s (f + r.length) pre.length false (acc ++ [⟨k, a, pre.length⟩]) = cutF s f (pre.length + r.length) false (acc ++ [⟨k, a, pre.length + r.length⟩])
  | [], pre, post, f, acc, _, _ => by simp
  | b :: r, pre, post, f, acc, hs, hb => by
    have hg := get_at pre (r ++ post) b
    have he : s = ⟨(pre ++ b :: (r ++ post)).toArray⟩ := by rw [hs]; simp
    rw [← he] at hg
    have hkb := hb b (by simp)
    have ih := cut_more s k a hk r (pre ++ [b]) post f acc (by rw [hs]; simp) (fun x hx => hb x (by simp [hx]))
    have e1 : f + (b :: r).length = (f + r.length) + 1 := by simp; omega
    rw [e1, cutF_piece s _ _ _ hg.2 (by rw [hg.1, hkb]; omega), hg.1, hkb, addR_on _ _ _ _ hk]
    simp only [List.length_append, List.length_cons, List.length_nil] at ih ⊢
    rw [ih]
    congr 1
    · omega
    · congr 3
      omega
/-- A run: a word, or a number. -/
theorem cut_run (s : ByteArray) (k : Nat) (hk : k = 3 ∨ k = 4) (r pre post : List UInt8) (f : Nat) (acc : List Tk) (hs : s = ⟨(pre ++ r ++ post).toArray⟩) (hb : ∀ b ∈ r, kindN b.toNat = k) (hne : r ≠ []) (hcl : Closed acc pre.length) :
    cutF s (f + r.length) pre.length false acc = cutF s f (pre.length + r.length) false (acc ++ [⟨k, pre.length, pre.length + r.length⟩]) := by
  cases r with
  | nil => exact absurd rfl hne
  | cons b r =>
    have hg := get_at pre (r ++ post) b
    have he : s = ⟨(pre ++ b :: (r ++ post)).toArray⟩ := by rw [hs]; simp
    rw [← he] at hg
    have hkb := hb b (by simp)
    have ih := cut_more s k pre.length hk r (pre ++ [b]) post f acc (by rw [hs]; simp) (fun x hx => hb x (by simp [hx]))
    have e1 : f + (b :: r).length = (f + r.length) + 1 := by simp; omega
    rw [e1, cutF_piece s _ _ _ hg.2 (by rw [hg.1, hkb]; omega), hg.1, hkb, addR_new _ _ _ (fun t ht _ _ => Nat.ne_of_lt (hcl t ht))]
    simp only [List.length_append, List.length_cons, List.length_nil] at ih ⊢
    rw [ih]
    congr 1
    · omega
    · congr 3
      omega
theorem cut_one (s : ByteArray) (k : Nat) (hk : k = 5 ∨ k = 6) (b : UInt8) (pre post : List UInt8) (f : Nat) (acc : List Tk) (hs : s = ⟨(pre ++ b :: post).toArray⟩) (hb : kindN b.toNat = k) :
    cutF s (f + 1) pre.length false acc = cutF s f (pre.length + 1) false (acc ++ [⟨k, pre.length, pre.length + 1⟩]) := by
  have hg := get_at pre post b
  rw [← hs] at hg
  rw [cutF_piece s _ _ _ hg.2 (by rw [hg.1, hb]; omega), hg.1, hb, addR_new _ _ _ (fun t _ h => by omega)]
theorem cut_sp (s : ByteArray) (b : UInt8) (pre post : List UInt8) (f : Nat) (acc : List Tk) (hs : s = ⟨(pre ++ b :: post).toArray⟩) (hb : kindN b.toNat = 1) :
    cutF s (f + 1) pre.length false acc = cutF s f (pre.length + 1) false acc := by
  have hg := get_at pre post b
  rw [← hs] at hg
  exact cutF_space s f _ acc hg.2 (by rw [hg.1]; exact hb)
/-- What a segment is cut into. -/
def Cuts (s : ByteArray) (p : Nat) (seg : List UInt8) (E : List (Nat × List UInt8)) : Prop := ∀ f acc, Closed acc p →
  ∃ toks, cutF s (f + seg.length) p false acc = cutF s f (p + seg.length) false (acc ++ toks) ∧ toks.map (vw s) = E ∧ Closed (acc ++ toks) (p + seg.length)
theorem Cuts.app {s : ByteArray} {p : Nat} {g1 g2 : List UInt8} {E1 E2 : List (Nat × List UInt8)} (h1 : Cuts s p g1 E1) (h2 : Cuts s (p + g1.length) g2 E2) : Cuts s p (g1 ++ g2) (E1 ++ E2) := by
  intro f acc hc
  obtain ⟨k1, a1, b1, c1⟩ := h1 (f + g2.length) acc hc
  obtain ⟨k2, a2, b2, c2⟩ := h2 f (acc ++ k1) c1
  refine ⟨k1 ++ k2, ?_, by rw [List.map_append, b1, b2], ?_⟩
  · rw [show f + (g1 ++ g2).length = f + g2.length + g1.length by simp; omega, a1, a2, List.append_assoc]
    congr 1
    simp; omega
  · rw [← List.append_assoc, show p + (g1 ++ g2).length = p + g1.length + g2.length by simp; omega]
    exact c2
theorem Cuts.nil (s : ByteArray) (p : Nat) : Cuts s p [] [] := fun f acc hc => ⟨[], by simp, rfl, by simpa using hc⟩
theorem closed_snoc {acc : List Tk} {t : Tk} {p : Nat} (h : t.e < p) : Closed (acc ++ [t]) p := fun u hu => by
  simp at hu
  subst hu
  exact h
/-- A number's kind in a text. -/
def numTok (k : Nat) (n : Int) : Nat × List UInt8 := (if k = 2 ∧ n = -1 then 5 else 4, numText k n)
def okT (k : Nat) (n : Int) : Prop := (k = 2 ∧ n = -1) ∨ (0 ≤ n ∧ n < 100)
theorem itoa_small {n : Int} (h0 : 0 ≤ n) (h1 : n < 100) : ∃ m : Nat, n = m ∧ m < 100 ∧ Lib.itoa n = (if m < 10 then [UInt8.ofNat (48 + m)] else [UInt8.ofNat (48 + m / 10), UInt8.ofNat (48 + m % 10)]) := by
  obtain ⟨m, rfl⟩ := Int.eq_ofNat_of_zero_le h0
  refine ⟨m, rfl, by omega, ?_⟩
  unfold Lib.itoa
  rw [if_neg (by omega)]
  simp only [Int.toNat_natCast]
  split
  · rename_i h
    rw [Lib.decDigits, dif_pos h]
  · rename_i h
    rw [Lib.decDigits, dif_neg h, Lib.decDigits, dif_pos (by omega)]
    rfl
theorem digit_kind (d : Nat) (h : d < 10) : kindN (UInt8.ofNat (48 + d)).toNat = 4 ∧ (UInt8.ofNat (48 + d)).toNat = 48 + d := by
  have : (UInt8.ofNat (48 + d)).toNat = 48 + d := by simp; omega
  rw [this]
  refine ⟨?_, rfl⟩
  unfold kindN
  rw [if_neg (by omega), if_neg (by omega), if_neg (by omega), if_pos (by omega)]
theorem numText_digits {k : Nat} {n : Int} (h : ¬ (k = 2 ∧ n = -1)) (h0 : 0 ≤ n) (h1 : n < 100) : numText k n ≠ [] ∧ (∀ b ∈ numText k n, kindN b.toNat = 4) ∧ (numText k n).length ≤ 3 ∧ ((valN (numText k n) : Nat) : Int) = n := by
  unfold numText
  rw [if_neg h]
  obtain ⟨m, rfl, hm, e⟩ := itoa_small h0 h1
  rw [e]
  split
  · rename_i hlt
    have d := digit_kind m hlt
    refine ⟨by simp, fun b hb => ?_, by simp, ?_⟩
    · simp only [List.mem_singleton] at hb; subst hb; exact d.1
    · simp only [valN, List.foldl, d.2]; omega
  · rename_i hlt
    have d := digit_kind (m / 10) (by omega)
    have d2 := digit_kind (m % 10) (by omega)
    refine ⟨by simp, fun b hb => ?_, by simp, ?_⟩
    · simp only [List.mem_cons, List.not_mem_nil, or_false] at hb
      rcases hb with rfl | rfl
      · exact d.1
      · exact d2.1
    · simp only [valN, List.foldl, d.2, d2.2]; omega
theorem vw_at (pre r post : List UInt8) (k : Nat) : vw ⟨(pre ++ r ++ post).toArray⟩ ⟨k, pre.length, pre.length + r.length⟩ = (k, r) := by
  unfold vw
  rw [ext_at]
/-- A blank and a number. -/
theorem cut_num (k : Nat) (n : Int) (ok : okT k n) (pre post : List UInt8) (s : ByteArray) (hs : s = ⟨(pre ++ (32 :: numText k n) ++ post).toArray⟩) (f : Nat) (acc : List Tk) (hc : ∀ t, acc.getLast? = some t → t.e ≤ pre.length) :
    ∃ t, cutF s (f + (32 :: numText k n).length) pre.length false acc = cutF s f (pre.length + (32 :: numText k n).length) false (acc ++ [t]) ∧ vw s t = numTok k n ∧ t.e = pre.length + (32 :: numText k n).length := by
  have e0 : f + (32 :: numText k n).length = (f + (numText k n).length) + 1 := by simp; omega
  have h1 := cut_sp s 32 pre (numText k n ++ post) (f + (numText k n).length) acc (by rw [hs]; simp) (by decide)
  have hs2 : s = ⟨((pre ++ [32]) ++ numText k n ++ post).toArray⟩ := by rw [hs]; simp
  by_cases hd : k = 2 ∧ n = -1
  · have hn : numText k n = [45] := by unfold numText; rw [if_pos hd]
    have hs3 : s = ⟨((pre ++ [32]) ++ 45 :: post).toArray⟩ := by rw [hs2, hn]; simp
    have h2 := cut_one s 5 (Or.inl rfl) 45 (pre ++ [32]) post f acc hs3 (by decide)
    refine ⟨⟨5, (pre ++ [32]).length, (pre ++ [32]).length + 1⟩, ?_, ?_, ?_⟩
    · rw [e0, h1, hn]
      simp only [List.length_append, List.length_cons, List.length_nil] at h2 ⊢
      rw [h2]
    · have := vw_at (pre ++ [32]) [45] post 5
      unfold numTok
      rw [if_pos hd, hn, hs2, hn]
      exact this
    · simp [hn]
  · have hdg : 0 ≤ n ∧ n < 100 := ok.resolve_left hd
    obtain ⟨g1, g2, g3, g4⟩ := numText_digits hd hdg.1 hdg.2
    have h2 := cut_run s 4 (Or.inr rfl) (numText k n) (pre ++ [32]) post f acc hs2 g2 g1 (fun t ht => by have := hc t ht; simp; omega)
    refine ⟨⟨4, (pre ++ [32]).length, (pre ++ [32]).length + (numText k n).length⟩, ?_, ?_, ?_⟩
    · rw [e0, h1]
      simp only [List.length_append, List.length_cons, List.length_nil] at h2 ⊢
      rw [h2]
      congr 1
      omega
    · have := vw_at (pre ++ [32]) (numText k n) post 4
      unfold numTok
      rw [if_neg hd, hs2]
      exact this
    · simp; omega
theorem cut_nums (k : Nat) (s : ByteArray) : ∀ (ns : List Int) (pre post : List UInt8) (f : Nat) (acc : List Tk), (∀ n ∈ ns, okT k n) → s = ⟨(pre ++ numsText k ns ++ post).toArray⟩ → (∀ t, acc.getLast? = some t → t.e ≤ pre.length) →
    ∃ toks, cutF s (f + (numsText k ns).length) pre.length false acc = cutF s f (pre.length + (numsText k ns).length) false (acc ++ toks) ∧ toks.map (vw s) = ns.map (numTok k) ∧ (∀ t, (acc ++ toks).getLast? = some t → t.e ≤ pre.length + (numsText k ns).length)
  | [], pre, post, f, acc, _, _, hc => ⟨[], by simp [numsText], rfl, by simpa [numsText] using hc⟩
  | n :: ns, pre, post, f, acc, hok, hs, hc => by
    have e1 : numsText k (n :: ns) = (32 :: numText k n) ++ numsText k ns := by simp [numsText]
    obtain ⟨t, a1, b1, c1⟩ := cut_num k n (hok n (by simp)) pre (numsText k ns ++ post) s (by rw [hs, e1]; simp) (f + (numsText k ns).length) acc hc
    obtain ⟨toks, a2, b2, c2⟩ := cut_nums k s ns (pre ++ (32 :: numText k n)) post f (acc ++ [t]) (fun x hx => hok x (by simp [hx])) (by rw [hs, e1]; simp) (fun u hu => by simp at hu; subst hu; rw [c1]; simp)
    refine ⟨t :: toks, ?_, by simp [b1, b2], ?_⟩
    · rw [e1, show f + ((32 :: numText k n) ++ numsText k ns).length = f + (numsText k ns).length + (32 :: numText k n).length by simp; omega, a1]
      simp only [List.length_append] at a2 ⊢
      rw [a2]
      simp only [List.append_assoc, List.singleton_append]
      congr 1
      omega
    · intro u hu
      have := c2 u (by simpa using hu)
      simp only [List.length_append, e1] at this ⊢
      omega
/-- What an item is cut into. -/
def itemToks (k : Nat) (ns : List Int) : List (Nat × List UInt8) := (3, nm k) :: (ns.map (numTok k) ++ [(6, [59])])
theorem nm_word (k : Nat) (hk : k < 11) : nm k ≠ [] ∧ ∀ b ∈ nm k, kindN b.toNat = 3 := by
  match k, hk with
  | 0, _ | 1, _ | 2, _ | 3, _ | 4, _ | 5, _ | 6, _ | 7, _ | 8, _ | 9, _ | 10, _ => exact ⟨by decide, by decide⟩
theorem cut_item (k : Nat) (hk : k < 11) (ns : List Int) (hok : ∀ n ∈ ns, okT k n) (pre post : List UInt8) (s : ByteArray) (hs : s = ⟨(pre ++ itemText k ns ++ post).toArray⟩) : Cuts s pre.length (itemText k ns) (itemToks k ns) := by
  intro f acc hc
  obtain ⟨w1, w2⟩ := nm_word k hk
  have h1 := cut_run s 3 (Or.inl rfl) (nm k) pre (numsText k ns ++ [59, 10] ++ post) (f + 1 + 1 + (numsText k ns).length) acc (by rw [hs]; simp [itemText]) w2 w1 hc
  obtain ⟨toks, a2, b2, c2⟩ := cut_nums k s ns (pre ++ nm k) ([59, 10] ++ post) (f + 1 + 1) (acc ++ [⟨3, pre.length, pre.length + (nm k).length⟩]) hok (by rw [hs]; simp [itemText]) (fun t ht => by simp at ht; subst ht; simp)
  have h3 := cut_one s 6 (Or.inr rfl) 59 (pre ++ nm k ++ numsText k ns) (10 :: post) (f + 1) (acc ++ [⟨3, pre.length, pre.length + (nm k).length⟩] ++ toks) (by rw [hs]; simp [itemText]) (by decide)
  have h4 := cut_sp s 10 (pre ++ nm k ++ numsText k ns ++ [59]) post f (acc ++ [⟨3, pre.length, pre.length + (nm k).length⟩] ++ toks ++ [⟨6, (pre ++ nm k ++ numsText k ns).length, (pre ++ nm k ++ numsText k ns).length + 1⟩]) (by rw [hs]; simp [itemText]) (by decide)
  refine ⟨[⟨3, pre.length, pre.length + (nm k).length⟩] ++ toks ++ [⟨6, (pre ++ nm k ++ numsText k ns).length, (pre ++ nm k ++ numsText k ns).length + 1⟩], ?_, ?_, ?_⟩
  · rw [show f + (itemText k ns).length = f + 1 + 1 + (numsText k ns).length + (nm k).length by simp [itemText]; omega, h1]
    simp only [List.length_append, List.length_cons, List.length_nil] at a2 h3 h4 ⊢
    rw [a2, h3, h4]
    simp only [List.append_assoc]
    congr 1
    simp [itemText]; omega
  · simp only [List.map_append, b2, List.map_cons, List.map_nil, itemToks]
    have v1 := vw_at pre (nm k) (numsText k ns ++ [59, 10] ++ post) 3
    have v2 := vw_at (pre ++ nm k ++ numsText k ns) [59] (10 :: post) 6
    have e1 : (⟨(pre ++ nm k ++ (numsText k ns ++ [59, 10] ++ post)).toArray⟩ : ByteArray) = s := by rw [hs]; simp [itemText]
    have e2 : (⟨(pre ++ nm k ++ numsText k ns ++ [59] ++ (10 :: post)).toArray⟩ : ByteArray) = s := by rw [hs]; simp [itemText]
    rw [e1] at v1
    rw [e2] at v2
    simp only [List.length_cons, List.length_nil] at v2
    rw [v1, v2]
    simp
  · rw [show acc ++ ([⟨3, pre.length, pre.length + (nm k).length⟩] ++ toks ++ [⟨6, (pre ++ nm k ++ numsText k ns).length, (pre ++ nm k ++ numsText k ns).length + 1⟩]) = (acc ++ ([⟨3, pre.length, pre.length + (nm k).length⟩] ++ toks)) ++ [⟨6, (pre ++ nm k ++ numsText k ns).length, (pre ++ nm k ++ numsText k ns).length + 1⟩] by simp]
    exact closed_snoc (by simp [itemText]; omega)
/-- A whole text of items. -/
def itemsText (Q : List (Nat × List Int)) : List UInt8 := Q.flatMap fun x => itemText x.1 x.2
def itemsToks (Q : List (Nat × List Int)) : List (Nat × List UInt8) := Q.flatMap fun x => itemToks x.1 x.2
theorem cut_items (s : ByteArray) : ∀ (Q : List (Nat × List Int)) (pre post : List UInt8), (∀ x ∈ Q, x.1 < 11 ∧ ∀ n ∈ x.2, okT x.1 n) → s = ⟨(pre ++ itemsText Q ++ post).toArray⟩ → Cuts s pre.length (itemsText Q) (itemsToks Q)
  | [], pre, post, _, _ => Cuts.nil s _
  | x :: Q, pre, post, h, hs => by
    have e1 : itemsText (x :: Q) = itemText x.1 x.2 ++ itemsText Q := by simp [itemsText]
    have e2 : itemsToks (x :: Q) = itemToks x.1 x.2 ++ itemsToks Q := by simp [itemsToks]
    rw [e1, e2]
    refine (cut_item x.1 (h x (by simp)).1 x.2 (h x (by simp)).2 pre (itemsText Q ++ post) s (by rw [hs, e1]; simp)).app ?_
    have := cut_items s Q (pre ++ itemText x.1 x.2) post (fun y hy => h y (by simp [hy])) (by rw [hs, e1]; simp)
    simpa using this
theorem cut_whole (Q : List (Nat × List Int)) (h : ∀ x ∈ Q, x.1 < 11 ∧ ∀ n ∈ x.2, okT x.1 n) : ∃ L, cutF ⟨(itemsText Q).toArray⟩ (⟨(itemsText Q).toArray⟩ : ByteArray).size 0 false [] = .inr L ∧ L.map (vw ⟨(itemsText Q).toArray⟩) = itemsToks Q := by
  obtain ⟨toks, a, b, -⟩ := cut_items ⟨(itemsText Q).toArray⟩ Q [] [] h (by simp) 0 [] (fun t ht => by simp at ht)
  refine ⟨toks, ?_, b⟩
  simp only [List.length_nil, Nat.zero_add, List.nil_append] at a
  have e : (⟨(itemsText Q).toArray⟩ : ByteArray).size = (itemsText Q).length := by simp [ByteArray.size]
  rw [e, a]
  rfl
end Go.Proofs.YtgfliildindkgaaGreatDoor
