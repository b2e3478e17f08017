/-
  Own work of the verifier: WrtPure, WrtRead, as one text.
-/
import Derived.Test.YtobempobmokkcaaGreatDoorPsParse
import Derived.Test.YtobempobmokkcaaGreatDoorPrtPrint
import Derived.Test.YtobempobmokkcaaGreatDoorTblReg
namespace Go.Proofs.YtobempobmokkcaaGreatDoor
open Go.RowKit

def vw (s : ByteArray) (t : Tk) : Nat × List UInt8 := (t.k, (s.extract t.a t.e).data.toList)
def Closed (acc : List Tk) (p : Nat) : Prop := ∀ t, acc.getLast? = some t → t.e < p
theorem get_at (pre post : List UInt8) (x : UInt8) : (⟨(pre ++ x :: post).toArray⟩ : ByteArray).get! pre.length = x ∧ pre.length < (⟨(pre ++ x :: post).toArray⟩ : ByteArray).size := by
  constructor
  · simp [ByteArray.get!]
  · simp [ByteArray.size]
theorem ext_at (pre r post : List UInt8) : ((⟨(pre ++ r ++ post).toArray⟩ : ByteArray).extract pre.length (pre.length + r.length)).data.toList = r := by
  simp [ByteArray.data_extract]
/-- A run goes on. -/
theorem cut_more (s : ByteArray) (k a : Nat) (hk : k = 3 ∨ k = 4) : ∀ (r pre post : List UInt8) (f : Nat) (acc : List Tk), s = ⟨(pre ++ r ++ post).toArray⟩ → (∀ b ∈ r, kindN b.toNat = k) →
    cutF s (f + r.length) pre.length false (acc ++ [⟨k, a, pre.length⟩]) = cutF s f (pre.length + r.length) false (acc ++ [⟨k, a, pre.length + r.length⟩])
  | [], pre, post, f, acc, _, _ => by simp
  | b :: r, pre, post, f, acc, hs, hb => by
    have hg := get_at pre (r ++ post) b
    have he : s = ⟨(pre ++ b :: (r ++ post)).toArray⟩ := by rw [hs]; simp
    rw [← he] at hg
    have hkb := hb b (by simp)
    have ih := cut_more s k a hk r (pre ++ [b]) post f acc (by rw [hs]; simp) (fun x hx => hb x (by simp [hx]))
    have e1 : f + (b :: r).length = (f + r.length) + 1 := by simp; omega
    rw [e1, cutF_piece s _ _ _ hg.2 (by rw [hg.1, hkb]; omega), hg.1, hkb, addR_on _ _ _ _ hk]
    simp only [List.length_append, List.length_cons, List.length_nil] at ih ⊢
    rw [ih]
    congr 1
    · omega
    · congr 3
      omega
/-- A run: a word, or a number. -/
theorem cut_run (s : ByteArray) (k : Nat) (hk : k = 3 ∨ k = 4) (r pre post : List UInt8) (f : Nat) (acc : List Tk) (hs : s = ⟨(pre ++ r ++ post).toArray⟩) (hb : ∀ b ∈ r, kindN b.toNat = k) (hne : r ≠ []) (hcl : Closed acc pre.length) :
    cutF s (f + r.length) pre.length false acc = cutF s f (pre.length + r.length) false (acc ++ [⟨k, pre.length, pre.length + r.length⟩]) := by
  cases r with
  | nil => exact absurd rfl hne
  | cons b r =>
    have hg := get_at pre (r ++ post) b
    have he : s = ⟨(pre ++ b :: (r ++ post)).toArray⟩ := by rw [hs]; simp
    rw [← he] at hg
    have hkb := hb b (by simp)
    have ih := cut_more s k pre.length hk r (pre ++ [b]) post f acc (by rw [hs]; simp) (fun x hx => hb x (by simp [hx]))
    have e1 : f + (b :: r).length = (f + r.length) + 1 := by simp; omega
    rw [e1, cutF_piece s _ _ _ hg.2 (by rw [hg.1, hkb]; omega), hg.1, hkb, addR_new _ _ _ (fun t ht _ _ => Nat.ne_of_lt (hcl t ht))]
    simp only [List.length_append, List.length_cons, List.length_nil] at ih ⊢
    rw [ih]
    congr 1
    · omega
    · congr 3
      omega
theorem cut_one (s : ByteArray) (k : Nat) (hk : k = 5 ∨ k = 6) (b : UInt8) (pre post : List UInt8) (f : Nat) (acc : List Tk) (hs : s = ⟨(pre ++ b :: post).toArray⟩) (hb : kindN b.toNat = k) :
    cutF s (f + 1) pre.length false acc = cutF s f (pre.length + 1) false (acc ++ [⟨k, pre.length, pre.length + 1⟩]) := by
  have hg := get_at pre post b
  rw [← hs] at hg
  rw [cutF_piece s _ _ _ hg.2 (by rw [hg.1, hb]; omega), hg.1, hb, addR_new _ _ _ (fun t _ h => by omega)]
theorem cut_sp (s : ByteArray) (b : UInt8) (pre post : List UInt8) (f : Nat) (acc : List Tk) (hs : s = ⟨(pre ++ b :: post).toArray⟩) (hb : kindN b.toNat = 1) :
    cutF s (f + 1) pre.length false acc = cutF s f (pre.length + 1) false acc := by
  have hg := get_at pre post b
  rw [← hs] at hg
  exact cutF_space s f _ acc hg.2 (by rw [hg.1]; exact hb)
/-- What a segment is cut into. -/
def Cuts (s : ByteArray) (p : Nat) (seg : List UInt8) (E : List (Nat × List UInt8)) : Prop := ∀ f acc, Closed acc p →
  ∃ toks, cutF s (f + seg.length) p false acc = cutF s f (p + seg.length) false (acc ++ toks) ∧ toks.map (vw s) = E ∧ Closed (acc ++ toks) (p + seg.length)
theorem Cuts.app {s : ByteArray} {p : Nat} {g1 g2 : List UInt8} {E1 E2 : List (Nat × List UInt8)} (h1 : Cuts s p g1 E1) (h2 : Cuts s (p + g1.length) g2 E2) : Cuts s p (g1 ++ g2) (E1 ++ E2) := by
  intro f acc hc
  obtain ⟨k1, a1, b1, c1⟩ := h1 (f + g2.length) acc hc
  obtain ⟨k2, a2, b2, c2⟩ := h2 f (acc ++ k1) c1
  refine ⟨k1 ++ k2, ?_, by rw [List.map_append, b1, b2], ?_⟩
  · rw [show f + (g1 ++ g2).length = f + g2.length + g1.length by simp; omega, a1, a2, List.append_assoc]
    congr 1
    simp; omega
  · rw [← List.append_assoc, show p + (g1 ++ g2).length = p + g1.length + g2.length by simp; omega]
    exact c2
theorem Cuts.nil (s : ByteArray) (p : Nat) : Cuts s p [] [] := fun f acc hc => ⟨[], by simp, rfl, by simpa using hc⟩
theorem closed_snoc {acc : List Tk} {t : Tk} {p : Nat} (h : t.e < p) : Closed (acc ++ [t]) p := fun u hu => by
  simp at hu
  subst hu
  exact h
/-- A number's kind in a text. -/
def numTok (k : Nat) (n : Int) : Nat × List UInt8 := (if k = 2 ∧ n = -1 then 5 else 4, numText k n)
def okT (k : Nat) (n : Int) : Prop := (k = 2 ∧ n = -1) ∨ (0 ≤ n ∧ n < 100)
theorem itoa_small {n : Int} (h0 : 0 ≤ n) (h1 : n < 100) : ∃ m : Nat, n = m ∧ m < 100 ∧ Lib.itoa n = (if m < 10 then [UInt8.ofNat (48 + m)] else [UInt8.ofNat (48 + m / 10), UInt8.ofNat (48 + m % 10)]) := by
  obtain ⟨m, rfl⟩ := Int.eq_ofNat_of_zero_le h0
  refine ⟨m, rfl, by omega, ?_⟩
  unfold Lib.itoa
  rw [if_neg (by omega)]
  simp only [Int.toNat_natCast]
  split
  · rename_i h
    rw [Lib.decDigits, dif_pos h]
  · rename_i h
    rw [Lib.decDigits, dif_neg h, Lib.decDigits, dif_pos (by omega)]
    rfl
theorem digit_kind (d : Nat) (h : d < 10) : kindN (UInt8.ofNat (48 + d)).toNat = 4 ∧ (UInt8.ofNat (48 + d)).toNat = 48 + d := by
  have : (UInt8.ofNat (48 + d)).toNat = 48 + d := by simp; omega
  rw [this]
  refine ⟨?_, rfl⟩
  unfold kindN
  rw [if_neg (by omega), if_neg (by omega), if_neg (by omega), if_pos (by omega)]
theorem numText_digits {k : Nat} {n : Int} (h : ¬ (k = 2 ∧ n = -1)) (h0 : 0 ≤ n) (h1 : n < 100) : numText k n ≠ [] ∧ (∀ b ∈ numText k n, kindN b.toNat = 4) ∧ (numText k n).length ≤ 3 ∧ ((valN (numText k n) : Nat) : Int) = n := by
  unfold numText
  rw [if_neg h]
  obtain ⟨m, rfl, hm, e⟩ := itoa_small h0 h1
  rw [e]
  split
  · rename_i hlt
    have d := digit_kind m hlt
    refine ⟨by simp, fun b hb => ?_, by simp, ?_⟩
    · simp only [List.mem_singleton] at hb; subst hb; exact d.1
    · simp only [valN, List.foldl, d.2]; omega
  · rename_i hlt
    have d := digit_kind (m / 10) (by omega)
    have d2 := digit_kind (m % 10) (by omega)
    refine ⟨by simp, fun b hb => ?_, by simp, ?_⟩
    · simp only [List.mem_cons, List.not_mem_nil, or_false] at hb
      rcases hb with rfl | rfl
      · exact d.1
      · exact d2.1
    · simp only [valN, List.foldl, d.2, d2.2]; omega
theorem vw_at (pre r post : List UInt8) (k : Nat) : vw ⟨(pre ++ r ++ post).toArray⟩ ⟨k, pre.length, pre.length + r.length⟩ = (k, r) := by
  unfold vw
  rw [ext_at]
/-- A blank and a number. -/
theorem cut_num (k : Nat) (n : Int) (ok : okT k n) (pre post : List UInt8) (s : ByteArray) (hs : s = ⟨(pre ++ (32 :: numText k n) ++ post).toArray⟩) (f : Nat) (acc : List Tk) (hc : ∀ t, acc.getLast? = some t → t.e ≤ pre.length) :
    ∃ t, cutF s (f + (32 :: numText k n).length) pre.length false acc = cutF s f (pre.length + (32 :: numText k n).length) false (acc ++ [t]) ∧ vw s t = numTok k n ∧ t.e = pre.length + (32 :: numText k n).length := by
  have e0 : f + (32 :: numText k n).length = (f + (numText k n).length) + 1 := by simp; omega
  have h1 := cut_sp s 32 pre (numText k n ++ post) (f + (numText k n).length) acc (by rw [hs]; simp) (by decide)
  have hs2 : s = ⟨((pre ++ [32]) ++ numText k n ++ post).toArray⟩ := by rw [hs]; simp
  by_cases hd : k = 2 ∧ n = -1
  · have hn : numText k n = [45] := by unfold numText; rw [if_pos hd]
    have hs3 : s = ⟨((pre ++ [32]) ++ 45 :: post).toArray⟩ := by rw [hs2, hn]; simp
    have h2 := cut_one s 5 (Or.inl rfl) 45 (pre ++ [32]) post f acc hs3 (by decide)
    refine ⟨⟨5, (pre ++ [32]).length, (pre ++ [32]).length + 1⟩, ?_, ?_, ?_⟩
    · rw [e0, h1, hn]
      simp only [List.length_append, List.length_cons, List.length_nil] at h2 ⊢
      rw [h2]
    · have := vw_at (pre ++ [32]) [45] post 5
      unfold numTok
      rw [if_pos hd, hn, hs2, hn]
      exact this
    · simp [hn]
  · have hdg : 0 ≤ n ∧ n < 100 := ok.resolve_left hd
    obtain ⟨g1, g2, g3, g4⟩ := numText_digits hd hdg.1 hdg.2
    have h2 := cut_run s 4 (Or.inr rfl) (numText k n) (pre ++ [32]) post f acc hs2 g2 g1 (fun t ht => by have := hc t ht; simp; omega)
    refine ⟨⟨4, (pre ++ [32]).length, (pre ++ [32]).length + (numText k n).length⟩, ?_, ?_, ?_⟩
    · rw [e0, h1]
      simp only [List.length_append, List.length_cons, List.length_nil] at h2 ⊢
      rw [h2]
      congr 1
      omega
    · have := vw_at (pre ++ [32]) (numText k n) post 4
      unfold numTok
      rw [if_neg hd, hs2]
      exact this
    · simp; omega
theorem cut_nums (k : Nat) (s : ByteArray) : ∀ (ns : List Int) (pre post : List UInt8) (f : Nat) (acc : List Tk), (∀ n ∈ ns, okT k n) → s = ⟨(pre ++ numsText k ns ++ post).toArray⟩ → (∀ t, acc.getLast? = some t → t.e ≤ pre.length) →
    ∃ toks, cutF s (f + (numsText k ns).length) pre.length false acc = cutF s f (pre.length + (numsText k ns).length) false (acc ++ toks) ∧ toks.map (vw s) = ns.map (numTok k) ∧ (∀ t, (acc ++ toks).getLast? = some t → t.e ≤ pre.length + (numsText k ns).length)
  | [], pre, post, f, acc, _, _, hc => ⟨[], by simp [numsText], rfl, by simpa [numsText] using hc⟩
  | n :: ns, pre, post, f, acc, hok, hs, hc => by
    have e1 : numsText k (n :: ns) = (32 :: numText k n) ++ numsText k ns := by simp [numsText]
    obtain ⟨t, a1, b1, c1⟩ := cut_num k n (hok n (by simp)) pre (numsText k ns ++ post) s (by rw [hs, e1]; simp) (f + (numsText k ns).length) acc hc
    obtain ⟨toks, a2, b2, c2⟩ := cut_nums k s ns (pre ++ (32 :: numText k n)) post f (acc ++ [t]) (fun x hx => hok x (by simp [hx])) (by rw [hs, e1]; simp) (fun u hu => by simp at hu; subst hu; rw [c1]; simp)
    refine ⟨t :: toks, ?_, by simp [b1, b2], ?_⟩
    · rw [e1, show f + ((32 :: numText k n) ++ numsText k ns).length = f + (numsText k ns).length + (32 :: numText k n).length by simp; omega, a1]
      simp only [List.length_append] at a2 ⊢
      rw [a2]
      simp only [List.append_assoc, List.singleton_append]
      congr 1
      omega
    · intro u hu
      have := c2 u (by simpa using hu)
      simp only [List.length_append, e1] at this ⊢
      omega
/-- What an item is cut into. -/
def itemToks (k : Nat) (ns : List Int) : List (Nat × List UInt8) := (3, nm k) :: (ns.map (numTok k) ++ [(6, [59])])
theorem nm_word (k : Nat) (hk : k < 11) : nm k ≠ [] ∧ ∀ b ∈ nm k, kindN b.toNat = 3 := by
  match k, hk with
  | 0, _ | 1, _ | 2, _ | 3, _ | 4, _ | 5, _ | 6, _ | 7, _ | 8, _ | 9, _ | 10, _ => exact ⟨by decide, by decide⟩
theorem cut_item (k : Nat) (hk : k < 11) (ns : List Int) (hok : ∀ n ∈ ns, okT k n) (pre post : List UInt8) (s : ByteArray) (hs : s = ⟨(pre ++ itemText k ns ++ post).toArray⟩) : Cuts s pre.length (itemText k ns) (itemToks k ns) := by
  intro f acc hc
  obtain ⟨w1, w2⟩ := nm_word k hk
  have h1 := cut_run s 3 (Or.inl rfl) (nm k) pre (numsText k ns ++ [59, 10] ++ post) (f + 1 + 1 + (numsText k ns).length) acc (by rw [hs]; simp [itemText]) w2 w1 hc
  obtain ⟨toks, a2, b2, c2⟩ := cut_nums k s ns (pre ++ nm k) ([59, 10] ++ post) (f + 1 + 1) (acc ++ [⟨3, pre.length, pre.length + (nm k).length⟩]) hok (by rw [hs]; simp [itemText]) (fun t ht => by simp at ht; subst ht; simp)
  have h3 := cut_one s 6 (Or.inr rfl) 59 (pre ++ nm k ++ numsText k ns) (10 :: post) (f + 1) (acc ++ [⟨3, pre.length, pre.length + (nm k).length⟩] ++ toks) (by rw [hs]; simp [itemText]) (by decide)
  have h4 := cut_sp s 10 (pre ++ nm k ++ numsText k ns ++ [59]) post f (acc ++ [⟨3, pre.length, pre.length + (nm k).length⟩] ++ toks ++ [⟨6, (pre ++ nm k ++ numsText k ns).length, (pre ++ nm k ++ numsText k ns).length + 1⟩]) (by rw [hs]; simp [itemText]) (by decide)
  refine ⟨[⟨3, pre.length, pre.length + (nm k).length⟩] ++ toks ++ [⟨6, (pre ++ nm k ++ numsText k ns).length, (pre ++ nm k ++ numsText k ns).length + 1⟩], ?_, ?_, ?_⟩
  · rw [show f + (itemText k ns).length = f + 1 + 1 + (numsText k ns).length + (nm k).length by simp [itemText]; omega, h1]
    simp only [List.length_append, List.length_cons, List.length_nil] at a2 h3 h4 ⊢
    rw [a2, h3, h4]
    simp only [List.append_assoc]
    congr 1
    simp [itemText]; omega
  · simp only [List.map_append, b2, List.map_cons, List.map_nil, itemToks]
    have v1 := vw_at pre (nm k) (numsText k ns ++ [59, 10] ++ post) 3
    have v2 := vw_at (pre ++ nm k ++ numsText k ns) [59] (10 :: post) 6
    have e1 : (⟨(pre ++ nm k ++ (numsText k ns ++ [59, 10] ++ post)).toArray⟩ : ByteArray) = s := by rw [hs]; simp [itemText]
    have e2 : (⟨(pre ++ nm k ++ numsText k ns ++ [59] ++ (10 :: post)).toArray⟩ : ByteArray) = s := by rw [hs]; simp [itemText]
    rw [e1] at v1
    rw [e2] at v2
    simp only [List.length_cons, List.length_nil] at v2
    rw [v1, v2]
    simp
  · rw [show acc ++ ([⟨3, pre.length, pre.length + (nm k).length⟩] ++ toks ++ [⟨6, (pre ++ nm k ++ numsText k ns).length, (pre ++ nm k ++ numsText k ns).length + 1⟩]) = (acc ++ ([⟨3, pre.length, pre.length + (nm k).length⟩] ++ toks)) ++ [⟨6, (pre ++ nm k ++ numsText k ns).length, (pre ++ nm k ++ numsText k ns).length + 1⟩] by simp]
    exact closed_snoc (by simp [itemText]; omega)
/-- A whole text of items. -/
def itemsText (Q : List (Nat × List Int)) : List UInt8 := Q.flatMap fun x => itemText x.1 x.2
def itemsToks (Q : List (Nat × List Int)) : List (Nat × List UInt8) := Q.flatMap fun x => itemToks x.1 x.2
theorem cut_items (s : ByteArray) : ∀ (Q : List (Nat × List Int)) (pre post : List UInt8), (∀ x ∈ Q, x.1 < 11 ∧ ∀ n ∈ x.2, okT x.1 n) → s = ⟨(pre ++ itemsText Q ++ post).toArray⟩ → Cuts s pre.length (itemsText Q) (itemsToks Q)
  | [], pre, post, _, _ => Cuts.nil s _
  | x :: Q, pre, post, h, hs => by
    have e1 : itemsText (x :: Q) = itemText x.1 x.2 ++ itemsText Q := by simp [itemsText]
    have e2 : itemsToks (x :: Q) = itemToks x.1 x.2 ++ itemsToks Q := by simp [itemsToks]
    rw [e1, e2]
    refine (cut_item x.1 (h x (by simp)).1 x.2 (h x (by simp)).2 pre (itemsText Q ++ post) s (by rw [hs, e1]; simp)).app ?_
    have := cut_items s Q (pre ++ itemText x.1 x.2) post (fun y hy => h y (by simp [hy])) (by rw [hs, e1]; simp)
    simpa using this
theorem cut_whole (Q : List (Nat × List Int)) (h : ∀ x ∈ Q, x.1 < 11 ∧ ∀ n ∈ x.2, okT x.1 n) : ∃ L, cutF ⟨(itemsText Q).toArray⟩ (⟨(itemsText Q).toArray⟩ : ByteArray).size 0 false [] = .inr L ∧ L.map (vw ⟨(itemsText Q).toArray⟩) = itemsToks Q := by
  obtain ⟨toks, a, b, -⟩ := cut_items ⟨(itemsText Q).toArray⟩ Q [] [] h (by simp) 0 [] (fun t ht => by simp at ht)
  refine ⟨toks, ?_, b⟩
  simp only [List.length_nil, Nat.zero_add, List.nil_append] at a
  have e : (⟨(itemsText Q).toArray⟩ : ByteArray).size = (itemsText Q).length := by simp [ByteArray.size]
  rw [e, a]
  rfl
end Go.Proofs.YtobempobmokkcaaGreatDoor
namespace Go.Proofs.YtobempobmokkcaaGreatDoor
open Go.RowKit

theorem kAt_vw {s : ByteArray} {L : List Tk} {i : Nat} {x : Nat × List UInt8} (h : (L.map (vw s))[i]? = some x) : kAt L i = x.1 ∧ (tAt s L i).data.toList = x.2 ∧ i < L.length := by
  rw [List.getElem?_map, Option.map_eq_some_iff] at h
  obtain ⟨t, ht, rfl⟩ := h
  exact ⟨by simp [kAt, ht, vw], by simp [tAt, ht, vw], (List.getElem?_eq_some_iff.1 ht).1⟩
theorem nums_read (k : Nat) (s : ByteArray) (L : List Tk) : ∀ (rest : List Int) (f : Nat) (E1 E2 : List (Nat × List UInt8)) (ns0 : List Int), (∀ n ∈ rest, okT k n) → L.map (vw s) = E1 ++ (rest.map (numTok k) ++ (6, [59]) :: E2) → ns0.length + rest.length ≤ hiK k → rest.length ≤ f →
    numsF s L k f E1.length ns0 = (E1.length + rest.length, ns0 ++ rest)
  | [], f, E1, E2, ns0, _, hv, _, _ => by
    obtain ⟨h1, h2, -⟩ := kAt_vw (s := s) (L := L) (i := E1.length) (x := (6, [59])) (by rw [hv]; simp)
    cases f with
    | zero => simp [numsF]
    | succ f =>
      unfold numsF
      have hn : numF s L E1.length (decide (k = 2)) = none := by
        unfold numF
        rw [h1]
        simp
      rw [hn]
      simp
  | n :: rest, f, E1, E2, ns0, hok, hv, hhi, hf => by
    cases f with
    | zero => simp at hf
    | succ f =>
      obtain ⟨h1, h2, -⟩ := kAt_vw (s := s) (L := L) (i := E1.length) (x := numTok k n) (by rw [hv]; simp)
      have ih := nums_read k s L rest f (E1 ++ [numTok k n]) E2 (ns0 ++ [n]) (fun x hx => hok x (by simp [hx])) (by rw [hv]; simp) (by simp at hhi ⊢; omega) (by simp at hf; omega)
      have hn : numF s L E1.length (decide (k = 2)) = some n := by
        unfold numF
        by_cases hd : k = 2 ∧ n = -1
        · rw [if_pos ⟨by rw [h1]; simp [numTok, hd], by simp [hd.1]⟩, hd.2]
        · have hdg : 0 ≤ n ∧ n < 100 := (hok n (by simp)).resolve_left hd
          obtain ⟨g1, g2, g3, g4⟩ := numText_digits hd hdg.1 hdg.2
          have e4 : kAt L E1.length = 4 := by rw [h1]; simp [numTok, hd]
          have e5 : (tAt s L E1.length).data.toList = numText k n := by rw [h2]; rfl
          have e6 : (tAt s L E1.length).size ≤ 3 := by
            have : (tAt s L E1.length).size = (tAt s L E1.length).data.toList.length := (Array.length_toList (xs := (tAt s L E1.length).data)).symm
            rw [this, e5]; exact g3
          rw [if_neg (by rw [e4]; omega), if_pos ⟨e4, e6⟩, e5, g4]
      unfold numsF
      rw [if_pos (by simp at hhi; omega), hn]
      simp only [List.length_append, List.length_cons, List.length_nil] at ih ⊢
      rw [ih]
      simp
      omega
theorem item_read (s : ByteArray) (L : List Tk) (E1 E2 : List (Nat × List UInt8)) (k : Nat) (ns : List Int) (hv : L.map (vw s) = E1 ++ itemToks k ns ++ E2) (hk : k < 11) (hok : ∀ n ∈ ns, okT k n) (hlo : loK k ≤ ns.length) (hhi : ns.length ≤ hiK k) (sn : Nat → Bool) (vals : Nat → List Int) (hsn : sn k = false) :
    itemF s L ⟨E1.length, sn, vals⟩ = (true, ⟨E1.length + (itemToks k ns).length, updS sn k, updL vals k ns⟩) := by
  obtain ⟨h1, h2, -⟩ := kAt_vw (s := s) (L := L) (i := E1.length) (x := (3, nm k)) (by rw [hv]; simp [itemToks])
  have hN : nameK s L E1.length sn = some k := nameK_some ⟨hk, h2.symm, hsn⟩
  have hn := nums_read k s L ns 13 (E1 ++ [(3, nm k)]) E2 [] hok (by rw [hv]; simp [itemToks]) (by simpa using hhi) (by have := hiK_le k; omega)
  simp only [List.length_append, List.length_cons, List.length_nil, List.nil_append] at hn
  obtain ⟨h6, -, -⟩ := kAt_vw (s := s) (L := L) (i := E1.length + 1 + ns.length) (x := (6, [59])) (by
    rw [hv, show E1 ++ itemToks k ns ++ E2 = (E1 ++ (3, nm k) :: ns.map (numTok k)) ++ ((6, [59]) :: E2) by simp [itemToks], List.getElem?_append_right (by simp; omega)]
    simp [show E1.length + 1 + ns.length - (E1.length + (ns.length + 1)) = 0 by omega])
  unfold itemF
  simp only [hN]
  rw [hn]
  simp only [hlo, h6, if_true]
  simp [itemToks]
  omega
def foldS : List (Nat × List Int) → (Nat → Bool) → Nat → Bool
  | [], sn => sn
  | x :: Q, sn => foldS Q (updS sn x.1)
def foldV : List (Nat × List Int) → (Nat → List Int) → Nat → List Int
  | [], v => v
  | x :: Q, v => foldV Q (updL v x.1 x.2)
def okQ (x : Nat × List Int) : Prop := x.1 < 11 ∧ (∀ n ∈ x.2, okT x.1 n) ∧ loK x.1 ≤ x.2.length ∧ x.2.length ≤ hiK x.1
theorem items_read (s : ByteArray) (L : List Tk) : ∀ (Q : List (Nat × List Int)) (f : Nat) (E1 : List (Nat × List UInt8)) (sn : Nat → Bool) (vals : Nat → List Int), L.map (vw s) = E1 ++ itemsToks Q → (∀ x ∈ Q, okQ x) → (Q.map (·.1)).Nodup → (∀ x ∈ Q, sn x.1 = false) → Q.length ≤ f →
    itemsF s L f ⟨E1.length, sn, vals⟩ = (true, ⟨L.length, foldS Q sn, foldV Q vals⟩)
  | [], f, E1, sn, vals, hv, _, _, _, _ => by
    have hl : L.length = E1.length := by have := congrArg List.length hv; simpa [itemsToks] using this
    cases f with
    | zero => simp [itemsF, foldS, foldV, hl]
    | succ f => unfold itemsF; simp [foldS, foldV, hl]
  | x :: Q, f, E1, sn, vals, hv, hq, hnd, hsn, hf => by
    cases f with
    | zero => simp at hf
    | succ f =>
      have e2 : itemsToks (x :: Q) = itemToks x.1 x.2 ++ itemsToks Q := by simp [itemsToks]
      rw [e2, ← List.append_assoc] at hv
      obtain ⟨o1, o2, o3, o4⟩ := hq x (by simp)
      have h1 := item_read s L E1 (itemsToks Q) x.1 x.2 hv o1 o2 o3 o4 sn vals (hsn x (by simp))
      have hl : L.length = E1.length + (itemToks x.1 x.2).length + (itemsToks Q).length := by have := congrArg List.length hv; simp at this; omega
      have hp : 0 < (itemToks x.1 x.2).length := by simp [itemToks]
      simp only [List.map_cons, List.nodup_cons] at hnd
      have ih := items_read s L Q f (E1 ++ itemToks x.1 x.2) (updS sn x.1) (updL vals x.1 x.2) hv (fun y hy => hq y (by simp [hy])) hnd.2 (fun y hy => by
        have hne : y.1 ≠ x.1 := fun e => hnd.1 (by rw [← e]; exact List.mem_map_of_mem hy)
        simp [updS, hne]
        exact hsn y (by simp [hy])) (by simp at hf; omega)
      unfold itemsF
      rw [if_pos (by simp only; omega), h1]
      simp only [List.length_append] at ih
      simp only [if_true]
      rw [ih]
      rfl
theorem numText_small {k : Nat} {n : Int} (h : okT k n) : (numText k n).length ≤ 3 := by
  by_cases hd : k = 2 ∧ n = -1
  · unfold numText; rw [if_pos hd]; simp
  · have hdg := h.resolve_left hd
    exact (numText_digits hd hdg.1 hdg.2).2.2.1
theorem numsText_small (k : Nat) : ∀ (ns : List Int), (∀ n ∈ ns, okT k n) → (numsText k ns).length ≤ 4 * ns.length
  | [], _ => by simp [numsText]
  | n :: ns, h => by
    have h1 := numText_small (h n (by simp))
    have h2 := numsText_small k ns (fun x hx => h x (by simp [hx]))
    have e1 : numsText k (n :: ns) = (32 :: numText k n) ++ numsText k ns := by simp [numsText]
    rw [e1]
    simp only [List.length_append, List.length_cons]
    omega
theorem itemText_small {x : Nat × List Int} (h : okQ x) : (itemText x.1 x.2).length ≤ 9 + 4 * hiK x.1 := by
  have h1 := nm_len x.1
  have h2 := numsText_small x.1 x.2 h.2.1
  have h3 := h.2.2.2
  simp only [itemText, List.length_append, List.length_cons, List.length_nil]
  omega
theorem parse_items (Q : List (Nat × List Int)) (hq : ∀ x ∈ Q, okQ x) (hnd : (Q.map (·.1)).Nodup) (hsz : (itemsText Q).length ≤ 400) (hall : allB (foldS Q (fun _ => false)) = true) :
    ∃ i, parseF ⟨(itemsText Q).toArray⟩ = .inr ⟨i, foldS Q (fun _ => false), foldV Q (fun _ => [])⟩ := by
  obtain ⟨L, h1, h2⟩ := cut_whole Q (fun x hx => ⟨(hq x hx).1, (hq x hx).2.1⟩)
  have hl : Q.length ≤ L.length := by
    have := congrArg List.length h2
    simp at this
    rw [this]
    clear h1 h2 this hq hnd hsz hall
    induction Q with
    | nil => simp
    | cons x Q ih => simp [itemsToks, itemToks] at ih ⊢; omega
  have h3 := items_read ⟨(itemsText Q).toArray⟩ L Q L.length [] (fun _ => false) (fun _ => []) (by simpa using h2) hq hnd (fun _ _ => rfl) hl
  refine ⟨L.length, ?_⟩
  unfold parseF
  rw [if_neg (by simp [ByteArray.size]; omega), h1]
  simp only
  unfold parseL
  have h4 : itemsF ⟨(itemsText Q).toArray⟩ L L.length S00 = (true, ⟨L.length, foldS Q (fun _ => false), foldV Q (fun _ => [])⟩) := h3
  rw [h4]
  simp only
  rw [if_pos ⟨trivial, hall⟩]
theorem regs_mem {l : List Int} {c : Int} (h : regsB l c = true) : ∀ n ∈ l, 0 ≤ n ∧ n < c := by
  intro n hn
  obtain ⟨q, hq, rfl⟩ := List.getElem_of_mem hn
  have h1 := (List.all_eq_true.1 h) q (List.mem_range.2 hq)
  unfold regB at h1
  have hg : l.getD q 0 = l[q] := by simp [List.getD, hq]
  rw [hg] at h1
  have := of_decide_eq_true h1
  exact ⟨this.1, this.2.1⟩
def tabQ (r sp lk t0 t1 : Int) (ag rs ss : List Int) (al sh by_ : Int) (pr : Bool) : List (Nat × List Int) :=
  [(0, [r]), (1, [sp]), (2, [lk]), (3, [t0, t1]), (4, ag), (5, rs), (6, ss), (7, [al]), (8, [sh]), (9, [by_])] ++ (if pr then [(10, [])] else [])
theorem print_items (r sp lk t0 t1 : Int) (ag rs ss : List Int) (al sh by_ : Int) (pr : Bool) : printText r sp lk t0 t1 ag rs ss al sh by_ pr = itemsText (tabQ r sp lk t0 t1 ag rs ss al sh by_ pr) := by
  cases pr <;> simp [printText, itemsText, tabQ]
/-- A table that may be: its text is read as the table. -/
theorem parse_print {r sp lk t0 t1 : Int} {ag rs ss : List Int} {al sh by_ : Int} {pr : Bool} (h : tabB r sp lk t0 t1 ag rs ss al sh by_ = true) :
    ∃ S, parseF ⟨(printText r sp lk t0 t1 ag rs ss al sh by_ pr).toArray⟩ = .inr S ∧ S.vals 0 = [r] ∧ S.vals 1 = [sp] ∧ S.vals 2 = [lk] ∧ S.vals 3 = [t0, t1] ∧ S.vals 4 = ag ∧ S.vals 5 = rs ∧ S.vals 6 = ss ∧ S.vals 7 = [al] ∧ S.vals 8 = [sh] ∧ S.vals 9 = [by_] ∧ S.sn 10 = pr := by
  have h' := h
  unfold tabB at h'
  simp only [Bool.and_eq_true] at h'
  obtain ⟨⟨h1, h2⟩, h3⟩ := h'
  have n1 := of_decide_eq_true h1
  have n2 := of_decide_eq_true h2
  unfold regsOkB at h3
  simp only [Bool.and_eq_true] at h3
  obtain ⟨⟨⟨⟨⟨k0, k1, -⟩, k2, -⟩, k3, -⟩, -⟩, -⟩ := h3
  have m0 := regs_mem k0
  have m1 := regs_mem k1
  have m2 := regs_mem k2
  have m3 := regs_mem k3
  have own : (0 ≤ sp ∧ sp < r) ∧ (0 ≤ t0 ∧ t0 < r) ∧ (0 ≤ t1 ∧ t1 < r) ∧ (lk = -1 ∨ (0 ≤ lk ∧ lk < r)) := by
    unfold ownL at m0
    by_cases hk : lk = -1
    · rw [if_pos hk] at m0
      exact ⟨m0 sp (by simp), m0 t0 (by simp), m0 t1 (by simp), Or.inl hk⟩
    · rw [if_neg hk] at m0
      exact ⟨m0 sp (by simp), m0 t0 (by simp), m0 t1 (by simp), Or.inr (m0 lk (by simp))⟩
  obtain ⟨a0, a1, a2, a3⟩ := own
  obtain ⟨b0, b1, b2, b3, b4, b5, b6, b7⟩ := n1
  have one : ∀ (k : Nat) (n : Int), 0 ≤ n → n < 100 → loK k ≤ 1 → 1 ≤ hiK k → k < 11 → okQ (k, [n]) := fun k n g0 g1 g2 g3 g4 => ⟨g4, fun x hx => by simp at hx; subst hx; exact Or.inr ⟨g0, g1⟩, by simpa using g2, by simpa using g3⟩
  have lst : ∀ (k : Nat) (l : List Int), (∀ n ∈ l, 0 ≤ n ∧ n < r) → loK k = 0 → l.length ≤ hiK k → k < 11 → okQ (k, l) := fun k l g0 g1 g2 g3 => ⟨g3, fun x hx => Or.inr ⟨(g0 x hx).1, by have := (g0 x hx).2; omega⟩, by simp [g1], g2⟩
  have hq : ∀ x ∈ tabQ r sp lk t0 t1 ag rs ss al sh by_ pr, okQ x := by
    intro x hx
    unfold tabQ at hx
    rw [List.mem_append] at hx
    rcases hx with hx | hx
    · simp only [List.mem_cons, List.not_mem_nil, or_false] at hx
      rcases hx with rfl | rfl | rfl | rfl | rfl | rfl | rfl | rfl | rfl | rfl
      · exact one 0 r (by omega) (by omega) (by decide) (by decide) (by decide)
      · exact one 1 sp (by omega) (by omega) (by decide) (by decide) (by decide)
      · refine ⟨(by decide : 2 < 11), fun x hx => ?_, (by decide : loK 2 ≤ 1), (by decide : 1 ≤ hiK 2)⟩
        simp at hx
        subst hx
        rcases a3 with h | h
        · exact Or.inl ⟨rfl, h⟩
        · exact Or.inr ⟨h.1, by omega⟩
      · refine ⟨(by decide : 3 < 11), fun x hx => ?_, (by decide : loK 3 ≤ 2), (by decide : 2 ≤ hiK 3)⟩
        simp at hx
        rcases hx with rfl | rfl
        · exact Or.inr ⟨by omega, by omega⟩
        · exact Or.inr ⟨by omega, by omega⟩
      · exact lst 4 ag m1 rfl n2.1 (by decide)
      · exact lst 5 rs m2 rfl n2.2.1 (by decide)
      · exact lst 6 ss m3 rfl n2.2.2 (by decide)
      · exact one 7 al (by omega) (by omega) (by decide) (by decide) (by decide)
      · exact one 8 sh (by omega) (by omega) (by decide) (by decide) (by decide)
      · exact one 9 by_ (by omega) (by omega) (by decide) (by decide) (by decide)
    · cases pr with
      | false => simp at hx
      | true =>
        simp at hx
        subst hx
        exact ⟨(by decide : 10 < 11), fun x hx => (by simp at hx), (by decide : loK 10 ≤ 0), (by decide : 0 ≤ hiK 10)⟩
  have hnd : ((tabQ r sp lk t0 t1 ag rs ss al sh by_ pr).map (·.1)).Nodup := by
    cases pr <;> simp [tabQ]
  have hsz : (itemsText (tabQ r sp lk t0 t1 ag rs ss al sh by_ pr)).length ≤ 400 := by
    have g : ∀ x ∈ tabQ r sp lk t0 t1 ag rs ss al sh by_ pr, (itemText x.1 x.2).length ≤ 9 + 4 * hiK x.1 := fun x hx => itemText_small (hq x hx)
    cases pr with
    | false =>
      have g0 := g (0, [r]) (by simp [tabQ])
      have g1 := g (1, [sp]) (by simp [tabQ])
      have g2 := g (2, [lk]) (by simp [tabQ])
      have g3 := g (3, [t0, t1]) (by simp [tabQ])
      have g4 := g (4, ag) (by simp [tabQ])
      have g5 := g (5, rs) (by simp [tabQ])
      have g6 := g (6, ss) (by simp [tabQ])
      have g7 := g (7, [al]) (by simp [tabQ])
      have g8 := g (8, [sh]) (by simp [tabQ])
      have g9 := g (9, [by_]) (by simp [tabQ])
      simp only [hiK, List.getD_cons_zero, List.getD_cons_succ] at g0 g1 g2 g3 g4 g5 g6 g7 g8 g9
      simp only [tabQ, itemsText, List.flatMap_cons, List.flatMap_nil, List.flatMap_append, List.length_append, List.length_nil, Bool.false_eq_true, if_false]
      omega
    | true =>
      have g0 := g (0, [r]) (by simp [tabQ])
      have g1 := g (1, [sp]) (by simp [tabQ])
      have g2 := g (2, [lk]) (by simp [tabQ])
      have g3 := g (3, [t0, t1]) (by simp [tabQ])
      have g4 := g (4, ag) (by simp [tabQ])
      have g5 := g (5, rs) (by simp [tabQ])
      have g6 := g (6, ss) (by simp [tabQ])
      have g7 := g (7, [al]) (by simp [tabQ])
      have g8 := g (8, [sh]) (by simp [tabQ])
      have g9 := g (9, [by_]) (by simp [tabQ])
      have g10 := g (10, []) (by simp [tabQ])
      simp only [hiK, List.getD_cons_zero, List.getD_cons_succ] at g0 g1 g2 g3 g4 g5 g6 g7 g8 g9 g10
      simp only [tabQ, itemsText, List.flatMap_cons, List.flatMap_nil, List.flatMap_append, List.length_append, List.length_nil, if_true]
      omega
  have hall : allB (foldS (tabQ r sp lk t0 t1 ag rs ss al sh by_ pr) (fun _ => false)) = true := by
    cases pr <;> rfl
  obtain ⟨i, hi⟩ := parse_items _ hq hnd hsz hall
  rw [print_items]
  refine ⟨_, hi, ?_⟩
  cases pr <;> exact ⟨rfl, rfl, rfl, rfl, rfl, rfl, rfl, rfl, rfl, rfl, rfl⟩
end Go.Proofs.YtobempobmokkcaaGreatDoor
