/-
  Decodes: how what was read lies in memory; lists that are read. Own work of the verifier.
-/
import Derived.Test.YthnmdbddfmgdlaaDoorDecB
import Derived.Laws.MakeOwn
import Derived.Deep.Upon
namespace Go.Proofs.YthnmdbddfmgdlaaDoor
open Go.RowKit

def All2 {α β : Type} (R : α → β → Prop) : List α → List β → Prop
  | [], [] => True
  | a :: l, b :: m => R a b ∧ All2 R l m
  | [], _ :: _ => False
  | _ :: _, [] => False
section
variable {α β : Type} {R S : α → β → Prop}
theorem All2.nil {R : α → β → Prop} : All2 R [] [] := trivial
theorem All2.cons {a : α} {b : β} {l : List α} {m : List β} (h : R a b) (t : All2 R l m) : All2 R (a :: l) (b :: m) := ⟨h, t⟩
theorem All2.ind {P : List α → List β → Prop} (h0 : P [] []) (h1 : ∀ a b l m, R a b → P l m → P (a :: l) (b :: m)) : ∀ (l : List α) (m : List β), All2 R l m → P l m
  | [], [], _ => h0
  | a :: l, b :: m, h => h1 a b l m (show R a b ∧ All2 R l m from h).1 (All2.ind h0 h1 l m (show R a b ∧ All2 R l m from h).2)
  | [], _ :: _, h => (show False from h).elim
  | _ :: _, [], h => (show False from h).elim
theorem All2.len {l : List α} {m : List β} (h : All2 R l m) : l.length = m.length := by
  refine All2.ind (R := R) (P := fun l m => l.length = m.length) (by rfl) (fun a b l m _ ih => ?_) l m h
  simp [ih]
theorem All2.imp {l : List α} {m : List β} (h : All2 R l m) (hi : ∀ a b, R a b → S a b) : All2 S l m := All2.ind (R := R) (P := fun l m => All2 S l m) All2.nil (fun _ _ _ _ h ih => All2.cons (hi _ _ h) ih) l m h
theorem All2.snoc {l : List α} {m : List β} {a : α} {b : β} (h : All2 R l m) (hr : R a b) : All2 R (l ++ [a]) (m ++ [b]) := All2.ind (R := R) (P := fun l m => All2 R (l ++ [a]) (m ++ [b])) (All2.cons hr All2.nil) (fun _ _ _ _ h ih => All2.cons h ih) l m h
theorem All2.get {l : List α} {m : List β} (h : All2 R l m) : ∀ k (h1 : k < l.length) (h2 : k < m.length), R l[k] m[k] := by
  refine All2.ind (R := R) (P := fun l m => ∀ k (h1 : k < l.length) (h2 : k < m.length), R l[k] m[k]) (fun k h1 => by simp at h1) (fun a b l m h ih k h1 h2 => ?_) l m h
  cases k with
  | zero => exact h
  | succ k => exact ih k (by simpa using h1) (by simpa using h2)
end
def flat (cs : List (Array Value)) : List Value := cs.flatMap (·.toList)
theorem flat_snoc (cs : List (Array Value)) (c : Array Value) : flat (cs ++ [c]) = flat cs ++ c.toList := by simp [flat]
theorem flat_len {size : Nat} : ∀ (cs : List (Array Value)), (∀ c ∈ cs, c.size = size) → (flat cs).length = cs.length * size
  | [], _ => by simp [flat]
  | c :: cs, h => by
    have h1 := h c (by simp)
    have h2 := flat_len cs (fun d hd => h d (by simp [hd]))
    have h3 : flat (c :: cs) = c.toList ++ flat cs := by simp [flat]
    rw [h3, List.length_append, h2, List.length_cons, Nat.succ_mul]
    simp [h1]
    omega
/-- A list of the call's own, the cells of each element apart. -/
def OwnL (w : World) (B T size : Nat) (v : Value) (cs : List (Array Value)) : Prop := w.ownsRow B T size v cs.length (flat cs) ∧ ∀ c ∈ cs, c.size = size
def RepL {α : Type} (w : World) (B T size : Nat) (R : Array Value → α → Prop) (v : Value) (xs : List α) : Prop := ∃ cs, OwnL w B T size v cs ∧ All2 R cs xs
abbrev KeptOn (B : Nat) (w w' : World) : Prop := ∀ k, B ≤ k → k < w.heap.size → w'.heap[k]? = w.heap[k]?
theorem KeptOn.of_gb {w w' : World} {b B : Nat} (h : w.grownBy w' (some b)) (hb : b < B) : KeptOn B w w' := fun k h1 h2 => h.block k h2 (by intro e; injection e with e; omega)
theorem OwnL.keep {w w' : World} {B B' T size : Nat} {v : Value} {cs : List (Array Value)} (h : OwnL w B T size v cs) (hB : B' ≤ B) (hk : KeptOn B w w') : OwnL w' B' T size v cs := by
  refine ⟨⟨h.1.1, ?_⟩, h.2⟩
  rcases h.1.2 with h0 | ⟨g, cap, cur, e, h1, h2, h3⟩
  · exact Or.inl h0
  · exact Or.inr ⟨g, cap, cur, e, by omega, (hk g h1 (row_lt h2)).trans h2, h3⟩
theorem RepL.keep {α : Type} {w w' : World} {B B' T size : Nat} {R R' : Array Value → α → Prop} {v : Value} {xs : List α} (h : RepL w B T size R v xs) (hB : B' ≤ B) (hk : KeptOn B w w') (hR : ∀ c x, R c x → R' c x) : RepL w' B' T size R' v xs := by
  obtain ⟨cs, h1, h2⟩ := h
  exact ⟨cs, h1.keep hB hk, h2.imp hR⟩
theorem RepL.shape {α : Type} {w : World} {B T size : Nat} {R : Array Value → α → Prop} {v : Value} {xs : List α} (h : RepL w B T size R v xs) : ∃ a c, v = .slice a xs.length c := by
  obtain ⟨cs, h1, h2⟩ := h
  rw [← h2.len]
  rcases h1.1.2 with ⟨e, e0⟩ | ⟨g, cap, cur, e, -⟩
  · exact ⟨none, 0, by rw [e0]; exact e⟩
  · exact ⟨_, _, e⟩
theorem RepL.nil {α : Type} (w : World) (B T size : Nat) (R : Array Value → α → Prop) : RepL w B T size R (.slice none 0 0) [] := ⟨[], ⟨World.ownsRow_nil _ _ _ _, fun c hc => by cases hc⟩, .nil⟩
/-- A list under way: its row at g has room for n, the first of which are cs. -/
def PartL (w : World) (T size g n : Nat) (cs : List (Array Value)) : Prop := (∃ cur, w.heap[g]? = some (.cells cur T (0, 0)) ∧ cur.size = n * size ∧ cur.toList.take (cs.length * size) = flat cs) ∧ ∀ c ∈ cs, c.size = size
def putAll (cur : Array Value) (o : Nat) : List Value → Array Value
  | [] => cur
  | v :: vs => putAll (cur.setIfInBounds o v) (o + 1) vs
theorem putAll_size : ∀ (vs : List Value) (cur : Array Value) (o : Nat), (putAll cur o vs).size = cur.size
  | [], _, _ => rfl
  | v :: vs, cur, o => by rw [putAll, putAll_size vs]; simp
theorem putAll_take : ∀ (vs : List Value) (cur : Array Value) (o : Nat), o + vs.length ≤ cur.size → (putAll cur o vs).toList.take (o + vs.length) = cur.toList.take o ++ vs
  | [], cur, o, _ => by simp [putAll]
  | v :: vs, cur, o, h => by
    simp only [List.length_cons] at h
    have h1 := putAll_take vs (cur.setIfInBounds o v) (o + 1) (by simp; omega)
    rw [putAll, show o + (v :: vs).length = o + 1 + vs.length by simp; omega, h1]
    have h2 : (cur.setIfInBounds o v).toList.take (o + 1) = cur.toList.take o ++ [v] := by
      rw [Array.toList_setIfInBounds, List.take_succ_eq_append_getElem (by simp; omega)]
      simp [List.take_set_of_le]
    rw [h2]
    simp
theorem heap_setCells (g T : Nat) : ∀ (vs : List Value) (o : Nat) (w : World) (cur : Array Value), w.heap[g]? = some (.cells cur T (0, 0)) → (w.setCells g o vs).heap[g]? = some (.cells (putAll cur o vs) T (0, 0))
  | [], _, _, _, h => h
  | v :: vs, o, w, cur, h => heap_setCells g T vs (o + 1) _ _ (heap_setCell_same w g o cur T v h)
theorem PartL.store {w : World} {T size g n : Nat} {cs : List (Array Value)} (h : PartL w T size g n cs) (hn : cs.length < n) (c : Array Value) (hc : c.size = size) : PartL (w.setCells g (cs.length * size) c.toList) T size g n (cs ++ [c]) := by
  obtain ⟨⟨cur, h1, h2, h3⟩, h4⟩ := h
  have hle : cs.length * size + c.toList.length ≤ cur.size := by
    have : (cs.length + 1) * size ≤ n * size := Nat.mul_le_mul_right _ hn
    rw [h2]
    simp [hc]
    rw [Nat.succ_mul] at this
    omega
  refine ⟨⟨putAll cur (cs.length * size) c.toList, heap_setCells g T _ _ _ _ h1, by rw [putAll_size]; exact h2, ?_⟩, fun d hd => ?_⟩
  · have h5 := putAll_take c.toList cur (cs.length * size) hle
    have h6 : (cs ++ [c]).length * size = cs.length * size + c.toList.length := by simp [hc, Nat.succ_mul]
    rw [h6, h5, h3, flat_snoc]
  · rcases List.mem_append.1 hd with hd | hd
    · exact h4 d hd
    · simp at hd; subst hd; exact hc
theorem PartL.blk {w w' : World} {T size g n : Nat} {cs : List (Array Value)} (h : PartL w T size g n cs) (e : w'.heap[g]? = w.heap[g]?) : PartL w' T size g n cs := by
  obtain ⟨⟨cur, h1, h2⟩, h4⟩ := h
  exact ⟨⟨cur, e.trans h1, h2⟩, h4⟩
theorem PartL.there {w : World} {T size g n : Nat} {cs : List (Array Value)} (h : PartL w T size g n cs) (k : Nat) (hk : k < n) : w.there g (k * size) size := by
  obtain ⟨⟨cur, h1, h2, -⟩, -⟩ := h
  intro j hj
  have : k * size + j < cur.size := by
    have : (k + 1) * size ≤ n * size := Nat.mul_le_mul_right _ hk
    rw [Nat.succ_mul] at this
    omega
  refine ⟨?_, frozen_of_row _ _ _ _ _ h1⟩
  rw [cells_of_row h1]
  simp [this]
theorem PartL.own {w : World} {T size g n B : Nat} {cs : List (Array Value)} (h : PartL w T size g n cs) (hn : cs.length = n) (hm : n ≤ 1000) (hB : B ≤ g) : OwnL w B T size (.slice (some ⟨g, 0, none⟩) n n) cs := by
  obtain ⟨⟨cur, h1, h2, h3⟩, h4⟩ := h
  refine ⟨⟨flat_len cs h4, Or.inr ⟨g, n, cur, by rw [hn], hB, h1, by omega, ?_, h2, h3⟩⟩, h4⟩
  unfold maxLen
  omega
theorem PartL.start (w : World) (T size n : Nat) (z : Array Value) : PartL (w.alloc (.cells (madeCells z (n * size)) T)) T size w.heap.size n [] := ⟨⟨_, heap_alloc_new _ _, size_madeCells _ _, by simp [flat]⟩, fun c hc => by cases hc⟩
theorem dRep_err {α : Type} {one : Dec α} {k n a q : Nat} (h : dRep one k a = .error q) (hn : k ≤ n) : dRep one n a = .error q := by
  induction n with
  | zero =>
    obtain rfl : k = 0 := by omega
    exact h
  | succ n ih =>
    rcases Nat.lt_or_ge k (n + 1) with x | x
    · show dBind (dRep one n a) _ = _
      rw [ih (by omega)]
      rfl
    · obtain rfl : k = n + 1 := by omega
      exact h
theorem dRep_next {α : Type} {one : Dec α} {k a a1 : Nat} {xs : List α} (h : dRep one k a = .ok (xs, a1)) : dRep one (k + 1) a = dBind (one a1) fun x a2 => .ok (xs ++ [x], a2) := by
  show dBind (dRep one k a) _ = _
  rw [h]
  rfl
theorem gb_setCells {w : World} {b g : Nat} (hg : w.heap.size ≤ g) : ∀ (vs : List Value) (o : Nat) (u : World), w.grownBy u (some b) → w.grownBy (u.setCells g o vs) (some b)
  | [], _, _, h => h
  | _ :: vs, o, _, h => gb_setCells hg vs (o + 1) _ (gb_setAt h (Or.inl hg))
/-- What a struct reads as. -/
def RAgg {α : Type} (size : Nat) (R : World → Nat → Array Value → α → Prop) (w : World) (B : Nat) (v : Value) (x : α) : Prop := ∃ c : Array Value, v = .agg c ∧ c.size = size ∧ c.all (·.oneCell') = true ∧ R w B c x
def ROneI {α : Type} (R : World → Nat → Array Value → α → Prop) (w : World) (B : Nat) (v : Value) (x : α) : Prop := R w B #[v] x ∧ ∃ n, v = .int .i64 n
def ROneS {α : Type} (R : World → Nat → Array Value → α → Prop) (w : World) (B : Nat) (v : Value) (x : α) : Prop := R w B #[v] x ∧ ∃ p n c, v = .slice p n c
def MonoR {α : Type} (R : World → Nat → Array Value → α → Prop) : Prop := ∀ w w' B B' c x, B' ≤ B → KeptOn B w w' → R w B c x → R w' B' c x
theorem heap_setCells_ne (w : World) (g o : Nat) (vs : List Value) {i : Nat} (hne : i ≠ g) : (w.setCells g o vs).heap[i]? = w.heap[i]? := by
  induction vs generalizing o w with
  | nil => rfl
  | cons v vs ih => exact (ih _ _).trans (heap_setCell_other w ⟨g, o, none⟩ i v hne)
theorem Tryd.infoDInts : (Tryd.prog.info? 3).map (fun i => (i.zero, i.size, i.bytes)) = some (some (.int .i64 0), 1, 8) := by kernel_rfl
theorem makeInts (n : Nat) (hn : n ≤ 1000) : ∃ z : Array Value, ∀ w : World, (Instr.makeSlice 51 (.int .i64 (n : Int)) (.int .i64 (n : Int))).run Tryd.prog w = .ok (.slice (some ⟨w.heap.size, 0, none⟩) n n) (w.alloc (.cells (madeCells z n) 3)) := by
  obtain ⟨i, hi, hz, hs, hby⟩ := info_partsE Tryd.infoDInts
  refine ⟨(.int .i64 0 : Value).cells, fun w => ?_⟩
  have h := run_make (P := Tryd.prog) w 51 3 i _ Tryd.underlying51 hi hz .i64 .i64 n n (by omega) (Int.le_refl _) (by rw [hby]; omega) (by omega)
  simpa [hs] using h
set_option maxHeartbeats 4000000 in
set_option maxRecDepth 100000 in
theorem readInts_c {α : Type} (F : Nat) (hcf : ∀ args w, (callFunc F args).run Tryd.prog w = .ok (.enter F args) w) (R : World → Nat → Array Value → α → Prop) (hR : MonoR R) (one : Dec α) (b : Nat) (s : ByteArray) (a : Nat) (lo hi : Int) (w : World) (h : Rd w b s a) (hlo : 0 ≤ lo) (hhi : hi ≤ 1000)
    (hone : ∀ a' w', Rd w' b s a' → w.grownBy w' (some b) → Calls Tryd.prog F #[.pointer (some ⟨b, 0, none⟩)] w' (DecE b s (ROneI R) (one a') w')) :
    Calls Tryd.prog 69 #[.pointer (some ⟨b, 0, none⟩), .int .i64 lo, .int .i64 hi, .func (.func F) #[.pointer (some ⟨b, 0, none⟩)] #[]] w (DecE b s (fun w B v xs => RepL w B 3 1 (R w B) v xs) (dList s lo hi one a) w) := by
  have HN := hideE (number_d b s a lo hi w h (by omega))
  have HONE := hideE hone
  have HMON := hideE hR
  have hbw := h.lt
  clear hone h hR
  cases hd : dNum s lo hi a with
  | error q =>
    have HD := hideE (show dList s lo hi one a = .error q by unfold dList; rw [hd]; rfl)
    rw [hd] at HN
    go_enter Tryd.func69, Tryd.ntmps69
    go_wp2_with fail
    refine (unhideE HN).mono ?_
    intro e w2 h2
    have h3 := DecE.err (RW := fun w B v (xs : List α) => RepL w B 3 1 (R w B) v xs) h2 (gb_refl w (some b))
    obtain ⟨g1, g, rfl, g2, g3⟩ := h2
    refine ⟨rfl, ?_⟩
    rw [unhideE HD]
    exact h3
  | ok p =>
    obtain ⟨nv, a1⟩ := p
    have hnv : lo ≤ nv ∧ nv ≤ hi := by
      unfold dNum dTake at hd
      split at hd
      · split at hd
        · injection hd with hd; injection hd with h1 h2; rw [← h1]; assumption
        · cases hd
      · cases hd
    obtain ⟨n, rfl⟩ := Int.eq_ofNat_of_zero_le (show 0 ≤ nv by omega)
    have hn : n ≤ 1000 := by omega
    have HD := hideE (show dList s lo hi one a = dRep one n a1 by unfold dList; rw [hd]; rfl)
    rw [hd] at HN
    obtain ⟨z, hmk⟩ := makeInts n hn
    clear hnv hd
    go_enter Tryd.func69, Tryd.ntmps69
    go_wp2_with fail
    refine (unhideE HN).mono ?_
    rintro e w1 ⟨hg1, v, rfl, hv, hR1⟩
    have hv' : v = .int .i64 (n : Int) := hv
    subst hv'
    have hs1 := hg1.size
    have hst := PartL.start w1 3 1 n z
    rw [Nat.mul_one] at hst
    have HG1 := hideE (gb_tr hg1 (gb_alloc w1 (.cells (madeCells z n) 3) (some b)))
    have HR1 := hideE (hR1.alloc (.cells (madeCells z n) 3))
    have HST := hideE hst
    have HMK := hideE hmk
    clear hg1 hv hR1 hst HN
    go_wp2_with fail
    clear hmk
    generalize hW : w1.alloc (.cells (madeCells z n) 3) = W at HG1 HR1 HST ⊢
    have hWs : W.heap.size = w1.heap.size + 1 := by rw [← hW]; simp
    obtain ⟨g, hg⟩ : ∃ g, g = w1.heap.size := ⟨_, rfl⟩
    rw [← hg] at HST hs1 hWs ⊢
    clear hW hg HMK
    go_loopw [18] (fun j w' => ∃ (k : Nat) (xs : List α) (ak : Nat) (cs : List (Array Value)), j = .int .i64 k ∧ k ≤ n ∧ dRep one k a1 = .ok (xs, ak) ∧ Rd w' b s ak ∧ w.grownBy w' (some b) ∧ PartL w' 3 1 g n cs ∧ cs.length = k ∧ All2 (R w' (g + 1)) cs xs ∧ g < w'.heap.size) (fun j _ => n - (intOf j).toNat)
    case atStart => exact ⟨0, [], a1, [], rfl, by omega, rfl, unhideE HR1, unhideE HG1, unhideE HST, rfl, .nil, by omega⟩
    case round =>
      obtain ⟨k, xs, ak, cs, rfl, hk, hrep, hRd, hgb, hpt, hcl, hall, hgl⟩ := hrel
      by_cases hlt : k < n
      · have HCALL := hideE (unhideE HONE ak wr hRd hgb)
        have HNX := hideE (dRep_next hrep)
        have HPT := hideE hpt
        have HALL := hideE hall
        have HGB := hideE hgb
        have HCL := hideE hcl
        clear hrep hRd hgb hpt hall hcl
        go_wp2_with fail
        refine (unhideE HCALL).mono ?_
        intro e w2 h2
        cases ho : one ak with
        | error q =>
          rw [ho] at h2
          have h3 := DecE.err (RW := fun w B v (xs : List α) => RepL w B 3 1 (R w B) v xs) h2 (unhideE HGB)
          obtain ⟨g1, g', rfl, g2, g3⟩ := h2
          refine ⟨rfl, ?_⟩
          have h4 := unhideE HNX
          rw [ho] at h4
          rw [unhideE HD, dRep_err h4 (by omega)]
          exact h3
        | ok p =>
          obtain ⟨x, a2⟩ := p
          rw [ho] at h2
          obtain ⟨hg2, v, rfl, hvr, hR2⟩ := h2
          obtain ⟨hrr, vn, rfl⟩ := hvr
          have hpt2 := (unhideE HPT).blk (hg2.block g hgl (by intro e; injection e with e; omega))
          have hth := hpt2.there k hlt
          have hs2 := hg2.size
          have hpt3 := hpt2.store (by rw [unhideE HCL]; exact hlt) (#[.int .i64 vn] : Array Value) rfl
          rw [unhideE HCL] at hpt3
          have hall2 : All2 (R (w2.setCells g (k * 1) ((#[.int .i64 vn] : Array Value)).toList) (g + 1)) (cs ++ [(#[.int .i64 vn] : Array Value)]) (xs ++ [x]) := by
            have hko : KeptOn (g + 1) w2 (w2.setCells g (k * 1) ((#[.int .i64 vn] : Array Value)).toList) := fun i h1 h2 => heap_setCells_ne _ _ _ _ (by omega)
            refine All2.snoc ((unhideE HALL).imp fun c y hy => ?_) ?_
            · refine unhideE HMON _ _ _ _ _ _ (Nat.le_refl _) hko (unhideE HMON _ _ _ _ _ _ (Nat.le_refl _) (KeptOn.of_gb hg2 (by omega)) hy)
            · exact unhideE HMON _ _ _ _ _ _ (by omega) (fun i h1 h2 => hko i (by omega) h2) hrr
          have HNX2 := hideE (show dRep one (k + 1) a1 = .ok (xs ++ [x], a2) by rw [unhideE HNX, ho]; rfl)
          have HRZ := hideE (show Rd (w2.setCells g (k * 1) ((#[.int .i64 vn] : Array Value)).toList) b s a2 from hR2.blk (heap_setCells_ne _ _ _ _ (by omega)))
          have HGZ := hideE (gb_setCells (b := b) (g := g) (w := w) (by omega) ((#[.int .i64 vn] : Array Value)).toList (k * 1) w2 (gb_tr (unhideE HGB) hg2))
          have HPZ := hideE hpt3
          have HAZ := hideE hall2
          have HLZ := hideE (show (cs ++ [(#[.int .i64 vn] : Array Value)]).length = k + 1 by rw [List.length_append, unhideE HCL]; rfl)
          have hsz : g < (w2.setCells g (k * 1) ((#[.int .i64 vn] : Array Value)).toList).heap.size := hpt3.1.elim fun cur hc => row_lt hc.1
          clear hg2 hrr hR2 hpt2 hpt3 hall2 ho HNX HPT HALL HGB HCALL
          have e1 : w2.setCells g (k * 1) (#[.int .i64 vn] : Array Value).toList = w2.setCell ⟨g, k, none⟩ (.int .i64 vn) := by rw [Nat.mul_one]; rfl
          rw [e1] at HRZ HGZ HPZ HAZ hsz
          obtain ⟨hq1, hq2⟩ := hth 0 (by decide)
          rw [Nat.mul_one, Nat.add_zero] at hq1 hq2
          obtain ⟨uu, hq3⟩ := Option.isSome_iff_exists.1 hq1
          clear e1 hth hq1
          go_wp2
          go_roundw
          case rel => exact ⟨k + 1, xs ++ [x], a2, cs ++ [(#[.int .i64 vn] : Array Value)], by go_num, by omega, unhideE HNX2, unhideE HRZ, unhideE HGZ, unhideE HPZ, unhideE HLZ, unhideE HAZ, hsz⟩
          case measure => simp [intOf]; omega
      · obtain rfl : k = n := by omega
        have HREP := hideE hrep
        have HOWN := hideE (show RepL wr w.heap.size 3 1 (R wr w.heap.size) (.slice (some ⟨g, 0, none⟩) k k) xs from ⟨cs, hpt.own hcl hn (by omega), hall.imp fun c y hy => unhideE HMON _ _ _ _ _ _ (by omega) (fun _ _ _ => rfl) hy⟩)
        have HRZ := hideE hRd
        have HGZ := hideE hgb
        clear hrep hRd hgb hpt hall hcl
        go_wp2
        go_ret
        rw [unhideE HD, unhideE HREP]
        exact ⟨unhideE HGZ, _, rfl, unhideE HOWN, unhideE HRZ⟩
theorem Tryd.infoDParams : (Tryd.prog.info? 60).map (fun i => (i.zero, i.size, i.bytes)) = some (some (.agg #[.int .i64 0, .int .i64 0]), 2, 16) := by kernel_rfl
theorem makeParams (n : Nat) (hn : n ≤ 1000) : ∃ z : Array Value, ∀ w : World, (Instr.makeSlice 55 (.int .i64 (n : Int)) (.int .i64 (n : Int))).run Tryd.prog w = .ok (.slice (some ⟨w.heap.size, 0, none⟩) n n) (w.alloc (.cells (madeCells z (n * 2)) 60)) := by
  obtain ⟨i, hi, hz, hs, hby⟩ := info_partsE Tryd.infoDParams
  refine ⟨(.agg #[.int .i64 0, .int .i64 0] : Value).cells, fun w => ?_⟩
  have h := run_make (P := Tryd.prog) w 55 60 i _ Tryd.underlying55 hi hz .i64 .i64 n n (by omega) (Int.le_refl _) (by rw [hby]; omega) (by omega)
  simpa [hs] using h
set_option maxHeartbeats 4000000 in
set_option maxRecDepth 100000 in
theorem readParams_c {α : Type} (F : Nat) (hcf : ∀ args w, (callFunc F args).run Tryd.prog w = .ok (.enter F args) w) (R : World → Nat → Array Value → α → Prop) (hR : MonoR R) (one : Dec α) (b : Nat) (s : ByteArray) (a : Nat) (lo hi : Int) (w : World) (h : Rd w b s a) (hlo : 0 ≤ lo) (hhi : hi ≤ 1000)
    (hone : ∀ a' w', Rd w' b s a' → w.grownBy w' (some b) → Calls Tryd.prog F #[.pointer (some ⟨b, 0, none⟩)] w' (DecE b s (RAgg 2 R) (one a') w')) :
    Calls Tryd.prog 71 #[.pointer (some ⟨b, 0, none⟩), .int .i64 lo, .int .i64 hi, .func (.func F) #[.pointer (some ⟨b, 0, none⟩)] #[]] w (DecE b s (fun w B v xs => RepL w B 60 2 (R w B) v xs) (dList s lo hi one a) w) := by
  have HN := hideE (number_d b s a lo hi w h (by omega))
  have HONE := hideE hone
  have HMON := hideE hR
  have hbw := h.lt
  clear hone h hR
  cases hd : dNum s lo hi a with
  | error q =>
    have HD := hideE (show dList s lo hi one a = .error q by unfold dList; rw [hd]; rfl)
    rw [hd] at HN
    go_enter Tryd.func71, Tryd.ntmps71
    go_wp2_with fail
    refine (unhideE HN).mono ?_
    intro e w2 h2
    have h3 := DecE.err (RW := fun w B v (xs : List α) => RepL w B 60 2 (R w B) v xs) h2 (gb_refl w (some b))
    obtain ⟨g1, g, rfl, g2, g3⟩ := h2
    refine ⟨rfl, ?_⟩
    rw [unhideE HD]
    exact h3
  | ok p =>
    obtain ⟨nv, a1⟩ := p
    have hnv : lo ≤ nv ∧ nv ≤ hi := by
      unfold dNum dTake at hd
      split at hd
      · split at hd
        · injection hd with hd; injection hd with h1 h2; rw [← h1]; assumption
        · cases hd
      · cases hd
    obtain ⟨n, rfl⟩ := Int.eq_ofNat_of_zero_le (show 0 ≤ nv by omega)
    have hn : n ≤ 1000 := by omega
    have HD := hideE (show dList s lo hi one a = dRep one n a1 by unfold dList; rw [hd]; rfl)
    rw [hd] at HN
    obtain ⟨z, hmk⟩ := makeParams n hn
    clear hnv hd
    go_enter Tryd.func71, Tryd.ntmps71
    go_wp2_with fail
    refine (unhideE HN).mono ?_
    rintro e w1 ⟨hg1, v, rfl, hv, hR1⟩
    have hv' : v = .int .i64 (n : Int) := hv
    subst hv'
    have hs1 := hg1.size
    have hst := PartL.start w1 60 2 n z
    have HG1 := hideE (gb_tr hg1 (gb_alloc w1 (.cells (madeCells z (n * 2)) 60) (some b)))
    have HR1 := hideE (hR1.alloc (.cells (madeCells z (n * 2)) 60))
    have HST := hideE hst
    have HMK := hideE hmk
    clear hg1 hv hR1 hst HN
    go_wp2_with fail
    clear hmk
    generalize hW : w1.alloc (.cells (madeCells z (n * 2)) 60) = W at HG1 HR1 HST ⊢
    have hWs : W.heap.size = w1.heap.size + 1 := by rw [← hW]; simp
    obtain ⟨g, hg⟩ : ∃ g, g = w1.heap.size := ⟨_, rfl⟩
    rw [← hg] at HST hs1 hWs ⊢
    clear hW hg HMK
    go_loopw [18] (fun j w' => ∃ (k : Nat) (xs : List α) (ak : Nat) (cs : List (Array Value)), j = .int .i64 k ∧ k ≤ n ∧ dRep one k a1 = .ok (xs, ak) ∧ Rd w' b s ak ∧ w.grownBy w' (some b) ∧ PartL w' 60 2 g n cs ∧ cs.length = k ∧ All2 (R w' (g + 1)) cs xs ∧ g < w'.heap.size) (fun j _ => n - (intOf j).toNat)
    case atStart => exact ⟨0, [], a1, [], rfl, by omega, rfl, unhideE HR1, unhideE HG1, unhideE HST, rfl, .nil, by omega⟩
    case round =>
      obtain ⟨k, xs, ak, cs, rfl, hk, hrep, hRd, hgb, hpt, hcl, hall, hgl⟩ := hrel
      by_cases hlt : k < n
      · have HCALL := hideE (unhideE HONE ak wr hRd hgb)
        have HNX := hideE (dRep_next hrep)
        have HPT := hideE hpt
        have HALL := hideE hall
        have HGB := hideE hgb
        have HCL := hideE hcl
        clear hrep hRd hgb hpt hall hcl
        go_wp2_with fail
        refine (unhideE HCALL).mono ?_
        intro e w2 h2
        cases ho : one ak with
        | error q =>
          rw [ho] at h2
          have h3 := DecE.err (RW := fun w B v (xs : List α) => RepL w B 60 2 (R w B) v xs) h2 (unhideE HGB)
          obtain ⟨g1, g', rfl, g2, g3⟩ := h2
          refine ⟨rfl, ?_⟩
          have h4 := unhideE HNX
          rw [ho] at h4
          rw [unhideE HD, dRep_err h4 (by omega)]
          exact h3
        | ok p =>
          obtain ⟨x, a2⟩ := p
          rw [ho] at h2
          obtain ⟨hg2, v, rfl, hvr, hR2⟩ := h2
          obtain ⟨c, rfl, hc1, hc2, hrr⟩ := hvr
          have hpt2 := (unhideE HPT).blk (hg2.block g hgl (by intro e; injection e with e; omega))
          have hth := hpt2.there k hlt
          have hs2 := hg2.size
          have hpt3 := hpt2.store (by rw [unhideE HCL]; exact hlt) c hc1
          rw [unhideE HCL] at hpt3
          have hall2 : All2 (R (w2.setCells g (k * 2) (c).toList) (g + 1)) (cs ++ [c]) (xs ++ [x]) := by
            have hko : KeptOn (g + 1) w2 (w2.setCells g (k * 2) (c).toList) := fun i h1 h2 => heap_setCells_ne _ _ _ _ (by omega)
            refine All2.snoc ((unhideE HALL).imp fun c y hy => ?_) ?_
            · refine unhideE HMON _ _ _ _ _ _ (Nat.le_refl _) hko (unhideE HMON _ _ _ _ _ _ (Nat.le_refl _) (KeptOn.of_gb hg2 (by omega)) hy)
            · exact unhideE HMON _ _ _ _ _ _ (by omega) (fun i h1 h2 => hko i (by omega) h2) hrr
          have HNX2 := hideE (show dRep one (k + 1) a1 = .ok (xs ++ [x], a2) by rw [unhideE HNX, ho]; rfl)
          have HRZ := hideE (show Rd (w2.setCells g (k * 2) (c).toList) b s a2 from hR2.blk (heap_setCells_ne _ _ _ _ (by omega)))
          have HGZ := hideE (gb_setCells (b := b) (g := g) (w := w) (by omega) (c).toList (k * 2) w2 (gb_tr (unhideE HGB) hg2))
          have HPZ := hideE hpt3
          have HAZ := hideE hall2
          have HLZ := hideE (show (cs ++ [c]).length = k + 1 by rw [List.length_append, unhideE HCL]; rfl)
          have hsz : g < (w2.setCells g (k * 2) (c).toList).heap.size := hpt3.1.elim fun cur hc => row_lt hc.1
          clear hg2 hrr hR2 hpt2 hpt3 hall2 ho HNX HPT HALL HGB HCALL
          go_wp2_with (refine wpList_store_mid rfl 60 (.tmp 25) (.tmp 24) rfl g (k * 2) c rfl rfl (by rw [hc1]; exact hth) (Tryd.infParams.trans (congrArg some hc1.symm)) hc2 ?_)
          go_roundw
          case rel => exact ⟨k + 1, xs ++ [x], a2, cs ++ [c], by go_num, by omega, unhideE HNX2, unhideE HRZ, unhideE HGZ, unhideE HPZ, unhideE HLZ, unhideE HAZ, hsz⟩
          case measure => simp [intOf]; omega
      · obtain rfl : k = n := by omega
        have HREP := hideE hrep
        have HOWN := hideE (show RepL wr w.heap.size 60 2 (R wr w.heap.size) (.slice (some ⟨g, 0, none⟩) k k) xs from ⟨cs, hpt.own hcl hn (by omega), hall.imp fun c y hy => unhideE HMON _ _ _ _ _ _ (by omega) (fun _ _ _ => rfl) hy⟩)
        have HRZ := hideE hRd
        have HGZ := hideE hgb
        clear hrep hRd hgb hpt hall hcl
        go_wp2
        go_ret
        rw [unhideE HD, unhideE HREP]
        exact ⟨unhideE HGZ, _, rfl, unhideE HOWN, unhideE HRZ⟩
theorem Tryd.infoDArgs : (Tryd.prog.info? 82).map (fun i => (i.zero, i.size, i.bytes)) = some (some (.agg #[.int .i64 0, .int .i64 0]), 2, 16) := by kernel_rfl
theorem makeArgs (n : Nat) (hn : n ≤ 1000) : ∃ z : Array Value, ∀ w : World, (Instr.makeSlice 63 (.int .i64 (n : Int)) (.int .i64 (n : Int))).run Tryd.prog w = .ok (.slice (some ⟨w.heap.size, 0, none⟩) n n) (w.alloc (.cells (madeCells z (n * 2)) 82)) := by
  obtain ⟨i, hi, hz, hs, hby⟩ := info_partsE Tryd.infoDArgs
  refine ⟨(.agg #[.int .i64 0, .int .i64 0] : Value).cells, fun w => ?_⟩
  have h := run_make (P := Tryd.prog) w 63 82 i _ Tryd.underlying63 hi hz .i64 .i64 n n (by omega) (Int.le_refl _) (by rw [hby]; omega) (by omega)
  simpa [hs] using h
set_option maxHeartbeats 4000000 in
set_option maxRecDepth 100000 in
theorem readArgs_c {α : Type} (F : Nat) (hcf : ∀ args w, (callFunc F args).run Tryd.prog w = .ok (.enter F args) w) (R : World → Nat → Array Value → α → Prop) (hR : MonoR R) (one : Dec α) (b : Nat) (s : ByteArray) (a : Nat) (lo hi : Int) (w : World) (h : Rd w b s a) (hlo : 0 ≤ lo) (hhi : hi ≤ 1000)
    (hone : ∀ a' w', Rd w' b s a' → w.grownBy w' (some b) → Calls Tryd.prog F #[.pointer (some ⟨b, 0, none⟩)] w' (DecE b s (RAgg 2 R) (one a') w')) :
    Calls Tryd.prog 90 #[.pointer (some ⟨b, 0, none⟩), .int .i64 lo, .int .i64 hi, .func (.func F) #[.pointer (some ⟨b, 0, none⟩)] #[]] w (DecE b s (fun w B v xs => RepL w B 82 2 (R w B) v xs) (dList s lo hi one a) w) := by
  have HN := hideE (number_d b s a lo hi w h (by omega))
  have HONE := hideE hone
  have HMON := hideE hR
  have hbw := h.lt
  clear hone h hR
  cases hd : dNum s lo hi a with
  | error q =>
    have HD := hideE (show dList s lo hi one a = .error q by unfold dList; rw [hd]; rfl)
    rw [hd] at HN
    go_enter Tryd.func90, Tryd.ntmps90
    go_wp2_with fail
    refine (unhideE HN).mono ?_
    intro e w2 h2
    have h3 := DecE.err (RW := fun w B v (xs : List α) => RepL w B 82 2 (R w B) v xs) h2 (gb_refl w (some b))
    obtain ⟨g1, g, rfl, g2, g3⟩ := h2
    refine ⟨rfl, ?_⟩
    rw [unhideE HD]
    exact h3
  | ok p =>
    obtain ⟨nv, a1⟩ := p
    have hnv : lo ≤ nv ∧ nv ≤ hi := by
      unfold dNum dTake at hd
      split at hd
      · split at hd
        · injection hd with hd; injection hd with h1 h2; rw [← h1]; assumption
        · cases hd
      · cases hd
    obtain ⟨n, rfl⟩ := Int.eq_ofNat_of_zero_le (show 0 ≤ nv by omega)
    have hn : n ≤ 1000 := by omega
    have HD := hideE (show dList s lo hi one a = dRep one n a1 by unfold dList; rw [hd]; rfl)
    rw [hd] at HN
    obtain ⟨z, hmk⟩ := makeArgs n hn
    clear hnv hd
    go_enter Tryd.func90, Tryd.ntmps90
    go_wp2_with fail
    refine (unhideE HN).mono ?_
    rintro e w1 ⟨hg1, v, rfl, hv, hR1⟩
    have hv' : v = .int .i64 (n : Int) := hv
    subst hv'
    have hs1 := hg1.size
    have hst := PartL.start w1 82 2 n z
    have HG1 := hideE (gb_tr hg1 (gb_alloc w1 (.cells (madeCells z (n * 2)) 82) (some b)))
    have HR1 := hideE (hR1.alloc (.cells (madeCells z (n * 2)) 82))
    have HST := hideE hst
    have HMK := hideE hmk
    clear hg1 hv hR1 hst HN
    go_wp2_with fail
    clear hmk
    generalize hW : w1.alloc (.cells (madeCells z (n * 2)) 82) = W at HG1 HR1 HST ⊢
    have hWs : W.heap.size = w1.heap.size + 1 := by rw [← hW]; simp
    obtain ⟨g, hg⟩ : ∃ g, g = w1.heap.size := ⟨_, rfl⟩
    rw [← hg] at HST hs1 hWs ⊢
    clear hW hg HMK
    go_loopw [18] (fun j w' => ∃ (k : Nat) (xs : List α) (ak : Nat) (cs : List (Array Value)), j = .int .i64 k ∧ k ≤ n ∧ dRep one k a1 = .ok (xs, ak) ∧ Rd w' b s ak ∧ w.grownBy w' (some b) ∧ PartL w' 82 2 g n cs ∧ cs.length = k ∧ All2 (R w' (g + 1)) cs xs ∧ g < w'.heap.size) (fun j _ => n - (intOf j).toNat)
    case atStart => exact ⟨0, [], a1, [], rfl, by omega, rfl, unhideE HR1, unhideE HG1, unhideE HST, rfl, .nil, by omega⟩
    case round =>
      obtain ⟨k, xs, ak, cs, rfl, hk, hrep, hRd, hgb, hpt, hcl, hall, hgl⟩ := hrel
      by_cases hlt : k < n
      · have HCALL := hideE (unhideE HONE ak wr hRd hgb)
        have HNX := hideE (dRep_next hrep)
        have HPT := hideE hpt
        have HALL := hideE hall
        have HGB := hideE hgb
        have HCL := hideE hcl
        clear hrep hRd hgb hpt hall hcl
        go_wp2_with fail
        refine (unhideE HCALL).mono ?_
        intro e w2 h2
        cases ho : one ak with
        | error q =>
          rw [ho] at h2
          have h3 := DecE.err (RW := fun w B v (xs : List α) => RepL w B 82 2 (R w B) v xs) h2 (unhideE HGB)
          obtain ⟨g1, g', rfl, g2, g3⟩ := h2
          refine ⟨rfl, ?_⟩
          have h4 := unhideE HNX
          rw [ho] at h4
          rw [unhideE HD, dRep_err h4 (by omega)]
          exact h3
        | ok p =>
          obtain ⟨x, a2⟩ := p
          rw [ho] at h2
          obtain ⟨hg2, v, rfl, hvr, hR2⟩ := h2
          obtain ⟨c, rfl, hc1, hc2, hrr⟩ := hvr
          have hpt2 := (unhideE HPT).blk (hg2.block g hgl (by intro e; injection e with e; omega))
          have hth := hpt2.there k hlt
          have hs2 := hg2.size
          have hpt3 := hpt2.store (by rw [unhideE HCL]; exact hlt) c hc1
          rw [unhideE HCL] at hpt3
          have hall2 : All2 (R (w2.setCells g (k * 2) (c).toList) (g + 1)) (cs ++ [c]) (xs ++ [x]) := by
            have hko : KeptOn (g + 1) w2 (w2.setCells g (k * 2) (c).toList) := fun i h1 h2 => heap_setCells_ne _ _ _ _ (by omega)
            refine All2.snoc ((unhideE HALL).imp fun c y hy => ?_) ?_
            · refine unhideE HMON _ _ _ _ _ _ (Nat.le_refl _) hko (unhideE HMON _ _ _ _ _ _ (Nat.le_refl _) (KeptOn.of_gb hg2 (by omega)) hy)
            · exact unhideE HMON _ _ _ _ _ _ (by omega) (fun i h1 h2 => hko i (by omega) h2) hrr
          have HNX2 := hideE (show dRep one (k + 1) a1 = .ok (xs ++ [x], a2) by rw [unhideE HNX, ho]; rfl)
          have HRZ := hideE (show Rd (w2.setCells g (k * 2) (c).toList) b s a2 from hR2.blk (heap_setCells_ne _ _ _ _ (by omega)))
          have HGZ := hideE (gb_setCells (b := b) (g := g) (w := w) (by omega) (c).toList (k * 2) w2 (gb_tr (unhideE HGB) hg2))
          have HPZ := hideE hpt3
          have HAZ := hideE hall2
          have HLZ := hideE (show (cs ++ [c]).length = k + 1 by rw [List.length_append, unhideE HCL]; rfl)
          have hsz : g < (w2.setCells g (k * 2) (c).toList).heap.size := hpt3.1.elim fun cur hc => row_lt hc.1
          clear hg2 hrr hR2 hpt2 hpt3 hall2 ho HNX HPT HALL HGB HCALL
          go_wp2_with (refine wpList_store_mid rfl 82 (.tmp 25) (.tmp 24) rfl g (k * 2) c rfl rfl (by rw [hc1]; exact hth) (Tryd.infArgs.trans (congrArg some hc1.symm)) hc2 ?_)
          go_roundw
          case rel => exact ⟨k + 1, xs ++ [x], a2, cs ++ [c], by go_num, by omega, unhideE HNX2, unhideE HRZ, unhideE HGZ, unhideE HPZ, unhideE HLZ, unhideE HAZ, hsz⟩
          case measure => simp [intOf]; omega
      · obtain rfl : k = n := by omega
        have HREP := hideE hrep
        have HOWN := hideE (show RepL wr w.heap.size 82 2 (R wr w.heap.size) (.slice (some ⟨g, 0, none⟩) k k) xs from ⟨cs, hpt.own hcl hn (by omega), hall.imp fun c y hy => unhideE HMON _ _ _ _ _ _ (by omega) (fun _ _ _ => rfl) hy⟩)
        have HRZ := hideE hRd
        have HGZ := hideE hgb
        clear hrep hRd hgb hpt hall hcl
        go_wp2
        go_ret
        rw [unhideE HD, unhideE HREP]
        exact ⟨unhideE HGZ, _, rfl, unhideE HOWN, unhideE HRZ⟩
theorem Tryd.infoDSigs : (Tryd.prog.info? 53).map (fun i => (i.zero, i.size, i.bytes)) = some (some (.agg #[.slice none 0 0, .int .i64 0]), 2, 32) := by kernel_rfl
theorem makeSigs (n : Nat) (hn : n ≤ 1000) : ∃ z : Array Value, ∀ w : World, (Instr.makeSlice 23 (.int .i64 (n : Int)) (.int .i64 (n : Int))).run Tryd.prog w = .ok (.slice (some ⟨w.heap.size, 0, none⟩) n n) (w.alloc (.cells (madeCells z (n * 2)) 53)) := by
  obtain ⟨i, hi, hz, hs, hby⟩ := info_partsE Tryd.infoDSigs
  refine ⟨(.agg #[.slice none 0 0, .int .i64 0] : Value).cells, fun w => ?_⟩
  have h := run_make (P := Tryd.prog) w 23 53 i _ Tryd.underlying23 hi hz .i64 .i64 n n (by omega) (Int.le_refl _) (by rw [hby]; omega) (by omega)
  simpa [hs] using h
set_option maxHeartbeats 4000000 in
set_option maxRecDepth 100000 in
theorem readSigs_c {α : Type} (F : Nat) (hcf : ∀ args w, (callFunc F args).run Tryd.prog w = .ok (.enter F args) w) (R : World → Nat → Array Value → α → Prop) (hR : MonoR R) (one : Dec α) (b : Nat) (s : ByteArray) (a : Nat) (lo hi : Int) (w : World) (h : Rd w b s a) (hlo : 0 ≤ lo) (hhi : hi ≤ 1000)
    (hone : ∀ a' w', Rd w' b s a' → w.grownBy w' (some b) → Calls Tryd.prog F #[.pointer (some ⟨b, 0, none⟩)] w' (DecE b s (RAgg 2 R) (one a') w')) :
    Calls Tryd.prog 54 #[.pointer (some ⟨b, 0, none⟩), .int .i64 lo, .int .i64 hi, .func (.func F) #[.pointer (some ⟨b, 0, none⟩)] #[]] w (DecE b s (fun w B v xs => RepL w B 53 2 (R w B) v xs) (dList s lo hi one a) w) := by
  have HN := hideE (number_d b s a lo hi w h (by omega))
  have HONE := hideE hone
  have HMON := hideE hR
  have hbw := h.lt
  clear hone h hR
  cases hd : dNum s lo hi a with
  | error q =>
    have HD := hideE (show dList s lo hi one a = .error q by unfold dList; rw [hd]; rfl)
    rw [hd] at HN
    go_enter Tryd.func54, Tryd.ntmps54
    go_wp2_with fail
    refine (unhideE HN).mono ?_
    intro e w2 h2
    have h3 := DecE.err (RW := fun w B v (xs : List α) => RepL w B 53 2 (R w B) v xs) h2 (gb_refl w (some b))
    obtain ⟨g1, g, rfl, g2, g3⟩ := h2
    refine ⟨rfl, ?_⟩
    rw [unhideE HD]
    exact h3
  | ok p =>
    obtain ⟨nv, a1⟩ := p
    have hnv : lo ≤ nv ∧ nv ≤ hi := by
      unfold dNum dTake at hd
      split at hd
      · split at hd
        · injection hd with hd; injection hd with h1 h2; rw [← h1]; assumption
        · cases hd
      · cases hd
    obtain ⟨n, rfl⟩ := Int.eq_ofNat_of_zero_le (show 0 ≤ nv by omega)
    have hn : n ≤ 1000 := by omega
    have HD := hideE (show dList s lo hi one a = dRep one n a1 by unfold dList; rw [hd]; rfl)
    rw [hd] at HN
    obtain ⟨z, hmk⟩ := makeSigs n hn
    clear hnv hd
    go_enter Tryd.func54, Tryd.ntmps54
    go_wp2_with fail
    refine (unhideE HN).mono ?_
    rintro e w1 ⟨hg1, v, rfl, hv, hR1⟩
    have hv' : v = .int .i64 (n : Int) := hv
    subst hv'
    have hs1 := hg1.size
    have hst := PartL.start w1 53 2 n z
    have HG1 := hideE (gb_tr hg1 (gb_alloc w1 (.cells (madeCells z (n * 2)) 53) (some b)))
    have HR1 := hideE (hR1.alloc (.cells (madeCells z (n * 2)) 53))
    have HST := hideE hst
    have HMK := hideE hmk
    clear hg1 hv hR1 hst HN
    go_wp2_with fail
    clear hmk
    generalize hW : w1.alloc (.cells (madeCells z (n * 2)) 53) = W at HG1 HR1 HST ⊢
    have hWs : W.heap.size = w1.heap.size + 1 := by rw [← hW]; simp
    obtain ⟨g, hg⟩ : ∃ g, g = w1.heap.size := ⟨_, rfl⟩
    rw [← hg] at HST hs1 hWs ⊢
    clear hW hg HMK
    go_loopw [18] (fun j w' => ∃ (k : Nat) (xs : List α) (ak : Nat) (cs : List (Array Value)), j = .int .i64 k ∧ k ≤ n ∧ dRep one k a1 = .ok (xs, ak) ∧ Rd w' b s ak ∧ w.grownBy w' (some b) ∧ PartL w' 53 2 g n cs ∧ cs.length = k ∧ All2 (R w' (g + 1)) cs xs ∧ g < w'.heap.size) (fun j _ => n - (intOf j).toNat)
    case atStart => exact ⟨0, [], a1, [], rfl, by omega, rfl, unhideE HR1, unhideE HG1, unhideE HST, rfl, .nil, by omega⟩
    case round =>
      obtain ⟨k, xs, ak, cs, rfl, hk, hrep, hRd, hgb, hpt, hcl, hall, hgl⟩ := hrel
      by_cases hlt : k < n
      · have HCALL := hideE (unhideE HONE ak wr hRd hgb)
        have HNX := hideE (dRep_next hrep)
        have HPT := hideE hpt
        have HALL := hideE hall
        have HGB := hideE hgb
        have HCL := hideE hcl
        clear hrep hRd hgb hpt hall hcl
        go_wp2_with fail
        refine (unhideE HCALL).mono ?_
        intro e w2 h2
        cases ho : one ak with
        | error q =>
          rw [ho] at h2
          have h3 := DecE.err (RW := fun w B v (xs : List α) => RepL w B 53 2 (R w B) v xs) h2 (unhideE HGB)
          obtain ⟨g1, g', rfl, g2, g3⟩ := h2
          refine ⟨rfl, ?_⟩
          have h4 := unhideE HNX
          rw [ho] at h4
          rw [unhideE HD, dRep_err h4 (by omega)]
          exact h3
        | ok p =>
          obtain ⟨x, a2⟩ := p
          rw [ho] at h2
          obtain ⟨hg2, v, rfl, hvr, hR2⟩ := h2
          obtain ⟨c, rfl, hc1, hc2, hrr⟩ := hvr
          have hpt2 := (unhideE HPT).blk (hg2.block g hgl (by intro e; injection e with e; omega))
          have hth := hpt2.there k hlt
          have hs2 := hg2.size
          have hpt3 := hpt2.store (by rw [unhideE HCL]; exact hlt) c hc1
          rw [unhideE HCL] at hpt3
          have hall2 : All2 (R (w2.setCells g (k * 2) (c).toList) (g + 1)) (cs ++ [c]) (xs ++ [x]) := by
            have hko : KeptOn (g + 1) w2 (w2.setCells g (k * 2) (c).toList) := fun i h1 h2 => heap_setCells_ne _ _ _ _ (by omega)
            refine All2.snoc ((unhideE HALL).imp fun c y hy => ?_) ?_
            · refine unhideE HMON _ _ _ _ _ _ (Nat.le_refl _) hko (unhideE HMON _ _ _ _ _ _ (Nat.le_refl _) (KeptOn.of_gb hg2 (by omega)) hy)
            · exact unhideE HMON _ _ _ _ _ _ (by omega) (fun i h1 h2 => hko i (by omega) h2) hrr
          have HNX2 := hideE (show dRep one (k + 1) a1 = .ok (xs ++ [x], a2) by rw [unhideE HNX, ho]; rfl)
          have HRZ := hideE (show Rd (w2.setCells g (k * 2) (c).toList) b s a2 from hR2.blk (heap_setCells_ne _ _ _ _ (by omega)))
          have HGZ := hideE (gb_setCells (b := b) (g := g) (w := w) (by omega) (c).toList (k * 2) w2 (gb_tr (unhideE HGB) hg2))
          have HPZ := hideE hpt3
          have HAZ := hideE hall2
          have HLZ := hideE (show (cs ++ [c]).length = k + 1 by rw [List.length_append, unhideE HCL]; rfl)
          have hsz : g < (w2.setCells g (k * 2) (c).toList).heap.size := hpt3.1.elim fun cur hc => row_lt hc.1
          clear hg2 hrr hR2 hpt2 hpt3 hall2 ho HNX HPT HALL HGB HCALL
          go_wp2_with (refine wpList_store_mid rfl 53 (.tmp 25) (.tmp 24) rfl g (k * 2) c rfl rfl (by rw [hc1]; exact hth) (Tryd.infSigs.trans (congrArg some hc1.symm)) hc2 ?_)
          go_roundw
          case rel => exact ⟨k + 1, xs ++ [x], a2, cs ++ [c], by go_num, by omega, unhideE HNX2, unhideE HRZ, unhideE HGZ, unhideE HPZ, unhideE HLZ, unhideE HAZ, hsz⟩
          case measure => simp [intOf]; omega
      · obtain rfl : k = n := by omega
        have HREP := hideE hrep
        have HOWN := hideE (show RepL wr w.heap.size 53 2 (R wr w.heap.size) (.slice (some ⟨g, 0, none⟩) k k) xs from ⟨cs, hpt.own hcl hn (by omega), hall.imp fun c y hy => unhideE HMON _ _ _ _ _ _ (by omega) (fun _ _ _ => rfl) hy⟩)
        have HRZ := hideE hRd
        have HGZ := hideE hgb
        clear hrep hRd hgb hpt hall hcl
        go_wp2
        go_ret
        rw [unhideE HD, unhideE HREP]
        exact ⟨unhideE HGZ, _, rfl, unhideE HOWN, unhideE HRZ⟩
theorem Tryd.infoDInss : (Tryd.prog.info? 65).map (fun i => (i.zero, i.size, i.bytes)) = some (some (.agg #[.int .i64 0, .int .i64 0, .int .i64 0, .int .i64 0, .int .u64 0, .int .i64 0, .slice none 0 0, .slice none 0 0]), 8, 96) := by kernel_rfl
theorem makeInss (n : Nat) (hn : n ≤ 1000) : ∃ z : Array Value, ∀ w : World, (Instr.makeSlice 61 (.int .i64 (n : Int)) (.int .i64 (n : Int))).run Tryd.prog w = .ok (.slice (some ⟨w.heap.size, 0, none⟩) n n) (w.alloc (.cells (madeCells z (n * 8)) 65)) := by
  obtain ⟨i, hi, hz, hs, hby⟩ := info_partsE Tryd.infoDInss
  refine ⟨(.agg #[.int .i64 0, .int .i64 0, .int .i64 0, .int .i64 0, .int .u64 0, .int .i64 0, .slice none 0 0, .slice none 0 0] : Value).cells, fun w => ?_⟩
  have h := run_make (P := Tryd.prog) w 61 65 i _ Tryd.underlying61 hi hz .i64 .i64 n n (by omega) (Int.le_refl _) (by rw [hby]; omega) (by omega)
  simpa [hs] using h
set_option maxHeartbeats 4000000 in
set_option maxRecDepth 100000 in
theorem readInss_c {α : Type} (F : Nat) (hcf : ∀ args w, (callFunc F args).run Tryd.prog w = .ok (.enter F args) w) (R : World → Nat → Array Value → α → Prop) (hR : MonoR R) (one : Dec α) (b : Nat) (s : ByteArray) (a : Nat) (lo hi : Int) (w : World) (h : Rd w b s a) (hlo : 0 ≤ lo) (hhi : hi ≤ 1000)
    (hone : ∀ a' w', Rd w' b s a' → w.grownBy w' (some b) → Calls Tryd.prog F #[.pointer (some ⟨b, 0, none⟩)] w' (DecE b s (RAgg 8 R) (one a') w')) :
    Calls Tryd.prog 81 #[.pointer (some ⟨b, 0, none⟩), .int .i64 lo, .int .i64 hi, .func (.func F) #[.pointer (some ⟨b, 0, none⟩)] #[]] w (DecE b s (fun w B v xs => RepL w B 65 8 (R w B) v xs) (dList s lo hi one a) w) := by
  have HN := hideE (number_d b s a lo hi w h (by omega))
  have HONE := hideE hone
  have HMON := hideE hR
  have hbw := h.lt
  clear hone h hR
  cases hd : dNum s lo hi a with
  | error q =>
    have HD := hideE (show dList s lo hi one a = .error q by unfold dList; rw [hd]; rfl)
    rw [hd] at HN
    go_enter Tryd.func81, Tryd.ntmps81
    go_wp2_with fail
    refine (unhideE HN).mono ?_
    intro e w2 h2
    have h3 := DecE.err (RW := fun w B v (xs : List α) => RepL w B 65 8 (R w B) v xs) h2 (gb_refl w (some b))
    obtain ⟨g1, g, rfl, g2, g3⟩ := h2
    refine ⟨rfl, ?_⟩
    rw [unhideE HD]
    exact h3
  | ok p =>
    obtain ⟨nv, a1⟩ := p
    have hnv : lo ≤ nv ∧ nv ≤ hi := by
      unfold dNum dTake at hd
      split at hd
      · split at hd
        · injection hd with hd; injection hd with h1 h2; rw [← h1]; assumption
        · cases hd
      · cases hd
    obtain ⟨n, rfl⟩ := Int.eq_ofNat_of_zero_le (show 0 ≤ nv by omega)
    have hn : n ≤ 1000 := by omega
    have HD := hideE (show dList s lo hi one a = dRep one n a1 by unfold dList; rw [hd]; rfl)
    rw [hd] at HN
    obtain ⟨z, hmk⟩ := makeInss n hn
    clear hnv hd
    go_enter Tryd.func81, Tryd.ntmps81
    go_wp2_with fail
    refine (unhideE HN).mono ?_
    rintro e w1 ⟨hg1, v, rfl, hv, hR1⟩
    have hv' : v = .int .i64 (n : Int) := hv
    subst hv'
    have hs1 := hg1.size
    have hst := PartL.start w1 65 8 n z
    have HG1 := hideE (gb_tr hg1 (gb_alloc w1 (.cells (madeCells z (n * 8)) 65) (some b)))
    have HR1 := hideE (hR1.alloc (.cells (madeCells z (n * 8)) 65))
    have HST := hideE hst
    have HMK := hideE hmk
    clear hg1 hv hR1 hst HN
    go_wp2_with fail
    clear hmk
    generalize hW : w1.alloc (.cells (madeCells z (n * 8)) 65) = W at HG1 HR1 HST ⊢
    have hWs : W.heap.size = w1.heap.size + 1 := by rw [← hW]; simp
    obtain ⟨g, hg⟩ : ∃ g, g = w1.heap.size := ⟨_, rfl⟩
    rw [← hg] at HST hs1 hWs ⊢
    clear hW hg HMK
    go_loopw [18] (fun j w' => ∃ (k : Nat) (xs : List α) (ak : Nat) (cs : List (Array Value)), j = .int .i64 k ∧ k ≤ n ∧ dRep one k a1 = .ok (xs, ak) ∧ Rd w' b s ak ∧ w.grownBy w' (some b) ∧ PartL w' 65 8 g n cs ∧ cs.length = k ∧ All2 (R w' (g + 1)) cs xs ∧ g < w'.heap.size) (fun j _ => n - (intOf j).toNat)
    case atStart => exact ⟨0, [], a1, [], rfl, by omega, rfl, unhideE HR1, unhideE HG1, unhideE HST, rfl, .nil, by omega⟩
    case round =>
      obtain ⟨k, xs, ak, cs, rfl, hk, hrep, hRd, hgb, hpt, hcl, hall, hgl⟩ := hrel
      by_cases hlt : k < n
      · have HCALL := hideE (unhideE HONE ak wr hRd hgb)
        have HNX := hideE (dRep_next hrep)
        have HPT := hideE hpt
        have HALL := hideE hall
        have HGB := hideE hgb
        have HCL := hideE hcl
        clear hrep hRd hgb hpt hall hcl
        go_wp2_with fail
        refine (unhideE HCALL).mono ?_
        intro e w2 h2
        cases ho : one ak with
        | error q =>
          rw [ho] at h2
          have h3 := DecE.err (RW := fun w B v (xs : List α) => RepL w B 65 8 (R w B) v xs) h2 (unhideE HGB)
          obtain ⟨g1, g', rfl, g2, g3⟩ := h2
          refine ⟨rfl, ?_⟩
          have h4 := unhideE HNX
          rw [ho] at h4
          rw [unhideE HD, dRep_err h4 (by omega)]
          exact h3
        | ok p =>
          obtain ⟨x, a2⟩ := p
          rw [ho] at h2
          obtain ⟨hg2, v, rfl, hvr, hR2⟩ := h2
          obtain ⟨c, rfl, hc1, hc2, hrr⟩ := hvr
          have hpt2 := (unhideE HPT).blk (hg2.block g hgl (by intro e; injection e with e; omega))
          have hth := hpt2.there k hlt
          have hs2 := hg2.size
          have hpt3 := hpt2.store (by rw [unhideE HCL]; exact hlt) c hc1
          rw [unhideE HCL] at hpt3
          have hall2 : All2 (R (w2.setCells g (k * 8) (c).toList) (g + 1)) (cs ++ [c]) (xs ++ [x]) := by
            have hko : KeptOn (g + 1) w2 (w2.setCells g (k * 8) (c).toList) := fun i h1 h2 => heap_setCells_ne _ _ _ _ (by omega)
            refine All2.snoc ((unhideE HALL).imp fun c y hy => ?_) ?_
            · refine unhideE HMON _ _ _ _ _ _ (Nat.le_refl _) hko (unhideE HMON _ _ _ _ _ _ (Nat.le_refl _) (KeptOn.of_gb hg2 (by omega)) hy)
            · exact unhideE HMON _ _ _ _ _ _ (by omega) (fun i h1 h2 => hko i (by omega) h2) hrr
          have HNX2 := hideE (show dRep one (k + 1) a1 = .ok (xs ++ [x], a2) by rw [unhideE HNX, ho]; rfl)
          have HRZ := hideE (show Rd (w2.setCells g (k * 8) (c).toList) b s a2 from hR2.blk (heap_setCells_ne _ _ _ _ (by omega)))
          have HGZ := hideE (gb_setCells (b := b) (g := g) (w := w) (by omega) (c).toList (k * 8) w2 (gb_tr (unhideE HGB) hg2))
          have HPZ := hideE hpt3
          have HAZ := hideE hall2
          have HLZ := hideE (show (cs ++ [c]).length = k + 1 by rw [List.length_append, unhideE HCL]; rfl)
          have hsz : g < (w2.setCells g (k * 8) (c).toList).heap.size := hpt3.1.elim fun cur hc => row_lt hc.1
          clear hg2 hrr hR2 hpt2 hpt3 hall2 ho HNX HPT HALL HGB HCALL
          go_wp2_with (refine wpList_store_mid rfl 65 (.tmp 25) (.tmp 24) rfl g (k * 8) c rfl rfl (by rw [hc1]; exact hth) (Tryd.infInss.trans (congrArg some hc1.symm)) hc2 ?_)
          go_roundw
          case rel => exact ⟨k + 1, xs ++ [x], a2, cs ++ [c], by go_num, by omega, unhideE HNX2, unhideE HRZ, unhideE HGZ, unhideE HPZ, unhideE HLZ, unhideE HAZ, hsz⟩
          case measure => simp [intOf]; omega
      · obtain rfl : k = n := by omega
        have HREP := hideE hrep
        have HOWN := hideE (show RepL wr w.heap.size 65 8 (R wr w.heap.size) (.slice (some ⟨g, 0, none⟩) k k) xs from ⟨cs, hpt.own hcl hn (by omega), hall.imp fun c y hy => unhideE HMON _ _ _ _ _ _ (by omega) (fun _ _ _ => rfl) hy⟩)
        have HRZ := hideE hRd
        have HGZ := hideE hgb
        clear hrep hRd hgb hpt hall hcl
        go_wp2
        go_ret
        rw [unhideE HD, unhideE HREP]
        exact ⟨unhideE HGZ, _, rfl, unhideE HOWN, unhideE HRZ⟩
theorem Tryd.infoDBlocks : (Tryd.prog.info? 61).map (fun i => (i.zero, i.size, i.bytes)) = some (some (.slice none 0 0), 1, 24) := by kernel_rfl
theorem makeBlocks (n : Nat) (hn : n ≤ 1000) : ∃ z : Array Value, ∀ w : World, (Instr.makeSlice 56 (.int .i64 (n : Int)) (.int .i64 (n : Int))).run Tryd.prog w = .ok (.slice (some ⟨w.heap.size, 0, none⟩) n n) (w.alloc (.cells (madeCells z n) 61)) := by
  obtain ⟨i, hi, hz, hs, hby⟩ := info_partsE Tryd.infoDBlocks
  refine ⟨(.slice none 0 0 : Value).cells, fun w => ?_⟩
  have h := run_make (P := Tryd.prog) w 56 61 i _ Tryd.underlying56 hi hz .i64 .i64 n n (by omega) (Int.le_refl _) (by rw [hby]; omega) (by omega)
  simpa [hs] using h
set_option maxHeartbeats 4000000 in
set_option maxRecDepth 100000 in
theorem readBlocks_c {α : Type} (F : Nat) (hcf : ∀ args w, (callFunc F args).run Tryd.prog w = .ok (.enter F args) w) (R : World → Nat → Array Value → α → Prop) (hR : MonoR R) (one : Dec α) (b : Nat) (s : ByteArray) (a : Nat) (lo hi : Int) (w : World) (h : Rd w b s a) (hlo : 0 ≤ lo) (hhi : hi ≤ 1000)
    (hone : ∀ a' w', Rd w' b s a' → w.grownBy w' (some b) → Calls Tryd.prog F #[.pointer (some ⟨b, 0, none⟩)] w' (DecE b s (ROneS R) (one a') w')) :
    Calls Tryd.prog 75 #[.pointer (some ⟨b, 0, none⟩), .int .i64 lo, .int .i64 hi, .func (.func F) #[.pointer (some ⟨b, 0, none⟩)] #[]] w (DecE b s (fun w B v xs => RepL w B 61 1 (R w B) v xs) (dList s lo hi one a) w) := by
  have HN := hideE (number_d b s a lo hi w h (by omega))
  have HONE := hideE hone
  have HMON := hideE hR
  have hbw := h.lt
  clear hone h hR
  cases hd : dNum s lo hi a with
  | error q =>
    have HD := hideE (show dList s lo hi one a = .error q by unfold dList; rw [hd]; rfl)
    rw [hd] at HN
    go_enter Tryd.func75, Tryd.ntmps75
    go_wp2_with fail
    refine (unhideE HN).mono ?_
    intro e w2 h2
    have h3 := DecE.err (RW := fun w B v (xs : List α) => RepL w B 61 1 (R w B) v xs) h2 (gb_refl w (some b))
    obtain ⟨g1, g, rfl, g2, g3⟩ := h2
    refine ⟨rfl, ?_⟩
    rw [unhideE HD]
    exact h3
  | ok p =>
    obtain ⟨nv, a1⟩ := p
    have hnv : lo ≤ nv ∧ nv ≤ hi := by
      unfold dNum dTake at hd
      split at hd
      · split at hd
        · injection hd with hd; injection hd with h1 h2; rw [← h1]; assumption
        · cases hd
      · cases hd
    obtain ⟨n, rfl⟩ := Int.eq_ofNat_of_zero_le (show 0 ≤ nv by omega)
    have hn : n ≤ 1000 := by omega
    have HD := hideE (show dList s lo hi one a = dRep one n a1 by unfold dList; rw [hd]; rfl)
    rw [hd] at HN
    obtain ⟨z, hmk⟩ := makeBlocks n hn
    clear hnv hd
    go_enter Tryd.func75, Tryd.ntmps75
    go_wp2_with fail
    refine (unhideE HN).mono ?_
    rintro e w1 ⟨hg1, v, rfl, hv, hR1⟩
    have hv' : v = .int .i64 (n : Int) := hv
    subst hv'
    have hs1 := hg1.size
    have hst := PartL.start w1 61 1 n z
    rw [Nat.mul_one] at hst
    have HG1 := hideE (gb_tr hg1 (gb_alloc w1 (.cells (madeCells z n) 61) (some b)))
    have HR1 := hideE (hR1.alloc (.cells (madeCells z n) 61))
    have HST := hideE hst
    have HMK := hideE hmk
    clear hg1 hv hR1 hst HN
    go_wp2_with fail
    clear hmk
    generalize hW : w1.alloc (.cells (madeCells z n) 61) = W at HG1 HR1 HST ⊢
    have hWs : W.heap.size = w1.heap.size + 1 := by rw [← hW]; simp
    obtain ⟨g, hg⟩ : ∃ g, g = w1.heap.size := ⟨_, rfl⟩
    rw [← hg] at HST hs1 hWs ⊢
    clear hW hg HMK
    go_loopw [18] (fun j w' => ∃ (k : Nat) (xs : List α) (ak : Nat) (cs : List (Array Value)), j = .int .i64 k ∧ k ≤ n ∧ dRep one k a1 = .ok (xs, ak) ∧ Rd w' b s ak ∧ w.grownBy w' (some b) ∧ PartL w' 61 1 g n cs ∧ cs.length = k ∧ All2 (R w' (g + 1)) cs xs ∧ g < w'.heap.size) (fun j _ => n - (intOf j).toNat)
    case atStart => exact ⟨0, [], a1, [], rfl, by omega, rfl, unhideE HR1, unhideE HG1, unhideE HST, rfl, .nil, by omega⟩
    case round =>
      obtain ⟨k, xs, ak, cs, rfl, hk, hrep, hRd, hgb, hpt, hcl, hall, hgl⟩ := hrel
      by_cases hlt : k < n
      · have HCALL := hideE (unhideE HONE ak wr hRd hgb)
        have HNX := hideE (dRep_next hrep)
        have HPT := hideE hpt
        have HALL := hideE hall
        have HGB := hideE hgb
        have HCL := hideE hcl
        clear hrep hRd hgb hpt hall hcl
        go_wp2_with fail
        refine (unhideE HCALL).mono ?_
        intro e w2 h2
        cases ho : one ak with
        | error q =>
          rw [ho] at h2
          have h3 := DecE.err (RW := fun w B v (xs : List α) => RepL w B 61 1 (R w B) v xs) h2 (unhideE HGB)
          obtain ⟨g1, g', rfl, g2, g3⟩ := h2
          refine ⟨rfl, ?_⟩
          have h4 := unhideE HNX
          rw [ho] at h4
          rw [unhideE HD, dRep_err h4 (by omega)]
          exact h3
        | ok p =>
          obtain ⟨x, a2⟩ := p
          rw [ho] at h2
          obtain ⟨hg2, v, rfl, hvr, hR2⟩ := h2
          obtain ⟨hrr, vp, vn, vc, rfl⟩ := hvr
          have hpt2 := (unhideE HPT).blk (hg2.block g hgl (by intro e; injection e with e; omega))
          have hth := hpt2.there k hlt
          have hs2 := hg2.size
          have hpt3 := hpt2.store (by rw [unhideE HCL]; exact hlt) (#[.slice vp vn vc] : Array Value) rfl
          rw [unhideE HCL] at hpt3
          have hall2 : All2 (R (w2.setCells g (k * 1) ((#[.slice vp vn vc] : Array Value)).toList) (g + 1)) (cs ++ [(#[.slice vp vn vc] : Array Value)]) (xs ++ [x]) := by
            have hko : KeptOn (g + 1) w2 (w2.setCells g (k * 1) ((#[.slice vp vn vc] : Array Value)).toList) := fun i h1 h2 => heap_setCells_ne _ _ _ _ (by omega)
            refine All2.snoc ((unhideE HALL).imp fun c y hy => ?_) ?_
            · refine unhideE HMON _ _ _ _ _ _ (Nat.le_refl _) hko (unhideE HMON _ _ _ _ _ _ (Nat.le_refl _) (KeptOn.of_gb hg2 (by omega)) hy)
            · exact unhideE HMON _ _ _ _ _ _ (by omega) (fun i h1 h2 => hko i (by omega) h2) hrr
          have HNX2 := hideE (show dRep one (k + 1) a1 = .ok (xs ++ [x], a2) by rw [unhideE HNX, ho]; rfl)
          have HRZ := hideE (show Rd (w2.setCells g (k * 1) ((#[.slice vp vn vc] : Array Value)).toList) b s a2 from hR2.blk (heap_setCells_ne _ _ _ _ (by omega)))
          have HGZ := hideE (gb_setCells (b := b) (g := g) (w := w) (by omega) ((#[.slice vp vn vc] : Array Value)).toList (k * 1) w2 (gb_tr (unhideE HGB) hg2))
          have HPZ := hideE hpt3
          have HAZ := hideE hall2
          have HLZ := hideE (show (cs ++ [(#[.slice vp vn vc] : Array Value)]).length = k + 1 by rw [List.length_append, unhideE HCL]; rfl)
          have hsz : g < (w2.setCells g (k * 1) ((#[.slice vp vn vc] : Array Value)).toList).heap.size := hpt3.1.elim fun cur hc => row_lt hc.1
          clear hg2 hrr hR2 hpt2 hpt3 hall2 ho HNX HPT HALL HGB HCALL
          have e1 : w2.setCells g (k * 1) (#[.slice vp vn vc] : Array Value).toList = w2.setCell ⟨g, k, none⟩ (.slice vp vn vc) := by rw [Nat.mul_one]; rfl
          rw [e1] at HRZ HGZ HPZ HAZ hsz
          obtain ⟨hq1, hq2⟩ := hth 0 (by decide)
          rw [Nat.mul_one, Nat.add_zero] at hq1 hq2
          obtain ⟨uu, hq3⟩ := Option.isSome_iff_exists.1 hq1
          clear e1 hth hq1
          go_wp2
          go_roundw
          case rel => exact ⟨k + 1, xs ++ [x], a2, cs ++ [(#[.slice vp vn vc] : Array Value)], by go_num, by omega, unhideE HNX2, unhideE HRZ, unhideE HGZ, unhideE HPZ, unhideE HLZ, unhideE HAZ, hsz⟩
          case measure => simp [intOf]; omega
      · obtain rfl : k = n := by omega
        have HREP := hideE hrep
        have HOWN := hideE (show RepL wr w.heap.size 61 1 (R wr w.heap.size) (.slice (some ⟨g, 0, none⟩) k k) xs from ⟨cs, hpt.own hcl hn (by omega), hall.imp fun c y hy => unhideE HMON _ _ _ _ _ _ (by omega) (fun _ _ _ => rfl) hy⟩)
        have HRZ := hideE hRd
        have HGZ := hideE hgb
        clear hrep hRd hgb hpt hall hcl
        go_wp2
        go_ret
        rw [unhideE HD, unhideE HREP]
        exact ⟨unhideE HGZ, _, rfl, unhideE HOWN, unhideE HRZ⟩
theorem Tryd.infoDFuncs : (Tryd.prog.info? 58).map (fun i => (i.zero, i.size, i.bytes)) = some (some (.agg #[.slice none 0 0, .int .i64 0, .slice none 0 0, .slice none 0 0, .slice none 0 0]), 5, 104) := by kernel_rfl
theorem makeFuncs (n : Nat) (hn : n ≤ 1000) : ∃ z : Array Value, ∀ w : World, (Instr.makeSlice 22 (.int .i64 (n : Int)) (.int .i64 (n : Int))).run Tryd.prog w = .ok (.slice (some ⟨w.heap.size, 0, none⟩) n n) (w.alloc (.cells (madeCells z (n * 5)) 58)) := by
  obtain ⟨i, hi, hz, hs, hby⟩ := info_partsE Tryd.infoDFuncs
  refine ⟨(.agg #[.slice none 0 0, .int .i64 0, .slice none 0 0, .slice none 0 0, .slice none 0 0] : Value).cells, fun w => ?_⟩
  have h := run_make (P := Tryd.prog) w 22 58 i _ Tryd.underlying22 hi hz .i64 .i64 n n (by omega) (Int.le_refl _) (by rw [hby]; omega) (by omega)
  simpa [hs] using h
set_option maxHeartbeats 4000000 in
set_option maxRecDepth 100000 in
theorem readFuncs_c {α : Type} (F : Nat) (hcf : ∀ args w, (callFunc F args).run Tryd.prog w = .ok (.enter F args) w) (R : World → Nat → Array Value → α → Prop) (hR : MonoR R) (one : Dec α) (b : Nat) (s : ByteArray) (a : Nat) (lo hi : Int) (w : World) (h : Rd w b s a) (hlo : 0 ≤ lo) (hhi : hi ≤ 1000)
    (hone : ∀ a' w', Rd w' b s a' → w.grownBy w' (some b) → Calls Tryd.prog F #[.pointer (some ⟨b, 0, none⟩)] w' (DecE b s (RAgg 5 R) (one a') w')) :
    Calls Tryd.prog 56 #[.pointer (some ⟨b, 0, none⟩), .int .i64 lo, .int .i64 hi, .func (.func F) #[.pointer (some ⟨b, 0, none⟩)] #[]] w (DecE b s (fun w B v xs => RepL w B 58 5 (R w B) v xs) (dList s lo hi one a) w) := by
  have HN := hideE (number_d b s a lo hi w h (by omega))
  have HONE := hideE hone
  have HMON := hideE hR
  have hbw := h.lt
  clear hone h hR
  cases hd : dNum s lo hi a with
  | error q =>
    have HD := hideE (show dList s lo hi one a = .error q by unfold dList; rw [hd]; rfl)
    rw [hd] at HN
    go_enter Tryd.func56, Tryd.ntmps56
    go_wp2_with fail
    refine (unhideE HN).mono ?_
    intro e w2 h2
    have h3 := DecE.err (RW := fun w B v (xs : List α) => RepL w B 58 5 (R w B) v xs) h2 (gb_refl w (some b))
    obtain ⟨g1, g, rfl, g2, g3⟩ := h2
    refine ⟨rfl, ?_⟩
    rw [unhideE HD]
    exact h3
  | ok p =>
    obtain ⟨nv, a1⟩ := p
    have hnv : lo ≤ nv ∧ nv ≤ hi := by
      unfold dNum dTake at hd
      split at hd
      · split at hd
        · injection hd with hd; injection hd with h1 h2; rw [← h1]; assumption
        · cases hd
      · cases hd
    obtain ⟨n, rfl⟩ := Int.eq_ofNat_of_zero_le (show 0 ≤ nv by omega)
    have hn : n ≤ 1000 := by omega
    have HD := hideE (show dList s lo hi one a = dRep one n a1 by unfold dList; rw [hd]; rfl)
    rw [hd] at HN
    obtain ⟨z, hmk⟩ := makeFuncs n hn
    clear hnv hd
    go_enter Tryd.func56, Tryd.ntmps56
    go_wp2_with fail
    refine (unhideE HN).mono ?_
    rintro e w1 ⟨hg1, v, rfl, hv, hR1⟩
    have hv' : v = .int .i64 (n : Int) := hv
    subst hv'
    have hs1 := hg1.size
    have hst := PartL.start w1 58 5 n z
    have HG1 := hideE (gb_tr hg1 (gb_alloc w1 (.cells (madeCells z (n * 5)) 58) (some b)))
    have HR1 := hideE (hR1.alloc (.cells (madeCells z (n * 5)) 58))
    have HST := hideE hst
    have HMK := hideE hmk
    clear hg1 hv hR1 hst HN
    go_wp2_with fail
    clear hmk
    generalize hW : w1.alloc (.cells (madeCells z (n * 5)) 58) = W at HG1 HR1 HST ⊢
    have hWs : W.heap.size = w1.heap.size + 1 := by rw [← hW]; simp
    obtain ⟨g, hg⟩ : ∃ g, g = w1.heap.size := ⟨_, rfl⟩
    rw [← hg] at HST hs1 hWs ⊢
    clear hW hg HMK
    go_loopw [18] (fun j w' => ∃ (k : Nat) (xs : List α) (ak : Nat) (cs : List (Array Value)), j = .int .i64 k ∧ k ≤ n ∧ dRep one k a1 = .ok (xs, ak) ∧ Rd w' b s ak ∧ w.grownBy w' (some b) ∧ PartL w' 58 5 g n cs ∧ cs.length = k ∧ All2 (R w' (g + 1)) cs xs ∧ g < w'.heap.size) (fun j _ => n - (intOf j).toNat)
    case atStart => exact ⟨0, [], a1, [], rfl, by omega, rfl, unhideE HR1, unhideE HG1, unhideE HST, rfl, .nil, by omega⟩
    case round =>
      obtain ⟨k, xs, ak, cs, rfl, hk, hrep, hRd, hgb, hpt, hcl, hall, hgl⟩ := hrel
      by_cases hlt : k < n
      · have HCALL := hideE (unhideE HONE ak wr hRd hgb)
        have HNX := hideE (dRep_next hrep)
        have HPT := hideE hpt
        have HALL := hideE hall
        have HGB := hideE hgb
        have HCL := hideE hcl
        clear hrep hRd hgb hpt hall hcl
        go_wp2_with fail
        refine (unhideE HCALL).mono ?_
        intro e w2 h2
        cases ho : one ak with
        | error q =>
          rw [ho] at h2
          have h3 := DecE.err (RW := fun w B v (xs : List α) => RepL w B 58 5 (R w B) v xs) h2 (unhideE HGB)
          obtain ⟨g1, g', rfl, g2, g3⟩ := h2
          refine ⟨rfl, ?_⟩
          have h4 := unhideE HNX
          rw [ho] at h4
          rw [unhideE HD, dRep_err h4 (by omega)]
          exact h3
        | ok p =>
          obtain ⟨x, a2⟩ := p
          rw [ho] at h2
          obtain ⟨hg2, v, rfl, hvr, hR2⟩ := h2
          obtain ⟨c, rfl, hc1, hc2, hrr⟩ := hvr
          have hpt2 := (unhideE HPT).blk (hg2.block g hgl (by intro e; injection e with e; omega))
          have hth := hpt2.there k hlt
          have hs2 := hg2.size
          have hpt3 := hpt2.store (by rw [unhideE HCL]; exact hlt) c hc1
          rw [unhideE HCL] at hpt3
          have hall2 : All2 (R (w2.setCells g (k * 5) (c).toList) (g + 1)) (cs ++ [c]) (xs ++ [x]) := by
            have hko : KeptOn (g + 1) w2 (w2.setCells g (k * 5) (c).toList) := fun i h1 h2 => heap_setCells_ne _ _ _ _ (by omega)
            refine All2.snoc ((unhideE HALL).imp fun c y hy => ?_) ?_
            · refine unhideE HMON _ _ _ _ _ _ (Nat.le_refl _) hko (unhideE HMON _ _ _ _ _ _ (Nat.le_refl _) (KeptOn.of_gb hg2 (by omega)) hy)
            · exact unhideE HMON _ _ _ _ _ _ (by omega) (fun i h1 h2 => hko i (by omega) h2) hrr
          have HNX2 := hideE (show dRep one (k + 1) a1 = .ok (xs ++ [x], a2) by rw [unhideE HNX, ho]; rfl)
          have HRZ := hideE (show Rd (w2.setCells g (k * 5) (c).toList) b s a2 from hR2.blk (heap_setCells_ne _ _ _ _ (by omega)))
          have HGZ := hideE (gb_setCells (b := b) (g := g) (w := w) (by omega) (c).toList (k * 5) w2 (gb_tr (unhideE HGB) hg2))
          have HPZ := hideE hpt3
          have HAZ := hideE hall2
          have HLZ := hideE (show (cs ++ [c]).length = k + 1 by rw [List.length_append, unhideE HCL]; rfl)
          have hsz : g < (w2.setCells g (k * 5) (c).toList).heap.size := hpt3.1.elim fun cur hc => row_lt hc.1
          clear hg2 hrr hR2 hpt2 hpt3 hall2 ho HNX HPT HALL HGB HCALL
          go_wp2_with (refine wpList_store_mid rfl 58 (.tmp 25) (.tmp 24) rfl g (k * 5) c rfl rfl (by rw [hc1]; exact hth) (Tryd.infFuncs.trans (congrArg some hc1.symm)) hc2 ?_)
          go_roundw
          case rel => exact ⟨k + 1, xs ++ [x], a2, cs ++ [c], by go_num, by omega, unhideE HNX2, unhideE HRZ, unhideE HGZ, unhideE HPZ, unhideE HLZ, unhideE HAZ, hsz⟩
          case measure => simp [intOf]; omega
      · obtain rfl : k = n := by omega
        have HREP := hideE hrep
        have HOWN := hideE (show RepL wr w.heap.size 58 5 (R wr w.heap.size) (.slice (some ⟨g, 0, none⟩) k k) xs from ⟨cs, hpt.own hcl hn (by omega), hall.imp fun c y hy => unhideE HMON _ _ _ _ _ _ (by omega) (fun _ _ _ => rfl) hy⟩)
        have HRZ := hideE hRd
        have HGZ := hideE hgb
        clear hrep hRd hgb hpt hall hcl
        go_wp2
        go_ret
        rw [unhideE HD, unhideE HREP]
        exact ⟨unhideE HGZ, _, rfl, unhideE HOWN, unhideE HRZ⟩
end Go.Proofs.YthnmdbddfmgdlaaDoor
