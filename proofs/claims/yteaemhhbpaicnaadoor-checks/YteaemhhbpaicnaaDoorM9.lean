/-
  Own work of the verifier: CkU, CkUh, as one text.
-/
import Derived.Test.YteaemhhbpaicnaaDoorCkS
import Derived.Test.YteaemhhbpaicnaaDoorEncX
import Derived.Test.YteaemhhbpaicnaaDoorM7
import Derived.Deep.CutRange
namespace Go.Proofs.YteaemhhbpaicnaaDoor
open Go.RowKit

/-- No signature has a number below nothing. -/
structure FitS (p : ProgE) : Prop where
  funcs : ∀ k, k < p.funcs.length → numsIn (sigE (p.funcs.getD k noFunc)).1 0 8 = true
  externs : ∀ k, k < p.externs.length → numsIn (p.externs.getD k ([], 0)).1 0 8 = true
theorem Li.setRow {w : World} {T : Nat} {cs : Array Value} {v : Value} {ns : List Int} (h : Li w v ns) (hne : ∀ sb so n c, v = .slice (some ⟨sb, so, none⟩) n c → 0 < ns.length → sb ≠ T) : Li (w.setRow T cs) v ns := by
  obtain ⟨p, cap, h1, h2, h3, h4⟩ := h
  refine ⟨p, cap, h1, h2, h3, fun h0 => ?_⟩
  obtain ⟨sb, so, e, hc⟩ := h4 h0
  subst e
  have hn := hne sb so _ _ h1 h0
  refine ⟨sb, so, rfl, fun i hi => ?_⟩
  rw [← hc i hi]
  unfold World.cell?
  simp only [setRow_other w T sb cs hn]
def nz (z : Int) : Int := if z = 0 then 0 else 1
theorem cont_snoc (xs : List UInt8) (c L : UInt8) (h : xs.contains L = false) : (xs ++ [c]).contains L = decide (c = L) := by
  have h2 : ¬ (L ∈ xs) := by simpa using h
  simp only [List.contains_eq_mem, List.mem_append, List.mem_singleton]
  simp [h2, eq_comm]
theorem u8_eq (c L : UInt8) : decide (c = L) = ((c.toNat : Int) == (L.toNat : Int)) := by
  rw [show ((c.toNat : Int) == (L.toNat : Int)) = decide ((c.toNat : Int) = (L.toNat : Int)) from rfl]
  exact decide_eq_decide.2 ⟨fun h => by rw [h], fun h => UInt8.toNat_inj.1 (by omega)⟩
def okc (ls : List UInt8) (na no : Nat) (k : Nat) : Bool := if k = 0 then !(decide (0 < na) && !ls.contains 82) else !(decide (0 < no) && !ls.contains 79)
def zn (ls : List UInt8) (n : Int) : Int := if ls.contains 110 then 0 else n
/-- Where the walk of right stands: the row at T is what is looked at. -/
structure RSk (W wc : World) (T : Nat) (Y : Array Value) : Prop where
  low : Below T W wc
  row : wc.heap[T]? = some (.cells Y 54 (0, 0))
theorem RSk.set {W wc : World} {T : Nat} {Y : Array Value} (h : RSk W wc T Y) (j : Nat) (v : Value) : RSk W (wc.setCell ⟨T, j, none⟩ v) T (Y.setIfInBounds j v) :=
  ⟨⟨h.low.os, h.low.tape, h.low.output, by simpa using h.low.size, fun q hq => (heap_setCell_other _ _ _ _ (by show q ≠ T; omega)).trans (h.low.block q hq)⟩, heap_setCell_same _ _ _ _ _ _ h.row⟩
theorem RSk.cell {W wc : World} {T : Nat} {Y : Array Value} (h : RSk W wc T Y) (j : Nat) : wc.cell? ⟨T, j, none⟩ = Y[j]? := cells_of_row h.row j
theorem RSk.fz {W wc : World} {T : Nat} {Y : Array Value} (h : RSk W wc T Y) (j : Nat) : wc.frozen? ⟨T, j, none⟩ = false := frozen_of_row _ _ j _ _ h.row
theorem RSk.low_row {W wc : World} {T g : Nat} {Y : Array Value} {o : Obj} (h : RSk W wc T Y) (hg : g < T) (hr : W.heap[g]? = some o) : wc.heap[g]? = some o := (h.low.block g hg).trans hr
theorem spare_tab : ∀ k : Fin 18, ∀ b0 b1 b2 b3 b4 b5 b6 : Bool, (bits .andNot .u8 (fillU [b0, b1, b2, b3, b4, b5, b6] 7) (needL.getD (k.val + 1) 0) != 0) = ((b0 && !((shapeL.getD (k.val + 1) #[63]).toList.contains 68)) || (b1 && !((shapeL.getD (k.val + 1) #[63]).toList.contains 65)) || (b2 && !((shapeL.getD (k.val + 1) #[63]).toList.contains 66)) || (b3 && !((shapeL.getD (k.val + 1) #[63]).toList.contains 110 || (shapeL.getD (k.val + 1) #[63]).toList.contains 78)) || (b4 && !((shapeL.getD (k.val + 1) #[63]).toList.contains 70)) || (b5 && !((shapeL.getD (k.val + 1) #[63]).toList.contains 82)) || (b6 && !((shapeL.getD (k.val + 1) #[63]).toList.contains 79))) := by decide +kernel
theorem spare_eq {op d a bb n fx : Int} {gs : List (Int × Int)} {os : List Int} (h1 : 1 ≤ op) (h2 : op ≤ 18) : InsE.spare ⟨op, d, a, bb, n, fx, gs, os⟩ = (((d != 0) && !((shapeLs op).contains 68)) || ((a != 0) && !((shapeLs op).contains 65)) || ((bb != 0) && !((shapeLs op).contains 66)) || ((n != 0) && !((shapeLs op).contains 110 || (shapeLs op).contains 78)) || ((fx != 0) && !((shapeLs op).contains 70)) || (((gs.length : Int) != 0) && !((shapeLs op).contains 82)) || (((os.length : Int) != 0) && !((shapeLs op).contains 79))) := by
  obtain ⟨k, rfl⟩ : ∃ k : Fin 18, op = (k.val : Int) + 1 := ⟨⟨(op - 1).toNat, by omega⟩, by simp; omega⟩
  have e1 : ((k.val : Int) + 1).toNat = k.val + 1 := by omega
  have e2 : shapeLs ((k.val : Int) + 1) = (shapeL.getD (k.val + 1) #[63]).toList := by unfold shapeLs shapeB; rw [if_pos (by omega), e1]
  rw [e2]
  show (bits .andNot .u8 (fillU [d != 0, a != 0, bb != 0, n != 0, fx != 0, (gs.length : Int) != 0, (os.length : Int) != 0] 7) (needL.getD ((k.val : Int) + 1).toNat 0) != 0) = _
  rw [e1]
  exact spare_tab k _ _ _ _ _ _ _
theorem spare_list0 {op d a bb n fx : Int} {gs : List (Int × Int)} {os : List Int} {ls : List UInt8} (h1 : 1 ≤ op) (h2 : op ≤ 18) (hl : ls = shapeLs op) (hc : ls.contains 82 = false) (hg : 0 < gs.length) : InsE.spare ⟨op, d, a, bb, n, fx, gs, os⟩ = true := by
  rw [spare_eq h1 h2, ← hl, hc]
  have : ((gs.length : Int) != 0) = true := by simp; intro h; rw [h] at hg; simp at hg
  rw [this]
  simp
theorem spare_list1 {op d a bb n fx : Int} {gs : List (Int × Int)} {os : List Int} {ls : List UInt8} (h1 : 1 ≤ op) (h2 : op ≤ 18) (hl : ls = shapeLs op) (hc : ls.contains 79 = false) (hg : 0 < os.length) : InsE.spare ⟨op, d, a, bb, n, fx, gs, os⟩ = true := by
  rw [spare_eq h1 h2, ← hl, hc]
  have : ((os.length : Int) != 0) = true := by simp; intro h; rw [h] at hg; simp at hg
  rw [this]
  simp
theorem nz_in (z : Int) : (penNum 0 255 (nz z)).2 = false := by unfold penNum nz; split <;> decide
theorem pen_bad (op d a bb n0 fx : Int) (h1 : 1 ≤ op) (h2 : op ≤ 18) (h255 : (shapeLs op).contains 110 = true → n0 = 0) : (penIns ⟨op, nz d, nz a, nz bb, n0, nz fx, [], []⟩).2 = !restB ⟨op, nz d, nz a, nz bb, n0, nz fx, [], []⟩ (shapeLs op) := by
  have hp : ∀ c ∈ shapeLs op, (penPart ⟨op, nz d, nz a, nz bb, n0, nz fx, [], []⟩ c).2 = false := fun c hc => by
    by_cases hc1 : c = 110
    · subst hc1
      have h0 := h255 (by simpa using hc)
      subst h0
      rfl
    · unfold penPart
      repeat' split
      all_goals first | exact nz_in _ | rfl | contradiction
  have ha : ∀ ls : List UInt8, (∀ c ∈ ls, (penPart ⟨op, nz d, nz a, nz bb, n0, nz fx, [], []⟩ c).2 = false) → (penAll (penPart ⟨op, nz d, nz a, nz bb, n0, nz fx, [], []⟩) ls).2 = false := fun ls => by
    induction ls with
    | nil => intro _; rfl
    | cons c cs ih => intro h; simp only [penAll, penSeq]; rw [h c (by simp), ih (fun x hx => h x (by simp [hx]))]; rfl
  simp only [penIns, penSeq]
  rw [ha _ hp]
  have : (penNum 1 18 op).2 = false := by unfold penNum; simp; omega
  rw [this]
  rfl
theorem zap_nz (ls : List UInt8) (c : UInt8) (x : Int) : (zap ls c (nz x) == 0) = !((x != 0) && !(ls.contains c)) := by
  unfold zap nz
  cases ls.contains c with
  | true => simp
  | false =>
    by_cases h : x = 0
    · simp [h]
    · simp [h]
theorem zapN_zn (ls : List UInt8) (n : Int) : (zapN ls (zn ls n) == 0) = !((n != 0) && !(ls.contains 110 || ls.contains 78)) := by
  unfold zapN zn
  cases ls.contains 110 with
  | true => simp
  | false =>
    cases ls.contains 78 with
    | true => simp
    | false =>
      show (n == 0) = !((n != 0) && !(false || false))
      cases h : (n == 0) <;> simp [bne, h]
theorem bad_eq {op d a bb n fx n0 : Int} {gs : List (Int × Int)} {os : List Int} {ls : List UInt8} (h1 : 1 ≤ op) (h2 : op ≤ 18) (hl : ls = shapeLs op) (hn : zn ls n = n0) (h8 : okc ls gs.length os.length 0 = true) (h9 : okc ls gs.length os.length 1 = true) : (penIns ⟨op, nz d, nz a, nz bb, n0, nz fx, [], []⟩).2 = InsE.spare ⟨op, d, a, bb, n, fx, gs, os⟩ := by
  rw [pen_bad op d a bb n0 fx h1 h2 (fun h => by rw [← hl] at h; rw [← hn]; unfold zn; rw [h]; rfl), spare_eq h1 h2, ← hl]
  have g8 : (((gs.length : Int) != 0) && !(ls.contains 82)) = false := by
    unfold okc at h8
    rw [if_pos rfl] at h8
    have e : ((gs.length : Int) != 0) = decide (0 < gs.length) := by
      rcases Nat.eq_zero_or_pos gs.length with h | h
      · simp [h]
      · have : ((gs.length : Int) != 0) = true := by simp; intro hh; rw [hh] at h; simp at h
        rw [this, decide_eq_true h]
    rw [e]
    simpa only [Bool.not_eq_true'] using h8
  have g9 : (((os.length : Int) != 0) && !(ls.contains 79)) = false := by
    unfold okc at h9
    rw [if_neg (by decide)] at h9
    have e : ((os.length : Int) != 0) = decide (0 < os.length) := by
      rcases Nat.eq_zero_or_pos os.length with h | h
      · simp [h]
      · have : ((os.length : Int) != 0) = true := by simp; intro hh; rw [hh] at h; simp at h
        rw [this, decide_eq_true h]
    rw [e]
    simpa only [Bool.not_eq_true'] using h9
  rw [g8, g9]
  subst hn
  have e82 : ((zapL ls 82 ([] : List (Int × Int)).length : Int) == 0) = true := by unfold zapL; split <;> rfl
  have e79 : ((zapL ls 79 ([] : List Int).length : Int) == 0) = true := by unfold zapL; split <;> rfl
  show (!nothingB (zap ls 68 (nz d)) (zap ls 65 (nz a)) (zap ls 66 (nz bb)) (zapN ls (zn ls n)) (zap ls 70 (nz fx)) (zapL ls 82 ([] : List (Int × Int)).length) (zapL ls 79 ([] : List Int).length)) = _
  unfold nothingB
  rw [zap_nz, zap_nz, zap_nz, zapN_zn, zap_nz, e82, e79]
  generalize ((d != 0) && !(ls.contains 68)) = b0
  generalize ((a != 0) && !(ls.contains 65)) = b1
  generalize ((bb != 0) && !(ls.contains 66)) = b2
  generalize ((n != 0) && !(ls.contains 110 || ls.contains 78)) = b3
  generalize ((fx != 0) && !(ls.contains 70)) = b4
  cases b0 <;> cases b1 <;> cases b2 <;> cases b3 <;> cases b4 <;> rfl
theorem okc0_t {ls : List UInt8} {na no : Nat} (h : ls.contains 82 = true) : okc ls na no 0 = true := by
  unfold okc
  rw [if_pos rfl, h]
  cases decide (0 < na) <;> rfl
theorem okc1_t {ls : List UInt8} {na no : Nat} (h : ls.contains 79 = true) : okc ls na no 1 = true := by
  unfold okc
  rw [if_neg (by decide), h]
  cases decide (0 < no) <;> rfl
theorem okc0_n {ls : List UInt8} {na no : Nat} (h : ¬ 0 < na) : okc ls na no 0 = true := by
  unfold okc
  rw [if_pos rfl, decide_eq_false h]
  rfl
theorem okc1_n {ls : List UInt8} {na no : Nat} (h : ¬ 0 < no) : okc ls na no 1 = true := by
  unfold okc
  rw [if_neg (by decide), decide_eq_false h]
  rfl
theorem rows5 (w : World) (X0 X1 X2 X3 X4 : Obj) : (((((w.alloc X0).alloc X1).alloc X2).alloc X3).alloc X4).heap[w.heap.size]? = some X0 ∧ (((((w.alloc X0).alloc X1).alloc X2).alloc X3).alloc X4).heap[w.heap.size + 1]? = some X1 ∧ (((((w.alloc X0).alloc X1).alloc X2).alloc X3).alloc X4).heap[w.heap.size + 1 + 1]? = some X2 ∧ (((((w.alloc X0).alloc X1).alloc X2).alloc X3).alloc X4).heap[w.heap.size + 1 + 1 + 1]? = some X3 ∧ (((((w.alloc X0).alloc X1).alloc X2).alloc X3).alloc X4).heap.size = w.heap.size + 1 + 1 + 1 + 1 + 1 := by
  obtain ⟨r0, b0, s0⟩ := al0 w X0
  obtain ⟨r1, b1, s1⟩ := al0 (w.alloc X0) X1
  obtain ⟨r2, b2, s2⟩ := al0 ((w.alloc X0).alloc X1) X2
  obtain ⟨r3, b3, s3⟩ := al0 (((w.alloc X0).alloc X1).alloc X2) X3
  obtain ⟨r4, b4, s4⟩ := al0 ((((w.alloc X0).alloc X1).alloc X2).alloc X3) X4
  rw [s0] at r1
  rw [s1, s0] at r2
  rw [s2, s1, s0] at r3
  exact ⟨(b4.block _ (by omega)).trans ((b3.block _ (by omega)).trans ((b2.block _ (by omega)).trans ((b1.block _ (by omega)).trans r0))), (b4.block _ (by omega)).trans ((b3.block _ (by omega)).trans ((b2.block _ (by omega)).trans r1)), (b4.block _ (by omega)).trans ((b3.block _ (by omega)).trans r2), (b4.block _ (by omega)).trans r3, by omega⟩
end Go.Proofs.YteaemhhbpaicnaaDoor
namespace Go.Proofs.YteaemhhbpaicnaaDoor
open Go.RowKit

set_option maxHeartbeats 1000000 in
set_option maxRecDepth 100000 in
theorem hasB_c (ns : List Int) (x : Int) (v : Value) (w : World) (h : Rs w v ns) (hn : ns.length < 9223372036854775808) : Calls Tryd.prog 18 #[v, .int .i64 x] w fun e w' => e = .returned (.bool (decide (x ∈ ns))) ∧ w' = w := by
  by_cases hne : ns = []
  · obtain ⟨p, cap, rfl⟩ : ∃ p cap, v = .slice p 0 cap := by
      rcases h with ⟨_, p, cap, e⟩ | ⟨sb, so, cap, e, _⟩
      · exact ⟨p, cap, e⟩
      · rw [hne] at e; exact ⟨_, _, e⟩
    subst hne
    clear h
    go_enter Tryd.func18, Tryd.ntmps18
    go_wp2_with fail
    refine wp_loop_rounds 1 ?_
    rw [rounds_succ]
    go_wp2
    go_ret
    exact ⟨by simp, rfl⟩
  · obtain ⟨sb, so, cap, rfl, hc⟩ := h.get hne
    have HC := hideI hc
    clear h hc
    go_enter Tryd.func18, Tryd.ntmps18
    go_wp2_with fail
    go_loopw [9] (fun j w' => ∃ k : Nat, j = .int .i64 k ∧ k ≤ ns.length ∧ w' = w ∧ ¬ x ∈ ns.take k) (fun j _ => ns.length - (intOf j).toNat)
    case atStart => exact ⟨0, rfl, by omega, rfl, by simp⟩
    case round =>
      obtain ⟨k, rfl, hk, rfl, hno⟩ := hrel
      have HN := hideI hno
      clear hno
      by_cases hlt : k < ns.length
      · have c := unhideI HC k hlt
        by_cases hx : ns.getD k 0 = x
        · rw [hx] at c
          have hm := hideI (mem_of_getD hlt hx)
          clear hx
          go_wp2
          go_ret
          exact ⟨by simp [unhideI hm], rfl⟩
        · have HT := hideI (not_mem_take hlt (unhideI HN) hx)
          generalize hy : ns.getD k 0 = y at c hx
          have z : (y == x) = false := by simpa using hx
          clear hy
          go_wp2
          go_roundw
          case rel => exact ⟨k + 1, by go_num, by omega, trivial, unhideI HT⟩
          case measure => simp [intOf]; omega
      · obtain rfl : k = ns.length := by omega
        have HT := hideI (show ¬ x ∈ ns by have := unhideI HN; rwa [List.take_length] at this)
        go_wp2
        go_ret
        exact ⟨by simp [unhideI HT], rfl⟩
end Go.Proofs.YteaemhhbpaicnaaDoor
