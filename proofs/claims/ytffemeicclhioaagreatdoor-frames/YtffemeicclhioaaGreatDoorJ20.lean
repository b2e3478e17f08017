/-
  Own work of the verifier: FrD, FrP2, ClF, as one text.
-/
import Derived.Test.YtffemeicclhioaaGreatDoorFrC
import Derived.Test.YtffemeicclhioaaGreatDoorJ3
import Derived.Test.YtffemeicclhioaaGreatDoorClE
import Derived.Deep.RegionLaw
import Derived.WalkSmall
namespace Go.Proofs.YtffemeicclhioaaGreatDoor
open Go.RowKit

/-- The registers below k that a function uses and must keep. -/
def savL (ss hs : List Int) (k : Nat) : List Int := ((List.range k).filter fun r : Nat => decide ((r : Int) ∈ ss) && decide ((r : Int) ∈ hs)).map fun r : Nat => (r : Int)
theorem savL_next (ss hs : List Int) (k : Nat) : savL ss hs (k + 1) = savL ss hs k ++ (if (decide ((k : Int) ∈ ss) && decide ((k : Int) ∈ hs)) = true then [(k : Int)] else []) := by
 unfold savL
 rw [List.range_succ, List.filter_append, List.map_append]
 congr 1
 simp only [List.filter_cons, List.filter_nil]
 split <;> rfl
theorem savL_len (ss hs : List Int) (k : Nat) : (savL ss hs k).length ≤ k := by
 unfold savL
 rw [List.length_map]
 have := List.length_filter_le (fun r : Nat => decide ((r : Int) ∈ ss) && decide ((r : Int) ∈ hs)) (List.range k)
 simpa using this
theorem Zan {w : World} {B e size n : Nat} {v : Value} {xs : List Value} (h : w.ownsRow B e size v n xs) : ∃ p c, v = .slice p n c := by
 rcases h.2 with ⟨e, e0⟩ | ⟨g, cap, cur, e, -⟩
 ·
  exact ⟨none, 0, by rw [e0]; exact e⟩
 ·
  exact ⟨_, _, e⟩
theorem iC_snoc (ns : List Int) (x : Int) : iC (ns ++ [x]) = iC ns ++ [.int .i64 x] := by simp [iC]
set_option maxHeartbeats 4000000 in
set_option maxRecDepth 100000 in
theorem saved_c (T : TbE) (fn : FuncE) (pv hv sv bv : Value) (w : World) (hT : TbO w T) (hh : Li w hv fn.homes) (hr0 : 0 ≤ T.r) (hr1 : T.r ≤ 16) (hs : T.ss.length ≤ 1000000) (hhl : fn.homes.length ≤ 1000000) (hpv : ∃ p n c, pv = .slice p n c) (hsv : ∃ p n c, sv = .slice p n c) (hbv : ∃ p n c, bv = .slice p n c) :
 Calls Tryz.prog 62 #[.agg T.box, .agg #[pv, .int .i64 fn.results, hv, sv, bv]] w fun e w' => ∃ v, e = .returned v ∧ w'.ownsRow w.heap.size 3 1 v (savL T.ss fn.homes T.r.toNat).length (iC (savL T.ss fn.homes T.r.toNat)) ∧ Below w.heap.size w w' := by
 obtain ⟨ti, hti, hty0, hty1, hty2⟩ := info_K Tryz.infoInt
 obtain ⟨p1, n1, c1, rfl⟩ := hpv
 obtain ⟨p2, n2, c2, rfl⟩ := hsv
 obtain ⟨p3, n3, c3, rfl⟩ := hbv
 obtain ⟨hp, hc, rfl⟩ := hh.shape
 obtain ⟨r0, r1, hZ, hB⟩ := rows2f w (.cells T.box 25 (0, 0)) (.cells #[.slice p1 n1 c1, .int .i64 fn.results, .slice hp fn.homes.length hc, .slice p2 n2 c2, .slice p3 n3 c3] 70 (0, 0))
 have HH := Zac hh
 have HT := Zac hT
 have HR0 := Zac r0
 have HR1 := Zac r1
 have HB := Zac hB
 obtain ⟨R, hR⟩ := Int.eq_ofNat_of_zero_le hr0
 clear hT hh r0 r1 hB
 unfold TbE.box at HR0 HR1 HB hZ ⊢
 rw [hR] at HR0 HR1 HB hZ hr1 ⊢
 have hR16 : R ≤ 16 := by omega
 rw [Int.toNat_natCast]
 go_enter Tryz.func62, Tryz.ntmps62
 go_wp2_with fail
 generalize World.alloc (World.alloc w _) _ = W at HR0 HR1 HB hZ ⊢
 go_loopw [9, 5] (fun sr sv w' => ∃ (r : Nat) (v : Value), sr = .int .i64 r ∧ sv = v ∧ r ≤ R ∧ w'.ownsRow W.heap.size 3 1 v (savL T.ss fn.homes r).length (iC (savL T.ss fn.homes r)) ∧ Below W.heap.size W w') (fun sr _ _ => R - (intOf sr).toNat)
 case atStart => exact ⟨0, _, rfl, rfl, by omega, World.ownsRow_nil _ _ _ _, Below.refl _ _⟩
 case round =>
  obtain ⟨r, v0, rfl, rfl, hr, how, hbw⟩ := hrel
  obtain ⟨vp, vc, rfl⟩ := Zan how
  have hzw := hbw.size
  have HOW := Zac how
  have HBW := Zac hbw
  by_cases hr2 : r < R
  ·
   have s7 : wr.cell? ⟨w.heap.size, 7, none⟩ = some (.slice T.ps T.ss.length T.cs) := (Zab ((hbw.block _ (by omega)).trans (Zaa HR0)) 7).trans rfl
   have h2 : wr.cell? ⟨w.heap.size + 1, 2, none⟩ = some (.slice hp fn.homes.length hc) := (Zab ((hbw.block _ (by omega)).trans (Zaa HR1)) 2).trans rfl
   have hbel : Below w.heap.size w wr := Zad (Zaa HB) hbw (by omega)
   have HC1 := Zac (contains_c T.ss r _ wr ((Zaa HT).below hbel).s.rs hs)
   have HC2 := Zac (contains_c fn.homes r _ wr ((Zaa HH).below hbel).rs hhl)
   have HNX := Zac (savL_next T.ss fn.homes r)
   have hsl := savL_len T.ss fn.homes r
   clear how hbw hbel
   go_wp2_with fail
   refine (Zaa HC1).mono ?_
   rintro e w1 ⟨rfl, hw1⟩
   subst hw1
   obtain ⟨b1, hb1⟩ : ∃ b, b = decide ((r : Int) ∈ T.ss) := ⟨_, rfl⟩
   rw [← hb1] at HNX ⊢
   clear hb1 HC1
   cases b1 with
   | false =>
    have HX := Zac (show w1.ownsRow W.heap.size 3 1 (.slice vp (savL T.ss fn.homes r).length vc) (savL T.ss fn.homes (r + 1)).length (iC (savL T.ss fn.homes (r + 1))) by rw [Zaa HNX]; simp; exact Zaa HOW)
    go_wp2
    go_roundw
    case rel => exact ⟨r + 1, _, by go_num, rfl, by omega, Zaa HX, Zaa HBW⟩
    case measure => simp [intOf]; omega
   | true =>
    go_wp2_with fail
    refine (Zaa HC2).mono ?_
    rintro e w2 ⟨rfl, hw2⟩
    subst hw2
    obtain ⟨b2, hb2⟩ : ∃ b, b = decide ((r : Int) ∈ fn.homes) := ⟨_, rfl⟩
    rw [← hb2] at HNX ⊢
    clear hb2 HC2
    cases b2 with
    | false =>
     have HX := Zac (show w2.ownsRow W.heap.size 3 1 (.slice vp (savL T.ss fn.homes r).length vc) (savL T.ss fn.homes (r + 1)).length (iC (savL T.ss fn.homes (r + 1))) by rw [Zaa HNX]; simp; exact Zaa HOW)
     go_wp2
     go_roundw
     case rel => exact ⟨r + 1, _, by go_num, rfl, by omega, Zaa HX, Zaa HBW⟩
     case measure => simp [intOf]; omega
    | true =>
     clear s7 h2
     go_wp2_with (at_builtin; refine wpList_append_own _ rfl _ _ 23 rfl W.heap.size 3 ti _ 1 8 Tryz.underlying23 hti hty0 hty1 hty2 rfl (by decide) _ _ _ rfl (World.ownsRow.alloc (Zaa HOW) _) ⟨w2.heap.size, 0, none⟩ 1 1 [.int .i64 r] rfl rfl (by intro j u hj; match j, hj with | 0, hj => (simp at hj; subst hj; simp [Addr.add])) (by intro u hu; simp at hu; subst hu; rfl) ?c3 ?c4 ?c5 ?_)
     case c3 => unfold maxLen; omega
     case c4 => omega
     case c5 => first | omega | (simp; omega)
     intro v7 w7 hown7 hgr7 _
     obtain ⟨gg7, cc7, rfl⟩ := own_formK hown7
     have hal := al0 w2 (.cells #[.int .i64 r] 3 (0, 0))
     have hbw := Zaa HBW
     have HX := Zac (show w7.ownsRow W.heap.size 3 1 (.slice (some ⟨gg7, 0, none⟩) ((savL T.ss fn.homes r).length + 1) cc7) (savL T.ss fn.homes (r + 1)).length (iC (savL T.ss fn.homes (r + 1))) by rw [Zaa HNX]; simp only [Bool.and_self, if_true]; rw [iC_snoc, List.length_append, hZ]; exact hown7)
     have HBX := Zac (show Below W.heap.size W w7 from ⟨hgr7.os.trans (hal.2.1.os.trans hbw.os), hgr7.tape.trans (hal.2.1.tape.trans hbw.tape), hgr7.output.trans (hal.2.1.output.trans hbw.output), by have := hgr7.size; rw [hal.2.2] at this; omega, fun q hq => (hgr7.block q (by rw [hal.2.2]; omega) (fun e => by have := ((Zaa HOW).lt q e.symm).1; omega)).trans ((hal.2.1.block q (by omega)).trans (hbw.block q hq))⟩)
     clear hown7 hgr7 hal hbw
     go_wp2
     go_roundw
     case rel => exact ⟨r + 1, _, by go_num, rfl, by omega, Zaa HX, Zaa HBX⟩
     case measure => simp [intOf]; omega
  ·
   obtain rfl : r = R := by omega
   clear how hbw
   go_wp2
   go_ret
   exact ⟨_, rfl, own_monoF (Zaa HOW) (by omega), Zad (Zaa HB) (Zaa HBW) (by omega)⟩
end Go.Proofs.YtffemeicclhioaaGreatDoor
namespace Go.Proofs.YtffemeicclhioaaGreatDoor
open Go.RowKit

structure FrmE where
 out : Int
 cop : Int
 cells : Int
 slots : List Int
 saves : List (Int × Int)
 link : Int
 size : Int
 in_ : Int
def outT (T : TbE) (ss : List (List Int × Int)) : Int := ss.foldl (fun m s => max m (layT T s).size) 0
def copT (T : TbE) (ss : List (List Int × Int)) : Int := ss.foldl (fun m s => max m (layT T s).copies) 0
def sumT (ns : List Int) (k : Nat) : Int := (ns.take k).foldl (· + ·) 0
theorem outT_next (T : TbE) (ss : List (List Int × Int)) (k : Nat) (h : k < ss.length) : outT T (ss.take (k + 1)) = max (outT T (ss.take k)) (layT T (ss.getD k ([], 0))).size := by
 unfold outT
 rw [List.take_add_one, List.getElem?_eq_getElem h, List.foldl_append, getD_at _ _ _ h]
 rfl
theorem copT_next (T : TbE) (ss : List (List Int × Int)) (k : Nat) (h : k < ss.length) : copT T (ss.take (k + 1)) = max (copT T (ss.take k)) (layT T (ss.getD k ([], 0))).copies := by
 unfold copT
 rw [List.take_add_one, List.getElem?_eq_getElem h, List.foldl_append, getD_at _ _ _ h]
 rfl
theorem sumT_next (ns : List Int) (k : Nat) (h : k < ns.length) : sumT ns (k + 1) = sumT ns k + ns.getD k 0 := by
 unfold sumT
 rw [List.take_add_one, List.getElem?_eq_getElem h, List.foldl_append, getD_at _ _ _ h]
 rfl
def at0F (T : TbE) (fn : FuncE) (ss : List (List Int × Int)) : Int := outT T ss + copT T ss + 8 * (fn.homes.length : Int)
def at1F (T : TbE) (fn : FuncE) (ss : List (List Int × Int)) : Int := at0F T fn ss + 8 * sumT fn.slots fn.slots.length
def savF (T : TbE) (fn : FuncE) : List Int := savL T.ss fn.homes T.r.toNat
def at2F (T : TbE) (fn : FuncE) (ss : List (List Int × Int)) : Int := at1F T fn ss + 8 * ((savF T fn).length : Int)
def hasF (T : TbE) (ss : List (List Int × Int)) : Bool := decide (T.lk ≠ -1) && decide (0 < ss.length)
def at3F (T : TbE) (fn : FuncE) (ss : List (List Int × Int)) : Int := if hasF T ss = true then at2F T fn ss + 8 else at2F T fn ss
def pshF (T : TbE) : Int := if T.lk = -1 then 8 else 0
def inF (T : TbE) (fn : FuncE) (ss : List (List Int × Int)) : Int := (at3F T fn ss + pshF T + T.al - 1) / T.al * T.al
def slA (T : TbE) (fn : FuncE) (ss : List (List Int × Int)) (k : Nat) : Int := at0F T fn ss + 8 * sumT fn.slots k
def svA (T : TbE) (fn : FuncE) (ss : List (List Int × Int)) (k : Nat) : Int × Int := ((savF T fn).getD k 0, at1F T fn ss + 8 * (k : Int))
def frmE (T : TbE) (fn : FuncE) (ss : List (List Int × Int)) : FrmE :=
 ⟨outT T ss, copT T ss, outT T ss + copT T ss, (List.range fn.slots.length).map (slA T fn ss), (List.range (savF T fn).length).map (svA T fn ss), if hasF T ss = true then at2F T fn ss else -1, inF T fn ss - pshF T, inF T fn ss⟩
/-- How large a layout may be. -/
theorem layT_size {T : TbE} {s : List Int × Int} (ht : TbOk T) (hs : SgOk s) : 0 ≤ (layT T s).size ∧ (layT T s).size ≤ 1000 ∧ 0 ≤ (layT T s).copies ∧ (layT T s).copies ≤ 1000 := by
 have hok := stA_ok (L := T.ag.length) (br := T.br) (pr := T.pairs) (sh := T.sh) hs.n s.1.length (Nat.le_refl _)
 have h1 := hok.c0
 have h2 := hok.c1
 have h3 := hok.p0
 have h4 := hok.p1
 have h5 := ht.s0
 have h6 := ht.s1
 have h7 := hs.l
 have h8 := hs.r0
 have h9 := hs.r4
 show 0 ≤ resC T.rs _ s.2.toNat ∧ resC T.rs _ s.2.toNat ≤ 1000 ∧ 0 ≤ (stA _ _ _ _ _ s.1.length).p ∧ (stA _ _ _ _ _ s.1.length).p ≤ 1000
 unfold resC
 omega
theorem outT_le {T : TbE} (ht : TbOk T) : ∀ (ss : List (List Int × Int)), (∀ s ∈ ss, SgOk s) → ∀ m : Int, 0 ≤ m → m ≤ 1000 → 0 ≤ ss.foldl (fun m s => max m (layT T s).size) m ∧ ss.foldl (fun m s => max m (layT T s).size) m ≤ 1000
 | [], _, m, h0, h1 => ⟨h0, h1⟩
 | s :: r, h, m, h0, h1 => by
  have hs := layT_size ht (h s List.mem_cons_self)
  exact outT_le ht r (fun x hx => h x (List.mem_cons_of_mem _ hx)) (max m (layT T s).size) (by omega) (by omega)
theorem copT_le {T : TbE} (ht : TbOk T) : ∀ (ss : List (List Int × Int)), (∀ s ∈ ss, SgOk s) → ∀ m : Int, 0 ≤ m → m ≤ 1000 → 0 ≤ ss.foldl (fun m s => max m (layT T s).copies) m ∧ ss.foldl (fun m s => max m (layT T s).copies) m ≤ 1000
 | [], _, m, h0, h1 => ⟨h0, h1⟩
 | s :: r, h, m, h0, h1 => by
  have hs := layT_size ht (h s List.mem_cons_self)
  exact copT_le ht r (fun x hx => h x (List.mem_cons_of_mem _ hx)) (max m (layT T s).copies) (by omega) (by omega)
theorem sumT_le {ns : List Int} (h : ∀ k, k < ns.length → 0 ≤ ns.getD k 0 ∧ ns.getD k 0 ≤ 8) : ∀ k, k ≤ ns.length → 0 ≤ sumT ns k ∧ sumT ns k ≤ 8 * (k : Int)
 | 0, _ => by simp [sumT]
 | k + 1, hk => by
  have ih := sumT_le h k (by omega)
  have hn := h k (by omega)
  rw [sumT_next ns k (by omega)]
  omega
/-- A frame under way: its row, its lists, and all that was there. -/
structure PtI (W : World) (b : Nat) (o c ce : Int) (slv kv : Value) (lk sz i_ : Int) (sl : List Int) (kp : List (Int × Int)) (V : World) : Prop where
 low : Below b W V
 row : V.heap[b]? = some (.cells #[.int .i64 o, .int .i64 c, .int .i64 ce, slv, kv, .int .i64 lk, .int .i64 sz, .int .i64 i_] 32 (0, 0))
 sl : V.ownsRow (b + 1) 3 1 slv sl.length (iC sl)
 kp : V.ownsRow (b + 1) 56 2 kv kp.length (plC kp)
section
variable {W V V' : World} {b : Nat} {o c ce lk sz i_ : Int} {slv kv : Value} {sl : List Int} {kp : List (Int × Int)}
theorem PtI.size (h : PtI W b o c ce slv kv lk sz i_ sl kp V) : b < V.heap.size := row_lt h.row
theorem PtI.next (h : PtI W b o c ce slv kv lk sz i_ sl kp V) (hb : Below V.heap.size V V') : PtI W b o c ce slv kv lk sz i_ sl kp V' :=
 ⟨Zad h.low hb (Nat.le_of_lt h.size), (hb.block b h.size).trans h.row, own_gb h.sl (gb_ofB (o := none) hb) (fun g _ e => by cases e), own_gb h.kp (gb_ofB (o := none) hb) (fun g _ e => by cases e)⟩
theorem PtI.low_set (h : PtI W b o c ce slv kv lk sz i_ sl kp V) (j : Nat) (v : Value) : Below b W (V.setCell ⟨b, j, none⟩ v) ∧ (V.setCell ⟨b, j, none⟩ v).ownsRow (b + 1) 3 1 slv sl.length (iC sl) ∧ (V.setCell ⟨b, j, none⟩ v).ownsRow (b + 1) 56 2 kv kp.length (plC kp) :=
 ⟨⟨h.low.os, h.low.tape, h.low.output, by have := h.low.size; simpa using this, fun q hq => (heap_setCell_other _ _ _ _ (by show q ≠ b; omega)).trans (h.low.block q hq)⟩, ownsRow_setCell_below h.sl (a := ⟨b, j, none⟩) (by show b < b + 1; omega) v, ownsRow_setCell_below h.kp (a := ⟨b, j, none⟩) (by show b < b + 1; omega) v⟩
theorem PtI.s0 (h : PtI W b o c ce slv kv lk sz i_ sl kp V) (x : Int) : PtI W b x c ce slv kv lk sz i_ sl kp (V.setCell ⟨b, 0, none⟩ (.int .i64 x)) := ⟨(h.low_set 0 _).1, heap_setCell_same _ _ 0 _ _ _ h.row, (h.low_set 0 _).2.1, (h.low_set 0 _).2.2⟩
theorem PtI.s1 (h : PtI W b o c ce slv kv lk sz i_ sl kp V) (x : Int) : PtI W b o x ce slv kv lk sz i_ sl kp (V.setCell ⟨b, 1, none⟩ (.int .i64 x)) := ⟨(h.low_set 1 _).1, heap_setCell_same _ _ 1 _ _ _ h.row, (h.low_set 1 _).2.1, (h.low_set 1 _).2.2⟩
theorem PtI.s2 (h : PtI W b o c ce slv kv lk sz i_ sl kp V) (x : Int) : PtI W b o c x slv kv lk sz i_ sl kp (V.setCell ⟨b, 2, none⟩ (.int .i64 x)) := ⟨(h.low_set 2 _).1, heap_setCell_same _ _ 2 _ _ _ h.row, (h.low_set 2 _).2.1, (h.low_set 2 _).2.2⟩
theorem PtI.s5 (h : PtI W b o c ce slv kv lk sz i_ sl kp V) (x : Int) : PtI W b o c ce slv kv x sz i_ sl kp (V.setCell ⟨b, 5, none⟩ (.int .i64 x)) := ⟨(h.low_set 5 _).1, heap_setCell_same _ _ 5 _ _ _ h.row, (h.low_set 5 _).2.1, (h.low_set 5 _).2.2⟩
theorem PtI.s6 (h : PtI W b o c ce slv kv lk sz i_ sl kp V) (x : Int) : PtI W b o c ce slv kv lk x i_ sl kp (V.setCell ⟨b, 6, none⟩ (.int .i64 x)) := ⟨(h.low_set 6 _).1, heap_setCell_same _ _ 6 _ _ _ h.row, (h.low_set 6 _).2.1, (h.low_set 6 _).2.2⟩
theorem PtI.s7 (h : PtI W b o c ce slv kv lk sz i_ sl kp V) (x : Int) : PtI W b o c ce slv kv lk sz x sl kp (V.setCell ⟨b, 7, none⟩ (.int .i64 x)) := ⟨(h.low_set 7 _).1, heap_setCell_same _ _ 7 _ _ _ h.row, (h.low_set 7 _).2.1, (h.low_set 7 _).2.2⟩
theorem own_other {B B' n m size size' : Nat} {e e' : TypeId} {v v' : Value} {xs ys : List Value} (h : V.ownsRow B e size v n xs) (h' : V.ownsRow B' e' size' v' m ys) (hne : e ≠ e') : ∀ g, v.ownBlock = some g → v'.ownBlock ≠ some g := fun g hv hv' => by
 rcases h.2 with ⟨e1, -⟩ | ⟨g1, c1, cur1, e1, -, r1, -⟩
 ·
  rw [e1] at hv; cases hv
 ·
  rcases h'.2 with ⟨e2, -⟩ | ⟨g2, c2, cur2, e2, -, r2, -⟩
  ·
   rw [e2] at hv'; cases hv'
  ·
   rw [e1] at hv
   rw [e2] at hv'
   injection hv with hv
   injection hv' with hv'
   simp only at hv hv'
   rw [hv] at r1
   rw [hv'] at r2
   rw [r1] at r2
   injection r2 with r2
   injection r2 with _ r2 _
   exact hne r2
theorem PtI.low_app (h : PtI W b o c ce slv kv lk sz i_ sl kp V) (X : Obj) {w7 : World} {v : Value} {n size : Nat} {e : TypeId} {xs : List Value} (ho : V.ownsRow (b + 1) e size v n xs) (hgr : (V.alloc X).grownBy w7 v.ownBlock) : Below b W w7 ∧ w7.heap[b]? = V.heap[b]? := by
 have ha := al0 V X
 have hz := h.size
 have hl := h.low.size
 have h7 := hgr.size
 rw [ha.2.2] at h7
 have hq : ∀ q, q ≤ b → w7.heap[q]? = V.heap[q]? := fun q hq => (hgr.block q (by rw [ha.2.2]; omega) (fun e => by have := (World.ownsRow.lt ho q e.symm).1; omega)).trans (ha.2.1.block q (by omega))
 exact ⟨⟨hgr.os.trans (ha.2.1.os.trans h.low.os), hgr.tape.trans (ha.2.1.tape.trans h.low.tape), hgr.output.trans (ha.2.1.output.trans h.low.output), by omega, fun q h1 => (hq q (by omega)).trans (h.low.block q h1)⟩, hq b (Nat.le_refl _)⟩
theorem PtI.slot (h : PtI W b o c ce slv kv lk sz i_ sl kp V) {w7 : World} {v7 : Value} {x : Int} (hgr : (V.alloc (.cells #[.int .i64 x] 3 (0, 0))).grownBy w7 slv.ownBlock) (hown : w7.ownsRow (b + 1) 3 1 v7 (sl.length + 1) (iC sl ++ [.int .i64 x])) : PtI W b o c ce v7 kv lk sz i_ (sl ++ [x]) kp (w7.setCell ⟨b, 3, none⟩ v7) := by
 obtain ⟨hl, hr⟩ := h.low_app _ h.sl hgr
 have hk : w7.ownsRow (b + 1) 56 2 kv kp.length (plC kp) := own_gb (World.ownsRow.alloc h.kp _) hgr (own_other h.kp h.sl (by decide))
 refine ⟨⟨hl.os, hl.tape, hl.output, by have := hl.size; simpa using this, fun q hq => (heap_setCell_other _ _ _ _ (by show q ≠ b; omega)).trans (hl.block q hq)⟩, heap_setCell_same _ _ 3 _ _ _ (hr.trans h.row), ?_, ownsRow_setCell_below hk (a := ⟨b, 3, none⟩) (by show b < b + 1; omega) v7⟩
 rw [iC_snoc, List.length_append]
 exact ownsRow_setCell_below hown (a := ⟨b, 3, none⟩) (by show b < b + 1; omega) v7
theorem PtI.kept (h : PtI W b o c ce slv kv lk sz i_ sl kp V) {w7 : World} {v7 : Value} {x y : Int} (hgr : (V.alloc (.cells #[.int .i64 x, .int .i64 y] 56 (0, 0))).grownBy w7 kv.ownBlock) (hown : w7.ownsRow (b + 1) 56 2 v7 (kp.length + 1) (plC kp ++ [.int .i64 x, .int .i64 y])) : PtI W b o c ce slv v7 lk sz i_ sl (kp ++ [(x, y)]) (w7.setCell ⟨b, 4, none⟩ v7) := by
 obtain ⟨hl, hr⟩ := h.low_app _ h.kp hgr
 have hk : w7.ownsRow (b + 1) 3 1 slv sl.length (iC sl) := own_gb (World.ownsRow.alloc h.sl _) hgr (own_other h.sl h.kp (by decide))
 refine ⟨⟨hl.os, hl.tape, hl.output, by have := hl.size; simpa using this, fun q hq => (heap_setCell_other _ _ _ _ (by show q ≠ b; omega)).trans (hl.block q hq)⟩, heap_setCell_same _ _ 4 _ _ _ (hr.trans h.row), ownsRow_setCell_below hk (a := ⟨b, 4, none⟩) (by show b < b + 1; omega) v7, ?_⟩
 rw [plC_snoc, List.length_append]
 exact ownsRow_setCell_below hown (a := ⟨b, 4, none⟩) (by show b < b + 1; omega) v7
end
def noLayF : LayE := ⟨[], [], 0, 0⟩
theorem lyC_get : ∀ (vs : List (Value × Value)) (ls : List LayE) (k : Nat), (∀ x ∈ vs, x.1.oneCell' = true ∧ x.2.oneCell' = true) → vs.length = ls.length → k < ls.length → ∃ a r, a.oneCell' = true ∧ r.oneCell' = true ∧ (lyC vs ls)[k * 4]? = some a ∧ (lyC vs ls)[k * 4 + 1]? = some r ∧ (lyC vs ls)[k * 4 + 2]? = some (.int .i64 (ls.getD k noLayF).size) ∧ (lyC vs ls)[k * 4 + 3]? = some (.int .i64 (ls.getD k noLayF).copies)
 | [], [], _, _, _, hk => absurd hk (by simp)
 | [], _ :: _, _, _, hl, _ => by simp at hl
 | _ :: _, [], _, _, hl, _ => by simp at hl
 | p :: pr, s :: sr, 0, ho, _, _ => ⟨p.1, p.2, (ho p List.mem_cons_self).1, (ho p List.mem_cons_self).2, rfl, rfl, rfl, rfl⟩
 | p :: pr, s :: sr, k + 1, ho, hl, hk => by
  obtain ⟨a, r, o1, o2, h1, h2, h3, h4⟩ := lyC_get pr sr k (fun x hx => ho x (List.mem_cons_of_mem _ hx)) (by simpa using hl) (by simpa using hk)
  have e : lyC (p :: pr) (s :: sr) = [p.1, p.2, .int .i64 s.size, .int .i64 s.copies] ++ lyC pr sr := rfl
  have sh : ∀ i, (lyC (p :: pr) (s :: sr))[(k + 1) * 4 + i]? = (lyC pr sr)[k * 4 + i]? := fun i => by
   rw [e, List.getElem?_append_right (by simp; omega), show (k + 1) * 4 + i - [p.1, p.2, Value.int .i64 s.size, .int .i64 s.copies].length = k * 4 + i by simp; omega]
  have s0 := sh 0
  rw [Nat.add_zero, Nat.add_zero] at s0
  exact ⟨a, r, o1, o2, s0.trans h1, (sh 1).trans h2, (sh 2).trans (by rw [h3]; simp [List.getD]), (sh 3).trans (by rw [h4]; simp [List.getD])⟩
end Go.Proofs.YtffemeicclhioaaGreatDoor
namespace Go.Proofs.YtffemeicclhioaaGreatDoor
open Go.RowKit

theorem rows4 (w : World) (X0 X1 X2 X3 : Obj) : ((((w.alloc X0).alloc X1).alloc X2).alloc X3).heap[w.heap.size]? = some X0 ∧ ((((w.alloc X0).alloc X1).alloc X2).alloc X3).heap[w.heap.size + 1]? = some X1 ∧ ((((w.alloc X0).alloc X1).alloc X2).alloc X3).heap[w.heap.size + 1 + 1]? = some X2 ∧ ((((w.alloc X0).alloc X1).alloc X2).alloc X3).heap[w.heap.size + 1 + 1 + 1]? = some X3 ∧ ((((w.alloc X0).alloc X1).alloc X2).alloc X3).heap.size = w.heap.size + 1 + 1 + 1 + 1 := by
 obtain ⟨r0, b0, s0⟩ := al0 w X0
 obtain ⟨r1, b1, s1⟩ := al0 (w.alloc X0) X1
 obtain ⟨r2, b2, s2⟩ := al0 ((w.alloc X0).alloc X1) X2
 obtain ⟨r3, b3, s3⟩ := al0 (((w.alloc X0).alloc X1).alloc X2) X3
 rw [s0] at r1
 rw [s1, s0] at r2
 rw [s2, s1, s0] at r3
 exact ⟨(b3.block _ (by omega)).trans ((b2.block _ (by omega)).trans ((b1.block _ (by omega)).trans r0)), (b3.block _ (by omega)).trans ((b2.block _ (by omega)).trans r1), (b3.block _ (by omega)).trans r2, r3, by omega⟩
/-- How far prologueref.Layout is: k parameters. -/
structure RlI (W : World) (b0 : Nat) (T : TbE) (ps : List Int) (k : Nat) (av : Value) (pvs : List Value) (w : World) : Prop where
 low : Below (b0 + 3) W w
 row : w.heap[b0 + 3]? = some (.cells #[av, .slice none 0 0, .int .i64 0, .int .i64 (stA T.ag.length T.br T.pairs ps T.sh k).p] 85 (0, 0))
 len : pvs.length = k
 own : w.ownsRow (b0 + 4) 118 3 av k (spsC pvs ((List.range k).map (sptA T.ag T.br T.pairs ps T.sh)))
 each : ∀ j, j < k → PlO w (b0 + 4) (pvs.getD j undef) (sptA T.ag T.br T.pairs ps T.sh j).pl
/-- A parameter's round: its spot's row stands at Ta, with so many places. -/
structure RlJ (wr : World) (b0 Ta : Nat) (av pv : Value) (ref : Bool) (at_ p : Int) (xs : List (Int × Int)) (w : World) : Prop where
 os : w.os = wr.os
 tape : w.tape = wr.tape
 output : w.output = wr.output
 size : Ta < w.heap.size
 oth : ∀ q, q < Ta → q ≠ b0 + 3 → w.heap[q]? = wr.heap[q]?
 lrow : w.heap[b0 + 3]? = some (.cells #[av, .slice none 0 0, .int .i64 0, .int .i64 p] 85 (0, 0))
 arow : w.heap[Ta]? = some (.cells #[pv, .bool ref, .int .i64 at_] 118 (0, 0))
 pl : PlO w (Ta + 1) pv xs
theorem RlJ.first {wr : World} {b0 : Nat} {av : Value} {ref : Bool} {p : Int} (h : wr.heap[b0 + 3]? = some (.cells #[av, .slice none 0 0, .int .i64 0, .int .i64 p] 85 (0, 0))) : RlJ wr b0 wr.heap.size av (.slice none 0 0) ref 0 p [] (wr.alloc (.cells #[.slice none 0 0, .bool ref, .int .i64 0] 118 (0, 0))) := by
 have ha := al0 wr (.cells #[.slice none 0 0, .bool ref, .int .i64 0] 118 (0, 0))
 exact ⟨rfl, rfl, rfl, by rw [ha.2.2]; omega, fun q hq _ => ha.2.1.block q hq, (ha.2.1.block _ (row_lt h)).trans h, ha.1, World.ownsRow_nil _ _ _ _⟩
theorem RlJ.refd {wr : World} {b0 : Nat} {av : Value} {ref : Bool} {p a2 p2 : Int} (h : wr.heap[b0 + 3]? = some (.cells #[av, .slice none 0 0, .int .i64 0, .int .i64 p] 85 (0, 0))) : RlJ wr b0 wr.heap.size av (.slice none 0 0) ref a2 p2 [] ((wr.setCell ⟨b0 + 3, 3, none⟩ (.int .i64 p2)).alloc (.cells #[.slice none 0 0, .bool ref, .int .i64 a2] 118 (0, 0))) := by
 have ha := al0 (wr.setCell ⟨b0 + 3, 3, none⟩ (.int .i64 p2)) (.cells #[.slice none 0 0, .bool ref, .int .i64 a2] 118 (0, 0))
 have hs : (wr.setCell ⟨b0 + 3, 3, none⟩ (.int .i64 p2)).heap.size = wr.heap.size := by simp
 have hl := row_lt h
 refine ⟨rfl, rfl, rfl, by rw [ha.2.2]; omega, fun q hq hne => (ha.2.1.block q (by omega)).trans (heap_setCell_other _ _ _ _ hne), (ha.2.1.block _ (by omega)).trans (heap_setCell_same _ _ 3 _ _ _ h), ?_, World.ownsRow_nil _ _ _ _⟩
 have h1 := ha.1
 rw [hs] at h1
 exact h1
theorem RlJ.next {wr w w7 : World} {b0 Ta : Nat} {av pv v7 : Value} {ref : Bool} {at_ p x y : Int} {xs : List (Int × Int)} (h : RlJ wr b0 Ta av pv ref at_ p xs w) (hb : b0 + 3 < Ta) (hgr : (w.alloc (.cells #[.int .i64 x, .int .i64 y] 119 (0, 0))).grownBy w7 pv.ownBlock) (hown : w7.ownsRow (Ta + 1) 119 2 v7 (xs.length + 1) (plC xs ++ [.int .i64 x, .int .i64 y])) :
 RlJ wr b0 Ta av v7 ref at_ p (xs ++ [(x, y)]) (w7.setCell ⟨Ta, 0, none⟩ v7) := by
 have ha := al0 w (.cells #[.int .i64 x, .int .i64 y] 119 (0, 0))
 have hz7 := hgr.size
 have hz := h.size
 have hne : ∀ q, q ≤ Ta → some q ≠ pv.ownBlock := fun q hq e => by have := (World.ownsRow.lt h.pl q e.symm).1; omega
 have hblk : ∀ q, q ≤ Ta → w7.heap[q]? = w.heap[q]? := fun q hq => (hgr.block q (by rw [ha.2.2]; omega) (hne q hq)).trans (ha.2.1.block q (by omega))
 refine ⟨hgr.os.trans (ha.2.1.os.trans h.os), hgr.tape.trans (ha.2.1.tape.trans h.tape), hgr.output.trans (ha.2.1.output.trans h.output), ?_, fun q h1 h2 => (heap_setCell_other _ _ _ _ (by show q ≠ Ta; omega)).trans ((hblk q (by omega)).trans (h.oth q h1 h2)), (heap_setCell_other _ _ _ _ (by show b0 + 3 ≠ Ta; omega)).trans ((hblk _ (by omega)).trans h.lrow), heap_setCell_same _ _ 0 _ _ _ ((hblk Ta (Nat.le_refl _)).trans h.arow), ?_⟩
 ·
  have e : (w7.setCell ⟨Ta, 0, none⟩ v7).heap.size = w7.heap.size := by simp
  omega
 ·
  unfold PlO
  rw [plC_snoc, show (xs ++ [(x, y)]).length = xs.length + 1 by simp]
  exact ownsRow_setCell_below hown (a := ⟨Ta, 0, none⟩) (by show Ta < Ta + 1; omega) v7
theorem gb_undrew {w w' : World} {o : Option Nat} (h : w.drew.grownBy w' o) : w.grownBy w' o := ⟨h.os, h.tape, h.output, h.size, h.block⟩
theorem own_rlj {w0 w : World} {b0 Ta : Nat} {av pv : Value} {ref : Bool} {at_ p : Int} {xs : List (Int × Int)} (h : RlJ w0 b0 Ta av pv ref at_ p xs w) (hT : Ta = w0.heap.size) {B n size : Nat} {e : TypeId} {v : Value} {ys : List Value} (ho : w0.ownsRow B e size v n ys) (hB : b0 + 4 ≤ B) : w.ownsRow B e size v n ys := by
 obtain ⟨h1, h2 | ⟨g, cap, cur, e1, e2, e3, e4⟩⟩ := ho
 ·
  exact ⟨h1, Or.inl h2⟩
 ·
  exact ⟨h1, Or.inr ⟨g, cap, cur, e1, e2, (h.oth g (by rw [hT]; exact row_lt e3) (by omega)).trans e3, e4⟩⟩
theorem RlI.next {W w0 w w7 : World} {b0 Ta k : Nat} {T : TbE} {ps : List Int} {av pv v7 : Value} {pvs : List Value} {ref : Bool} {at_ p : Int} {xs : List (Int × Int)} (hI : RlI W b0 T ps k av pvs w0) (hJ : RlJ w0 b0 Ta av pv ref at_ p xs w) (hT : Ta = w0.heap.size) (hz : b0 + 4 ≤ Ta) (hsp : sptA T.ag T.br T.pairs ps T.sh k = ⟨xs, ref, at_⟩) (hp : p = (stA T.ag.length T.br T.pairs ps T.sh (k + 1)).p)
 (hgr : (w.alloc (.cells #[pv, .bool ref, .int .i64 at_] 118 (0, 0))).grownBy w7 av.ownBlock) (hown : w7.ownsRow (b0 + 4) 118 3 v7 (k + 1) (spsC pvs ((List.range k).map (sptA T.ag T.br T.pairs ps T.sh)) ++ [pv, .bool ref, .int .i64 at_])) :
 RlI W b0 T ps (k + 1) v7 (pvs ++ [pv]) (w7.setCell ⟨b0 + 3, 0, none⟩ v7) := by
 have ha := al0 w (.cells #[pv, .bool ref, .int .i64 at_] 118 (0, 0))
 have hz7 := hgr.size
 have hzw := hJ.size
 have hlow := hI.low.size
 have how : w.ownsRow (b0 + 4) 118 3 av k (spsC pvs ((List.range k).map (sptA T.ag T.br T.pairs ps T.sh))) := own_rlj hJ hT hI.own (Nat.le_refl _)
 have hne : ∀ q, q < b0 + 4 → some q ≠ av.ownBlock := fun q hq e => by have := (World.ownsRow.lt how q e.symm).1; omega
 have hblk : ∀ q, q < b0 + 4 → w7.heap[q]? = w.heap[q]? := fun q h1 => (hgr.block q (by rw [ha.2.2]; omega) (hne q h1)).trans (ha.2.1.block q (by omega))
 have hP' : ∀ {v : Value} {ys : List (Int × Int)}, PlO w (b0 + 4) v ys → PlO (w7.setCell ⟨b0 + 3, 0, none⟩ v7) (b0 + 4) v ys := fun {v ys} h => PlO_set (PlO_app (w := w.alloc (.cells #[pv, .bool ref, .int .i64 at_] 118 (0, 0))) (World.ownsRow.alloc h _) (World.ownsRow.alloc how _) hgr) (by omega)
 refine ⟨⟨?_, ?_, ?_, ?_, fun q hq => (heap_setCell_other _ _ _ _ (by show q ≠ b0 + 3; omega)).trans ((hblk q (by omega)).trans ((hJ.oth q (by omega) (by omega)).trans (hI.low.block q hq)))⟩, ?_, by simp [hI.len], ?_, fun j hj => ?_⟩
 ·
  exact hgr.os.trans (ha.2.1.os.trans (hJ.os.trans hI.low.os))
 ·
  exact hgr.tape.trans (ha.2.1.tape.trans (hJ.tape.trans hI.low.tape))
 ·
  exact hgr.output.trans (ha.2.1.output.trans (hJ.output.trans hI.low.output))
 ·
  have h : (w7.setCell ⟨b0 + 3, 0, none⟩ v7).heap.size = w7.heap.size := by simp
  omega
 ·
  rw [← hp]
  exact heap_setCell_same _ _ 0 _ _ _ ((hblk (b0 + 3) (by omega)).trans hJ.lrow)
 ·
  rw [map_range_snoc, spsC_snoc _ _ _ _ (by simp [hI.len]), hsp]
  exact ownsRow_setCell_below hown (a := ⟨b0 + 3, 0, none⟩) (by show b0 + 3 < b0 + 4; omega) v7
 ·
  rw [getD_snoc _ _ _ _ (by rw [hI.len]; exact hj)]
  split
  ·
   rename_i h
   rw [hI.len] at h
   exact hP' (own_rlj hJ hT (hI.each j h) (Nat.le_refl _))
  ·
   rename_i h
   rw [hI.len] at h
   obtain rfl : j = k := by omega
   rw [hsp]
   exact hP' (PlO_mono hJ.pl (by omega))
/-- A piece of code that is left by one exit alone. -/
def OnlyX (id : Nat) (X : Act → World → Prop) : Exit → Act → World → Prop
 | .exit n, a, w => n = id ∧ X a w
 | _, _, _ => False
theorem onlyX_wp {P : Program} {c : Code} {id : Nat} {Q0 : Exit → Act → World → Prop} {a : Act} {w : World} (h : c.wp P (OnlyX id fun a w => Q0 (.exit id) a w) a w) : c.wp P Q0 a w := wp_mono h (fun e a w hq => by
 cases e with
 | exit n => obtain ⟨rfl, hx⟩ := hq; exact hx
 | normal => exact hq.elim
 | goto l => exact hq.elim
 | ret => exact hq.elim
 | panic c => exact hq.elim
 | outgrown => exact hq.elim)
def loopsL : Code → List Code
 | .loop c => .loop c :: loopsL c
 | .seq a b => loopsL a ++ loopsL b
 | .block _ c => loopsL c
 | .scope c => loopsL c
 | .cond _ a b => loopsL a ++ loopsL b
 | _ => []
def layLoop (f : Func) (n : Nat) : Code := (((f.body.map loopsL).getD [])[n]?).getD .skip
theorem plo_form {w : World} {B : Nat} {v : Value} {xs : List (Int × Int)} (h : PlO w B v xs) : ∃ p c, v = .slice p xs.length c := by
 rcases h.2 with ⟨e, e0⟩ | ⟨g, cap, cur, e, -⟩
 ·
  exact ⟨none, 0, by rw [e0]; exact e⟩
 ·
  exact ⟨_, _, e⟩
/-- The results' loop: the layout's row stands at b0 + 3, with so many places. -/
structure RlK (wr : World) (b0 Tb : Nat) (av rv : Value) (p : Int) (xs : List (Int × Int)) (w : World) : Prop where
 os : w.os = wr.os
 tape : w.tape = wr.tape
 output : w.output = wr.output
 size : Tb ≤ w.heap.size
 oth : ∀ q, q < Tb → q ≠ b0 + 3 → w.heap[q]? = wr.heap[q]?
 lrow : w.heap[b0 + 3]? = some (.cells #[av, rv, .int .i64 0, .int .i64 p] 85 (0, 0))
 pl : PlO w Tb rv xs
theorem RlK.first {wr : World} {b0 Tb : Nat} {av : Value} {p : Int} (hT : Tb = wr.heap.size) (h : wr.heap[b0 + 3]? = some (.cells #[av, .slice none 0 0, .int .i64 0, .int .i64 p] 85 (0, 0))) : RlK wr b0 Tb av (.slice none 0 0) p [] wr :=
 ⟨rfl, rfl, rfl, Nat.le_of_eq hT, fun _ _ _ => rfl, h, World.ownsRow_nil _ _ _ _⟩
theorem RlK.next {wr w w7 : World} {b0 Tb : Nat} {av rv v7 : Value} {p x y : Int} {xs : List (Int × Int)} (h : RlK wr b0 Tb av rv p xs w) (hb : b0 + 3 < Tb) (hgr : (w.alloc (.cells #[.int .i64 x, .int .i64 y] 119 (0, 0))).grownBy w7 rv.ownBlock) (hown : w7.ownsRow Tb 119 2 v7 (xs.length + 1) (plC xs ++ [.int .i64 x, .int .i64 y])) :
 RlK wr b0 Tb av v7 p (xs ++ [(x, y)]) (w7.setCell ⟨b0 + 3, 1, none⟩ v7) := by
 have ha := al0 w (.cells #[.int .i64 x, .int .i64 y] 119 (0, 0))
 have hz7 := hgr.size
 have hz := h.size
 have hne : ∀ q, q < Tb → some q ≠ rv.ownBlock := fun q hq e => by have := (World.ownsRow.lt h.pl q e.symm).1; omega
 have hblk : ∀ q, q < Tb → w7.heap[q]? = w.heap[q]? := fun q hq => (hgr.block q (by rw [ha.2.2]; omega) (hne q hq)).trans (ha.2.1.block q (by omega))
 refine ⟨hgr.os.trans (ha.2.1.os.trans h.os), hgr.tape.trans (ha.2.1.tape.trans h.tape), hgr.output.trans (ha.2.1.output.trans h.output), ?_, fun q h1 h2 => (heap_setCell_other _ _ _ _ (by show q ≠ b0 + 3; exact h2)).trans ((hblk q h1).trans (h.oth q h1 h2)), heap_setCell_same _ _ 1 _ _ _ ((hblk (b0 + 3) hb).trans h.lrow), ?_⟩
 ·
  have e : (w7.setCell ⟨b0 + 3, 1, none⟩ v7).heap.size = w7.heap.size := by simp
  omega
 ·
  unfold PlO
  rw [plC_snoc, show (xs ++ [(x, y)]).length = xs.length + 1 by simp]
  exact ownsRow_setCell_below hown (a := ⟨b0 + 3, 1, none⟩) (by show b0 + 3 < Tb; omega) v7
theorem plS_t (ag : List Int) (u1 : Nat) (c : Int) (i : Nat) : plS ag true u1 c i = (ag.getD (u1 + i) 0, 0) := by unfold plS; rfl
theorem plS_f (ag : List Int) (u1 : Nat) (c : Int) (i : Nat) : plS ag false u1 c i = (-1, c + 8 * i) := by unfold plS; rfl
theorem step_parts {L N u1 : Nat} {br zz : Int} {pr rg : Bool} {s : GivS} (hN : N = wdS br zz) (hu : u1 = u1S pr N s.u) (hr : rg = rgS L N u1) : (stepS L br pr zz s).u = (if rg = true then u1 + N else if 1 < N then L else u1) ∧ (stepS L br pr zz s).c = (if rg = true then s.c else s.c + 8 * (N : Int)) := by
 subst hN hu hr
 exact ⟨rfl, rfl⟩
theorem step_pp {L : Nat} {br zz : Int} {pr bref : Bool} {s : GivS} (hb : bref = decide (br < zz)) : (stepS L br pr zz s).p = (if bref = true then s.p + 8 * zz else s.p) := by
 subst hb
 unfold stepS
 simp
theorem spot_parts {ag : List Int} {N u1 : Nat} {br zz : Int} {pr rg bref : Bool} {s : GivS} (hN : N = wdS br zz) (hu : u1 = u1S pr N s.u) (hr : rg = rgS ag.length N u1) (hb : bref = decide (br < zz)) : spotS ag br pr zz s = ⟨(List.range N).map (plS ag rg u1 s.c), bref, if bref = true then s.p else 0⟩ := by
 subst hN hu hr hb
 unfold spotS
 simp
theorem map_len {α : Type} (f : Nat → α) (i : Nat) : ((List.range i).map f).length = i := by simp
end Go.Proofs.YtffemeicclhioaaGreatDoor
