/-
  Own work of the verifier: FrE, FrU, ClJ, ClK, as one text.
-/
import Derived.Test.YtffemeicclhioaaGreatDoorJ20
import Derived.Deep.RegionHeld3
import Derived.Test.YtffemeicclhioaaGreatDoorJ17
import Derived.Laws.CopyOwn
import Derived.Laws.MakeOwn
import Derived.Deep.QuietTactic
import Derived.BigQuiet
namespace Go.Proofs.YtffemeicclhioaaGreatDoor
open Go.RowKit

set_option maxHeartbeats 1000000 in
theorem pushed_c (T : TbE) (w : World) : Calls Tryz.prog 64 #[.agg #[.int .i64 T.r, .int .i64 T.sp, .int .i64 T.lk, .int .i64 T.t0, .int .i64 T.t1, .slice T.pa T.ag.length T.ca, .slice T.pr T.rs.length T.cr, .slice T.ps T.ss.length T.cs, .int .i64 T.al, .int .i64 T.sh, .int .i64 T.br, .bool T.pairs]] w fun e w' => e = .returned (.int .i64 (pshF T)) ∧ Below w.heap.size w w' := by
 have ha := al0 w (.cells #[.int .i64 T.r, .int .i64 T.sp, .int .i64 T.lk, .int .i64 T.t0, .int .i64 T.t1, .slice T.pa T.ag.length T.ca, .slice T.pr T.rs.length T.cr, .slice T.ps T.ss.length T.cs, .int .i64 T.al, .int .i64 T.sh, .int .i64 T.br, .bool T.pairs] 25 (0, 0))
 have HA := Zac ha
 clear ha
 by_cases h : T.lk = -1
 ·
  have z : (T.lk == -1) = true := by simp [h]
  have HP := Zac (show pshF T = 8 by unfold pshF; rw [if_pos h])
  clear h
  go_enter Tryz.func64, Tryz.ntmps64
  go_wp2
  go_ret
  exact ⟨by rw [Zaa HP]; rfl, (Zaa HA).2.1⟩
 ·
  have z : (T.lk == -1) = false := by simp [h]
  have HP := Zac (show pshF T = 0 by unfold pshF; rw [if_neg h])
  clear h
  go_enter Tryz.func64, Tryz.ntmps64
  go_wp2
  go_ret
  exact ⟨by rw [Zaa HP]; rfl, (Zaa HA).2.1⟩
set_option maxHeartbeats 1000000 in
theorem roundUp_c (n a : Int) (w : World) (h0 : 0 ≤ n) (h1 : n ≤ 1000000) (ha : 1 ≤ a) (hb : a ≤ 1000) : Calls Tryz.prog 63 #[.int .i64 n, .int .i64 a] w fun e w' => e = .returned (.int .i64 ((n + a - 1) / a * a)) ∧ w' = w := by
 have hq : Int.tdiv (n + a - 1) a = (n + a - 1) / a := Int.tdiv_eq_ediv_of_nonneg (by omega)
 have hq0 : 0 ≤ (n + a - 1) / a := Int.ediv_nonneg (by omega) (by omega)
 have hqm : (n + a - 1) / a * a ≤ n + a - 1 := Int.ediv_mul_le _ (by omega)
 have hq1 : (n + a - 1) / a ≤ n + a - 1 := Int.ediv_le_self _ (by omega)
 have hqp : 0 ≤ (n + a - 1) / a * a := Int.mul_nonneg hq0 (by omega)
 have hne : (a == 0) = false := by simp; omega
 obtain ⟨d, hd⟩ : ∃ d, d = (n + a - 1) / a := ⟨_, rfl⟩
 rw [← hd] at hq hq0 hqm hq1 hqp ⊢
 clear hd
 go_enter Tryz.func63, Tryz.ntmps63
 go_wp2
 go_ret
 exact ⟨by simp [*], rfl⟩
end Go.Proofs.YtffemeicclhioaaGreatDoor
namespace Go.Proofs.YtffemeicclhioaaGreatDoor
open Go.RowKit

section
variable {P : Program} {ops : Array Oper} {Q : Exit → Act → World → Prop} {md : Region.Mode} {S C1 C2 : World → Prop} {d1 d2 : Nat}
/-- Whatever order is picked; S holds behind each, C1 until d1 has come up, C2 until d2 has. -/
def AnyW (P : Program) (md : Region.Mode) (ops : Array Oper) (Q : Exit → Act → World → Prop) (S C1 C2 : World → Prop) (d1 d2 : Nat) : Nat → Array Bool → Act → World → Prop
 | 0, L, a, w => Region.ready md ops L = [] ∧ Q .normal a w
 | n + 1, L, a, w => (Region.ready md ops L = [] → Q .normal a w) ∧ ∀ i ∈ Region.ready md ops L, wpOp P ops Q i (fun a' w' => (S w' ∧ ((L.setIfInBounds i true).getD d1 true = false → C1 w') ∧ ((L.setIfInBounds i true).getD d2 true = false → C2 w')) ∧ AnyW P md ops Q S C1 C2 d1 d2 n (L.setIfInBounds i true) a' w') a w
theorem anyW_any : ∀ (n : Nat) (L : Array Bool) (a : Act) (w : World), AnyW P md ops Q S C1 C2 d1 d2 n L a w → wpAny P md ops Q n L a w
 | 0, _, _, _, h => h
 | n + 1, _, _, _, h => ⟨h.1, fun i hi => wpOp_mono (fun a' w' h' => anyW_any n _ a' w' h'.2) (h.2 i hi)⟩
theorem ready_un {L : Array Bool} {i : Nat} {o : Oper} {e : Edge} (hr : i ∈ Region.ready md ops L) (ho : ops[i]? = some o) (he : e ∈ o.after) (hb : Region.binds md e = true) (hu : L.getD e.on true = false) : False := by
 obtain ⟨-, o', ho', hall⟩ := mem_ready.1 hr
 rw [ho] at ho'
 injection ho' with ho'
 subst ho'
 have k1 := hall e he hb
 rcases Nat.lt_or_ge e.on L.size with h' | h'
 ·
  simp [h'] at hu k1
  rw [hu] at k1
  cases k1
 ·
  simp [Array.getElem?_eq_none h'] at k1
theorem anyW_first {i : Nat} {oi : Oper} {v : Value} {b1 b2 : Bool} (hi : ops[i]? = some oi) (h1 : i ≠ d1) (h2 : i ≠ d2)
 (w1 : b1 = true → ∃ od, ops[d1]? = some od ∧ ∃ e ∈ od.after, Region.binds md e = true ∧ e.on = i) (w2 : b2 = true → ∃ od, ops[d2]? = some od ∧ ∃ e ∈ od.after, Region.binds md e = true ∧ e.on = i)
 (hsel : ∀ (j : Nat) (o : Oper) cs b, ops[j]? = some o → o.op ≠ .select cs b) (hQ : ∀ c a w, Q (.panic c) (a.put oi.dst v) w → Q (.panic c) a w) :
 ∀ (n : Nat) (L : Array Bool) (a : Act) (w : World), (∀ j oj, ops[j]? = some oj → j ≠ i → L.getD j true = false → (∀ e ∈ oj.after, Region.binds md e = true → e.on ≠ i) → oi.apart ops oj = true) →
  i ∈ Region.ready md ops L → YieldsIf P ops (fun w => S w ∧ (b1 = true → C1 w) ∧ (b2 = true → C2 w)) oi v a → (b1 = true → L.getD d1 true = false) → (b2 = true → L.getD d2 true = false) →
  (S w ∧ (L.getD d1 true = false → C1 w) ∧ (L.getD d2 true = false → C2 w)) → AnyW P md ops Q S C1 C2 d1 d2 n (L.setIfInBounds i true) (a.put oi.dst v) w → AnyW P md ops Q S C1 C2 d1 d2 (n + 1) L a w := by
 have hput : ∀ (L : Array Bool) (w : World), (S w ∧ (L.getD d1 true = false → C1 w) ∧ (L.getD d2 true = false → C2 w)) → (S w ∧ ((L.setIfInBounds i true).getD d1 true = false → C1 w) ∧ ((L.setIfInBounds i true).getD d2 true = false → C2 w)) := fun L w h => by
  rw [getD_set_ne true h1, getD_set_ne true h2]
  exact h
 intro n
 induction n with
 | zero =>
  intro L a w _ hr hy l1 l2 hC H
  refine ⟨fun h => (by rw [h] at hr; cases hr), fun j hj => ?_⟩
  by_cases hji : j = i
  ·
   subst hji
   exact hy.wpOp hi ⟨hC.1, fun h => hC.2.1 (l1 h), fun h => hC.2.2 (l2 h)⟩ ⟨hput L w hC, H⟩
  ·
   have hx := ready_mono hj hji
   rw [H.1] at hx
   cases hx
 | succ n ih =>
  intro L a w hfree hr hy l1 l2 hC H
  refine ⟨fun h => (by rw [h] at hr; cases hr), fun j hj => ?_⟩
  by_cases hji : j = i
  ·
   subst hji
   exact hy.wpOp hi ⟨hC.1, fun h => hC.2.1 (l1 h), fun h => hC.2.2 (l2 h)⟩ ⟨hput L w hC, H⟩
  ·
   have k1 := H.2 j (ready_mono hj hji)
   obtain ⟨hun, oj, hoj, hall⟩ := mem_ready.1 hj
   have hiu := (mem_ready.1 hr).1
   have hnot : ∀ e ∈ oj.after, Region.binds md e = true → e.on ≠ i := fun e he hb hq => ready_un hj hoj he hb (by rw [hq]; exact hiu)
   have hjd : ∀ {b : Bool} {d : Nat}, (b = true → ∃ od, ops[d]? = some od ∧ ∃ e ∈ od.after, Region.binds md e = true ∧ e.on = i) → b = true → j ≠ d := fun {b d} hw hb e => by
    subst e
    obtain ⟨od, ho, e, he, hb', hq⟩ := hw hb
    rw [hoj] at ho
    injection ho with ho
    subst ho
    exact hnot e he hb' hq
   have h2' := wpOp_putIf hoj (hfree j oj hoj hji hun hnot) (fun cs b => hsel i oi cs b hi) (fun cs b => hsel j oj cs b hoj) hQ hy k1
   refine wpOp_mono (fun a' w' h3 => ?_) h2'
   have hC' : S w' ∧ ((L.setIfInBounds j true).getD d1 true = false → C1 w') ∧ ((L.setIfInBounds j true).getD d2 true = false → C2 w') := by
    have hx := h3.2.1
    rw [Array.setIfInBounds_comm _ _ (Ne.symm hji), getD_set_ne true h1, getD_set_ne true h2] at hx
    exact hx
   refine ⟨hC', ih (L.setIfInBounds j true) a' w' (fun k ok hk hki hku hno => ?_) (ready_mono hr (Ne.symm hji)) h3.1 (fun h => by rw [getD_set_ne true (hjd w1 h)]; exact l1 h) (fun h => by rw [getD_set_ne true (hjd w2 h)]; exact l2 h) hC' ?_⟩
   ·
    refine hfree k ok hk hki ?_ hno
    by_cases hjk : j = k
    ·
     subst hjk; exact hun
    ·
     rw [getD_set_ne true hjk] at hku; exact hku
   ·
    rw [Array.setIfInBounds_comm _ _ hji]
    exact h3.2.2
theorem anyW_take {i : Nat} {oi o1 o2 : Oper} {v : Value} (b1 b2 : Bool) {n : Nat} {L : Array Bool} {a : Act} {w : World} (hi : ops[i]? = some oi) (hd1 : ops[d1]? = some o1) (hd2 : ops[d2]? = some o2) (hn : (i != d1 && i != d2) = true)
 (hw1 : (!b1 || o1.after.any fun e => Region.binds md e && e.on == i) = true) (hw2 : (!b2 || o2.after.any fun e => Region.binds md e && e.on == i) = true)
 (hs : Region.noSelect ops = true) (hf : Region.free md ops L i = true) (hr : (Region.ready md ops L).contains i = true) (hL1 : (!b1 || !(L.getD d1 true)) = true) (hL2 : (!b2 || !(L.getD d2 true)) = true)
 (hQ : ∀ c a w, Q (.panic c) (a.put oi.dst v) w → Q (.panic c) a w) (hy : YieldsIf P ops (fun w => S w ∧ (b1 = true → C1 w) ∧ (b2 = true → C2 w)) oi v a) (hC : S w ∧ (L.getD d1 true = false → C1 w) ∧ (L.getD d2 true = false → C2 w))
 (h : AnyW P md ops Q S C1 C2 d1 d2 n (L.setIfInBounds i true) (a.put oi.dst v) w) : AnyW P md ops Q S C1 C2 d1 d2 (n + 1) L a w := by
 have hne : i ≠ d1 ∧ i ≠ d2 := by simpa using hn
 have key : ∀ {b : Bool} {o : Oper}, (!b || o.after.any fun e => Region.binds md e && e.on == i) = true → b = true → ∃ e ∈ o.after, Region.binds md e = true ∧ e.on = i := fun {b o} hw hb => by
  rw [hb] at hw
  rw [Bool.not_true, Bool.false_or] at hw
  obtain ⟨k, hk, hq⟩ := Array.any_eq_true.1 hw
  simp only [Bool.and_eq_true, beq_iff_eq] at hq
  exact ⟨_, Array.getElem_mem hk, hq.1, hq.2⟩
 exact anyW_first hi hne.1 hne.2 (fun hb => ⟨o1, hd1, key hw1 hb⟩) (fun hb => ⟨o2, hd2, key hw2 hb⟩) (Region.noSelect_spec hs) hQ n L a w (Region.free_spec hi hf) (by simpa using hr) hy (fun hb => by rw [hb] at hL1; simpa using hL1) (fun hb => by rw [hb] at hL2; simpa using hL2) hC h
theorem anyW_one {i : Nat} {o : Oper} {n : Nat} {L : Array Bool} {a : Act} {w : World} (hr : Region.ready md ops L = [i]) (ho : ops[i]? = some o)
 (h : ∀ K' : Act → World → Prop, _root_.Go.Shut (∀ a w, (S w ∧ ((L.setIfInBounds i true).getD d1 true = false → C1 w) ∧ ((L.setIfInBounds i true).getD d2 true = false → C2 w)) → AnyW P md ops Q S C1 C2 d1 d2 n (L.setIfInBounds i true) a w → K' a w) → if Region.wanted o (yielded ops a.tmps) = true then Oper.wp P o a w K' Q else K' (a.put o.dst undef) w) : AnyW P md ops Q S C1 C2 d1 d2 (n + 1) L a w := by
 refine ⟨fun h0 => (by rw [hr] at h0; cases h0), fun j hj => ?_⟩
 rw [hr] at hj
 obtain rfl : j = i := by simpa using hj
 exact wpOp_step ho (fun K' hK => h K' (fun a w h1 h2 => hK a w ⟨h1, h2⟩))
theorem anyW_done {L : Array Bool} {a : Act} {w : World} (hr : Region.ready md ops L = []) (h : Q .normal a w) : ∀ n, AnyW P md ops Q S C1 C2 d1 d2 n L a w
 | 0 => ⟨hr, h⟩
 | _ + 1 => ⟨fun _ => h, by rw [hr]; simp⟩
theorem wp_region_W {id : Nat} {a : Act} {w : World} (hm : P.follows .mixedOrders = true) (h : AnyW P .any ops Q S C1 C2 d1 d2 ops.size (Array.replicate ops.size false) a w.drew) : (Code.region id ops true).wp P Q a w :=
 wp_region_any hm (anyW_any _ _ _ _ h)
end
end Go.Proofs.YtffemeicclhioaaGreatDoor
namespace Go.Proofs.YtffemeicclhioaaGreatDoor
open Go.RowKit

set_option maxHeartbeats 2000000 in
set_option maxRecDepth 100000 in
theorem ints_l (ns : List Int) (va vb : Value) (w : World) (ha : Li w va ns) (hb : Li w vb ns) : Calls Tryz.prog 16 #[va, vb] w fun x w' => x = .returned (.bool true) ∧ Below w.heap.size w w' := by
 obtain ⟨pa, ca, rfl, -, hn, hca⟩ := ha
 obtain ⟨pb, cb, rfl, -, -, hcb⟩ := hb
 have hn' : ns.length < 9223372036854775808 := hn
 have hne : ((ns.length : Int) != (ns.length : Int)) = false := by simp
 have HA := Zac hca
 have HB := Zac hcb
 clear hca hcb hn
 go_enter Tryz.func16, Tryz.ntmps16
 go_wp2
 go_loopw [13] (fun j w' => ∃ (k m : Nat), j = .int .i64 k ∧ k ≤ ns.length ∧ w' = w.drewN m) (fun j _ => ns.length - (intOf j).toNat)
 case atStart => exact ⟨0, 0, rfl, by omega, rfl⟩
 case round =>
  obtain ⟨k, m, rfl, hk, hw⟩ := hrel
  subst hw
  by_cases hlt : k < ns.length
  ·
   obtain ⟨sa, oa, e1, hca⟩ := Zaa HA (by omega)
   obtain ⟨sb, ob, e2, hcb⟩ := Zaa HB (by omega)
   subst e1 e2
   have c1 := hca k hlt
   have c2 := hcb k hlt
   have hxx : (ns.getD k 0 != ns.getD k 0) = false := by simp
   clear hca hcb
   generalize ns.getD k 0 = x at c1 c2 hxx
   go_wp2
   go_quiet (fail)
   go_wp2
   go_roundw
   case rel => exact ⟨k + 1, _, by go_num, by omega, rfl⟩
   case measure => simp [intOf]; omega
  ·
   obtain rfl : k = ns.length := by omega
   go_wp2
   go_ret
   exact ⟨rfl, ⟨rfl, rfl, rfl, Nat.le_refl _, fun _ _ => rfl⟩⟩
end Go.Proofs.YtffemeicclhioaaGreatDoor
namespace Go.Proofs.YtffemeicclhioaaGreatDoor
open Go.RowKit

theorem own_len {w : World} {B e size n : Nat} {v : Value} {xs : List Value} (h : w.ownsRow B e size v n xs) : n < 9223372036854775808 := by
 rcases h.2 with ⟨-, e0⟩ | ⟨g, cap, cur, e, -, -, h1, h2, -⟩
 ·
  omega
 ·
  unfold maxLen at h2; omega
theorem own_some {w : World} {B e size n : Nat} {v : Value} {xs : List Value} (h : w.ownsRow B e size v n xs) (hn : 0 < n) : ∃ g c, v = .slice (some ⟨g, 0, none⟩) n c ∧ B ≤ g ∧ g < w.heap.size ∧ ∀ j, j < n * size → w.cell? ⟨g, j, none⟩ = xs[j]? := by
 rcases h.2 with ⟨-, e0⟩ | ⟨g, cap, cur, e, h2, h3, -⟩
 ·
  omega
 ·
  subst e
  exact ⟨g, cap, rfl, h2, row_lt h3, fun j hj => h.cellAt j hj⟩
theorem PlO.below {w w' : World} {B : Nat} {v : Value} {xs : List (Int × Int)} (h : PlO w B v xs) (hb : Below w.heap.size w w') : PlO w' B v xs := own_gb h (gb_ofB (o := none) hb) (fun g _ e => by cases e)
theorem PlO.heap {w w' : World} {B : Nat} {v : Value} {xs : List (Int × Int)} (h : PlO w B v xs) (e : w'.heap = w.heap) : PlO w' B v xs := by
 unfold PlO World.ownsRow at h ⊢
 rw [e]
 exact h
end Go.Proofs.YtffemeicclhioaaGreatDoor
