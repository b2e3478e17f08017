/-
 Checks: program.Check. Own work of the verifier.
-/
import Derived.Test.YtffemeicclhioaaGreatDoorPk
import Derived.Test.YtffemeicclhioaaGreatDoorJ11
namespace Go.Proofs.YtffemeicclhioaaGreatDoor
open Go.RowKit

/-- An error, and what it tells. -/
def ErrOf (w : World) (v : Value) (x : FltE) : Prop := (v = .nilIface ∧ x = ⟨0, -1, -1, -1⟩) ∨ (∃ n, n ≠ 0 ∧ v = .iface 58 (.int .i64 n) ∧ x = ⟨n, -1, -1, -1⟩) ∨ ∃ q, x.e ≠ 0 ∧ v = .iface 61 (.pointer (some ⟨q, 0, none⟩)) ∧ BadAt w q x.e x.f x.b x.a
/-- All that is asked of a table in a world. -/
structure TabC (w : World) (va vr vs : Value) (ag rs ss : List Int) : Prop where
 a : Rs w va ag
 r : Rs w vr rs
 s : Rs w vs ss
 ca : ∀ a n cap, va = .slice a n cap → n ≤ cap
 cr : ∀ a n cap, vr = .slice a n cap → n ≤ cap
 cs : ∀ a n cap, vs = .slice a n cap → n ≤ cap
theorem TabC.below {w w' : World} {va vr vs : Value} {ag rs ss : List Int} (h : TabC w va vr vs ag rs ss) (hb : Below w.heap.size w w') : TabC w' va vr vs ag rs ss := ⟨h.a.below hb, h.r.below hb, h.s.below hb, h.ca, h.cr, h.cs⟩
theorem tabB_regs {r sp lk t0 t1 : Int} {ag rs ss : List Int} {al sh by_ : Int} (h : tabB r sp lk t0 t1 ag rs ss al sh by_ = true) : 4 ≤ r ∧ r ≤ 16 := by
 unfold tabB numsB at h
 simp at h
 omega
/-- What a program that is right ahead of its instructions is like. -/
theorem fitD_of {r : Int} {own : List Int} {p : ProgE} (hc : countsB p = true) (hh : ∀ k, k < p.funcs.length → headB r own (p.funcs.getD k Zaj) = true) (k : Nat) (hk : k < p.funcs.length) : FitD p (p.funcs.getD k Zaj) := by
 have key : ∀ j, j < p.funcs.length → (p.funcs.getD j Zaj).params.length ≤ 8 ∧ (p.funcs.getD j Zaj).results ≤ 4 ∧ numsIn (p.funcs.getD j Zaj).slots 1 8 = true := fun j hj => by
  have h := hh j hj
  unfold headB at h
  simp only [Bool.and_eq_true, decide_eq_true_eq] at h
  obtain ⟨h1, h2, h3, h4, h5, h6, -⟩ := h
  unfold sigB inB at h2
  simp only [Bool.and_eq_true, decide_eq_true_eq] at h2
  exact ⟨h1, h2.2.1.2, h6⟩
 refine ⟨(key k hk).2.2, fun j hj => ⟨(key j hj).1, (key j hj).2.1⟩, fun j hj => ?_⟩
 unfold countsB at hc
 simp only [Bool.and_eq_true, decide_eq_true_eq] at hc
 have h := upB_get hc.2.2 hj
 unfold sigB inB at h
 simp only [Bool.and_eq_true, decide_eq_true_eq] at h
 exact h.2.1.2
theorem wrongB_no {p : ProgE} {f : FuncE} (h : bodyB p f = true) : wrongB p f = (-1, -1) := by
 unfold wrongB
 rw [firstN_none (fun q hq => upB_get h hq)]
theorem wrongB_ge {p : ProgE} {f : FuncE} (h : bodyB p f = false) : 0 ≤ (wrongB p f).1 := by
 unfold wrongB
 cases hf : firstN f.blocks.length (blkB p f) with
 | some k => simp
 | none =>
  exfalso
  have : bodyB p f = true := upB_true fun k hk => by
   unfold firstN at hf
   rw [List.find?_eq_none] at hf
   have := hf k (List.mem_range.2 hk)
   simpa using this
  rw [this] at h
  cases h
def NumP (p : ProgE) : Prop := ∀ k, NumF (p.funcs.getD k Zaj)
set_option maxHeartbeats 8000000 in
set_option maxRecDepth 100000 in
theorem checkP_c (r sp lk t0 t1 : Int) (va vr vs : Value) (al sh by_ : Int) (pr : Bool) (ag rs ss : List Int) (p : ProgE) (fv ev : Value) (A E : Nat → Array Value) (w : World) (hT : TabC w va vr vs ag rs ss) (hP : ProgC w fv ev p A E) (hnn : NumP p) (hN : NeedsAt w) (h1w : 1 < w.heap.size) :
 Calls Tryz.prog 28 #[.agg (boxOf r sp lk t0 t1 va vr vs al sh by_ pr), .agg #[fv, ev]] w fun e w' => ∃ v, e = .returned v ∧ ErrOf w' v (chkB (tabB r sp lk t0 t1 ag rs ss al sh by_) r (ownL sp lk t0 t1) p) ∧ Below w.heap.size w w' := by
 have hx := al0 w (.cells (boxOf r sp lk t0 t1 va vr vs al sh by_ pr) 25 (0, 0))
 generalize hW1 : World.alloc w (.cells (boxOf r sp lk t0 t1 va vr vs al sh by_ pr) 25 (0, 0)) = W1 at hx
 have hx2 := al0 W1 (.cells #[fv, ev] 29 (0, 0))
 have hs1 := hx.2.2
 have hs2 := hx2.2.2
 have hb12 := Zad hx.2.1 hx2.2.1 (by omega)
 have HT := Zac (hT.below hb12)
 have HP := Zac (hP.below hb12)
 have HNA := Zac (hN.keep hb12)
 have HW := Zac hb12
 have HR1 := Zac ((hx2.2.1.block w.heap.size (by omega)).trans hx.1)
 have hr2 := hx2.1
 rw [hs1] at hr2 hs2
 have HR2 := Zac hr2
 have HZ := Zac hs2
 have HNN := Zac hnn
 have H1W := Zac h1w
 have hl4 : p.funcs.length < 9223372036854775808 := by obtain ⟨_, _, _, _, h, _⟩ := hP.fs; exact h
 obtain ⟨pf, cf, rfl⟩ := hP.fs.shape
 obtain ⟨pe, ce, rfl⟩ := hP.es.shape
 obtain ⟨pva, cva, rfl⟩ := hT.a.shape
 obtain ⟨pvr, cvr, rfl⟩ := hT.r.shape
 obtain ⟨pvs, cvs, rfl⟩ := hT.s.shape
 clear hx hx2 hs1 hs2 hb12 hr2 hT hP hnn hN h1w
 subst hW1
 unfold boxOf at HR1 ⊢
 go_enter Tryz.func28, Tryz.ntmps28
 go_wp2_with fail
 unfold boxOf at HW HT HP HNA HR2 HZ
 generalize World.alloc (World.alloc w _) _ = W at HT HP HNA HW HR1 HR2 HZ ⊢
 refine (check_c r sp lk t0 t1 _ _ _ al sh by_ pr ag rs ss W (Zaa HT).a (Zaa HT).r (Zaa HT).s (Zaa HT).ca (Zaa HT).cr (Zaa HT).cs).mono ?_
 rintro e w2 ⟨rfl, hb⟩
 have HB2 := Zac hb
 have hz := Zaa HZ
 have hrp := (hb.block (w.heap.size + 1) (by omega)).trans (Zaa HR2)
 have p0 := (Zab hrp 0).trans rfl
 have p1 := (Zab hrp 1).trans rfl
 clear hb hrp hz
 cases htb : tabB r sp lk t0 t1 ag rs ss al sh by_ with
 | false =>
  have hc := Zac (show chkB (tabB r sp lk t0 t1 ag rs ss al sh by_) r (ownL sp lk t0 t1) p = ⟨2, -1, -1, -1⟩ by rw [htb]; rfl)
  clear htb
  unfold chkV
  go_wp2
  go_ret
  exact ⟨_, rfl, by rw [Zaa hc]; exact Or.inr (Or.inl ⟨2, by decide, rfl, rfl⟩), Zad (Zaa HW) (Zaa HB2) (by have := Zaa HZ; omega)⟩
 | true =>
  have HR := Zac (tabB_regs htb)
  have HTB := Zac htb
  clear htb
  unfold chkV
  go_wp2_with fail
  refine (countsFit_c p _ _ A E w2 ((Zaa HP).below (Zaa HB2))).mono ?_
  rintro e w3 ⟨rfl, hb⟩
  have HB3 := Zac (Zad (Zaa HB2) hb (Zaa HB2).size)
  have hz := Zaa HZ
  have hrp := ((Zaa HB3).block (w.heap.size + 1) (by omega)).trans (Zaa HR2)
  clear p0 p1
  have p0 := (Zab hrp 0).trans rfl
  have p1 := (Zab hrp 1).trans rfl
  clear hb hrp hz
  cases hcb : countsB p with
  | false =>
   have hc := Zac (show chkB (tabB r sp lk t0 t1 ag rs ss al sh by_) r (ownL sp lk t0 t1) p = ⟨5, -1, -1, -1⟩ by rw [Zaa HTB]; unfold chkB; rw [hcb]; rfl)
   clear hcb
   go_wp2
   go_ret
   exact ⟨_, rfl, by rw [Zaa hc]; exact Or.inr (Or.inl ⟨5, by decide, rfl, rfl⟩), Zad (Zaa HW) (Zaa HB3) (by have := Zaa HZ; omega)⟩
  | true =>
   have HCB := Zac hcb
   clear hcb
   go_wp2_with fail
   go_loopw [22] (fun j w' => ∃ k : Nat, j = .int .i64 k ∧ k ≤ p.funcs.length ∧ Below W.heap.size W w' ∧ ∀ q, q < k → headB r (ownL sp lk t0 t1) (p.funcs.getD q Zaj) = true) (fun j _ => p.funcs.length - (intOf j).toNat)
   case atStart => exact ⟨0, rfl, by omega, Zaa HB3, fun q hq => by omega⟩
   case round =>
    obtain ⟨k, rfl, hk, hbw, hno⟩ := hrel
    have HNO := Zac hno
    clear hno p0 p1
    by_cases hk2 : k < p.funcs.length
    ·
     obtain ⟨p', cap', he, -, hcc⟩ := (Zaa HP).fs.fives
     injection he with e1 e2 e3
     subst e1 e3
     obtain ⟨sb, so, rfl, hslt, hcel⟩ := hcc (by omega)
     have hfc := (Zaa HP).feach k hk2
     have hgd : p.funcs[k] = p.funcs.getD k Zaj := by simp [List.getD, hk2]
     rw [hgd] at hfc
     have HBAD := Zac (fun hb : headB r (ownL sp lk t0 t1) (p.funcs.getD k Zaj) = false => show chkB (tabB r sp lk t0 t1 ag rs ss al sh by_) r (ownL sp lk t0 t1) p = ⟨5, k, -1, -1⟩ by rw [Zaa HTB]; unfold chkB; rw [Zaa HCB, firstN_some (ok := fun k => headB r (ownL sp lk t0 t1) (p.funcs.getD k Zaj)) (Zaa HNO) hk2 hb]; rfl)
     have HNX := Zac (fun hb : headB r (ownL sp lk t0 t1) (p.funcs.getD k Zaj) = true => Zal (q := fun q => headB r (ownL sp lk t0 t1) (p.funcs.getD q Zaj)) (Zaa HNO) hb)
     generalize p.funcs.getD k Zaj = f at hfc HBAD HNX
     obtain ⟨gv, hv, sv, bv, B, hA, hfd⟩ := hfc
     have HFD := Zac hfd
     obtain ⟨gp, gc, rfl⟩ := hfd.ps.shape
     obtain ⟨hp, hc, rfl⟩ := hfd.hs.shape
     obtain ⟨xp, xc, rfl⟩ := hfd.ss.shape
     obtain ⟨yp, yc, rfl⟩ := hfd.bs.shape
     have hck := hcel k hk2
     rw [hA] at hck
     have k0 := (hbw.cell hslt).trans (hck 0 _ rfl)
     have k1 := (hbw.cell hslt).trans (hck 1 _ rfl)
     have k2 := (hbw.cell hslt).trans (hck 2 _ rfl)
     have k3 := (hbw.cell hslt).trans (hck 3 _ rfl)
     have k4 := (hbw.cell hslt).trans (hck 4 _ rfl)
     rw [Nat.add_zero] at k0
     have hsU : sb < wr.heap.size := Nat.lt_of_lt_of_le hslt hbw.size
     have hz := Zaa HZ
     have hrB := (hbw.block w.heap.size (by omega)).trans (Zaa HR1)
     have hrP := (hbw.block (w.heap.size + 1) (by omega)).trans (Zaa HR2)
     have hws := hbw.size
     have HK := Zac (fun (V : World) (h : Below wr.heap.size wr V) => show Below wr.heap.size wr V ∧ V.cell? ⟨w.heap.size, 0, none⟩ = some (.int .i64 r) ∧ V.cell? ⟨w.heap.size, 1, none⟩ = some (.int .i64 sp) ∧ V.cell? ⟨w.heap.size, 2, none⟩ = some (.int .i64 lk) ∧ V.cell? ⟨w.heap.size, 3, none⟩ = some (.int .i64 t0) ∧ V.cell? ⟨w.heap.size, 4, none⟩ = some (.int .i64 t1) ∧ V.cell? ⟨w.heap.size, 5, none⟩ = some (.slice pva ag.length cva) ∧ V.cell? ⟨w.heap.size, 6, none⟩ = some (.slice pvr rs.length cvr) ∧ V.cell? ⟨w.heap.size, 7, none⟩ = some (.slice pvs ss.length cvs) ∧ V.cell? ⟨w.heap.size, 8, none⟩ = some (.int .i64 al) ∧ V.cell? ⟨w.heap.size, 9, none⟩ = some (.int .i64 sh) ∧ V.cell? ⟨w.heap.size, 10, none⟩ = some (.int .i64 by_) ∧ V.cell? ⟨w.heap.size, 11, none⟩ = some (.bool pr) ∧ V.cell? ⟨w.heap.size + 1, 0, none⟩ = some (.slice (some ⟨sb, so, none⟩) p.funcs.length cf) ∧ V.cell? ⟨w.heap.size + 1, 1, none⟩ = some (.slice pe p.externs.length ce) ∧ V.cell? ⟨sb, so + k * 5, none⟩ = some (.slice gp f.params.length gc) ∧ V.cell? ⟨sb, so + k * 5 + 1, none⟩ = some (.int .i64 f.results) ∧ V.cell? ⟨sb, so + k * 5 + 2, none⟩ = some (.slice hp f.homes.length hc) ∧ V.cell? ⟨sb, so + k * 5 + 3, none⟩ = some (.slice xp f.slots.length xc) ∧ V.cell? ⟨sb, so + k * 5 + 4, none⟩ = some (.slice yp f.blocks.length yc) from ⟨h, (Zab ((h.block w.heap.size (by omega)).trans hrB) 0).trans rfl, (Zab ((h.block w.heap.size (by omega)).trans hrB) 1).trans rfl, (Zab ((h.block w.heap.size (by omega)).trans hrB) 2).trans rfl, (Zab ((h.block w.heap.size (by omega)).trans hrB) 3).trans rfl, (Zab ((h.block w.heap.size (by omega)).trans hrB) 4).trans rfl, (Zab ((h.block w.heap.size (by omega)).trans hrB) 5).trans rfl, (Zab ((h.block w.heap.size (by omega)).trans hrB) 6).trans rfl, (Zab ((h.block w.heap.size (by omega)).trans hrB) 7).trans rfl, (Zab ((h.block w.heap.size (by omega)).trans hrB) 8).trans rfl, (Zab ((h.block w.heap.size (by omega)).trans hrB) 9).trans rfl, (Zab ((h.block w.heap.size (by omega)).trans hrB) 10).trans rfl, (Zab ((h.block w.heap.size (by omega)).trans hrB) 11).trans rfl, (Zab ((h.block (w.heap.size + 1) (by omega)).trans hrP) 0).trans rfl, (Zab ((h.block (w.heap.size + 1) (by omega)).trans hrP) 1).trans rfl, (h.cell hsU).trans k0, (h.cell hsU).trans k1, (h.cell hsU).trans k2, (h.cell hsU).trans k3, (h.cell hsU).trans k4⟩)
     have HK0 := Zac (Zaa HK wr.drew (Below.refl wr.heap.size wr).drew)
     have HBW := Zac hbw
     have HWD := Zac (Zad hbw (Below.refl wr.heap.size wr).drew hws)
     have HHF := Zac (headFits_c r sp lk t0 t1 (.slice pva ag.length cva) (.slice pvr rs.length cvr) (.slice pvs ss.length cvs) al sh by_ pr f (.slice gp f.params.length gc) (.slice hp f.homes.length hc) (.slice xp f.slots.length xc) (.slice yp f.blocks.length yc) B wr.drew (Zaa HR) ((Zaa HFD).below (Zaa HWD)))
     unfold boxOf at HHF
     clear hfd hck hcc hcel hA hgd hbw e2 hz hrB hrP k0 k1 k2 k3 k4
     go_wp2_with fail
     refine wp_region_held_drew (S := fun V => Below wr.heap.size wr V ∧ V.cell? ⟨w.heap.size, 0, none⟩ = some (.int .i64 r) ∧ V.cell? ⟨w.heap.size, 1, none⟩ = some (.int .i64 sp) ∧ V.cell? ⟨w.heap.size, 2, none⟩ = some (.int .i64 lk) ∧ V.cell? ⟨w.heap.size, 3, none⟩ = some (.int .i64 t0) ∧ V.cell? ⟨w.heap.size, 4, none⟩ = some (.int .i64 t1) ∧ V.cell? ⟨w.heap.size, 5, none⟩ = some (.slice pva ag.length cva) ∧ V.cell? ⟨w.heap.size, 6, none⟩ = some (.slice pvr rs.length cvr) ∧ V.cell? ⟨w.heap.size, 7, none⟩ = some (.slice pvs ss.length cvs) ∧ V.cell? ⟨w.heap.size, 8, none⟩ = some (.int .i64 al) ∧ V.cell? ⟨w.heap.size, 9, none⟩ = some (.int .i64 sh) ∧ V.cell? ⟨w.heap.size, 10, none⟩ = some (.int .i64 by_) ∧ V.cell? ⟨w.heap.size, 11, none⟩ = some (.bool pr) ∧ V.cell? ⟨w.heap.size + 1, 0, none⟩ = some (.slice (some ⟨sb, so, none⟩) p.funcs.length cf) ∧ V.cell? ⟨w.heap.size + 1, 1, none⟩ = some (.slice pe p.externs.length ce) ∧ V.cell? ⟨sb, so + k * 5, none⟩ = some (.slice gp f.params.length gc) ∧ V.cell? ⟨sb, so + k * 5 + 1, none⟩ = some (.int .i64 f.results) ∧ V.cell? ⟨sb, so + k * 5 + 2, none⟩ = some (.slice hp f.homes.length hc) ∧ V.cell? ⟨sb, so + k * 5 + 3, none⟩ = some (.slice xp f.slots.length xc) ∧ V.cell? ⟨sb, so + k * 5 + 4, none⟩ = some (.slice yp f.blocks.length yc)) (by kernel_rfl) (Zaa HK0) (fun hHeld => ?_)
     refine tT 0 ?v0 rfl (by kernel_rfl) (fun _ _ _ h => h) (by rfl) ?hy0 (by assumption) ?_
     case hy0 =>
      intro V hV
      try dsimp only at hV
      go_simp
      all_goals (with_reducible rfl)
     simp only [Act.put, zA, zB, zC, zD, zE]
     refine tT 1 ?v1 rfl (by kernel_rfl) (fun _ _ _ h => h) (by rfl) ?hy1 (by assumption) ?_
     case hy1 =>
      intro V hV
      try dsimp only at hV
      go_simp
      all_goals (with_reducible rfl)
     simp only [Act.put, zA, zB, zC, zD, zE, zF]
     refine tT 2 ?v2 rfl (by kernel_rfl) (fun _ _ _ h => h) (by rfl) ?hy2 (by assumption) ?_
     case hy2 =>
      intro V hV
      try dsimp only at hV
      go_simp
      all_goals (with_reducible rfl)
     simp only [Act.put, zA, zB, zC, zD, zE, zF]
     refine tT 3 ?v3 rfl (by kernel_rfl) (fun _ _ _ h => h) (by rfl) ?hy3 (by assumption) ?_
     case hy3 =>
      intro V hV
      try dsimp only at hV
      go_simp
      all_goals (with_reducible rfl)
     simp only [Act.put, zA, zB, zC, zD, zE, zF]
     refine tT 4 ?v4 rfl (by kernel_rfl) (fun _ _ _ h => h) (by rfl) ?hy4 (by assumption) ?_
     case hy4 =>
      intro V hV
      try dsimp only at hV
      go_simp
      all_goals (with_reducible rfl)
     simp only [Act.put, zA, zB, zC, zD, zE, zF]
     refine tT 5 ?v5 rfl (by kernel_rfl) (fun _ _ _ h => h) (by rfl) ?hy5 (by assumption) ?_
     case hy5 =>
      intro V hV
      try dsimp only at hV
      go_simp
      all_goals (with_reducible rfl)
     simp only [Act.put, zA, zB, zC, zD, zE, zF]
     refine wpAnyH_ready (rs := [6]) (by kernel_rfl) (by simp) ?_
     refine AllReadyH.cons rfl (fun K hK => ?_) AllReadyH.nil
     go_simp
     refine (Zaa HHF).mono ?_
     rintro e w5 ⟨rfl, hb5⟩
     have HB5 := Zac (Zad (Below.refl wr.heap.size wr).drew hb5 (Nat.le_refl _))
     have HB6 := Zac (Zad (Zaa HWD) hb5 (by have := (Zaa HWD).size; omega))
     clear hb5
     go_wp2_with fail
     refine hK.out _ _ (Zaa HK _ (Zaa HB5)) (fun hHeld2 => ?_)
     clear hK K
     try simp only [Act.put, zA, zB, zC, zD, zE, zF]
     refine tT 7 ?v7 rfl (by kernel_rfl) (fun _ _ _ h => h) (by rfl) ?hy7 (by assumption) ?_
     case hy7 =>
      intro V hV
      try dsimp only at hV
      go_simp
      all_goals (with_reducible rfl)
     simp only [Act.put, zA, zB, zC, zD, zE, zF]
     refine wpAnyH_done (by kernel_rfl) ?_ _
     have hz := Zaa HZ
     cases hhb : headB r (ownL sp lk t0 t1) f with
     | false =>
      have hz2 := Zac (Zaa HBAD hhb)
      clear hhb
      go_wp2_with fail
      refine (badIn_c k (-1) (-1) w5).mono ?_
      rintro e w6 ⟨rfl, h6⟩
      subst w6
      have hy := al0 w5 (.cells #[.iface 58 (.int .i64 5), .int .i64 k, .int .i64 (-1), .int .i64 (-1)] 64 (0, 0))
      have HY := Zac hy
      clear hy
      go_wp2
      go_ret
      refine ⟨_, rfl, ?_, Zad (Zad (Zaa HW) (Zaa HB6) (by omega)) (Zaa HY).2.1 (by have := (Zaa HW).size; have := (Zaa HB6).size; omega)⟩
      rw [Zaa hz2]
      exact Or.inr (Or.inr ⟨_, (show (5 : Int) ≠ 0 by decide), rfl, ⟨(Zab (Zaa HY).1 0).trans rfl, (Zab (Zaa HY).1 1).trans rfl, (Zab (Zaa HY).1 2).trans rfl, (Zab (Zaa HY).1 3).trans rfl⟩⟩)
     | true =>
      have hz2 := Zac (Zaa HNX hhb)
      clear hhb
      go_wp2
      go_roundw
      case rel => exact ⟨k + 1, by go_num, by omega, Zaa HB6, Zaa hz2⟩
      case measure => simp [intOf]; omega
    ·
     have HHD := Zac (show ∀ q, q < p.funcs.length → headB r (ownL sp lk t0 t1) (p.funcs.getD q Zaj) = true from fun q hq => Zaa HNO q (by omega))
     obtain rfl : k = p.funcs.length := by omega
     have HBW := Zac hbw
     have hz := Zaa HZ
     have hrp := (hbw.block (w.heap.size + 1) (by omega)).trans (Zaa HR2)
     have p0 := (Zab hrp 0).trans rfl
     clear hbw hrp hz HNO
     go_wp2_with fail
     generalize hwr : wr = V0 at HBW ⊢
     clear hwr p0
     go_loopw [39] (fun j w' => ∃ k : Nat, j = .int .i64 k ∧ k ≤ p.funcs.length ∧ Below W.heap.size W w' ∧ ∀ q, q < k → bodyB p (p.funcs.getD q Zaj) = true) (fun j _ => p.funcs.length - (intOf j).toNat)
     case atStart => exact ⟨0, rfl, by omega, Zaa HBW, fun q hq => by omega⟩
     case round =>
      obtain ⟨k, rfl, hk, hbw, hno⟩ := hrel
      have HNO := Zac hno
      clear hno
      by_cases hk2 : k < p.funcs.length
      ·
       obtain ⟨p', cap', he, -, hcc⟩ := (Zaa HP).fs.fives
       injection he with e1 e2 e3
       subst e1 e3
       obtain ⟨sb, so, rfl, hslt, hcel⟩ := hcc (by omega)
       have hfc := (Zaa HP).feach k hk2
       have hgd : p.funcs[k] = p.funcs.getD k Zaj := by simp [List.getD, hk2]
       rw [hgd] at hfc
       have HCH := Zac (show chkB (tabB r sp lk t0 t1 ag rs ss al sh by_) r (ownL sp lk t0 t1) p = match firstN p.funcs.length (fun k => bodyB p (p.funcs.getD k Zaj)) with | some k => ⟨5, k, (wrongB p (p.funcs.getD k Zaj)).1, (wrongB p (p.funcs.getD k Zaj)).2⟩ | none => ⟨0, -1, -1, -1⟩ by rw [Zaa HTB]; unfold chkB; rw [Zaa HCB, firstN_none (ok := fun k => headB r (ownL sp lk t0 t1) (p.funcs.getD k Zaj)) (Zaa HHD)]; rfl)
       have HBAD := Zac (fun hb : bodyB p (p.funcs.getD k Zaj) = false => show chkB (tabB r sp lk t0 t1 ag rs ss al sh by_) r (ownL sp lk t0 t1) p = ⟨5, k, (wrongB p (p.funcs.getD k Zaj)).1, (wrongB p (p.funcs.getD k Zaj)).2⟩ by rw [Zaa HCH, firstN_some (ok := fun k => bodyB p (p.funcs.getD k Zaj)) (Zaa HNO) hk2 hb])
       have HNX := Zac (fun hb : bodyB p (p.funcs.getD k Zaj) = true => Zal (q := fun q => bodyB p (p.funcs.getD q Zaj)) (Zaa HNO) hb)
       have HFIT := Zac (fitD_of (Zaa HCB) (Zaa HHD) k hk2)
       have HNF := Zac ((Zaa HNN) k)
       generalize p.funcs.getD k Zaj = f at hfc HBAD HNX HFIT HNF
       obtain ⟨gv, hv, sv, bv, B, hA, hfd⟩ := hfc
       have HFD := Zac hfd
       obtain ⟨gp, gc, rfl⟩ := hfd.ps.shape
       obtain ⟨hp, hc, rfl⟩ := hfd.hs.shape
       obtain ⟨xp, xc, rfl⟩ := hfd.ss.shape
       obtain ⟨yp, yc, rfl⟩ := hfd.bs.shape
       have hck := hcel k hk2
       rw [hA] at hck
       have k0 := (hbw.cell hslt).trans (hck 0 _ rfl)
       have k1 := (hbw.cell hslt).trans (hck 1 _ rfl)
       have k2 := (hbw.cell hslt).trans (hck 2 _ rfl)
       have k3 := (hbw.cell hslt).trans (hck 3 _ rfl)
       have k4 := (hbw.cell hslt).trans (hck 4 _ rfl)
       rw [Nat.add_zero] at k0
       have hsU : sb < wr.heap.size := Nat.lt_of_lt_of_le hslt hbw.size
       have hz := Zaa HZ
       have hrB := (hbw.block w.heap.size (by omega)).trans (Zaa HR1)
       have hrP := (hbw.block (w.heap.size + 1) (by omega)).trans (Zaa HR2)
       have hws := hbw.size
       have HK := Zac (fun (V : World) (h : Below wr.heap.size wr V) => show Below wr.heap.size wr V ∧ V.cell? ⟨w.heap.size + 1, 0, none⟩ = some (.slice (some ⟨sb, so, none⟩) p.funcs.length cf) ∧ V.cell? ⟨w.heap.size + 1, 1, none⟩ = some (.slice pe p.externs.length ce) ∧ V.cell? ⟨sb, so + k * 5, none⟩ = some (.slice gp f.params.length gc) ∧ V.cell? ⟨sb, so + k * 5 + 1, none⟩ = some (.int .i64 f.results) ∧ V.cell? ⟨sb, so + k * 5 + 2, none⟩ = some (.slice hp f.homes.length hc) ∧ V.cell? ⟨sb, so + k * 5 + 3, none⟩ = some (.slice xp f.slots.length xc) ∧ V.cell? ⟨sb, so + k * 5 + 4, none⟩ = some (.slice yp f.blocks.length yc) from ⟨h, (Zab ((h.block (w.heap.size + 1) (by omega)).trans hrP) 0).trans rfl, (Zab ((h.block (w.heap.size + 1) (by omega)).trans hrP) 1).trans rfl, (h.cell hsU).trans k0, (h.cell hsU).trans k1, (h.cell hsU).trans k2, (h.cell hsU).trans k3, (h.cell hsU).trans k4⟩)
       have HK0 := Zac (Zaa HK wr.drew (Below.refl wr.heap.size wr).drew)
       have HBW2 := Zac hbw
       have HWD := Zac (Zad hbw (Below.refl wr.heap.size wr).drew hws)
       have HHF := Zac (firstWrong_c p f (.slice (some ⟨sb, so, none⟩) p.funcs.length cf) (.slice pe p.externs.length ce) (.slice gp f.params.length gc) (.slice hp f.homes.length hc) (.slice xp f.slots.length xc) (.slice yp f.blocks.length yc) A E B wr.drew ⟨(Zaa HP).below (Zaa HWD), (Zaa HFD).below (Zaa HWD)⟩ (Zaa HFIT) (Zaa HNF) ((Zaa HNA).keep (Zaa HWD)) (by have h1 := Zaa H1W; have h2 := (Zaa HW).size; have h3 := (Zaa HWD).size; omega))
       clear hfd hck hcc hcel hA hgd hbw e2 hz hrB hrP k0 k1 k2 k3 k4
       generalize hwx : wrongB p f = wx at HHF HBAD
       obtain ⟨wb, wa⟩ := wx
       have HWX := Zac hwx
       clear hwx
       simp only at HHF HBAD
       go_wp2_with fail
       refine wp_region_held_drew (S := fun V => Below wr.heap.size wr V ∧ V.cell? ⟨w.heap.size + 1, 0, none⟩ = some (.slice (some ⟨sb, so, none⟩) p.funcs.length cf) ∧ V.cell? ⟨w.heap.size + 1, 1, none⟩ = some (.slice pe p.externs.length ce) ∧ V.cell? ⟨sb, so + k * 5, none⟩ = some (.slice gp f.params.length gc) ∧ V.cell? ⟨sb, so + k * 5 + 1, none⟩ = some (.int .i64 f.results) ∧ V.cell? ⟨sb, so + k * 5 + 2, none⟩ = some (.slice hp f.homes.length hc) ∧ V.cell? ⟨sb, so + k * 5 + 3, none⟩ = some (.slice xp f.slots.length xc) ∧ V.cell? ⟨sb, so + k * 5 + 4, none⟩ = some (.slice yp f.blocks.length yc)) (by kernel_rfl) (Zaa HK0) (fun hHeld => ?_)
       refine tT 0 ?vb0 rfl (by kernel_rfl) (fun _ _ _ h => h) (by rfl) ?hyb0 (by assumption) ?_
       case hyb0 =>
        intro V hV
        try dsimp only at hV
        go_simp
        all_goals (with_reducible rfl)
       simp only [Act.put, zA, zB, zC, zD, zE]
       refine tT 1 ?vb1 rfl (by kernel_rfl) (fun _ _ _ h => h) (by rfl) ?hyb1 (by assumption) ?_
       case hyb1 =>
        intro V hV
        try dsimp only at hV
        go_simp
        all_goals (with_reducible rfl)
       simp only [Act.put, zA, zB, zC, zD, zE, zF]
       refine tT 2 ?vb2 rfl (by kernel_rfl) (fun _ _ _ h => h) (by rfl) ?hyb2 (by assumption) ?_
       case hyb2 =>
        intro V hV
        try dsimp only at hV
        go_simp
        all_goals (with_reducible rfl)
       simp only [Act.put, zA, zB, zC, zD, zE, zF]
       refine tT 3 ?vb3 rfl (by kernel_rfl) (fun _ _ _ h => h) (by rfl) ?hyb3 (by assumption) ?_
       case hyb3 =>
        intro V hV
        try dsimp only at hV
        go_simp
        all_goals (with_reducible rfl)
       simp only [Act.put, zA, zB, zC, zD, zE, zF]
       refine tT 4 ?vb4 rfl (by kernel_rfl) (fun _ _ _ h => h) (by rfl) ?hyb4 (by assumption) ?_
       case hyb4 =>
        intro V hV
        try dsimp only at hV
        go_simp
        all_goals (with_reducible rfl)
       simp only [Act.put, zA, zB, zC, zD, zE, zF]
       refine tT 5 ?vb5 rfl (by kernel_rfl) (fun _ _ _ h => h) (by rfl) ?hyb5 (by assumption) ?_
       case hyb5 =>
        intro V hV
        try dsimp only at hV
        go_simp
        all_goals (with_reducible rfl)
       simp only [Act.put, zA, zB, zC, zD, zE, zF]
       refine wpAnyH_ready (rs := [6]) (by kernel_rfl) (by simp) ?_
       refine AllReadyH.cons rfl (fun K hK => ?_) AllReadyH.nil
       go_simp
       refine (Zaa HHF).mono ?_
       rintro e w5 ⟨rfl, hb5⟩
       have HB5 := Zac (Zad (Below.refl wr.heap.size wr).drew hb5 (Nat.le_refl _))
       have HB6 := Zac (Zad (Zaa HWD) hb5 (by have := (Zaa HWD).size; omega))
       clear hb5
       go_wp2_with fail
       refine hK.out _ _ (Zaa HK _ (Zaa HB5)) (fun hHeld2 => ?_)
       clear hK K
       try simp only [Act.put, zA, zB, zC, zD, zE, zF]
       refine tT 7 ?vb7 rfl (by kernel_rfl) (fun _ _ _ h => h) (by rfl) ?hyb7 (by assumption) ?_
       case hyb7 =>
        intro V hV
        try dsimp only at hV
        go_simp
        all_goals (with_reducible rfl)
       simp only [Act.put, zA, zB, zC, zD, zE, zF]
       refine tT 8 ?vb8 rfl (by kernel_rfl) (fun _ _ _ h => h) (by rfl) ?hyb8 (by assumption) ?_
       case hyb8 =>
        intro V hV
        try dsimp only at hV
        go_simp
        all_goals (with_reducible rfl)
       simp only [Act.put, zA, zB, zC, zD, zE, zF]
       refine tT 9 ?vb9 rfl (by kernel_rfl) (fun _ _ _ h => h) (by rfl) ?hyb9 (by assumption) ?_
       case hyb9 =>
        intro V hV
        try dsimp only at hV
        go_simp
        all_goals (with_reducible rfl)
       simp only [Act.put, zA, zB, zC, zD, zE, zF]
       refine tT 10 ?vb10 rfl (by kernel_rfl) (fun _ _ _ h => h) (by rfl) ?hyb10 (by assumption) ?_
       case hyb10 =>
        intro V hV
        try dsimp only at hV
        go_simp
        all_goals (with_reducible rfl)
       simp only [Act.put, zA, zB, zC, zD, zE, zF]
       refine tT 11 ?vb11 rfl (by kernel_rfl) (fun _ _ _ h => h) (by rfl) ?hyb11 (by assumption) ?_
       case hyb11 =>
        intro V hV
        try dsimp only at hV
        go_simp
        all_goals (with_reducible rfl)
       simp only [Act.put, zA, zB, zC, zD, zE, zF]
       refine wpAnyH_done (by kernel_rfl) ?_ _
       have hz := Zaa HZ
       cases hhb : bodyB p f with
       | false =>
        have hz2 := Zac (Zaa HBAD hhb)
        have hwb : 0 ≤ wb := by have := wrongB_ge hhb; rw [Zaa HWX] at this; exact this
        clear hhb
        go_wp2_with fail
        refine (badIn_c k wb wa w5).mono ?_
        rintro e w6 ⟨rfl, h6⟩
        subst w6
        have hy := al0 w5 (.cells #[.iface 58 (.int .i64 5), .int .i64 k, .int .i64 wb, .int .i64 wa] 64 (0, 0))
        have HY := Zac hy
        clear hy
        go_wp2
        go_ret
        refine ⟨_, rfl, ?_, Zad (Zad (Zaa HW) (Zaa HB6) (by omega)) (Zaa HY).2.1 (by have := (Zaa HW).size; have := (Zaa HB6).size; omega)⟩
        rw [Zaa hz2]
        exact Or.inr (Or.inr ⟨_, (show (5 : Int) ≠ 0 by decide), rfl, ⟨(Zab (Zaa HY).1 0).trans rfl, (Zab (Zaa HY).1 1).trans rfl, (Zab (Zaa HY).1 2).trans rfl, (Zab (Zaa HY).1 3).trans rfl⟩⟩)
       | true =>
        have hz2 := Zac (Zaa HNX hhb)
        obtain ⟨rfl, rfl⟩ : wb = -1 ∧ wa = -1 := by have := wrongB_no hhb; rw [Zaa HWX] at this; injection this with a b; exact ⟨a, b⟩
        clear hhb
        go_wp2
        go_roundw
        case rel => exact ⟨k + 1, by go_num, by omega, Zaa HB6, Zaa hz2⟩
        case measure => simp [intOf]; omega
      ·
       have hz2 := Zac (show chkB (tabB r sp lk t0 t1 ag rs ss al sh by_) r (ownL sp lk t0 t1) p = ⟨0, -1, -1, -1⟩ by rw [Zaa HTB]; unfold chkB; rw [Zaa HCB, firstN_none (ok := fun k => headB r (ownL sp lk t0 t1) (p.funcs.getD k Zaj)) (Zaa HHD), firstN_none (ok := fun k => bodyB p (p.funcs.getD k Zaj)) (fun q hq => Zaa HNO q (by omega))]; rfl)
       obtain rfl : k = p.funcs.length := by omega
       have HBW3 := Zac hbw
       clear hbw
       go_wp2
       go_ret
       exact ⟨_, rfl, by rw [Zaa hz2]; exact Or.inl ⟨rfl, rfl⟩, Zad (Zaa HW) (Zaa HBW3) (by have := Zaa HZ; omega)⟩
end Go.Proofs.YtffemeicclhioaaGreatDoor

