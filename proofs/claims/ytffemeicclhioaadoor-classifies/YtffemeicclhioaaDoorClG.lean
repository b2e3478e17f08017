/-
  Layouts of calls: layout.Classify. Own work of the verifier.
-/
import Derived.Test.YtffemeicclhioaaDoorClE
namespace Go.Proofs.YtffemeicclhioaaDoor
open Go.RowKit

theorem results_ct {P : Program} {fn : Func} {p q : Tmp} {px : TypeId} (h : fn.results = #[.cell p px, .tmp q]) (tmps : Array Value) (w : World) (g : Nat) (t : TypeId) (cs : Array Value) (fr : Nat × Nat) (d : TypeDesc)
    (hp : tmps.getD p undef = .pointer (some ⟨g, 0, none⟩)) (hg : w.heap[g]? = some (.cells cs t fr)) (hu : P.underlying px = some d) (hd : (match d with | .struct _ | .array _ _ => true | _ => false) = true) (hi : (P.info? px).map (·.size) = some cs.size) :
    (results fn tmps).run P w = .ok (.tuple #[.agg cs, tmps.getD q undef]) w := by
  have e1 : tmps[p]?.getD undef = .pointer (some ⟨g, 0, none⟩) := by simpa using hp
  simp [results, h, e1, asAddr, run_loadVar_row w g t px cs fr d hg hu hd hi]
theorem rows3 (w : World) (X0 X1 X2 : Obj) : (((w.alloc X0).alloc X1).alloc X2).heap[w.heap.size]? = some X0 ∧ (((w.alloc X0).alloc X1).alloc X2).heap[w.heap.size + 1]? = some X1 ∧ (((w.alloc X0).alloc X1).alloc X2).heap[w.heap.size + 1 + 1]? = some X2 ∧ (((w.alloc X0).alloc X1).alloc X2).heap.size = w.heap.size + 1 + 1 + 1 ∧ Below w.heap.size w (((w.alloc X0).alloc X1).alloc X2) := by
  obtain ⟨r0, b0, s0⟩ := al0 w X0
  obtain ⟨r1, b1, s1⟩ := al0 (w.alloc X0) X1
  obtain ⟨r2, b2, s2⟩ := al0 ((w.alloc X0).alloc X1) X2
  rw [s0] at r1
  rw [s1, s0] at r2
  exact ⟨(b2.block _ (by omega)).trans ((b1.block _ (by omega)).trans r0), (b2.block _ (by omega)).trans r1, r2, by omega, below_cut (below_cut b0 b1 (by omega)) b2 (by omega)⟩
def noLay : LayE := ⟨[], [], 0, 0⟩
theorem LayO.no (w : World) (B : Nat) : LayO w B (.slice none 0 0) (.slice none 0 0) noLay [] := ⟨rfl, World.ownsRow_nil _ _ _ _, fun k hk => absurd hk (by simp [noLay]), World.ownsRow_nil _ _ _ _⟩
theorem LayO.row {w : World} {B B' b : Nat} {cs : Array Value} {av rv : Value} {l : LayE} {pvs : List Value} (h : LayO w B av rv l pvs) (hb : b < B) (hB : B' ≤ B) : LayO (w.setRow b cs) B' av rv l pvs := by
  have k : ∀ {n size : Nat} {e : TypeId} {v : Value} {xs : List Value}, w.ownsRow B e size v n xs → (w.setRow b cs).ownsRow B' e size v n xs := fun {n size e v xs} h => by
    obtain ⟨h1, h2 | ⟨g, cap, cur, e1, e2, e3, e4⟩⟩ := h
    · exact ⟨h1, Or.inl h2⟩
    · exact ⟨h1, Or.inr ⟨g, cap, cur, e1, Nat.le_trans hB e2, (setRow_other _ _ _ _ (by omega)).trans e3, e4⟩⟩
  exact ⟨h.len, k h.args, fun j hj => k (h.each j hj), k h.res⟩
theorem LayO.keep {w w' : World} {B : Nat} {av rv : Value} {l : LayE} {pvs : List Value} (h : LayO w B av rv l pvs) (hb : Below w.heap.size w w') : LayO w' B av rv l pvs :=
  ⟨h.len, own_gb h.args (gb_ofB (o := none) hb) (fun g _ e => by cases e), fun j hj => own_gb (h.each j hj) (gb_ofB (o := none) hb) (fun g _ e => by cases e), own_gb h.res (gb_ofB (o := none) hb) (fun g _ e => by cases e)⟩
theorem LayO.same {w w' : World} {B B' : Nat} {av rv : Value} {l : LayE} {pvs : List Value} (h : LayO w B av rv l pvs) (hs : ∀ q, B ≤ q → w'.heap[q]? = w.heap[q]?) (hB : B' ≤ B) : LayO w' B' av rv l pvs := by
  have k : ∀ {n size : Nat} {e : TypeId} {v : Value} {xs : List Value}, w.ownsRow B e size v n xs → w'.ownsRow B' e size v n xs := fun {n size e v xs} h => by
    obtain ⟨h1, h2 | ⟨g, cap, cur, e1, e2, e3, e4⟩⟩ := h
    · exact ⟨h1, Or.inl h2⟩
    · exact ⟨h1, Or.inr ⟨g, cap, cur, e1, Nat.le_trans hB e2, (hs g e2).trans e3, e4⟩⟩
  exact ⟨h.len, k h.args, fun j hj => k (h.each j hj), k h.res⟩
theorem LayO.shapes {w : World} {B : Nat} {av rv : Value} {l : LayE} {pvs : List Value} (h : LayO w B av rv l pvs) : (∃ p n c, av = .slice p n c) ∧ ∃ p n c, rv = .slice p n c := by
  refine ⟨?_, plo_shape h.res⟩
  rcases h.args.2 with ⟨e, -⟩ | ⟨g, cap, cur, e, -⟩
  · exact ⟨_, _, _, e⟩
  · exact ⟨_, _, _, e⟩
def tabT (T : TbE) : Bool := tabB T.r T.sp T.lk T.t0 T.t1 T.ag T.rs T.ss T.al T.sh T.br
/-- What Classify's error is: nothing, a table that may not be, a signature that may not be. -/
def clsN (T : TbE) (ps : List Int) (n : Int) : Int := if tabT T = false then 2 else if sigB (ps, n) = false then 6 else 0
def clsL (T : TbE) (ps : List Int) (n : Int) : LayE := if clsN T ps n = 0 then layE T.ag T.rs T.br T.pairs T.sh ps n else noLay
def errV (n : Int) : Value := if n = 0 then .nilIface else .iface 63 (.int .i64 n)
theorem tabT_lens {T : TbE} (h : tabT T = true) : T.ag.length ≤ 100 ∧ T.rs.length ≤ 100 ∧ 0 ≤ T.sh ∧ T.sh ≤ 100 := by
  unfold tabT tabB numsB lensB at h
  simp at h
  omega
theorem sig_parts {ps : List Int} {n : Int} (h : sigB (ps, n) = true) : ps.length ≤ 8 ∧ 0 ≤ n ∧ n ≤ 4 ∧ numsIn ps 0 8 = true := by
  unfold sigB inB at h
  simp only [Bool.and_eq_true, decide_eq_true_eq] at h
  exact ⟨h.1, h.2.1.1, h.2.1.2, h.2.2⟩
/-- All that is asked of a table's lists. -/
structure TbO (w : World) (T : TbE) : Prop where
  a : Li w (.slice T.pa T.ag.length T.ca) T.ag
  r : Li w (.slice T.pr T.rs.length T.cr) T.rs
  s : Li w (.slice T.ps T.ss.length T.cs) T.ss
theorem TbO.below {w w' : World} {T : TbE} (h : TbO w T) (hb : Below w.heap.size w w') : TbO w' T := ⟨h.a.below hb, h.r.below hb, h.s.below hb⟩
theorem Li.low {w : World} {p : Option Addr} {c : Nat} {ns : List Int} (h : Li w (.slice p ns.length c) ns) : RsB w w.heap.size (.slice p ns.length c) ns := by
  obtain ⟨p', c', e, h2, h3, h4⟩ := h
  injection e with e1 e2 e3
  subst e1 e3
  by_cases h0 : 0 < ns.length
  · obtain ⟨sb, so, e, hc⟩ := h4 h0
    exact Or.inr ⟨sb, so, c, by rw [e], by have := World.block_lt_of_cell? w _ (hc 0 h0); simpa using this, hc⟩
  · have hn : ns = [] := List.length_eq_zero_iff.1 (by omega)
    exact Or.inl ⟨hn, p, c, by rw [hn]; rfl⟩
theorem Li.cap {w : World} {p : Option Addr} {c : Nat} {ns : List Int} (h : Li w (.slice p ns.length c) ns) : ∀ a n cap, Value.slice p ns.length c = .slice a n cap → n ≤ cap := fun a n cap e => by
  obtain ⟨p', c', e', h2, h3, h4⟩ := h
  injection e' with e1 e2 e3
  injection e with f1 f2 f3
  omega
theorem TbO.low {w : World} {T : TbE} (h : TbO w T) : TbR w w.heap.size T := ⟨h.a.low, h.r.low, h.s.low⟩
set_option maxHeartbeats 4000000 in
set_option maxRecDepth 100000 in
theorem lcls_c (T : TbE) (ps : List Int) (pq : Option Addr) (cq : Nat) (n : Int) (w : World) (hT : TbO w T) (hps : Li w (.slice pq ps.length cq) ps) :
    Calls Tryd.prog 22 #[.agg T.box, .agg #[.slice pq ps.length cq, .int .i64 n]] w fun e w' => ∃ av rv pvs, e = .returned (.tuple #[.agg #[av, rv, .int .i64 (clsL T ps n).size, .int .i64 (clsL T ps n).copies], errV (clsN T ps n)]) ∧ LayO w' w.heap.size av rv (clsL T ps n) pvs ∧ Below w.heap.size w w' := by
  have hx := rows3 w (.cells T.box 25 (0, 0)) (.cells #[.slice pq ps.length cq, .int .i64 n] 27 (0, 0)) (.cells #[.slice none 0 0, .slice none 0 0, .int .i64 0, .int .i64 0] 33 (0, 0))
  obtain ⟨r0, r1, r2, hZ, hB⟩ := hx
  have HR0 := hideI r0
  have HR1 := hideI r1
  have HR2 := hideI r2
  have HB := hideI hB
  have HT := hideI hT
  have HPS := hideI hps
  clear r0 r1 r2 hB hT hps
  have HBX := hideI (show T.box = boxOf T.r T.sp T.lk T.t0 T.t1 (.slice T.pa T.ag.length T.ca) (.slice T.pr T.rs.length T.cr) (.slice T.ps T.ss.length T.cs) T.al T.sh T.br T.pairs from rfl)
  unfold TbE.box at HR0 HR1 HR2 HB hZ ⊢
  go_enter Tryd.func22, Tryd.ntmps22
  go_wp2_with fail
  generalize World.alloc (World.alloc (World.alloc w _) _) _ = W at HR0 HR1 HR2 HB hZ ⊢
  refine (check_c T.r T.sp T.lk T.t0 T.t1 (.slice T.pa T.ag.length T.ca) (.slice T.pr T.rs.length T.cr) (.slice T.ps T.ss.length T.cs) T.al T.sh T.br T.pairs T.ag T.rs T.ss W ((unhideI HT).below (unhideI HB)).a.rs ((unhideI HT).below (unhideI HB)).r.rs ((unhideI HT).below (unhideI HB)).s.rs (unhideI HT).a.cap (unhideI HT).r.cap (unhideI HT).s.cap).mono ?_
  rintro e w2 ⟨rfl, hb2⟩
  have hs2 := hb2.size
  have HB2 := hideI (below_cut (unhideI HB) hb2 (by omega))
  have HA0 := hideI ((hb2.block w.heap.size (by omega)).trans (unhideI HR0))
  have HA1 := hideI ((hb2.block (w.heap.size + 1) (by omega)).trans (unhideI HR1))
  have HA2 := hideI ((hb2.block (w.heap.size + 1 + 1) (by omega)).trans (unhideI HR2))
  clear hb2 HR0 HR1 HR2
  cases ht : tabB T.r T.sp T.lk T.t0 T.t1 T.ag T.rs T.ss T.al T.sh T.br with
  | false =>
    have HN := hideI (show clsN T ps n = 2 by unfold clsN tabT; rw [ht]; rfl)
    have HL := hideI (show clsL T ps n = noLay by unfold clsL; rw [unhideI HN]; rfl)
    clear ht
    unfold chkV
    go_wp2_with (refine wpList_store_row rfl 33 _ _ rfl (w.heap.size + 1 + 1) #[.slice none 0 0, .slice none 0 0, .int .i64 0, .int .i64 0] rfl rfl 33 _ (unhideI HA2) (Tryd.infLyK.trans rfl) rfl (by simp [Value.oneCell']) ?_)
    refine bodyPost_ret (results_ct (fn := Tryd.f22) (p := 4) (q := 5) (px := 33) rfl _ _ (w.heap.size + 1 + 1) 33 #[.slice none 0 0, .slice none 0 0, .int .i64 0, .int .i64 0] (0, 0) _ rfl (setRow_heap _ _ _ _ _ _ (unhideI HA2)) Tryd.underlying33 rfl (Tryd.infLyK.trans rfl)) rfl ?_
    refine ⟨_, _, [], by rw [unhideI HL, unhideI HN]; rfl, ?_, below_setRow (unhideI HB2) (by omega)⟩
    rw [unhideI HL]
    exact LayO.no _ _
  | true =>
    have HTT := hideI (show tabT T = true from ht)
    clear ht
    have x0 := (cells_of_row (unhideI HA1) 0).trans rfl
    have x1 := (cells_of_row (unhideI HA1) 1).trans rfl
    unfold chkV
    go_wp2_with fail
    clear x0 x1
    refine (sigFits_c _ ps n w2 ((unhideI HPS).below (unhideI HB2))).mono ?_
    rintro e w3 ⟨rfl, hb3⟩
    have hs3 := hb3.size
    have HB3 := hideI (below_cut (unhideI HB2) hb3 (by omega))
    have HC0 := hideI ((hb3.block w.heap.size (by omega)).trans (unhideI HA0))
    have HC1 := hideI ((hb3.block (w.heap.size + 1) (by omega)).trans (unhideI HA1))
    have HC2 := hideI ((hb3.block (w.heap.size + 1 + 1) (by omega)).trans (unhideI HA2))
    clear hb3 HA0 HA1 HA2
    cases hg : sigB (ps, n) with
    | false =>
      have HN := hideI (show clsN T ps n = 6 by unfold clsN; rw [unhideI HTT, hg]; rfl)
      have HL := hideI (show clsL T ps n = noLay by unfold clsL; rw [unhideI HN]; rfl)
      clear hg
      go_wp2_with (refine wpList_store_row rfl 33 _ _ rfl (w.heap.size + 1 + 1) #[.slice none 0 0, .slice none 0 0, .int .i64 0, .int .i64 0] rfl rfl 33 _ (unhideI HC2) (Tryd.infLyK.trans rfl) rfl (by simp [Value.oneCell']) ?_)
      refine bodyPost_ret (results_ct (fn := Tryd.f22) (p := 4) (q := 5) (px := 33) rfl _ _ (w.heap.size + 1 + 1) 33 #[.slice none 0 0, .slice none 0 0, .int .i64 0, .int .i64 0] (0, 0) _ rfl (setRow_heap _ _ _ _ _ _ (unhideI HC2)) Tryd.underlying33 rfl (Tryd.infLyK.trans rfl)) rfl ?_
      refine ⟨_, _, [], by rw [unhideI HL, unhideI HN]; rfl, ?_, below_setRow (unhideI HB3) (by omega)⟩
      rw [unhideI HL]
      exact LayO.no _ _
    | true =>
      have HN := hideI (show clsN T ps n = 0 by unfold clsN; rw [unhideI HTT, hg]; rfl)
      have HL := hideI (show clsL T ps n = layE T.ag T.rs T.br T.pairs T.sh ps n by unfold clsL; rw [unhideI HN]; rfl)
      obtain ⟨q1, q2, q3, q4⟩ := sig_parts hg
      obtain ⟨t1, t2, t3, t4⟩ := tabT_lens (unhideI HTT)
      have HC := hideI (lof_c T ps pq cq n w3 ((unhideI HT).below (unhideI HB3)).low ((unhideI HPS).below (unhideI HB3)) q4 q1 q2 q3 t1 t2 t3 t4)
      unfold TbE.box at HC
      clear hg q1 q2 q3 q4 t1 t2 t3 t4
      have x0 := (cells_of_row (unhideI HC1) 0).trans rfl
      have x1 := (cells_of_row (unhideI HC1) 1).trans rfl
      have b0 := (cells_of_row (unhideI HC0) 0).trans rfl
      have b1 := (cells_of_row (unhideI HC0) 1).trans rfl
      have b2 := (cells_of_row (unhideI HC0) 2).trans rfl
      have b3 := (cells_of_row (unhideI HC0) 3).trans rfl
      have b4 := (cells_of_row (unhideI HC0) 4).trans rfl
      have b5 := (cells_of_row (unhideI HC0) 5).trans rfl
      have b6 := (cells_of_row (unhideI HC0) 6).trans rfl
      have b7 := (cells_of_row (unhideI HC0) 7).trans rfl
      have b8 := (cells_of_row (unhideI HC0) 8).trans rfl
      have b9 := (cells_of_row (unhideI HC0) 9).trans rfl
      have b10 := (cells_of_row (unhideI HC0) 10).trans rfl
      have b11 := (cells_of_row (unhideI HC0) 11).trans rfl
      go_wp2_with fail
      clear x0 x1 b0 b1 b2 b3 b4 b5 b6 b7 b8 b9 b10 b11
      refine (unhideI HC).mono ?_
      rintro e w4 ⟨av, rv, pvs, rfl, hlay, hb4⟩
      obtain ⟨⟨ap, an, ac, rfl⟩, rp, rn, rc, rfl⟩ := hlay.shapes
      have HLY := hideI hlay
      have HB4 := hideI (below_cut (unhideI HB3) hb4 (by omega))
      have HD2 := hideI ((hb4.block (w.heap.size + 1 + 1) (by omega)).trans (unhideI HC2))
      clear hlay hb4
      generalize layE T.ag T.rs T.br T.pairs T.sh ps n = le at HL HLY ⊢
      go_wp2_with (refine wpList_store_row rfl 33 _ _ rfl (w.heap.size + 1 + 1) #[.slice ap an ac, .slice rp rn rc, .int .i64 le.size, .int .i64 le.copies] rfl rfl 33 _ (unhideI HD2) (Tryd.infLyK.trans rfl) rfl (by simp [Value.oneCell']) ?_)
      refine bodyPost_ret (results_ct (fn := Tryd.f22) (p := 4) (q := 5) (px := 33) rfl _ _ (w.heap.size + 1 + 1) 33 #[.slice ap an ac, .slice rp rn rc, .int .i64 le.size, .int .i64 le.copies] (0, 0) _ rfl (setRow_heap _ _ _ _ _ _ (unhideI HD2)) Tryd.underlying33 rfl (Tryd.infLyK.trans rfl)) rfl ?_
      refine ⟨_, _, pvs, by rw [unhideI HL, unhideI HN]; rfl, ?_, below_setRow (unhideI HB4) (by omega)⟩
      rw [unhideI HL]
      exact (unhideI HLY).row (by omega) (by omega)
end Go.Proofs.YtffemeicclhioaaDoor
