/-
  Parses: table.Parse, prologue.Parse, plain.Parse by their contracts. Own work of the verifier.
-/
import Derived.Test.YtobempobmokkcaaGreatDoorPsTable
import Derived.Test.YtobempobmokkcaaGreatDoorPsParse
import Derived.Test.YtobempobmokkcaaGreatDoorFaultB
import Derived.Laws.ResultCell
import Derived.Laws.CopyOwn
namespace Go.Proofs.YtobempobmokkcaaGreatDoor
open Go.RowKit

theorem results_row_tmp {P : Program} {fn : Func} {p u : Tmp} {ty : TypeId} (h : fn.results = #[.cell p ty, .tmp u]) (tmps : Array Value) (w : World) (g : Nat) (t : TypeId) (cs : Array Value) (fr : Nat × Nat) (d : TypeDesc)
    (hp : tmps.getD p undef = .pointer (some ⟨g, 0, none⟩)) (hg : w.heap[g]? = some (.cells cs t fr))
    (hu : P.underlying ty = some d) (hd : (match d with | .struct _ | .array _ _ => true | _ => false) = true) (hi : (P.info? ty).map (·.size) = some cs.size) :
    (results fn tmps).run P w = .ok (.tuple #[.agg cs, tmps.getD u undef]) w := by
  rw [results_cell_tmp h, hp]
  simp [asAddr, run_loadVar_row w g t ty cs fr d hg hu hd hi]
theorem alloc_setRow (w : World) (z cs : Array Value) (t : TypeId) (fr : Nat × Nat) : (w.alloc (.cells z t fr)).setRow w.heap.size cs = w.alloc (.cells cs t fr) := by
  unfold World.setRow World.alloc
  simp only [World.mk.injEq, and_true]
  apply Array.ext
  · simp
  · intro k h1 h2
    simp only [Array.getElem_modify, Array.getElem_push]
    split
    · rename_i h; subst h; simp
    · rename_i h
      have : k < w.heap.size := by simp at h1; omega
      simp [this]
theorem gb_setRow (w : World) (T : Nat) (cs : Array Value) : w.grownBy (w.setRow T cs) (some T) := ⟨rfl, rfl, rfl, by simp, fun k _ hk => setRow_other w T k cs (fun e => hk (by simp [e]))⟩
theorem BadAt.setRow {w : World} {q T : Nat} {n f b a : Int} (h : BadAt w q n f b a) (hq : q ≠ T) (cs : Array Value) : BadAt (w.setRow T cs) q n f b a :=
  have e := setRow_other w T q cs hq
  ⟨(World.cell?_of_block e).trans h.c0, (World.cell?_of_block e).trans h.c1, (World.cell?_of_block e).trans h.c2, (World.cell?_of_block e).trans h.c3⟩
theorem Tryz.infTab : (Tryz.prog.info? 25).map (·.size) = some 12 := by kernel_rfl
theorem place_c (w : World) (b base : Nat) (s : ByteArray) (v : Value) (i : Nat) (sn : Nat → Bool) (vs : Nat → Value) (l : List Tk) (h : Rdr w b s v i sn vs) (ho : Own3 w base v l) (hl : l.length ≤ 400) (hi : i ≤ l.length) :
    Calls Tryz.prog 59 #[.pointer (some ⟨b, 0, none⟩)] w fun e w' => e = .returned (.int .i64 (atAt s l i)) ∧ Below w.heap.size w w' := by
  unfold atAt
  cases ht : l[i]? with
  | some t => exact place_in w b base s v i sn vs l t h ho hl ht
  | none =>
    obtain rfl : i = l.length := Nat.le_antisymm hi (List.getElem?_eq_none_iff.1 ht)
    exact place_end w b base s v sn vs l h ho hl
set_option maxHeartbeats 1000000 in
theorem badAt_c (n p : Int) (w : World) :
    Calls Tryz.prog 55 #[.int .i64 n, .int .i64 p] w fun e w' => ∃ q, e = .returned (.iface 114 (.pointer (some ⟨q, 0, none⟩))) ∧ BadAt w' q n (-1) (-1) p ∧ w.heap.size ≤ q ∧ Below w.heap.size w w' := by
  go_enter Tryz.func55, Tryz.ntmps55
  go_wp2
  go_ret
  refine ⟨_, rfl, ⟨?_, ?_, ?_, ?_⟩, Nat.le_refl _, by go_grown⟩
  all_goals rw [World.cell?_alloc_at _ _ _ _ rfl]; rfl
theorem rdr_new (w : World) (s : ByteArray) (v : Value) (o : TypeId) : Rdr (w.alloc (.cells #[.string s, v, .int .i64 0, .bool false, .bool false, .bool false, .bool false, .bool false, .bool false, .bool false, .bool false, .bool false, .bool false, .bool false, .slice none 0 0, .slice none 0 0, .slice none 0 0, .slice none 0 0, .slice none 0 0, .slice none 0 0, .slice none 0 0, .slice none 0 0, .slice none 0 0, .slice none 0 0, .slice none 0 0] o)) w.heap.size s v 0 (fun _ => false) (fun _ => .slice none 0 0) := by
  have e : ∀ j, (w.alloc (.cells #[.string s, v, .int .i64 0, .bool false, .bool false, .bool false, .bool false, .bool false, .bool false, .bool false, .bool false, .bool false, .bool false, .bool false, .slice none 0 0, .slice none 0 0, .slice none 0 0, .slice none 0 0, .slice none 0 0, .slice none 0 0, .slice none 0 0, .slice none 0 0, .slice none 0 0, .slice none 0 0, .slice none 0 0] o)).cell? ⟨w.heap.size, j, none⟩ = (#[.string s, v, .int .i64 0, .bool false, .bool false, .bool false, .bool false, .bool false, .bool false, .bool false, .bool false, .bool false, .bool false, .bool false, .slice none 0 0, .slice none 0 0, .slice none 0 0, .slice none 0 0, .slice none 0 0, .slice none 0 0, .slice none 0 0, .slice none 0 0, .slice none 0 0, .slice none 0 0, .slice none 0 0] : Array Value)[j]? := fun j => World.cell?_alloc_at _ _ _ _ rfl
  refine ⟨e 0, e 1, e 2, fun k hk => ?_, fun k hk => ?_, fun j => World.frozen?_alloc_at _ _ _ _ rfl⟩
  · rw [e]
    match k, hk with
    | 0, _ | 1, _ | 2, _ | 3, _ | 4, _ | 5, _ | 6, _ | 7, _ | 8, _ | 9, _ | 10, _ => rfl
  · rw [e]
    match k, hk with
    | 0, _ | 1, _ | 2, _ | 3, _ | 4, _ | 5, _ | 6, _ | 7, _ | 8, _ | 9, _ | 10, _ => rfl
theorem rs_new (w : World) (s : ByteArray) (l : List Tk) (v : Value) (o : TypeId) : RS s l (w.heap.size + 1) (w.alloc (.cells #[.string s, v, .int .i64 0, .bool false, .bool false, .bool false, .bool false, .bool false, .bool false, .bool false, .bool false, .bool false, .bool false, .bool false, .slice none 0 0, .slice none 0 0, .slice none 0 0, .slice none 0 0, .slice none 0 0, .slice none 0 0, .slice none 0 0, .slice none 0 0, .slice none 0 0, .slice none 0 0, .slice none 0 0] o)) w.heap.size v S00 (fun _ => .slice none 0 0) :=
  ⟨rdr_new w s v o, fun k hk => World.ownsRow_nil _ _ _ _, fun _ _ _ => rfl, by simp [S00], fun _ _ _ _ _ g h => by simp [Value.ownBlock] at h⟩
/-- A table's value, with nothing in it. -/
def zeroT : Value := .agg (boxOf 0 0 0 0 0 (.slice none 0 0) (.slice none 0 0) (.slice none 0 0) 0 0 0 false)
def tabV (S : RSt) (v4 v5 v6 : Value) : Value := .agg (boxOf ((S.vals 0).getD 0 0) ((S.vals 1).getD 0 0) ((S.vals 2).getD 0 0) ((S.vals 3).getD 0 0) ((S.vals 3).getD 1 0) v4 v5 v6 ((S.vals 7).getD 0 0) ((S.vals 8).getD 0 0) ((S.vals 9).getD 0 0) (S.sn 10))
theorem row_cell {w : World} {B : Nat} {u : Value} {ns : List Int} (h : w.ownsRow B 3 1 u ns.length (iCells ns)) (g n cap : Nat) (hu : u = .slice (some ⟨g, 0, none⟩) n cap) (i : Nat) (hi : i < ns.length) : w.cell? ⟨g, i, none⟩ = some (.int .i64 (ns.getD i 0)) := by
  rcases h.2 with ⟨e, e0⟩ | ⟨g', cap', cur, e, -⟩
  · omega
  · rw [hu] at e
    injection e with e1 e2 e3
    subst e2
    rw [hu] at h
    rw [h.cellAt i (by omega)]
    simp [iCells, hi]
/-- The reader's table, by its state. -/
theorem table_c (w : World) (b W0 : Nat) (s : ByteArray) (l : List Tk) (v : Value) (S : RSt) (vs : Nat → Value) (h : RS s l W0 w b v S vs) (hp : parseL s l = .inr S) :
    Calls Tryz.prog 60 #[.pointer (some ⟨b, 0, none⟩)] w fun e w' => e = .returned (tabV S (vs 4) (vs 5) (vs 6)) ∧ Below w.heap.size w w' := by
  obtain ⟨_, _, ⟨x0, q0⟩, ⟨x1, q1⟩, ⟨x2, q2⟩, ⟨x3, y3, q3⟩, _, _, _, ⟨x7, q7⟩, ⟨x8, q8⟩, ⟨x9, q9⟩⟩ := parseL_some hp
  have one : ∀ k x, k < 11 → S.vals k = [x] → ∃ g n p, vs k = .slice (some ⟨g, 0, none⟩) (n + 1) p ∧ w.cell? ⟨g, 0, none⟩ = some (.int .i64 x) := fun k x hk hx => by
    have r := h.row k hk
    rw [hx] at r
    obtain ⟨g, cap, e⟩ := own1_form (n := 0) r
    have c := row_cell (ns := [x]) r g 1 cap e 0 (by simp)
    exact ⟨g, 0, cap, e, by simpa using c⟩
  have shp : ∀ k, k < 11 → ∃ a n p, vs k = .slice a n p := fun k hk => by
    rcases (h.row k hk).2 with ⟨e, _⟩ | ⟨g, cap, cur, e, -⟩
    · exact ⟨_, _, _, e⟩
    · exact ⟨_, _, _, e⟩
  obtain ⟨g0, n0, p0, v0, e0⟩ := one 0 x0 (by decide) q0
  obtain ⟨g1, n1, p1, v1, e1⟩ := one 1 x1 (by decide) q1
  obtain ⟨g2, n2, p2, v2, e2⟩ := one 2 x2 (by decide) q2
  obtain ⟨g7, n7, p7, v7, e7⟩ := one 7 x7 (by decide) q7
  obtain ⟨g8, n8, p8, v8, e8⟩ := one 8 x8 (by decide) q8
  obtain ⟨g9, n9, p9, v9, e9⟩ := one 9 x9 (by decide) q9
  obtain ⟨a4, n4, p4, v4⟩ := shp 4 (by decide)
  obtain ⟨a5, n5, p5, v5⟩ := shp 5 (by decide)
  obtain ⟨a6, n6, p6, v6⟩ := shp 6 (by decide)
  obtain ⟨a10, n10, p10, v10⟩ := shp 10 (by decide)
  obtain ⟨g3, p3, v3⟩ : ∃ g p, vs 3 = .slice (some ⟨g, 0, none⟩) 2 p := by
    have r := h.row 3 (by decide)
    rw [q3] at r
    exact own1_form (n := 1) r
  have r3 := h.row 3 (by decide)
  rw [q3] at r3
  have e30 := row_cell (ns := [x3, y3]) r3 g3 2 p3 v3 0 (by simp)
  have e31 := row_cell (ns := [x3, y3]) r3 g3 2 p3 v3 1 (by simp)
  simp at e30 e31
  have cc := fun k hk => h.rdr.vals k hk
  have key := table_c0 w b (S.sn 10) g0 n0 p0 g1 n1 p1 g2 n2 p2 g3 0 p3 g7 n7 p7 g8 n8 p8 g9 n9 p9 x0 x1 x2 x3 y3 x7 x8 x9 a4 a5 a6 a10 n4 p4 n5 p5 n6 p6 n10 p10
    ((cc 0 (by decide)).trans (congrArg some v0)) ((cc 1 (by decide)).trans (congrArg some v1)) ((cc 2 (by decide)).trans (congrArg some v2)) ((cc 3 (by decide)).trans (congrArg some v3)) ((cc 4 (by decide)).trans (congrArg some v4)) ((cc 5 (by decide)).trans (congrArg some v5)) ((cc 6 (by decide)).trans (congrArg some v6)) ((cc 7 (by decide)).trans (congrArg some v7)) ((cc 8 (by decide)).trans (congrArg some v8)) ((cc 9 (by decide)).trans (congrArg some v9)) ((cc 10 (by decide)).trans (congrArg some v10)) (h.rdr.seen 10 (by decide)) e0 e1 e2 e30 e31 e7 e8 e9
  refine key.mono ?_
  rintro e w' ⟨rfl, hb⟩
  refine ⟨?_, hb⟩
  simp [tabV, boxOf, q0, q1, q2, q3, q7, q8, q9, v4, v5, v6]
def Apart3 (v4 v5 v6 : Value) : Prop := ∀ g, (v4.ownBlock = some g → v5.ownBlock ≠ some g ∧ v6.ownBlock ≠ some g) ∧ (v5.ownBlock = some g → v6.ownBlock ≠ some g)
/-- What a call of Parse leaves: a table's cells, an error. -/
def ParsedM (s : ByteArray) (B : Nat) (arr : Array Value) (ev : Value) (w' : World) : Prop :=
  match parseF s with
  | .inl (n, p) => .agg arr = zeroT ∧ ∃ q, ev = .iface 114 (.pointer (some ⟨q, 0, none⟩)) ∧ B ≤ q ∧ BadAt w' q n (-1) (-1) p
  | .inr S => ∃ v4 v5 v6, .agg arr = tabV S v4 v5 v6 ∧ ev = .nilIface ∧ w'.ownsRow B 3 1 v4 (S.vals 4).length (iCells (S.vals 4)) ∧ w'.ownsRow B 3 1 v5 (S.vals 5).length (iCells (S.vals 5)) ∧ w'.ownsRow B 3 1 v6 (S.vals 6).length (iCells (S.vals 6)) ∧ Apart3 v4 v5 v6
def ParsedT (s : ByteArray) (w : World) (e : Ending) (w' : World) : Prop :=
  Below w.heap.size w w' ∧ ∃ arr ev, e = .returned (.tuple #[.agg arr, ev]) ∧ arr.size = 12 ∧ arr.all (·.oneCell') = true ∧ ParsedM s w.heap.size arr ev w'
theorem ParsedM.mono {s : ByteArray} {B B0 : Nat} {arr : Array Value} {ev : Value} {w' : World} (h : ParsedM s B arr ev w') (hB : B0 ≤ B) : ParsedM s B0 arr ev w' := by
  unfold ParsedM at *
  split
  · rename_i n p hp
    rw [hp] at h
    obtain ⟨h1, q, h2, h3, h4⟩ := h
    exact ⟨h1, q, h2, by omega, h4⟩
  · rename_i S hp
    rw [hp] at h
    obtain ⟨v4, v5, v6, h1, h2, h3, h4, h5, h6⟩ := h
    exact ⟨v4, v5, v6, h1, h2, row_mono h3 hB, row_mono h4 hB, row_mono h5 hB, h6⟩
theorem ParsedM.setRow {s : ByteArray} {B T : Nat} {arr : Array Value} {ev : Value} {w' : World} (h : ParsedM s B arr ev w') (hT : T < B) (cs : Array Value) : ParsedM s B arr ev (w'.setRow T cs) := by
  unfold ParsedM at *
  split
  · rename_i n p hp
    rw [hp] at h
    obtain ⟨h1, q, h2, h3, h4⟩ := h
    exact ⟨h1, q, h2, h3, h4.setRow (by omega) _⟩
  · rename_i S hp
    rw [hp] at h
    obtain ⟨v4, v5, v6, h1, h2, h3, h4, h5, h6⟩ := h
    exact ⟨v4, v5, v6, h1, h2, row_kept h3 (gb_setRow _ _ _) hT, row_kept h4 (gb_setRow _ _ _) hT, row_kept h5 (gb_setRow _ _ _) hT, h6⟩
theorem Tryz.infRdr : (Tryz.prog.info? 143).map (·.size) = some 25 := by kernel_rfl
set_option maxHeartbeats 8000000 in
set_option maxRecDepth 100000 in
theorem tparse_c (s : ByteArray) (w : World) (hU : U8 w) (hI : Itm w) : Calls Tryz.prog 35 #[.string s] w (ParsedT s w) := by
  have hit := hI.lt
  have HU := hideQ hU
  have HI := hideQ hI
  clear hU hI
  by_cases h4 : 400 < s.size
  · have hF : parseF s = .inl (4, 0) := by unfold parseF; rw [if_pos h4]
    go_enter Tryz.func35, Tryz.ntmps35
    go_wp2_with fail
    have HBL := hideQ ((Below.refl w.heap.size w).alloc (Nat.le_refl _) (.cells #[.int .i64 0, .int .i64 0, .int .i64 0, .int .i64 0, .int .i64 0, .slice none 0 0, .slice none 0 0, .slice none 0 0, .int .i64 0, .int .i64 0, .int .i64 0, .bool false] 25 (0, 0)))
    have HR := hideQ (heap_alloc_new w (.cells #[.int .i64 0, .int .i64 0, .int .i64 0, .int .i64 0, .int .i64 0, .slice none 0 0, .slice none 0 0, .slice none 0 0, .int .i64 0, .int .i64 0, .int .i64 0, .bool false] 25 (0, 0)))
    refine (badAt_c 4 0 _).mono ?_
    rintro e wB ⟨q, rfl, hB, hq, hb⟩
    have HBL' := hideQ ((unhideQ HBL).trans (hb.mono (by simp)))
    have HR' := hideQ ((hb.block w.heap.size (by simp)).trans (unhideQ HR))
    have HB := hideQ hB
    clear hB hb
    go_wp2_with (refine wpList_store_row rfl 25 (.tmp 2) (.tmp 10) rfl w.heap.size _ rfl rfl 25 _ (unhideQ HR') Tryz.infTab rfl (by simp [Value.oneCell']) ?_)
    refine bodyPost_ret (results_row_tmp (fn := Tryz.f35) (p := 2) (u := 3) (ty := 25) rfl _ _ w.heap.size 25 #[.int .i64 0, .int .i64 0, .int .i64 0, .int .i64 0, .int .i64 0, .slice none 0 0, .slice none 0 0, .slice none 0 0, .int .i64 0, .int .i64 0, .int .i64 0, .bool false] (0, 0) _ rfl (setRow_heap _ _ _ _ _ _ (unhideQ HR')) Tryz.underlying25 rfl Tryz.infTab) rfl ?_
    refine ⟨below_setRow (unhideQ HBL') (Nat.le_refl _) _, _, _, rfl, rfl, by simp [Value.oneCell'], ?_⟩
    unfold ParsedM
    rw [hF]
    exact ⟨rfl, q, rfl, by first | omega | (simp at hq; omega), (unhideQ HB).setRow (by first | omega | (simp at hq; omega)) _⟩
  · go_enter Tryz.func35, Tryz.ntmps35
    go_wp2_with fail
    refine (cut_c s _ (by omega) ((unhideQ HU).below ((Below.refl w.heap.size w).alloc (Nat.le_refl _) _) (unhideQ HU).lt)).mono ?_
    rintro e w1 ⟨v, r, rfl, hb1, hm⟩
    have HBL := hideQ (((Below.refl w.heap.size w).alloc (Nat.le_refl _) _).trans (hb1.mono (by simp)))
    have HR := hideQ ((hb1.block w.heap.size (by simp)).trans (heap_alloc_new w _))
    have hsz1 := hb1.size
    simp only [World.size_alloc] at hsz1
    clear hb1
    cases hc : cutF s s.size 0 false [] with
    | inl p =>
      rw [hc] at hm
      simp only at hm
      subst hm
      have hF : parseF s = .inl (1, p) := by unfold parseF; rw [if_neg h4, hc]
      go_wp2_with fail
      refine (badAt_c 1 p _).mono ?_
      rintro e wB ⟨q, rfl, hB, hq, hb⟩
      have HBL' := hideQ ((unhideQ HBL).trans (hb.mono (by omega)))
      have HR' := hideQ ((hb.block w.heap.size (by omega)).trans (unhideQ HR))
      have HB := hideQ hB
      clear hB hb
      go_wp2_with (refine wpList_store_row rfl 25 (.tmp 2) (.tmp 19) rfl w.heap.size _ rfl rfl 25 _ (unhideQ HR') Tryz.infTab rfl (by simp [Value.oneCell']) ?_)
      refine bodyPost_ret (results_row_tmp (fn := Tryz.f35) (p := 2) (u := 3) (ty := 25) rfl _ _ w.heap.size 25 #[.int .i64 0, .int .i64 0, .int .i64 0, .int .i64 0, .int .i64 0, .slice none 0 0, .slice none 0 0, .slice none 0 0, .int .i64 0, .int .i64 0, .int .i64 0, .bool false] (0, 0) _ rfl (setRow_heap _ _ _ _ _ _ (unhideQ HR')) Tryz.underlying25 rfl Tryz.infTab) rfl ?_
      refine ⟨below_setRow (unhideQ HBL') (Nat.le_refl _) _, _, _, rfl, rfl, by simp [Value.oneCell'], ?_⟩
      unfold ParsedM
      rw [hF]
      exact ⟨rfl, q, rfl, by first | omega | (simp at hq; omega), (unhideQ HB).setRow (by first | omega | (simp at hq; omega)) _⟩
    | inr l =>
      rw [hc] at hm
      simp only at hm
      obtain ⟨rfl, hown⟩ := hm
      have hF : parseF s = parseL s l := by unfold parseF; rw [if_neg h4, hc]
      obtain ⟨hw, hl⟩ := cut_wf hc
      obtain ⟨va, vcap, rfl⟩ : ∃ a cap, v = .slice a l.length cap := by
        rcases hown.shape with ⟨e, rfl⟩ | ⟨g, cap, rfl⟩
        · subst e; exact ⟨_, _, rfl⟩
        · exact ⟨_, _, rfl⟩
      have hvb : (Value.slice va l.length vcap).ownBlock ≠ some w1.heap.size := fun e => by have := (hown.lt _ e).2; omega
      have HO := hideQ hown
      have HW := hideQ hw
      clear hown hw hc
      go_wp2_with (refine wpList_store_row rfl 143 (.tmp 6) (.tmp 24) rfl w1.heap.size _ rfl rfl 143 _ (heap_alloc_new _ _) Tryz.infRdr rfl (by simp [Value.oneCell']) ?_; rw [alloc_setRow])
      have hlow : ∀ X, Below w1.heap.size w1 (w1.alloc X) := fun X => (Below.refl _ _).alloc (Nat.le_refl _) _
      have hgw : ∀ X, w.grownBy (w1.alloc X) (some w.heap.size) := fun X => gb_of_below ((unhideQ HBL).trans ((hlow X).mono (by omega)))
      have HOA := hideQ (fun X => (unhideQ HO).below (hlow X))
      have HIA := hideQ (fun X => (unhideQ HI).grown (hgw X) (Nat.ne_of_lt hit))
      have HRA := hideQ (fun X => (al_old w1 X w.heap.size (by omega)).trans (unhideQ HR))
      have HBA := hideQ (fun X => (unhideQ HBL).trans ((hlow X).mono (by omega)))
      clear hlow hgw
      refine (readItems_c _ w1.heap.size _ (w1.heap.size + 1) s _ S00 _ l (rs_new w1 s l _ _) (by omega) (by simp) (unhideQ HOA _) hvb (by omega) (unhideQ HW) (unhideQ HIA _) (by omega)).mono ?_
      rintro e w2 ⟨rfl, hg2, vs2, hR2⟩
      have hz2 := hg2.size
      simp only [World.size_alloc] at hz2
      have HR2 := hideQ ((hg2.block w.heap.size (by simp; omega) (by simp; omega)).trans (unhideQ HRA _))
      have HB2 := hideQ ((unhideQ HBA _).trans (⟨hg2.os, hg2.tape, hg2.output, Nat.le_trans (by simp; try omega) hg2.size, fun q hq => hg2.block q (by simp; omega) (by simp; omega)⟩ : Below w.heap.size _ w2))
      have HO2 := hideQ ((unhideQ HOA _).grown hg2 hvb)
      have HI2 := hideQ ((unhideQ HIA _).grown hg2 (by omega))
      have HRS := hideQ hR2
      clear hg2 hR2 HOA HIA HRA HBA
      cases hok : (itemsF s l l.length S00).1 with
      | false =>
        have HF' : parseF s = .inl (1, atAt s l (itemsF s l l.length S00).2.i) := by
          rw [hF]; unfold parseL; rw [if_neg (by simp [hok])]
        go_wp2_with fail
        refine (place_c w2 w1.heap.size _ s _ _ _ _ l (unhideQ HRS).rdr (unhideQ HO2) (by omega) (unhideQ HRS).fit).mono ?_
        rintro e w3 ⟨rfl, hb3⟩
        have hz3 := hb3.size
        have HB3 := hideQ ((unhideQ HB2).trans (hb3.mono (by omega)))
        have HR3 := hideQ ((hb3.block w.heap.size (by omega)).trans (unhideQ HR2))
        clear hb3
        go_wp2_with fail
        refine (badAt_c 1 (atAt s l (itemsF s l l.length S00).2.i) _).mono ?_
        rintro e wB ⟨q, rfl, hB, hq, hb⟩
        have HBL' := hideQ ((unhideQ HB3).trans (hb.mono (by omega)))
        have HR' := hideQ ((hb.block w.heap.size (by omega)).trans (unhideQ HR3))
        have HB := hideQ hB
        clear hB hb
        go_wp2_with (refine wpList_store_row rfl 25 (.tmp 2) (.tmp 31) rfl w.heap.size _ rfl rfl 25 _ (unhideQ HR') Tryz.infTab rfl (by simp [Value.oneCell']) ?_)
        refine bodyPost_ret (results_row_tmp (fn := Tryz.f35) (p := 2) (u := 3) (ty := 25) rfl _ _ w.heap.size 25 #[.int .i64 0, .int .i64 0, .int .i64 0, .int .i64 0, .int .i64 0, .slice none 0 0, .slice none 0 0, .slice none 0 0, .int .i64 0, .int .i64 0, .int .i64 0, .bool false] (0, 0) _ rfl (setRow_heap _ _ _ _ _ _ (unhideQ HR')) Tryz.underlying25 rfl Tryz.infTab) rfl ?_
        refine ⟨below_setRow (unhideQ HBL') (Nat.le_refl _) _, _, _, rfl, rfl, by simp [Value.oneCell'], ?_⟩
        unfold ParsedM
        rw [HF']
        exact ⟨rfl, q, rfl, by first | omega | (simp at hq; omega), (unhideQ HB).setRow (by first | omega | (simp at hq; omega)) _⟩
      | true =>
        go_wp2_with fail
        refine (hasAll_c w2 w1.heap.size s _ _ _ _ (unhideQ HRS).rdr (unhideQ HI2)).mono ?_
        rintro e w3 ⟨rfl, h3⟩
        subst w3
        cases hall : allB (itemsF s l l.length S00).2.sn with
        | false =>
          have HF' : parseF s = .inl (1, atAt s l (itemsF s l l.length S00).2.i) := by
            rw [hF]; unfold parseL; rw [if_neg (by simp [hall])]
          go_wp2_with fail
          refine (place_c w2 w1.heap.size _ s _ _ _ _ l (unhideQ HRS).rdr (unhideQ HO2) (by omega) (unhideQ HRS).fit).mono ?_
          rintro e w3 ⟨rfl, hb3⟩
          have hz3 := hb3.size
          have HB3 := hideQ ((unhideQ HB2).trans (hb3.mono (by omega)))
          have HR3 := hideQ ((hb3.block w.heap.size (by omega)).trans (unhideQ HR2))
          clear hb3
          go_wp2_with fail
          refine (badAt_c 1 (atAt s l (itemsF s l l.length S00).2.i) _).mono ?_
          rintro e wB ⟨q, rfl, hB, hq, hb⟩
          have HBL' := hideQ ((unhideQ HB3).trans (hb.mono (by omega)))
          have HR' := hideQ ((hb.block w.heap.size (by omega)).trans (unhideQ HR3))
          have HB := hideQ hB
          clear hB hb
          go_wp2_with (refine wpList_store_row rfl 25 (.tmp 2) (.tmp 31) rfl w.heap.size _ rfl rfl 25 _ (unhideQ HR') Tryz.infTab rfl (by simp [Value.oneCell']) ?_)
          refine bodyPost_ret (results_row_tmp (fn := Tryz.f35) (p := 2) (u := 3) (ty := 25) rfl _ _ w.heap.size 25 #[.int .i64 0, .int .i64 0, .int .i64 0, .int .i64 0, .int .i64 0, .slice none 0 0, .slice none 0 0, .slice none 0 0, .int .i64 0, .int .i64 0, .int .i64 0, .bool false] (0, 0) _ rfl (setRow_heap _ _ _ _ _ _ (unhideQ HR')) Tryz.underlying25 rfl Tryz.infTab) rfl ?_
          refine ⟨below_setRow (unhideQ HBL') (Nat.le_refl _) _, _, _, rfl, rfl, by simp [Value.oneCell'], ?_⟩
          unfold ParsedM
          rw [HF']
          exact ⟨rfl, q, rfl, by first | omega | (simp at hq; omega), (unhideQ HB).setRow (by first | omega | (simp at hq; omega)) _⟩
        | true =>
          have HP : parseL s l = .inr (itemsF s l l.length S00).2 := by
            unfold parseL; rw [if_pos ⟨hok, hall⟩]
          go_wp2_with fail
          refine (table_c w2 w1.heap.size (w1.heap.size + 1) s l _ _ vs2 (unhideQ HRS) HP).mono ?_
          rintro e w3 ⟨rfl, hb3⟩
          have hz3 := hb3.size
          have HB3 := hideQ ((unhideQ HB2).trans (hb3.mono (by omega)))
          have HR3 := hideQ ((hb3.block w.heap.size (by omega)).trans (unhideQ HR2))
          have HRW := hideQ (fun k hk => ((unhideQ HRS).below hb3).row k hk)
          have HAP := hideQ (show Apart3 (vs2 4) (vs2 5) (vs2 6) from fun g => ⟨fun h => ⟨(unhideQ HRS).apart 4 5 (by decide) (by decide) (by decide) g h, (unhideQ HRS).apart 4 6 (by decide) (by decide) (by decide) g h⟩, fun h => (unhideQ HRS).apart 5 6 (by decide) (by decide) (by decide) g h⟩)
          clear hb3
          have shp : ∀ k, k < 11 → ∃ a n p, vs2 k = .slice a n p := fun k hk => by
            rcases (unhideQ HRW k hk).2 with ⟨e, _⟩ | ⟨g, cap, cur, e, -⟩
            · exact ⟨_, _, _, e⟩
            · exact ⟨_, _, _, e⟩
          obtain ⟨a4, n4, p4, v4⟩ := shp 4 (by decide)
          obtain ⟨a5, n5, p5, v5⟩ := shp 5 (by decide)
          obtain ⟨a6, n6, p6, v6⟩ := shp 6 (by decide)
          have hA1 : (boxOf (((itemsF s l l.length S00).2.vals 0).getD 0 0) (((itemsF s l l.length S00).2.vals 1).getD 0 0) (((itemsF s l l.length S00).2.vals 2).getD 0 0) (((itemsF s l l.length S00).2.vals 3).getD 0 0) (((itemsF s l l.length S00).2.vals 3).getD 1 0) (vs2 4) (vs2 5) (vs2 6) (((itemsF s l l.length S00).2.vals 7).getD 0 0) (((itemsF s l l.length S00).2.vals 8).getD 0 0) (((itemsF s l l.length S00).2.vals 9).getD 0 0) ((itemsF s l l.length S00).2.sn 10)).size = 12 := rfl
          have hA2 : (boxOf (((itemsF s l l.length S00).2.vals 0).getD 0 0) (((itemsF s l l.length S00).2.vals 1).getD 0 0) (((itemsF s l l.length S00).2.vals 2).getD 0 0) (((itemsF s l l.length S00).2.vals 3).getD 0 0) (((itemsF s l l.length S00).2.vals 3).getD 1 0) (vs2 4) (vs2 5) (vs2 6) (((itemsF s l l.length S00).2.vals 7).getD 0 0) (((itemsF s l l.length S00).2.vals 8).getD 0 0) (((itemsF s l l.length S00).2.vals 9).getD 0 0) ((itemsF s l l.length S00).2.sn 10)).all (·.oneCell') = true := by rw [v4, v5, v6]; simp [boxOf, Value.oneCell']
          clear v4 v5 v6 shp
          unfold tabV
          generalize hA : boxOf (((itemsF s l l.length S00).2.vals 0).getD 0 0) (((itemsF s l l.length S00).2.vals 1).getD 0 0) (((itemsF s l l.length S00).2.vals 2).getD 0 0) (((itemsF s l l.length S00).2.vals 3).getD 0 0) (((itemsF s l l.length S00).2.vals 3).getD 1 0) (vs2 4) (vs2 5) (vs2 6) (((itemsF s l l.length S00).2.vals 7).getD 0 0) (((itemsF s l l.length S00).2.vals 8).getD 0 0) (((itemsF s l l.length S00).2.vals 9).getD 0 0) ((itemsF s l l.length S00).2.sn 10) = arr at hA1 hA2 ⊢
          go_wp2_with (refine wpList_store_row rfl 25 (.tmp 2) (.tmp 34) rfl w.heap.size arr rfl rfl 25 _ (unhideQ HR3) (Tryz.infTab.trans (congrArg some hA1.symm)) hA1.symm hA2 ?_)
          refine bodyPost_ret (results_row_tmp (fn := Tryz.f35) (p := 2) (u := 3) (ty := 25) rfl _ _ w.heap.size 25 arr (0, 0) _ rfl (setRow_heap _ _ _ _ _ _ (unhideQ HR3)) Tryz.underlying25 rfl (Tryz.infTab.trans (congrArg some hA1.symm))) rfl ?_
          have row := fun k hk => row_mono (row_kept (unhideQ HRW k hk) (gb_setRow w3 w.heap.size arr) (by omega)) (show w.heap.size ≤ w1.heap.size + 1 by omega)
          refine ⟨below_setRow (unhideQ HB3) (Nat.le_refl _) _, _, _, rfl, hA1, hA2, ?_⟩
          unfold ParsedM
          rw [hF, HP]
          exact ⟨vs2 4, vs2 5, vs2 6, by rw [← hA]; rfl, rfl, row 4 (by decide), row 5 (by decide), row 6 (by decide), unhideQ HAP⟩
end Go.Proofs.YtobempobmokkcaaGreatDoor
