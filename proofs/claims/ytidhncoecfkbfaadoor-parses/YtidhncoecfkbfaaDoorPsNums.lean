/-
  Parses: the reader: readNumbers. Own work of the verifier.
-/
import Derived.Test.YtidhncoecfkbfaaDoorPsRead2
import Derived.Deep.RegionLaw
namespace Go.Proofs.YtidhncoecfkbfaaDoor
open Go.RowKit

theorem step_append_own {P : Program} {ops : Array Oper} {o : Oper} {a : Act} {w : World} {K : Act → World → Prop} {Q : Exit → Act → World → Prop} {E : Prop}
    (hg : o.guard = none) (s x : Operand) (t : TypeId) (ho : o.op = .call { callee := .builtin .append, args := #[s, x], argTypes := #[t, t] })
    (base : Nat) (e : TypeId) (i : TypeInfo) (z : Value) (size bytes : Nat) (ht : P.underlying t = some (.slice e)) (hi : P.info? e = some i) (hz : i.zero = some z)
    (hsize : i.size = size) (hby : i.bytes = bytes) (hzs : z.cells.size = size) (hsz : 0 < size)
    (v : Value) (n : Nat) (xs : List Value) (hs : a.eval s = v) (hown : w.ownsRow base e size v n xs)
    (ad : Addr) (m c : Nat) (news : List Value) (hx : a.eval x = .slice (some ad) m c) (hl : news.length = m * size) (hnews : ∀ j u, news[j]? = some u → w.cell? (ad.add j) = some u) (h1 : ∀ u ∈ news, u.oneCell' = true)
    (h63 : n + m ≤ maxLen) (hbytes : (n + m) * bytes ≤ 140737488355328) (hbase : base ≤ w.heap.size)
    (h : ∀ v' w', w'.ownsRow base e size v' (n + m) (xs ++ news) → w.grownBy w' v.ownBlock → K (a.put o.dst v') w') :
    if Region.wanted o (yielded ops a.tmps) = true then Oper.wp P o a w K Q else E := by
  have hw : Region.wanted o (yielded ops a.tmps) = true := by simp [Region.wanted, hg]
  rw [if_pos hw]
  exact wp_append_own w s x t ho base e i z size bytes ht hi hz hsize hby hzs hsz v n xs hs hown ad m c news hx hl hnews h1 h63 hbytes hbase (fun v' w' h2 h3 _ => h v' w' h2 h3)
theorem Tryd.infoI : (Tryd.prog.info? 3).map (fun i => (i.zero, i.size, i.bytes)) = some (some (.int .i64 0), 1, 8) := by kernel_rfl
def loK (k : Nat) : Nat := ([1, 1, 1, 2, 0, 0, 0, 1, 1, 1, 0] : List Nat).getD k 0
def hiK (k : Nat) : Nat := ([1, 1, 1, 2, 8, 4, 12, 1, 1, 1, 0] : List Nat).getD k 0
theorem hiK_le (k : Nat) : hiK k ≤ 12 := by
  unfold hiK
  match k with
  | 0 | 1 | 2 | 3 | 4 | 5 | 6 | 7 | 8 | 9 | 10 => decide
  | k + 11 => simp
structure Itm (w : World) : Prop where
  items : Items w
  lo : ∀ k, k < 11 → w.cell? ⟨1, k * 5 + 1, none⟩ = some (.int .i64 (loK k))
  hi : ∀ k, k < 11 → w.cell? ⟨1, k * 5 + 2, none⟩ = some (.int .i64 (hiK k))
  spare : ∀ k, k < 11 → w.cell? ⟨1, k * 5 + 4, none⟩ = some (.bool (decide (k = 10)))
theorem Itm.lt {w : World} (h : Itm w) : 1 < w.heap.size := World.block_lt_of_cell? w _ (h.lo 0 (by decide))
theorem Itm.grown {w w' : World} {b : Nat} (h : Itm w) (hg : w.grownBy w' (some b)) (hb : 1 ≠ b) : Itm w' := by
  have e : ∀ o, w'.cell? ⟨1, o, none⟩ = w.cell? ⟨1, o, none⟩ := fun o => World.cell?_of_block (hg.block _ h.lt (by simpa using hb))
  exact ⟨fun k hk => ⟨(e _).trans (h.items k hk).1, (e _).trans (h.items k hk).2⟩, fun k hk => (e _).trans (h.lo k hk), fun k hk => (e _).trans (h.hi k hk), fun k hk => (e _).trans (h.spare k hk)⟩
def iCells (ns : List Int) : List Value := ns.map fun n => .int .i64 n
/-- The numbers behind an item's name. -/
def numsF (s : ByteArray) (l : List Tk) (k : Nat) : Nat → Nat → List Int → Nat × List Int
  | 0, i, ns => (i, ns)
  | f + 1, i, ns => if ns.length < hiK k then (match numF s l i (decide (k = 2)) with | some n => numsF s l k f (i + 1) (ns ++ [n]) | none => (i, ns)) else (i, ns)
def updV (vs : Nat → Value) (k : Nat) (u : Value) : Nat → Value := fun j => if j = k then u else vs j
def lenV : Option Value → Nat
  | some (.slice _ n _) => n
  | _ => 0
theorem gb_high {a c d : World} {b : Nat} {row : Option Nat} (h : a.grownBy c (some b)) (k : c.grownBy d row) (hr : ∀ q, row = some q → a.heap.size ≤ q) : a.grownBy d (some b) :=
  ⟨k.os.trans h.os, k.tape.trans h.tape, k.output.trans h.output, Nat.le_trans h.size k.size, fun q hq hne => (k.block q (Nat.lt_of_lt_of_le hq h.size) (fun e => by have := hr q e.symm; omega)).trans (h.block q hq hne)⟩
structure NumI (s : ByteArray) (l : List Tk) (w wr : World) (b : Nat) (v : Value) (sn : Nat → Bool) (vs : Nat → Value) (k i0 : Nat) (f i : Nat) (ns : List Int) (u : Value) : Prop where
  rdr : Rdr wr b s v i sn (updV vs k u)
  row : wr.ownsRow w.heap.size 3 1 u ns.length (iCells ns)
  gb : w.grownBy wr (some b)
  eq : numsF s l k f i ns = numsF s l k 13 i0 []
  fuel : 13 ≤ ns.length + f
  len : ns.length ≤ 12
  fit : i ≤ l.length
theorem NumI.below {s : ByteArray} {l : List Tk} {w wr wr' : World} {b : Nat} {v : Value} {sn : Nat → Bool} {vs : Nat → Value} {k i0 f i : Nat} {ns : List Int} {u : Value} (h : NumI s l w wr b v sn vs k i0 f i ns u) (hb : Below wr.heap.size wr wr') : NumI s l w wr' b v sn vs k i0 f i ns u :=
  ⟨h.rdr.below hb, World.ownsRow.kept h.row (gb_of_below (row := none) hb) (by cases u.ownBlock <;> simp), gb_trans h.gb (gb_of_below hb), h.eq, h.fuel, h.len, h.fit⟩
theorem NumI.next {s : ByteArray} {l : List Tk} {w wr w1 : World} {b : Nat} {v : Value} {sn : Nat → Bool} {vs : Nat → Value} {k i0 f i : Nat} {ns : List Int} {u : Value} (h : NumI s l w wr b v sn vs k i0 f i ns u) (hg : wr.grownBy w1 (some b)) (hb : b < w.heap.size) : w1.ownsRow w.heap.size 3 1 u ns.length (iCells ns) ∧ w.grownBy w1 (some b) :=
  ⟨World.ownsRow.kept h.row hg (Or.inr (fun e => by have := (h.row.lt b e).1; omega)), gb_trans h.gb hg⟩
theorem numF_fit {s : ByteArray} {l : List Tk} {i : Nat} {d : Bool} {n : Int} (h : numF s l i d = some n) : i < l.length := by
  unfold numF at h
  have : kAt l i ≠ 0 := fun e => by simp [e] at h
  unfold kAt at this
  split at this
  · rename_i t ht; exact (List.getElem?_eq_some_iff.1 ht).1
  · simp at this
theorem own1_form {w : World} {base n : Nat} {v : Value} {xs : List Value} (h : w.ownsRow base 3 1 v (n + 1) xs) : ∃ g cap, v = .slice (some ⟨g, 0, none⟩) (n + 1) cap := by
  rcases h.2 with ⟨_, e⟩ | ⟨g, cap, cur, e, -⟩
  · omega
  · exact ⟨g, cap, e⟩
theorem Rdr.set_val {w : World} {b : Nat} {s : ByteArray} {v : Value} {i : Nat} {sn : Nat → Bool} {vs : Nat → Value} {u : Value} (h : Rdr w b s v i sn vs) (k : Nat) (hk : k < 11) : Rdr (w.setCell ⟨b, 14 + k, none⟩ u) b s v i sn (updV vs k u) := by
  have e : ∀ o, o ≠ 14 + k → (w.setCell ⟨b, 14 + k, none⟩ u).cell? ⟨b, o, none⟩ = w.cell? ⟨b, o, none⟩ := fun o ho => World.cell?_setCell_other _ _ _ _ (by intro e; simp at e; first | done | omega)
  refine ⟨(e _ (by omega)).trans h.txt, (e _ (by omega)).trans h.pcs, (e _ (by omega)).trans h.nxt, fun j hj => (e _ (by omega)).trans (h.seen j hj), fun j hj => ?_, fun j => by rw [World.frozen?_setCell]; exact h.frz j⟩
  by_cases hjk : j = k
  · subst hjk; simp only [updV, if_true]; exact World.cell?_setCell_same _ _ _ (h.vals j hj)
  · simp only [updV, hjk, if_false]; exact (e _ (by omega)).trans (h.vals j hj)
theorem Rdr.of_block {w w' : World} {b : Nat} {s : ByteArray} {v : Value} {i : Nat} {sn : Nat → Bool} {vs : Nat → Value} (h : Rdr w b s v i sn vs) (hb : w'.heap[b]? = w.heap[b]?) : Rdr w' b s v i sn vs := by
  have e : ∀ o, w'.cell? ⟨b, o, none⟩ = w.cell? ⟨b, o, none⟩ := fun o => World.cell?_of_block hb
  exact ⟨(e _).trans h.txt, (e _).trans h.pcs, (e _).trans h.nxt, fun k hk => (e _).trans (h.seen k hk), fun k hk => (e _).trans (h.vals k hk), fun j => (World.frozen?_of_block (a := ⟨b, j, none⟩) hb).trans (h.frz j)⟩
theorem updV_updV (vs : Nat → Value) (k : Nat) (u u' : Value) : updV (updV vs k u) k u' = updV vs k u' := funext fun j => by unfold updV; split <;> rfl
set_option maxHeartbeats 4000000 in
set_option maxRecDepth 100000 in
theorem readNumbers_c (k : Nat) (hk : k < 11) (w : World) (b base : Nat) (s : ByteArray) (v : Value) (i : Nat) (sn : Nat → Bool) (vs : Nat → Value) (l : List Tk) (h : Rdr w b s v i sn vs) (hv : vs k = .slice none 0 0) (ho : Own3 w base v l) (hvb : v.ownBlock ≠ some b) (hl : l.length ≤ 400) (hi : i ≤ l.length) (hw : WfT s l) (hI : Itm w) (hbI : 1 ≠ b) :
    Calls Tryd.prog 106 #[.pointer (some ⟨b, 0, none⟩), .int .i64 k] w fun e w' => ∃ f i' ns u, NumI s l w w' b v sn vs k i f i' ns u ∧ (i', ns) = numsF s l k 13 i [] ∧ e = .returned (.bool (decide (loK k ≤ ns.length))) := by
  obtain ⟨ti, hti, hz0, hz1, hz2⟩ := info_partsP Tryd.infoI
  have hb0 : b < w.heap.size := World.block_lt_of_cell? w _ h.txt
  have HH := hideQ (show Rdr w b s v i sn (updV vs k (.slice none 0 0)) by
    have e : updV vs k (.slice none 0 0) = vs := funext fun j => by
      unfold updV
      split
      · rename_i hj; rw [hj, hv]
      · rfl
    rw [e]; exact h)
  have HO := hideQ ho
  have HW := hideQ hw
  have HIt := hideQ hI
  clear h hv ho hw hI
  go_enter Tryd.func106, Tryd.ntmps106
  go_wp2_with fail
  go_loopw [5] (fun _ wr => ∃ f i' ns u, NumI s l w wr b v sn vs k i f i' ns u) (fun _ wr => 13 - lenV (wr.cell? ⟨b, 14 + k, none⟩))
  case atStart => exact ⟨13, i, [], _, ⟨unhideQ HH, World.ownsRow_nil _ _ _ _, ⟨rfl, rfl, rfl, Nat.le_refl _, fun _ _ _ => rfl⟩, rfl, by simp, by simp, hi⟩⟩
  case round =>
    obtain ⟨f, i', ns, u, hN⟩ := hrel
    have cu : _ = some u := (hN.rdr.vals k hk).trans (by simp [updV])
    have It := (unhideQ HIt).grown hN.gb hbI
    have ch := It.hi k hk
    have cl := It.lo k hk
    have cd := (It.items k hk).2
    obtain ⟨ua, ucap, rfl⟩ : ∃ ua ucap, u = .slice ua ns.length ucap := by
      rcases hN.row.2 with ⟨e1, e2⟩ | ⟨g, cap, cur, e1, -⟩
      · rw [e2]; exact ⟨_, _, e1⟩
      · exact ⟨_, _, e1⟩
    have h12 := hiK_le k
    have hlen := hN.len
    have HN := hideQ hN
    clear hN It
    by_cases hlt : ns.length < hiK k
    · have HC := hideQ (readNumber_c (decide (k = 2)) wr.drew b base s v i' sn _ l ((unhideQ HN).below (by go_grown)).rdr ((unhideQ HO).grown ((unhideQ HN).below (wr' := wr.drew) (by go_grown)).gb hvb) hl (unhideQ HN).fit (unhideQ HW))
      cases hnf : numF s l i' (decide (k = 2)) with
      | none =>
        have hE : (i', ns) = numsF s l k 13 i [] := by
          rw [← (unhideQ HN).eq]
          cases f <;> simp [numsF, hnf]
        rw [hnf] at HC
        simp only [Option.getD_none, Option.isSome_none, Bool.false_eq_true, if_false] at HC
        generalize hn : ns.length = n at *
        generalize hiK k = hh at *
        generalize decide (k = 2) = dd at *
        go_wp2
        go_region
        all_goals go_wp2_with fail
        all_goals refine (unhideQ HC).mono ?_
        all_goals rintro e w1 ⟨rfl, hg1, hr1⟩
        all_goals
          have hx := ((unhideQ HN).below (wr' := wr.drew) (by go_grown)).next hg1 hb0
          have N1 : NumI s l w w1 b v sn vs k i f i' ns (.slice ua n ucap) := ⟨hr1, hx.1, hx.2, (unhideQ HN).eq, (unhideQ HN).fuel, (unhideQ HN).len, (unhideQ HN).fit⟩
          have It1 := (unhideQ HIt).grown hx.2 hbI
          have cl1 := It1.lo k hk
          have cu1 : w1.cell? ⟨b, 14 + k, none⟩ = some (.slice ua n ucap) := (hr1.vals k hk).trans (by simp [updV])
          have HN1 := hideQ N1
          clear hx N1 It1 hg1 hr1
          go_wp2
          go_region
          all_goals go_wp2
          all_goals go_ret
          all_goals exact ⟨f, i', ns, _, (unhideQ HN1).below (by go_grown), hE, by simp [hn]⟩
      | some z =>
        rw [hnf] at HC
        simp only [Option.getD_some, Option.isSome_some, if_true] at HC
        obtain ⟨f, rfl⟩ : ∃ f', f = f' + 1 := ⟨f - 1, by have := (unhideQ HN).fuel; omega⟩
        have hE : numsF s l k f (i' + 1) (ns ++ [z]) = numsF s l k 13 i [] := by
          rw [← (unhideQ HN).eq]
          simp [numsF, hlt, hnf]
        have hfit := numF_fit hnf
        have HE := hideQ hE
        clear hE hnf
        generalize hn : ns.length = n at *
        generalize hiK k = hh at *
        generalize decide (k = 2) = dd at *
        go_wp2
        go_region
        all_goals go_wp2_with fail
        all_goals refine (unhideQ HC).mono ?_
        all_goals rintro e w1 ⟨rfl, hg1, hr1⟩
        all_goals
          have hx := ((unhideQ HN).below (wr' := wr.drew) (by go_grown)).next hg1 hb0
          rw [hn] at hx
          have HROW := hideQ hx.1
          have HGB := hideQ hx.2
          have hsz1 := hx.2.size
          have cu1 : w1.cell? ⟨b, 14 + k, none⟩ = some (.slice ua n ucap) := (hr1.vals k hk).trans (by simp [updV])
          have hb1 : b < w1.heap.size := World.block_lt_of_cell? w1 _ cu1
          have cu2 : (w1.alloc (.cells #[.int .i64 z] 3)).cell? ⟨b, 14 + k, none⟩ = some (.slice ua n ucap) := (World.cell?_alloc_lt _ _ ⟨b, 14 + k, none⟩ hb1).trans cu1
          have cf2 : (w1.alloc (.cells #[.int .i64 z] 3)).frozen? ⟨b, 14 + k, none⟩ = false := (World.frozen?_alloc_old _ _ ⟨b, 14 + k, none⟩ (by show b ≠ _; omega)).trans (hr1.frz (14 + k))
          have hkI : (k : Int) < 11 := by omega
          have HR1 := hideQ hr1
          clear hx hg1 hr1
          go_wp2
          go_region_law (refine step_append_own rfl (.tmp 37) (.tmp 39) 43 rfl w.heap.size 3 ti _ 1 8 Tryd.underlying43 hti hz0 hz1 hz2 rfl (by decide) (.slice ua n ucap) n (iCells ns) (by simp [Act.eval]) ((unhideQ HROW).alloc _) ⟨w1.heap.size, 0, none⟩ 1 1 [.int .i64 z] (by simp [Act.eval]) rfl (by intro j u hj; match j, hj with | 0, hj => simp at hj; subst hj; simp [Addr.add]) (by intro u hu; simp at hu; subst hu; rfl) (by unfold maxLen; omega) (by omega) (by simp; omega) ?_; intro v' w2 hown hgr; obtain ⟨g2, cap2, rfl⟩ := own1_form hown; have hblk := hgr.block b (by simp; omega) (by intro e; have := ((unhideQ HROW).lt b e.symm).1; omega); have cu3 : w2.cell? ⟨b, 14 + k, none⟩ = some (.slice ua n ucap) := (World.cell?_of_block hblk).trans cu2; have cf3 : w2.frozen? ⟨b, 14 + k, none⟩ = false := (World.frozen?_of_block (a := ⟨b, 14 + k, none⟩) hblk).trans cf2; have HBK := hideQ hblk; have HOWN := hideQ hown; have HGR := hideQ hgr; clear hown hgr hblk)
          all_goals go_wp2
          all_goals
            go_roundw
            case rel =>
              refine ⟨f, i' + 1, ns ++ [z], .slice (some ⟨g2, 0, none⟩) (n + 1) cap2, ⟨?_, ?_, gb_trans (gb_high (gb_trans (unhideQ HGB) (gb_of_below (show Below w1.heap.size w1 (w1.alloc (.cells #[.int .i64 z] 3)).drew by go_grown))) (unhideQ HGR) (fun q hq => ((unhideQ HROW).lt q hq).1)) (gb_set _ _ _ _), unhideQ HE, by have := (unhideQ HN).fuel; simp; omega, by simp; omega, by omega⟩⟩
              · have h1 := ((unhideQ HR1).of_block ((unhideQ HBK).trans (Lib.alloc_old w1 _ b hb1))).set_val (u := .slice (some ⟨g2, 0, none⟩) (n + 1) cap2) k hk
                rw [updV_updV] at h1
                exact h1
              · have h1 := ownsRow_setCell_below (unhideQ HOWN) (a := ⟨b, 14 + k, none⟩) hb0 (.slice (some ⟨g2, 0, none⟩) (n + 1) cap2)
                have e1 : iCells (ns ++ [z]) = iCells ns ++ [.int .i64 z] := by simp [iCells]
                have e2 : (ns ++ [z]).length = n + 1 := by simp [hn]
                rw [e1, e2]
                exact h1
            case measure =>
              rw [World.cell?_setCell_same _ _ _ cu3, cu]
              simp only [lenV]
              omega
    · have hE : (i', ns) = numsF s l k 13 i [] := by
        rw [← (unhideQ HN).eq]
        cases f <;> simp [numsF, hlt]
      generalize hn : ns.length = n at *
      generalize hiK k = hh at *
      go_wp2
      go_region
      all_goals go_wp2
      all_goals go_region
      all_goals go_wp2
      all_goals go_ret
      all_goals exact ⟨f, i', ns, _, (unhideQ HN).below (by go_grown), hE, by simp [hn]⟩
end Go.Proofs.YtidhncoecfkbfaaDoor
