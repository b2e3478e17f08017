/-
  Encodes: lists of structs by their contracts. Own work of the verifier.
-/
import Derived.Test.YthnmdbddfmgdlaaDoorEncL
import Derived.Deep.MidRow
import Derived.Laws.Tables
import Derived.Laws.Rows
namespace Go.Proofs.YthnmdbddfmgdlaaDoor
open Go.RowKit

/-- A list of structs that lies below the writer: each one's cells, and what it stands for. -/
def LsB {α : Type} (size : Nat) (w : World) (b : Nat) (v : Value) (ps : List (Array Value × α)) : Prop := (ps = [] ∧ ∃ p cap, v = .slice p 0 cap) ∨ ∃ sb so cap, v = .slice (some ⟨sb, so, none⟩) ps.length cap ∧ sb < b ∧ ∀ i (hi : i < ps.length), w.rangeAt sb (so + i * size) ps[i].1.toList
theorem LsB.ws {α : Type} {size : Nat} {w w' : World} {b : Nat} {v : Value} {ps : List (Array Value × α)} (h : LsB size w b v ps) (hw : Ws w w' b) : LsB size w' b v ps := by
  rcases h with h | ⟨sb, so, cap, h1, h2, h3⟩
  · exact Or.inl h
  · exact Or.inr ⟨sb, so, cap, h1, h2, fun i hi j x hx => (hw.low.cell (p := ⟨sb, so + i * size + j, none⟩) h2).trans (h3 i hi j x hx)⟩
theorem LsB.shape {α : Type} {size : Nat} {w : World} {b : Nat} {v : Value} {ps : List (Array Value × α)} (h : LsB size w b v ps) : ∃ p cap, v = .slice p ps.length cap := by
  rcases h with ⟨rfl, p, cap, e⟩ | ⟨sb, so, cap, e, _⟩
  · exact ⟨p, cap, e⟩
  · exact ⟨_, _, e⟩
theorem take_mid {α : Type} {ps : List α} {k : Nat} (hk : k < ps.length) : ps.take (k + 1) = ps.take k ++ [ps[k]] := List.take_succ_eq_append_getElem hk
theorem ws_alloc (w : World) (o : Obj) (b : Nat) (hb : b ≤ w.heap.size) : Ws w (w.alloc o) b := ⟨(Below.refl b w).alloc hb o, oth_alloc w o b⟩
theorem Wt.alloc {w : World} {b : Nat} {v : Value} {l : List UInt8} (h : Wt w b v l) (o : Obj) : Wt (w.alloc o) b v l :=
  have hbl := World.block_lt_of_cell? w _ h.cell
  have e := ((Below.refl w.heap.size w).alloc (Nat.le_refl _) o).block b hbl
  ⟨(World.cell?_of_block e).trans h.cell, (World.frozen?_of_block (a := ⟨b, 0, none⟩) e).trans h.fz, h.row.alloc o⟩
theorem Wt.lt {w : World} {b : Nat} {v : Value} {l : List UInt8} (h : Wt w b v l) : b < w.heap.size := World.block_lt_of_cell? w _ h.cell
theorem setRow_alloc (w : World) (z cs : Array Value) (t : TypeId) (fr : Nat × Nat) : (w.alloc (.cells z t fr)).setRow w.heap.size cs = w.alloc (.cells cs t fr) := by
  unfold World.setRow World.alloc
  simp only [World.mk.injEq, and_true]
  apply Array.ext
  · simp
  · intro k h1 h2
    simp only [Array.getElem_modify, Array.getElem_push]
    split
    · rename_i h; subst h; simp
    · rename_i h
      have : k < w.heap.size := by simp at h1; omega
      simp [this]
theorem Tryd.infParams : (Tryd.prog.info? 60).map (·.size) = some 2 := by kernel_rfl
set_option maxHeartbeats 4000000 in
set_option maxRecDepth 100000 in
theorem writeParams_c {α : Type} (F : Nat) (hcf : ∀ args w, (callFunc F args).run Tryd.prog w = .ok (.enter F args) w) (one : α → Option (List UInt8)) (K : Nat) (hK : ∀ x bs, one x = some bs → bs.length ≤ K) (hK2 : K ≤ 1000000) (b : Nat) (M : Nat) (hM : M ≤ 90000000000) (ps : List (Array Value × α)) (w : World)
    (hsz : ∀ p ∈ ps, p.1.size = 2 ∧ p.1.all (·.oneCell') = true)
    (hone : ∀ p ∈ ps, ∀ v l w', Ws w w' b → Wt w' b v l → l.length ≤ M + 1000000001 → Calls Tryd.prog F #[.pointer (some ⟨b, 0, none⟩), .agg p.1] w' (EncE b l (one p.2) w'))
    (lo hi : Int) (hhi : hi ≤ 1000) (v : Value) (l : List UInt8) (lv : Value) (h : Wt w b v l) (hl : l.length ≤ M) (hns : LsB 2 w b lv ps) (hlen : ps.length < 9223372036854775808) :
    Calls Tryd.prog 61 #[.pointer (some ⟨b, 0, none⟩), lv, .int .i64 lo, .int .i64 hi, .func (.func F) #[.pointer (some ⟨b, 0, none⟩)] #[]] w (EncE b l (encL lo hi one (ps.map (·.2))) w) := by
  obtain ⟨pp, cap, hlv⟩ := hns.shape
  have HN := hideE hns
  subst hlv
  have HNC := hideE (number_c b v l ps.length lo hi w h (by omega))
  have HONE := hideE hone
  have HSZ := hideE hsz
  have HK := hideE hK
  clear hone hK h hns hsz
  go_enter Tryd.func61, Tryd.ntmps61
  go_wp2_with fail
  refine (unhideE HNC).mono ?_
  rintro e w1 ⟨hws, hm⟩
  cases hr : encNum lo hi ps.length with
  | none =>
    rw [hr] at hm
    subst hm
    refine ⟨rfl, hws, ?_⟩
    unfold encL
    rw [List.length_map, hr]
    rfl
  | some bs =>
    rw [hr] at hm
    obtain ⟨rfl, v1, hw1⟩ := hm
    have hb1 := encNum_len hr
    have hle : lo ≤ ps.length ∧ (ps.length : Int) ≤ hi := by
      unfold encNum at hr
      split at hr
      · assumption
      · cases hr
    have HWS := hideE hws
    have HW1 := hideE hw1
    have HR := hideE hr
    clear hws hw1 hr HNC
    go_wp2_with fail
    go_loopw [20] (fun j w' => ∃ (k : Nat) (v' : Value) (cs : List UInt8), j = .int .i64 k ∧ k ≤ ps.length ∧ Ws w w' b ∧ encAll one ((ps.take k).map (·.2)) = some cs ∧ Wt w' b v' (l ++ bs ++ cs)) (fun j _ => ps.length - (intOf j).toNat)
    case atStart => exact ⟨0, v1, [], rfl, by omega, unhideE HWS, by simp [encAll], by simpa using unhideE HW1⟩
    case round =>
      obtain ⟨k, v', cs, rfl, hk, hws', hcs, hwt⟩ := hrel
      have hcl := encAll_len one K (unhideE HK) _ _ hcs
      have hbw := hwt.lt
      have HWS' := hideE hws'
      have HCS := hideE hcs
      have HWT := hideE hwt
      clear hws' hcs hwt
      by_cases hlt : k < ps.length
      · obtain ⟨sb, so, cap', hv, hsb, hc⟩ := ((unhideE HN).ws (unhideE HWS')).resolve_left (fun c => by rw [c.1] at hlt; simp at hlt)
        injection hv with e1 e2 e3
        subst e1
        have hrg := hideE (hc k hlt)
        have hkl : K * (ps.take k).length ≤ 1000000 * 1000 := Nat.mul_le_mul hK2 (by simp; omega)
        simp only [List.length_map] at hcl
        have hmem : ps[k] ∈ ps := List.getElem_mem hlt
        obtain ⟨hs1, hs2⟩ := unhideE HSZ ps[k] hmem
        have HCALL := hideE (fun X : Obj => unhideE HONE ps[k] hmem v' (l ++ bs ++ cs) (wr.alloc X) ((unhideE HWS').trans (ws_alloc wr X b (by omega))) ((unhideE HWT).alloc X) (by simp [hb1]; omega))
        have hsn := encAll_snoc one ((ps.take k).map (·.2)) ps[k].2
        rw [show (ps.take k).map (·.2) ++ [ps[k].2] = (ps.take (k + 1)).map (·.2) by rw [take_mid hlt, List.map_append]; rfl, unhideE HCS] at hsn
        have HSN := hideE hsn
        have HAN := hideE (fun hn => encAll_none one ((ps.take (k + 1)).map (·.2)) ((ps.drop (k + 1)).map (·.2)) hn)
        clear hc hsn e2 e3 hmem
        generalize ps[k] = y at hrg HCALL HSN hs1 hs2
        obtain ⟨arr, y⟩ := y
        simp only at hrg HCALL HSN hs1 hs2
        go_wp2_with (first | (refine wpList_load_mid rfl 60 (.tmp 22) rfl sb (so + k * 2) rfl arr.toList _ (unhideE hrg) Tryd.underlying60 rfl (Tryd.infParams.trans (congrArg some (by simp [hs1]))) ?_; simp only [Array.toArray_toList]) | (refine wpList_store_row rfl 60 (.tmp 11) (.tmp 23) rfl wr.heap.size arr rfl rfl 60 _ (heap_alloc_new _ _) (Tryd.infParams.trans (congrArg some hs1.symm)) hs1.symm hs2 ?_; rw [setRow_alloc]) | refine wpList_load_row rfl 60 (.tmp 11) rfl wr.heap.size rfl 60 arr (0, 0) _ (heap_alloc_new _ _) Tryd.underlying60 rfl (Tryd.infParams.trans (congrArg some hs1.symm)) ?_)
        refine (unhideE HCALL _).mono ?_
        rintro e w2 ⟨hws2, hm⟩
        have HWS2 := hideE (((unhideE HWS').trans (ws_alloc wr _ b (by omega))).trans hws2)
        clear hws2
        cases hy : one y with
        | none =>
          rw [hy] at hm
          subst hm
          refine ⟨rfl, unhideE HWS2, ?_⟩
          have h1 := unhideE HSN
          rw [hy] at h1
          have h2 := unhideE HAN h1
          rw [← List.map_append, List.take_append_drop] at h2
          unfold encL
          rw [List.length_map, unhideE HR, h2]
          rfl
        | some ys =>
          rw [hy] at hm
          obtain ⟨rfl, v2, hw2⟩ := hm
          have h1 := unhideE HSN
          rw [hy] at h1
          have HS2 := hideE h1
          have HW2 := hideE hw2
          clear hw2 h1 hy
          go_wp2
          go_roundw
          case rel => exact ⟨k + 1, v2, cs ++ ys, by go_num, by omega, unhideE HWS2, unhideE HS2, by rw [← List.append_assoc]; exact unhideE HW2⟩
          case measure => simp [intOf]; omega
      · obtain rfl : k = ps.length := by omega
        have h1 := unhideE HCS
        rw [List.take_length] at h1
        have HC1 := hideE h1
        clear h1
        go_wp2
        refine bodyPost_end (results_none (fn := Tryd.f61) rfl _ _ _) rfl ?_
        refine ⟨unhideE HWS', ?_⟩
        unfold encL
        rw [List.length_map, unhideE HR, unhideE HC1]
        simp only [seqE]
        exact ⟨trivial, v', by rw [← List.append_assoc]; exact unhideE HWT⟩
theorem Tryd.infArgs : (Tryd.prog.info? 82).map (·.size) = some 2 := by kernel_rfl
set_option maxHeartbeats 4000000 in
set_option maxRecDepth 100000 in
theorem writeArgs_c {α : Type} (F : Nat) (hcf : ∀ args w, (callFunc F args).run Tryd.prog w = .ok (.enter F args) w) (one : α → Option (List UInt8)) (K : Nat) (hK : ∀ x bs, one x = some bs → bs.length ≤ K) (hK2 : K ≤ 1000000) (b : Nat) (M : Nat) (hM : M ≤ 90000000000) (ps : List (Array Value × α)) (w : World)
    (hsz : ∀ p ∈ ps, p.1.size = 2 ∧ p.1.all (·.oneCell') = true)
    (hone : ∀ p ∈ ps, ∀ v l w', Ws w w' b → Wt w' b v l → l.length ≤ M + 1000000001 → Calls Tryd.prog F #[.pointer (some ⟨b, 0, none⟩), .agg p.1] w' (EncE b l (one p.2) w'))
    (lo hi : Int) (hhi : hi ≤ 1000) (v : Value) (l : List UInt8) (lv : Value) (h : Wt w b v l) (hl : l.length ≤ M) (hns : LsB 2 w b lv ps) (hlen : ps.length < 9223372036854775808) :
    Calls Tryd.prog 87 #[.pointer (some ⟨b, 0, none⟩), lv, .int .i64 lo, .int .i64 hi, .func (.func F) #[.pointer (some ⟨b, 0, none⟩)] #[]] w (EncE b l (encL lo hi one (ps.map (·.2))) w) := by
  obtain ⟨pp, cap, hlv⟩ := hns.shape
  have HN := hideE hns
  subst hlv
  have HNC := hideE (number_c b v l ps.length lo hi w h (by omega))
  have HONE := hideE hone
  have HSZ := hideE hsz
  have HK := hideE hK
  clear hone hK h hns hsz
  go_enter Tryd.func87, Tryd.ntmps87
  go_wp2_with fail
  refine (unhideE HNC).mono ?_
  rintro e w1 ⟨hws, hm⟩
  cases hr : encNum lo hi ps.length with
  | none =>
    rw [hr] at hm
    subst hm
    refine ⟨rfl, hws, ?_⟩
    unfold encL
    rw [List.length_map, hr]
    rfl
  | some bs =>
    rw [hr] at hm
    obtain ⟨rfl, v1, hw1⟩ := hm
    have hb1 := encNum_len hr
    have hle : lo ≤ ps.length ∧ (ps.length : Int) ≤ hi := by
      unfold encNum at hr
      split at hr
      · assumption
      · cases hr
    have HWS := hideE hws
    have HW1 := hideE hw1
    have HR := hideE hr
    clear hws hw1 hr HNC
    go_wp2_with fail
    go_loopw [20] (fun j w' => ∃ (k : Nat) (v' : Value) (cs : List UInt8), j = .int .i64 k ∧ k ≤ ps.length ∧ Ws w w' b ∧ encAll one ((ps.take k).map (·.2)) = some cs ∧ Wt w' b v' (l ++ bs ++ cs)) (fun j _ => ps.length - (intOf j).toNat)
    case atStart => exact ⟨0, v1, [], rfl, by omega, unhideE HWS, by simp [encAll], by simpa using unhideE HW1⟩
    case round =>
      obtain ⟨k, v', cs, rfl, hk, hws', hcs, hwt⟩ := hrel
      have hcl := encAll_len one K (unhideE HK) _ _ hcs
      have hbw := hwt.lt
      have HWS' := hideE hws'
      have HCS := hideE hcs
      have HWT := hideE hwt
      clear hws' hcs hwt
      by_cases hlt : k < ps.length
      · obtain ⟨sb, so, cap', hv, hsb, hc⟩ := ((unhideE HN).ws (unhideE HWS')).resolve_left (fun c => by rw [c.1] at hlt; simp at hlt)
        injection hv with e1 e2 e3
        subst e1
        have hrg := hideE (hc k hlt)
        have hkl : K * (ps.take k).length ≤ 1000000 * 1000 := Nat.mul_le_mul hK2 (by simp; omega)
        simp only [List.length_map] at hcl
        have hmem : ps[k] ∈ ps := List.getElem_mem hlt
        obtain ⟨hs1, hs2⟩ := unhideE HSZ ps[k] hmem
        have HCALL := hideE (fun X : Obj => unhideE HONE ps[k] hmem v' (l ++ bs ++ cs) (wr.alloc X) ((unhideE HWS').trans (ws_alloc wr X b (by omega))) ((unhideE HWT).alloc X) (by simp [hb1]; omega))
        have hsn := encAll_snoc one ((ps.take k).map (·.2)) ps[k].2
        rw [show (ps.take k).map (·.2) ++ [ps[k].2] = (ps.take (k + 1)).map (·.2) by rw [take_mid hlt, List.map_append]; rfl, unhideE HCS] at hsn
        have HSN := hideE hsn
        have HAN := hideE (fun hn => encAll_none one ((ps.take (k + 1)).map (·.2)) ((ps.drop (k + 1)).map (·.2)) hn)
        clear hc hsn e2 e3 hmem
        generalize ps[k] = y at hrg HCALL HSN hs1 hs2
        obtain ⟨arr, y⟩ := y
        simp only at hrg HCALL HSN hs1 hs2
        go_wp2_with (first | (refine wpList_load_mid rfl 82 (.tmp 22) rfl sb (so + k * 2) rfl arr.toList _ (unhideE hrg) Tryd.underlying82 rfl (Tryd.infArgs.trans (congrArg some (by simp [hs1]))) ?_; simp only [Array.toArray_toList]) | (refine wpList_store_row rfl 82 (.tmp 11) (.tmp 23) rfl wr.heap.size arr rfl rfl 82 _ (heap_alloc_new _ _) (Tryd.infArgs.trans (congrArg some hs1.symm)) hs1.symm hs2 ?_; rw [setRow_alloc]) | refine wpList_load_row rfl 82 (.tmp 11) rfl wr.heap.size rfl 82 arr (0, 0) _ (heap_alloc_new _ _) Tryd.underlying82 rfl (Tryd.infArgs.trans (congrArg some hs1.symm)) ?_)
        refine (unhideE HCALL _).mono ?_
        rintro e w2 ⟨hws2, hm⟩
        have HWS2 := hideE (((unhideE HWS').trans (ws_alloc wr _ b (by omega))).trans hws2)
        clear hws2
        cases hy : one y with
        | none =>
          rw [hy] at hm
          subst hm
          refine ⟨rfl, unhideE HWS2, ?_⟩
          have h1 := unhideE HSN
          rw [hy] at h1
          have h2 := unhideE HAN h1
          rw [← List.map_append, List.take_append_drop] at h2
          unfold encL
          rw [List.length_map, unhideE HR, h2]
          rfl
        | some ys =>
          rw [hy] at hm
          obtain ⟨rfl, v2, hw2⟩ := hm
          have h1 := unhideE HSN
          rw [hy] at h1
          have HS2 := hideE h1
          have HW2 := hideE hw2
          clear hw2 h1 hy
          go_wp2
          go_roundw
          case rel => exact ⟨k + 1, v2, cs ++ ys, by go_num, by omega, unhideE HWS2, unhideE HS2, by rw [← List.append_assoc]; exact unhideE HW2⟩
          case measure => simp [intOf]; omega
      · obtain rfl : k = ps.length := by omega
        have h1 := unhideE HCS
        rw [List.take_length] at h1
        have HC1 := hideE h1
        clear h1
        go_wp2
        refine bodyPost_end (results_none (fn := Tryd.f87) rfl _ _ _) rfl ?_
        refine ⟨unhideE HWS', ?_⟩
        unfold encL
        rw [List.length_map, unhideE HR, unhideE HC1]
        simp only [seqE]
        exact ⟨trivial, v', by rw [← List.append_assoc]; exact unhideE HWT⟩
theorem Tryd.infSigs : (Tryd.prog.info? 53).map (·.size) = some 2 := by kernel_rfl
set_option maxHeartbeats 4000000 in
set_option maxRecDepth 100000 in
theorem writeSigs_c {α : Type} (F : Nat) (hcf : ∀ args w, (callFunc F args).run Tryd.prog w = .ok (.enter F args) w) (one : α → Option (List UInt8)) (K : Nat) (hK : ∀ x bs, one x = some bs → bs.length ≤ K) (hK2 : K ≤ 1000000) (b : Nat) (M : Nat) (hM : M ≤ 90000000000) (ps : List (Array Value × α)) (w : World)
    (hsz : ∀ p ∈ ps, p.1.size = 2 ∧ p.1.all (·.oneCell') = true)
    (hone : ∀ p ∈ ps, ∀ v l w', Ws w w' b → Wt w' b v l → l.length ≤ M + 1000000001 → Calls Tryd.prog F #[.pointer (some ⟨b, 0, none⟩), .agg p.1] w' (EncE b l (one p.2) w'))
    (lo hi : Int) (hhi : hi ≤ 1000) (v : Value) (l : List UInt8) (lv : Value) (h : Wt w b v l) (hl : l.length ≤ M) (hns : LsB 2 w b lv ps) (hlen : ps.length < 9223372036854775808) :
    Calls Tryd.prog 46 #[.pointer (some ⟨b, 0, none⟩), lv, .int .i64 lo, .int .i64 hi, .func (.func F) #[.pointer (some ⟨b, 0, none⟩)] #[]] w (EncE b l (encL lo hi one (ps.map (·.2))) w) := by
  obtain ⟨pp, cap, hlv⟩ := hns.shape
  have HN := hideE hns
  subst hlv
  have HNC := hideE (number_c b v l ps.length lo hi w h (by omega))
  have HONE := hideE hone
  have HSZ := hideE hsz
  have HK := hideE hK
  clear hone hK h hns hsz
  go_enter Tryd.func46, Tryd.ntmps46
  go_wp2_with fail
  refine (unhideE HNC).mono ?_
  rintro e w1 ⟨hws, hm⟩
  cases hr : encNum lo hi ps.length with
  | none =>
    rw [hr] at hm
    subst hm
    refine ⟨rfl, hws, ?_⟩
    unfold encL
    rw [List.length_map, hr]
    rfl
  | some bs =>
    rw [hr] at hm
    obtain ⟨rfl, v1, hw1⟩ := hm
    have hb1 := encNum_len hr
    have hle : lo ≤ ps.length ∧ (ps.length : Int) ≤ hi := by
      unfold encNum at hr
      split at hr
      · assumption
      · cases hr
    have HWS := hideE hws
    have HW1 := hideE hw1
    have HR := hideE hr
    clear hws hw1 hr HNC
    go_wp2_with fail
    go_loopw [20] (fun j w' => ∃ (k : Nat) (v' : Value) (cs : List UInt8), j = .int .i64 k ∧ k ≤ ps.length ∧ Ws w w' b ∧ encAll one ((ps.take k).map (·.2)) = some cs ∧ Wt w' b v' (l ++ bs ++ cs)) (fun j _ => ps.length - (intOf j).toNat)
    case atStart => exact ⟨0, v1, [], rfl, by omega, unhideE HWS, by simp [encAll], by simpa using unhideE HW1⟩
    case round =>
      obtain ⟨k, v', cs, rfl, hk, hws', hcs, hwt⟩ := hrel
      have hcl := encAll_len one K (unhideE HK) _ _ hcs
      have hbw := hwt.lt
      have HWS' := hideE hws'
      have HCS := hideE hcs
      have HWT := hideE hwt
      clear hws' hcs hwt
      by_cases hlt : k < ps.length
      · obtain ⟨sb, so, cap', hv, hsb, hc⟩ := ((unhideE HN).ws (unhideE HWS')).resolve_left (fun c => by rw [c.1] at hlt; simp at hlt)
        injection hv with e1 e2 e3
        subst e1
        have hrg := hideE (hc k hlt)
        have hkl : K * (ps.take k).length ≤ 1000000 * 1000 := Nat.mul_le_mul hK2 (by simp; omega)
        simp only [List.length_map] at hcl
        have hmem : ps[k] ∈ ps := List.getElem_mem hlt
        obtain ⟨hs1, hs2⟩ := unhideE HSZ ps[k] hmem
        have HCALL := hideE (fun X : Obj => unhideE HONE ps[k] hmem v' (l ++ bs ++ cs) (wr.alloc X) ((unhideE HWS').trans (ws_alloc wr X b (by omega))) ((unhideE HWT).alloc X) (by simp [hb1]; omega))
        have hsn := encAll_snoc one ((ps.take k).map (·.2)) ps[k].2
        rw [show (ps.take k).map (·.2) ++ [ps[k].2] = (ps.take (k + 1)).map (·.2) by rw [take_mid hlt, List.map_append]; rfl, unhideE HCS] at hsn
        have HSN := hideE hsn
        have HAN := hideE (fun hn => encAll_none one ((ps.take (k + 1)).map (·.2)) ((ps.drop (k + 1)).map (·.2)) hn)
        clear hc hsn e2 e3 hmem
        generalize ps[k] = y at hrg HCALL HSN hs1 hs2
        obtain ⟨arr, y⟩ := y
        simp only at hrg HCALL HSN hs1 hs2
        go_wp2_with (first | (refine wpList_load_mid rfl 53 (.tmp 22) rfl sb (so + k * 2) rfl arr.toList _ (unhideE hrg) Tryd.underlying53 rfl (Tryd.infSigs.trans (congrArg some (by simp [hs1]))) ?_; simp only [Array.toArray_toList]) | (refine wpList_store_row rfl 53 (.tmp 11) (.tmp 23) rfl wr.heap.size arr rfl rfl 53 _ (heap_alloc_new _ _) (Tryd.infSigs.trans (congrArg some hs1.symm)) hs1.symm hs2 ?_; rw [setRow_alloc]) | refine wpList_load_row rfl 53 (.tmp 11) rfl wr.heap.size rfl 53 arr (0, 0) _ (heap_alloc_new _ _) Tryd.underlying53 rfl (Tryd.infSigs.trans (congrArg some hs1.symm)) ?_)
        refine (unhideE HCALL _).mono ?_
        rintro e w2 ⟨hws2, hm⟩
        have HWS2 := hideE (((unhideE HWS').trans (ws_alloc wr _ b (by omega))).trans hws2)
        clear hws2
        cases hy : one y with
        | none =>
          rw [hy] at hm
          subst hm
          refine ⟨rfl, unhideE HWS2, ?_⟩
          have h1 := unhideE HSN
          rw [hy] at h1
          have h2 := unhideE HAN h1
          rw [← List.map_append, List.take_append_drop] at h2
          unfold encL
          rw [List.length_map, unhideE HR, h2]
          rfl
        | some ys =>
          rw [hy] at hm
          obtain ⟨rfl, v2, hw2⟩ := hm
          have h1 := unhideE HSN
          rw [hy] at h1
          have HS2 := hideE h1
          have HW2 := hideE hw2
          clear hw2 h1 hy
          go_wp2
          go_roundw
          case rel => exact ⟨k + 1, v2, cs ++ ys, by go_num, by omega, unhideE HWS2, unhideE HS2, by rw [← List.append_assoc]; exact unhideE HW2⟩
          case measure => simp [intOf]; omega
      · obtain rfl : k = ps.length := by omega
        have h1 := unhideE HCS
        rw [List.take_length] at h1
        have HC1 := hideE h1
        clear h1
        go_wp2
        refine bodyPost_end (results_none (fn := Tryd.f46) rfl _ _ _) rfl ?_
        refine ⟨unhideE HWS', ?_⟩
        unfold encL
        rw [List.length_map, unhideE HR, unhideE HC1]
        simp only [seqE]
        exact ⟨trivial, v', by rw [← List.append_assoc]; exact unhideE HWT⟩
theorem Tryd.infInss : (Tryd.prog.info? 65).map (·.size) = some 8 := by kernel_rfl
set_option maxHeartbeats 4000000 in
set_option maxRecDepth 100000 in
theorem writeInss_c {α : Type} (F : Nat) (hcf : ∀ args w, (callFunc F args).run Tryd.prog w = .ok (.enter F args) w) (one : α → Option (List UInt8)) (K : Nat) (hK : ∀ x bs, one x = some bs → bs.length ≤ K) (hK2 : K ≤ 1000000) (b : Nat) (M : Nat) (hM : M ≤ 90000000000) (ps : List (Array Value × α)) (w : World)
    (hsz : ∀ p ∈ ps, p.1.size = 8 ∧ p.1.all (·.oneCell') = true)
    (hone : ∀ p ∈ ps, ∀ v l w', Ws w w' b → Wt w' b v l → l.length ≤ M + 1000000001 → Calls Tryd.prog F #[.pointer (some ⟨b, 0, none⟩), .agg p.1] w' (EncE b l (one p.2) w'))
    (lo hi : Int) (hhi : hi ≤ 1000) (v : Value) (l : List UInt8) (lv : Value) (h : Wt w b v l) (hl : l.length ≤ M) (hns : LsB 8 w b lv ps) (hlen : ps.length < 9223372036854775808) :
    Calls Tryd.prog 78 #[.pointer (some ⟨b, 0, none⟩), lv, .int .i64 lo, .int .i64 hi, .func (.func F) #[.pointer (some ⟨b, 0, none⟩)] #[]] w (EncE b l (encL lo hi one (ps.map (·.2))) w) := by
  obtain ⟨pp, cap, hlv⟩ := hns.shape
  have HN := hideE hns
  subst hlv
  have HNC := hideE (number_c b v l ps.length lo hi w h (by omega))
  have HONE := hideE hone
  have HSZ := hideE hsz
  have HK := hideE hK
  clear hone hK h hns hsz
  go_enter Tryd.func78, Tryd.ntmps78
  go_wp2_with fail
  refine (unhideE HNC).mono ?_
  rintro e w1 ⟨hws, hm⟩
  cases hr : encNum lo hi ps.length with
  | none =>
    rw [hr] at hm
    subst hm
    refine ⟨rfl, hws, ?_⟩
    unfold encL
    rw [List.length_map, hr]
    rfl
  | some bs =>
    rw [hr] at hm
    obtain ⟨rfl, v1, hw1⟩ := hm
    have hb1 := encNum_len hr
    have hle : lo ≤ ps.length ∧ (ps.length : Int) ≤ hi := by
      unfold encNum at hr
      split at hr
      · assumption
      · cases hr
    have HWS := hideE hws
    have HW1 := hideE hw1
    have HR := hideE hr
    clear hws hw1 hr HNC
    go_wp2_with fail
    go_loopw [20] (fun j w' => ∃ (k : Nat) (v' : Value) (cs : List UInt8), j = .int .i64 k ∧ k ≤ ps.length ∧ Ws w w' b ∧ encAll one ((ps.take k).map (·.2)) = some cs ∧ Wt w' b v' (l ++ bs ++ cs)) (fun j _ => ps.length - (intOf j).toNat)
    case atStart => exact ⟨0, v1, [], rfl, by omega, unhideE HWS, by simp [encAll], by simpa using unhideE HW1⟩
    case round =>
      obtain ⟨k, v', cs, rfl, hk, hws', hcs, hwt⟩ := hrel
      have hcl := encAll_len one K (unhideE HK) _ _ hcs
      have hbw := hwt.lt
      have HWS' := hideE hws'
      have HCS := hideE hcs
      have HWT := hideE hwt
      clear hws' hcs hwt
      by_cases hlt : k < ps.length
      · obtain ⟨sb, so, cap', hv, hsb, hc⟩ := ((unhideE HN).ws (unhideE HWS')).resolve_left (fun c => by rw [c.1] at hlt; simp at hlt)
        injection hv with e1 e2 e3
        subst e1
        have hrg := hideE (hc k hlt)
        have hkl : K * (ps.take k).length ≤ 1000000 * 1000 := Nat.mul_le_mul hK2 (by simp; omega)
        simp only [List.length_map] at hcl
        have hmem : ps[k] ∈ ps := List.getElem_mem hlt
        obtain ⟨hs1, hs2⟩ := unhideE HSZ ps[k] hmem
        have HCALL := hideE (fun X : Obj => unhideE HONE ps[k] hmem v' (l ++ bs ++ cs) (wr.alloc X) ((unhideE HWS').trans (ws_alloc wr X b (by omega))) ((unhideE HWT).alloc X) (by simp [hb1]; omega))
        have hsn := encAll_snoc one ((ps.take k).map (·.2)) ps[k].2
        rw [show (ps.take k).map (·.2) ++ [ps[k].2] = (ps.take (k + 1)).map (·.2) by rw [take_mid hlt, List.map_append]; rfl, unhideE HCS] at hsn
        have HSN := hideE hsn
        have HAN := hideE (fun hn => encAll_none one ((ps.take (k + 1)).map (·.2)) ((ps.drop (k + 1)).map (·.2)) hn)
        clear hc hsn e2 e3 hmem
        generalize ps[k] = y at hrg HCALL HSN hs1 hs2
        obtain ⟨arr, y⟩ := y
        simp only at hrg HCALL HSN hs1 hs2
        go_wp2_with (first | (refine wpList_load_mid rfl 65 (.tmp 22) rfl sb (so + k * 8) rfl arr.toList _ (unhideE hrg) Tryd.underlying65 rfl (Tryd.infInss.trans (congrArg some (by simp [hs1]))) ?_; simp only [Array.toArray_toList]) | (refine wpList_store_row rfl 65 (.tmp 11) (.tmp 23) rfl wr.heap.size arr rfl rfl 65 _ (heap_alloc_new _ _) (Tryd.infInss.trans (congrArg some hs1.symm)) hs1.symm hs2 ?_; rw [setRow_alloc]) | refine wpList_load_row rfl 65 (.tmp 11) rfl wr.heap.size rfl 65 arr (0, 0) _ (heap_alloc_new _ _) Tryd.underlying65 rfl (Tryd.infInss.trans (congrArg some hs1.symm)) ?_)
        refine (unhideE HCALL _).mono ?_
        rintro e w2 ⟨hws2, hm⟩
        have HWS2 := hideE (((unhideE HWS').trans (ws_alloc wr _ b (by omega))).trans hws2)
        clear hws2
        cases hy : one y with
        | none =>
          rw [hy] at hm
          subst hm
          refine ⟨rfl, unhideE HWS2, ?_⟩
          have h1 := unhideE HSN
          rw [hy] at h1
          have h2 := unhideE HAN h1
          rw [← List.map_append, List.take_append_drop] at h2
          unfold encL
          rw [List.length_map, unhideE HR, h2]
          rfl
        | some ys =>
          rw [hy] at hm
          obtain ⟨rfl, v2, hw2⟩ := hm
          have h1 := unhideE HSN
          rw [hy] at h1
          have HS2 := hideE h1
          have HW2 := hideE hw2
          clear hw2 h1 hy
          go_wp2
          go_roundw
          case rel => exact ⟨k + 1, v2, cs ++ ys, by go_num, by omega, unhideE HWS2, unhideE HS2, by rw [← List.append_assoc]; exact unhideE HW2⟩
          case measure => simp [intOf]; omega
      · obtain rfl : k = ps.length := by omega
        have h1 := unhideE HCS
        rw [List.take_length] at h1
        have HC1 := hideE h1
        clear h1
        go_wp2
        refine bodyPost_end (results_none (fn := Tryd.f78) rfl _ _ _) rfl ?_
        refine ⟨unhideE HWS', ?_⟩
        unfold encL
        rw [List.length_map, unhideE HR, unhideE HC1]
        simp only [seqE]
        exact ⟨trivial, v', by rw [← List.append_assoc]; exact unhideE HWT⟩
theorem Tryd.infFuncs : (Tryd.prog.info? 58).map (·.size) = some 5 := by kernel_rfl
set_option maxHeartbeats 4000000 in
set_option maxRecDepth 100000 in
theorem writeFuncs_c {α : Type} (F : Nat) (hcf : ∀ args w, (callFunc F args).run Tryd.prog w = .ok (.enter F args) w) (one : α → Option (List UInt8)) (K : Nat) (hK : ∀ x bs, one x = some bs → bs.length ≤ K) (hK2 : K ≤ 1000000) (b : Nat) (M : Nat) (hM : M ≤ 90000000000) (ps : List (Array Value × α)) (w : World)
    (hsz : ∀ p ∈ ps, p.1.size = 5 ∧ p.1.all (·.oneCell') = true)
    (hone : ∀ p ∈ ps, ∀ v l w', Ws w w' b → Wt w' b v l → l.length ≤ M + 1000000001 → Calls Tryd.prog F #[.pointer (some ⟨b, 0, none⟩), .agg p.1] w' (EncE b l (one p.2) w'))
    (lo hi : Int) (hhi : hi ≤ 1000) (v : Value) (l : List UInt8) (lv : Value) (h : Wt w b v l) (hl : l.length ≤ M) (hns : LsB 5 w b lv ps) (hlen : ps.length < 9223372036854775808) :
    Calls Tryd.prog 48 #[.pointer (some ⟨b, 0, none⟩), lv, .int .i64 lo, .int .i64 hi, .func (.func F) #[.pointer (some ⟨b, 0, none⟩)] #[]] w (EncE b l (encL lo hi one (ps.map (·.2))) w) := by
  obtain ⟨pp, cap, hlv⟩ := hns.shape
  have HN := hideE hns
  subst hlv
  have HNC := hideE (number_c b v l ps.length lo hi w h (by omega))
  have HONE := hideE hone
  have HSZ := hideE hsz
  have HK := hideE hK
  clear hone hK h hns hsz
  go_enter Tryd.func48, Tryd.ntmps48
  go_wp2_with fail
  refine (unhideE HNC).mono ?_
  rintro e w1 ⟨hws, hm⟩
  cases hr : encNum lo hi ps.length with
  | none =>
    rw [hr] at hm
    subst hm
    refine ⟨rfl, hws, ?_⟩
    unfold encL
    rw [List.length_map, hr]
    rfl
  | some bs =>
    rw [hr] at hm
    obtain ⟨rfl, v1, hw1⟩ := hm
    have hb1 := encNum_len hr
    have hle : lo ≤ ps.length ∧ (ps.length : Int) ≤ hi := by
      unfold encNum at hr
      split at hr
      · assumption
      · cases hr
    have HWS := hideE hws
    have HW1 := hideE hw1
    have HR := hideE hr
    clear hws hw1 hr HNC
    go_wp2_with fail
    go_loopw [20] (fun j w' => ∃ (k : Nat) (v' : Value) (cs : List UInt8), j = .int .i64 k ∧ k ≤ ps.length ∧ Ws w w' b ∧ encAll one ((ps.take k).map (·.2)) = some cs ∧ Wt w' b v' (l ++ bs ++ cs)) (fun j _ => ps.length - (intOf j).toNat)
    case atStart => exact ⟨0, v1, [], rfl, by omega, unhideE HWS, by simp [encAll], by simpa using unhideE HW1⟩
    case round =>
      obtain ⟨k, v', cs, rfl, hk, hws', hcs, hwt⟩ := hrel
      have hcl := encAll_len one K (unhideE HK) _ _ hcs
      have hbw := hwt.lt
      have HWS' := hideE hws'
      have HCS := hideE hcs
      have HWT := hideE hwt
      clear hws' hcs hwt
      by_cases hlt : k < ps.length
      · obtain ⟨sb, so, cap', hv, hsb, hc⟩ := ((unhideE HN).ws (unhideE HWS')).resolve_left (fun c => by rw [c.1] at hlt; simp at hlt)
        injection hv with e1 e2 e3
        subst e1
        have hrg := hideE (hc k hlt)
        have hkl : K * (ps.take k).length ≤ 1000000 * 1000 := Nat.mul_le_mul hK2 (by simp; omega)
        simp only [List.length_map] at hcl
        have hmem : ps[k] ∈ ps := List.getElem_mem hlt
        obtain ⟨hs1, hs2⟩ := unhideE HSZ ps[k] hmem
        have HCALL := hideE (fun X : Obj => unhideE HONE ps[k] hmem v' (l ++ bs ++ cs) (wr.alloc X) ((unhideE HWS').trans (ws_alloc wr X b (by omega))) ((unhideE HWT).alloc X) (by simp [hb1]; omega))
        have hsn := encAll_snoc one ((ps.take k).map (·.2)) ps[k].2
        rw [show (ps.take k).map (·.2) ++ [ps[k].2] = (ps.take (k + 1)).map (·.2) by rw [take_mid hlt, List.map_append]; rfl, unhideE HCS] at hsn
        have HSN := hideE hsn
        have HAN := hideE (fun hn => encAll_none one ((ps.take (k + 1)).map (·.2)) ((ps.drop (k + 1)).map (·.2)) hn)
        clear hc hsn e2 e3 hmem
        generalize ps[k] = y at hrg HCALL HSN hs1 hs2
        obtain ⟨arr, y⟩ := y
        simp only at hrg HCALL HSN hs1 hs2
        go_wp2_with (first | (refine wpList_load_mid rfl 58 (.tmp 22) rfl sb (so + k * 5) rfl arr.toList _ (unhideE hrg) Tryd.underlying58 rfl (Tryd.infFuncs.trans (congrArg some (by simp [hs1]))) ?_; simp only [Array.toArray_toList]) | (refine wpList_store_row rfl 58 (.tmp 11) (.tmp 23) rfl wr.heap.size arr rfl rfl 58 _ (heap_alloc_new _ _) (Tryd.infFuncs.trans (congrArg some hs1.symm)) hs1.symm hs2 ?_; rw [setRow_alloc]) | refine wpList_load_row rfl 58 (.tmp 11) rfl wr.heap.size rfl 58 arr (0, 0) _ (heap_alloc_new _ _) Tryd.underlying58 rfl (Tryd.infFuncs.trans (congrArg some hs1.symm)) ?_)
        refine (unhideE HCALL _).mono ?_
        rintro e w2 ⟨hws2, hm⟩
        have HWS2 := hideE (((unhideE HWS').trans (ws_alloc wr _ b (by omega))).trans hws2)
        clear hws2
        cases hy : one y with
        | none =>
          rw [hy] at hm
          subst hm
          refine ⟨rfl, unhideE HWS2, ?_⟩
          have h1 := unhideE HSN
          rw [hy] at h1
          have h2 := unhideE HAN h1
          rw [← List.map_append, List.take_append_drop] at h2
          unfold encL
          rw [List.length_map, unhideE HR, h2]
          rfl
        | some ys =>
          rw [hy] at hm
          obtain ⟨rfl, v2, hw2⟩ := hm
          have h1 := unhideE HSN
          rw [hy] at h1
          have HS2 := hideE h1
          have HW2 := hideE hw2
          clear hw2 h1 hy
          go_wp2
          go_roundw
          case rel => exact ⟨k + 1, v2, cs ++ ys, by go_num, by omega, unhideE HWS2, unhideE HS2, by rw [← List.append_assoc]; exact unhideE HW2⟩
          case measure => simp [intOf]; omega
      · obtain rfl : k = ps.length := by omega
        have h1 := unhideE HCS
        rw [List.take_length] at h1
        have HC1 := hideE h1
        clear h1
        go_wp2
        refine bodyPost_end (results_none (fn := Tryd.f48) rfl _ _ _) rfl ?_
        refine ⟨unhideE HWS', ?_⟩
        unfold encL
        rw [List.length_map, unhideE HR, unhideE HC1]
        simp only [seqE]
        exact ⟨trivial, v', by rw [← List.append_assoc]; exact unhideE HWT⟩
end Go.Proofs.YthnmdbddfmgdlaaDoor
