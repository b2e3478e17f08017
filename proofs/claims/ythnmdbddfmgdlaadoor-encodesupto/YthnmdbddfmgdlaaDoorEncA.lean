/-
  Encodes: the writer's small parts by their contracts. Own work of the verifier.
-/
import Derived.Test.YthnmdbddfmgdlaaDoorEncS
namespace Go.Proofs.YthnmdbddfmgdlaaDoor
open Go.RowKit

theorem cells_of_row {w : World} {T : Nat} {t : TypeId} {cs : Array Value} {fr : Nat × Nat} (h : w.heap[T]? = some (.cells cs t fr)) (j : Nat) : w.cell? ⟨T, j, none⟩ = cs[j]? := cell_of_row w T j cs t fr h
set_option maxRecDepth 100000 in
theorem words_c (b : Nat) (v : Value) (l : List UInt8) (x : Int) (w : World) (h : Wt w b v l) (hl : l.length ≤ 100000000000) : Calls Tryd.prog 60 #[.pointer (some ⟨b, 0, none⟩), .int .i64 x] w (EncE b l (encNum 0 8 x) w) := by
  have HN := hideE (number_c b v l x 0 8 w h hl)
  clear h
  go_enter Tryd.func60, Tryd.ntmps60
  go_wp2_with fail
  refine (unhideE HN).mono ?_
  rintro e w1 ⟨hws, hm⟩
  cases hr : encNum 0 8 x with
  | none =>
    rw [hr] at hm
    subst hm
    exact ⟨rfl, hws, rfl⟩
  | some bs =>
    rw [hr] at hm
    obtain ⟨rfl, v1, hw1⟩ := hm
    have HR := hideE hr
    clear hr
    go_wp2
    refine bodyPost_end (results_none (fn := Tryd.f60) rfl _ _ _) rfl ?_
    exact ⟨hws, by rw [unhideE HR]; exact ⟨rfl, v1, hw1⟩⟩
set_option maxRecDepth 100000 in
theorem anyByte_c (b : Nat) (v : Value) (l : List UInt8) (x : Int) (w : World) (h : Wt w b v l) (hl : l.length ≤ 100000000000) : Calls Tryd.prog 77 #[.pointer (some ⟨b, 0, none⟩), .int .i64 x] w (EncE b l (encNum 0 255 x) w) := by
  have HN := hideE (number_c b v l x 0 255 w h hl)
  clear h
  go_enter Tryd.func77, Tryd.ntmps77
  go_wp2_with fail
  refine (unhideE HN).mono ?_
  rintro e w1 ⟨hws, hm⟩
  cases hr : encNum 0 255 x with
  | none =>
    rw [hr] at hm
    subst hm
    exact ⟨rfl, hws, rfl⟩
  | some bs =>
    rw [hr] at hm
    obtain ⟨rfl, v1, hw1⟩ := hm
    have HR := hideE hr
    clear hr
    go_wp2
    refine bodyPost_end (results_none (fn := Tryd.f77) rfl _ _ _) rfl ?_
    exact ⟨hws, by rw [unhideE HR]; exact ⟨rfl, v1, hw1⟩⟩
set_option maxRecDepth 100000 in
theorem home_c (b : Nat) (v : Value) (l : List UInt8) (x : Int) (w : World) (h : Wt w b v l) (hl : l.length ≤ 100000000000) : Calls Tryd.prog 63 #[.pointer (some ⟨b, 0, none⟩), .int .i64 x] w (EncE b l (encNum (-1) 15 x) w) := by
  have HN := hideE (number_c b v l x (-1) 15 w h hl)
  clear h
  go_enter Tryd.func63, Tryd.ntmps63
  go_wp2_with fail
  refine (unhideE HN).mono ?_
  rintro e w1 ⟨hws, hm⟩
  cases hr : encNum (-1) 15 x with
  | none =>
    rw [hr] at hm
    subst hm
    exact ⟨rfl, hws, rfl⟩
  | some bs =>
    rw [hr] at hm
    obtain ⟨rfl, v1, hw1⟩ := hm
    have HR := hideE hr
    clear hr
    go_wp2
    refine bodyPost_end (results_none (fn := Tryd.f63) rfl _ _ _) rfl ?_
    exact ⟨hws, by rw [unhideE HR]; exact ⟨rfl, v1, hw1⟩⟩
set_option maxRecDepth 100000 in
theorem slot_c (b : Nat) (v : Value) (l : List UInt8) (x : Int) (w : World) (h : Wt w b v l) (hl : l.length ≤ 100000000000) : Calls Tryd.prog 64 #[.pointer (some ⟨b, 0, none⟩), .int .i64 x] w (EncE b l (encNum 1 8 x) w) := by
  have HN := hideE (number_c b v l x 1 8 w h hl)
  clear h
  go_enter Tryd.func64, Tryd.ntmps64
  go_wp2_with fail
  refine (unhideE HN).mono ?_
  rintro e w1 ⟨hws, hm⟩
  cases hr : encNum 1 8 x with
  | none =>
    rw [hr] at hm
    subst hm
    exact ⟨rfl, hws, rfl⟩
  | some bs =>
    rw [hr] at hm
    obtain ⟨rfl, v1, hw1⟩ := hm
    have HR := hideE hr
    clear hr
    go_wp2
    refine bodyPost_end (results_none (fn := Tryd.f64) rfl _ _ _) rfl ?_
    exact ⟨hws, by rw [unhideE HR]; exact ⟨rfl, v1, hw1⟩⟩
def encParam (p : Int × Int) : Option (List UInt8) := seqE (encNum 0 8 p.1) (encNum 0 255 p.2)
set_option maxHeartbeats 1000000 in
set_option maxRecDepth 100000 in
theorem param_c (b : Nat) (v : Value) (l : List UInt8) (x y : Int) (w : World) (h : Wt w b v l) (hl : l.length ≤ 99000000000) : Calls Tryd.prog 62 #[.pointer (some ⟨b, 0, none⟩), .agg #[.int .i64 x, .int .i64 y]] w (EncE b l (encParam (x, y)) w) := by
  have hbl := h.lt
  have HN := hideE (fun X : Obj => words_c b v l x (w.alloc X) (h.alloc X) (by omega))
  have HA := hideE (fun X : Obj => ws_alloc w X b (by omega))
  clear h
  go_enter Tryd.func62, Tryd.ntmps62
  go_wp2_with fail
  refine (unhideE HN _).mono ?_
  rintro e w1 ⟨hws, hm⟩
  have hoth := hws.oth w.heap.size _ (heap_alloc_new w _) (by intro e; injection e with e; omega) (by intro c fz e; injection e with e1 e2 e3; cases e2)
  have q := (cells_of_row hoth)
  have c1 := q 1
  simp at c1
  have HWS := hideE ((unhideE HA _).trans hws)
  clear hws hoth q
  cases hr : encNum 0 8 x with
  | none =>
    rw [hr] at hm
    subst hm
    exact ⟨rfl, unhideE HWS, by unfold encParam; simp only [hr, seqE]⟩
  | some bs =>
    rw [hr] at hm
    obtain ⟨rfl, v1, hw1⟩ := hm
    have hb1 := encNum_len hr
    have HR := hideE hr
    have HM := hideE (anyByte_c b v1 (l ++ bs) y w1 hw1 (by simp; omega))
    clear hr hw1
    go_wp2_with fail
    refine (unhideE HM).mono ?_
    rintro e w2 ⟨hws2, hm⟩
    cases hr2 : encNum 0 255 y with
    | none =>
      rw [hr2] at hm
      subst hm
      exact ⟨rfl, (unhideE HWS).trans hws2, by unfold encParam; simp only [unhideE HR, hr2, seqE]⟩
    | some cs =>
      rw [hr2] at hm
      obtain ⟨rfl, v2, hw2⟩ := hm
      have HR2 := hideE hr2
      clear hr2
      go_wp2
      refine bodyPost_end (results_none (fn := Tryd.f62) rfl _ _ _) rfl ?_
      refine ⟨(unhideE HWS).trans hws2, ?_⟩
      unfold encParam
      simp only [unhideE HR, unhideE HR2, seqE]
      exact ⟨trivial, v2, by rw [← List.append_assoc]; exact hw2⟩
def encArg (p : Int × Int) : Option (List UInt8) := seqE (encNum 0 8 p.1) (encNum 0 255 p.2)
set_option maxHeartbeats 1000000 in
set_option maxRecDepth 100000 in
theorem arg_c (b : Nat) (v : Value) (l : List UInt8) (x y : Int) (w : World) (h : Wt w b v l) (hl : l.length ≤ 99000000000) : Calls Tryd.prog 88 #[.pointer (some ⟨b, 0, none⟩), .agg #[.int .i64 x, .int .i64 y]] w (EncE b l (encArg (x, y)) w) := by
  have hbl := h.lt
  have HN := hideE (fun X : Obj => words_c b v l x (w.alloc X) (h.alloc X) (by omega))
  have HA := hideE (fun X : Obj => ws_alloc w X b (by omega))
  clear h
  go_enter Tryd.func88, Tryd.ntmps88
  go_wp2_with fail
  refine (unhideE HN _).mono ?_
  rintro e w1 ⟨hws, hm⟩
  have hoth := hws.oth w.heap.size _ (heap_alloc_new w _) (by intro e; injection e with e; omega) (by intro c fz e; injection e with e1 e2 e3; cases e2)
  have q := (cells_of_row hoth)
  have c1 := q 1
  simp at c1
  have HWS := hideE ((unhideE HA _).trans hws)
  clear hws hoth q
  cases hr : encNum 0 8 x with
  | none =>
    rw [hr] at hm
    subst hm
    exact ⟨rfl, unhideE HWS, by unfold encArg; simp only [hr, seqE]⟩
  | some bs =>
    rw [hr] at hm
    obtain ⟨rfl, v1, hw1⟩ := hm
    have hb1 := encNum_len hr
    have HR := hideE hr
    have HM := hideE (anyByte_c b v1 (l ++ bs) y w1 hw1 (by simp; omega))
    clear hr hw1
    go_wp2_with fail
    refine (unhideE HM).mono ?_
    rintro e w2 ⟨hws2, hm⟩
    cases hr2 : encNum 0 255 y with
    | none =>
      rw [hr2] at hm
      subst hm
      exact ⟨rfl, (unhideE HWS).trans hws2, by unfold encArg; simp only [unhideE HR, hr2, seqE]⟩
    | some cs =>
      rw [hr2] at hm
      obtain ⟨rfl, v2, hw2⟩ := hm
      have HR2 := hideE hr2
      clear hr2
      go_wp2
      refine bodyPost_end (results_none (fn := Tryd.f88) rfl _ _ _) rfl ?_
      refine ⟨(unhideE HWS).trans hws2, ?_⟩
      unfold encArg
      simp only [unhideE HR, unhideE HR2, seqE]
      exact ⟨trivial, v2, by rw [← List.append_assoc]; exact hw2⟩
end Go.Proofs.YthnmdbddfmgdlaaDoor
