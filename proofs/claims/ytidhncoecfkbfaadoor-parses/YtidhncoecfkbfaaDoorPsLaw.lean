/-
  Parses: the walk of prologuelaw.Parses. Own work of the verifier.
-/
import Derived.Test.YtidhncoecfkbfaaDoorPsRef
import Derived.Test.YtidhncoecfkbfaaDoorPsSame
namespace Go.Proofs.YtidhncoecfkbfaaDoor
open Go.RowKit

def numOf (s : ByteArray) (k j : Nat) : Int := match parseF s with | .inl _ => 0 | .inr S => (S.vals k).getD j 0
def lstOf (s : ByteArray) (k : Nat) : List Int := match parseF s with | .inl _ => [] | .inr S => S.vals k
def prOf (s : ByteArray) : Bool := match parseF s with | .inl _ => false | .inr S => S.sn 10
def enOf (s : ByteArray) : Int := match parseF s with | .inl (n, _) => n | .inr _ => 0
def epOf (s : ByteArray) : Int := match parseF s with | .inl (_, p) => p | .inr _ => -1
/-- The table of a text, its lists apart. -/
def boxS (s : ByteArray) (v4 v5 v6 : Value) : Array Value := boxOf (numOf s 0 0) (numOf s 1 0) (numOf s 2 0) (numOf s 3 0) (numOf s 3 1) v4 v5 v6 (numOf s 7 0) (numOf s 8 0) (numOf s 9 0) (prOf s)
theorem lst_le (s : ByteArray) : (lstOf s 4).length ≤ 1000 ∧ (lstOf s 5).length ≤ 1000 ∧ (lstOf s 6).length ≤ 1000 := by
  unfold lstOf
  cases hF : parseF s with
  | inl r => simp
  | inr S =>
    have : ∃ l, parseL s l = .inr S := by
      unfold parseF at hF
      split at hF
      · cases hF
      · split at hF
        · cases hF
        · rename_i l _; exact ⟨l, hF⟩
    obtain ⟨l, hl⟩ := this
    obtain ⟨_, _, _, _, _, _, h4, h5, h6, _⟩ := parseL_some hl
    simp only
    omega
def ParsedU (s : ByteArray) (w : World) (e : Ending) (w' : World) : Prop :=
  Below w.heap.size w w' ∧ ∃ v4 v5 v6, e = .returned (.tuple #[.agg (boxS s v4 v5 v6), flt (enOf s) (-1) (-1) (epOf s)]) ∧ w'.ownsRow w.heap.size 3 1 v4 (lstOf s 4).length (iCells (lstOf s 4)) ∧ w'.ownsRow w.heap.size 3 1 v5 (lstOf s 5).length (iCells (lstOf s 5)) ∧ w'.ownsRow w.heap.size 3 1 v6 (lstOf s 6).length (iCells (lstOf s 6))
theorem plU (s : ByteArray) (w : World) (hU : U8 w) (hI : Itm w) (hE : ErrTy w) : Calls Tryd.prog 14 #[.string s] w fun e w' => Below w.heap.size w w' ∧ ∃ v4 v5 v6, e = .returned (.tuple #[.agg (boxS s v4 v5 v6), flt (enOf s) (-1) (-1) (epOf s)]) ∧ (w'.ownsRow w.heap.size 3 1 v4 (lstOf s 4).length (iCells (lstOf s 4)) ∧ w'.ownsRow w.heap.size 3 1 v5 (lstOf s 5).length (iCells (lstOf s 5)) ∧ w'.ownsRow w.heap.size 3 1 v6 (lstOf s 6).length (iCells (lstOf s 6))) ∧ Apart3 v4 v5 v6 := by
  refine (plparse_c s w hU hI hE).mono ?_
  rintro e w' ⟨hb, h⟩
  refine ⟨hb, ?_⟩
  unfold boxS numOf lstOf prOf enOf epOf
  cases hF : parseF s with
  | inl r =>
    obtain ⟨n, p⟩ := r
    simp only [hF] at h ⊢
    exact ⟨.slice none 0 0, .slice none 0 0, .slice none 0 0, h, ⟨World.ownsRow_nil _ _ _ _, World.ownsRow_nil _ _ _ _, World.ownsRow_nil _ _ _ _⟩, fun g => ⟨fun h => by simp [Value.ownBlock] at h, fun h => by simp [Value.ownBlock] at h⟩⟩
  | inr S =>
    simp only [hF] at h ⊢
    obtain ⟨v4, v5, v6, he, r4, r5, r6, ap⟩ := h
    exact ⟨v4, v5, v6, he, ⟨r4, r5, r6⟩, ap⟩
theorem rfU (s : ByteArray) (w : World) : Calls Tryd.prog 15 #[.string s] w (ParsedU s w) := by
  refine (rparse_c s w).mono ?_
  rintro e w' ⟨hb, h⟩
  refine ⟨hb, ?_⟩
  unfold boxS numOf lstOf prOf enOf epOf
  cases hF : parseF s with
  | inl r =>
    obtain ⟨n, p⟩ := r
    simp only [hF] at h ⊢
    exact ⟨.slice none 0 0, .slice none 0 0, .slice none 0 0, h, World.ownsRow_nil _ _ _ _, World.ownsRow_nil _ _ _ _, World.ownsRow_nil _ _ _ _⟩
  | inr S =>
    simp only [hF] at h ⊢
    obtain ⟨v4, v5, v6, he, r⟩ := h
    exact ⟨v4, v5, v6, he, r⟩
theorem shape_of {w : World} {B n : Nat} {v : Value} {xs : List Value} (h : w.ownsRow B 3 1 v n xs) : ∃ a k p, v = .slice a k p := by
  rcases h.2 with ⟨e, _⟩ | ⟨g, cap, cur, e, -⟩
  · exact ⟨_, _, _, e⟩
  · exact ⟨_, _, _, e⟩
theorem box_ok (s : ByteArray) {v4 v5 v6 : Value} {w : World} {B n4 n5 n6 : Nat} {x4 x5 x6 : List Value} (h4 : w.ownsRow B 3 1 v4 n4 x4) (h5 : w.ownsRow B 3 1 v5 n5 x5) (h6 : w.ownsRow B 3 1 v6 n6 x6) : (boxS s v4 v5 v6).size = 12 ∧ (boxS s v4 v5 v6).all (·.oneCell') = true := by
  obtain ⟨_, _, _, rfl⟩ := shape_of h4
  obtain ⟨_, _, _, rfl⟩ := shape_of h5
  obtain ⟨_, _, _, rfl⟩ := shape_of h6
  exact ⟨rfl, by simp [boxS, boxOf, Value.oneCell']⟩
theorem rd_kept {w w' : World} {B : Nat} {v : Value} {ns : List Int} (h : w.ownsRow B 3 1 v ns.length (iCells ns)) (hs : ∀ q, B ≤ q → q < w.heap.size → w'.heap[q]? = w.heap[q]?) : RdI w' v ns := rd_of_own (row_same h hs)
theorem al2 (w : World) (X Y : Obj) : ((w.alloc X).alloc Y).heap[w.heap.size]? = some X ∧ ((w.alloc X).alloc Y).heap[w.heap.size + 1]? = some Y ∧ Below w.heap.size w ((w.alloc X).alloc Y) ∧ ((w.alloc X).alloc Y).heap.size = w.heap.size + 2 :=
  ⟨(al_old _ _ _ (by simp)).trans (heap_alloc_new w _), heap_alloc2_new w _ _, ((Below.refl w.heap.size w).alloc (Nat.le_refl _) _).alloc (by simp) _, by simp⟩
set_option maxHeartbeats 8000000 in
set_option maxRecDepth 100000 in
theorem parses_walk (s : ByteArray) (w : World) (hU : U8 w) (hI : Itm w) (hE : ErrTy w) : Calls Tryd.prog 4 #[.string s] w fun e w' => e = .returned (.bool true) ∧ Below w.heap.size w w' := by
  have hit := hI.lt
  have he0 := lt_of_cell hE
  obtain ⟨m4, m5, m6⟩ := lst_le s
  have HM := hideQ (And.intro m4 (And.intro m5 m6))
  have HU := hideQ hU
  have HI := hideQ hI
  have HE := hideQ hE
  clear hU hI hE m4 m5 m6
  go_enter Tryd.func4, Tryd.ntmps4
  go_wp2_with fail
  refine (plU s w (unhideQ HU) (unhideQ HI) (unhideQ HE)).mono ?_
  rintro e w1 ⟨hb1, v4, v5, v6, rfl, ⟨r4, r5, r6⟩, hap⟩
  obtain ⟨a4, n4, p4, rfl⟩ := shape_of r4
  obtain ⟨a5, n5, p5, rfl⟩ := shape_of r5
  obtain ⟨a6, n6, p6, rfl⟩ := shape_of r6
  have hz1 := hb1.size
  have HB1 := hideQ hb1
  have HR4 := hideQ r4
  have HR5 := hideQ r5
  have HR6 := hideQ r6
  have HAP := hideQ hap
  clear hb1 r4 r5 r6 hap
  have HTB := hideQ (fun (u4 u5 u6 a b c : Value) V h1 h2 h3 h4 h5 h6 => tables_same (numOf s 0 0) (numOf s 1 0) (numOf s 2 0) (numOf s 3 0) (numOf s 3 1) (numOf s 7 0) (numOf s 8 0) (numOf s 9 0) (prOf s) (lstOf s 4) (lstOf s 5) (lstOf s 6) u4 u5 u6 a b c V h1 h2 h3 h4 h5 h6 (unhideQ HM).1 (unhideQ HM).2.1 (unhideQ HM).2.2)
  have HPR := hideQ (fun V => rfU s V)
  have HPL := hideQ (fun V h1 h2 h3 => plU s V h1 h2 h3)
  have HSP := hideQ (fun V B h1 h2 h3 h4 h5 => spoilTable_c (numOf s 0 0) (numOf s 1 0) (numOf s 2 0) (numOf s 3 0) (numOf s 3 1) (numOf s 7 0) (numOf s 8 0) (numOf s 9 0) (prOf s) (lstOf s 4).length (lstOf s 5).length (lstOf s 6).length (iCells (lstOf s 4)) (iCells (lstOf s 5)) (iCells (lstOf s 6)) (.slice a4 n4 p4) (.slice a5 n5 p5) (.slice a6 n6 p6) B V h1 h2 h3 (unhideQ HM).1 (unhideQ HM).2.1 (unhideQ HM).2.2 h4 h5)
  unfold boxS boxOf at HPL ⊢
  unfold boxOf at HTB HSP
  unfold ParsedU boxS boxOf at HPR
  generalize numOf s 0 0 = x0 at HPR HPL HTB HSP ⊢
  generalize numOf s 1 0 = x1 at HPR HPL HTB HSP ⊢
  generalize numOf s 2 0 = x2 at HPR HPL HTB HSP ⊢
  generalize numOf s 3 0 = x3 at HPR HPL HTB HSP ⊢
  generalize numOf s 3 1 = y3 at HPR HPL HTB HSP ⊢
  generalize numOf s 7 0 = x7 at HPR HPL HTB HSP ⊢
  generalize numOf s 8 0 = x8 at HPR HPL HTB HSP ⊢
  generalize numOf s 9 0 = x9 at HPR HPL HTB HSP ⊢
  generalize prOf s = pr at HPR HPL HTB HSP ⊢
  generalize enOf s = en at HPR HPL HTB HSP ⊢
  generalize epOf s = ep at HPR HPL HTB HSP ⊢
  go_wp2_with fail
  have hx1 := al2 w1 (.cells #[.int .i64 x0, .int .i64 x1, .int .i64 x2, .int .i64 x3, .int .i64 y3, .slice a4 n4 p4, .slice a5 n5 p5, .slice a6 n6 p6, .int .i64 x7, .int .i64 x8, .int .i64 x9, .bool pr] 45 (0, 0)) (.cells #[.int .i64 en, .int .i64 (-1), .int .i64 (-1), .int .i64 ep] 25 (0, 0))
  generalize hV1 : World.alloc (World.alloc w1 _) _ = V1 at hx1 ⊢
  obtain ⟨pA, pF, hbV1, hzV1⟩ := hx1
  clear hV1
  refine (unhideQ HPR V1).mono ?_
  rintro e w2 ⟨hb2, u4, u5, u6, rfl, s4, s5, s6⟩
  obtain ⟨b4, k4, q4, rfl⟩ := shape_of s4
  obtain ⟨b5, k5, q5, rfl⟩ := shape_of s5
  obtain ⟨b6, k6, q6, rfl⟩ := shape_of s6
  have hz2 := hb2.size
  have hx2 := al2 w2 (.cells #[.int .i64 x0, .int .i64 x1, .int .i64 x2, .int .i64 x3, .int .i64 y3, .slice b4 k4 q4, .slice b5 k5 q5, .slice b6 k6 q6, .int .i64 x7, .int .i64 x8, .int .i64 x9, .bool pr] 45 (0, 0)) (.cells #[.int .i64 en, .int .i64 (-1), .int .i64 (-1), .int .i64 ep] 29 (0, 0))
  have pA2 := (hx2.2.2.1.block w1.heap.size (by omega)).trans ((hb2.block w1.heap.size (by omega)).trans pA)
  have pF2 := (hx2.2.2.1.block (w1.heap.size + 1) (by omega)).trans ((hb2.block (w1.heap.size + 1) (by omega)).trans pF)
  have c0 := (cells_of (pA2)).1 0
  have c1 := (cells_of (pA2)).1 1
  have c2 := (cells_of (pA2)).1 2
  have c3 := (cells_of (pA2)).1 3
  have c4 := (cells_of (pA2)).1 4
  have c5 := (cells_of (pA2)).1 5
  have c6 := (cells_of (pA2)).1 6
  have c7 := (cells_of (pA2)).1 7
  have c8 := (cells_of (pA2)).1 8
  have c9 := (cells_of (pA2)).1 9
  have c10 := (cells_of (pA2)).1 10
  have c11 := (cells_of (pA2)).1 11
  simp at c0 c1 c2 c3 c4 c5 c6 c7 c8 c9 c10 c11
  have HPA2 := hideQ pA2
  have HPF2 := hideQ pF2
  have HX2 := hideQ hx2
  have HS4 := hideQ s4
  have HS5 := hideQ s5
  have HS6 := hideQ s6
  have HB2 := hideQ hb2
  have HBV1 := hideQ hbV1
  clear hb2 s4 s5 s6 hbV1 pA pF pA2 pF2 hx2
  go_wp2_with fail
  clear c0 c1 c2 c3 c4 c5 c6 c7 c8 c9 c10 c11
  have hx2 := unhideQ HX2
  have pA2 := unhideQ HPA2
  have pF2 := unhideQ HPF2
  clear HX2 HPA2 HPF2
  generalize hV2 : World.alloc (World.alloc w2 _) _ = V2 at hx2 pA2 pF2 ⊢
  obtain ⟨qA, qF, hbV2, hzV2⟩ := hx2
  clear hV2
  have k1 : ∀ q, q < w1.heap.size → V2.heap[q]? = w1.heap[q]? := fun q hq => (hbV2.block q (by omega)).trans (((unhideQ HB2).block q (by omega)).trans ((unhideQ HBV1).block q hq))
  have k2 : ∀ q, q < w2.heap.size → V2.heap[q]? = w2.heap[q]? := fun q hq => hbV2.block q hq
  refine (unhideQ HTB _ _ _ _ _ _ V2 (rd_kept (unhideQ HR4) (fun q _ h => k1 q h)) (rd_kept (unhideQ HR5) (fun q _ h => k1 q h)) (rd_kept (unhideQ HR6) (fun q _ h => k1 q h)) (rd_kept (unhideQ HS4) (fun q _ h => k2 q h)) (rd_kept (unhideQ HS5) (fun q _ h => k2 q h)) (rd_kept (unhideQ HS6) (fun q _ h => k2 q h))).mono ?_
  rintro e w3 ⟨rfl, hb3⟩
  have hz3 := hb3.size
  have f0 := (cells_of ((hb3.block (w1.heap.size + 1) (by omega)).trans pF2)).1 0
  have f1 := (cells_of ((hb3.block (w1.heap.size + 1) (by omega)).trans pF2)).1 1
  have f2 := (cells_of ((hb3.block (w1.heap.size + 1) (by omega)).trans pF2)).1 2
  have f3 := (cells_of ((hb3.block (w1.heap.size + 1) (by omega)).trans pF2)).1 3
  simp at f0 f1 f2 f3
  have g0 := (cells_of ((hb3.block (w2.heap.size + 1) (by omega)).trans qF)).1 0
  have g1 := (cells_of ((hb3.block (w2.heap.size + 1) (by omega)).trans qF)).1 1
  have g2 := (cells_of ((hb3.block (w2.heap.size + 1) (by omega)).trans qF)).1 2
  have g3 := (cells_of ((hb3.block (w2.heap.size + 1) (by omega)).trans qF)).1 3
  simp at g0 g1 g2 g3
  have HB3 := hideQ hb3
  have HPA := hideQ pA2
  have HQA := hideQ qA
  have HBV2 := hideQ hbV2
  have HK1 := hideQ k1
  clear hb3 pA2 pF2 qA qF hbV2 k1 k2
  go_wp2_with fail
  clear f0 f1 f2 f3 g0 g1 g2 g3
  refine (agrees_same en (-1) (-1) ep w3).mono ?_
  rintro e w4 ⟨rfl, hb4⟩
  have hz4 := hb4.size
  have HB34 := hideQ ((unhideQ HB3).trans (hb4.mono (by omega)))
  have pA4 := ((unhideQ HB34).block w1.heap.size (by omega)).trans (unhideQ HPA)
  have c0 := (cells_of (pA4)).1 0
  have c1 := (cells_of (pA4)).1 1
  have c2 := (cells_of (pA4)).1 2
  have c3 := (cells_of (pA4)).1 3
  have c4 := (cells_of (pA4)).1 4
  have c5 := (cells_of (pA4)).1 5
  have c6 := (cells_of (pA4)).1 6
  have c7 := (cells_of (pA4)).1 7
  have c8 := (cells_of (pA4)).1 8
  have c9 := (cells_of (pA4)).1 9
  have c10 := (cells_of (pA4)).1 10
  have c11 := (cells_of (pA4)).1 11
  simp at c0 c1 c2 c3 c4 c5 c6 c7 c8 c9 c10 c11
  have HK4 := hideQ (fun q (hq : q < w1.heap.size) => ((unhideQ HB34).block q (by omega)).trans (unhideQ HK1 q hq))
  clear hb4 pA4 HB3 HK1
  go_wp2_with fail
  clear c0 c1 c2 c3 c4 c5 c6 c7 c8 c9 c10 c11
  have own4 := fun {n v xs} (r : w1.ownsRow w.heap.size 3 1 v n xs) => row_same (u := w4) r (fun q _ h => unhideQ HK4 q h)
  refine (unhideQ HSP w4 w.heap.size (own4 (unhideQ HR4)) (own4 (unhideQ HR5)) (own4 (unhideQ HR6)) (by omega) (unhideQ HAP)).mono ?_
  clear own4
  rintro e w5 ⟨⟨xx, rfl⟩, hsp⟩
  have hz5 := hsp.size
  have h4l := fun g h => (unhideQ HR4).lt g h
  have h5l := fun g h => (unhideQ HR5).lt g h
  have h6l := fun g h => (unhideQ HR6).lt g h
  have HB4 : Hid (Below w.heap.size w w4) := ((unhideQ HB1).trans (((unhideQ HBV1).mono (by omega)).trans (((unhideQ HB2).mono (by omega)).trans (((unhideQ HBV2).mono (by omega)).trans ((unhideQ HB34).mono (by omega))))))
  have HB5 : Hid (Below w.heap.size w w5) := (unhideQ HB4).trans ⟨hsp.os, hsp.tape, hsp.output, by omega, fun q hq => hsp.same q (by omega) (fun e => by have := (h4l q e).1; omega) (fun e => by have := (h5l q e).1; omega) (fun e => by have := (h6l q e).1; omega)⟩
  have up5 : ∀ q, w1.heap.size ≤ q → q < w4.heap.size → w5.heap[q]? = w4.heap[q]? := fun q h1 h2 => hsp.same q h2 (fun e => by have := (h4l q e).2; omega) (fun e => by have := (h5l q e).2; omega) (fun e => by have := (h6l q e).2; omega)
  have HUP := hideQ up5
  clear hsp h4l h5l h6l up5
  go_wp2_with fail
  refine (unhideQ HPL w5 ((unhideQ HU).below (unhideQ HB5) (unhideQ HU).lt) ((unhideQ HI).grown (gb_of_below (row := some w.heap.size) (unhideQ HB5)) (Nat.ne_of_lt hit)) ((unhideQ HE).below (unhideQ HB5) he0)).mono ?_
  rintro e w6 ⟨hb6, t4, t5, t6, rfl, ⟨r4, r5, r6⟩, -⟩
  obtain ⟨c4, i4, j4, rfl⟩ := shape_of r4
  obtain ⟨c5, i5, j5, rfl⟩ := shape_of r5
  obtain ⟨c6, i6, j6, rfl⟩ := shape_of r6
  have hz6 := hb6.size
  have hx6 := al2 w6 (.cells #[.int .i64 x0, .int .i64 x1, .int .i64 x2, .int .i64 x3, .int .i64 y3, .slice c4 i4 j4, .slice c5 i5 j5, .slice c6 i6 j6, .int .i64 x7, .int .i64 x8, .int .i64 x9, .bool pr] 45 (0, 0)) (.cells #[.int .i64 en, .int .i64 (-1), .int .i64 (-1), .int .i64 ep] 25 (0, 0))
  have qA6 := (hx6.2.2.1.block w2.heap.size (by omega)).trans ((hb6.block w2.heap.size (by omega)).trans ((unhideQ HUP w2.heap.size (by omega) (by omega)).trans (((unhideQ HB34).block w2.heap.size (by omega)).trans (unhideQ HQA))))
  have c0 := (cells_of (qA6)).1 0
  have c1 := (cells_of (qA6)).1 1
  have c2 := (cells_of (qA6)).1 2
  have c3 := (cells_of (qA6)).1 3
  have c4 := (cells_of (qA6)).1 4
  have c5 := (cells_of (qA6)).1 5
  have c6 := (cells_of (qA6)).1 6
  have c7 := (cells_of (qA6)).1 7
  have c8 := (cells_of (qA6)).1 8
  have c9 := (cells_of (qA6)).1 9
  have c10 := (cells_of (qA6)).1 10
  have c11 := (cells_of (qA6)).1 11
  simp at c0 c1 c2 c3 c4 c5 c6 c7 c8 c9 c10 c11
  have HX6 := hideQ hx6
  have HB6 := hideQ hb6
  have HT4 := hideQ r4
  have HT5 := hideQ r5
  have HT6 := hideQ r6
  clear hx6 hb6 r4 r5 r6 qA6
  go_wp2_with fail
  clear c0 c1 c2 c3 c4 c5 c6 c7 c8 c9 c10 c11
  have hx6 := unhideQ HX6
  clear HX6
  generalize hV6 : World.alloc (World.alloc w6 _) _ = V6 at hx6 ⊢
  obtain ⟨_, _, hbV6, hzV6⟩ := hx6
  clear hV6
  have k6 : ∀ q, q < w6.heap.size → V6.heap[q]? = w6.heap[q]? := fun q hq => hbV6.block q hq
  have k2 : ∀ q, V1.heap.size ≤ q → q < w2.heap.size → V6.heap[q]? = w2.heap[q]? := fun q h1 hq => (k6 q (by omega)).trans (((unhideQ HB6).block q (by omega)).trans ((unhideQ HUP q (by omega) (by omega)).trans (((unhideQ HB34).block q (by omega)).trans ((unhideQ HBV2).block q hq))))
  refine (unhideQ HTB _ _ _ _ _ _ V6 (rd_kept (unhideQ HT4) (fun q _ h => k6 q h)) (rd_kept (unhideQ HT5) (fun q _ h => k6 q h)) (rd_kept (unhideQ HT6) (fun q _ h => k6 q h)) (rd_kept (unhideQ HS4) k2) (rd_kept (unhideQ HS5) k2) (rd_kept (unhideQ HS6) k2)).mono ?_
  rintro e w7 ⟨rfl, hb7⟩
  have HB7 : Hid (Below w.heap.size w w7) := (unhideQ HB5).trans (((unhideQ HB6).mono (by omega)).trans ((hbV6.mono (by omega)).trans (hb7.mono (by omega))))
  clear hb7 k6 k2 hbV6
  go_wp2
  go_ret
  exact ⟨rfl, unhideQ HB7⟩
end Go.Proofs.YtidhncoecfkbfaaDoor
