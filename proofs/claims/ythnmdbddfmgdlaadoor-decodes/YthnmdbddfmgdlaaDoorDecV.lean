/-
  Decodes: the reference's instruction, walked. Own work of the verifier.
-/
import Derived.Test.YthnmdbddfmgdlaaDoorDecU
namespace Go.Proofs.YthnmdbddfmgdlaaDoor
open Go.RowKit

theorem JunkA.set {A : Array Value} (h : JunkA A) : (∀ j x, j = 0 ∨ j = 1 ∨ j = 2 ∨ j = 3 ∨ j = 5 → JunkA (A.setIfInBounds j (.int .i64 x))) ∧ (∀ x, 0 ≤ x → x < 18446744073709551616 → JunkA (A.setIfInBounds 4 (.int .u64 x))) ∧ (∀ p n c, JunkA (A.setIfInBounds 6 (.slice p n c))) ∧ (∀ p n c, JunkA (A.setIfInBounds 7 (.slice p n c))) := by
  obtain ⟨x0, x1, x2, x3, n, x5, p1, n1, c1, p2, n2, c2, rfl, hb⟩ := h
  refine ⟨fun j x hj => ?_, fun x h0 h1 => ⟨x0, x1, x2, x3, x, x5, p1, n1, c1, p2, n2, c2, rfl, h0, h1⟩, fun p n' c => ⟨x0, x1, x2, x3, n, x5, p, n', c, p2, n2, c2, rfl, hb⟩, fun p n' c => ⟨x0, x1, x2, x3, n, x5, p1, n1, c1, p, n', c, rfl, hb⟩⟩
  rcases hj with rfl | rfl | rfl | rfl | rfl
  · exact ⟨x, x1, x2, x3, n, x5, p1, n1, c1, p2, n2, c2, rfl, hb⟩
  · exact ⟨x0, x, x2, x3, n, x5, p1, n1, c1, p2, n2, c2, rfl, hb⟩
  · exact ⟨x0, x1, x, x3, n, x5, p1, n1, c1, p2, n2, c2, rfl, hb⟩
  · exact ⟨x0, x1, x2, x, n, x5, p1, n1, c1, p2, n2, c2, rfl, hb⟩
  · exact ⟨x0, x1, x2, x3, n, x, p1, n1, c1, p2, n2, c2, rfl, hb⟩
theorem JunkA.at {A : Array Value} (h : JunkA A) : A.size = 8 ∧ A.all (·.oneCell') = true ∧ ∀ j, j < 8 → ∃ v, A[j]? = some v := by
  obtain ⟨x0, x1, x2, x3, n, x5, p1, n1, c1, p2, n2, c2, rfl, hb⟩ := h
  refine ⟨rfl, by simp [Value.oneCell'], fun j hj => ?_⟩
  have : j = 0 ∨ j = 1 ∨ j = 2 ∨ j = 3 ∨ j = 4 ∨ j = 5 ∨ j = 6 ∨ j = 7 := by omega
  rcases this with rfl | rfl | rfl | rfl | rfl | rfl | rfl | rfl <;> exact ⟨_, rfl⟩
set_option maxHeartbeats 16000000 in
set_option maxRecDepth 100000 in
theorem eins_c (b : Nat) (s : ByteArray) (st : Stt) (w : World) (h : EyS w b s st) : Calls Tryd.prog 23 #[.pointer (some ⟨b, 0, none⟩)] w (EinsE b s (sBind st (dIns s)) w) := by
  have hbw := h.lt
  have HC0 := hideE (fun X : Obj => enum_c b s st 1 18 (w.alloc X) (h.alloc X))
  clear h
  go_enter Tryd.func23, Tryd.ntmps23
  go_wp2_with fail
  refine (unhideE HC0 _).mono ?_
  rintro e w1 ⟨rfl, hg, hE1⟩
  obtain ⟨r, hr⟩ : ∃ r, r = sBind st (dNum s 1 18) := ⟨_, rfl⟩
  rw [← hr] at hE1 ⊢
  obtain ⟨op, hop⟩ : ∃ x, x = valOr r := ⟨_, rfl⟩
  rw [← hop]
  have hz1 : w.heap.size < w1.heap.size := by have := hg.size; simp at this; omega
  have hgw : w.grownBy w1 (some b) := gb_tr (gb_alloc w _ (some b)) hg
  have hrow2 := (hg.block w.heap.size (by simp) (by intro e; injection e with e; omega)).trans (heap_alloc_new w _)
  have HROW2 := hideE hrow2
  have HG1 := hideE hgw
  have HE1 := hideE hE1
  have HR := hideE hr
  have HOP := hideE hop
  obtain ⟨bd, hbc, hbi⟩ := (hE1.alloc (.cells #[.int .i64 op, .int .i64 0, .int .i64 0, .int .i64 0, .int .u64 0, .int .i64 0, .slice none 0 0, .slice none 0 0] 65)).badC
  clear hg hgw hrow2 hE1 HC0 hr hop
  cases hrr : r with
  | error q =>
    subst hrr
    have hbd : 0 ≤ bd := by
      rcases Int.lt_or_le bd 0 with h | h
      · obtain ⟨a, h'⟩ := hbi.1 h; cases h'
      · exact h
    have HROW3 := hideE (heap_alloc_new w1 (.cells #[.int .i64 op, .int .i64 0, .int .i64 0, .int .i64 0, .int .u64 0, .int .i64 0, .slice none 0 0, .slice none 0 0] 65))
    have HROW2' := hideE (((gb_alloc w1 (.cells #[.int .i64 op, .int .i64 0, .int .i64 0, .int .i64 0, .int .u64 0, .int .i64 0, .slice none 0 0, .slice none 0 0] 65) none).block _ hz1 (by simp)).trans (unhideE HROW2))
    have HD := hideE (show sBind st (dIns s) = .error q by
      have hr := unhideE HR
      cases st with
      | error q' => injection hr with hr; subst hr; rfl
      | ok a => show dBind (dNum s 1 18 a) _ = _; rw [← show Except.error q = dNum s 1 18 a from hr]; rfl)
    clear hbi HROW2 HR HOP
    go_wp2_with (first | (refine wpList_load_row rfl 65 (.tmp 3) rfl w1.heap.size rfl 65 _ (0, 0) _ (unhideE HROW3) Tryd.underlying65 rfl (Tryd.infInss.trans rfl) ?_) | (refine wpList_store_row rfl 65 (.tmp 2) (.tmp 17) rfl w.heap.size #[.int .i64 op, .int .i64 0, .int .i64 0, .int .i64 0, .int .u64 0, .int .i64 0, .slice none 0 0, .slice none 0 0] rfl rfl 65 _ (unhideE HROW2') (Tryd.infInss.trans rfl) rfl (by simp [Value.oneCell']) ?_))
    refine bodyPost_ret (results_cell (fn := Tryd.f23) (q := 2) (uy := 65) rfl _ _ w.heap.size 65 #[.int .i64 op, .int .i64 0, .int .i64 0, .int .i64 0, .int .u64 0, .int .i64 0, .slice none 0 0, .slice none 0 0] (0, 0) _ rfl (setRow_heap _ _ _ _ _ _ (unhideE HROW2')) Tryd.underlying65 rfl (Tryd.infInss.trans rfl)) rfl ?_
    rw [unhideE HD]
    exact ⟨gb_setRowAt (gb_tr (unhideE HG1) (gb_alloc _ _ _)) (Nat.le_refl _) _, _, rfl, ⟨_, _, _, _, _, _, _, _, _, _, _, _, rfl, by decide, by decide⟩, ((unhideE HE1).alloc _).blk (setRow_other _ _ _ _ (by omega)), fun i a h => by cases h⟩
  | ok p =>
    obtain ⟨op', a1⟩ := p
    subst hrr
    obtain rfl : op = op' := unhideE HOP
    have hbd : ¬ 0 ≤ bd := by
      have := hbi.2 ⟨a1, rfl⟩
      omega
    obtain ⟨a0, hst, hd0⟩ : ∃ a0, st = .ok a0 ∧ dNum s 1 18 a0 = .ok (op, a1) := by
      have hr := unhideE HR
      cases st with
      | error q' => cases hr
      | ok a => exact ⟨a, rfl, hr.symm⟩
    subst hst
    have HD := hideE (show sBind (.ok a0) (dIns s) = dParts s (shapeLs op) (ins0 op) a1 by show dBind (dNum s 1 18 a0) _ = _; rw [hd0]; rfl)
    have hE1' : EyS w1 b s (.ok a1) := unhideE HE1
    have HE1b := hideE hE1'
    clear hbi HR HOP hd0 HE1 hE1'
    go_wp2_with fail
    refine (shape_c op _).mono ?_
    rintro e wx ⟨rfl, hwx⟩
    subst wx
    obtain ⟨sh, hsh⟩ : ∃ x, x = shapeB op := ⟨_, rfl⟩
    rw [← hsh]
    obtain ⟨ls, hls⟩ : ∃ x, x = sh.data.toList := ⟨_, rfl⟩
    have hlsS : ls = shapeLs op := by rw [hls, hsh]; rfl
    have hsl : ls.length = sh.size := by rw [hls]; exact Array.length_toList
    have hei0 : EI w ((w1.alloc (.cells #[.int .i64 op, .int .i64 0, .int .i64 0, .int .i64 0, .int .u64 0, .int .i64 0, .slice none 0 0, .slice none 0 0] 65 (0, 0))).alloc (.stringIter sh 0)) b w.heap.size w1.heap.size s (.ok a1) #[.int .i64 op, .int .i64 0, .int .i64 0, .int .i64 0, .int .u64 0, .int .i64 0, .slice none 0 0, .slice none 0 0] sh 0 :=
      ⟨((unhideE HE1b).alloc _).alloc _, ((gb_alloc _ _ none).block _ (by simp; omega) (by simp)).trans (((gb_alloc _ _ none).block _ hz1 (by simp)).trans (unhideE HROW2)), heap_alloc2_old _ _ _, heap_alloc2_new _ _ _, gb_tr (unhideE HG1) (gb_tr (gb_alloc _ _ _) (gb_alloc _ _ _)), hbw, Nat.le_refl _, hz1⟩
    have HEI0 := hideE hei0
    have HLS := hideE hls
    have HLSS := hideE hlsS
    have HLEN := hideE hsl
    clear hei0 hls hsl hlsS hsh HROW2 HG1 HE1b hbc
    go_wp2_with fail
    obtain ⟨T3, hT3⟩ : ∃ T, T = w1.heap.size := ⟨_, rfl⟩
    rw [← hT3] at HEI0 hz1 ⊢
    have HT3 := hideE hT3
    clear hT3
    go_loopw [] (fun wr => ∃ (q : Nat) (A : Array Value) (st : Stt), q ≤ sh.size ∧ EI w wr b w.heap.size T3 s st A sh q ∧ JunkA A ∧ InsS s op a1 wr T3 A st (ls.take q)) (fun wr => sh.size - wr.iterPos (T3 + 1))
    case atStart => exact ⟨0, _, _, by omega, unhideE HEI0, ⟨op, 0, 0, 0, 0, 0, none, 0, 0, none, 0, 0, rfl, by decide, by decide⟩, Or.inl ⟨ins0 op, a1, by simp [dParts], rfl, ⟨_, _, rfl, RepL.nil _ _ _ _ _, RepL.nil _ _ _ _ _⟩, fun _ _ => rfl, fun _ => rfl⟩⟩
    case round =>
      obtain ⟨q, A, st, hq, hei, hja, his⟩ := hrel
      have hit := hei.it
      have hm := iterPos_of hit
      clear HEI0
      by_cases hp : q < sh.size
      · have hxl : q < ls.length := by rw [unhideE HLEN]; exact hp
        have hmem : ls[q] ∈ shapeLs op := (show ∀ x, x ∈ ls → x ∈ shapeLs op from fun x hx => (unhideE HLSS) ▸ hx) _ (List.getElem_mem hxl)
        have hfr : ls[q] ∉ ls.take q ∧ (ls[q] = 78 → (110 : UInt8) ∉ ls.take q) := by
          have e := unhideE HLSS
          subst e
          exact shape_fresh op q hxl
        have hget : sh[q]'hp = ls[q] := by
          have := unhideE HLS
          subst this
          rfl
        have htk := take_mid hxl
        have hlet := shape_letters op _ hmem
        generalize ls[q] = c at hget htk hlet hfr
        have hnx : ∀ ty, (Instr.next (.pointer (some ⟨T3 + 1, 0, none⟩)) true ty).run Tryd.prog wr = .ok (.tuple #[.bool true, .int .i64 q, .int .i32 c.toNat]) (wr.iterAt (T3 + 1) sh (q + 1)) := fun ty => by
          have hc128 : c.toNat < 128 := by rcases hlet with rfl | rfl | rfl | rfl | rfl | rfl | rfl | rfl | rfl <;> decide
          have := Lib.run_next_ascii_at (P := Tryd.prog) wr (T3 + 1) sh q ty hit hp (by rw [hget]; exact hc128)
          rw [hget] at this
          exact this
        have hei := hei.next (q + 1)
        have his : InsS s op a1 (wr.iterAt (T3 + 1) sh (q + 1)) T3 A st (ls.take q) := his.keep (fun k h1 _ => Lib.iterAt_other _ _ _ _ _ (by omega))
        obtain ⟨u, hu⟩ : ∃ u, u = wr.iterAt (T3 + 1) sh (q + 1) := ⟨_, rfl⟩
        rw [← hu] at hnx hei his
        have HTK := hideE htk
        obtain ⟨fr1, fr2⟩ := hfr
        have HFR1 := hideE fr1
        have HFR2 := hideE fr2
        clear hu htk hget hmem hit fr1 fr2
        obtain ⟨x0, x1, x2, x3, n, x5, p1, n1, c1, p2, n2, c2, rfl, hnb⟩ := hja
        have HEI := hideE hei
        have HIS := hideE his
        have hlt3 := hei.lt
        have hq0 := hei.h0
        have hq2 := hei.h2
        have hq3 := hei.h3
        have HJ := hideE (show JunkA #[.int .i64 x0, .int .i64 x1, .int .i64 x2, .int .i64 x3, .int .u64 n, .int .i64 x5, .slice p1 n1 c1, .slice p2 n2 c2] from ⟨x0, x1, x2, x3, n, x5, p1, n1, c1, p2, n2, c2, rfl, hnb⟩)
        generalize hpre : ls.take q = pre at HIS HTK HFR1 HFR2
        have HPRE := hideE hpre
        clear hei his hpre
        rcases hlet with rfl | rfl | rfl | rfl | rfl | rfl | rfl | rfl | rfl
        · -- ?
          go_wp2
          go_roundw
          case rel => exact ⟨q + 1, _, st, hp, unhideE HEI, unhideE HJ, by rw [unhideE HTK]; exact (unhideE HIS).none⟩
          case measure => rw [hm, iterPos_of (unhideE HEI).it]; omega
        · -- D
          have HC := hideE (enum_c b s st 0 255 u (unhideE HEI).ey)
          have HSN := hideE ((unhideE HIS).num 68 1 (fun i x => { i with d := x }) (fun i a => rfl) (fun w B A i x h => by obtain ⟨av, ov, rfl, h1, h2⟩ := h; exact ⟨av, ov, rfl, h1, h2⟩) (fun i x => rfl) (fun i x => rfl))
          generalize hy : valOr (sBind st (dNum s 0 255)) = y at HSN
          go_wp2_with fail
          refine (unhideE HC).mono ?_
          rintro e w2 ⟨rfl, hg2, hE2⟩
          rw [hy]
          have hei2 := (unhideE HEI).call hE2 hg2
          have k2 := hei2.cell 1 _ rfl
          have f2 := hei2.fz 1
          have HZ := hideE (hei2.set 1 (.int .i64 y))
          have HSZ := hideE (((unhideE HSN).keep ((unhideE HEI).kept hg2)).keep (kept_set2 w2 T3 1 (.int .i64 y)))
          clear hei2 hg2 hE2 HC hy HSN
          go_wp2
          go_roundw
          case rel => exact ⟨q + 1, _, _, hp, unhideE HZ, (unhideE HJ).set.1 1 y (by decide), by rw [unhideE HTK]; exact unhideE HSZ⟩
          case measure => rw [hm, iterPos_of (unhideE HZ).it]; omega
        · -- A
          have HC := hideE (enum_c b s st 0 255 u (unhideE HEI).ey)
          have HSN := hideE ((unhideE HIS).num 65 2 (fun i x => { i with a := x }) (fun i a => rfl) (fun w B A i x h => by obtain ⟨av, ov, rfl, h1, h2⟩ := h; exact ⟨av, ov, rfl, h1, h2⟩) (fun i x => rfl) (fun i x => rfl))
          generalize hy : valOr (sBind st (dNum s 0 255)) = y at HSN
          go_wp2_with fail
          refine (unhideE HC).mono ?_
          rintro e w2 ⟨rfl, hg2, hE2⟩
          rw [hy]
          have hei2 := (unhideE HEI).call hE2 hg2
          have k2 := hei2.cell 2 _ rfl
          have f2 := hei2.fz 2
          have HZ := hideE (hei2.set 2 (.int .i64 y))
          have HSZ := hideE (((unhideE HSN).keep ((unhideE HEI).kept hg2)).keep (kept_set2 w2 T3 2 (.int .i64 y)))
          clear hei2 hg2 hE2 HC hy HSN
          go_wp2
          go_roundw
          case rel => exact ⟨q + 1, _, _, hp, unhideE HZ, (unhideE HJ).set.1 2 y (by decide), by rw [unhideE HTK]; exact unhideE HSZ⟩
          case measure => rw [hm, iterPos_of (unhideE HZ).it]; omega
        · -- B
          have HC := hideE (enum_c b s st 0 255 u (unhideE HEI).ey)
          have HSN := hideE ((unhideE HIS).num 66 3 (fun i x => { i with bb := x }) (fun i a => rfl) (fun w B A i x h => by obtain ⟨av, ov, rfl, h1, h2⟩ := h; exact ⟨av, ov, rfl, h1, h2⟩) (fun i x => rfl) (fun i x => rfl))
          generalize hy : valOr (sBind st (dNum s 0 255)) = y at HSN
          go_wp2_with fail
          refine (unhideE HC).mono ?_
          rintro e w2 ⟨rfl, hg2, hE2⟩
          rw [hy]
          have hei2 := (unhideE HEI).call hE2 hg2
          have k2 := hei2.cell 3 _ rfl
          have f2 := hei2.fz 3
          have HZ := hideE (hei2.set 3 (.int .i64 y))
          have HSZ := hideE (((unhideE HSN).keep ((unhideE HEI).kept hg2)).keep (kept_set2 w2 T3 3 (.int .i64 y)))
          clear hei2 hg2 hE2 HC hy HSN
          go_wp2
          go_roundw
          case rel => exact ⟨q + 1, _, _, hp, unhideE HZ, (unhideE HJ).set.1 3 y (by decide), by rw [unhideE HTK]; exact unhideE HSZ⟩
          case measure => rw [hm, iterPos_of (unhideE HZ).it]; omega
        · -- n
          have HC := hideE (enum_c b s st 0 255 u (unhideE HEI).ey)
          obtain ⟨v0, v1⟩ := valOr_bd s st 255 (by decide)
          have HSN := hideE (unhideE HIS).one
          generalize hy : valOr (sBind st (dNum s 0 255)) = y at v0 v1 HSN
          go_wp2_with fail
          refine (unhideE HC).mono ?_
          rintro e w2 ⟨rfl, hg2, hE2⟩
          rw [hy]
          have hei2 := (unhideE HEI).call hE2 hg2
          have k2 := hei2.cell 4 _ rfl
          have f2 := hei2.fz 4
          have HZ := hideE (hei2.set 4 (.int .u64 y))
          have HSZ := hideE (((unhideE HSN).keep ((unhideE HEI).kept hg2)).keep (kept_set2 w2 T3 4 (.int .u64 y)))
          clear hei2 hg2 hE2 HC hy HSN
          go_wp2
          go_roundw
          case rel => exact ⟨q + 1, _, _, hp, unhideE HZ, (unhideE HJ).set.2.1 y v0 (by omega), by rw [unhideE HTK]; exact unhideE HSZ⟩
          case measure => rw [hm, iterPos_of (unhideE HZ).it]; omega
        · -- N
          have HS8 := hideE ((unhideE HIS).eight (unhideE HFR2 rfl) (unhideE HFR1))
          have hv8 := val64_bd st n s hnb 8
          go_wp2_with fail
          refine insLoopN w b w.heap.size T3 s st sh (q + 1) x0 x1 x2 x3 n x5 (.slice p1 n1 c1) (.slice p2 n2 c2) u _ _ _ _ _ _ _ _ _ _ _ _ _ _ _ _ _ _ _ _ _ _ _ _ _ _ _ _ _ _ _ _ _ _ _ _ _ _ _ _ _ _ _ _ _ _ _ _ _ _ _ _ _ _ _ _ _ _ _ _ _ _ _ _ _ _ _ _ _ _ _ _ _ _ _ _ _ _ _ _ _ _ _ _ _ _ _ _ _ _ _ _ _ _ _ _ hnb (unhideE HEI) ?_
          intro u6 u49 u50 u51 u52 u53 u54 u55 u56 u57 u58 u59 u60 u2 hei2 hk2 hs2
          have HZ := hideE hei2
          have HSZ := hideE ((unhideE HS8).keep hk2)
          clear hei2 hk2 HS8
          generalize (val64 8 st n s).1 = y8 at hv8 HZ HSZ
          generalize (val64 8 st n s).2 = st8 at HZ HSZ
          go_wp2
          go_roundw
          case rel => exact ⟨q + 1, _, _, hp, unhideE HZ, (unhideE HJ).set.2.1 y8 hv8.1 hv8.2, by rw [unhideE HTK]; exact unhideE HSZ⟩
          case measure => rw [hm, iterPos_of (unhideE HZ).it]; omega
        · -- F
          have HC := hideE (enum_c b s st 0 255 u (unhideE HEI).ey)
          have HSN := hideE ((unhideE HIS).num 70 5 (fun i x => { i with f := x }) (fun i a => rfl) (fun w B A i x h => by obtain ⟨av, ov, rfl, h1, h2⟩ := h; exact ⟨av, ov, rfl, h1, h2⟩) (fun i x => rfl) (fun i x => rfl))
          generalize hy : valOr (sBind st (dNum s 0 255)) = y at HSN
          go_wp2_with fail
          refine (unhideE HC).mono ?_
          rintro e w2 ⟨rfl, hg2, hE2⟩
          rw [hy]
          have hei2 := (unhideE HEI).call hE2 hg2
          have k2 := hei2.cell 5 _ rfl
          have f2 := hei2.fz 5
          have HZ := hideE (hei2.set 5 (.int .i64 y))
          have HSZ := hideE (((unhideE HSN).keep ((unhideE HEI).kept hg2)).keep (kept_set2 w2 T3 5 (.int .i64 y)))
          clear hei2 hg2 hE2 HC hy HSN
          go_wp2
          go_roundw
          case rel => exact ⟨q + 1, _, _, hp, unhideE HZ, (unhideE HJ).set.1 5 y (by decide), by rw [unhideE HTK]; exact unhideE HSZ⟩
          case measure => rw [hm, iterPos_of (unhideE HZ).it]; omega
        · -- R
          have HC := hideE (enum_c b s st 0 8 u (unhideE HEI).ey)
          cases hd : sBind st (dNum s 0 8) with
          | error qq =>
            rw [hd] at HC
            have HSN := hideE (fun u' A' => (unhideE HIS).bad (u' := u') (A' := A') hd)
            go_wp2_with fail
            refine (unhideE HC).mono ?_
            rintro e w2 ⟨rfl, hg2, hE2⟩
            have HZ := hideE ((unhideE HEI).call hE2 hg2)
            clear hg2 hE2 HC hd
            simp only [valOr]
            go_wp2_with fail
            refine wp_loop_rounds 1 ?_
            rw [rounds_succ]
            go_wp2
            go_roundw
            case rel => exact ⟨q + 1, _, _, hp, unhideE HZ, unhideE HJ, by rw [unhideE HTK]; exact unhideE HSN _ _⟩
            case measure => rw [hm, iterPos_of (unhideE HZ).it]; omega
          | ok pp =>
            obtain ⟨nv, a2⟩ := pp
            obtain ⟨a, rfl, hd0⟩ : ∃ a, st = .ok a ∧ dNum s 0 8 a = .ok (nv, a2) := by
              cases st with
              | error q' => cases hd
              | ok a => exact ⟨a, rfl, hd⟩
            obtain ⟨hn0, hn1⟩ := dNum_bd hd0
            obtain ⟨N, rfl⟩ := Int.eq_ofNat_of_zero_le hn0
            rw [hd] at HC
            have HNA := hideE ((unhideE HIS).noArgs (unhideE HFR1))
            have HSN := hideE (fun (u' : World) (av' : Value) hk ho => (unhideE HIS).args (u' := u') (av' := av') hd0 hk ho)
            go_wp2_with fail
            refine (unhideE HC).mono ?_
            rintro e w2 ⟨rfl, hg2, hE2⟩
            have hk2 := (unhideE HEI).kept hg2
            have hs2 := hg2.size
            have HZ := hideE ((unhideE HEI).call hE2 hg2)
            have HNA2 := hideE ((unhideE HNA).keep (Nat.le_refl _) hk2 (fun _ _ h => h))
            have HK2 := hideE (KeptT.of_on (T := 82) hk2)
            clear hg2 hE2 HC hd hd0 HNA hk2 hn0
            simp only [valOr]
            go_wp2_with fail
            refine insLoopR w b w.heap.size T3 s sh (q + 1) x0 x1 x2 x3 n x5 (.slice p2 n2 c2) N a2 (.slice p1 n1 c1) w2 _ _ _ _ _ _ _ _ _ _ _ _ _ _ _ _ _ _ _ _ _ _ _ _ _ _ _ _ _ _ _ _ _ _ _ _ _ _ _ _ _ _ _ _ _ _ _ _ _ _ _ _ _ _ _ _ _ _ _ _ _ _ _ _ _ _ _ _ _ _ _ _ _ _ _ _ _ _ _ _ _ _ _ _ _ _ _ _ _ _ _ _ _ _ _ _ (by omega) (unhideE HZ) (unhideE HNA2) ?_
            intro u7 u8 u70 u71 u72 u73 u74 u75 u76 u77 u78 u79 u80 u81 u82 u83 u84 u85 u86 u87 u88 u89 u90 u91 u3 av3 hei3 hk3 hs3 hav3 hrep3
            obtain ⟨p3, n3, c3, rfl⟩ := hav3
            have HZ3 := hideE hei3
            have HSZ := hideE (unhideE HSN u3 (.slice p3 n3 c3) ((unhideE HK2).tr hs2 hk3) hrep3)
            clear hei3 hk3 hrep3 HSN HZ
            go_wp2
            go_roundw
            case rel => exact ⟨q + 1, _, _, hp, unhideE HZ3, (unhideE HJ).set.2.2.1 p3 n3 c3, by rw [unhideE HTK]; exact unhideE HSZ⟩
            case measure => rw [hm, iterPos_of (unhideE HZ3).it]; omega
        · -- O
          have HC := hideE (enums_c b s st 4 0 255 u (unhideE HEI).ey (by decide))
          go_wp2_with fail
          refine (unhideE HC).mono ?_
          rintro e w2 ⟨hg2, v, rfl, hE2, ⟨pv, nv, cv, rfl⟩, hrep⟩
          have hei2 := (unhideE HEI).call hE2 hg2
          have k2 := hei2.cell 7 _ rfl
          have f2 := hei2.fz 7
          have HZ := hideE (hei2.set 7 (.slice pv nv cv))
          have HSZ := hideE (((unhideE HIS).list (ov' := .slice pv nv cv) ((unhideE HEI).kept hg2) (fun xs a hh => (hrep xs a hh).keep (by omega) (fun _ _ _ => rfl) (fun _ _ h => h))).keep (kept_set2 w2 T3 7 (.slice pv nv cv)))
          clear hei2 hg2 hE2 HC hrep
          go_wp2
          go_roundw
          case rel => exact ⟨q + 1, _, _, hp, unhideE HZ, (unhideE HJ).set.2.2.2 pv nv cv, by rw [unhideE HTK]; exact unhideE HSZ⟩
          case measure => rw [hm, iterPos_of (unhideE HZ).it]; omega
      · obtain rfl : q = sh.size := by omega
        have htl : ls.take sh.size = ls := by rw [← unhideE HLEN]; exact List.take_length
        rw [htl] at his
        have hnx : ∀ ty, (Instr.next (.pointer (some ⟨T3 + 1, 0, none⟩)) true ty).run Tryd.prog wr = _ := fun ty => Lib.run_next_end_at wr (T3 + 1) sh _ ty hit hp
        have hj := hja.at
        have HEI := hideE hei
        have HIS := hideE his
        have HJ := hideE hja
        have HR2 := hideE hei.r2
        have HR3 := hideE hei.r3
        have hb2 := hei.h2
        have hb3 := hei.h3
        have hb0 := hei.h0
        clear hei his hja hit htl
        go_wp2_with (first | (refine wpList_load_row rfl 65 (.tmp 3) rfl T3 rfl 65 A (0, 0) _ (unhideE HR3) Tryd.underlying65 rfl (Tryd.infInss.trans (congrArg some hj.1.symm)) ?_) | (refine wpList_store_row rfl 65 (.tmp 2) (.tmp 97) rfl w.heap.size A rfl rfl 65 _ (unhideE HR2) (Tryd.infInss.trans (congrArg some hj.1.symm)) hj.1.symm hj.2.1 ?_))
        refine bodyPost_ret (results_cell (fn := Tryd.f23) (q := 2) (uy := 65) rfl _ _ w.heap.size 65 A (0, 0) _ rfl (setRow_heap _ _ _ _ _ _ (unhideE HR2)) Tryd.underlying65 rfl (Tryd.infInss.trans (congrArg some hj.1.symm))) rfl ?_
        rw [unhideE HD]
        have hs := unhideE HEI
        have hi := unhideE HIS
        rw [unhideE HLSS] at hi
        refine ⟨gb_setRowAt hs.gb (Nat.le_refl _) _, A, rfl, unhideE HJ, ?_, fun i a h => ?_⟩
        · have hey := hs.ey.blk (w' := wr.setRow w.heap.size A) (setRow_other _ _ _ _ (by omega))
          rcases hi with ⟨i, a, h1, rfl, -⟩ | ⟨q, h1, rfl⟩
          · rw [h1]; exact hey
          · rw [h1]; exact hey
        · rcases hi with ⟨i', a', h1, rfl, h3, -⟩ | ⟨q, h1, rfl⟩
          · rw [h1] at h
            injection h with h
            injection h with h4 h5
            subst h4
            exact mono_RIns _ _ _ _ _ _ (by omega) (kept_setRow _ _ _ _ (by omega)) h3
          · rw [h1] at h; cases h
end Go.Proofs.YthnmdbddfmgdlaaDoor
