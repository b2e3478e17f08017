/-
  Encodes: blocks, functions, programs by their contracts. Own work of the verifier.
-/
import Derived.Test.YthnmdbddfmgdlaaDoorEncD
namespace Go.Proofs.YthnmdbddfmgdlaaDoor
open Go.RowKit

set_option maxRecDepth 100000 in
theorem instruction_c (b : Nat) (hb1 : 1 < b) (v : Value) (l : List UInt8) (i : InsE) (av ov : Value) (w : World) (h : Wt w b v l) (hl : l.length ≤ 88000000000) (hg : NeedsAt w) (pa : List (Array Value × (Int × Int))) (hpa : pa.map (·.2) = i.args) (hpv : ∀ p ∈ pa, p.1 = #[.int .i64 p.2.1, .int .i64 p.2.2]) (hargs : LsB 2 w b av pa) (houts : RsB w b ov i.outs) (hal : i.args.length < 9223372036854775808) (hol : i.outs.length < 9223372036854775808) :
    Calls Tryd.prog 79 #[.pointer (some ⟨b, 0, none⟩), .agg #[.int .i64 i.op, .int .i64 i.d, .int .i64 i.a, .int .i64 i.bb, .int .u64 i.n, .int .i64 i.f, av, ov]] w (EncE b l (encIns i) w) := by
  by_cases hop : 1 ≤ i.op ∧ i.op ≤ 18
  · obtain ⟨h1, h18⟩ := hop
    have hs : i.op = 1 ∨ i.op = 2 ∨ i.op = 3 ∨ i.op = 4 ∨ i.op = 5 ∨ i.op = 6 ∨ i.op = 7 ∨ i.op = 8 ∨ i.op = 9 ∨ i.op = 10 ∨ i.op = 11 ∨ i.op = 12 ∨ i.op = 13 ∨ i.op = 14 ∨ i.op = 15 ∨ i.op = 16 ∨ i.op = 17 ∨ i.op = 18 := by omega
    rcases hs with hs | hs | hs | hs | hs | hs | hs | hs | hs | hs | hs | hs | hs | hs | hs | hs | hs | hs
    · exact ins9_c b hb1 v l i av ov w h hl hg h1 h18 (by rw [hs]; rfl) pa hpa hpv hargs houts hal hol
    · exact ins3_c b hb1 v l i av ov w h hl hg h1 h18 (by rw [hs]; rfl) pa hpa hpv hargs houts hal hol
    · exact ins7_c b hb1 v l i av ov w h hl hg h1 h18 (by rw [hs]; rfl) pa hpa hpv hargs houts hal hol
    · exact ins7_c b hb1 v l i av ov w h hl hg h1 h18 (by rw [hs]; rfl) pa hpa hpv hargs houts hal hol
    · exact ins7_c b hb1 v l i av ov w h hl hg h1 h18 (by rw [hs]; rfl) pa hpa hpv hargs houts hal hol
    · exact ins7_c b hb1 v l i av ov w h hl hg h1 h18 (by rw [hs]; rfl) pa hpa hpv hargs houts hal hol
    · exact ins7_c b hb1 v l i av ov w h hl hg h1 h18 (by rw [hs]; rfl) pa hpa hpv hargs houts hal hol
    · exact ins7_c b hb1 v l i av ov w h hl hg h1 h18 (by rw [hs]; rfl) pa hpa hpv hargs houts hal hol
    · exact ins7_c b hb1 v l i av ov w h hl hg h1 h18 (by rw [hs]; rfl) pa hpa hpv hargs houts hal hol
    · exact ins15_c b hb1 v l i av ov w h hl hg h1 h18 (by rw [hs]; rfl) pa hpa hpv hargs houts hal hol
    · exact ins15_c b hb1 v l i av ov w h hl hg h1 h18 (by rw [hs]; rfl) pa hpa hpv hargs houts hal hol
    · exact ins112_c b hb1 v l i av ov w h hl hg h1 h18 (by rw [hs]; rfl) pa hpa hpv hargs houts hal hol
    · exact ins112_c b hb1 v l i av ov w h hl hg h1 h18 (by rw [hs]; rfl) pa hpa hpv hargs houts hal hol
    · exact ins2_c b hb1 v l i av ov w h hl hg h1 h18 (by rw [hs]; rfl) pa hpa hpv hargs houts hal hol
    · exact ins7_c b hb1 v l i av ov w h hl hg h1 h18 (by rw [hs]; rfl) pa hpa hpv hargs houts hal hol
    · exact ins64_c b hb1 v l i av ov w h hl hg h1 h18 (by rw [hs]; rfl) pa hpa hpv hargs houts hal hol
    · exact ins48_c b hb1 v l i av ov w h hl hg h1 h18 (by rw [hs]; rfl) pa hpa hpv hargs houts hal hol
    · exact ins8_c b hb1 v l i av ov w h hl hg h1 h18 (by rw [hs]; rfl) pa hpa hpv hargs houts hal hol
  · obtain ⟨ap, ac, hav⟩ := hargs.shape
    obtain ⟨op', oc, hov⟩ := houts.shape
    subst hav hov
    have hbl := h.lt
    have HR := hideE (show encIns i = none by unfold encIns; rw [show encNum 1 18 i.op = none from if_neg hop]; rfl)
    have HNUM := hideE (show encNum 1 18 i.op = none from if_neg hop)
    have HN := hideE (fun X : Obj => number_c b v l i.op 1 18 (w.alloc X) (h.alloc X) (by omega))
    have HWA := hideE (fun X : Obj => ws_alloc w X b (by omega))
    clear hargs houts hg h hop hpa hpv
    go_enter Tryd.func79, Tryd.ntmps79
    go_wp2_with fail
    refine (unhideE HN _).mono ?_
    rintro e w1 ⟨hws, hm⟩
    rw [unhideE HNUM] at hm
    subst hm
    exact ⟨rfl, (unhideE HWA _).trans hws, by rw [unhideE HR]⟩
theorem encIns_len (i : InsE) (bs : List UInt8) (h : encIns i = some bs) : bs.length ≤ 40 := by
  have c1 : ∀ c x (bs : List UInt8), condE c (encNum 0 255 x) = some bs → bs.length ≤ 1 := by
    intro c x bs h
    cases c with
    | true => exact Nat.le_of_eq (encNum_len h)
    | false => cases h; simp
  unfold encIns at h
  obtain ⟨x0, y0, e0, f0, rfl⟩ := seqE_some h
  have g0 := encNum_len e0
  split at f0
  · cases f0
  · obtain ⟨x1, y1, e1, f1, rfl⟩ := seqE_some f0
    obtain ⟨x2, y2, e2, f2, rfl⟩ := seqE_some f1
    obtain ⟨x3, y3, e3, f3, rfl⟩ := seqE_some f2
    obtain ⟨x4, y4, e4, f4, rfl⟩ := seqE_some f3
    obtain ⟨x5, y5, e5, f5, rfl⟩ := seqE_some f4
    obtain ⟨x6, y6, e6, f6, rfl⟩ := seqE_some f5
    have g1 := c1 _ _ _ e1
    have g2 := c1 _ _ _ e2
    have g3 := c1 _ _ _ e3
    have g4 : x4.length ≤ 8 := by
      revert e4
      cases needBit i.op 8 with
      | true => intro e; exact encOp_len e
      | false => intro e; cases e; simp
    have g5 := c1 _ _ _ e5
    have g6 : x6.length ≤ 17 := by
      revert e6
      cases needBit i.op 32 with
      | true => intro e; exact encL_len encArg 2 encArg_len 0 8 _ _ e
      | false => intro e; cases e; simp
    have g7 : y6.length ≤ 5 := by
      revert f6
      cases needBit i.op 64 with
      | true => intro e; exact encL_len (encNum 0 255) 1 (fun _ _ h => Nat.le_of_eq (encNum_len h)) 0 4 _ _ e
      | false => intro e; cases e; simp
    simp only [List.length_append]
    omega
/-- A list of one-cell values that lies below the writer. -/
def VsB {α : Type} (w : World) (b : Nat) (v : Value) (ps : List (Value × α)) : Prop := (ps = [] ∧ ∃ p cap, v = .slice p 0 cap) ∨ ∃ sb so cap, v = .slice (some ⟨sb, so, none⟩) ps.length cap ∧ sb < b ∧ ∀ i (hi : i < ps.length), w.cell? ⟨sb, so + i, none⟩ = some ps[i].1
theorem VsB.ws {α : Type} {w w' : World} {b : Nat} {v : Value} {ps : List (Value × α)} (h : VsB w b v ps) (hw : Ws w w' b) : VsB w' b v ps := by
  rcases h with h | ⟨sb, so, cap, h1, h2, h3⟩
  · exact Or.inl h
  · exact Or.inr ⟨sb, so, cap, h1, h2, fun i hi => (hw.low.cell (p := ⟨sb, so + i, none⟩) h2).trans (h3 i hi)⟩
theorem VsB.shape {α : Type} {w : World} {b : Nat} {v : Value} {ps : List (Value × α)} (h : VsB w b v ps) : ∃ p cap, v = .slice p ps.length cap := by
  rcases h with ⟨rfl, p, cap, e⟩ | ⟨sb, so, cap, e, _⟩
  · exact ⟨p, cap, e⟩
  · exact ⟨_, _, e⟩
set_option maxHeartbeats 4000000 in
set_option maxRecDepth 100000 in
theorem writeBlocks_c {α : Type} (F : Nat) (hcf : ∀ args w, (callFunc F args).run Tryd.prog w = .ok (.enter F args) w) (one : α → Option (List UInt8)) (K : Nat) (hK : ∀ x bs, one x = some bs → bs.length ≤ K) (hK2 : K ≤ 1000000) (b : Nat) (M : Nat) (hM : M ≤ 90000000000) (ps : List (Value × α)) (w : World)
    (hsh : ∀ p ∈ ps, ∃ q n cap, p.1 = .slice q n cap)
    (hone : ∀ p ∈ ps, ∀ v l w', Ws w w' b → Wt w' b v l → l.length ≤ M + 1000000001 → Calls Tryd.prog F #[.pointer (some ⟨b, 0, none⟩), p.1] w' (EncE b l (one p.2) w'))
    (lo hi : Int) (hhi : hi ≤ 1000) (v : Value) (l : List UInt8) (lv : Value) (h : Wt w b v l) (hl : l.length ≤ M) (hns : VsB w b lv ps) (hlen : ps.length < 9223372036854775808) :
    Calls Tryd.prog 65 #[.pointer (some ⟨b, 0, none⟩), lv, .int .i64 lo, .int .i64 hi, .func (.func F) #[.pointer (some ⟨b, 0, none⟩)] #[]] w (EncE b l (encL lo hi one (ps.map (·.2))) w) := by
  obtain ⟨pp, cap, hlv⟩ := hns.shape
  have HN := hideE hns
  subst hlv
  have HNC := hideE (number_c b v l ps.length lo hi w h (by omega))
  have HONE := hideE hone
  have HSH := hideE hsh
  have HK := hideE hK
  clear hone hK h hns hsh
  go_enter Tryd.func65, Tryd.ntmps65
  go_wp2_with fail
  refine (unhideE HNC).mono ?_
  rintro e w1 ⟨hws, hm⟩
  cases hr : encNum lo hi ps.length with
  | none =>
    rw [hr] at hm
    subst hm
    refine ⟨rfl, hws, ?_⟩
    unfold encL
    rw [List.length_map, hr]
    rfl
  | some bs =>
    rw [hr] at hm
    obtain ⟨rfl, v1, hw1⟩ := hm
    have hb1 := encNum_len hr
    have hle : lo ≤ ps.length ∧ (ps.length : Int) ≤ hi := by
      unfold encNum at hr
      split at hr
      · assumption
      · cases hr
    have HWS := hideE hws
    have HW1 := hideE hw1
    have HR := hideE hr
    clear hws hw1 hr HNC
    go_wp2_with fail
    go_loopw [20] (fun j w' => ∃ (k : Nat) (v' : Value) (cs : List UInt8), j = .int .i64 k ∧ k ≤ ps.length ∧ Ws w w' b ∧ encAll one ((ps.take k).map (·.2)) = some cs ∧ Wt w' b v' (l ++ bs ++ cs)) (fun j _ => ps.length - (intOf j).toNat)
    case atStart => exact ⟨0, v1, [], rfl, by omega, unhideE HWS, by simp [encAll], by simpa using unhideE HW1⟩
    case round =>
      obtain ⟨k, v', cs, rfl, hk, hws', hcs, hwt⟩ := hrel
      have hcl := encAll_len one K (unhideE HK) _ _ hcs
      have HWS' := hideE hws'
      have HCS := hideE hcs
      have HWT := hideE hwt
      clear hws' hcs hwt
      by_cases hlt : k < ps.length
      · obtain ⟨sb, so, cap', hv, hsb, hc⟩ := ((unhideE HN).ws (unhideE HWS')).resolve_left (fun c => by rw [c.1] at hlt; simp at hlt)
        injection hv with e1 e2 e3
        subst e1
        have cc := hc k hlt
        have hkl : K * (ps.take k).length ≤ 1000000 * 1000 := Nat.mul_le_mul hK2 (by simp; omega)
        simp only [List.length_map] at hcl
        have hmem : ps[k] ∈ ps := List.getElem_mem hlt
        obtain ⟨q, qn, qc, hq⟩ := unhideE HSH ps[k] hmem
        have HCALL := hideE (unhideE HONE ps[k] hmem v' (l ++ bs ++ cs) wr (unhideE HWS') (unhideE HWT) (by simp [hb1]; omega))
        have hsn := encAll_snoc one ((ps.take k).map (·.2)) ps[k].2
        rw [show (ps.take k).map (·.2) ++ [ps[k].2] = (ps.take (k + 1)).map (·.2) by rw [take_mid hlt, List.map_append]; rfl, unhideE HCS] at hsn
        have HSN := hideE hsn
        have HAN := hideE (fun hn => encAll_none one ((ps.take (k + 1)).map (·.2)) ((ps.drop (k + 1)).map (·.2)) hn)
        clear hc hsn e2 e3 hmem
        generalize ps[k] = y at cc HCALL HSN hq
        obtain ⟨yv, y⟩ := y
        simp only at cc HCALL HSN hq
        subst hq
        go_wp2_with fail
        refine (unhideE HCALL).mono ?_
        rintro e w2 ⟨hws2, hm⟩
        have HWS2 := hideE ((unhideE HWS').trans hws2)
        clear hws2
        cases hy : one y with
        | none =>
          rw [hy] at hm
          subst hm
          refine ⟨rfl, unhideE HWS2, ?_⟩
          have h1 := unhideE HSN
          rw [hy] at h1
          have h2 := unhideE HAN h1
          rw [← List.map_append, List.take_append_drop] at h2
          unfold encL
          rw [List.length_map, unhideE HR, h2]
          rfl
        | some ys =>
          rw [hy] at hm
          obtain ⟨rfl, v2, hw2⟩ := hm
          have h1 := unhideE HSN
          rw [hy] at h1
          have HS2 := hideE h1
          have HW2 := hideE hw2
          clear hw2 h1 hy
          go_wp2
          go_roundw
          case rel => exact ⟨k + 1, v2, cs ++ ys, by go_num, by omega, unhideE HWS2, unhideE HS2, by rw [← List.append_assoc]; exact unhideE HW2⟩
          case measure => simp [intOf]; omega
      · obtain rfl : k = ps.length := by omega
        have h1 := unhideE HCS
        rw [List.take_length] at h1
        have HC1 := hideE h1
        clear h1
        go_wp2
        refine bodyPost_end (results_none (fn := Tryd.f65) rfl _ _ _) rfl ?_
        refine ⟨unhideE HWS', ?_⟩
        unfold encL
        rw [List.length_map, unhideE HR, unhideE HC1]
        simp only [seqE]
        exact ⟨trivial, v', by rw [← List.append_assoc]; exact unhideE HWT⟩
end Go.Proofs.YthnmdbddfmgdlaaDoor
