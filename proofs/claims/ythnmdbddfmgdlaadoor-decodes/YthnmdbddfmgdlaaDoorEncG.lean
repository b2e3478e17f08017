/-
  Encodes: blocks and functions by their contracts. Own work of the verifier.
-/
import Derived.Test.YthnmdbddfmgdlaaDoorEncF
namespace Go.Proofs.YthnmdbddfmgdlaaDoor
open Go.RowKit

/-- Where the writer stands in a struct: the row T holds it. -/
structure RowSt (t : TypeId) (w wk : World) (b T : Nat) (arr : Array Value) (v : Value) (l : List UInt8) : Prop where
  ws : Ws w wk b
  wt : Wt wk b v l
  row : wk.heap[T]? = some (.cells arr t (0, 0))
theorem RowSt.step {t : TypeId} {w wk wn : World} {b T : Nat} {arr : Array Value} {v v' : Value} {l l' : List UInt8} (h : RowSt t w wk b T arr v l) (ht : t ≠ 5) (hb : b < T) (hws : Ws wk wn b) (hwt : Wt wn b v' l') : RowSt t w wn b T arr v' l' :=
  ⟨h.ws.trans hws, hwt, hws.oth T _ h.row (by intro e; injection e with e; omega) (by intro c fz e; injection e with e1 e2 e3; exact absurd e2 ht)⟩
theorem RowSt.cells {t : TypeId} {w wk : World} {b T : Nat} {arr : Array Value} {v : Value} {l : List UInt8} (h : RowSt t w wk b T arr v l) (j : Nat) (x : Value) (hx : arr[j]? = some x) : wk.cell? ⟨T, j, none⟩ = some x := (cells_of_row h.row j).trans hx
abbrev short : Nat := 9223372036854775808
/-- An instruction's cells, and what it stands for. -/
def InsAt (w : World) (b : Nat) (p : Array Value × InsE) : Prop := ∃ (av ov : Value) (pa : List (Array Value × (Int × Int))), p.1 = #[.int .i64 p.2.op, .int .i64 p.2.d, .int .i64 p.2.a, .int .i64 p.2.bb, .int .u64 p.2.n, .int .i64 p.2.f, av, ov] ∧ pa.map (·.2) = p.2.args ∧ (∀ q ∈ pa, q.1 = #[.int .i64 q.2.1, .int .i64 q.2.2]) ∧ LsB 2 w b av pa ∧ RsB w b ov p.2.outs ∧ p.2.args.length < short ∧ p.2.outs.length < short
theorem InsAt.ws {w w' : World} {b : Nat} {p : Array Value × InsE} (h : InsAt w b p) (hw : Ws w w' b) : InsAt w' b p := by
  obtain ⟨av, ov, pa, h1, h2, h3, h4, h5, h6⟩ := h
  exact ⟨av, ov, pa, h1, h2, h3, h4.ws hw, h5.ws hw, h6⟩
theorem InsAt.size {w : World} {b : Nat} {p : Array Value × InsE} (h : InsAt w b p) : p.1.size = 8 ∧ p.1.all (·.oneCell') = true := by
  obtain ⟨av, ov, pa, h1, h2, h3, h4, h5, h6⟩ := h
  obtain ⟨q, c, e⟩ := h4.shape
  obtain ⟨q', c', e'⟩ := h5.shape
  rw [h1, e, e']
  exact ⟨rfl, by simp [Value.oneCell']⟩
def BlkAt (w : World) (b : Nat) (p : Value × List InsE) : Prop := ∃ ps : List (Array Value × InsE), ps.map (·.2) = p.2 ∧ LsB 8 w b p.1 ps ∧ (∀ q ∈ ps, InsAt w b q) ∧ ps.length < short
theorem BlkAt.ws {w w' : World} {b : Nat} {p : Value × List InsE} (h : BlkAt w b p) (hw : Ws w w' b) : BlkAt w' b p := by
  obtain ⟨ps, h1, h2, h3, h4⟩ := h
  exact ⟨ps, h1, h2.ws hw, fun q hq => (h3 q hq).ws hw, h4⟩
theorem BlkAt.shape {w : World} {b : Nat} {p : Value × List InsE} (h : BlkAt w b p) : ∃ q n cap, p.1 = .slice q n cap := by
  obtain ⟨ps, h1, h2, h3, h4⟩ := h
  obtain ⟨q, c, e⟩ := h2.shape
  exact ⟨q, _, c, e⟩
def encBlock (l : List InsE) : Option (List UInt8) := encL 1 24 encIns l
theorem encBlock_len (l : List InsE) (bs : List UInt8) (h : encBlock l = some bs) : bs.length ≤ 1000 := by
  have := encL_len encIns 40 encIns_len 1 24 _ _ h
  omega
set_option maxHeartbeats 1000000 in
set_option maxRecDepth 100000 in
theorem block_c (b : Nat) (hb1 : 1 < b) (v : Value) (l : List UInt8) (lv : Value) (is : List InsE) (w : World) (h : Wt w b v l) (hl : l.length ≤ 86000000000) (hg : NeedsAt w) (hbk : BlkAt w b (lv, is)) :
    Calls Tryd.prog 66 #[.pointer (some ⟨b, 0, none⟩), lv] w (EncE b l (encBlock is) w) := by
  obtain ⟨ps, hps, hls, hins, hlen⟩ := hbk
  simp only at hps hls
  have HN := hideE (writeInss_c 79 (fun _ _ => rfl) encIns 40 encIns_len (by omega) b 86000000000 (by omega) ps w (fun p hp => (hins p hp).size) (fun p hp v l w' hws hw hl => by
    obtain ⟨av, ov, pa, h1, h2, h3, h4, h5, h6, h7⟩ := (hins p hp).ws hws
    rw [h1]
    exact instruction_c b hb1 v l p.2 av ov w' hw (by omega) (hg.ws hb1 hws) pa h2 h3 h4 h5 h6 h7) 1 24 (by omega) v l lv h hl hls hlen)
  rw [hps] at HN
  obtain ⟨q, c, e⟩ := hls.shape
  subst e
  clear h hg hins hls
  go_enter Tryd.func66, Tryd.ntmps66
  go_wp2_with fail
  refine (unhideE HN).mono ?_
  rintro e w1 ⟨hws, hm⟩
  cases hr : encL 1 24 encIns is with
  | none =>
    rw [hr] at hm
    subst hm
    exact ⟨rfl, hws, by unfold encBlock; rw [hr]⟩
  | some bs =>
    rw [hr] at hm
    obtain ⟨rfl, v1, hw1⟩ := hm
    have HR := hideE hr
    clear hr
    go_wp2
    refine bodyPost_end (results_none (fn := Tryd.f66) rfl _ _ _) rfl ?_
    exact ⟨hws, by unfold encBlock; rw [unhideE HR]; exact ⟨rfl, v1, hw1⟩⟩
structure FuncE where
  params : List (Int × Int)
  results : Int
  homes : List Int
  slots : List Int
  blocks : List (List InsE)
def encFunc (f : FuncE) : Option (List UInt8) := seqE (encL 0 8 encParam f.params) (seqE (encNum 0 4 f.results) (seqE (encL 0 12 (encNum (-1) 15) f.homes) (seqE (encL 0 6 (encNum 1 8) f.slots) (encL 1 12 encBlock f.blocks))))
theorem encParam_len (x : Int × Int) (bs : List UInt8) (h : encParam x = some bs) : bs.length ≤ 2 := by
  have := seqE_len (A := 1) (C := 1) (fun x hx => Nat.le_of_eq (encNum_len hx)) (fun x hx => Nat.le_of_eq (encNum_len hx)) h
  omega
structure FuncV (w : World) (b : Nat) (f : FuncE) (pv hv sv bv : Value) (pp : List (Array Value × (Int × Int))) (pb : List (Value × List InsE)) : Prop where
  params : pp.map (·.2) = f.params
  vals : ∀ q ∈ pp, q.1 = #[.int .i64 q.2.1, .int .i64 q.2.2]
  pls : LsB 2 w b pv pp
  hls : RsB w b hv f.homes
  sls : RsB w b sv f.slots
  bls : VsB w b bv pb
  blocks : pb.map (·.2) = f.blocks
  each : ∀ q ∈ pb, BlkAt w b q
  lens : pp.length < short ∧ f.homes.length < short ∧ f.slots.length < short ∧ pb.length < short
theorem FuncV.ws {w w' : World} {b : Nat} {f : FuncE} {pv hv sv bv : Value} {pp : List (Array Value × (Int × Int))} {pb : List (Value × List InsE)} (h : FuncV w b f pv hv sv bv pp pb) (hw : Ws w w' b) : FuncV w' b f pv hv sv bv pp pb :=
  ⟨h.params, h.vals, h.pls.ws hw, h.hls.ws hw, h.sls.ws hw, h.bls.ws hw, h.blocks, fun q hq => (h.each q hq).ws hw, h.lens⟩
theorem encFunc_len (f : FuncE) (bs : List UInt8) (h : encFunc f = some bs) : bs.length ≤ 20000 := by
  unfold encFunc at h
  have := seqE_len (fun x hr => encL_len encParam 2 encParam_len 0 8 _ _ hr) (fun x h => seqE_len (fun x hr => Nat.le_of_eq (encNum_len hr)) (fun x h => seqE_len (fun x hr => encL_len (encNum (-1) 15) 1 (fun _ _ h => Nat.le_of_eq (encNum_len h)) 0 12 _ _ hr) (fun x h => seqE_len (fun x hr => encL_len (encNum 1 8) 1 (fun _ _ h => Nat.le_of_eq (encNum_len h)) 0 6 _ _ hr) (fun x hr => encL_len encBlock 1000 encBlock_len 1 12 _ _ hr) h) h) h) h
  omega
set_option maxHeartbeats 8000000 in
set_option maxRecDepth 100000 in
theorem function_c (b : Nat) (hb1 : 1 < b) (v0 : Value) (l0 : List UInt8) (f : FuncE) (pv hv sv bv : Value) (pp : List (Array Value × (Int × Int))) (pb : List (Value × List InsE)) (w : World) (h : Wt w b v0 l0) (hl : l0.length ≤ 83000000000) (hg : NeedsAt w) (hF : FuncV w b f pv hv sv bv pp pb) :
    Calls Tryd.prog 49 #[.pointer (some ⟨b, 0, none⟩), .agg #[pv, .int .i64 f.results, hv, sv, bv]] w (EncE b l0 (encFunc f) w) := by
  have HV := hideE hF
  have HG := hideE hg
  obtain ⟨p0, c0', e0⟩ := hF.pls.shape
  obtain ⟨p2, c2', e2⟩ := hF.hls.shape
  obtain ⟨p3, c3', e3⟩ := hF.sls.shape
  obtain ⟨p4, c4', e4⟩ := hF.bls.shape
  generalize hn0 : pp.length = n0 at e0
  generalize hn2 : f.homes.length = n2 at e2
  generalize hn3 : f.slots.length = n3 at e3
  generalize hn4 : pb.length = n4 at e4
  subst e0 e2 e3 e4
  clear hn0 hn2 hn3 hn4
  have hbl := h.lt
  have HST := hideE (show RowSt 58 w (w.alloc (.cells #[.slice p0 n0 c0', .int .i64 f.results, .slice p2 n2 c2', .slice p3 n3 c3', .slice p4 n4 c4'] 58)) b w.heap.size _ v0 l0 from ⟨ws_alloc w _ b (by omega), h.alloc _, heap_alloc_new w _⟩)
  clear hF hg h
  go_enter Tryd.func49, Tryd.ntmps49
  go_wp2_with fail
  generalize w.alloc _ = w0 at HST ⊢
  have ST := HST
  clear HST
  have st := unhideE ST
  have HM := hideE (writeParams_c 62 (fun _ _ => rfl) encParam 2 encParam_len (by omega) b 84000000000 (by omega) pp w0 (fun p hp => by rw [(unhideE HV).vals p hp]; exact ⟨rfl, by simp [Value.oneCell']⟩) (fun p hp v l w' _ hw hl => by rw [(unhideE HV).vals p hp]; exact param_c b v l p.2.1 p.2.2 w' hw (by omega)) 0 8 (by omega) v0 l0 _ st.wt (by omega) ((unhideE HV).ws st.ws).pls (unhideE HV).lens.1)
  rw [(unhideE HV).params] at HM
  clear st
  refine (unhideE HM).mono ?_
  rintro e w1 ⟨hws, hm⟩
  cases hr : encL 0 8 encParam f.params with
  | none =>
    rw [hr] at hm
    subst hm
    refine ⟨rfl, (unhideE ST).ws.trans hws, ?_⟩
    unfold encFunc
    rw [hr]
    rfl
  | some bs1 =>
    rw [hr] at hm
    obtain ⟨rfl, v1, hw⟩ := hm
    have hbs : bs1.length ≤ 17 := encL_len encParam 2 encParam_len 0 8 _ _ hr
    have st := (unhideE ST).step (by decide) hbl hws hw
    have HR1 := hideE hr
    obtain ⟨l1, hlk⟩ : ∃ x, x = l0 ++ bs1 := ⟨_, rfl⟩
    have hn1 : l1.length ≤ l0.length + 17 := by rw [hlk]; simp; omega
    rw [← hlk] at st
    have HL1 := hideE hlk
    clear hws hw hr hlk hbs ST HM
    have ST := hideE st
    clear st
    have st := unhideE ST
    have c1 := st.cells 1 (.int .i64 f.results) rfl
    have HM := hideE (number_c b v1 l1 f.results 0 4 w1 st.wt (by omega))
    clear st
    go_wp2_with fail
    refine (unhideE HM).mono ?_
    rintro e w2 ⟨hws, hm⟩
    cases hr : encNum 0 4 f.results with
    | none =>
      rw [hr] at hm
      subst hm
      refine ⟨rfl, (unhideE ST).ws.trans hws, ?_⟩
      unfold encFunc
      rw [unhideE HR1, hr]
      rfl
    | some bs2 =>
      rw [hr] at hm
      obtain ⟨rfl, v2, hw⟩ := hm
      have hbs : bs2.length ≤ 1 := Nat.le_of_eq (encNum_len hr)
      have st := (unhideE ST).step (by decide) hbl hws hw
      have HR2 := hideE hr
      obtain ⟨l2, hlk⟩ : ∃ x, x = l1 ++ bs2 := ⟨_, rfl⟩
      have hn2 : l2.length ≤ l1.length + 1 := by rw [hlk]; simp; omega
      rw [← hlk] at st
      have HL2 := hideE hlk
      clear hws hw hr hlk hbs ST HM c1
      have ST := hideE st
      clear st
      have st := unhideE ST
      have c2 := st.cells 2 (.slice p2 n2 c2') rfl
      have HM := hideE (writeInts_c 63 (fun _ _ => rfl) (encNum (-1) 15) 1 (fun _ _ h => Nat.le_of_eq (encNum_len h)) (by omega) b 84000000000 (by omega) (fun x v l w hw hl => home_c b v l x w hw (by omega)) 0 12 (by omega) v2 l2 _ f.homes w2 st.wt (by omega) ((unhideE HV).ws st.ws).hls (unhideE HV).lens.2.1)
      clear st
      go_wp2_with fail
      refine (unhideE HM).mono ?_
      rintro e w3 ⟨hws, hm⟩
      cases hr : encL 0 12 (encNum (-1) 15) f.homes with
      | none =>
        rw [hr] at hm
        subst hm
        refine ⟨rfl, (unhideE ST).ws.trans hws, ?_⟩
        unfold encFunc
        rw [unhideE HR1, unhideE HR2, hr]
        rfl
      | some bs3 =>
        rw [hr] at hm
        obtain ⟨rfl, v3, hw⟩ := hm
        have hbs : bs3.length ≤ 13 := encL_len (encNum (-1) 15) 1 (fun _ _ h => Nat.le_of_eq (encNum_len h)) 0 12 _ _ hr
        have st := (unhideE ST).step (by decide) hbl hws hw
        have HR3 := hideE hr
        obtain ⟨l3, hlk⟩ : ∃ x, x = l2 ++ bs3 := ⟨_, rfl⟩
        have hn3 : l3.length ≤ l2.length + 13 := by rw [hlk]; simp; omega
        rw [← hlk] at st
        have HL3 := hideE hlk
        clear hws hw hr hlk hbs ST HM c2
        have ST := hideE st
        clear st
        have st := unhideE ST
        have c3 := st.cells 3 (.slice p3 n3 c3') rfl
        have HM := hideE (writeInts_c 64 (fun _ _ => rfl) (encNum 1 8) 1 (fun _ _ h => Nat.le_of_eq (encNum_len h)) (by omega) b 84000000000 (by omega) (fun x v l w hw hl => slot_c b v l x w hw (by omega)) 0 6 (by omega) v3 l3 _ f.slots w3 st.wt (by omega) ((unhideE HV).ws st.ws).sls (unhideE HV).lens.2.2.1)
        clear st
        go_wp2_with fail
        refine (unhideE HM).mono ?_
        rintro e w4 ⟨hws, hm⟩
        cases hr : encL 0 6 (encNum 1 8) f.slots with
        | none =>
          rw [hr] at hm
          subst hm
          refine ⟨rfl, (unhideE ST).ws.trans hws, ?_⟩
          unfold encFunc
          rw [unhideE HR1, unhideE HR2, unhideE HR3, hr]
          rfl
        | some bs4 =>
          rw [hr] at hm
          obtain ⟨rfl, v4, hw⟩ := hm
          have hbs : bs4.length ≤ 7 := encL_len (encNum 1 8) 1 (fun _ _ h => Nat.le_of_eq (encNum_len h)) 0 6 _ _ hr
          have st := (unhideE ST).step (by decide) hbl hws hw
          have HR4 := hideE hr
          obtain ⟨l4, hlk⟩ : ∃ x, x = l3 ++ bs4 := ⟨_, rfl⟩
          have hn4 : l4.length ≤ l3.length + 7 := by rw [hlk]; simp; omega
          rw [← hlk] at st
          have HL4 := hideE hlk
          clear hws hw hr hlk hbs ST HM c3
          have ST := hideE st
          clear st
          have st := unhideE ST
          have c4 := st.cells 4 (.slice p4 n4 c4') rfl
          have HM := hideE (writeBlocks_c 66 (fun _ _ => rfl) encBlock 1000 encBlock_len (by omega) b 84000000000 (by omega) pb w4 (fun p hp => ((unhideE HV).each p hp).shape) (fun p hp v l w' hws hw hl => block_c b hb1 v l p.1 p.2 w' hw (by omega) (((unhideE HG).ws hb1 st.ws).ws hb1 hws) ((((unhideE HV).each p hp).ws st.ws).ws hws)) 1 12 (by omega) v4 l4 _ st.wt (by omega) ((unhideE HV).ws st.ws).bls (unhideE HV).lens.2.2.2)
          rw [(unhideE HV).blocks] at HM
          clear st
          go_wp2_with fail
          refine (unhideE HM).mono ?_
          rintro e w5 ⟨hws, hm⟩
          cases hr : encL 1 12 encBlock f.blocks with
          | none =>
            rw [hr] at hm
            subst hm
            refine ⟨rfl, (unhideE ST).ws.trans hws, ?_⟩
            unfold encFunc
            rw [unhideE HR1, unhideE HR2, unhideE HR3, unhideE HR4, hr]
            rfl
          | some bs5 =>
            rw [hr] at hm
            obtain ⟨rfl, v5, hw⟩ := hm
            have hbs : bs5.length ≤ 12001 := encL_len encBlock 1000 encBlock_len 1 12 _ _ hr
            have st := (unhideE ST).step (by decide) hbl hws hw
            have HR5 := hideE hr
            obtain ⟨l5, hlk⟩ : ∃ x, x = l4 ++ bs5 := ⟨_, rfl⟩
            have hn5 : l5.length ≤ l4.length + 12001 := by rw [hlk]; simp; omega
            rw [← hlk] at st
            have HL5 := hideE hlk
            clear hws hw hr hlk hbs ST HM c4
            have ST := hideE st
            clear st
            go_wp2
            refine bodyPost_end (results_none (fn := Tryd.f49) rfl _ _ _) rfl ?_
            refine ⟨(unhideE ST).ws, ?_⟩
            have hx2 : encFunc f = some (bs1 ++ (bs2 ++ (bs3 ++ (bs4 ++ bs5)))) := by unfold encFunc; rw [unhideE HR1, unhideE HR2, unhideE HR3, unhideE HR4, unhideE HR5]; rfl
            rw [hx2]
            refine ⟨rfl, v5, ?_⟩
            have hw := (unhideE ST).wt
            rw [unhideE HL5, unhideE HL4, unhideE HL3, unhideE HL2, unhideE HL1] at hw
            simpa using hw
end Go.Proofs.YthnmdbddfmgdlaaDoor
