/-
  Encodes: the instruction by its contract. Own work of the verifier.
-/
import Derived.Test.YthnmdbddfmgdlaaDoorEncC
namespace Go.Proofs.YthnmdbddfmgdlaaDoor
open Go.RowKit

/-- An instruction as the writer sees it. -/
structure InsE where
  op : Int
  d : Int
  a : Int
  bb : Int
  n : Int
  f : Int
  args : List (Int × Int)
  outs : List Int
def InsE.spare (i : InsE) : Bool := spareOf i.op i.d i.a i.bb i.n i.f i.args.length i.outs.length
def condE (c : Bool) (x : Option (List UInt8)) : Option (List UInt8) := if c then x else some []
def needBit (op m : Int) : Bool := bits .and .u8 (needOf op) m != 0
def encIns (i : InsE) : Option (List UInt8) := seqE (encNum 1 18 i.op) (if i.spare then none else
  seqE (condE (needBit i.op 1) (encNum 0 255 i.d)) (seqE (condE (needBit i.op 2) (encNum 0 255 i.a)) (seqE (condE (needBit i.op 4) (encNum 0 255 i.bb)) (seqE (condE (needBit i.op 8) (encOp i.op i.n)) (seqE (condE (needBit i.op 16) (encNum 0 255 i.f)) (seqE (condE (needBit i.op 32) (encL 0 8 encArg i.args)) (condE (needBit i.op 64) (encL 0 4 (encNum 0 255) i.outs))))))))
theorem Wt.below {w w' : World} {b : Nat} {v : Value} {l : List UInt8} (h : Wt w b v l) (hb : Below w.heap.size w w') : Wt w' b v l :=
  have e := hb.block b h.lt
  ⟨(World.cell?_of_block e).trans h.cell, (World.frozen?_of_block (a := ⟨b, 0, none⟩) e).trans h.fz, World.ownsRow.kept h.row (⟨hb.os, hb.tape, hb.output, hb.size, fun q hq _ => hb.block q hq⟩ : w.grownBy w' none) (by cases v.ownBlock <;> simp)⟩
theorem ws_below {w w' : World} {b : Nat} (hb : Below w.heap.size w w') (h : b ≤ w.heap.size) : Ws w w' b :=
  ⟨⟨hb.os, hb.tape, hb.output, hb.size, fun q hq => hb.block q (by omega)⟩, fun k o hk _ _ => by
    have hlt : k < w.heap.size := by
      rcases Nat.lt_or_ge k w.heap.size with y | y
      · exact y
      · simp [Array.getElem?_eq_none y] at hk
    exact (hb.block k hlt).trans hk⟩
/-- Where the writer stands in an instruction: the row T holds it. -/
structure InsSt (w wk : World) (b T : Nat) (arr : Array Value) (v : Value) (l : List UInt8) : Prop where
  ws : Ws w wk b
  wt : Wt wk b v l
  row : wk.heap[T]? = some (.cells arr 65 (0, 0))
theorem InsSt.step {w wk wn : World} {b T : Nat} {arr : Array Value} {v v' : Value} {l l' : List UInt8} (h : InsSt w wk b T arr v l) (hb : b < T) (hws : Ws wk wn b) (hwt : Wt wn b v' l') : InsSt w wn b T arr v' l' :=
  ⟨h.ws.trans hws, hwt, hws.oth T _ h.row (by intro e; injection e with e; omega) (by intro c fz e; injection e with e1 e2 e3; exact absurd e2 (by decide))⟩
theorem InsSt.cells {w wk : World} {b T : Nat} {arr : Array Value} {v : Value} {l : List UInt8} (h : InsSt w wk b T arr v l) (j : Nat) (x : Value) (hx : arr[j]? = some x) : wk.cell? ⟨T, j, none⟩ = some x := (cells_of_row h.row j).trans hx
theorem encArg_len (x : Int × Int) (bs : List UInt8) (h : encArg x = some bs) : bs.length ≤ 2 := by
  have := seqE_len (A := 1) (C := 1) (fun x hx => Nat.le_of_eq (encNum_len hx)) (fun x hx => Nat.le_of_eq (encNum_len hx)) h
  omega
theorem encOp_len {op n : Int} {bs : List UInt8} (h : encOp op n = some bs) : bs.length ≤ 8 := by
  unfold encOp at h
  split at h
  · cases h
  · injection h with h
    subst h
    rw [opB_len]
    unfold encWidth
    split <;> omega
theorem seqE_nil (x : Option (List UInt8)) : seqE x (some []) = x := by cases x <;> simp [seqE]
theorem nil_seqE (x : Option (List UInt8)) : seqE (some []) x = x := by cases x <;> simp [seqE]
theorem seqE_none (x : List UInt8) : seqE (some x) none = none := rfl
theorem none_seqE (x : Option (List UInt8)) : seqE none x = none := rfl
theorem some_seqE (x y : List UInt8) : seqE (some x) (some y) = some (x ++ y) := rfl
set_option maxHeartbeats 8000000 in
set_option maxRecDepth 100000 in
theorem ins7_c (b : Nat) (hb1 : 1 < b) (v : Value) (l : List UInt8) (i : InsE) (av ov : Value) (w : World) (h : Wt w b v l) (hl : l.length ≤ 88000000000) (hg : NeedsAt w) (h1 : 1 ≤ i.op) (h18 : i.op ≤ 18) (hneed : needOf i.op = 7) (pa : List (Array Value × (Int × Int))) (hpa : pa.map (·.2) = i.args) (hpv : ∀ p ∈ pa, p.1 = #[.int .i64 p.2.1, .int .i64 p.2.2]) (hargs : LsB 2 w b av pa) (houts : RsB w b ov i.outs) (hal : i.args.length < 9223372036854775808) (hol : i.outs.length < 9223372036854775808) :
    Calls Tryd.prog 79 #[.pointer (some ⟨b, 0, none⟩), .agg #[.int .i64 i.op, .int .i64 i.d, .int .i64 i.a, .int .i64 i.bb, .int .u64 i.n, .int .i64 i.f, av, ov]] w (EncE b l (encIns i) w) := by
  have hform : encIns i = seqE (some [byteOf i.op]) (if i.spare then none else seqE (encNum 0 255 i.d) (seqE (encNum 0 255 i.a) (encNum 0 255 i.bb))) := by
    unfold encIns needBit
    rw [hneed, show encNum 1 18 i.op = some [byteOf i.op] from if_pos ⟨h1, h18⟩]
    simp only [show (bits .and .u8 7 1 != 0) = true by decide, show (bits .and .u8 7 2 != 0) = true by decide, show (bits .and .u8 7 4 != 0) = true by decide, show (bits .and .u8 7 8 != 0) = false by decide, show (bits .and .u8 7 16 != 0) = false by decide, show (bits .and .u8 7 32 != 0) = false by decide, show (bits .and .u8 7 64 != 0) = false by decide, condE, if_true, Bool.false_eq_true, if_false, seqE_nil]
  have HF := hideE hform
  obtain ⟨ap, ac, hav⟩ := hargs.shape
  obtain ⟨op', oc, hov⟩ := houts.shape
  have hpl : pa.length = i.args.length := by rw [← hpa]; simp
  rw [hpl] at hav
  subst hav hov
  have hbl := h.lt
  have HA := hideE hargs
  have HO := hideE houts
  have HAL := hideE (show pa.length < 9223372036854775808 by omega)
  have HPA := hideE hpa
  have HOL := hideE hol
  have HPV := hideE hpv
  have HPS := hideE (show ∀ p ∈ pa, p.1.size = 2 ∧ p.1.all (·.oneCell') = true from fun p hp => by rw [hpv p hp]; exact ⟨rfl, by simp [Value.oneCell']⟩)
  have HG := hideE hg
  have HNUM := hideE (show encNum 1 18 i.op = some [byteOf i.op] from if_pos ⟨h1, h18⟩)
  have HN := hideE (fun X : Obj => number_c b v l i.op 1 18 (w.alloc X) (h.alloc X) (by omega))
  have HWA := hideE (fun X : Obj => ws_alloc w X b (by omega))
  clear hargs houts hg h hform hpa hpv hpl
  go_enter Tryd.func79, Tryd.ntmps79
  go_wp2_with fail
  refine (unhideE HN _).mono ?_
  rintro e w1 ⟨hws, hm⟩
  rw [unhideE HNUM] at hm
  obtain ⟨rfl, v1, hw1⟩ := hm
  have st : InsSt w w1 b w.heap.size #[.int .i64 i.op, .int .i64 i.d, .int .i64 i.a, .int .i64 i.bb, .int .u64 i.n, .int .i64 i.f, .slice ap i.args.length ac, .slice op' i.outs.length oc] v1 (l ++ [byteOf i.op]) := ⟨(unhideE HWA _).trans hws, hw1, ws_row hbl (by decide) hws⟩
  have ST := hideE st
  have hb1w := hw1.lt
  have HROW := hideE st.row
  have HS := hideE (hasSpare_c i.op i.d i.a i.bb i.n i.f ap op' i.args.length i.outs.length ac oc w1 h1 h18 ((unhideE HG).ws hb1 st.ws) (by omega))
  clear hws hw1 HN st
  go_wp2_with (refine wpList_load_row rfl 65 (.tmp 3) rfl w.heap.size rfl 65 _ (0, 0) _ (unhideE HROW) Tryd.underlying65 rfl (Tryd.infInss.trans rfl) ?_)
  refine (unhideE HS).mono ?_
  rintro e w2 ⟨rfl, hbel⟩
  have st : InsSt w w2 b w.heap.size #[.int .i64 i.op, .int .i64 i.d, .int .i64 i.a, .int .i64 i.bb, .int .u64 i.n, .int .i64 i.f, .slice ap i.args.length ac, .slice op' i.outs.length oc] v1 (l ++ [byteOf i.op]) := (unhideE ST).step hbl (ws_below hbel (by omega)) ((unhideE ST).wt.below hbel)
  clear hbel HS ST HROW
  cases hsp : spareOf i.op i.d i.a i.bb i.n i.f i.args.length i.outs.length with
  | true =>
    have HR := hideE (show encIns i = none by rw [unhideE HF, show i.spare = true from hsp]; rfl)
    have ST := hideE st
    clear st
    go_wp2_with fail
    refine (refuse_c _ _).mono ?_
    rintro e w3 ⟨rfl, hw⟩
    subst w3
    exact ⟨rfl, (unhideE ST).ws, by rw [unhideE HR]⟩
  | false =>
    have HF2 := hideE (show encIns i = seqE (some [byteOf i.op]) (seqE (encNum 0 255 i.d) (seqE (encNum 0 255 i.a) (encNum 0 255 i.bb))) by rw [unhideE HF, show i.spare = false from hsp]; rfl)
    clear HF
    obtain ⟨l2, hl2⟩ : ∃ x, x = l ++ [byteOf i.op] := ⟨_, rfl⟩
    have hn2 : l2.length ≤ l.length + 1 := by rw [hl2]; simp
    rw [← hl2] at st
    have c0 := st.cells 0 _ rfl
    have HND := hideE (needs_c i.op h1 h18 w2 ((unhideE HG).ws hb1 st.ws))
    have ST := hideE st
    have HL2 := hideE hl2
    clear st hl2 hsp
    go_wp2_with fail
    refine (unhideE HND).mono ?_
    rintro e wx ⟨rfl, hwx⟩
    subst wx
    rw [hneed]
    clear HND
    go_wp2_with fail
    refine (has_c 7 1 _).mono ?_
    rintro e wx ⟨rfl, hwx⟩
    subst wx
    rw [show (bits .and .u8 7 1 != 0) = true by decide]
    have st := unhideE ST
    have c1 := st.cells 1 (.int .i64 i.d) rfl
    have HM := hideE (anyByte_c b v1 l2 i.d w2 st.wt (by omega))
    clear st
    go_wp2_with fail
    refine (unhideE HM).mono ?_
    rintro e w3 ⟨hws, hm⟩
    cases hr : encNum 0 255 i.d with
    | none =>
      rw [hr] at hm
      subst hm
      refine ⟨rfl, (unhideE ST).ws.trans hws, ?_⟩
      have hx := unhideE HF2
      rw [hr] at hx
      have hx2 : encIns i = none := hx.trans rfl
      rw [hx2]
    | some bs3 =>
      rw [hr] at hm
      obtain ⟨rfl, v3, hw⟩ := hm
      have hbs : bs3.length ≤ 1 := Nat.le_of_eq (encNum_len hr)
      have st := (unhideE ST).step hbl hws hw
      have HR3 := hideE hr
      obtain ⟨l3, hlk⟩ : ∃ x, x = l2 ++ bs3 := ⟨_, rfl⟩
      have hn3 : l3.length ≤ l2.length + 1 := by rw [hlk]; simp; omega
      rw [← hlk] at st
      have HL3 := hideE hlk
      clear hws hw hr hlk hbs ST HM c1
      have ST := hideE st
      clear st
      go_wp2_with fail
      refine (has_c 7 2 _).mono ?_
      rintro e wx ⟨rfl, hwx⟩
      subst wx
      rw [show (bits .and .u8 7 2 != 0) = true by decide]
      have st := unhideE ST
      have c2 := st.cells 2 (.int .i64 i.a) rfl
      have HM := hideE (anyByte_c b v3 l3 i.a w3 st.wt (by omega))
      clear st
      go_wp2_with fail
      refine (unhideE HM).mono ?_
      rintro e w4 ⟨hws, hm⟩
      cases hr : encNum 0 255 i.a with
      | none =>
        rw [hr] at hm
        subst hm
        refine ⟨rfl, (unhideE ST).ws.trans hws, ?_⟩
        have hx := unhideE HF2
        rw [unhideE HR3, hr] at hx
        have hx2 : encIns i = none := hx.trans rfl
        rw [hx2]
      | some bs4 =>
        rw [hr] at hm
        obtain ⟨rfl, v4, hw⟩ := hm
        have hbs : bs4.length ≤ 1 := Nat.le_of_eq (encNum_len hr)
        have st := (unhideE ST).step hbl hws hw
        have HR4 := hideE hr
        obtain ⟨l4, hlk⟩ : ∃ x, x = l3 ++ bs4 := ⟨_, rfl⟩
        have hn4 : l4.length ≤ l3.length + 1 := by rw [hlk]; simp; omega
        rw [← hlk] at st
        have HL4 := hideE hlk
        clear hws hw hr hlk hbs ST HM c2
        have ST := hideE st
        clear st
        go_wp2_with fail
        refine (has_c 7 4 _).mono ?_
        rintro e wx ⟨rfl, hwx⟩
        subst wx
        rw [show (bits .and .u8 7 4 != 0) = true by decide]
        have st := unhideE ST
        have c3 := st.cells 3 (.int .i64 i.bb) rfl
        have HM := hideE (anyByte_c b v4 l4 i.bb w4 st.wt (by omega))
        clear st
        go_wp2_with fail
        refine (unhideE HM).mono ?_
        rintro e w5 ⟨hws, hm⟩
        cases hr : encNum 0 255 i.bb with
        | none =>
          rw [hr] at hm
          subst hm
          refine ⟨rfl, (unhideE ST).ws.trans hws, ?_⟩
          have hx := unhideE HF2
          rw [unhideE HR3, unhideE HR4, hr] at hx
          have hx2 : encIns i = none := hx.trans rfl
          rw [hx2]
        | some bs5 =>
          rw [hr] at hm
          obtain ⟨rfl, v5, hw⟩ := hm
          have hbs : bs5.length ≤ 1 := Nat.le_of_eq (encNum_len hr)
          have st := (unhideE ST).step hbl hws hw
          have HR5 := hideE hr
          obtain ⟨l5, hlk⟩ : ∃ x, x = l4 ++ bs5 := ⟨_, rfl⟩
          have hn5 : l5.length ≤ l4.length + 1 := by rw [hlk]; simp; omega
          rw [← hlk] at st
          have HL5 := hideE hlk
          clear hws hw hr hlk hbs ST HM c3
          have ST := hideE st
          clear st
          go_wp2_with fail
          refine (has_c 7 8 _).mono ?_
          rintro e wx ⟨rfl, hwx⟩
          subst wx
          rw [show (bits .and .u8 7 8 != 0) = false by decide]
          go_wp2_with fail
          refine (has_c 7 16 _).mono ?_
          rintro e wx ⟨rfl, hwx⟩
          subst wx
          rw [show (bits .and .u8 7 16 != 0) = false by decide]
          go_wp2_with fail
          refine (has_c 7 32 _).mono ?_
          rintro e wx ⟨rfl, hwx⟩
          subst wx
          rw [show (bits .and .u8 7 32 != 0) = false by decide]
          go_wp2_with fail
          refine (has_c 7 64 _).mono ?_
          rintro e wx ⟨rfl, hwx⟩
          subst wx
          rw [show (bits .and .u8 7 64 != 0) = false by decide]
          go_wp2
          refine bodyPost_end (results_none (fn := Tryd.f79) rfl _ _ _) rfl ?_
          refine ⟨(unhideE ST).ws, ?_⟩
          have hx := unhideE HF2
          rw [unhideE HR3, unhideE HR4, unhideE HR5] at hx
          have hx2 : encIns i = some ([byteOf i.op] ++ (bs3 ++ (bs4 ++ bs5))) := hx.trans rfl
          rw [hx2]
          refine ⟨rfl, v5, ?_⟩
          have hw := (unhideE ST).wt
          rw [unhideE HL5, unhideE HL4, unhideE HL3, unhideE HL2] at hw
          simpa using hw
set_option maxHeartbeats 8000000 in
set_option maxRecDepth 100000 in
theorem ins9_c (b : Nat) (hb1 : 1 < b) (v : Value) (l : List UInt8) (i : InsE) (av ov : Value) (w : World) (h : Wt w b v l) (hl : l.length ≤ 88000000000) (hg : NeedsAt w) (h1 : 1 ≤ i.op) (h18 : i.op ≤ 18) (hneed : needOf i.op = 9) (pa : List (Array Value × (Int × Int))) (hpa : pa.map (·.2) = i.args) (hpv : ∀ p ∈ pa, p.1 = #[.int .i64 p.2.1, .int .i64 p.2.2]) (hargs : LsB 2 w b av pa) (houts : RsB w b ov i.outs) (hal : i.args.length < 9223372036854775808) (hol : i.outs.length < 9223372036854775808) :
    Calls Tryd.prog 79 #[.pointer (some ⟨b, 0, none⟩), .agg #[.int .i64 i.op, .int .i64 i.d, .int .i64 i.a, .int .i64 i.bb, .int .u64 i.n, .int .i64 i.f, av, ov]] w (EncE b l (encIns i) w) := by
  have hform : encIns i = seqE (some [byteOf i.op]) (if i.spare then none else seqE (encNum 0 255 i.d) (encOp i.op i.n)) := by
    unfold encIns needBit
    rw [hneed, show encNum 1 18 i.op = some [byteOf i.op] from if_pos ⟨h1, h18⟩]
    simp only [show (bits .and .u8 9 1 != 0) = true by decide, show (bits .and .u8 9 2 != 0) = false by decide, show (bits .and .u8 9 4 != 0) = false by decide, show (bits .and .u8 9 8 != 0) = true by decide, show (bits .and .u8 9 16 != 0) = false by decide, show (bits .and .u8 9 32 != 0) = false by decide, show (bits .and .u8 9 64 != 0) = false by decide, condE, if_true, Bool.false_eq_true, if_false, nil_seqE, seqE_nil]
  have HF := hideE hform
  obtain ⟨ap, ac, hav⟩ := hargs.shape
  obtain ⟨op', oc, hov⟩ := houts.shape
  have hpl : pa.length = i.args.length := by rw [← hpa]; simp
  rw [hpl] at hav
  subst hav hov
  have hbl := h.lt
  have HA := hideE hargs
  have HO := hideE houts
  have HAL := hideE (show pa.length < 9223372036854775808 by omega)
  have HPA := hideE hpa
  have HOL := hideE hol
  have HPV := hideE hpv
  have HPS := hideE (show ∀ p ∈ pa, p.1.size = 2 ∧ p.1.all (·.oneCell') = true from fun p hp => by rw [hpv p hp]; exact ⟨rfl, by simp [Value.oneCell']⟩)
  have HG := hideE hg
  have HNUM := hideE (show encNum 1 18 i.op = some [byteOf i.op] from if_pos ⟨h1, h18⟩)
  have HN := hideE (fun X : Obj => number_c b v l i.op 1 18 (w.alloc X) (h.alloc X) (by omega))
  have HWA := hideE (fun X : Obj => ws_alloc w X b (by omega))
  clear hargs houts hg h hform hpa hpv hpl
  go_enter Tryd.func79, Tryd.ntmps79
  go_wp2_with fail
  refine (unhideE HN _).mono ?_
  rintro e w1 ⟨hws, hm⟩
  rw [unhideE HNUM] at hm
  obtain ⟨rfl, v1, hw1⟩ := hm
  have st : InsSt w w1 b w.heap.size #[.int .i64 i.op, .int .i64 i.d, .int .i64 i.a, .int .i64 i.bb, .int .u64 i.n, .int .i64 i.f, .slice ap i.args.length ac, .slice op' i.outs.length oc] v1 (l ++ [byteOf i.op]) := ⟨(unhideE HWA _).trans hws, hw1, ws_row hbl (by decide) hws⟩
  have ST := hideE st
  have hb1w := hw1.lt
  have HROW := hideE st.row
  have HS := hideE (hasSpare_c i.op i.d i.a i.bb i.n i.f ap op' i.args.length i.outs.length ac oc w1 h1 h18 ((unhideE HG).ws hb1 st.ws) (by omega))
  clear hws hw1 HN st
  go_wp2_with (refine wpList_load_row rfl 65 (.tmp 3) rfl w.heap.size rfl 65 _ (0, 0) _ (unhideE HROW) Tryd.underlying65 rfl (Tryd.infInss.trans rfl) ?_)
  refine (unhideE HS).mono ?_
  rintro e w2 ⟨rfl, hbel⟩
  have st : InsSt w w2 b w.heap.size #[.int .i64 i.op, .int .i64 i.d, .int .i64 i.a, .int .i64 i.bb, .int .u64 i.n, .int .i64 i.f, .slice ap i.args.length ac, .slice op' i.outs.length oc] v1 (l ++ [byteOf i.op]) := (unhideE ST).step hbl (ws_below hbel (by omega)) ((unhideE ST).wt.below hbel)
  clear hbel HS ST HROW
  cases hsp : spareOf i.op i.d i.a i.bb i.n i.f i.args.length i.outs.length with
  | true =>
    have HR := hideE (show encIns i = none by rw [unhideE HF, show i.spare = true from hsp]; rfl)
    have ST := hideE st
    clear st
    go_wp2_with fail
    refine (refuse_c _ _).mono ?_
    rintro e w3 ⟨rfl, hw⟩
    subst w3
    exact ⟨rfl, (unhideE ST).ws, by rw [unhideE HR]⟩
  | false =>
    have HF2 := hideE (show encIns i = seqE (some [byteOf i.op]) (seqE (encNum 0 255 i.d) (encOp i.op i.n)) by rw [unhideE HF, show i.spare = false from hsp]; rfl)
    clear HF
    obtain ⟨l2, hl2⟩ : ∃ x, x = l ++ [byteOf i.op] := ⟨_, rfl⟩
    have hn2 : l2.length ≤ l.length + 1 := by rw [hl2]; simp
    rw [← hl2] at st
    have c0 := st.cells 0 _ rfl
    have HND := hideE (needs_c i.op h1 h18 w2 ((unhideE HG).ws hb1 st.ws))
    have ST := hideE st
    have HL2 := hideE hl2
    clear st hl2 hsp
    go_wp2_with fail
    refine (unhideE HND).mono ?_
    rintro e wx ⟨rfl, hwx⟩
    subst wx
    rw [hneed]
    clear HND
    go_wp2_with fail
    refine (has_c 9 1 _).mono ?_
    rintro e wx ⟨rfl, hwx⟩
    subst wx
    rw [show (bits .and .u8 9 1 != 0) = true by decide]
    have st := unhideE ST
    have c1 := st.cells 1 (.int .i64 i.d) rfl
    have HM := hideE (anyByte_c b v1 l2 i.d w2 st.wt (by omega))
    clear st
    go_wp2_with fail
    refine (unhideE HM).mono ?_
    rintro e w3 ⟨hws, hm⟩
    cases hr : encNum 0 255 i.d with
    | none =>
      rw [hr] at hm
      subst hm
      refine ⟨rfl, (unhideE ST).ws.trans hws, ?_⟩
      have hx := unhideE HF2
      rw [hr] at hx
      have hx2 : encIns i = none := hx.trans rfl
      rw [hx2]
    | some bs3 =>
      rw [hr] at hm
      obtain ⟨rfl, v3, hw⟩ := hm
      have hbs : bs3.length ≤ 1 := Nat.le_of_eq (encNum_len hr)
      have st := (unhideE ST).step hbl hws hw
      have HR3 := hideE hr
      obtain ⟨l3, hlk⟩ : ∃ x, x = l2 ++ bs3 := ⟨_, rfl⟩
      have hn3 : l3.length ≤ l2.length + 1 := by rw [hlk]; simp; omega
      rw [← hlk] at st
      have HL3 := hideE hlk
      clear hws hw hr hlk hbs ST HM c1
      have ST := hideE st
      clear st
      go_wp2_with fail
      refine (has_c 9 2 _).mono ?_
      rintro e wx ⟨rfl, hwx⟩
      subst wx
      rw [show (bits .and .u8 9 2 != 0) = false by decide]
      go_wp2_with fail
      refine (has_c 9 4 _).mono ?_
      rintro e wx ⟨rfl, hwx⟩
      subst wx
      rw [show (bits .and .u8 9 4 != 0) = false by decide]
      go_wp2_with fail
      refine (has_c 9 8 _).mono ?_
      rintro e wx ⟨rfl, hwx⟩
      subst wx
      rw [show (bits .and .u8 9 8 != 0) = true by decide]
      have st := unhideE ST
      have c0 := st.cells 0 (.int .i64 i.op) rfl
      have c4 := st.cells 4 (.int .u64 i.n) rfl
      have HM := hideE (operand_c b v3 l3 i.op i.n w3 st.wt (by omega))
      clear st
      go_wp2_with fail
      refine (unhideE HM).mono ?_
      rintro e w4 ⟨hws, hm⟩
      cases hr : encOp i.op i.n with
      | none =>
        rw [hr] at hm
        subst hm
        refine ⟨rfl, (unhideE ST).ws.trans hws, ?_⟩
        have hx := unhideE HF2
        rw [unhideE HR3, hr] at hx
        have hx2 : encIns i = none := hx.trans rfl
        rw [hx2]
      | some bs4 =>
        rw [hr] at hm
        obtain ⟨rfl, v4, hw⟩ := hm
        have hbs : bs4.length ≤ 8 := encOp_len hr
        have st := (unhideE ST).step hbl hws hw
        have HR4 := hideE hr
        obtain ⟨l4, hlk⟩ : ∃ x, x = l3 ++ bs4 := ⟨_, rfl⟩
        have hn4 : l4.length ≤ l3.length + 8 := by rw [hlk]; simp; omega
        rw [← hlk] at st
        have HL4 := hideE hlk
        clear hws hw hr hlk hbs ST HM c0 c4
        have ST := hideE st
        clear st
        go_wp2_with fail
        refine (has_c 9 16 _).mono ?_
        rintro e wx ⟨rfl, hwx⟩
        subst wx
        rw [show (bits .and .u8 9 16 != 0) = false by decide]
        go_wp2_with fail
        refine (has_c 9 32 _).mono ?_
        rintro e wx ⟨rfl, hwx⟩
        subst wx
        rw [show (bits .and .u8 9 32 != 0) = false by decide]
        go_wp2_with fail
        refine (has_c 9 64 _).mono ?_
        rintro e wx ⟨rfl, hwx⟩
        subst wx
        rw [show (bits .and .u8 9 64 != 0) = false by decide]
        go_wp2
        refine bodyPost_end (results_none (fn := Tryd.f79) rfl _ _ _) rfl ?_
        refine ⟨(unhideE ST).ws, ?_⟩
        have hx := unhideE HF2
        rw [unhideE HR3, unhideE HR4] at hx
        have hx2 : encIns i = some ([byteOf i.op] ++ (bs3 ++ bs4)) := hx.trans rfl
        rw [hx2]
        refine ⟨rfl, v4, ?_⟩
        have hw := (unhideE ST).wt
        rw [unhideE HL4, unhideE HL3, unhideE HL2] at hw
        simpa using hw
set_option maxHeartbeats 8000000 in
set_option maxRecDepth 100000 in
theorem ins3_c (b : Nat) (hb1 : 1 < b) (v : Value) (l : List UInt8) (i : InsE) (av ov : Value) (w : World) (h : Wt w b v l) (hl : l.length ≤ 88000000000) (hg : NeedsAt w) (h1 : 1 ≤ i.op) (h18 : i.op ≤ 18) (hneed : needOf i.op = 3) (pa : List (Array Value × (Int × Int))) (hpa : pa.map (·.2) = i.args) (hpv : ∀ p ∈ pa, p.1 = #[.int .i64 p.2.1, .int .i64 p.2.2]) (hargs : LsB 2 w b av pa) (houts : RsB w b ov i.outs) (hal : i.args.length < 9223372036854775808) (hol : i.outs.length < 9223372036854775808) :
    Calls Tryd.prog 79 #[.pointer (some ⟨b, 0, none⟩), .agg #[.int .i64 i.op, .int .i64 i.d, .int .i64 i.a, .int .i64 i.bb, .int .u64 i.n, .int .i64 i.f, av, ov]] w (EncE b l (encIns i) w) := by
  have hform : encIns i = seqE (some [byteOf i.op]) (if i.spare then none else seqE (encNum 0 255 i.d) (encNum 0 255 i.a)) := by
    unfold encIns needBit
    rw [hneed, show encNum 1 18 i.op = some [byteOf i.op] from if_pos ⟨h1, h18⟩]
    simp only [show (bits .and .u8 3 1 != 0) = true by decide, show (bits .and .u8 3 2 != 0) = true by decide, show (bits .and .u8 3 4 != 0) = false by decide, show (bits .and .u8 3 8 != 0) = false by decide, show (bits .and .u8 3 16 != 0) = false by decide, show (bits .and .u8 3 32 != 0) = false by decide, show (bits .and .u8 3 64 != 0) = false by decide, condE, if_true, Bool.false_eq_true, if_false, seqE_nil]
  have HF := hideE hform
  obtain ⟨ap, ac, hav⟩ := hargs.shape
  obtain ⟨op', oc, hov⟩ := houts.shape
  have hpl : pa.length = i.args.length := by rw [← hpa]; simp
  rw [hpl] at hav
  subst hav hov
  have hbl := h.lt
  have HA := hideE hargs
  have HO := hideE houts
  have HAL := hideE (show pa.length < 9223372036854775808 by omega)
  have HPA := hideE hpa
  have HOL := hideE hol
  have HPV := hideE hpv
  have HPS := hideE (show ∀ p ∈ pa, p.1.size = 2 ∧ p.1.all (·.oneCell') = true from fun p hp => by rw [hpv p hp]; exact ⟨rfl, by simp [Value.oneCell']⟩)
  have HG := hideE hg
  have HNUM := hideE (show encNum 1 18 i.op = some [byteOf i.op] from if_pos ⟨h1, h18⟩)
  have HN := hideE (fun X : Obj => number_c b v l i.op 1 18 (w.alloc X) (h.alloc X) (by omega))
  have HWA := hideE (fun X : Obj => ws_alloc w X b (by omega))
  clear hargs houts hg h hform hpa hpv hpl
  go_enter Tryd.func79, Tryd.ntmps79
  go_wp2_with fail
  refine (unhideE HN _).mono ?_
  rintro e w1 ⟨hws, hm⟩
  rw [unhideE HNUM] at hm
  obtain ⟨rfl, v1, hw1⟩ := hm
  have st : InsSt w w1 b w.heap.size #[.int .i64 i.op, .int .i64 i.d, .int .i64 i.a, .int .i64 i.bb, .int .u64 i.n, .int .i64 i.f, .slice ap i.args.length ac, .slice op' i.outs.length oc] v1 (l ++ [byteOf i.op]) := ⟨(unhideE HWA _).trans hws, hw1, ws_row hbl (by decide) hws⟩
  have ST := hideE st
  have hb1w := hw1.lt
  have HROW := hideE st.row
  have HS := hideE (hasSpare_c i.op i.d i.a i.bb i.n i.f ap op' i.args.length i.outs.length ac oc w1 h1 h18 ((unhideE HG).ws hb1 st.ws) (by omega))
  clear hws hw1 HN st
  go_wp2_with (refine wpList_load_row rfl 65 (.tmp 3) rfl w.heap.size rfl 65 _ (0, 0) _ (unhideE HROW) Tryd.underlying65 rfl (Tryd.infInss.trans rfl) ?_)
  refine (unhideE HS).mono ?_
  rintro e w2 ⟨rfl, hbel⟩
  have st : InsSt w w2 b w.heap.size #[.int .i64 i.op, .int .i64 i.d, .int .i64 i.a, .int .i64 i.bb, .int .u64 i.n, .int .i64 i.f, .slice ap i.args.length ac, .slice op' i.outs.length oc] v1 (l ++ [byteOf i.op]) := (unhideE ST).step hbl (ws_below hbel (by omega)) ((unhideE ST).wt.below hbel)
  clear hbel HS ST HROW
  cases hsp : spareOf i.op i.d i.a i.bb i.n i.f i.args.length i.outs.length with
  | true =>
    have HR := hideE (show encIns i = none by rw [unhideE HF, show i.spare = true from hsp]; rfl)
    have ST := hideE st
    clear st
    go_wp2_with fail
    refine (refuse_c _ _).mono ?_
    rintro e w3 ⟨rfl, hw⟩
    subst w3
    exact ⟨rfl, (unhideE ST).ws, by rw [unhideE HR]⟩
  | false =>
    have HF2 := hideE (show encIns i = seqE (some [byteOf i.op]) (seqE (encNum 0 255 i.d) (encNum 0 255 i.a)) by rw [unhideE HF, show i.spare = false from hsp]; rfl)
    clear HF
    obtain ⟨l2, hl2⟩ : ∃ x, x = l ++ [byteOf i.op] := ⟨_, rfl⟩
    have hn2 : l2.length ≤ l.length + 1 := by rw [hl2]; simp
    rw [← hl2] at st
    have c0 := st.cells 0 _ rfl
    have HND := hideE (needs_c i.op h1 h18 w2 ((unhideE HG).ws hb1 st.ws))
    have ST := hideE st
    have HL2 := hideE hl2
    clear st hl2 hsp
    go_wp2_with fail
    refine (unhideE HND).mono ?_
    rintro e wx ⟨rfl, hwx⟩
    subst wx
    rw [hneed]
    clear HND
    go_wp2_with fail
    refine (has_c 3 1 _).mono ?_
    rintro e wx ⟨rfl, hwx⟩
    subst wx
    rw [show (bits .and .u8 3 1 != 0) = true by decide]
    have st := unhideE ST
    have c1 := st.cells 1 (.int .i64 i.d) rfl
    have HM := hideE (anyByte_c b v1 l2 i.d w2 st.wt (by omega))
    clear st
    go_wp2_with fail
    refine (unhideE HM).mono ?_
    rintro e w3 ⟨hws, hm⟩
    cases hr : encNum 0 255 i.d with
    | none =>
      rw [hr] at hm
      subst hm
      refine ⟨rfl, (unhideE ST).ws.trans hws, ?_⟩
      have hx := unhideE HF2
      rw [hr] at hx
      have hx2 : encIns i = none := hx.trans rfl
      rw [hx2]
    | some bs3 =>
      rw [hr] at hm
      obtain ⟨rfl, v3, hw⟩ := hm
      have hbs : bs3.length ≤ 1 := Nat.le_of_eq (encNum_len hr)
      have st := (unhideE ST).step hbl hws hw
      have HR3 := hideE hr
      obtain ⟨l3, hlk⟩ : ∃ x, x = l2 ++ bs3 := ⟨_, rfl⟩
      have hn3 : l3.length ≤ l2.length + 1 := by rw [hlk]; simp; omega
      rw [← hlk] at st
      have HL3 := hideE hlk
      clear hws hw hr hlk hbs ST HM c1
      have ST := hideE st
      clear st
      go_wp2_with fail
      refine (has_c 3 2 _).mono ?_
      rintro e wx ⟨rfl, hwx⟩
      subst wx
      rw [show (bits .and .u8 3 2 != 0) = true by decide]
      have st := unhideE ST
      have c2 := st.cells 2 (.int .i64 i.a) rfl
      have HM := hideE (anyByte_c b v3 l3 i.a w3 st.wt (by omega))
      clear st
      go_wp2_with fail
      refine (unhideE HM).mono ?_
      rintro e w4 ⟨hws, hm⟩
      cases hr : encNum 0 255 i.a with
      | none =>
        rw [hr] at hm
        subst hm
        refine ⟨rfl, (unhideE ST).ws.trans hws, ?_⟩
        have hx := unhideE HF2
        rw [unhideE HR3, hr] at hx
        have hx2 : encIns i = none := hx.trans rfl
        rw [hx2]
      | some bs4 =>
        rw [hr] at hm
        obtain ⟨rfl, v4, hw⟩ := hm
        have hbs : bs4.length ≤ 1 := Nat.le_of_eq (encNum_len hr)
        have st := (unhideE ST).step hbl hws hw
        have HR4 := hideE hr
        obtain ⟨l4, hlk⟩ : ∃ x, x = l3 ++ bs4 := ⟨_, rfl⟩
        have hn4 : l4.length ≤ l3.length + 1 := by rw [hlk]; simp; omega
        rw [← hlk] at st
        have HL4 := hideE hlk
        clear hws hw hr hlk hbs ST HM c2
        have ST := hideE st
        clear st
        go_wp2_with fail
        refine (has_c 3 4 _).mono ?_
        rintro e wx ⟨rfl, hwx⟩
        subst wx
        rw [show (bits .and .u8 3 4 != 0) = false by decide]
        go_wp2_with fail
        refine (has_c 3 8 _).mono ?_
        rintro e wx ⟨rfl, hwx⟩
        subst wx
        rw [show (bits .and .u8 3 8 != 0) = false by decide]
        go_wp2_with fail
        refine (has_c 3 16 _).mono ?_
        rintro e wx ⟨rfl, hwx⟩
        subst wx
        rw [show (bits .and .u8 3 16 != 0) = false by decide]
        go_wp2_with fail
        refine (has_c 3 32 _).mono ?_
        rintro e wx ⟨rfl, hwx⟩
        subst wx
        rw [show (bits .and .u8 3 32 != 0) = false by decide]
        go_wp2_with fail
        refine (has_c 3 64 _).mono ?_
        rintro e wx ⟨rfl, hwx⟩
        subst wx
        rw [show (bits .and .u8 3 64 != 0) = false by decide]
        go_wp2
        refine bodyPost_end (results_none (fn := Tryd.f79) rfl _ _ _) rfl ?_
        refine ⟨(unhideE ST).ws, ?_⟩
        have hx := unhideE HF2
        rw [unhideE HR3, unhideE HR4] at hx
        have hx2 : encIns i = some ([byteOf i.op] ++ (bs3 ++ bs4)) := hx.trans rfl
        rw [hx2]
        refine ⟨rfl, v4, ?_⟩
        have hw := (unhideE ST).wt
        rw [unhideE HL4, unhideE HL3, unhideE HL2] at hw
        simpa using hw
set_option maxHeartbeats 8000000 in
set_option maxRecDepth 100000 in
theorem ins15_c (b : Nat) (hb1 : 1 < b) (v : Value) (l : List UInt8) (i : InsE) (av ov : Value) (w : World) (h : Wt w b v l) (hl : l.length ≤ 88000000000) (hg : NeedsAt w) (h1 : 1 ≤ i.op) (h18 : i.op ≤ 18) (hneed : needOf i.op = 15) (pa : List (Array Value × (Int × Int))) (hpa : pa.map (·.2) = i.args) (hpv : ∀ p ∈ pa, p.1 = #[.int .i64 p.2.1, .int .i64 p.2.2]) (hargs : LsB 2 w b av pa) (houts : RsB w b ov i.outs) (hal : i.args.length < 9223372036854775808) (hol : i.outs.length < 9223372036854775808) :
    Calls Tryd.prog 79 #[.pointer (some ⟨b, 0, none⟩), .agg #[.int .i64 i.op, .int .i64 i.d, .int .i64 i.a, .int .i64 i.bb, .int .u64 i.n, .int .i64 i.f, av, ov]] w (EncE b l (encIns i) w) := by
  have hform : encIns i = seqE (some [byteOf i.op]) (if i.spare then none else seqE (encNum 0 255 i.d) (seqE (encNum 0 255 i.a) (seqE (encNum 0 255 i.bb) (encOp i.op i.n)))) := by
    unfold encIns needBit
    rw [hneed, show encNum 1 18 i.op = some [byteOf i.op] from if_pos ⟨h1, h18⟩]
    simp only [show (bits .and .u8 15 1 != 0) = true by decide, show (bits .and .u8 15 2 != 0) = true by decide, show (bits .and .u8 15 4 != 0) = true by decide, show (bits .and .u8 15 8 != 0) = true by decide, show (bits .and .u8 15 16 != 0) = false by decide, show (bits .and .u8 15 32 != 0) = false by decide, show (bits .and .u8 15 64 != 0) = false by decide, condE, if_true, Bool.false_eq_true, if_false, seqE_nil]
  have HF := hideE hform
  obtain ⟨ap, ac, hav⟩ := hargs.shape
  obtain ⟨op', oc, hov⟩ := houts.shape
  have hpl : pa.length = i.args.length := by rw [← hpa]; simp
  rw [hpl] at hav
  subst hav hov
  have hbl := h.lt
  have HA := hideE hargs
  have HO := hideE houts
  have HAL := hideE (show pa.length < 9223372036854775808 by omega)
  have HPA := hideE hpa
  have HOL := hideE hol
  have HPV := hideE hpv
  have HPS := hideE (show ∀ p ∈ pa, p.1.size = 2 ∧ p.1.all (·.oneCell') = true from fun p hp => by rw [hpv p hp]; exact ⟨rfl, by simp [Value.oneCell']⟩)
  have HG := hideE hg
  have HNUM := hideE (show encNum 1 18 i.op = some [byteOf i.op] from if_pos ⟨h1, h18⟩)
  have HN := hideE (fun X : Obj => number_c b v l i.op 1 18 (w.alloc X) (h.alloc X) (by omega))
  have HWA := hideE (fun X : Obj => ws_alloc w X b (by omega))
  clear hargs houts hg h hform hpa hpv hpl
  go_enter Tryd.func79, Tryd.ntmps79
  go_wp2_with fail
  refine (unhideE HN _).mono ?_
  rintro e w1 ⟨hws, hm⟩
  rw [unhideE HNUM] at hm
  obtain ⟨rfl, v1, hw1⟩ := hm
  have st : InsSt w w1 b w.heap.size #[.int .i64 i.op, .int .i64 i.d, .int .i64 i.a, .int .i64 i.bb, .int .u64 i.n, .int .i64 i.f, .slice ap i.args.length ac, .slice op' i.outs.length oc] v1 (l ++ [byteOf i.op]) := ⟨(unhideE HWA _).trans hws, hw1, ws_row hbl (by decide) hws⟩
  have ST := hideE st
  have hb1w := hw1.lt
  have HROW := hideE st.row
  have HS := hideE (hasSpare_c i.op i.d i.a i.bb i.n i.f ap op' i.args.length i.outs.length ac oc w1 h1 h18 ((unhideE HG).ws hb1 st.ws) (by omega))
  clear hws hw1 HN st
  go_wp2_with (refine wpList_load_row rfl 65 (.tmp 3) rfl w.heap.size rfl 65 _ (0, 0) _ (unhideE HROW) Tryd.underlying65 rfl (Tryd.infInss.trans rfl) ?_)
  refine (unhideE HS).mono ?_
  rintro e w2 ⟨rfl, hbel⟩
  have st : InsSt w w2 b w.heap.size #[.int .i64 i.op, .int .i64 i.d, .int .i64 i.a, .int .i64 i.bb, .int .u64 i.n, .int .i64 i.f, .slice ap i.args.length ac, .slice op' i.outs.length oc] v1 (l ++ [byteOf i.op]) := (unhideE ST).step hbl (ws_below hbel (by omega)) ((unhideE ST).wt.below hbel)
  clear hbel HS ST HROW
  cases hsp : spareOf i.op i.d i.a i.bb i.n i.f i.args.length i.outs.length with
  | true =>
    have HR := hideE (show encIns i = none by rw [unhideE HF, show i.spare = true from hsp]; rfl)
    have ST := hideE st
    clear st
    go_wp2_with fail
    refine (refuse_c _ _).mono ?_
    rintro e w3 ⟨rfl, hw⟩
    subst w3
    exact ⟨rfl, (unhideE ST).ws, by rw [unhideE HR]⟩
  | false =>
    have HF2 := hideE (show encIns i = seqE (some [byteOf i.op]) (seqE (encNum 0 255 i.d) (seqE (encNum 0 255 i.a) (seqE (encNum 0 255 i.bb) (encOp i.op i.n)))) by rw [unhideE HF, show i.spare = false from hsp]; rfl)
    clear HF
    obtain ⟨l2, hl2⟩ : ∃ x, x = l ++ [byteOf i.op] := ⟨_, rfl⟩
    have hn2 : l2.length ≤ l.length + 1 := by rw [hl2]; simp
    rw [← hl2] at st
    have c0 := st.cells 0 _ rfl
    have HND := hideE (needs_c i.op h1 h18 w2 ((unhideE HG).ws hb1 st.ws))
    have ST := hideE st
    have HL2 := hideE hl2
    clear st hl2 hsp
    go_wp2_with fail
    refine (unhideE HND).mono ?_
    rintro e wx ⟨rfl, hwx⟩
    subst wx
    rw [hneed]
    clear HND
    go_wp2_with fail
    refine (has_c 15 1 _).mono ?_
    rintro e wx ⟨rfl, hwx⟩
    subst wx
    rw [show (bits .and .u8 15 1 != 0) = true by decide]
    have st := unhideE ST
    have c1 := st.cells 1 (.int .i64 i.d) rfl
    have HM := hideE (anyByte_c b v1 l2 i.d w2 st.wt (by omega))
    clear st
    go_wp2_with fail
    refine (unhideE HM).mono ?_
    rintro e w3 ⟨hws, hm⟩
    cases hr : encNum 0 255 i.d with
    | none =>
      rw [hr] at hm
      subst hm
      refine ⟨rfl, (unhideE ST).ws.trans hws, ?_⟩
      have hx := unhideE HF2
      rw [hr] at hx
      have hx2 : encIns i = none := hx.trans rfl
      rw [hx2]
    | some bs3 =>
      rw [hr] at hm
      obtain ⟨rfl, v3, hw⟩ := hm
      have hbs : bs3.length ≤ 1 := Nat.le_of_eq (encNum_len hr)
      have st := (unhideE ST).step hbl hws hw
      have HR3 := hideE hr
      obtain ⟨l3, hlk⟩ : ∃ x, x = l2 ++ bs3 := ⟨_, rfl⟩
      have hn3 : l3.length ≤ l2.length + 1 := by rw [hlk]; simp; omega
      rw [← hlk] at st
      have HL3 := hideE hlk
      clear hws hw hr hlk hbs ST HM c1
      have ST := hideE st
      clear st
      go_wp2_with fail
      refine (has_c 15 2 _).mono ?_
      rintro e wx ⟨rfl, hwx⟩
      subst wx
      rw [show (bits .and .u8 15 2 != 0) = true by decide]
      have st := unhideE ST
      have c2 := st.cells 2 (.int .i64 i.a) rfl
      have HM := hideE (anyByte_c b v3 l3 i.a w3 st.wt (by omega))
      clear st
      go_wp2_with fail
      refine (unhideE HM).mono ?_
      rintro e w4 ⟨hws, hm⟩
      cases hr : encNum 0 255 i.a with
      | none =>
        rw [hr] at hm
        subst hm
        refine ⟨rfl, (unhideE ST).ws.trans hws, ?_⟩
        have hx := unhideE HF2
        rw [unhideE HR3, hr] at hx
        have hx2 : encIns i = none := hx.trans rfl
        rw [hx2]
      | some bs4 =>
        rw [hr] at hm
        obtain ⟨rfl, v4, hw⟩ := hm
        have hbs : bs4.length ≤ 1 := Nat.le_of_eq (encNum_len hr)
        have st := (unhideE ST).step hbl hws hw
        have HR4 := hideE hr
        obtain ⟨l4, hlk⟩ : ∃ x, x = l3 ++ bs4 := ⟨_, rfl⟩
        have hn4 : l4.length ≤ l3.length + 1 := by rw [hlk]; simp; omega
        rw [← hlk] at st
        have HL4 := hideE hlk
        clear hws hw hr hlk hbs ST HM c2
        have ST := hideE st
        clear st
        go_wp2_with fail
        refine (has_c 15 4 _).mono ?_
        rintro e wx ⟨rfl, hwx⟩
        subst wx
        rw [show (bits .and .u8 15 4 != 0) = true by decide]
        have st := unhideE ST
        have c3 := st.cells 3 (.int .i64 i.bb) rfl
        have HM := hideE (anyByte_c b v4 l4 i.bb w4 st.wt (by omega))
        clear st
        go_wp2_with fail
        refine (unhideE HM).mono ?_
        rintro e w5 ⟨hws, hm⟩
        cases hr : encNum 0 255 i.bb with
        | none =>
          rw [hr] at hm
          subst hm
          refine ⟨rfl, (unhideE ST).ws.trans hws, ?_⟩
          have hx := unhideE HF2
          rw [unhideE HR3, unhideE HR4, hr] at hx
          have hx2 : encIns i = none := hx.trans rfl
          rw [hx2]
        | some bs5 =>
          rw [hr] at hm
          obtain ⟨rfl, v5, hw⟩ := hm
          have hbs : bs5.length ≤ 1 := Nat.le_of_eq (encNum_len hr)
          have st := (unhideE ST).step hbl hws hw
          have HR5 := hideE hr
          obtain ⟨l5, hlk⟩ : ∃ x, x = l4 ++ bs5 := ⟨_, rfl⟩
          have hn5 : l5.length ≤ l4.length + 1 := by rw [hlk]; simp; omega
          rw [← hlk] at st
          have HL5 := hideE hlk
          clear hws hw hr hlk hbs ST HM c3
          have ST := hideE st
          clear st
          go_wp2_with fail
          refine (has_c 15 8 _).mono ?_
          rintro e wx ⟨rfl, hwx⟩
          subst wx
          rw [show (bits .and .u8 15 8 != 0) = true by decide]
          have st := unhideE ST
          have c0 := st.cells 0 (.int .i64 i.op) rfl
          have c4 := st.cells 4 (.int .u64 i.n) rfl
          have HM := hideE (operand_c b v5 l5 i.op i.n w5 st.wt (by omega))
          clear st
          go_wp2_with fail
          refine (unhideE HM).mono ?_
          rintro e w6 ⟨hws, hm⟩
          cases hr : encOp i.op i.n with
          | none =>
            rw [hr] at hm
            subst hm
            refine ⟨rfl, (unhideE ST).ws.trans hws, ?_⟩
            have hx := unhideE HF2
            rw [unhideE HR3, unhideE HR4, unhideE HR5, hr] at hx
            have hx2 : encIns i = none := hx.trans rfl
            rw [hx2]
          | some bs6 =>
            rw [hr] at hm
            obtain ⟨rfl, v6, hw⟩ := hm
            have hbs : bs6.length ≤ 8 := encOp_len hr
            have st := (unhideE ST).step hbl hws hw
            have HR6 := hideE hr
            obtain ⟨l6, hlk⟩ : ∃ x, x = l5 ++ bs6 := ⟨_, rfl⟩
            have hn6 : l6.length ≤ l5.length + 8 := by rw [hlk]; simp; omega
            rw [← hlk] at st
            have HL6 := hideE hlk
            clear hws hw hr hlk hbs ST HM c0 c4
            have ST := hideE st
            clear st
            go_wp2_with fail
            refine (has_c 15 16 _).mono ?_
            rintro e wx ⟨rfl, hwx⟩
            subst wx
            rw [show (bits .and .u8 15 16 != 0) = false by decide]
            go_wp2_with fail
            refine (has_c 15 32 _).mono ?_
            rintro e wx ⟨rfl, hwx⟩
            subst wx
            rw [show (bits .and .u8 15 32 != 0) = false by decide]
            go_wp2_with fail
            refine (has_c 15 64 _).mono ?_
            rintro e wx ⟨rfl, hwx⟩
            subst wx
            rw [show (bits .and .u8 15 64 != 0) = false by decide]
            go_wp2
            refine bodyPost_end (results_none (fn := Tryd.f79) rfl _ _ _) rfl ?_
            refine ⟨(unhideE ST).ws, ?_⟩
            have hx := unhideE HF2
            rw [unhideE HR3, unhideE HR4, unhideE HR5, unhideE HR6] at hx
            have hx2 : encIns i = some ([byteOf i.op] ++ (bs3 ++ (bs4 ++ (bs5 ++ bs6)))) := hx.trans rfl
            rw [hx2]
            refine ⟨rfl, v6, ?_⟩
            have hw := (unhideE ST).wt
            rw [unhideE HL6, unhideE HL5, unhideE HL4, unhideE HL3, unhideE HL2] at hw
            simpa using hw
set_option maxHeartbeats 8000000 in
set_option maxRecDepth 100000 in
theorem ins112_c (b : Nat) (hb1 : 1 < b) (v : Value) (l : List UInt8) (i : InsE) (av ov : Value) (w : World) (h : Wt w b v l) (hl : l.length ≤ 88000000000) (hg : NeedsAt w) (h1 : 1 ≤ i.op) (h18 : i.op ≤ 18) (hneed : needOf i.op = 112) (pa : List (Array Value × (Int × Int))) (hpa : pa.map (·.2) = i.args) (hpv : ∀ p ∈ pa, p.1 = #[.int .i64 p.2.1, .int .i64 p.2.2]) (hargs : LsB 2 w b av pa) (houts : RsB w b ov i.outs) (hal : i.args.length < 9223372036854775808) (hol : i.outs.length < 9223372036854775808) :
    Calls Tryd.prog 79 #[.pointer (some ⟨b, 0, none⟩), .agg #[.int .i64 i.op, .int .i64 i.d, .int .i64 i.a, .int .i64 i.bb, .int .u64 i.n, .int .i64 i.f, av, ov]] w (EncE b l (encIns i) w) := by
  have hform : encIns i = seqE (some [byteOf i.op]) (if i.spare then none else seqE (encNum 0 255 i.f) (seqE (encL 0 8 encArg i.args) (encL 0 4 (encNum 0 255) i.outs))) := by
    unfold encIns needBit
    rw [hneed, show encNum 1 18 i.op = some [byteOf i.op] from if_pos ⟨h1, h18⟩]
    simp only [show (bits .and .u8 112 1 != 0) = false by decide, show (bits .and .u8 112 2 != 0) = false by decide, show (bits .and .u8 112 4 != 0) = false by decide, show (bits .and .u8 112 8 != 0) = false by decide, show (bits .and .u8 112 16 != 0) = true by decide, show (bits .and .u8 112 32 != 0) = true by decide, show (bits .and .u8 112 64 != 0) = true by decide, condE, if_true, Bool.false_eq_true, if_false, nil_seqE]
  have HF := hideE hform
  obtain ⟨ap, ac, hav⟩ := hargs.shape
  obtain ⟨op', oc, hov⟩ := houts.shape
  have hpl : pa.length = i.args.length := by rw [← hpa]; simp
  rw [hpl] at hav
  subst hav hov
  have hbl := h.lt
  have HA := hideE hargs
  have HO := hideE houts
  have HAL := hideE (show pa.length < 9223372036854775808 by omega)
  have HPA := hideE hpa
  have HOL := hideE hol
  have HPV := hideE hpv
  have HPS := hideE (show ∀ p ∈ pa, p.1.size = 2 ∧ p.1.all (·.oneCell') = true from fun p hp => by rw [hpv p hp]; exact ⟨rfl, by simp [Value.oneCell']⟩)
  have HG := hideE hg
  have HNUM := hideE (show encNum 1 18 i.op = some [byteOf i.op] from if_pos ⟨h1, h18⟩)
  have HN := hideE (fun X : Obj => number_c b v l i.op 1 18 (w.alloc X) (h.alloc X) (by omega))
  have HWA := hideE (fun X : Obj => ws_alloc w X b (by omega))
  clear hargs houts hg h hform hpa hpv hpl
  go_enter Tryd.func79, Tryd.ntmps79
  go_wp2_with fail
  refine (unhideE HN _).mono ?_
  rintro e w1 ⟨hws, hm⟩
  rw [unhideE HNUM] at hm
  obtain ⟨rfl, v1, hw1⟩ := hm
  have st : InsSt w w1 b w.heap.size #[.int .i64 i.op, .int .i64 i.d, .int .i64 i.a, .int .i64 i.bb, .int .u64 i.n, .int .i64 i.f, .slice ap i.args.length ac, .slice op' i.outs.length oc] v1 (l ++ [byteOf i.op]) := ⟨(unhideE HWA _).trans hws, hw1, ws_row hbl (by decide) hws⟩
  have ST := hideE st
  have hb1w := hw1.lt
  have HROW := hideE st.row
  have HS := hideE (hasSpare_c i.op i.d i.a i.bb i.n i.f ap op' i.args.length i.outs.length ac oc w1 h1 h18 ((unhideE HG).ws hb1 st.ws) (by omega))
  clear hws hw1 HN st
  go_wp2_with (refine wpList_load_row rfl 65 (.tmp 3) rfl w.heap.size rfl 65 _ (0, 0) _ (unhideE HROW) Tryd.underlying65 rfl (Tryd.infInss.trans rfl) ?_)
  refine (unhideE HS).mono ?_
  rintro e w2 ⟨rfl, hbel⟩
  have st : InsSt w w2 b w.heap.size #[.int .i64 i.op, .int .i64 i.d, .int .i64 i.a, .int .i64 i.bb, .int .u64 i.n, .int .i64 i.f, .slice ap i.args.length ac, .slice op' i.outs.length oc] v1 (l ++ [byteOf i.op]) := (unhideE ST).step hbl (ws_below hbel (by omega)) ((unhideE ST).wt.below hbel)
  clear hbel HS ST HROW
  cases hsp : spareOf i.op i.d i.a i.bb i.n i.f i.args.length i.outs.length with
  | true =>
    have HR := hideE (show encIns i = none by rw [unhideE HF, show i.spare = true from hsp]; rfl)
    have ST := hideE st
    clear st
    go_wp2_with fail
    refine (refuse_c _ _).mono ?_
    rintro e w3 ⟨rfl, hw⟩
    subst w3
    exact ⟨rfl, (unhideE ST).ws, by rw [unhideE HR]⟩
  | false =>
    have HF2 := hideE (show encIns i = seqE (some [byteOf i.op]) (seqE (encNum 0 255 i.f) (seqE (encL 0 8 encArg i.args) (encL 0 4 (encNum 0 255) i.outs))) by rw [unhideE HF, show i.spare = false from hsp]; rfl)
    clear HF
    obtain ⟨l2, hl2⟩ : ∃ x, x = l ++ [byteOf i.op] := ⟨_, rfl⟩
    have hn2 : l2.length ≤ l.length + 1 := by rw [hl2]; simp
    rw [← hl2] at st
    have c0 := st.cells 0 _ rfl
    have HND := hideE (needs_c i.op h1 h18 w2 ((unhideE HG).ws hb1 st.ws))
    have ST := hideE st
    have HL2 := hideE hl2
    clear st hl2 hsp
    go_wp2_with fail
    refine (unhideE HND).mono ?_
    rintro e wx ⟨rfl, hwx⟩
    subst wx
    rw [hneed]
    clear HND
    go_wp2_with fail
    refine (has_c 112 1 _).mono ?_
    rintro e wx ⟨rfl, hwx⟩
    subst wx
    rw [show (bits .and .u8 112 1 != 0) = false by decide]
    go_wp2_with fail
    refine (has_c 112 2 _).mono ?_
    rintro e wx ⟨rfl, hwx⟩
    subst wx
    rw [show (bits .and .u8 112 2 != 0) = false by decide]
    go_wp2_with fail
    refine (has_c 112 4 _).mono ?_
    rintro e wx ⟨rfl, hwx⟩
    subst wx
    rw [show (bits .and .u8 112 4 != 0) = false by decide]
    go_wp2_with fail
    refine (has_c 112 8 _).mono ?_
    rintro e wx ⟨rfl, hwx⟩
    subst wx
    rw [show (bits .and .u8 112 8 != 0) = false by decide]
    go_wp2_with fail
    refine (has_c 112 16 _).mono ?_
    rintro e wx ⟨rfl, hwx⟩
    subst wx
    rw [show (bits .and .u8 112 16 != 0) = true by decide]
    have st := unhideE ST
    have c5 := st.cells 5 (.int .i64 i.f) rfl
    have HM := hideE (anyByte_c b v1 l2 i.f w2 st.wt (by omega))
    clear st
    go_wp2_with fail
    refine (unhideE HM).mono ?_
    rintro e w3 ⟨hws, hm⟩
    cases hr : encNum 0 255 i.f with
    | none =>
      rw [hr] at hm
      subst hm
      refine ⟨rfl, (unhideE ST).ws.trans hws, ?_⟩
      have hx := unhideE HF2
      rw [hr] at hx
      have hx2 : encIns i = none := hx.trans rfl
      rw [hx2]
    | some bs3 =>
      rw [hr] at hm
      obtain ⟨rfl, v3, hw⟩ := hm
      have hbs : bs3.length ≤ 1 := Nat.le_of_eq (encNum_len hr)
      have st := (unhideE ST).step hbl hws hw
      have HR3 := hideE hr
      obtain ⟨l3, hlk⟩ : ∃ x, x = l2 ++ bs3 := ⟨_, rfl⟩
      have hn3 : l3.length ≤ l2.length + 1 := by rw [hlk]; simp; omega
      rw [← hlk] at st
      have HL3 := hideE hlk
      clear hws hw hr hlk hbs ST HM c5
      have ST := hideE st
      clear st
      go_wp2_with fail
      refine (has_c 112 32 _).mono ?_
      rintro e wx ⟨rfl, hwx⟩
      subst wx
      rw [show (bits .and .u8 112 32 != 0) = true by decide]
      have st := unhideE ST
      have c6 := st.cells 6 (.slice ap i.args.length ac) rfl
      have HM := hideE (writeArgs_c 88 (fun _ _ => rfl) encArg 2 encArg_len (by omega) b 89000000000 (by omega) pa w3 (unhideE HPS) (fun p hp v l w' _ hw hl => by rw [unhideE HPV p hp]; exact arg_c b v l p.2.1 p.2.2 w' hw (by omega)) 0 8 (by omega) v3 l3 _ st.wt (by omega) ((unhideE HA).ws st.ws) (unhideE HAL))
      rw [unhideE HPA] at HM
      clear st
      go_wp2_with fail
      refine (unhideE HM).mono ?_
      rintro e w4 ⟨hws, hm⟩
      cases hr : encL 0 8 encArg i.args with
      | none =>
        rw [hr] at hm
        subst hm
        refine ⟨rfl, (unhideE ST).ws.trans hws, ?_⟩
        have hx := unhideE HF2
        rw [unhideE HR3, hr] at hx
        have hx2 : encIns i = none := hx.trans rfl
        rw [hx2]
      | some bs4 =>
        rw [hr] at hm
        obtain ⟨rfl, v4, hw⟩ := hm
        have hbs : bs4.length ≤ 17 := encL_len encArg 2 encArg_len 0 8 _ _ hr
        have st := (unhideE ST).step hbl hws hw
        have HR4 := hideE hr
        obtain ⟨l4, hlk⟩ : ∃ x, x = l3 ++ bs4 := ⟨_, rfl⟩
        have hn4 : l4.length ≤ l3.length + 17 := by rw [hlk]; simp; omega
        rw [← hlk] at st
        have HL4 := hideE hlk
        clear hws hw hr hlk hbs ST HM c6
        have ST := hideE st
        clear st
        go_wp2_with fail
        refine (has_c 112 64 _).mono ?_
        rintro e wx ⟨rfl, hwx⟩
        subst wx
        rw [show (bits .and .u8 112 64 != 0) = true by decide]
        have st := unhideE ST
        have c7 := st.cells 7 (.slice op' i.outs.length oc) rfl
        have HM := hideE (writeInts_c 77 (fun _ _ => rfl) (encNum 0 255) 1 (fun _ _ h => Nat.le_of_eq (encNum_len h)) (by omega) b 89000000000 (by omega) (fun x v l w hw hl => anyByte_c b v l x w hw (by omega)) 0 4 (by omega) v4 l4 _ i.outs w4 st.wt (by omega) ((unhideE HO).ws st.ws) (unhideE HOL))
        clear st
        go_wp2_with fail
        refine (unhideE HM).mono ?_
        rintro e w5 ⟨hws, hm⟩
        cases hr : encL 0 4 (encNum 0 255) i.outs with
        | none =>
          rw [hr] at hm
          subst hm
          refine ⟨rfl, (unhideE ST).ws.trans hws, ?_⟩
          have hx := unhideE HF2
          rw [unhideE HR3, unhideE HR4, hr] at hx
          have hx2 : encIns i = none := hx.trans rfl
          rw [hx2]
        | some bs5 =>
          rw [hr] at hm
          obtain ⟨rfl, v5, hw⟩ := hm
          have hbs : bs5.length ≤ 5 := encL_len (encNum 0 255) 1 (fun _ _ h => Nat.le_of_eq (encNum_len h)) 0 4 _ _ hr
          have st := (unhideE ST).step hbl hws hw
          have HR5 := hideE hr
          obtain ⟨l5, hlk⟩ : ∃ x, x = l4 ++ bs5 := ⟨_, rfl⟩
          have hn5 : l5.length ≤ l4.length + 5 := by rw [hlk]; simp; omega
          rw [← hlk] at st
          have HL5 := hideE hlk
          clear hws hw hr hlk hbs ST HM c7
          have ST := hideE st
          clear st
          go_wp2
          refine bodyPost_end (results_none (fn := Tryd.f79) rfl _ _ _) rfl ?_
          refine ⟨(unhideE ST).ws, ?_⟩
          have hx := unhideE HF2
          rw [unhideE HR3, unhideE HR4, unhideE HR5] at hx
          have hx2 : encIns i = some ([byteOf i.op] ++ (bs3 ++ (bs4 ++ bs5))) := hx.trans rfl
          rw [hx2]
          refine ⟨rfl, v5, ?_⟩
          have hw := (unhideE ST).wt
          rw [unhideE HL5, unhideE HL4, unhideE HL3, unhideE HL2] at hw
          simpa using hw
set_option maxHeartbeats 8000000 in
set_option maxRecDepth 100000 in
theorem ins2_c (b : Nat) (hb1 : 1 < b) (v : Value) (l : List UInt8) (i : InsE) (av ov : Value) (w : World) (h : Wt w b v l) (hl : l.length ≤ 88000000000) (hg : NeedsAt w) (h1 : 1 ≤ i.op) (h18 : i.op ≤ 18) (hneed : needOf i.op = 2) (pa : List (Array Value × (Int × Int))) (hpa : pa.map (·.2) = i.args) (hpv : ∀ p ∈ pa, p.1 = #[.int .i64 p.2.1, .int .i64 p.2.2]) (hargs : LsB 2 w b av pa) (houts : RsB w b ov i.outs) (hal : i.args.length < 9223372036854775808) (hol : i.outs.length < 9223372036854775808) :
    Calls Tryd.prog 79 #[.pointer (some ⟨b, 0, none⟩), .agg #[.int .i64 i.op, .int .i64 i.d, .int .i64 i.a, .int .i64 i.bb, .int .u64 i.n, .int .i64 i.f, av, ov]] w (EncE b l (encIns i) w) := by
  have hform : encIns i = seqE (some [byteOf i.op]) (if i.spare then none else encNum 0 255 i.a) := by
    unfold encIns needBit
    rw [hneed, show encNum 1 18 i.op = some [byteOf i.op] from if_pos ⟨h1, h18⟩]
    simp only [show (bits .and .u8 2 1 != 0) = false by decide, show (bits .and .u8 2 2 != 0) = true by decide, show (bits .and .u8 2 4 != 0) = false by decide, show (bits .and .u8 2 8 != 0) = false by decide, show (bits .and .u8 2 16 != 0) = false by decide, show (bits .and .u8 2 32 != 0) = false by decide, show (bits .and .u8 2 64 != 0) = false by decide, condE, if_true, Bool.false_eq_true, if_false, nil_seqE, seqE_nil]
  have HF := hideE hform
  obtain ⟨ap, ac, hav⟩ := hargs.shape
  obtain ⟨op', oc, hov⟩ := houts.shape
  have hpl : pa.length = i.args.length := by rw [← hpa]; simp
  rw [hpl] at hav
  subst hav hov
  have hbl := h.lt
  have HA := hideE hargs
  have HO := hideE houts
  have HAL := hideE (show pa.length < 9223372036854775808 by omega)
  have HPA := hideE hpa
  have HOL := hideE hol
  have HPV := hideE hpv
  have HPS := hideE (show ∀ p ∈ pa, p.1.size = 2 ∧ p.1.all (·.oneCell') = true from fun p hp => by rw [hpv p hp]; exact ⟨rfl, by simp [Value.oneCell']⟩)
  have HG := hideE hg
  have HNUM := hideE (show encNum 1 18 i.op = some [byteOf i.op] from if_pos ⟨h1, h18⟩)
  have HN := hideE (fun X : Obj => number_c b v l i.op 1 18 (w.alloc X) (h.alloc X) (by omega))
  have HWA := hideE (fun X : Obj => ws_alloc w X b (by omega))
  clear hargs houts hg h hform hpa hpv hpl
  go_enter Tryd.func79, Tryd.ntmps79
  go_wp2_with fail
  refine (unhideE HN _).mono ?_
  rintro e w1 ⟨hws, hm⟩
  rw [unhideE HNUM] at hm
  obtain ⟨rfl, v1, hw1⟩ := hm
  have st : InsSt w w1 b w.heap.size #[.int .i64 i.op, .int .i64 i.d, .int .i64 i.a, .int .i64 i.bb, .int .u64 i.n, .int .i64 i.f, .slice ap i.args.length ac, .slice op' i.outs.length oc] v1 (l ++ [byteOf i.op]) := ⟨(unhideE HWA _).trans hws, hw1, ws_row hbl (by decide) hws⟩
  have ST := hideE st
  have hb1w := hw1.lt
  have HROW := hideE st.row
  have HS := hideE (hasSpare_c i.op i.d i.a i.bb i.n i.f ap op' i.args.length i.outs.length ac oc w1 h1 h18 ((unhideE HG).ws hb1 st.ws) (by omega))
  clear hws hw1 HN st
  go_wp2_with (refine wpList_load_row rfl 65 (.tmp 3) rfl w.heap.size rfl 65 _ (0, 0) _ (unhideE HROW) Tryd.underlying65 rfl (Tryd.infInss.trans rfl) ?_)
  refine (unhideE HS).mono ?_
  rintro e w2 ⟨rfl, hbel⟩
  have st : InsSt w w2 b w.heap.size #[.int .i64 i.op, .int .i64 i.d, .int .i64 i.a, .int .i64 i.bb, .int .u64 i.n, .int .i64 i.f, .slice ap i.args.length ac, .slice op' i.outs.length oc] v1 (l ++ [byteOf i.op]) := (unhideE ST).step hbl (ws_below hbel (by omega)) ((unhideE ST).wt.below hbel)
  clear hbel HS ST HROW
  cases hsp : spareOf i.op i.d i.a i.bb i.n i.f i.args.length i.outs.length with
  | true =>
    have HR := hideE (show encIns i = none by rw [unhideE HF, show i.spare = true from hsp]; rfl)
    have ST := hideE st
    clear st
    go_wp2_with fail
    refine (refuse_c _ _).mono ?_
    rintro e w3 ⟨rfl, hw⟩
    subst w3
    exact ⟨rfl, (unhideE ST).ws, by rw [unhideE HR]⟩
  | false =>
    have HF2 := hideE (show encIns i = seqE (some [byteOf i.op]) (encNum 0 255 i.a) by rw [unhideE HF, show i.spare = false from hsp]; rfl)
    clear HF
    obtain ⟨l2, hl2⟩ : ∃ x, x = l ++ [byteOf i.op] := ⟨_, rfl⟩
    have hn2 : l2.length ≤ l.length + 1 := by rw [hl2]; simp
    rw [← hl2] at st
    have c0 := st.cells 0 _ rfl
    have HND := hideE (needs_c i.op h1 h18 w2 ((unhideE HG).ws hb1 st.ws))
    have ST := hideE st
    have HL2 := hideE hl2
    clear st hl2 hsp
    go_wp2_with fail
    refine (unhideE HND).mono ?_
    rintro e wx ⟨rfl, hwx⟩
    subst wx
    rw [hneed]
    clear HND
    go_wp2_with fail
    refine (has_c 2 1 _).mono ?_
    rintro e wx ⟨rfl, hwx⟩
    subst wx
    rw [show (bits .and .u8 2 1 != 0) = false by decide]
    go_wp2_with fail
    refine (has_c 2 2 _).mono ?_
    rintro e wx ⟨rfl, hwx⟩
    subst wx
    rw [show (bits .and .u8 2 2 != 0) = true by decide]
    have st := unhideE ST
    have c2 := st.cells 2 (.int .i64 i.a) rfl
    have HM := hideE (anyByte_c b v1 l2 i.a w2 st.wt (by omega))
    clear st
    go_wp2_with fail
    refine (unhideE HM).mono ?_
    rintro e w3 ⟨hws, hm⟩
    cases hr : encNum 0 255 i.a with
    | none =>
      rw [hr] at hm
      subst hm
      refine ⟨rfl, (unhideE ST).ws.trans hws, ?_⟩
      have hx := unhideE HF2
      rw [hr] at hx
      have hx2 : encIns i = none := hx.trans rfl
      rw [hx2]
    | some bs3 =>
      rw [hr] at hm
      obtain ⟨rfl, v3, hw⟩ := hm
      have hbs : bs3.length ≤ 1 := Nat.le_of_eq (encNum_len hr)
      have st := (unhideE ST).step hbl hws hw
      have HR3 := hideE hr
      obtain ⟨l3, hlk⟩ : ∃ x, x = l2 ++ bs3 := ⟨_, rfl⟩
      have hn3 : l3.length ≤ l2.length + 1 := by rw [hlk]; simp; omega
      rw [← hlk] at st
      have HL3 := hideE hlk
      clear hws hw hr hlk hbs ST HM c2
      have ST := hideE st
      clear st
      go_wp2_with fail
      refine (has_c 2 4 _).mono ?_
      rintro e wx ⟨rfl, hwx⟩
      subst wx
      rw [show (bits .and .u8 2 4 != 0) = false by decide]
      go_wp2_with fail
      refine (has_c 2 8 _).mono ?_
      rintro e wx ⟨rfl, hwx⟩
      subst wx
      rw [show (bits .and .u8 2 8 != 0) = false by decide]
      go_wp2_with fail
      refine (has_c 2 16 _).mono ?_
      rintro e wx ⟨rfl, hwx⟩
      subst wx
      rw [show (bits .and .u8 2 16 != 0) = false by decide]
      go_wp2_with fail
      refine (has_c 2 32 _).mono ?_
      rintro e wx ⟨rfl, hwx⟩
      subst wx
      rw [show (bits .and .u8 2 32 != 0) = false by decide]
      go_wp2_with fail
      refine (has_c 2 64 _).mono ?_
      rintro e wx ⟨rfl, hwx⟩
      subst wx
      rw [show (bits .and .u8 2 64 != 0) = false by decide]
      go_wp2
      refine bodyPost_end (results_none (fn := Tryd.f79) rfl _ _ _) rfl ?_
      refine ⟨(unhideE ST).ws, ?_⟩
      have hx := unhideE HF2
      rw [unhideE HR3] at hx
      have hx2 : encIns i = some ([byteOf i.op] ++ bs3) := hx.trans rfl
      rw [hx2]
      refine ⟨rfl, v3, ?_⟩
      have hw := (unhideE ST).wt
      rw [unhideE HL3, unhideE HL2] at hw
      simpa using hw
set_option maxHeartbeats 8000000 in
set_option maxRecDepth 100000 in
theorem ins64_c (b : Nat) (hb1 : 1 < b) (v : Value) (l : List UInt8) (i : InsE) (av ov : Value) (w : World) (h : Wt w b v l) (hl : l.length ≤ 88000000000) (hg : NeedsAt w) (h1 : 1 ≤ i.op) (h18 : i.op ≤ 18) (hneed : needOf i.op = 64) (pa : List (Array Value × (Int × Int))) (hpa : pa.map (·.2) = i.args) (hpv : ∀ p ∈ pa, p.1 = #[.int .i64 p.2.1, .int .i64 p.2.2]) (hargs : LsB 2 w b av pa) (houts : RsB w b ov i.outs) (hal : i.args.length < 9223372036854775808) (hol : i.outs.length < 9223372036854775808) :
    Calls Tryd.prog 79 #[.pointer (some ⟨b, 0, none⟩), .agg #[.int .i64 i.op, .int .i64 i.d, .int .i64 i.a, .int .i64 i.bb, .int .u64 i.n, .int .i64 i.f, av, ov]] w (EncE b l (encIns i) w) := by
  have hform : encIns i = seqE (some [byteOf i.op]) (if i.spare then none else encL 0 4 (encNum 0 255) i.outs) := by
    unfold encIns needBit
    rw [hneed, show encNum 1 18 i.op = some [byteOf i.op] from if_pos ⟨h1, h18⟩]
    simp only [show (bits .and .u8 64 1 != 0) = false by decide, show (bits .and .u8 64 2 != 0) = false by decide, show (bits .and .u8 64 4 != 0) = false by decide, show (bits .and .u8 64 8 != 0) = false by decide, show (bits .and .u8 64 16 != 0) = false by decide, show (bits .and .u8 64 32 != 0) = false by decide, show (bits .and .u8 64 64 != 0) = true by decide, condE, if_true, Bool.false_eq_true, if_false, nil_seqE]
  have HF := hideE hform
  obtain ⟨ap, ac, hav⟩ := hargs.shape
  obtain ⟨op', oc, hov⟩ := houts.shape
  have hpl : pa.length = i.args.length := by rw [← hpa]; simp
  rw [hpl] at hav
  subst hav hov
  have hbl := h.lt
  have HA := hideE hargs
  have HO := hideE houts
  have HAL := hideE (show pa.length < 9223372036854775808 by omega)
  have HPA := hideE hpa
  have HOL := hideE hol
  have HPV := hideE hpv
  have HPS := hideE (show ∀ p ∈ pa, p.1.size = 2 ∧ p.1.all (·.oneCell') = true from fun p hp => by rw [hpv p hp]; exact ⟨rfl, by simp [Value.oneCell']⟩)
  have HG := hideE hg
  have HNUM := hideE (show encNum 1 18 i.op = some [byteOf i.op] from if_pos ⟨h1, h18⟩)
  have HN := hideE (fun X : Obj => number_c b v l i.op 1 18 (w.alloc X) (h.alloc X) (by omega))
  have HWA := hideE (fun X : Obj => ws_alloc w X b (by omega))
  clear hargs houts hg h hform hpa hpv hpl
  go_enter Tryd.func79, Tryd.ntmps79
  go_wp2_with fail
  refine (unhideE HN _).mono ?_
  rintro e w1 ⟨hws, hm⟩
  rw [unhideE HNUM] at hm
  obtain ⟨rfl, v1, hw1⟩ := hm
  have st : InsSt w w1 b w.heap.size #[.int .i64 i.op, .int .i64 i.d, .int .i64 i.a, .int .i64 i.bb, .int .u64 i.n, .int .i64 i.f, .slice ap i.args.length ac, .slice op' i.outs.length oc] v1 (l ++ [byteOf i.op]) := ⟨(unhideE HWA _).trans hws, hw1, ws_row hbl (by decide) hws⟩
  have ST := hideE st
  have hb1w := hw1.lt
  have HROW := hideE st.row
  have HS := hideE (hasSpare_c i.op i.d i.a i.bb i.n i.f ap op' i.args.length i.outs.length ac oc w1 h1 h18 ((unhideE HG).ws hb1 st.ws) (by omega))
  clear hws hw1 HN st
  go_wp2_with (refine wpList_load_row rfl 65 (.tmp 3) rfl w.heap.size rfl 65 _ (0, 0) _ (unhideE HROW) Tryd.underlying65 rfl (Tryd.infInss.trans rfl) ?_)
  refine (unhideE HS).mono ?_
  rintro e w2 ⟨rfl, hbel⟩
  have st : InsSt w w2 b w.heap.size #[.int .i64 i.op, .int .i64 i.d, .int .i64 i.a, .int .i64 i.bb, .int .u64 i.n, .int .i64 i.f, .slice ap i.args.length ac, .slice op' i.outs.length oc] v1 (l ++ [byteOf i.op]) := (unhideE ST).step hbl (ws_below hbel (by omega)) ((unhideE ST).wt.below hbel)
  clear hbel HS ST HROW
  cases hsp : spareOf i.op i.d i.a i.bb i.n i.f i.args.length i.outs.length with
  | true =>
    have HR := hideE (show encIns i = none by rw [unhideE HF, show i.spare = true from hsp]; rfl)
    have ST := hideE st
    clear st
    go_wp2_with fail
    refine (refuse_c _ _).mono ?_
    rintro e w3 ⟨rfl, hw⟩
    subst w3
    exact ⟨rfl, (unhideE ST).ws, by rw [unhideE HR]⟩
  | false =>
    have HF2 := hideE (show encIns i = seqE (some [byteOf i.op]) (encL 0 4 (encNum 0 255) i.outs) by rw [unhideE HF, show i.spare = false from hsp]; rfl)
    clear HF
    obtain ⟨l2, hl2⟩ : ∃ x, x = l ++ [byteOf i.op] := ⟨_, rfl⟩
    have hn2 : l2.length ≤ l.length + 1 := by rw [hl2]; simp
    rw [← hl2] at st
    have c0 := st.cells 0 _ rfl
    have HND := hideE (needs_c i.op h1 h18 w2 ((unhideE HG).ws hb1 st.ws))
    have ST := hideE st
    have HL2 := hideE hl2
    clear st hl2 hsp
    go_wp2_with fail
    refine (unhideE HND).mono ?_
    rintro e wx ⟨rfl, hwx⟩
    subst wx
    rw [hneed]
    clear HND
    go_wp2_with fail
    refine (has_c 64 1 _).mono ?_
    rintro e wx ⟨rfl, hwx⟩
    subst wx
    rw [show (bits .and .u8 64 1 != 0) = false by decide]
    go_wp2_with fail
    refine (has_c 64 2 _).mono ?_
    rintro e wx ⟨rfl, hwx⟩
    subst wx
    rw [show (bits .and .u8 64 2 != 0) = false by decide]
    go_wp2_with fail
    refine (has_c 64 4 _).mono ?_
    rintro e wx ⟨rfl, hwx⟩
    subst wx
    rw [show (bits .and .u8 64 4 != 0) = false by decide]
    go_wp2_with fail
    refine (has_c 64 8 _).mono ?_
    rintro e wx ⟨rfl, hwx⟩
    subst wx
    rw [show (bits .and .u8 64 8 != 0) = false by decide]
    go_wp2_with fail
    refine (has_c 64 16 _).mono ?_
    rintro e wx ⟨rfl, hwx⟩
    subst wx
    rw [show (bits .and .u8 64 16 != 0) = false by decide]
    go_wp2_with fail
    refine (has_c 64 32 _).mono ?_
    rintro e wx ⟨rfl, hwx⟩
    subst wx
    rw [show (bits .and .u8 64 32 != 0) = false by decide]
    go_wp2_with fail
    refine (has_c 64 64 _).mono ?_
    rintro e wx ⟨rfl, hwx⟩
    subst wx
    rw [show (bits .and .u8 64 64 != 0) = true by decide]
    have st := unhideE ST
    have c7 := st.cells 7 (.slice op' i.outs.length oc) rfl
    have HM := hideE (writeInts_c 77 (fun _ _ => rfl) (encNum 0 255) 1 (fun _ _ h => Nat.le_of_eq (encNum_len h)) (by omega) b 89000000000 (by omega) (fun x v l w hw hl => anyByte_c b v l x w hw (by omega)) 0 4 (by omega) v1 l2 _ i.outs w2 st.wt (by omega) ((unhideE HO).ws st.ws) (unhideE HOL))
    clear st
    go_wp2_with fail
    refine (unhideE HM).mono ?_
    rintro e w3 ⟨hws, hm⟩
    cases hr : encL 0 4 (encNum 0 255) i.outs with
    | none =>
      rw [hr] at hm
      subst hm
      refine ⟨rfl, (unhideE ST).ws.trans hws, ?_⟩
      have hx := unhideE HF2
      rw [hr] at hx
      have hx2 : encIns i = none := hx.trans rfl
      rw [hx2]
    | some bs3 =>
      rw [hr] at hm
      obtain ⟨rfl, v3, hw⟩ := hm
      have hbs : bs3.length ≤ 5 := encL_len (encNum 0 255) 1 (fun _ _ h => Nat.le_of_eq (encNum_len h)) 0 4 _ _ hr
      have st := (unhideE ST).step hbl hws hw
      have HR3 := hideE hr
      obtain ⟨l3, hlk⟩ : ∃ x, x = l2 ++ bs3 := ⟨_, rfl⟩
      have hn3 : l3.length ≤ l2.length + 5 := by rw [hlk]; simp; omega
      rw [← hlk] at st
      have HL3 := hideE hlk
      clear hws hw hr hlk hbs ST HM c7
      have ST := hideE st
      clear st
      go_wp2
      refine bodyPost_end (results_none (fn := Tryd.f79) rfl _ _ _) rfl ?_
      refine ⟨(unhideE ST).ws, ?_⟩
      have hx := unhideE HF2
      rw [unhideE HR3] at hx
      have hx2 : encIns i = some ([byteOf i.op] ++ bs3) := hx.trans rfl
      rw [hx2]
      refine ⟨rfl, v3, ?_⟩
      have hw := (unhideE ST).wt
      rw [unhideE HL3, unhideE HL2] at hw
      simpa using hw
set_option maxHeartbeats 8000000 in
set_option maxRecDepth 100000 in
theorem ins48_c (b : Nat) (hb1 : 1 < b) (v : Value) (l : List UInt8) (i : InsE) (av ov : Value) (w : World) (h : Wt w b v l) (hl : l.length ≤ 88000000000) (hg : NeedsAt w) (h1 : 1 ≤ i.op) (h18 : i.op ≤ 18) (hneed : needOf i.op = 48) (pa : List (Array Value × (Int × Int))) (hpa : pa.map (·.2) = i.args) (hpv : ∀ p ∈ pa, p.1 = #[.int .i64 p.2.1, .int .i64 p.2.2]) (hargs : LsB 2 w b av pa) (houts : RsB w b ov i.outs) (hal : i.args.length < 9223372036854775808) (hol : i.outs.length < 9223372036854775808) :
    Calls Tryd.prog 79 #[.pointer (some ⟨b, 0, none⟩), .agg #[.int .i64 i.op, .int .i64 i.d, .int .i64 i.a, .int .i64 i.bb, .int .u64 i.n, .int .i64 i.f, av, ov]] w (EncE b l (encIns i) w) := by
  have hform : encIns i = seqE (some [byteOf i.op]) (if i.spare then none else seqE (encNum 0 255 i.f) (encL 0 8 encArg i.args)) := by
    unfold encIns needBit
    rw [hneed, show encNum 1 18 i.op = some [byteOf i.op] from if_pos ⟨h1, h18⟩]
    simp only [show (bits .and .u8 48 1 != 0) = false by decide, show (bits .and .u8 48 2 != 0) = false by decide, show (bits .and .u8 48 4 != 0) = false by decide, show (bits .and .u8 48 8 != 0) = false by decide, show (bits .and .u8 48 16 != 0) = true by decide, show (bits .and .u8 48 32 != 0) = true by decide, show (bits .and .u8 48 64 != 0) = false by decide, condE, if_true, Bool.false_eq_true, if_false, nil_seqE, seqE_nil]
  have HF := hideE hform
  obtain ⟨ap, ac, hav⟩ := hargs.shape
  obtain ⟨op', oc, hov⟩ := houts.shape
  have hpl : pa.length = i.args.length := by rw [← hpa]; simp
  rw [hpl] at hav
  subst hav hov
  have hbl := h.lt
  have HA := hideE hargs
  have HO := hideE houts
  have HAL := hideE (show pa.length < 9223372036854775808 by omega)
  have HPA := hideE hpa
  have HOL := hideE hol
  have HPV := hideE hpv
  have HPS := hideE (show ∀ p ∈ pa, p.1.size = 2 ∧ p.1.all (·.oneCell') = true from fun p hp => by rw [hpv p hp]; exact ⟨rfl, by simp [Value.oneCell']⟩)
  have HG := hideE hg
  have HNUM := hideE (show encNum 1 18 i.op = some [byteOf i.op] from if_pos ⟨h1, h18⟩)
  have HN := hideE (fun X : Obj => number_c b v l i.op 1 18 (w.alloc X) (h.alloc X) (by omega))
  have HWA := hideE (fun X : Obj => ws_alloc w X b (by omega))
  clear hargs houts hg h hform hpa hpv hpl
  go_enter Tryd.func79, Tryd.ntmps79
  go_wp2_with fail
  refine (unhideE HN _).mono ?_
  rintro e w1 ⟨hws, hm⟩
  rw [unhideE HNUM] at hm
  obtain ⟨rfl, v1, hw1⟩ := hm
  have st : InsSt w w1 b w.heap.size #[.int .i64 i.op, .int .i64 i.d, .int .i64 i.a, .int .i64 i.bb, .int .u64 i.n, .int .i64 i.f, .slice ap i.args.length ac, .slice op' i.outs.length oc] v1 (l ++ [byteOf i.op]) := ⟨(unhideE HWA _).trans hws, hw1, ws_row hbl (by decide) hws⟩
  have ST := hideE st
  have hb1w := hw1.lt
  have HROW := hideE st.row
  have HS := hideE (hasSpare_c i.op i.d i.a i.bb i.n i.f ap op' i.args.length i.outs.length ac oc w1 h1 h18 ((unhideE HG).ws hb1 st.ws) (by omega))
  clear hws hw1 HN st
  go_wp2_with (refine wpList_load_row rfl 65 (.tmp 3) rfl w.heap.size rfl 65 _ (0, 0) _ (unhideE HROW) Tryd.underlying65 rfl (Tryd.infInss.trans rfl) ?_)
  refine (unhideE HS).mono ?_
  rintro e w2 ⟨rfl, hbel⟩
  have st : InsSt w w2 b w.heap.size #[.int .i64 i.op, .int .i64 i.d, .int .i64 i.a, .int .i64 i.bb, .int .u64 i.n, .int .i64 i.f, .slice ap i.args.length ac, .slice op' i.outs.length oc] v1 (l ++ [byteOf i.op]) := (unhideE ST).step hbl (ws_below hbel (by omega)) ((unhideE ST).wt.below hbel)
  clear hbel HS ST HROW
  cases hsp : spareOf i.op i.d i.a i.bb i.n i.f i.args.length i.outs.length with
  | true =>
    have HR := hideE (show encIns i = none by rw [unhideE HF, show i.spare = true from hsp]; rfl)
    have ST := hideE st
    clear st
    go_wp2_with fail
    refine (refuse_c _ _).mono ?_
    rintro e w3 ⟨rfl, hw⟩
    subst w3
    exact ⟨rfl, (unhideE ST).ws, by rw [unhideE HR]⟩
  | false =>
    have HF2 := hideE (show encIns i = seqE (some [byteOf i.op]) (seqE (encNum 0 255 i.f) (encL 0 8 encArg i.args)) by rw [unhideE HF, show i.spare = false from hsp]; rfl)
    clear HF
    obtain ⟨l2, hl2⟩ : ∃ x, x = l ++ [byteOf i.op] := ⟨_, rfl⟩
    have hn2 : l2.length ≤ l.length + 1 := by rw [hl2]; simp
    rw [← hl2] at st
    have c0 := st.cells 0 _ rfl
    have HND := hideE (needs_c i.op h1 h18 w2 ((unhideE HG).ws hb1 st.ws))
    have ST := hideE st
    have HL2 := hideE hl2
    clear st hl2 hsp
    go_wp2_with fail
    refine (unhideE HND).mono ?_
    rintro e wx ⟨rfl, hwx⟩
    subst wx
    rw [hneed]
    clear HND
    go_wp2_with fail
    refine (has_c 48 1 _).mono ?_
    rintro e wx ⟨rfl, hwx⟩
    subst wx
    rw [show (bits .and .u8 48 1 != 0) = false by decide]
    go_wp2_with fail
    refine (has_c 48 2 _).mono ?_
    rintro e wx ⟨rfl, hwx⟩
    subst wx
    rw [show (bits .and .u8 48 2 != 0) = false by decide]
    go_wp2_with fail
    refine (has_c 48 4 _).mono ?_
    rintro e wx ⟨rfl, hwx⟩
    subst wx
    rw [show (bits .and .u8 48 4 != 0) = false by decide]
    go_wp2_with fail
    refine (has_c 48 8 _).mono ?_
    rintro e wx ⟨rfl, hwx⟩
    subst wx
    rw [show (bits .and .u8 48 8 != 0) = false by decide]
    go_wp2_with fail
    refine (has_c 48 16 _).mono ?_
    rintro e wx ⟨rfl, hwx⟩
    subst wx
    rw [show (bits .and .u8 48 16 != 0) = true by decide]
    have st := unhideE ST
    have c5 := st.cells 5 (.int .i64 i.f) rfl
    have HM := hideE (anyByte_c b v1 l2 i.f w2 st.wt (by omega))
    clear st
    go_wp2_with fail
    refine (unhideE HM).mono ?_
    rintro e w3 ⟨hws, hm⟩
    cases hr : encNum 0 255 i.f with
    | none =>
      rw [hr] at hm
      subst hm
      refine ⟨rfl, (unhideE ST).ws.trans hws, ?_⟩
      have hx := unhideE HF2
      rw [hr] at hx
      have hx2 : encIns i = none := hx.trans rfl
      rw [hx2]
    | some bs3 =>
      rw [hr] at hm
      obtain ⟨rfl, v3, hw⟩ := hm
      have hbs : bs3.length ≤ 1 := Nat.le_of_eq (encNum_len hr)
      have st := (unhideE ST).step hbl hws hw
      have HR3 := hideE hr
      obtain ⟨l3, hlk⟩ : ∃ x, x = l2 ++ bs3 := ⟨_, rfl⟩
      have hn3 : l3.length ≤ l2.length + 1 := by rw [hlk]; simp; omega
      rw [← hlk] at st
      have HL3 := hideE hlk
      clear hws hw hr hlk hbs ST HM c5
      have ST := hideE st
      clear st
      go_wp2_with fail
      refine (has_c 48 32 _).mono ?_
      rintro e wx ⟨rfl, hwx⟩
      subst wx
      rw [show (bits .and .u8 48 32 != 0) = true by decide]
      have st := unhideE ST
      have c6 := st.cells 6 (.slice ap i.args.length ac) rfl
      have HM := hideE (writeArgs_c 88 (fun _ _ => rfl) encArg 2 encArg_len (by omega) b 89000000000 (by omega) pa w3 (unhideE HPS) (fun p hp v l w' _ hw hl => by rw [unhideE HPV p hp]; exact arg_c b v l p.2.1 p.2.2 w' hw (by omega)) 0 8 (by omega) v3 l3 _ st.wt (by omega) ((unhideE HA).ws st.ws) (unhideE HAL))
      rw [unhideE HPA] at HM
      clear st
      go_wp2_with fail
      refine (unhideE HM).mono ?_
      rintro e w4 ⟨hws, hm⟩
      cases hr : encL 0 8 encArg i.args with
      | none =>
        rw [hr] at hm
        subst hm
        refine ⟨rfl, (unhideE ST).ws.trans hws, ?_⟩
        have hx := unhideE HF2
        rw [unhideE HR3, hr] at hx
        have hx2 : encIns i = none := hx.trans rfl
        rw [hx2]
      | some bs4 =>
        rw [hr] at hm
        obtain ⟨rfl, v4, hw⟩ := hm
        have hbs : bs4.length ≤ 17 := encL_len encArg 2 encArg_len 0 8 _ _ hr
        have st := (unhideE ST).step hbl hws hw
        have HR4 := hideE hr
        obtain ⟨l4, hlk⟩ : ∃ x, x = l3 ++ bs4 := ⟨_, rfl⟩
        have hn4 : l4.length ≤ l3.length + 17 := by rw [hlk]; simp; omega
        rw [← hlk] at st
        have HL4 := hideE hlk
        clear hws hw hr hlk hbs ST HM c6
        have ST := hideE st
        clear st
        go_wp2_with fail
        refine (has_c 48 64 _).mono ?_
        rintro e wx ⟨rfl, hwx⟩
        subst wx
        rw [show (bits .and .u8 48 64 != 0) = false by decide]
        go_wp2
        refine bodyPost_end (results_none (fn := Tryd.f79) rfl _ _ _) rfl ?_
        refine ⟨(unhideE ST).ws, ?_⟩
        have hx := unhideE HF2
        rw [unhideE HR3, unhideE HR4] at hx
        have hx2 : encIns i = some ([byteOf i.op] ++ (bs3 ++ bs4)) := hx.trans rfl
        rw [hx2]
        refine ⟨rfl, v4, ?_⟩
        have hw := (unhideE ST).wt
        rw [unhideE HL4, unhideE HL3, unhideE HL2] at hw
        simpa using hw
set_option maxHeartbeats 8000000 in
set_option maxRecDepth 100000 in
theorem ins8_c (b : Nat) (hb1 : 1 < b) (v : Value) (l : List UInt8) (i : InsE) (av ov : Value) (w : World) (h : Wt w b v l) (hl : l.length ≤ 88000000000) (hg : NeedsAt w) (h1 : 1 ≤ i.op) (h18 : i.op ≤ 18) (hneed : needOf i.op = 8) (pa : List (Array Value × (Int × Int))) (hpa : pa.map (·.2) = i.args) (hpv : ∀ p ∈ pa, p.1 = #[.int .i64 p.2.1, .int .i64 p.2.2]) (hargs : LsB 2 w b av pa) (houts : RsB w b ov i.outs) (hal : i.args.length < 9223372036854775808) (hol : i.outs.length < 9223372036854775808) :
    Calls Tryd.prog 79 #[.pointer (some ⟨b, 0, none⟩), .agg #[.int .i64 i.op, .int .i64 i.d, .int .i64 i.a, .int .i64 i.bb, .int .u64 i.n, .int .i64 i.f, av, ov]] w (EncE b l (encIns i) w) := by
  have hform : encIns i = seqE (some [byteOf i.op]) (if i.spare then none else encOp i.op i.n) := by
    unfold encIns needBit
    rw [hneed, show encNum 1 18 i.op = some [byteOf i.op] from if_pos ⟨h1, h18⟩]
    simp only [show (bits .and .u8 8 1 != 0) = false by decide, show (bits .and .u8 8 2 != 0) = false by decide, show (bits .and .u8 8 4 != 0) = false by decide, show (bits .and .u8 8 8 != 0) = true by decide, show (bits .and .u8 8 16 != 0) = false by decide, show (bits .and .u8 8 32 != 0) = false by decide, show (bits .and .u8 8 64 != 0) = false by decide, condE, if_true, Bool.false_eq_true, if_false, nil_seqE, seqE_nil]
  have HF := hideE hform
  obtain ⟨ap, ac, hav⟩ := hargs.shape
  obtain ⟨op', oc, hov⟩ := houts.shape
  have hpl : pa.length = i.args.length := by rw [← hpa]; simp
  rw [hpl] at hav
  subst hav hov
  have hbl := h.lt
  have HA := hideE hargs
  have HO := hideE houts
  have HAL := hideE (show pa.length < 9223372036854775808 by omega)
  have HPA := hideE hpa
  have HOL := hideE hol
  have HPV := hideE hpv
  have HPS := hideE (show ∀ p ∈ pa, p.1.size = 2 ∧ p.1.all (·.oneCell') = true from fun p hp => by rw [hpv p hp]; exact ⟨rfl, by simp [Value.oneCell']⟩)
  have HG := hideE hg
  have HNUM := hideE (show encNum 1 18 i.op = some [byteOf i.op] from if_pos ⟨h1, h18⟩)
  have HN := hideE (fun X : Obj => number_c b v l i.op 1 18 (w.alloc X) (h.alloc X) (by omega))
  have HWA := hideE (fun X : Obj => ws_alloc w X b (by omega))
  clear hargs houts hg h hform hpa hpv hpl
  go_enter Tryd.func79, Tryd.ntmps79
  go_wp2_with fail
  refine (unhideE HN _).mono ?_
  rintro e w1 ⟨hws, hm⟩
  rw [unhideE HNUM] at hm
  obtain ⟨rfl, v1, hw1⟩ := hm
  have st : InsSt w w1 b w.heap.size #[.int .i64 i.op, .int .i64 i.d, .int .i64 i.a, .int .i64 i.bb, .int .u64 i.n, .int .i64 i.f, .slice ap i.args.length ac, .slice op' i.outs.length oc] v1 (l ++ [byteOf i.op]) := ⟨(unhideE HWA _).trans hws, hw1, ws_row hbl (by decide) hws⟩
  have ST := hideE st
  have hb1w := hw1.lt
  have HROW := hideE st.row
  have HS := hideE (hasSpare_c i.op i.d i.a i.bb i.n i.f ap op' i.args.length i.outs.length ac oc w1 h1 h18 ((unhideE HG).ws hb1 st.ws) (by omega))
  clear hws hw1 HN st
  go_wp2_with (refine wpList_load_row rfl 65 (.tmp 3) rfl w.heap.size rfl 65 _ (0, 0) _ (unhideE HROW) Tryd.underlying65 rfl (Tryd.infInss.trans rfl) ?_)
  refine (unhideE HS).mono ?_
  rintro e w2 ⟨rfl, hbel⟩
  have st : InsSt w w2 b w.heap.size #[.int .i64 i.op, .int .i64 i.d, .int .i64 i.a, .int .i64 i.bb, .int .u64 i.n, .int .i64 i.f, .slice ap i.args.length ac, .slice op' i.outs.length oc] v1 (l ++ [byteOf i.op]) := (unhideE ST).step hbl (ws_below hbel (by omega)) ((unhideE ST).wt.below hbel)
  clear hbel HS ST HROW
  cases hsp : spareOf i.op i.d i.a i.bb i.n i.f i.args.length i.outs.length with
  | true =>
    have HR := hideE (show encIns i = none by rw [unhideE HF, show i.spare = true from hsp]; rfl)
    have ST := hideE st
    clear st
    go_wp2_with fail
    refine (refuse_c _ _).mono ?_
    rintro e w3 ⟨rfl, hw⟩
    subst w3
    exact ⟨rfl, (unhideE ST).ws, by rw [unhideE HR]⟩
  | false =>
    have HF2 := hideE (show encIns i = seqE (some [byteOf i.op]) (encOp i.op i.n) by rw [unhideE HF, show i.spare = false from hsp]; rfl)
    clear HF
    obtain ⟨l2, hl2⟩ : ∃ x, x = l ++ [byteOf i.op] := ⟨_, rfl⟩
    have hn2 : l2.length ≤ l.length + 1 := by rw [hl2]; simp
    rw [← hl2] at st
    have c0 := st.cells 0 _ rfl
    have HND := hideE (needs_c i.op h1 h18 w2 ((unhideE HG).ws hb1 st.ws))
    have ST := hideE st
    have HL2 := hideE hl2
    clear st hl2 hsp
    go_wp2_with fail
    refine (unhideE HND).mono ?_
    rintro e wx ⟨rfl, hwx⟩
    subst wx
    rw [hneed]
    clear HND
    go_wp2_with fail
    refine (has_c 8 1 _).mono ?_
    rintro e wx ⟨rfl, hwx⟩
    subst wx
    rw [show (bits .and .u8 8 1 != 0) = false by decide]
    go_wp2_with fail
    refine (has_c 8 2 _).mono ?_
    rintro e wx ⟨rfl, hwx⟩
    subst wx
    rw [show (bits .and .u8 8 2 != 0) = false by decide]
    go_wp2_with fail
    refine (has_c 8 4 _).mono ?_
    rintro e wx ⟨rfl, hwx⟩
    subst wx
    rw [show (bits .and .u8 8 4 != 0) = false by decide]
    go_wp2_with fail
    refine (has_c 8 8 _).mono ?_
    rintro e wx ⟨rfl, hwx⟩
    subst wx
    rw [show (bits .and .u8 8 8 != 0) = true by decide]
    have st := unhideE ST
    have c0 := st.cells 0 (.int .i64 i.op) rfl
    have c4 := st.cells 4 (.int .u64 i.n) rfl
    have HM := hideE (operand_c b v1 l2 i.op i.n w2 st.wt (by omega))
    clear st
    go_wp2_with fail
    refine (unhideE HM).mono ?_
    rintro e w3 ⟨hws, hm⟩
    cases hr : encOp i.op i.n with
    | none =>
      rw [hr] at hm
      subst hm
      refine ⟨rfl, (unhideE ST).ws.trans hws, ?_⟩
      have hx := unhideE HF2
      rw [hr] at hx
      have hx2 : encIns i = none := hx.trans rfl
      rw [hx2]
    | some bs3 =>
      rw [hr] at hm
      obtain ⟨rfl, v3, hw⟩ := hm
      have hbs : bs3.length ≤ 8 := encOp_len hr
      have st := (unhideE ST).step hbl hws hw
      have HR3 := hideE hr
      obtain ⟨l3, hlk⟩ : ∃ x, x = l2 ++ bs3 := ⟨_, rfl⟩
      have hn3 : l3.length ≤ l2.length + 8 := by rw [hlk]; simp; omega
      rw [← hlk] at st
      have HL3 := hideE hlk
      clear hws hw hr hlk hbs ST HM c0 c4
      have ST := hideE st
      clear st
      go_wp2_with fail
      refine (has_c 8 16 _).mono ?_
      rintro e wx ⟨rfl, hwx⟩
      subst wx
      rw [show (bits .and .u8 8 16 != 0) = false by decide]
      go_wp2_with fail
      refine (has_c 8 32 _).mono ?_
      rintro e wx ⟨rfl, hwx⟩
      subst wx
      rw [show (bits .and .u8 8 32 != 0) = false by decide]
      go_wp2_with fail
      refine (has_c 8 64 _).mono ?_
      rintro e wx ⟨rfl, hwx⟩
      subst wx
      rw [show (bits .and .u8 8 64 != 0) = false by decide]
      go_wp2
      refine bodyPost_end (results_none (fn := Tryd.f79) rfl _ _ _) rfl ?_
      refine ⟨(unhideE ST).ws, ?_⟩
      have hx := unhideE HF2
      rw [unhideE HR3] at hx
      have hx2 : encIns i = some ([byteOf i.op] ++ bs3) := hx.trans rfl
      rw [hx2]
      refine ⟨rfl, v3, ?_⟩
      have hw := (unhideE ST).wt
      rw [unhideE HL3, unhideE HL2] at hw
      simpa using hw
end Go.Proofs.YthnmdbddfmgdlaaDoor
