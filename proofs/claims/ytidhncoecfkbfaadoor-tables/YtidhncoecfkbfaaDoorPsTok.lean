/-
  Parses: prologueref.tokens by its contract. Own work of the verifier.
-/
import Derived.Test.YtidhncoecfkbfaaDoorPsCut2
import Derived.Test.YtidhncoecfkbfaaDoorPsScal
import Derived.Laws.Strings2
namespace Go.Proofs.YtidhncoecfkbfaaDoor
open Go.RowKit

theorem Tryd.infoTok : (Tryd.prog.info? 87).map (fun i => (i.zero, i.size, i.bytes)) = some (some (.agg #[.int .u8 0, .string ByteArray.empty, .int .i64 0]), 3, 32) := by kernel_rfl
/-- The letter of a kind. -/
def kb (k : Nat) : Nat := if k = 3 then 119 else if k = 4 then 110 else if k = 5 then 45 else 59
def toCells (s : ByteArray) (l : List Tk) : List Value := l.flatMap fun t => [.int .u8 (kb t.k), .string (s.extract t.a t.e), .int .i64 t.a]
theorem toCells_snoc (s : ByteArray) (l : List Tk) (t : Tk) : toCells s (l ++ [t]) = toCells s l ++ [.int .u8 (kb t.k), .string (s.extract t.a t.e), .int .i64 t.a] := by simp [toCells]
theorem toCells_len (s : ByteArray) : ∀ (l : List Tk), (toCells s l).length = l.length * 3
  | [] => rfl
  | t :: r => by have := toCells_len s r; simp only [toCells, List.flatMap_cons, List.length_append, List.length_cons, List.length_nil] at this ⊢; omega
def OwnT (s : ByteArray) (w : World) (base : Nat) (v : Value) (l : List Tk) : Prop := w.ownsRow base 87 3 v l.length (toCells s l)
theorem ownT_app {s : ByteArray} {w : World} {base : Nat} {v : Value} {l : List Tk} {k a e n : Nat} (hn : l.length = n) (h : w.ownsRow base 87 3 v (n + 1) (toCells s l ++ [.int .u8 (kb k), .string (s.extract a e), .int .i64 a])) : OwnT s w base v (l ++ [⟨k, a, e⟩]) := by
  unfold OwnT
  rw [toCells_snoc]
  simpa [hn] using h
theorem newT (w : World) (k : Int) (t : ByteArray) (p : Int) : ∀ j u, ([.int .u8 k, .string t, .int .i64 p] : List Value)[j]? = some u → (w.alloc (.cells #[.int .u8 k, .string t, .int .i64 p] 87)).cell? ((⟨w.heap.size, 0, none⟩ : Addr).add j) = some u := by
  intro j u hj
  match j, hj with
  | 0, hj => simp at hj; subst hj; simp [Addr.add]
  | 1, hj => simp at hj; subst hj; simp [Addr.add]
  | 2, hj => simp at hj; subst hj; simp [Addr.add]
theorem dec_fit (s : ByteArray) (p : Nat) (hp : p < s.size) : p + (Utf8.decode s p).2 ≤ s.size := by
  rw [Lib.decode_at]
  unfold Lib.decodeN
  repeat' split
  all_goals first | omega | (simp; omega)
theorem scal_fit (s : ByteArray) (p : Nat) (hp : p < s.size) : p + scalAt s p ≤ s.size := by
  rw [scalAt_eq]
  split
  · omega
  · exact dec_fit s p hp
/-- The last piece does not go on at pos. -/
def Shut (s : ByteArray) (l : List Tk) (pos : Nat) : Prop := ∀ t, l.getLast? = some t → t.e ≤ pos ∧ (t.e = pos → pos < s.size → (t.k = 3 ∨ t.k = 4) → kindN (s.get! pos).toNat ≠ t.k)
theorem Shut.on {s : ByteArray} {l : List Tk} {pos q : Nat} (h : Shut s l pos) (hq : pos < q) : Shut s l q := fun t ht => ⟨by have := (h t ht).1; omega, fun e => by have := (h t ht).1; omega⟩
theorem Shut.new {s : ByteArray} {l : List Tk} {pos : Nat} (h : Shut s l pos) (hp : pos < s.size) : addR l (kindN (s.get! pos).toNat) pos = l ++ [⟨kindN (s.get! pos).toNat, pos, pos + 1⟩] :=
  addR_new l _ pos (fun t ht h3 hk he => (h t ht).2 he hp (by omega) hk.symm)
theorem kind0 {b : Nat} (k1 : ¬ (b = 32 ∨ b = 9 ∨ b = 10)) (k2 : ¬ b = 35) (k3 : ¬ (b = 59 ∨ b = 45)) (k4 : ¬ (97 ≤ b ∧ b ≤ 122)) (k5 : ¬ (48 ≤ b ∧ b ≤ 57)) : kindN b = 0 := by
  unfold kindN
  repeat' split
  all_goals omega
theorem kind3 {b : Nat} (k : 97 ≤ b ∧ b ≤ 122) : kindN b = 3 := by
  unfold kindN
  repeat' split
  all_goals omega
theorem kind4 {b : Nat} (k : 48 ≤ b ∧ b ≤ 57) : kindN b = 4 := by
  unfold kindN
  repeat' split
  all_goals omega
theorem neqB {b : UInt8} {n : Nat} (h : ¬ b.toNat = n) : ((b.toNat : Int) == (n : Int)) = false := by
  rw [beq_eq_false_iff_ne]; omega
theorem slice_run (s : ByteArray) (i j : Nat) (h1 : i ≤ j) (h2 : j ≤ s.size) (w : World) : (Instr.slice 9 (.string s) (some (.int .i64 (i : Int))) (some (.int .i64 (j : Int))) none).run Tryd.prog w = .ok (.string (s.extract i j)) w := by
  have := run_slice_string (P := Tryd.prog) (w := w) 9 s .i64 .i64 i j Tryd.underlying9 (by omega) (by omega) (by omega)
  simpa using this
theorem slice_run1 (s : ByteArray) (i : Nat) (h2 : i + 1 ≤ s.size) (w : World) : (Instr.slice 9 (.string s) (some (.int .i64 (i : Int))) (some (.int .i64 ((i : Int) + 1))) none).run Tryd.prog w = .ok (.string (s.extract i (i + 1))) w := by
  have := slice_run s i (i + 1) (by omega) h2 w
  simpa using this
theorem shut_new {s : ByteArray} {l : List Tk} {k a p : Nat} (h : k = 0 ∨ k = 5 ∨ k = 6) : Shut s (l ++ [⟨k, a, p⟩]) p := fun t ht => by
  simp at ht
  subst ht
  exact ⟨Nat.le_refl _, fun _ _ h' => by simp at h'; omega⟩
theorem shut_at {s : ByteArray} {l : List Tk} {k a p : Nat} (h : p < s.size → ¬ kindN (s.get! p).toNat = k) : Shut s (l ++ [⟨k, a, p⟩]) p := fun t ht => by
  simp at ht
  subst ht
  exact ⟨Nat.le_refl _, fun _ hp _ => h hp⟩
theorem of_kind3 {b : Nat} (h : kindN b = 3) : 97 ≤ b ∧ b ≤ 122 := by
  unfold kindN at h
  repeat' split at h
  all_goals omega
theorem of_kind4 {b : Nat} (h : kindN b = 4) : 48 ≤ b ∧ b ≤ 57 := by
  unfold kindN at h
  repeat' split at h
  all_goals omega
structure TokI (s : ByteArray) (w wr : World) (v : Value) (pos f : Nat) (l : List Tk) : Prop where
  own : OwnT s wr w.heap.size v l
  low : Below w.heap.size w wr
  eq : cutF s f pos false l = cutF s s.size 0 false []
  fuel : s.size ≤ pos + f
  len : l.length ≤ pos
  fit : pos ≤ s.size
  shut : Shut s l pos
def TokP (s : ByteArray) (w : World) (e : Ending) (w' : World) : Prop :=
  ∃ v r, e = .returned (.tuple #[v, .int .i64 r]) ∧ Below w.heap.size w w' ∧ (match cutF s s.size 0 false [] with | .inl p => r = p | .inr l => r = -1 ∧ l.length ≤ 400 ∧ w'.ownsRow w.heap.size 87 3 v (l.length + 1) (toCells s l ++ [.int .u8 0, .string ByteArray.empty, .int .i64 s.size]))
set_option maxHeartbeats 8000000 in
set_option maxRecDepth 100000 in
theorem tokens_c (s : ByteArray) (w : World) (hs : s.size ≤ 400) : Calls Tryd.prog 31 #[.string s] w (TokP s w) := by
  obtain ⟨i0, hi, hz0, hz1, hz2⟩ := info_partsP Tryd.infoTok
  go_enter Tryd.func31, Tryd.ntmps31
  go_wp2_with fail
  go_loopw [4, 5] (fun v i wr => ∃ (pos f : Nat) (l : List Tk), i = .int .i64 pos ∧ TokI s w wr v pos f l) (fun _ i _ => s.size - (intOf i).toNat)
  case atStart => exact ⟨0, s.size, [], rfl, ⟨World.ownsRow_nil _ _ _ _, Below.refl _ _, rfl, by omega, by simp, by omega, fun t ht => by simp at ht⟩⟩
  case round =>
    obtain ⟨pos, f, l, rfl, hI⟩ := hrel
    have hl := hI.len
    have hfit0 := hI.fit
    have hsz := hI.low.size
    have HI := hideQ hI
    by_cases hp : pos < s.size
    · obtain ⟨f, rfl⟩ : ∃ f', f = f' + 1 := ⟨f - 1, by have := hI.fuel; omega⟩
      clear hI
      have hx0 : s[pos]'hp = s.get! pos := (Utf8W.get!_of_lt s pos hp).symm
      have hk6 := kindN_le (s.get! pos).toNat
      have E0 := fun h => (cutF_wrong s f pos l hp h).symm.trans (unhideQ HI).eq
      have E1 := fun h => (cutF_space s f pos l hp h).symm.trans (unhideQ HI).eq
      have E2 := fun h => (cutF_comment s f pos l hp h).symm.trans (unhideQ HI).eq
      have E3 := fun h => (cutF_piece s f pos l hp h).symm.trans (unhideQ HI).eq
      rw [(unhideQ HI).shut.new hp] at E3
      generalize hb0 : s.get! pos = b0 at *
      by_cases k1 : b0.toNat = 32 ∨ b0.toNat = 9 ∨ b0.toNat = 10
      · have E := E1 (by simp [kindN, k1])
        clear E0 E1 E2 E3
        rcases k1 with k1 | k1 | k1
        all_goals
          go_wp2
          go_roundw
          case rel => exact ⟨pos + 1, f, l, by go_num, ⟨(unhideQ HI).own, (unhideQ HI).low, E, by have := (unhideQ HI).fuel; omega, by omega, by omega, (unhideQ HI).shut.on (by omega)⟩⟩
          case measure => simp [intOf]; omega
      have n32 : ¬ b0.toNat = 32 := fun e => k1 (Or.inl e)
      have n9 : ¬ b0.toNat = 9 := fun e => k1 (Or.inr (Or.inl e))
      have n10 : ¬ b0.toNat = 10 := fun e => k1 (Or.inr (Or.inr e))
      have z32 : ((b0.toNat : Int) == 32) = false := neqB n32
      have z9 : ((b0.toNat : Int) == 9) = false := neqB n9
      have z10 : ((b0.toNat : Int) == 10) = false := neqB n10
      by_cases k2 : b0.toNat = 35
      · skip
        have E := E2 (by rw [k2]; decide)
        clear E0 E1 E2 E3
        go_wp2_with fail
        go_loopw [5] (fun i w2 => ∃ (q f' : Nat), i = .int .i64 q ∧ w2 = wr ∧ q ≤ s.size ∧ s.size ≤ q + f' ∧ (q = pos ∨ (pos < q ∧ cutF s f' q true l = cutF s s.size 0 false []))) (fun i _ => s.size - (intOf i).toNat)
        case atStart => exact ⟨pos, f + 1, rfl, rfl, by omega, (unhideQ HI).fuel, Or.inl rfl⟩
        case round =>
          obtain ⟨q, f', rfl, rfl, hq1, hq2, hq3⟩ := hrel
          by_cases hq : q < s.size
          · have hxq : s[q]'hq = s.get! q := (Utf8W.get!_of_lt s q hq).symm
            obtain ⟨f', rfl⟩ : ∃ f2, f' = f2 + 1 := ⟨f' - 1, by omega⟩
            by_cases e10 : (s.get! q).toNat = 10
            · have hne : q ≠ pos := fun e => by rw [e, hb0] at e10; omega
              have hE := (cutF_line s f' q l hq e10).symm.trans (hq3.resolve_left hne).2
              have hlt := (hq3.resolve_left hne).1
              have HE := hideQ hE
              clear hE hq3
              generalize hbq : s.get! q = b at *
              go_wp2
              go_roundw
              case rel => exact ⟨q, f' + 1, l, rfl, ⟨(unhideQ HI).own, (unhideQ HI).low, unhideQ HE, hq2, by omega, hq1, (unhideQ HI).shut.on hlt⟩⟩
              case measure => simp [intOf]; omega
            · have HS := hideQ (scalar_c s q wr hq hs)
              have hfit := scal_fit s q hq
              have hnext : scalAt s q ≠ 0 → q < q + scalAt s q ∧ cutF s (if q = pos then f else f') (q + scalAt s q) true l = cutF s s.size 0 false [] := fun h0 => by
                refine ⟨by omega, ?_⟩
                by_cases hqp : q = pos
                · subst hqp
                  have h1 : scalAt s q = 1 := by simp [scalAt, scalN, hb0, k2]
                  rw [if_pos rfl, h1]; exact E
                · rw [if_neg hqp]
                  exact (cutF_on s f' q l hq h0 e10).symm.trans (hq3.resolve_left hqp).2
              have hstop : scalAt s q = 0 → (Sum.inl q : Nat ⊕ List Tk) = cutF s s.size 0 false [] := fun h0 => by
                by_cases hqp : q = pos
                · subst hqp
                  have h1 : scalAt s q = 1 := by simp [scalAt, scalN, hb0, k2]
                  omega
                · exact (cutF_broken s f' q l hq h0).symm.trans (hq3.resolve_left hqp).2
              have hf2 : s.size ≤ q + 1 + (if q = pos then f else f') := by
                have := (unhideQ HI).fuel
                split <;> omega
              have hge : pos ≤ q := by rcases hq3 with h | h <;> omega
              have HN := hideQ hnext
              have HST := hideQ hstop
              clear hnext hstop hq3
              generalize hbq : s.get! q = b at *
              have zb : ((b.toNat : Int) == 10) = false := neqB e10
              have zb' : ((b.toNat : Int) != 10) = true := by simp [bne, zb]
              generalize hm : scalAt s q = m at *
              go_wp2_with fail
              refine (unhideQ HS).mono ?_
              rintro e w2 ⟨rfl, hw2⟩
              subst w2
              by_cases hm0 : m = 0
              · subst hm0
                have hE := unhideQ HST rfl
                go_wp2
                go_ret2
                exact ⟨_, _, rfl, (unhideQ HI).low, by rw [← hE]⟩
              · have zm : ((m : Int) == 0) = false := by rw [beq_eq_false_iff_ne]; omega
                go_wp2
                go_roundw
                case rel => exact ⟨q + m, _, by go_num, by trivial, hfit, by omega, Or.inr ⟨by omega, (unhideQ HN hm0).2⟩⟩
                case measure => simp [intOf]; omega
          · have hne : q ≠ pos := by omega
            have hE := (cutF_end s f' q true l hq).symm.trans (hq3.resolve_left hne).2
            have hlt := (hq3.resolve_left hne).1
            have HE := hideQ hE
            clear hE hq3
            go_wp2
            go_roundw
            case rel => exact ⟨q, f', l, rfl, ⟨(unhideQ HI).own, (unhideQ HI).low, (cutF_end s f' q false l hq).trans (unhideQ HE), hq2, by omega, hq1, (unhideQ HI).shut.on hlt⟩⟩
            case measure => simp [intOf]; omega
      have z35 : ((b0.toNat : Int) == 35) = false := neqB k2
      by_cases k3 : b0.toNat = 59 ∨ b0.toNat = 45
      · have E := E3 (by rcases k3 with k3 | k3 <;> rw [k3] <;> decide)
        have hsl := slice_run1 s pos hp
        clear E0 E1 E2 E3
        rcases k3 with k3 | k3
        all_goals
          rw [k3] at E
          go_wp2_with (at_builtin; refine wpList_append_own _ rfl _ _ 77 rfl w.heap.size 87 i0 _ 3 32 Tryd.underlying77 hi hz0 hz1 hz2 rfl (by decide) _ _ _ rfl ((unhideQ HI).own.alloc _) ⟨wr.heap.size, 0, none⟩ 1 1 _ rfl rfl (newT wr _ _ _) (by intro u hu; simp at hu; rcases hu with rfl | rfl | rfl <;> rfl) ?c3 ?c4 ?c5 ?_)
          case c3 => unfold maxLen; omega
          case c4 => omega
          case c5 => simp; omega
          intro v' w' hown hgr _
          have HG := hideQ ((unhideQ HI).low.trans (((Below.refl w.heap.size wr).alloc hsz _).trans (below_of_grown hgr (fun j hj => ((unhideQ HI).own.lt j hj).1) (by simp; omega) : Below w.heap.size _ w')))
          have HR := hideQ hown
          clear hown hgr
          go_wp2
          go_roundw
          case rel =>
            first
              | exact ⟨pos + 1, f, l ++ [⟨6, pos, pos + 1⟩], by go_num, ⟨ownT_app rfl (unhideQ HR), unhideQ HG, E, by have := (unhideQ HI).fuel; omega, by simp; omega, by omega, shut_new (Or.inr (Or.inr rfl))⟩⟩
              | exact ⟨pos + 1, f, l ++ [⟨5, pos, pos + 1⟩], by go_num, ⟨ownT_app rfl (unhideQ HR), unhideQ HG, E, by have := (unhideQ HI).fuel; omega, by simp; omega, by omega, shut_new (Or.inr (Or.inl rfl))⟩⟩
          case measure => simp [intOf]; omega
      have n59 : ¬ b0.toNat = 59 := fun e => k3 (Or.inl e)
      have n45 : ¬ b0.toNat = 45 := fun e => k3 (Or.inr e)
      have z59 : ((b0.toNat : Int) == 59) = false := neqB n59
      have z45 : ((b0.toNat : Int) == 45) = false := neqB n45
      by_cases k4 : 97 ≤ b0.toNat ∧ b0.toNat ≤ 122
      · skip
        have hk : kindN b0.toNat = 3 := kind3 k4
        have E := E3 (by omega)
        rw [hk] at E
        clear E0 E1 E2 E3
        have rs : decide (97 ≤ b0.toNat ∧ b0.toNat ≤ 122) = true := by simp; omega
        have rd : decide (48 ≤ b0.toNat ∧ b0.toNat ≤ 57) = false := by simp; omega
        go_wp2_with fail
        refine (small_c b0.toNat _ b0.toNat_lt).mono ?_
        rintro e w2 ⟨rfl, hw2⟩
        subst w2
        rw [rs]
        go_wp2_with fail
        go_loopw [8] (fun j w2 => ∃ (q f' : Nat), j = .int .i64 q ∧ w2 = wr ∧ pos ≤ q ∧ q ≤ s.size ∧ s.size ≤ q + f' ∧ ((q = pos ∧ f' = f + 1) ∨ (pos < q ∧ cutF s f' q false (l ++ [⟨3, pos, q⟩]) = cutF s s.size 0 false []))) (fun j _ => s.size - (intOf j).toNat)
        case atStart => exact ⟨pos, f + 1, rfl, rfl, by omega, by omega, (unhideQ HI).fuel, Or.inl ⟨rfl, rfl⟩⟩
        case round =>
          obtain ⟨q, f', rfl, rfl, hq0, hq1, hq2, hq3⟩ := hrel
          by_cases hq : q < s.size
          · have hxq : s[q]'hq = s.get! q := (Utf8W.get!_of_lt s q hq).symm
            by_cases hsame : kindN (s.get! q).toNat = 3
            · have hE : ∃ f2, s.size ≤ q + 1 + f2 ∧ cutF s f2 (q + 1) false (l ++ [⟨3, pos, q + 1⟩]) = cutF s s.size 0 false [] := by
                rcases hq3 with ⟨e1, e2⟩ | ⟨e1, e2⟩
                · subst e1; exact ⟨f, by omega, E⟩
                · obtain ⟨f', rfl⟩ : ∃ f2, f' = f2 + 1 := ⟨f' - 1, by omega⟩
                  refine ⟨f', by omega, ?_⟩
                  have h := (cutF_piece s f' q (l ++ [⟨3, pos, q⟩]) hq (by omega)).symm.trans e2
                  rw [hsame, addR_on l 3 pos q (by decide)] at h
                  exact h
              obtain ⟨f2, hf2, hE⟩ := hE
              clear hq3
              have HE := hideQ hE
              clear hE
              generalize hbq : s.get! q = b at *
              have qs : decide (97 ≤ b.toNat ∧ b.toNat ≤ 122) = true := by have := of_kind3 hsame; simp; omega
              have qd : decide (48 ≤ b.toNat ∧ b.toNat ≤ 57) = false := by have := of_kind3 hsame; simp; omega
              go_wp2_with fail
              refine (small_c b.toNat _ b.toNat_lt).mono ?_
              rintro e w2 ⟨rfl, hw2⟩
              subst w2
              rw [qs]
              go_wp2_with fail
              refine (small_c b0.toNat _ b0.toNat_lt).mono ?_
              rintro e w2 ⟨rfl, hw2⟩
              subst w2
              rw [rs]
              go_wp2_with fail
              refine (digit_c b.toNat _ b.toNat_lt).mono ?_
              rintro e w2 ⟨rfl, hw2⟩
              subst w2
              rw [qd]
              go_wp2_with fail
              refine (digit_c b0.toNat _ b0.toNat_lt).mono ?_
              rintro e w2 ⟨rfl, hw2⟩
              subst w2
              rw [rd]
              go_wp2
              go_roundw
              case rel => exact ⟨q + 1, f2, by go_num, by trivial, by omega, by omega, hf2, Or.inr ⟨by omega, unhideQ HE⟩⟩
              case measure => simp [intOf]; omega
            · have hne : q ≠ pos := fun e => hsame (by rw [e, hb0]; exact hk)
              have hE := (hq3.resolve_left (fun h => hne h.1)).2
              have hS : Shut s (l ++ [⟨3, pos, q⟩]) q := shut_at (fun _ => hsame)
              clear hq3
              have hsl := slice_run s pos q hq0 hq1
              generalize hbq : s.get! q = b at *
              have qs : decide (97 ≤ b.toNat ∧ b.toNat ≤ 122) = false := by rw [decide_eq_false_iff_not]; exact fun h => hsame (kind3 h)
              go_wp2_with fail
              refine (small_c b.toNat _ b.toNat_lt).mono ?_
              rintro e w2 ⟨rfl, hw2⟩
              subst w2
              rw [qs]
              go_wp2_with fail
              refine (small_c b0.toNat _ b0.toNat_lt).mono ?_
              rintro e w2 ⟨rfl, hw2⟩
              subst w2
              rw [rs]
              go_wp2_with fail
              refine (small_c b0.toNat _ b0.toNat_lt).mono ?_
              rintro e w2 ⟨rfl, hw2⟩
              subst w2
              rw [rs]
              go_wp2_with (at_builtin; refine wpList_append_own _ rfl _ _ 77 rfl w.heap.size 87 i0 _ 3 32 Tryd.underlying77 hi hz0 hz1 hz2 rfl (by decide) _ _ _ rfl ((unhideQ HI).own.alloc _) ⟨wr.heap.size, 0, none⟩ 1 1 _ rfl rfl (newT wr _ _ _) (by intro u hu; simp at hu; rcases hu with rfl | rfl | rfl <;> rfl) ?c3 ?c4 ?c5 ?_)
              case c3 => unfold maxLen; omega
              case c4 => omega
              case c5 => simp; omega
              intro v' w' hown hgr _
              have HG := hideQ ((unhideQ HI).low.trans (((Below.refl w.heap.size wr).alloc hsz _).trans (below_of_grown hgr (fun j hj => ((unhideQ HI).own.lt j hj).1) (by simp; omega) : Below w.heap.size _ w')))
              have HR := hideQ hown
              clear hown hgr
              go_wp2
              go_roundw
              case rel => exact ⟨q, f', l ++ [⟨3, pos, q⟩], rfl, ⟨ownT_app rfl (unhideQ HR), unhideQ HG, hE, hq2, by simp; omega, hq1, hS⟩⟩
              case measure => simp [intOf]; omega
          · have hne : q ≠ pos := by omega
            have hE := (hq3.resolve_left (fun h => hne h.1)).2
            have hS : Shut s (l ++ [⟨3, pos, q⟩]) q := shut_at (fun h => absurd h hq)
            clear hq3
            have hsl := slice_run s pos q hq0 hq1
            go_wp2_with fail
            refine (small_c b0.toNat _ b0.toNat_lt).mono ?_
            rintro e w2 ⟨rfl, hw2⟩
            subst w2
            rw [rs]
            go_wp2_with (at_builtin; refine wpList_append_own _ rfl _ _ 77 rfl w.heap.size 87 i0 _ 3 32 Tryd.underlying77 hi hz0 hz1 hz2 rfl (by decide) _ _ _ rfl ((unhideQ HI).own.alloc _) ⟨wr.heap.size, 0, none⟩ 1 1 _ rfl rfl (newT wr _ _ _) (by intro u hu; simp at hu; rcases hu with rfl | rfl | rfl <;> rfl) ?c3 ?c4 ?c5 ?_)
            case c3 => unfold maxLen; omega
            case c4 => omega
            case c5 => simp; omega
            intro v' w' hown hgr _
            have HG := hideQ ((unhideQ HI).low.trans (((Below.refl w.heap.size wr).alloc hsz _).trans (below_of_grown hgr (fun j hj => ((unhideQ HI).own.lt j hj).1) (by simp; omega) : Below w.heap.size _ w')))
            have HR := hideQ hown
            clear hown hgr
            go_wp2
            go_roundw
            case rel => exact ⟨q, f', l ++ [⟨3, pos, q⟩], rfl, ⟨ownT_app rfl (unhideQ HR), unhideQ HG, hE, hq2, by simp; omega, hq1, hS⟩⟩
            case measure => simp [intOf]; omega
      by_cases k5 : 48 ≤ b0.toNat ∧ b0.toNat ≤ 57
      · skip
        have hk : kindN b0.toNat = 4 := kind4 k5
        have E := E3 (by omega)
        rw [hk] at E
        clear E0 E1 E2 E3
        have rs : decide (97 ≤ b0.toNat ∧ b0.toNat ≤ 122) = false := by simp; omega
        have rd : decide (48 ≤ b0.toNat ∧ b0.toNat ≤ 57) = true := by simp; omega
        go_wp2_with fail
        refine (small_c b0.toNat _ b0.toNat_lt).mono ?_
        rintro e w2 ⟨rfl, hw2⟩
        subst w2
        rw [rs]
        go_wp2_with fail
        refine (digit_c b0.toNat _ b0.toNat_lt).mono ?_
        rintro e w2 ⟨rfl, hw2⟩
        subst w2
        rw [rd]
        go_wp2_with fail
        go_loopw [8] (fun j w2 => ∃ (q f' : Nat), j = .int .i64 q ∧ w2 = wr ∧ pos ≤ q ∧ q ≤ s.size ∧ s.size ≤ q + f' ∧ ((q = pos ∧ f' = f + 1) ∨ (pos < q ∧ cutF s f' q false (l ++ [⟨4, pos, q⟩]) = cutF s s.size 0 false []))) (fun j _ => s.size - (intOf j).toNat)
        case atStart => exact ⟨pos, f + 1, rfl, rfl, by omega, by omega, (unhideQ HI).fuel, Or.inl ⟨rfl, rfl⟩⟩
        case round =>
          obtain ⟨q, f', rfl, rfl, hq0, hq1, hq2, hq3⟩ := hrel
          by_cases hq : q < s.size
          · have hxq : s[q]'hq = s.get! q := (Utf8W.get!_of_lt s q hq).symm
            by_cases hsame : kindN (s.get! q).toNat = 4
            · have hE : ∃ f2, s.size ≤ q + 1 + f2 ∧ cutF s f2 (q + 1) false (l ++ [⟨4, pos, q + 1⟩]) = cutF s s.size 0 false [] := by
                rcases hq3 with ⟨e1, e2⟩ | ⟨e1, e2⟩
                · subst e1; exact ⟨f, by omega, E⟩
                · obtain ⟨f', rfl⟩ : ∃ f2, f' = f2 + 1 := ⟨f' - 1, by omega⟩
                  refine ⟨f', by omega, ?_⟩
                  have h := (cutF_piece s f' q (l ++ [⟨4, pos, q⟩]) hq (by omega)).symm.trans e2
                  rw [hsame, addR_on l 4 pos q (by decide)] at h
                  exact h
              obtain ⟨f2, hf2, hE⟩ := hE
              clear hq3
              have HE := hideQ hE
              clear hE
              generalize hbq : s.get! q = b at *
              have qs : decide (97 ≤ b.toNat ∧ b.toNat ≤ 122) = false := by have := of_kind4 hsame; simp; omega
              have qd : decide (48 ≤ b.toNat ∧ b.toNat ≤ 57) = true := by have := of_kind4 hsame; simp; omega
              go_wp2_with fail
              refine (small_c b.toNat _ b.toNat_lt).mono ?_
              rintro e w2 ⟨rfl, hw2⟩
              subst w2
              rw [qs]
              go_wp2_with fail
              refine (small_c b0.toNat _ b0.toNat_lt).mono ?_
              rintro e w2 ⟨rfl, hw2⟩
              subst w2
              rw [rs]
              go_wp2_with fail
              refine (digit_c b.toNat _ b.toNat_lt).mono ?_
              rintro e w2 ⟨rfl, hw2⟩
              subst w2
              rw [qd]
              go_wp2_with fail
              refine (digit_c b0.toNat _ b0.toNat_lt).mono ?_
              rintro e w2 ⟨rfl, hw2⟩
              subst w2
              rw [rd]
              go_wp2
              go_roundw
              case rel => exact ⟨q + 1, f2, by go_num, by trivial, by omega, by omega, hf2, Or.inr ⟨by omega, unhideQ HE⟩⟩
              case measure => simp [intOf]; omega
            · have hne : q ≠ pos := fun e => hsame (by rw [e, hb0]; exact hk)
              have hE := (hq3.resolve_left (fun h => hne h.1)).2
              have hS : Shut s (l ++ [⟨4, pos, q⟩]) q := shut_at (fun _ => hsame)
              clear hq3
              have hsl := slice_run s pos q hq0 hq1
              generalize hbq : s.get! q = b at *
              have qd : decide (48 ≤ b.toNat ∧ b.toNat ≤ 57) = false := by rw [decide_eq_false_iff_not]; exact fun h => hsame (kind4 h)
              by_cases hw : 97 ≤ b.toNat ∧ b.toNat ≤ 122
              · have qs : decide (97 ≤ b.toNat ∧ b.toNat ≤ 122) = true := by simp; omega
                go_wp2_with fail
                refine (small_c b.toNat _ b.toNat_lt).mono ?_
                rintro e w2 ⟨rfl, hw2⟩
                subst w2
                rw [qs]
                go_wp2_with fail
                refine (small_c b0.toNat _ b0.toNat_lt).mono ?_
                rintro e w2 ⟨rfl, hw2⟩
                subst w2
                rw [rs]
                go_wp2_with fail
                refine (small_c b0.toNat _ b0.toNat_lt).mono ?_
                rintro e w2 ⟨rfl, hw2⟩
                subst w2
                rw [rs]
                go_wp2_with (at_builtin; refine wpList_append_own _ rfl _ _ 77 rfl w.heap.size 87 i0 _ 3 32 Tryd.underlying77 hi hz0 hz1 hz2 rfl (by decide) _ _ _ rfl ((unhideQ HI).own.alloc _) ⟨wr.heap.size, 0, none⟩ 1 1 _ rfl rfl (newT wr _ _ _) (by intro u hu; simp at hu; rcases hu with rfl | rfl | rfl <;> rfl) ?c3 ?c4 ?c5 ?_)
                case c3 => unfold maxLen; omega
                case c4 => omega
                case c5 => simp; omega
                intro v' w' hown hgr _
                have HG := hideQ ((unhideQ HI).low.trans (((Below.refl w.heap.size wr).alloc hsz _).trans (below_of_grown hgr (fun j hj => ((unhideQ HI).own.lt j hj).1) (by simp; omega) : Below w.heap.size _ w')))
                have HR := hideQ hown
                clear hown hgr
                go_wp2
                go_roundw
                case rel => exact ⟨q, f', l ++ [⟨4, pos, q⟩], rfl, ⟨ownT_app rfl (unhideQ HR), unhideQ HG, hE, hq2, by simp; omega, hq1, hS⟩⟩
                case measure => simp [intOf]; omega
              · have qs : decide (97 ≤ b.toNat ∧ b.toNat ≤ 122) = false := by rw [decide_eq_false_iff_not]; exact hw
                go_wp2_with fail
                refine (small_c b.toNat _ b.toNat_lt).mono ?_
                rintro e w2 ⟨rfl, hw2⟩
                subst w2
                rw [qs]
                go_wp2_with fail
                refine (small_c b0.toNat _ b0.toNat_lt).mono ?_
                rintro e w2 ⟨rfl, hw2⟩
                subst w2
                rw [rs]
                go_wp2_with fail
                refine (digit_c b.toNat _ b.toNat_lt).mono ?_
                rintro e w2 ⟨rfl, hw2⟩
                subst w2
                rw [qd]
                go_wp2_with fail
                refine (digit_c b0.toNat _ b0.toNat_lt).mono ?_
                rintro e w2 ⟨rfl, hw2⟩
                subst w2
                rw [rd]
                go_wp2_with fail
                refine (small_c b0.toNat _ b0.toNat_lt).mono ?_
                rintro e w2 ⟨rfl, hw2⟩
                subst w2
                rw [rs]
                go_wp2_with (at_builtin; refine wpList_append_own _ rfl _ _ 77 rfl w.heap.size 87 i0 _ 3 32 Tryd.underlying77 hi hz0 hz1 hz2 rfl (by decide) _ _ _ rfl ((unhideQ HI).own.alloc _) ⟨wr.heap.size, 0, none⟩ 1 1 _ rfl rfl (newT wr _ _ _) (by intro u hu; simp at hu; rcases hu with rfl | rfl | rfl <;> rfl) ?c3 ?c4 ?c5 ?_)
                case c3 => unfold maxLen; omega
                case c4 => omega
                case c5 => simp; omega
                intro v' w' hown hgr _
                have HG := hideQ ((unhideQ HI).low.trans (((Below.refl w.heap.size wr).alloc hsz _).trans (below_of_grown hgr (fun j hj => ((unhideQ HI).own.lt j hj).1) (by simp; omega) : Below w.heap.size _ w')))
                have HR := hideQ hown
                clear hown hgr
                go_wp2
                go_roundw
                case rel => exact ⟨q, f', l ++ [⟨4, pos, q⟩], rfl, ⟨ownT_app rfl (unhideQ HR), unhideQ HG, hE, hq2, by simp; omega, hq1, hS⟩⟩
                case measure => simp [intOf]; omega
          · have hne : q ≠ pos := by omega
            have hE := (hq3.resolve_left (fun h => hne h.1)).2
            have hS : Shut s (l ++ [⟨4, pos, q⟩]) q := shut_at (fun h => absurd h hq)
            clear hq3
            have hsl := slice_run s pos q hq0 hq1
            go_wp2_with fail
            refine (small_c b0.toNat _ b0.toNat_lt).mono ?_
            rintro e w2 ⟨rfl, hw2⟩
            subst w2
            rw [rs]
            go_wp2_with (at_builtin; refine wpList_append_own _ rfl _ _ 77 rfl w.heap.size 87 i0 _ 3 32 Tryd.underlying77 hi hz0 hz1 hz2 rfl (by decide) _ _ _ rfl ((unhideQ HI).own.alloc _) ⟨wr.heap.size, 0, none⟩ 1 1 _ rfl rfl (newT wr _ _ _) (by intro u hu; simp at hu; rcases hu with rfl | rfl | rfl <;> rfl) ?c3 ?c4 ?c5 ?_)
            case c3 => unfold maxLen; omega
            case c4 => omega
            case c5 => simp; omega
            intro v' w' hown hgr _
            have HG := hideQ ((unhideQ HI).low.trans (((Below.refl w.heap.size wr).alloc hsz _).trans (below_of_grown hgr (fun j hj => ((unhideQ HI).own.lt j hj).1) (by simp; omega) : Below w.heap.size _ w')))
            have HR := hideQ hown
            clear hown hgr
            go_wp2
            go_roundw
            case rel => exact ⟨q, f', l ++ [⟨4, pos, q⟩], rfl, ⟨ownT_app rfl (unhideQ HR), unhideQ HG, hE, hq2, by simp; omega, hq1, hS⟩⟩
            case measure => simp [intOf]; omega
      have E := E0 (kind0 k1 k2 k3 k4 k5)
      clear E0 E1 E2 E3
      go_wp2_with fail
      refine (small_c b0.toNat _ b0.toNat_lt).mono ?_
      rintro e w1 ⟨rfl, rfl⟩
      simp only [k4, decide_false]
      go_wp2_with fail
      refine (digit_c b0.toNat _ b0.toNat_lt).mono ?_
      rintro e w1 ⟨rfl, rfl⟩
      simp only [k5, decide_false]
      go_wp2
      go_ret2
      exact ⟨_, _, rfl, (unhideQ HI).low, by rw [← E]⟩
    · clear hI
      go_wp2_with (at_builtin; refine wpList_append_own _ rfl _ _ 77 rfl w.heap.size 87 i0 _ 3 32 Tryd.underlying77 hi hz0 hz1 hz2 rfl (by decide) _ _ _ rfl ((unhideQ HI).own.alloc _) ⟨wr.heap.size, 0, none⟩ 1 1 _ rfl rfl (newT wr _ _ _) (by intro u hu; simp at hu; rcases hu with rfl | rfl | rfl <;> rfl) ?c3 ?c4 ?c5 ?_)
      case c3 => unfold maxLen; omega
      case c4 => omega
      case c5 => simp; omega
      intro v' w' hown hgr _
      have HG := hideQ ((unhideQ HI).low.trans (((Below.refl w.heap.size wr).alloc hsz _).trans (below_of_grown hgr (fun j hj => ((unhideQ HI).own.lt j hj).1) (by simp; omega) : Below w.heap.size _ w')))
      have HR := hideQ hown
      clear hown hgr
      go_wp2
      go_ret2
      have h := unhideQ HI
      have e := h.eq
      rw [cutF_end s f pos false l hp] at e
      exact ⟨_, _, rfl, unhideQ HG, by rw [← e]; exact ⟨rfl, by omega, unhideQ HR⟩⟩
end Go.Proofs.YtidhncoecfkbfaaDoor
