/-
  Decodes: loops of prologueref.Decode. Own work of the verifier.
-/
import Derived.Test.YthnmdbddfmgdlaaDoorDecV
namespace Go.Proofs.YthnmdbddfmgdlaaDoor
open Go.RowKit

def decLoop (f : Func) (n : Nat) : Code := (((f.body.map loopsD).getD [])[n]?).getD .skip
/-- Two blocks may have changed, and there may be new ones. -/
structure G2 (b X : Nat) (u u' : World) : Prop where
  os : u'.os = u.os
  tape : u'.tape = u.tape
  output : u'.output = u.output
  size : u.heap.size ≤ u'.heap.size
  block : ∀ k, k < u.heap.size → k ≠ b → k ≠ X → u'.heap[k]? = u.heap[k]?
/-- A list under way: its place is in the row X, the eye at b; u0: where it began. -/
structure EL (u0 u : World) (b X : Nat) (s : ByteArray) (st : Stt) (TX : TypeId) (A : Array Value) : Prop where
  ey : EyS u b s st
  rx : u.heap[X]? = some (.cells A TX (0, 0))
  g : G2 b X u0 u
  h0 : b < u0.heap.size
  hx : X < u0.heap.size
  ne : b ≠ X
section
variable {u0 u u' : World} {b X : Nat} {s : ByteArray} {st st' : Stt} {TX : TypeId} {A : Array Value}
theorem G2.refl (b X : Nat) (u : World) : G2 b X u u := ⟨rfl, rfl, rfl, Nat.le_refl _, fun _ _ _ _ => rfl⟩
theorem G2.tr {a c d : World} (h : G2 b X a c) (k : G2 b X c d) : G2 b X a d := ⟨k.os.trans h.os, k.tape.trans h.tape, k.output.trans h.output, Nat.le_trans h.size k.size, fun i h1 h2 h3 => (k.block i (Nat.lt_of_lt_of_le h1 h.size) h2 h3).trans (h.block i h1 h2 h3)⟩
theorem G2.of_gb (h : u.grownBy u' (some b)) : G2 b X u u' := ⟨h.os, h.tape, h.output, h.size, fun k h1 h2 _ => h.block k h1 (by intro e; injection e with e; exact h2 e)⟩
theorem EL.call (h : EL u0 u b X s st TX A) (he : EyS u' b s st') (hg : u.grownBy u' (some b)) : EL u0 u' b X s st' TX A :=
  have e := h.ne
  ⟨he, (hg.block X (row_lt h.rx) (by intro e; injection e with e; omega)).trans h.rx, h.g.tr (G2.of_gb hg), h.h0, h.hx, h.ne⟩
theorem EL.set (h : EL u0 u b X s st TX A) (j : Nat) (v : Value) : EL u0 (u.setCell ⟨X, j, none⟩ v) b X s st TX (A.setIfInBounds j v) :=
  have e := h.ne
  ⟨h.ey.blk (heap_setCell_other _ _ _ _ (by show b ≠ X; omega)), heap_setCell_same _ _ _ _ _ _ h.rx, h.g.tr ⟨rfl, rfl, rfl, by simp, fun k _ _ h3 => heap_setCell_other _ _ _ _ (by show k ≠ X; exact h3)⟩, h.h0, h.hx, h.ne⟩
theorem EL.drew (h : EL u0 u b X s st TX A) : EL u0 u.drew b X s st TX A := ⟨h.ey.blk rfl, h.rx, h.g.tr ⟨rfl, rfl, rfl, Nat.le_refl _, fun _ _ _ _ => rfl⟩, h.h0, h.hx, h.ne⟩
theorem EL.alloc (h : EL u0 u b X s st TX A) (o : Obj) : EL u0 (u.alloc o) b X s st TX A := h.call (h.ey.alloc o) (gb_alloc _ _ _)
theorem EL.cell (h : EL u0 u b X s st TX A) (j : Nat) (x : Value) (hx : A[j]? = some x) : u.cell? ⟨X, j, none⟩ = some x := (cells_of_row h.rx j).trans hx
theorem EL.fz (h : EL u0 u b X s st TX A) (j : Nat) : u.frozen? ⟨X, j, none⟩ = false := frozen_of_row _ _ _ _ _ h.rx
theorem EL.own (h : EL u0 u b X s st TX A) {v : Value} (hg : u.grownBy u' v.ownBlock) (hv : ∀ g, v.ownBlock = some g → u0.heap.size ≤ g) : EL u0 u' b X s st TX A :=
  have e0 := h.h0
  have e1 := h.hx
  have e2 := h.g.size
  ⟨h.ey.blk (hg.block b (by omega) (fun e => by have := hv b e.symm; omega)), (hg.block X (row_lt h.rx) (fun e => by have := hv X e.symm; omega)).trans h.rx, ⟨hg.os.trans h.g.os, hg.tape.trans h.g.tape, hg.output.trans h.g.output, Nat.le_trans h.g.size hg.size, fun k h1 h2 h3 => (hg.block k (by omega) (fun e => by have := hv k e.symm; omega)).trans (h.g.block k h1 h2 h3)⟩, e0, e1, h.ne⟩
theorem EL.kept (h : EL u0 u b X s st TX A) (hg : u.grownBy u' (some b)) : KeptOn u0.heap.size u u' := KeptOn.of_gb hg h.h0
theorem EL.keptSet (h : EL u0 u b X s st TX A) (j : Nat) (v : Value) : KeptOn u0.heap.size u (u.setCell ⟨X, j, none⟩ v) := fun k h1 _ => heap_setCell_other _ _ _ _ (by show k ≠ X; have := h.hx; omega)
theorem keptAlloc (B : Nat) (u : World) (o : Obj) : KeptOn B u (u.alloc o) := fun k _ h2 => (gb_alloc u o none).block k h2 (by simp)
end
def MonoT {α : Type} (T : TypeId) (R : World → Nat → Array Value → α → Prop) : Prop := ∀ w w' B c x, KeptT B T w w' → R w B c x → R w' B c x
theorem monoT_RP (T : TypeId) : MonoT T RP := fun _ _ _ _ _ _ h => h
theorem monoT_RSig : MonoT 53 RSig := fun _ _ _ _ _ hk h => by
  obtain ⟨lv, h1, h2⟩ := h
  exact ⟨lv, h1, h2.keepT (by decide) hk fun _ _ h => h⟩
theorem monoT_RIns (T : TypeId) (t1 : 82 ≠ T) (t2 : 3 ≠ T) : MonoT T RIns := fun _ _ _ _ _ hk h => by
  obtain ⟨av, ov, h1, h2, h3⟩ := h
  exact ⟨av, ov, h1, h2.keepT t1 hk fun _ _ h => h, h3.keepT t2 hk fun _ _ h => h⟩
theorem monoT_RBlk (T : TypeId) (t0 : 65 ≠ T) (t1 : 82 ≠ T) (t2 : 3 ≠ T) : MonoT T RBlk := fun _ _ _ _ _ hk h => by
  obtain ⟨v, h1, h2⟩ := h
  exact ⟨v, h1, h2.keepT t0 hk fun _ _ h => monoT_RIns T t1 t2 _ _ _ _ _ hk h⟩
theorem monoT_RFunc : MonoT 58 RFunc := fun _ _ _ _ _ hk h => by
  obtain ⟨pv, hv, sv, bv, h1, h2, h3, h4, h5⟩ := h
  exact ⟨pv, hv, sv, bv, h1, h2.keepT (by decide) hk fun _ _ h => h, h3.keepT (by decide) hk fun _ _ h => h, h4.keepT (by decide) hk fun _ _ h => h, h5.keepT (by decide) hk fun _ _ h => monoT_RBlk _ (by decide) (by decide) (by decide) _ _ _ _ _ hk h⟩
/-- What an element's parts come to, together. -/
theorem sig_st (s : ByteArray) (a : Nat) : stOf (sBind (stOf (dList s 0 8 (dNum s 0 8) a)) (dNum s 0 4)) = stOf (dSig s a) := by
  unfold dSig
  cases h1 : dList s 0 8 (dNum s 0 8) a with
  | error q => rfl
  | ok p =>
    obtain ⟨x, a1⟩ := p
    show stOf (dNum s 0 4 a1) = stOf (dBind (dNum s 0 4 a1) _)
    cases h2 : dNum s 0 4 a1 with
    | error q => rfl
    | ok p => rfl
theorem sig_val {s : ByteArray} {a a' : Nat} {x : List Int × Int} (h : dSig s a = .ok (x, a')) : (∃ a1, dList s 0 8 (dNum s 0 8) a = .ok (x.1, a1)) ∧ valOr (sBind (stOf (dList s 0 8 (dNum s 0 8) a)) (dNum s 0 4)) = x.2 := by
  unfold dSig at h
  cases h1 : dList s 0 8 (dNum s 0 8) a with
  | error q => rw [h1] at h; cases h
  | ok p =>
    obtain ⟨y, a1⟩ := p
    rw [h1, dBind_ok] at h
    show (∃ a2, Except.ok (y, a1) = Except.ok (x.1, a2)) ∧ valOr (dNum s 0 4 a1) = x.2
    cases h2 : dNum s 0 4 a1 with
    | error q => rw [h2] at h; cases h
    | ok p =>
      obtain ⟨z, a2⟩ := p
      rw [h2, dBind_ok] at h
      injection h with h
      injection h with h3 h4
      subst h3
      exact ⟨⟨a1, rfl⟩, rfl⟩
theorem Tryd.infoParamD : (Tryd.prog.info? 60).map (fun i => (i.zero, i.size, i.bytes)) = some (some (.agg #[.int .i64 0, .int .i64 0]), 2, 16) := by kernel_rfl
theorem Tryd.infoSigD : (Tryd.prog.info? 53).map (fun i => (i.zero, i.size, i.bytes)) = some (some (.agg #[.slice none 0 0, .int .i64 0]), 2, 32) := by kernel_rfl
set_option maxHeartbeats 8000000 in
set_option maxRecDepth 100000 in
theorem decParams (b X : Nat) (s : ByteArray) (f1 : Int) (f2 f3 f4 : Value) (N a1 : Nat) (u : World) (Q0 : Exit → Act → World → Prop) (s0 s1 s2 s3 s5 s6 s7 s8 s11 s12 s13 s14 s15 s16 s17 s18 s19 s20 s21 s22 s23 s24 s25 s26 s27 s28 s29 s30 s31 s32 s33 s34 s35 s36 s37 s38 s39 s40 s41 s42 s43 s44 s45 s46 s47 s48 s49 s50 s51 s52 s53 s54 s55 s56 s57 s58 s59 s60 s61 s62 s63 s64 s65 s66 s67 s68 s69 s70 s71 s72 s73 s74 s75 s76 s77 s78 s79 s80 s81 s82 s83 s84 s85 s86 s87 s88 s89 s90 s91 s92 s93 s94 s95 s96 s97 s98 s99 s100 s101 s102 s103 s104 s105 s106 s107 s108 s109 s110 s111 s112 s113 s114 s115 s116 s117 s118 s119 s120 s121 s122 s123 s124 s125 s126 s127 s128 s129 s130 s131 s132 s133 s134 s135 s136 s137 s138 s139 s140 s141 s142 s143 s144 s145 s146 s147 s148 s149 s150 s151 s152 s153 s154 s155 s156 s157 s158 s159 s160 s161 s162 s163 s164 s165 s166 s167 s168 s169 s170 s171 s172 s173 : Value) (hN : N ≤ 1000)
    (h : EL u u b X s (.ok a1) 58 #[.slice none 0 0, .int .i64 f1, f2, f3, f4])
    (hexit : ∀ (u10 u11 u66 u67 u68 u69 u70 u71 u72 u73 u74 u75 u76 u77 u78 u79 u80 u81 u82 u83 u84 u85 u86 u87 : Value) (u' : World) (av : Value), EL u u' b X s (stOf (dRep (dPair s) N a1)) 58 #[av, .int .i64 f1, f2, f3, f4] → (∃ p n c, av = .slice p n c) → (∀ xs a, dRep (dPair s) N a1 = .ok (xs, a) → RepL u' u.heap.size 60 2 (RP u' u.heap.size) av xs) → Q0 (.exit 4) ⟨List.toArray (s0 :: s1 :: s2 :: s3 :: .pointer (some ⟨b, 0, none⟩) :: s5 :: s6 :: s7 :: s8 :: .pointer (some ⟨X, 0, none⟩) :: u10 :: u11 :: s12 :: s13 :: s14 :: s15 :: s16 :: s17 :: s18 :: s19 :: s20 :: s21 :: s22 :: s23 :: s24 :: s25 :: s26 :: s27 :: s28 :: s29 :: s30 :: s31 :: s32 :: s33 :: s34 :: s35 :: s36 :: s37 :: s38 :: s39 :: s40 :: s41 :: s42 :: s43 :: s44 :: s45 :: s46 :: s47 :: s48 :: s49 :: s50 :: s51 :: s52 :: s53 :: s54 :: s55 :: s56 :: s57 :: s58 :: s59 :: s60 :: s61 :: s62 :: s63 :: s64 :: s65 :: u66 :: u67 :: u68 :: u69 :: u70 :: u71 :: u72 :: u73 :: u74 :: u75 :: u76 :: u77 :: u78 :: u79 :: u80 :: u81 :: u82 :: u83 :: u84 :: u85 :: u86 :: u87 :: s88 :: s89 :: s90 :: s91 :: s92 :: s93 :: s94 :: s95 :: s96 :: s97 :: s98 :: s99 :: s100 :: s101 :: s102 :: s103 :: s104 :: s105 :: s106 :: s107 :: s108 :: s109 :: s110 :: s111 :: s112 :: s113 :: s114 :: s115 :: s116 :: s117 :: s118 :: s119 :: s120 :: s121 :: s122 :: s123 :: s124 :: s125 :: s126 :: s127 :: s128 :: s129 :: s130 :: s131 :: s132 :: s133 :: s134 :: s135 :: s136 :: s137 :: s138 :: s139 :: s140 :: s141 :: s142 :: s143 :: s144 :: s145 :: s146 :: s147 :: s148 :: s149 :: s150 :: s151 :: s152 :: s153 :: s154 :: s155 :: s156 :: s157 :: s158 :: s159 :: s160 :: s161 :: s162 :: s163 :: s164 :: s165 :: s166 :: s167 :: s168 :: s169 :: s170 :: s171 :: s172 :: s173 :: []), []⟩ u') :
    Code.wp Tryd.prog (decLoop Tryd.f9 2) Q0 ⟨List.toArray (s0 :: s1 :: s2 :: s3 :: .pointer (some ⟨b, 0, none⟩) :: s5 :: s6 :: s7 :: s8 :: .pointer (some ⟨X, 0, none⟩) :: .int .i64 N :: s11 :: s12 :: s13 :: s14 :: s15 :: s16 :: s17 :: s18 :: s19 :: s20 :: s21 :: s22 :: s23 :: s24 :: s25 :: s26 :: s27 :: s28 :: s29 :: s30 :: s31 :: s32 :: s33 :: s34 :: s35 :: s36 :: s37 :: s38 :: s39 :: s40 :: s41 :: s42 :: s43 :: s44 :: s45 :: s46 :: s47 :: s48 :: s49 :: s50 :: s51 :: s52 :: s53 :: s54 :: s55 :: s56 :: s57 :: s58 :: s59 :: s60 :: s61 :: s62 :: s63 :: s64 :: s65 :: s66 :: s67 :: s68 :: s69 :: s70 :: s71 :: s72 :: s73 :: s74 :: s75 :: s76 :: s77 :: s78 :: s79 :: s80 :: s81 :: s82 :: s83 :: s84 :: s85 :: s86 :: s87 :: s88 :: s89 :: s90 :: s91 :: s92 :: s93 :: s94 :: s95 :: s96 :: s97 :: s98 :: s99 :: s100 :: s101 :: s102 :: s103 :: s104 :: s105 :: s106 :: s107 :: s108 :: s109 :: s110 :: s111 :: s112 :: s113 :: s114 :: s115 :: s116 :: s117 :: s118 :: s119 :: s120 :: s121 :: s122 :: s123 :: s124 :: s125 :: s126 :: s127 :: s128 :: s129 :: s130 :: s131 :: s132 :: s133 :: s134 :: s135 :: s136 :: s137 :: s138 :: s139 :: s140 :: s141 :: s142 :: s143 :: s144 :: s145 :: s146 :: s147 :: s148 :: s149 :: s150 :: s151 :: s152 :: s153 :: s154 :: s155 :: s156 :: s157 :: s158 :: s159 :: s160 :: s161 :: s162 :: s163 :: s164 :: s165 :: s166 :: s167 :: s168 :: s169 :: s170 :: s171 :: s172 :: s173 :: []), []⟩ u := by
  obtain ⟨ti, hti, hz0, hz1, hz2⟩ := info_partsE Tryd.infoParamD
  have HE := hideE h
  have HEX := hideE hexit
  have hb0 := h.h0
  have hbx := h.hx
  have hne := h.ne
  clear h hexit
  refine onlyExit_wp (id := 4) ?_
  conv => arg 2; whnf
  go_loopw [10] (fun nn u' => ∃ m : Nat, nn = .int .i64 m ∧ m ≤ N ∧ ((∃ xs ak av, dRep (dPair s) (N - m) a1 = .ok (xs, ak) ∧ EL u u' b X s (.ok ak) 58 #[av, .int .i64 f1, f2, f3, f4] ∧ RepL u' u.heap.size 60 2 (RP u' u.heap.size) av xs) ∨ (∃ q' av, dRep (dPair s) N a1 = .error q' ∧ EL u u' b X s (.error q') 58 #[av, .int .i64 f1, f2, f3, f4] ∧ ∃ p nn c, av = .slice p nn c))) (fun nn _ => (intOf nn).toNat)
  case atStart => exact ⟨N, rfl, Nat.le_refl _, Or.inl ⟨[], a1, _, by rw [Nat.sub_self]; rfl, unhideE HE, RepL.nil _ _ _ _ _⟩⟩
  case round =>
    obtain ⟨m, rfl, hmN, hst⟩ := hrel
    rcases hst with ⟨xs, ak, av, hrep, hE, hav⟩ | ⟨q', av, hrep, hE, p, nn, c, rfl⟩
    · have c2 : wr.cell? ⟨b, 2, none⟩ = some (.int .i64 (-1)) := Ey.c2 hE.ey
      by_cases hm0 : m = 0
      · subst hm0
        rw [Nat.sub_zero] at hrep
        have HEX2 := hideE (fun u10 u11 u66 u67 u68 u69 u70 u71 u72 u73 u74 u75 u76 u77 u78 u79 u80 u81 u82 u83 u84 u85 u86 u87 => unhideE HEX u10 u11 u66 u67 u68 u69 u70 u71 u72 u73 u74 u75 u76 u77 u78 u79 u80 u81 u82 u83 u84 u85 u86 u87 wr av (by rw [hrep]; exact hE) (by obtain ⟨p, c, e⟩ := hav.shape; exact ⟨p, _, c, e⟩) (fun ys a h => by rw [hrep] at h; injection h with h; injection h with h1 h2; subst h1; exact hav))
        clear hrep hE hav
        go_wp2_with fail
        exact ⟨rfl, unhideE HEX2 _ _ _ _ _ _ _ _ _ _ _ _ _ _ _ _ _ _ _ _ _ _ _ _⟩
      · have hmp : (0 : Int) < m := by omega
        obtain ⟨cs, hown, hall⟩ := hav
        have hcl := hall.len
        have hlN : xs.length = N - m := dRep_len _ hrep
        have hcn : cs.length ≤ 1000 := by omega
        have hsz := hE.g.size
        obtain ⟨lp, lc, hsh⟩ := own_shape hown.1
        subst hsh
        have HC := hideE (enum_c b s (.ok ak) 0 8 wr hE.ey)
        have HNX := hideE (dRep_next hrep)
        have HE2 := hideE hE
        have HOWN := hideE hown
        have HALL := hideE hall
        have HLV := hideE (show ∀ g, (Value.slice lp cs.length lc).ownBlock = some g → u.heap.size ≤ g from fun g hg => (hown.own g hg).1)
        clear hrep hE hown hall hlN hcl
        go_wp2_with fail
        refine (unhideE HC).mono ?_
        rintro e w2 ⟨rfl, hg2, hE2⟩
        have hE2' : EyS w2 b s (stOf (dNum s 0 8 ak)) := hE2
        clear hE2
        obtain ⟨y1, hy1⟩ : ∃ y, y = valOr (dNum s 0 8 ak) := ⟨_, rfl⟩
        rw [show valOr (sBind (.ok ak) (dNum s 0 8)) = y1 from hy1.symm]
        have HY1 := hideE hy1
        clear hy1
        have hei := (unhideE HE2).call hE2' hg2
        have hk2 := (unhideE HE2).kept hg2
        have hs2 := hg2.size
        obtain ⟨st1, hst1⟩ : ∃ y, y = stOf (dNum s 0 8 ak) := ⟨_, rfl⟩
        rw [← hst1] at hei
        have HC2 := hideE (enum_c b s st1 0 255 w2.drew hei.drew.ey)
        obtain ⟨y2, hy2⟩ : ∃ y, y = valOr (sBind st1 (dNum s 0 255)) := ⟨_, rfl⟩
        obtain ⟨st2, hst2⟩ : ∃ y, y = stOf (sBind st1 (dNum s 0 255)) := ⟨_, rfl⟩
        have HF := hideE (show Calls Tryd.prog 21 #[.pointer (some ⟨b, 0, none⟩), .int .i64 0, .int .i64 255] w2.drew (fun e w3 => ∃ v, e = .returned v ∧ (v = .int .i64 y2 ∧ EL u w3 b X s st2 58 #[(.slice lp cs.length lc), .int .i64 f1, f2, f3, f4] ∧ w2.grownBy w3 (some b))) from (unhideE HC2).mono (by
          rintro e w3 ⟨rfl, hg3, hE3⟩
          rw [← hst2] at hE3
          exact ⟨_, rfl, by rw [hy2], hei.drew.call hE3 hg3, gb_tr (gb_drew w2 (some b)) hg3⟩))
        have k6 := hei.cell 0 _ rfl
        have HST1 := hideE hst1
        have HY2 := hideE hy2
        have HST2 := hideE hst2
        have HOW2 := hideE ((unhideE HOWN).keep (Nat.le_refl _) hk2)
        have HALL2 := hideE ((unhideE HALL).imp fun c x hh => mono_RP _ _ _ _ c x (Nat.le_refl _) hk2 hh)
        have hsz2 := hei.g.size
        clear hE2' hei hk2 hg2 hst1 hy2 hst2 HC HC2 HE2 HOWN HALL
        go_wp2_with fail
        go_region_law (first | (refine stepA_own rfl (.tmp 80) (.tmp 85) 55 rfl u.heap.size 60 ti _ 2 16 Tryd.underlying55 hti hz0 hz1 hz2 rfl (by decide) (.slice lp cs.length lc) cs.length (flat cs) (by simp [Act.eval]) ((unhideE HOW3).1.alloc _) ⟨w3.heap.size, 0, none⟩ 1 1 [.int .i64 y1, .int .i64 y2] (by simp [Act.eval]) rfl (by intro j u hj; match j, hj with | 0, hj => (simp at hj; subst hj; simp [Addr.add]) | 1, hj => (simp at hj; subst hj; simp [Addr.add])) (by intro u hu; simp at hu; rcases hu with rfl | rfl <;> rfl) (by unfold maxLen; omega) (by omega) (by simp; omega) ?_; intro v7 w7 hown7 hgr7; have hei7 := ((unhideE HEI3).alloc (.cells #[.int .i64 y1, .int .i64 y2] 60)).own hgr7 (unhideE HLV); have j6 := hei7.cell 0 _ rfl; have g6 := hei7.fz 0; obtain ⟨gg7, cc7, rfl⟩ := own_slice hown7; have HOW7 := hideE hown7; have HGR7 := hideE hgr7; have HEI7 := hideE hei7; clear hown7 hgr7 hei7) | (refine step_callE rfl 21 #[.pointer (some ⟨b, 0, none⟩), .int .i64 0, .int .i64 255] (by simp [go_sem]) (unhideE HF) ?_; rintro v w3 ⟨rfl, hei3, hg3⟩; have h6 := hei3.cell 0 _ rfl; have h6a : ∀ X', (w3.alloc X').cell? ⟨X, 0, none⟩ = some (.slice lp cs.length lc) := fun X' => (hei3.alloc X').cell 0 _ rfl; have HEI3 := hideE hei3; have HG3 := hideE hg3; have hs3 := hg3.size; have HOW3 := hideE ((unhideE HOW2).keep (Nat.le_refl _) (KeptOn.of_gb hg3 hb0)); clear hei3 hg3))
        all_goals
          have hs7 := (unhideE HGR7).size
          have hsa : (w3.alloc (.cells #[.int .i64 y1, .int .i64 y2] 60)).heap.size = w3.heap.size + 1 := by simp
          have HZ := hideE ((unhideE HEI7).set 0 (.slice (some ⟨gg7, 0, none⟩) (cs.length + 1) cc7))
          have hkp := (unhideE HEI7).keptSet 0 (.slice (some ⟨gg7, 0, none⟩) (cs.length + 1) cc7)
          have HRZ := hideE ((OwnL.snoc (cs := cs) (c := #[.int .i64 y1, .int .i64 y2]) (unhideE HOW7) (by simp) (by rw [flat_snoc]) (unhideE HOW3).2 rfl).keep (Nat.le_refl _) hkp)
          have hkt : KeptT u.heap.size 60 w2 (w7.setCell ⟨X, 0, none⟩ (.slice (some ⟨gg7, 0, none⟩) (cs.length + 1) cc7)) := KeptT.tr (KeptT.of_on (KeptOn.of_gb (unhideE HG3) hb0)) hs3 (KeptT.tr (KeptT.of_on (keptAlloc u.heap.size w3 (.cells #[.int .i64 y1, .int .i64 y2] 60))) (by omega) (KeptT.tr (KeptT.of_own ((unhideE HOW3).1.alloc _) (unhideE HGR7)) hs7 (KeptT.of_on hkp)))
          have HALL3 := hideE ((unhideE HALL2).imp fun c x hh => monoT_RP 60 _ _ _ c x hkt hh)
          skip
          clear HGR7 HOW7 HEI7 HG3 HEI3 HOW3 j6 g6 h6 h6a HF k6 HOW2 hkp hkt HALL2
          go_wp2
          go_roundw
          case rel =>
            refine ⟨m - 1, int_pred (by omega), by omega, ?_⟩
            have e1 : N - (m - 1) = N - m + 1 := by omega
            have est : st2 = stOf ((dPair s) ak) := by rw [unhideE HST2, unhideE HST1, pair_st]
            have hz := unhideE HZ
            rw [est] at hz
            cases ho : (dPair s) ak with
            | ok p =>
              obtain ⟨y, a2⟩ := p
              have hn := unhideE HNX
              rw [ho] at hz hn
              refine Or.inl ⟨xs ++ [y], a2, (.slice (some ⟨gg7, 0, none⟩) (cs.length + 1) cc7), by rw [e1]; exact hn, hz, _, unhideE HRZ, All2.snoc (unhideE HALL3) ?_⟩
              obtain ⟨e2, e3⟩ := pair_val ho
              show #[Value.int .i64 y1, Value.int .i64 y2] = #[Value.int .i64 y.1, Value.int .i64 y.2]
              rw [unhideE HY1, unhideE HY2, unhideE HST1, e2, e3]
            | error qq =>
              have hn := unhideE HNX
              rw [ho] at hz hn
              exact Or.inr ⟨qq, (.slice (some ⟨gg7, 0, none⟩) (cs.length + 1) cc7), dRep_err (k := N - m + 1) hn (by omega), hz, _, _, _, rfl⟩
          case measure => simp [intOf]; omega
    · have c2 : wr.cell? ⟨b, 2, none⟩ = some (.int .i64 q') := by obtain ⟨-, a, h⟩ := hE.ey; exact h.c2
      have hq : ¬ ((q' : Int) < 0) := by omega
      have HEX2 := hideE (fun u10 u11 u66 u67 u68 u69 u70 u71 u72 u73 u74 u75 u76 u77 u78 u79 u80 u81 u82 u83 u84 u85 u86 u87 => unhideE HEX u10 u11 u66 u67 u68 u69 u70 u71 u72 u73 u74 u75 u76 u77 u78 u79 u80 u81 u82 u83 u84 u85 u86 u87 wr (.slice p nn c) (by rw [hrep]; exact hE) ⟨_, _, _, rfl⟩ (fun ys a h => by rw [hrep] at h; cases h))
      clear hrep hE
      by_cases hm0 : m = 0
      · subst hm0
        go_wp2_with fail
        exact ⟨rfl, unhideE HEX2 _ _ _ _ _ _ _ _ _ _ _ _ _ _ _ _ _ _ _ _ _ _ _ _⟩
      · have hmp : (0 : Int) < m := by omega
        go_wp2_with fail
        exact ⟨rfl, unhideE HEX2 _ _ _ _ _ _ _ _ _ _ _ _ _ _ _ _ _ _ _ _ _ _ _ _⟩
set_option maxHeartbeats 8000000 in
set_option maxRecDepth 100000 in
theorem decExterns (b X : Nat) (s : ByteArray) (f0 : Value) (N a1 : Nat) (u : World) (Q0 : Exit → Act → World → Prop) (s0 s1 s2 s3 s7 s8 s9 s10 s11 s12 s13 s14 s15 s16 s17 s18 s19 s20 s21 s22 s23 s24 s25 s26 s27 s28 s29 s30 s31 s32 s33 s34 s35 s36 s37 s38 s39 s40 s41 s42 s43 s44 s45 s46 s47 s48 s49 s50 s51 s52 s53 s54 s55 s56 s57 s58 s59 s60 s61 s62 s63 s64 s65 s66 s67 s68 s69 s70 s71 s72 s73 s74 s75 s76 s77 s78 s79 s80 s81 s82 s83 s84 s85 s86 s87 s88 s89 s90 s91 s92 s93 s94 s95 s96 s97 s98 s99 s100 s101 s102 s103 s104 s105 s106 s107 s108 s109 s110 s111 s112 s113 s114 s115 s116 s117 s118 s119 s120 s121 s122 s123 s124 s125 s126 s127 s128 s129 s130 s131 s132 s133 s134 s135 s136 s137 s138 s139 s140 s141 s142 s143 s144 s145 s146 s147 s148 s149 s150 s151 s152 s153 s154 s155 s156 s157 s158 s159 s160 s161 s162 s163 s164 s165 s166 s167 s168 s169 s170 s171 s172 s173 : Value) (hN : N ≤ 1000)
    (h : EL u u b X s (.ok a1) 25 #[f0, .slice none 0 0])
    (hexit : ∀ (u6 u7 u29 u30 u31 u32 u33 u34 u35 u36 u37 u38 u39 u40 u41 u42 u43 u44 u45 u46 u47 u48 u49 u50 : Value) (u' : World) (av : Value), EL u u' b X s (stOf (dRep (dSig s) N a1)) 25 #[f0, av] → (∃ p n c, av = .slice p n c) → (∀ xs a, dRep (dSig s) N a1 = .ok (xs, a) → RepL u' u.heap.size 53 2 (RSig u' u.heap.size) av xs) → Q0 (.exit 0) ⟨List.toArray (s0 :: s1 :: s2 :: s3 :: .pointer (some ⟨b, 0, none⟩) :: .pointer (some ⟨X, 0, none⟩) :: u6 :: u7 :: s8 :: s9 :: s10 :: s11 :: s12 :: s13 :: s14 :: s15 :: s16 :: s17 :: s18 :: s19 :: s20 :: s21 :: s22 :: s23 :: s24 :: s25 :: s26 :: s27 :: s28 :: u29 :: u30 :: u31 :: u32 :: u33 :: u34 :: u35 :: u36 :: u37 :: u38 :: u39 :: u40 :: u41 :: u42 :: u43 :: u44 :: u45 :: u46 :: u47 :: u48 :: u49 :: u50 :: s51 :: s52 :: s53 :: s54 :: s55 :: s56 :: s57 :: s58 :: s59 :: s60 :: s61 :: s62 :: s63 :: s64 :: s65 :: s66 :: s67 :: s68 :: s69 :: s70 :: s71 :: s72 :: s73 :: s74 :: s75 :: s76 :: s77 :: s78 :: s79 :: s80 :: s81 :: s82 :: s83 :: s84 :: s85 :: s86 :: s87 :: s88 :: s89 :: s90 :: s91 :: s92 :: s93 :: s94 :: s95 :: s96 :: s97 :: s98 :: s99 :: s100 :: s101 :: s102 :: s103 :: s104 :: s105 :: s106 :: s107 :: s108 :: s109 :: s110 :: s111 :: s112 :: s113 :: s114 :: s115 :: s116 :: s117 :: s118 :: s119 :: s120 :: s121 :: s122 :: s123 :: s124 :: s125 :: s126 :: s127 :: s128 :: s129 :: s130 :: s131 :: s132 :: s133 :: s134 :: s135 :: s136 :: s137 :: s138 :: s139 :: s140 :: s141 :: s142 :: s143 :: s144 :: s145 :: s146 :: s147 :: s148 :: s149 :: s150 :: s151 :: s152 :: s153 :: s154 :: s155 :: s156 :: s157 :: s158 :: s159 :: s160 :: s161 :: s162 :: s163 :: s164 :: s165 :: s166 :: s167 :: s168 :: s169 :: s170 :: s171 :: s172 :: s173 :: []), []⟩ u') :
    Code.wp Tryd.prog (decLoop Tryd.f9 0) Q0 ⟨List.toArray (s0 :: s1 :: s2 :: s3 :: .pointer (some ⟨b, 0, none⟩) :: .pointer (some ⟨X, 0, none⟩) :: .int .i64 N :: s7 :: s8 :: s9 :: s10 :: s11 :: s12 :: s13 :: s14 :: s15 :: s16 :: s17 :: s18 :: s19 :: s20 :: s21 :: s22 :: s23 :: s24 :: s25 :: s26 :: s27 :: s28 :: s29 :: s30 :: s31 :: s32 :: s33 :: s34 :: s35 :: s36 :: s37 :: s38 :: s39 :: s40 :: s41 :: s42 :: s43 :: s44 :: s45 :: s46 :: s47 :: s48 :: s49 :: s50 :: s51 :: s52 :: s53 :: s54 :: s55 :: s56 :: s57 :: s58 :: s59 :: s60 :: s61 :: s62 :: s63 :: s64 :: s65 :: s66 :: s67 :: s68 :: s69 :: s70 :: s71 :: s72 :: s73 :: s74 :: s75 :: s76 :: s77 :: s78 :: s79 :: s80 :: s81 :: s82 :: s83 :: s84 :: s85 :: s86 :: s87 :: s88 :: s89 :: s90 :: s91 :: s92 :: s93 :: s94 :: s95 :: s96 :: s97 :: s98 :: s99 :: s100 :: s101 :: s102 :: s103 :: s104 :: s105 :: s106 :: s107 :: s108 :: s109 :: s110 :: s111 :: s112 :: s113 :: s114 :: s115 :: s116 :: s117 :: s118 :: s119 :: s120 :: s121 :: s122 :: s123 :: s124 :: s125 :: s126 :: s127 :: s128 :: s129 :: s130 :: s131 :: s132 :: s133 :: s134 :: s135 :: s136 :: s137 :: s138 :: s139 :: s140 :: s141 :: s142 :: s143 :: s144 :: s145 :: s146 :: s147 :: s148 :: s149 :: s150 :: s151 :: s152 :: s153 :: s154 :: s155 :: s156 :: s157 :: s158 :: s159 :: s160 :: s161 :: s162 :: s163 :: s164 :: s165 :: s166 :: s167 :: s168 :: s169 :: s170 :: s171 :: s172 :: s173 :: []), []⟩ u := by
  obtain ⟨ti, hti, hz0, hz1, hz2⟩ := info_partsE Tryd.infoSigD
  have HE := hideE h
  have HEX := hideE hexit
  have hb0 := h.h0
  have hbx := h.hx
  have hne := h.ne
  clear h hexit
  refine onlyExit_wp (id := 0) ?_
  conv => arg 2; whnf
  go_loopw [6] (fun nn u' => ∃ m : Nat, nn = .int .i64 m ∧ m ≤ N ∧ ((∃ xs ak av, dRep (dSig s) (N - m) a1 = .ok (xs, ak) ∧ EL u u' b X s (.ok ak) 25 #[f0, av] ∧ RepL u' u.heap.size 53 2 (RSig u' u.heap.size) av xs) ∨ (∃ q' av, dRep (dSig s) N a1 = .error q' ∧ EL u u' b X s (.error q') 25 #[f0, av] ∧ ∃ p nn c, av = .slice p nn c))) (fun nn _ => (intOf nn).toNat)
  case atStart => exact ⟨N, rfl, Nat.le_refl _, Or.inl ⟨[], a1, _, by rw [Nat.sub_self]; rfl, unhideE HE, RepL.nil _ _ _ _ _⟩⟩
  case round =>
    obtain ⟨m, rfl, hmN, hst⟩ := hrel
    rcases hst with ⟨xs, ak, av, hrep, hE, hav⟩ | ⟨q', av, hrep, hE, p, nn, c, rfl⟩
    · have c2 : wr.cell? ⟨b, 2, none⟩ = some (.int .i64 (-1)) := Ey.c2 hE.ey
      by_cases hm0 : m = 0
      · subst hm0
        rw [Nat.sub_zero] at hrep
        have HEX2 := hideE (fun u6 u7 u29 u30 u31 u32 u33 u34 u35 u36 u37 u38 u39 u40 u41 u42 u43 u44 u45 u46 u47 u48 u49 u50 => unhideE HEX u6 u7 u29 u30 u31 u32 u33 u34 u35 u36 u37 u38 u39 u40 u41 u42 u43 u44 u45 u46 u47 u48 u49 u50 wr av (by rw [hrep]; exact hE) (by obtain ⟨p, c, e⟩ := hav.shape; exact ⟨p, _, c, e⟩) (fun ys a h => by rw [hrep] at h; injection h with h; injection h with h1 h2; subst h1; exact hav))
        clear hrep hE hav
        go_wp2_with fail
        exact ⟨rfl, unhideE HEX2 _ _ _ _ _ _ _ _ _ _ _ _ _ _ _ _ _ _ _ _ _ _ _ _⟩
      · have hmp : (0 : Int) < m := by omega
        obtain ⟨cs, hown, hall⟩ := hav
        have hcl := hall.len
        have hlN : xs.length = N - m := dRep_len _ hrep
        have hcn : cs.length ≤ 1000 := by omega
        have hsz := hE.g.size
        obtain ⟨lp, lc, hsh⟩ := own_shape hown.1
        subst hsh
        have HC := hideE (enums_c b s (.ok ak) 8 0 8 wr hE.ey (by decide))
        have HNX := hideE (dRep_next hrep)
        have HE2 := hideE hE
        have HOWN := hideE hown
        have HALL := hideE hall
        have HLV := hideE (show ∀ g, (Value.slice lp cs.length lc).ownBlock = some g → u.heap.size ≤ g from fun g hg => (hown.own g hg).1)
        clear hrep hE hown hall hlN hcl
        go_wp2_with fail
        refine (unhideE HC).mono ?_
        rintro e w2 ⟨hg2, v, rfl, hE2, ⟨pv, nv, cv, rfl⟩, hrep2⟩
        have hE2' : EyS w2 b s (stOf (dList s 0 8 (dNum s 0 8) ak)) := hE2
        have HREP2 := hideE (fun xs a (hh : dList s 0 8 (dNum s 0 8) ak = .ok (xs, a)) => show RepI w2 u.heap.size (.slice pv nv cv) xs from (hrep2 xs a hh).keep hsz (fun _ _ _ => rfl) (fun _ _ h => h))
        clear hE2 hrep2
        have hei := (unhideE HE2).call hE2' hg2
        have hk2 := (unhideE HE2).kept hg2
        have hs2 := hg2.size
        obtain ⟨st1, hst1⟩ : ∃ y, y = stOf (dList s 0 8 (dNum s 0 8) ak) := ⟨_, rfl⟩
        rw [← hst1] at hei
        have HC2 := hideE (enum_c b s st1 0 4 w2.drew hei.drew.ey)
        obtain ⟨y2, hy2⟩ : ∃ y, y = valOr (sBind st1 (dNum s 0 4)) := ⟨_, rfl⟩
        obtain ⟨st2, hst2⟩ : ∃ y, y = stOf (sBind st1 (dNum s 0 4)) := ⟨_, rfl⟩
        have HF := hideE (show Calls Tryd.prog 21 #[.pointer (some ⟨b, 0, none⟩), .int .i64 0, .int .i64 4] w2.drew (fun e w3 => ∃ v, e = .returned v ∧ (v = .int .i64 y2 ∧ EL u w3 b X s st2 25 #[f0, (.slice lp cs.length lc)] ∧ w2.grownBy w3 (some b))) from (unhideE HC2).mono (by
          rintro e w3 ⟨rfl, hg3, hE3⟩
          rw [← hst2] at hE3
          exact ⟨_, rfl, by rw [hy2], hei.drew.call hE3 hg3, gb_tr (gb_drew w2 (some b)) hg3⟩))
        have k6 := hei.cell 1 _ rfl
        have HST1 := hideE hst1
        have HY2 := hideE hy2
        have HST2 := hideE hst2
        have HOW2 := hideE ((unhideE HOWN).keep (Nat.le_refl _) hk2)
        have HALL2 := hideE ((unhideE HALL).imp fun c x hh => mono_RSig _ _ _ _ c x (Nat.le_refl _) hk2 hh)
        have hsz2 := hei.g.size
        clear hE2' hei hk2 hg2 hst1 hy2 hst2 HC HC2 HE2 HOWN HALL
        go_wp2_with fail
        go_region_law (first | (refine stepA_own rfl (.tmp 43) (.tmp 48) 23 rfl u.heap.size 53 ti _ 2 32 Tryd.underlying23 hti hz0 hz1 hz2 rfl (by decide) (.slice lp cs.length lc) cs.length (flat cs) (by simp [Act.eval]) ((unhideE HOW3).1.alloc _) ⟨w3.heap.size, 0, none⟩ 1 1 [.slice pv nv cv, .int .i64 y2] (by simp [Act.eval]) rfl (by intro j u hj; match j, hj with | 0, hj => (simp at hj; subst hj; simp [Addr.add]) | 1, hj => (simp at hj; subst hj; simp [Addr.add])) (by intro u hu; simp at hu; rcases hu with rfl | rfl <;> rfl) (by unfold maxLen; omega) (by omega) (by simp; omega) ?_; intro v7 w7 hown7 hgr7; have hei7 := ((unhideE HEI3).alloc (.cells #[.slice pv nv cv, .int .i64 y2] 53)).own hgr7 (unhideE HLV); have j6 := hei7.cell 1 _ rfl; have g6 := hei7.fz 1; obtain ⟨gg7, cc7, rfl⟩ := own_slice hown7; have HOW7 := hideE hown7; have HGR7 := hideE hgr7; have HEI7 := hideE hei7; clear hown7 hgr7 hei7) | (refine step_callE rfl 21 #[.pointer (some ⟨b, 0, none⟩), .int .i64 0, .int .i64 4] (by simp [go_sem]) (unhideE HF) ?_; rintro v w3 ⟨rfl, hei3, hg3⟩; have h6 := hei3.cell 1 _ rfl; have h6a : ∀ X', (w3.alloc X').cell? ⟨X, 1, none⟩ = some (.slice lp cs.length lc) := fun X' => (hei3.alloc X').cell 1 _ rfl; have HEI3 := hideE hei3; have HG3 := hideE hg3; have hs3 := hg3.size; have HOW3 := hideE ((unhideE HOW2).keep (Nat.le_refl _) (KeptOn.of_gb hg3 hb0)); clear hei3 hg3))
        all_goals
          have hs7 := (unhideE HGR7).size
          have hsa : (w3.alloc (.cells #[.slice pv nv cv, .int .i64 y2] 53)).heap.size = w3.heap.size + 1 := by simp
          have HZ := hideE ((unhideE HEI7).set 1 (.slice (some ⟨gg7, 0, none⟩) (cs.length + 1) cc7))
          have hkp := (unhideE HEI7).keptSet 1 (.slice (some ⟨gg7, 0, none⟩) (cs.length + 1) cc7)
          have HRZ := hideE ((OwnL.snoc (cs := cs) (c := #[.slice pv nv cv, .int .i64 y2]) (unhideE HOW7) (by simp) (by rw [flat_snoc]) (unhideE HOW3).2 rfl).keep (Nat.le_refl _) hkp)
          have hkt : KeptT u.heap.size 53 w2 (w7.setCell ⟨X, 1, none⟩ (.slice (some ⟨gg7, 0, none⟩) (cs.length + 1) cc7)) := KeptT.tr (KeptT.of_on (KeptOn.of_gb (unhideE HG3) hb0)) hs3 (KeptT.tr (KeptT.of_on (keptAlloc u.heap.size w3 (.cells #[.slice pv nv cv, .int .i64 y2] 53))) (by omega) (KeptT.tr (KeptT.of_own ((unhideE HOW3).1.alloc _) (unhideE HGR7)) hs7 (KeptT.of_on hkp)))
          have HALL3 := hideE ((unhideE HALL2).imp fun c x hh => monoT_RSig _ _ _ c x hkt hh)
          have HREP3 := hideE (fun xs a hh => (unhideE HREP2 xs a hh).keepT (by decide) hkt (fun _ _ h => h))
          clear HREP2
          clear HGR7 HOW7 HEI7 HG3 HEI3 HOW3 j6 g6 h6 h6a HF k6 HOW2 hkp hkt HALL2
          go_wp2
          go_roundw
          case rel =>
            refine ⟨m - 1, int_pred (by omega), by omega, ?_⟩
            have e1 : N - (m - 1) = N - m + 1 := by omega
            have est : st2 = stOf ((dSig s) ak) := by rw [unhideE HST2, unhideE HST1, sig_st]
            have hz := unhideE HZ
            rw [est] at hz
            cases ho : (dSig s) ak with
            | ok p =>
              obtain ⟨y, a2⟩ := p
              have hn := unhideE HNX
              rw [ho] at hz hn
              refine Or.inl ⟨xs ++ [y], a2, (.slice (some ⟨gg7, 0, none⟩) (cs.length + 1) cc7), by rw [e1]; exact hn, hz, _, unhideE HRZ, All2.snoc (unhideE HALL3) ?_⟩
              obtain ⟨⟨a3, e2⟩, e3⟩ := sig_val ho
              exact ⟨_, by rw [unhideE HY2, unhideE HST1, e3], unhideE HREP3 _ _ e2⟩
            | error qq =>
              have hn := unhideE HNX
              rw [ho] at hz hn
              exact Or.inr ⟨qq, (.slice (some ⟨gg7, 0, none⟩) (cs.length + 1) cc7), dRep_err (k := N - m + 1) hn (by omega), hz, _, _, _, rfl⟩
          case measure => simp [intOf]; omega
    · have c2 : wr.cell? ⟨b, 2, none⟩ = some (.int .i64 q') := by obtain ⟨-, a, h⟩ := hE.ey; exact h.c2
      have hq : ¬ ((q' : Int) < 0) := by omega
      have HEX2 := hideE (fun u6 u7 u29 u30 u31 u32 u33 u34 u35 u36 u37 u38 u39 u40 u41 u42 u43 u44 u45 u46 u47 u48 u49 u50 => unhideE HEX u6 u7 u29 u30 u31 u32 u33 u34 u35 u36 u37 u38 u39 u40 u41 u42 u43 u44 u45 u46 u47 u48 u49 u50 wr (.slice p nn c) (by rw [hrep]; exact hE) ⟨_, _, _, rfl⟩ (fun ys a h => by rw [hrep] at h; cases h))
      clear hrep hE
      by_cases hm0 : m = 0
      · subst hm0
        go_wp2_with fail
        exact ⟨rfl, unhideE HEX2 _ _ _ _ _ _ _ _ _ _ _ _ _ _ _ _ _ _ _ _ _ _ _ _⟩
      · have hmp : (0 : Int) < m := by omega
        go_wp2_with fail
        exact ⟨rfl, unhideE HEX2 _ _ _ _ _ _ _ _ _ _ _ _ _ _ _ _ _ _ _ _ _ _ _ _⟩
end Go.Proofs.YthnmdbddfmgdlaaDoor
