/-
 Frames: frame.Lay, and plain.Frame. Own work of the verifier.
-/
import Derived.Test.YtffemeicclhioaaGreatDoorPk
import Derived.Test.YtffemeicclhioaaGreatDoorJ29
import Derived.Test.YtffemeicclhioaaGreatDoorJ13
import Derived.Test.YtffemeicclhioaaGreatDoorClH
namespace Go.Proofs.YtffemeicclhioaaGreatDoor
open Go.RowKit

/-- What both sides are handed. -/
structure FrG0 (w : World) (T : TbE) (P : ProgE) (fv ev : Value) (A E : Nat → Array Value) : Prop where
 t : TbO w T
 p : ProgC w fv ev P A E
 nn : NumP P
 na : NeedsAt w
 one : 1 < w.heap.size
 er : ErrTy w
 pl : ∀ k, (P.funcs.getD k Zaj).params.length ≤ 8796093022208
theorem frG0_below {w w' : World} {T : TbE} {P : ProgE} {fv ev : Value} {A E : Nat → Array Value} (h : FrG0 w T P fv ev A E) (hb : Below w.heap.size w w') : FrG0 w' T P fv ev A E := ⟨h.t.below hb, h.p.below hb, h.nn, h.na.keep hb, by have := hb.size; have := h.one; omega, h.er.keep hb, h.pl⟩
theorem tbO_tab {w : World} {T : TbE} (h : TbO w T) : TabC w (.slice T.pa T.ag.length T.ca) (.slice T.pr T.rs.length T.cr) (.slice T.ps T.ss.length T.cs) T.ag T.rs T.ss := ⟨h.a.rs, h.r.rs, h.s.rs, h.a.cap, h.r.cap, h.s.cap⟩
/-- A frame's lists. -/
def FrO (V : World) (B : Nat) (fr : FrmE) (slv kv : Value) : Prop := V.ownsRow B 3 1 slv fr.slots.length (iC fr.slots) ∧ V.ownsRow B 56 2 kv fr.saves.length (plC fr.saves)
theorem own_setF {V : World} {B n size g : Nat} {e : TypeId} {v : Value} {xs : List Value} (h : V.ownsRow B e size v n xs) (hg : g < B) (cs : Array Value) : (V.setRow g cs).ownsRow B e size v n xs := by
 obtain ⟨h1, h2 | ⟨g', cap, cur, e1, e2, e3, e4⟩⟩ := h
 ·
  exact ⟨h1, Or.inl h2⟩
 ·
  exact ⟨h1, Or.inr ⟨g', cap, cur, e1, e2, (setRow_other _ _ _ _ (by omega)).trans e3, e4⟩⟩
theorem frO_set {V : World} {B g : Nat} {fr : FrmE} {slv kv : Value} (h : FrO V B fr slv kv) (hg : g < B) (cs : Array Value) : FrO (V.setRow g cs) B fr slv kv := ⟨own_setF h.1 hg cs, own_setF h.2 hg cs⟩
theorem frO_mono {V : World} {B B' : Nat} {fr : FrmE} {slv kv : Value} (h : FrO V B fr slv kv) (hB : B' ≤ B) : FrO V B' fr slv kv := ⟨own_monoF h.1 hB, own_monoF h.2 hB⟩
theorem frO_below {V V' : World} {B : Nat} {fr : FrmE} {slv kv : Value} (h : FrO V B fr slv kv) (hb : Below V.heap.size V V') : FrO V' B fr slv kv := ⟨own_gb h.1 (gb_ofB (o := none) hb) (fun g _ e => by cases e), own_gb h.2 (gb_ofB (o := none) hb) (fun g _ e => by cases e)⟩
theorem frO_none (V : World) (B : Nat) : FrO V B noFrm (.slice none 0 0) (.slice none 0 0) := ⟨World.ownsRow_nil _ _ _ _, World.ownsRow_nil _ _ _ _⟩
theorem errOf_put {w : World} {v : Value} {x : FltE} {g : Nat} {z : Int} {cs : Array Value} {t : TypeId} {f : Nat × Nat} (h : ErrOf w v x) (hr : w.heap[g]? = some (.cells cs t f)) (h0 : cs[0]? = some (.int .i64 z)) (cs' : Array Value) : ErrOf (w.setRow g cs') v x := by
 rcases h with h | h | ⟨q, hx, hv, hb⟩
 ·
  exact Or.inl h
 ·
  exact Or.inr (Or.inl h)
 ·
  have hq : q ≠ g := fun e => by
   subst e
   have h1 := hb.c0
   rw [Zab hr 0, h0] at h1
   injection h1 with h1
   cases h1
  have e : ∀ o, (w.setRow g cs').cell? ⟨q, o, none⟩ = w.cell? ⟨q, o, none⟩ := fun o => World.cell?_of_block (setRow_other _ _ _ _ hq)
  exact Or.inr (Or.inr ⟨q, hx, hv, ⟨(e _).trans hb.c0, (e _).trans hb.c1, (e _).trans hb.c2, (e _).trans hb.c3⟩⟩)
theorem errOf_below {w w' : World} {v : Value} {x : FltE} (h : ErrOf w v x) (hb : Below w.heap.size w w') : ErrOf w' v x := by
 rcases h with h | h | ⟨q, hx, hv, h⟩
 ·
  exact Or.inl h
 ·
  exact Or.inr (Or.inl h)
 ·
  exact Or.inr (Or.inr ⟨q, hx, hv, h.below hb⟩)
theorem errOf_nil {w : World} {v : Value} {x : FltE} (h : ErrOf w v x) (hx : x.e = 0) : v = .nilIface := by
 rcases h with ⟨h, -⟩ | ⟨n, hn, -, h⟩ | ⟨q, h, -⟩
 ·
  exact h
 ·
  rw [h] at hx; exact absurd hx hn
 ·
  exact absurd hx h
theorem errOf_not {w : World} {v : Value} {x : FltE} (h : ErrOf w v x) (hx : ¬ x.e = 0) : ∃ t u, v = .iface t u := by
 rcases h with ⟨-, h⟩ | ⟨n, -, h, -⟩ | ⟨q, -, h, -⟩
 ·
  rw [h] at hx; exact absurd rfl hx
 ·
  exact ⟨_, _, h⟩
 ·
  exact ⟨_, _, h⟩
/-- The program's own fault; then the frame, and the fault that comes with it. -/
def frmC (T : TbE) (P : ProgE) : FltE := chkB (tabT T) T.r (ownL T.sp T.lk T.t0 T.t1) P
def frmL (T : TbE) (P : ProgE) (f : Int) : FrmE := if (frmC T P).e = 0 then (if 0 ≤ f ∧ f < P.funcs.length then frmN T P f.toNat else noFrm) else noFrm
def frmY (T : TbE) (P : ProgE) (f : Int) : FltE := if (frmC T P).e = 0 then (if 0 ≤ f ∧ f < P.funcs.length then frmX T P f.toNat else ⟨6, -1, -1, -1⟩) else frmC T P
theorem frm_in {T : TbE} {P : ProgE} {k : Nat} (hc : (frmC T P).e = 0) (hk : k < P.funcs.length) : frmL T P k = frmN T P k ∧ frmY T P k = frmX T P k := by
 have h : (0 : Int) ≤ (k : Int) ∧ (k : Int) < (P.funcs.length : Int) := by omega
 unfold frmL frmY
 rw [if_pos hc, if_pos hc, if_pos h, if_pos h, Int.toNat_natCast]
 exact ⟨rfl, rfl⟩
theorem frm_out {T : TbE} {P : ProgE} {f : Int} (hc : (frmC T P).e = 0) (hf : ¬ (0 ≤ f ∧ f < P.funcs.length)) : frmL T P f = noFrm ∧ frmY T P f = ⟨6, -1, -1, -1⟩ := by
 unfold frmL frmY
 rw [if_pos hc, if_pos hc, if_neg hf, if_neg hf]
 exact ⟨rfl, rfl⟩
theorem frm_bad {T : TbE} {P : ProgE} {f : Int} (hc : ¬ (frmC T P).e = 0) : frmL T P f = noFrm ∧ frmY T P f = frmC T P := by
 unfold frmL frmY
 rw [if_neg hc, if_neg hc]
 exact ⟨rfl, rfl⟩
set_option maxHeartbeats 4000000 in
set_option maxRecDepth 100000 in
theorem flay_c (T : TbE) (P : ProgE) (f : Int) (fv ev : Value) (A E : Nat → Array Value) (w : World) (hA : FrG0 w T P fv ev A E) :
 Calls Tryz.prog 18 #[.agg T.box, .agg #[fv, ev], .int .i64 f] w fun e w' => ∃ slv kv er, e = .returned (.tuple #[.agg #[.int .i64 (frmL T P f).out, .int .i64 (frmL T P f).cop, .int .i64 (frmL T P f).cells, slv, kv, .int .i64 (frmL T P f).link, .int .i64 (frmL T P f).size, .int .i64 (frmL T P f).in_], er]) ∧ FrO w' w.heap.size (frmL T P f) slv kv ∧ ErrOf w' er (frmY T P f) ∧ Below w.heap.size w w' := by
 obtain ⟨pf, cf, hfs⟩ := hA.p.fs.shape
 obtain ⟨pe, ce, hes⟩ := hA.p.es.shape
 subst hfs hes
 have hlf : P.funcs.length < 9223372036854775808 := by obtain ⟨_, _, _, _, h, _⟩ := hA.p.fs; exact h
 obtain ⟨r0, r1, r2, hZ, hB⟩ := rows3f w (.cells T.box 25 (0, 0)) (.cells #[.slice pf P.funcs.length cf, .slice pe P.externs.length ce] 29 (0, 0)) (.cells #[.int .i64 0, .int .i64 0, .int .i64 0, .slice none 0 0, .slice none 0 0, .int .i64 0, .int .i64 0, .int .i64 0] 32 (0, 0))
 have HA := Zac hA
 have HCK := Zac (fun (V : World) (hV : Below w.heap.size w V) => show Calls Tryz.prog 28 #[.agg #[.int .i64 T.r, .int .i64 T.sp, .int .i64 T.lk, .int .i64 T.t0, .int .i64 T.t1, .slice T.pa T.ag.length T.ca, .slice T.pr T.rs.length T.cr, .slice T.ps T.ss.length T.cs, .int .i64 T.al, .int .i64 T.sh, .int .i64 T.br, .bool T.pairs], .agg #[.slice pf P.funcs.length cf, .slice pe P.externs.length ce]] V (fun e w' => ∃ v, e = .returned v ∧ ErrOf w' v (frmC T P) ∧ Below V.heap.size V w') from checkP_c T.r T.sp T.lk T.t0 T.t1 _ _ _ T.al T.sh T.br T.pairs T.ag T.rs T.ss P _ _ A E V (tbO_tab (frG0_below hA hV).t) (frG0_below hA hV).p hA.nn (frG0_below hA hV).na (frG0_below hA hV).one)
 have HR0 := Zac r0
 have HR1 := Zac r1
 have HR2 := Zac r2
 have HB := Zac hB
 clear r0 r1 r2 hB hA
 have hbx : T.box = #[.int .i64 T.r, .int .i64 T.sp, .int .i64 T.lk, .int .i64 T.t0, .int .i64 T.t1, .slice T.pa T.ag.length T.ca, .slice T.pr T.rs.length T.cr, .slice T.ps T.ss.length T.cs, .int .i64 T.al, .int .i64 T.sh, .int .i64 T.br, .bool T.pairs] := rfl
 rw [hbx] at HR0 HR1 HR2 HB hZ ⊢
 clear hbx
 go_enter Tryz.func18, Tryz.ntmps18
 go_wp2_with fail
 generalize World.alloc (World.alloc (World.alloc w _) _) _ = W at HR0 HR1 HR2 HB hZ ⊢
 refine (Zaa HCK W (Zaa HB)).mono ?_
 rintro e w2 ⟨v, rfl, he, hb⟩
 have hz2 := hb.size
 have HB2 := Zac (Zad (Zaa HB) hb (by omega))
 have HQ0 := Zac ((hb.block w.heap.size (by omega)).trans (Zaa HR0))
 have HQ1 := Zac ((hb.block (w.heap.size + 1) (by omega)).trans (Zaa HR1))
 have HQ2 := Zac ((hb.block (w.heap.size + 1 + 1) (by omega)).trans (Zaa HR2))
 have HE := Zac he
 clear hb HR0 HR1 HR2 HCK HB
 by_cases hc : (frmC T P).e = 0
 ·
  obtain rfl := errOf_nil he hc
  have HC0 := Zac hc
  have HG := Zac (chk_good (show (chkB (tabT T) T.r (ownL T.sp T.lk T.t0 T.t1) P).e = 0 from hc))
  clear hc he
  by_cases hf : 0 ≤ f ∧ f < P.funcs.length
  ·
   obtain ⟨k0, hk⟩ : ∃ k : Nat, f = k := ⟨f.toNat, by omega⟩
   subst hk
   have hk0 : k0 < P.funcs.length := by omega
   have hn1 : ¬ ((k0 : Int) < 0) := by omega
   have hn2 : ¬ ((P.funcs.length : Int) ≤ (k0 : Int)) := by omega
   have HFF := Zac (frm_in (Zaa HC0) hk0)
   have HC := Zac (show Calls Tryz.prog 29 #[.agg #[.int .i64 T.r, .int .i64 T.sp, .int .i64 T.lk, .int .i64 T.t0, .int .i64 T.t1, .slice T.pa T.ag.length T.ca, .slice T.pr T.rs.length T.cr, .slice T.ps T.ss.length T.cs, .int .i64 T.al, .int .i64 T.sh, .int .i64 T.br, .bool T.pairs], .agg #[.slice pf P.funcs.length cf, .slice pe P.externs.length ce], .int .i64 k0] w2 (fun e w' => ∃ slv kv er, e = .returned (.tuple #[.agg #[.int .i64 (frmN T P k0).out, .int .i64 (frmN T P k0).cop, .int .i64 (frmN T P k0).cells, slv, kv, .int .i64 (frmN T P k0).link, .int .i64 (frmN T P k0).size, .int .i64 (frmN T P k0).in_], er]) ∧ w'.ownsRow w2.heap.size 3 1 slv (frmN T P k0).slots.length (iC (frmN T P k0).slots) ∧ w'.ownsRow w2.heap.size 56 2 kv (frmN T P k0).saves.length (plC (frmN T P k0).saves) ∧ ErrOf w' er (frmX T P k0) ∧ Below w2.heap.size w2 w') from
    fof_c T P k0 _ _ A E w2 ((Zaa HA).t.below (Zaa HB2)) (tbOk_of (Zaa HG).1) ((Zaa HA).p.below (Zaa HB2)) hk0 (callsOk_of (Zaa HG).2.1 (Zaa HG).2.2.1 (Zaa HG).2.2.2 k0 hk0) (fnOk_of (Zaa HG).1 ((Zaa HG).2.2.1 k0 hk0)) (Zaa HA).pl)
   clear hf HG HA HC0 HE
   have t0 : w2.cell? ⟨w.heap.size, 0, none⟩ = some (.int .i64 T.r) := (Zab (Zaa HQ0) 0).trans rfl
   have t1 : w2.cell? ⟨w.heap.size, 1, none⟩ = some (.int .i64 T.sp) := (Zab (Zaa HQ0) 1).trans rfl
   have t2 : w2.cell? ⟨w.heap.size, 2, none⟩ = some (.int .i64 T.lk) := (Zab (Zaa HQ0) 2).trans rfl
   have t3 : w2.cell? ⟨w.heap.size, 3, none⟩ = some (.int .i64 T.t0) := (Zab (Zaa HQ0) 3).trans rfl
   have t4 : w2.cell? ⟨w.heap.size, 4, none⟩ = some (.int .i64 T.t1) := (Zab (Zaa HQ0) 4).trans rfl
   have t5 : w2.cell? ⟨w.heap.size, 5, none⟩ = some (.slice T.pa T.ag.length T.ca) := (Zab (Zaa HQ0) 5).trans rfl
   have t6 : w2.cell? ⟨w.heap.size, 6, none⟩ = some (.slice T.pr T.rs.length T.cr) := (Zab (Zaa HQ0) 6).trans rfl
   have t7 : w2.cell? ⟨w.heap.size, 7, none⟩ = some (.slice T.ps T.ss.length T.cs) := (Zab (Zaa HQ0) 7).trans rfl
   have t8 : w2.cell? ⟨w.heap.size, 8, none⟩ = some (.int .i64 T.al) := (Zab (Zaa HQ0) 8).trans rfl
   have t9 : w2.cell? ⟨w.heap.size, 9, none⟩ = some (.int .i64 T.sh) := (Zab (Zaa HQ0) 9).trans rfl
   have t10 : w2.cell? ⟨w.heap.size, 10, none⟩ = some (.int .i64 T.br) := (Zab (Zaa HQ0) 10).trans rfl
   have t11 : w2.cell? ⟨w.heap.size, 11, none⟩ = some (.bool T.pairs) := (Zab (Zaa HQ0) 11).trans rfl
   have p0 : w2.cell? ⟨w.heap.size + 1, 0, none⟩ = some (.slice pf P.funcs.length cf) := (Zab (Zaa HQ1) 0).trans rfl
   have p1 : w2.cell? ⟨w.heap.size + 1, 1, none⟩ = some (.slice pe P.externs.length ce) := (Zab (Zaa HQ1) 1).trans rfl
   go_wp2_with fail
   clear t0 t1 t2 t3 t4 t5 t6 t7 t8 t9 t10 t11
   clear p0 p1
   refine (Zaa HC).mono ?_
   rintro e w3 ⟨slv, kv, er, rfl, hsl, hkp, her, hb3⟩
   obtain ⟨sp9, sc9, rfl⟩ := Zan hsl
   obtain ⟨kp9, kc9, rfl⟩ := Zan hkp
   have hz3 := hb3.size
   have HQ3 := Zac ((hb3.block (w.heap.size + 1 + 1) (by omega)).trans (Zaa HQ2))
   have HO := Zac (show FrO w3 w2.heap.size (frmN T P k0) _ _ from ⟨hsl, hkp⟩)
   have HE3 := Zac her
   have HB3 := Zac (Zad (Zaa HB2) hb3 (by omega))
   clear hsl hkp her hb3 HC HQ0 HQ1 HQ2 HB2
   generalize frmN T P k0 = fr at HFF HO ⊢
   go_wp2_with (refine wpList_store_row rfl 32 _ _ rfl (w.heap.size + 1 + 1) #[.int .i64 fr.out, .int .i64 fr.cop, .int .i64 fr.cells, .slice sp9 fr.slots.length sc9, .slice kp9 fr.saves.length kc9, .int .i64 fr.link, .int .i64 fr.size, .int .i64 fr.in_] rfl rfl 32 _ (Zaa HQ3) (Tryz.infFrF.trans rfl) rfl (by simp [Value.oneCell']) ?_)
   refine bodyPost_ret (results_c2 (fn := Tryz.f18) (p := 6) (q := 7) (px := 32) rfl _ _ (w.heap.size + 1 + 1) 32 #[.int .i64 fr.out, .int .i64 fr.cop, .int .i64 fr.cells, .slice sp9 fr.slots.length sc9, .slice kp9 fr.saves.length kc9, .int .i64 fr.link, .int .i64 fr.size, .int .i64 fr.in_] (0, 0) _ rfl (setRow_heap _ _ _ _ _ _ (Zaa HQ3)) Tryz.underlying32 rfl (Tryz.infFrF.trans rfl)) rfl ?_
   rw [(Zaa HFF).1, (Zaa HFF).2]
   exact ⟨_, _, _, rfl, frO_mono (frO_set (Zaa HO) (by omega) _) (by omega), errOf_put (Zaa HE3) (Zaa HQ3) rfl _, Zag (Zaa HB3) (by omega)⟩
  ·
   have HFF := Zac (frm_out (Zaa HC0) hf)
   clear HC0 HG HE
   have p0 : w2.cell? ⟨w.heap.size + 1, 0, none⟩ = some (.slice pf P.funcs.length cf) := (Zab (Zaa HQ1) 0).trans rfl
   have p1 : w2.cell? ⟨w.heap.size + 1, 1, none⟩ = some (.slice pe P.externs.length ce) := (Zab (Zaa HQ1) 1).trans rfl
   by_cases hneg : f < 0
   ·
    clear hf
    go_wp2_with (refine wpList_store_row rfl 32 _ _ rfl (w.heap.size + 1 + 1) #[.int .i64 0, .int .i64 0, .int .i64 0, .slice none 0 0, .slice none 0 0, .int .i64 0, .int .i64 0, .int .i64 0] rfl rfl 32 _ (Zaa HQ2) (Tryz.infFrF.trans rfl) rfl (by simp [Value.oneCell']) ?_)
    refine bodyPost_ret (results_c2 (fn := Tryz.f18) (p := 6) (q := 7) (px := 32) rfl _ _ (w.heap.size + 1 + 1) 32 #[.int .i64 0, .int .i64 0, .int .i64 0, .slice none 0 0, .slice none 0 0, .int .i64 0, .int .i64 0, .int .i64 0] (0, 0) _ rfl (setRow_heap _ _ _ _ _ _ (Zaa HQ2)) Tryz.underlying32 rfl (Tryz.infFrF.trans rfl)) rfl ?_
    rw [(Zaa HFF).1, (Zaa HFF).2]
    exact ⟨_, _, _, rfl, frO_none _ _, Or.inr (Or.inl ⟨6, by decide, rfl, rfl⟩), Zag (Zaa HB2) (by omega)⟩
   ·
    have hge : (P.funcs.length : Int) ≤ f := by omega
    clear hf
    go_wp2_with (refine wpList_store_row rfl 32 _ _ rfl (w.heap.size + 1 + 1) #[.int .i64 0, .int .i64 0, .int .i64 0, .slice none 0 0, .slice none 0 0, .int .i64 0, .int .i64 0, .int .i64 0] rfl rfl 32 _ (Zaa HQ2) (Tryz.infFrF.trans rfl) rfl (by simp [Value.oneCell']) ?_)
    refine bodyPost_ret (results_c2 (fn := Tryz.f18) (p := 6) (q := 7) (px := 32) rfl _ _ (w.heap.size + 1 + 1) 32 #[.int .i64 0, .int .i64 0, .int .i64 0, .slice none 0 0, .slice none 0 0, .int .i64 0, .int .i64 0, .int .i64 0] (0, 0) _ rfl (setRow_heap _ _ _ _ _ _ (Zaa HQ2)) Tryz.underlying32 rfl (Tryz.infFrF.trans rfl)) rfl ?_
    rw [(Zaa HFF).1, (Zaa HFF).2]
    exact ⟨_, _, _, rfl, frO_none _ _, Or.inr (Or.inl ⟨6, by decide, rfl, rfl⟩), Zag (Zaa HB2) (by omega)⟩
 ·
  obtain ⟨et, eu, rfl⟩ := errOf_not he hc
  have HFF := Zac (frm_bad (f := f) hc)
  clear hc he
  go_wp2_with (refine wpList_store_row rfl 32 _ _ rfl (w.heap.size + 1 + 1) #[.int .i64 0, .int .i64 0, .int .i64 0, .slice none 0 0, .slice none 0 0, .int .i64 0, .int .i64 0, .int .i64 0] rfl rfl 32 _ (Zaa HQ2) (Tryz.infFrF.trans rfl) rfl (by simp [Value.oneCell']) ?_)
  refine bodyPost_ret (results_c2 (fn := Tryz.f18) (p := 6) (q := 7) (px := 32) rfl _ _ (w.heap.size + 1 + 1) 32 #[.int .i64 0, .int .i64 0, .int .i64 0, .slice none 0 0, .slice none 0 0, .int .i64 0, .int .i64 0, .int .i64 0] (0, 0) _ rfl (setRow_heap _ _ _ _ _ _ (Zaa HQ2)) Tryz.underlying32 rfl (Tryz.infFrF.trans rfl)) rfl ?_
  rw [(Zaa HFF).1, (Zaa HFF).2]
  exact ⟨_, _, _, rfl, frO_none _ _, errOf_put (Zaa HE) (Zaa HQ2) rfl _, Zag (Zaa HB2) (by omega)⟩
set_option maxHeartbeats 4000000 in
set_option maxRecDepth 100000 in
theorem prfr_c (T : TbE) (P : ProgE) (f : Int) (fv ev : Value) (A E : Nat → Array Value) (w : World) (hA : FrG0 w T P fv ev A E) :
 Calls Tryz.prog 9 #[.agg T.box, .agg #[fv, ev], .int .i64 f] w fun e w' => ∃ slv kv er, e = .returned (.tuple #[.agg #[.int .i64 (frmL T P f).out, .int .i64 (frmL T P f).cop, .int .i64 (frmL T P f).cells, slv, kv, .int .i64 (frmL T P f).link, .int .i64 (frmL T P f).size, .int .i64 (frmL T P f).in_], er]) ∧ FrO w' w.heap.size (frmL T P f) slv kv ∧ ErrOf w' er (frmY T P f) ∧ Below w.heap.size w w' := by
 obtain ⟨pf, cf, hfs⟩ := hA.p.fs.shape
 obtain ⟨pe, ce, hes⟩ := hA.p.es.shape
 subst hfs hes
 have hlf : P.funcs.length < 9223372036854775808 := by obtain ⟨_, _, _, _, h, _⟩ := hA.p.fs; exact h
 obtain ⟨r0, r1, r2, hZ, hB⟩ := rows3f w (.cells T.box 25 (0, 0)) (.cells #[.slice pf P.funcs.length cf, .slice pe P.externs.length ce] 29 (0, 0)) (.cells #[.int .i64 0, .int .i64 0, .int .i64 0, .slice none 0 0, .slice none 0 0, .int .i64 0, .int .i64 0, .int .i64 0] 32 (0, 0))
 have HC := Zac (fun (V : World) (hV : Below w.heap.size w V) => show Calls Tryz.prog 18 #[.agg #[.int .i64 T.r, .int .i64 T.sp, .int .i64 T.lk, .int .i64 T.t0, .int .i64 T.t1, .slice T.pa T.ag.length T.ca, .slice T.pr T.rs.length T.cr, .slice T.ps T.ss.length T.cs, .int .i64 T.al, .int .i64 T.sh, .int .i64 T.br, .bool T.pairs], .agg #[.slice pf P.funcs.length cf, .slice pe P.externs.length ce], .int .i64 f] V (fun e w' => ∃ slv kv er, e = .returned (.tuple #[.agg #[.int .i64 (frmL T P f).out, .int .i64 (frmL T P f).cop, .int .i64 (frmL T P f).cells, slv, kv, .int .i64 (frmL T P f).link, .int .i64 (frmL T P f).size, .int .i64 (frmL T P f).in_], er]) ∧ FrO w' V.heap.size (frmL T P f) slv kv ∧ ErrOf w' er (frmY T P f) ∧ Below V.heap.size V w') from flay_c T P f _ _ A E V (frG0_below hA hV))
 have HR0 := Zac r0
 have HR1 := Zac r1
 have HR2 := Zac r2
 have HB := Zac hB
 clear r0 r1 r2 hB hA
 have hbx : T.box = #[.int .i64 T.r, .int .i64 T.sp, .int .i64 T.lk, .int .i64 T.t0, .int .i64 T.t1, .slice T.pa T.ag.length T.ca, .slice T.pr T.rs.length T.cr, .slice T.ps T.ss.length T.cs, .int .i64 T.al, .int .i64 T.sh, .int .i64 T.br, .bool T.pairs] := rfl
 rw [hbx] at HR0 HR1 HR2 HB hZ ⊢
 clear hbx
 generalize frmL T P f = fr at HC ⊢
 generalize frmY T P f = fy at HC ⊢
 go_enter Tryz.func9, Tryz.ntmps9
 go_wp2_with fail
 generalize World.alloc (World.alloc (World.alloc w _) _) _ = W at HR0 HR1 HR2 HB hZ ⊢
 refine (Zaa HC W (Zaa HB)).mono ?_
 rintro e w3 ⟨slv, kv, er, rfl, ho, her, hb3⟩
 obtain ⟨sp9, sc9, rfl⟩ := Zan ho.1
 obtain ⟨kp9, kc9, rfl⟩ := Zan ho.2
 have hz3 := hb3.size
 have HQ3 := Zac ((hb3.block (w.heap.size + 1 + 1) (by omega)).trans (Zaa HR2))
 have HO := Zac ho
 have HE3 := Zac her
 have HB3 := Zac (Zad (Zaa HB) hb3 (by omega))
 clear ho her hb3 HC HR0 HR1 HR2 HB
 go_wp2_with (refine wpList_store_row rfl 32 _ _ rfl (w.heap.size + 1 + 1) #[.int .i64 fr.out, .int .i64 fr.cop, .int .i64 fr.cells, .slice sp9 fr.slots.length sc9, .slice kp9 fr.saves.length kc9, .int .i64 fr.link, .int .i64 fr.size, .int .i64 fr.in_] rfl rfl 32 _ (Zaa HQ3) (Tryz.infFrF.trans rfl) rfl (by simp [Value.oneCell']) ?_)
 refine bodyPost_ret (results_c2 (fn := Tryz.f9) (p := 6) (q := 7) (px := 32) rfl _ _ (w.heap.size + 1 + 1) 32 #[.int .i64 fr.out, .int .i64 fr.cop, .int .i64 fr.cells, .slice sp9 fr.slots.length sc9, .slice kp9 fr.saves.length kc9, .int .i64 fr.link, .int .i64 fr.size, .int .i64 fr.in_] (0, 0) _ rfl (setRow_heap _ _ _ _ _ _ (Zaa HQ3)) Tryz.underlying32 rfl (Tryz.infFrF.trans rfl)) rfl ?_
 exact ⟨_, _, _, rfl, frO_mono (frO_set (Zaa HO) (by omega) _) (by omega), errOf_put (Zaa HE3) (Zaa HQ3) rfl _, Zag (Zaa HB3) (by omega)⟩
set_option maxHeartbeats 4000000 in
set_option maxRecDepth 100000 in
theorem plfr_c (T : TbE) (P : ProgE) (f : Int) (fv ev : Value) (A E : Nat → Array Value) (w : World) (hA : FrG0 w T P fv ev A E) :
 Calls Tryz.prog 4 #[.agg T.box, .agg #[fv, ev], .int .i64 f] w fun e w' => ∃ slv kv, e = .returned (.tuple #[.agg #[.int .i64 (frmL T P f).out, .int .i64 (frmL T P f).cop, .int .i64 (frmL T P f).cells, slv, kv, .int .i64 (frmL T P f).link, .int .i64 (frmL T P f).size, .int .i64 (frmL T P f).in_], flt (frmY T P f).e (frmY T P f).f (frmY T P f).b (frmY T P f).a]) ∧ FrO w' w.heap.size (frmL T P f) slv kv ∧ Below w.heap.size w w' := by
 obtain ⟨pf, cf, hfs⟩ := hA.p.fs.shape
 obtain ⟨pe, ce, hes⟩ := hA.p.es.shape
 subst hfs hes
 have hlf : P.funcs.length < 9223372036854775808 := by obtain ⟨_, _, _, _, h, _⟩ := hA.p.fs; exact h
 obtain ⟨r0, r1, r2, r3, hZ, hB⟩ := rows4g w (.cells T.box 25 (0, 0)) (.cells #[.slice pf P.funcs.length cf, .slice pe P.externs.length ce] 29 (0, 0)) (.cells #[.int .i64 0, .int .i64 0, .int .i64 0, .slice none 0 0, .slice none 0 0, .int .i64 0, .int .i64 0, .int .i64 0] 32 (0, 0)) (.cells #[.int .i64 0, .int .i64 0, .int .i64 0, .int .i64 0] 34 (0, 0))
 have HC := Zac (fun (V : World) (hV : Below w.heap.size w V) => show Calls Tryz.prog 9 #[.agg #[.int .i64 T.r, .int .i64 T.sp, .int .i64 T.lk, .int .i64 T.t0, .int .i64 T.t1, .slice T.pa T.ag.length T.ca, .slice T.pr T.rs.length T.cr, .slice T.ps T.ss.length T.cs, .int .i64 T.al, .int .i64 T.sh, .int .i64 T.br, .bool T.pairs], .agg #[.slice pf P.funcs.length cf, .slice pe P.externs.length ce], .int .i64 f] V (fun e w' => ∃ slv kv er, e = .returned (.tuple #[.agg #[.int .i64 (frmL T P f).out, .int .i64 (frmL T P f).cop, .int .i64 (frmL T P f).cells, slv, kv, .int .i64 (frmL T P f).link, .int .i64 (frmL T P f).size, .int .i64 (frmL T P f).in_], er]) ∧ FrO w' V.heap.size (frmL T P f) slv kv ∧ ErrOf w' er (frmY T P f) ∧ Below V.heap.size V w') from prfr_c T P f _ _ A E V (frG0_below hA hV))
 have HER := Zac (fun (V : World) (hV : Below w.heap.size w V) => hA.er.keep hV)
 have HR0 := Zac r0
 have HR1 := Zac r1
 have HR2 := Zac r2
 have HR3 := Zac r3
 have HB := Zac hB
 clear r0 r1 r2 r3 hB hA
 have hbx : T.box = #[.int .i64 T.r, .int .i64 T.sp, .int .i64 T.lk, .int .i64 T.t0, .int .i64 T.t1, .slice T.pa T.ag.length T.ca, .slice T.pr T.rs.length T.cr, .slice T.ps T.ss.length T.cs, .int .i64 T.al, .int .i64 T.sh, .int .i64 T.br, .bool T.pairs] := rfl
 rw [hbx] at HR0 HR1 HR2 HR3 HB hZ ⊢
 clear hbx
 generalize frmL T P f = fr at HC ⊢
 generalize frmY T P f = fy at HC ⊢
 go_enter Tryz.func4, Tryz.ntmps4
 go_wp2_with fail
 generalize World.alloc (World.alloc (World.alloc (World.alloc w _) _) _) _ = W at HR0 HR1 HR2 HR3 HB hZ ⊢
 refine (Zaa HC W (Zaa HB)).mono ?_
 rintro e w3 ⟨slv, kv, er, rfl, ho, her, hb3⟩
 obtain ⟨sp9, sc9, rfl⟩ := Zan ho.1
 obtain ⟨kp9, kc9, rfl⟩ := Zan ho.2
 have hz3 := hb3.size
 have HD2 := Zac ((hb3.block (w.heap.size + 1 + 1) (by omega)).trans (Zaa HR2))
 have HD3 := Zac ((hb3.block (w.heap.size + 1 + 1 + 1) (by omega)).trans (Zaa HR3))
 have HB3 := Zac (Zad (Zaa HB) hb3 (by omega))
 have HO3 := Zac (frO_mono ho (show w.heap.size + 1 + 1 + 1 + 1 ≤ W.heap.size by omega))
 have HE := Zac her
 clear ho her hb3 HC HR0 HR1 HR2 HR3 HB
 have hal := al0 w3 (.cells #[.int .i64 0, .int .i64 0, .int .i64 0, .slice none 0 0, .slice none 0 0, .int .i64 0, .int .i64 0, .int .i64 0] 32 (0, 0))
 have HAL := Zac hal
 clear hal
 go_upto_region 2 with (refine wpList_store_row rfl 32 _ _ rfl (w3.heap.size) #[.int .i64 fr.out, .int .i64 fr.cop, .int .i64 fr.cells, .slice sp9 fr.slots.length sc9, .slice kp9 fr.saves.length kc9, .int .i64 fr.link, .int .i64 fr.size, .int .i64 fr.in_] rfl rfl 32 _ ((Zaa HAL).1) (Tryz.infFrF.trans rfl) rfl (by simp [Value.oneCell']) ?_)
 have hrl := setRow_heap _ _ _ #[.int .i64 fr.out, .int .i64 fr.cop, .int .i64 fr.cells, .slice sp9 fr.slots.length sc9, .slice kp9 fr.saves.length kc9, .int .i64 fr.link, .int .i64 fr.size, .int .i64 fr.in_] _ _ (Zaa HAL).1
 have hbl := Zag (T := w3.heap.size) (cs := #[.int .i64 fr.out, .int .i64 fr.cop, .int .i64 fr.cells, .slice sp9 fr.slots.length sc9, .slice kp9 fr.saves.length kc9, .int .i64 fr.link, .int .i64 fr.size, .int .i64 fr.in_]) (Zaa HAL).2.1 (Nat.le_refl _)
 have hlt := row_lt hrl
 clear HAL
 generalize World.setRow (World.alloc w3 _) _ _ = U at hrl hbl hlt ⊢
 have HRL := Zac hrl
 have HE2 := Zac ((hbl.block (w.heap.size + 1 + 1) (by omega)).trans (Zaa HD2))
 have HE3 := Zac ((hbl.block (w.heap.size + 1 + 1 + 1) (by omega)).trans (Zaa HD3))
 have HB5 := Zac (Zad (Zaa HB3) hbl (by omega))
 have HO5 := Zac (frO_below (Zaa HO3) hbl)
 have HFC := Zac (fault_of (Zaa HER U.drew (Zaa HB5).drew) (errOf_below (Zaa HE) hbl.drew))
 have hTl : w.heap.size + 1 + 1 + 1 < w3.heap.size := by omega
 clear hrl hbl HE HER HD2 HD3 HB3 HO3
 generalize w3.heap.size = Tl at HRL hlt hTl ⊢
 obtain ⟨fe, ff, fb, fa⟩ := fy
 refine wp_region_held_drew (S := fun V => V.heap[Tl]? = some (.cells #[.int .i64 fr.out, .int .i64 fr.cop, .int .i64 fr.cells, .slice sp9 fr.slots.length sc9, .slice kp9 fr.saves.length kc9, .int .i64 fr.link, .int .i64 fr.size, .int .i64 fr.in_] 32 (0, 0))) (by kernel_rfl) (Zaa HRL) (fun hHeld => ?_)
 refine tT 0 ?v0 rfl (by kernel_rfl) (fun _ _ _ h => h) (by rfl) ?hy0 (by assumption) ?_
 case hy0 =>
  intro V hV
  have c0 : V.cell? ⟨Tl, 0, none⟩ = some (.int .i64 fr.out) := (Zab hV 0).trans rfl
  have c1 : V.cell? ⟨Tl, 1, none⟩ = some (.int .i64 fr.cop) := (Zab hV 1).trans rfl
  have c2 : V.cell? ⟨Tl, 2, none⟩ = some (.int .i64 fr.cells) := (Zab hV 2).trans rfl
  have c3 : V.cell? ⟨Tl, 3, none⟩ = some (.slice sp9 fr.slots.length sc9) := (Zab hV 3).trans rfl
  have c4 : V.cell? ⟨Tl, 4, none⟩ = some (.slice kp9 fr.saves.length kc9) := (Zab hV 4).trans rfl
  have c5 : V.cell? ⟨Tl, 5, none⟩ = some (.int .i64 fr.link) := (Zab hV 5).trans rfl
  have c6 : V.cell? ⟨Tl, 6, none⟩ = some (.int .i64 fr.size) := (Zab hV 6).trans rfl
  have c7 : V.cell? ⟨Tl, 7, none⟩ = some (.int .i64 fr.in_) := (Zab hV 7).trans rfl
  go_simp
  all_goals (with_reducible rfl)
 simp only [Act.put, zA, zB, zC, zD, zE]
 refine tT 1 ?v1 rfl (by kernel_rfl) (fun _ _ _ h => h) (by rfl) ?hy1 (by assumption) ?_
 case hy1 =>
  intro V hV
  go_simp
  all_goals (with_reducible rfl)
 simp only [Act.put, zA, zB, zC, zD, zE, zF]
 refine wpAnyH_ready (rs := [2]) (by kernel_rfl) (by simp) ?_
 refine AllReadyH.cons rfl (fun K hK => ?_) AllReadyH.nil
 go_simp
 refine (Zaa HFC).mono ?_
 rintro e w5 ⟨rfl, hb5⟩
 have HS2 := Zac ((hb5.block (w.heap.size + 1 + 1) (by show w.heap.size + 1 + 1 < U.heap.size; omega)).trans (Zaa HE2))
 have HS3 := Zac ((hb5.block (w.heap.size + 1 + 1 + 1) (by show w.heap.size + 1 + 1 + 1 < U.heap.size; omega)).trans (Zaa HE3))
 have HSL := Zac ((hb5.block Tl (by show Tl < U.heap.size; omega)).trans (Zaa HRL))
 have HBU := Zac (Zad (Below.refl U.heap.size U).drew hb5 (Nat.le_refl _))
 have hz5 := hb5.size
 clear hb5
 unfold flt
 go_wp2_with fail
 refine hK.out _ _ (Zaa HSL) (fun hHeld2 => ?_)
 clear hK K
 try simp only [Act.put, zA, zB, zC, zD, zE, zF]
 refine wpAnyH_ready (rs := [3]) (by kernel_rfl) (by simp) ?_
 refine AllReadyH.cons rfl (fun K hK => ?_) AllReadyH.nil
 rw [if_pos (by rfl)]
 refine wp_store_row 32 _ _ rfl (w.heap.size + 1 + 1) #[.int .i64 fr.out, .int .i64 fr.cop, .int .i64 fr.cells, .slice sp9 fr.slots.length sc9, .slice kp9 fr.saves.length kc9, .int .i64 fr.link, .int .i64 fr.size, .int .i64 fr.in_] rfl rfl 32 _ (Zaa HS2) (Tryz.infFrF.trans rfl) rfl (by simp [Value.oneCell']) ?_
 have HS4 := Zac ((setRow_other w5 (w.heap.size + 1 + 1) (w.heap.size + 1 + 1 + 1) #[.int .i64 fr.out, .int .i64 fr.cop, .int .i64 fr.cells, .slice sp9 fr.slots.length sc9, .slice kp9 fr.saves.length kc9, .int .i64 fr.link, .int .i64 fr.size, .int .i64 fr.in_] (by omega)).trans (Zaa HS3))
 have HSM := Zac ((setRow_other w5 (w.heap.size + 1 + 1) Tl #[.int .i64 fr.out, .int .i64 fr.cop, .int .i64 fr.cells, .slice sp9 fr.slots.length sc9, .slice kp9 fr.saves.length kc9, .int .i64 fr.link, .int .i64 fr.size, .int .i64 fr.in_] (by omega)).trans (Zaa HSL))
 refine hK.out _ _ (Zaa HSM) (fun hHeld2 => ?_)
 clear hK K
 try simp only [Act.put]
 refine wpAnyH_ready (rs := [4]) (by kernel_rfl) (by simp) ?_
 refine AllReadyH.cons rfl (fun K hK => ?_) AllReadyH.nil
 rw [if_pos (by rfl)]
 refine wp_store_row 34 _ _ rfl (w.heap.size + 1 + 1 + 1) #[.int .i64 fe, .int .i64 ff, .int .i64 fb, .int .i64 fa] rfl rfl 34 _ (Zaa HS4) (Tryz.infPfK.trans rfl) rfl (by simp [Value.oneCell']) ?_
 refine hK.out _ _ ((setRow_other _ (w.heap.size + 1 + 1 + 1) Tl _ (by omega)).trans (Zaa HSM)) (fun hHeld2 => ?_)
 clear hK K
 try simp only [Act.put]
 refine wpAnyH_done (by kernel_rfl) ?_ _
 have HZ2 := Zac ((setRow_other (w5.setRow (w.heap.size + 1 + 1) #[.int .i64 fr.out, .int .i64 fr.cop, .int .i64 fr.cells, .slice sp9 fr.slots.length sc9, .slice kp9 fr.saves.length kc9, .int .i64 fr.link, .int .i64 fr.size, .int .i64 fr.in_]) (w.heap.size + 1 + 1 + 1) (w.heap.size + 1 + 1) #[.int .i64 fe, .int .i64 ff, .int .i64 fb, .int .i64 fa] (by omega)).trans (setRow_heap _ _ _ #[.int .i64 fr.out, .int .i64 fr.cop, .int .i64 fr.cells, .slice sp9 fr.slots.length sc9, .slice kp9 fr.saves.length kc9, .int .i64 fr.link, .int .i64 fr.size, .int .i64 fr.in_] _ _ (Zaa HS2)))
 have HZ3 := Zac (setRow_heap _ _ _ #[.int .i64 fe, .int .i64 ff, .int .i64 fb, .int .i64 fa] _ _ (Zaa HS4))
 go_wp2
 refine bodyPost_ret (results_cc (fn := Tryz.f4) (p := 6) (q := 7) (px := 32) (uy := 34) rfl _ _ (w.heap.size + 1 + 1) 32 #[.int .i64 fr.out, .int .i64 fr.cop, .int .i64 fr.cells, .slice sp9 fr.slots.length sc9, .slice kp9 fr.saves.length kc9, .int .i64 fr.link, .int .i64 fr.size, .int .i64 fr.in_] (0, 0) _ (w.heap.size + 1 + 1 + 1) 34 #[.int .i64 fe, .int .i64 ff, .int .i64 fb, .int .i64 fa] (0, 0) _ rfl (Zaa HZ2) Tryz.underlying32 rfl (Tryz.infFrF.trans rfl) rfl (Zaa HZ3) Tryz.underlying34 rfl (Tryz.infPfK.trans rfl)) rfl ?_
 have h6 := Zad (Zaa HB5) (Zaa HBU) (by omega)
 exact ⟨_, _, rfl, frO_mono (frO_set (frO_set (frO_below (Zaa HO5) (Zaa HBU)) (by omega) _) (by omega) _) (by omega), Zag (Zag h6 (by omega)) (by omega)⟩
end Go.Proofs.YtffemeicclhioaaGreatDoor
