/-
  table.Print by its contract. Own work of the verifier.
-/
import Derived.Test.YtobempobmokkcaaGreatDoorPrtItem
namespace Go.Proofs.YtobempobmokkcaaGreatDoor
open Go.RowKit

theorem gB_mono {a b : Nat} (h : gB a) (hab : a ≤ b) : gB b := ⟨Nat.lt_of_lt_of_le h.1 hab, Nat.lt_of_lt_of_le h.2 hab⟩
/-- The builder, the tables, and the struct's box. -/
structure St (w : World) (x : Nat) (vals : Array Value) (l : List UInt8) : Prop where
  tabs : Tabs w
  bd : Bd w (x + 1) l
  box : ∀ i, w.cell? ⟨x, i, none⟩ = vals[i]?
  gb : gB (x + 1)
theorem St.wr {w w' : World} {x : Nat} {vals : Array Value} {l l' : List UInt8} (h : St w x vals l) (hw : Wr w w' (x + 1)) (hb : Bd w' (x + 1) l') : St w' x vals l' :=
  ⟨h.tabs.below hw.low h.gb, hb, fun i => (hw.low.cell (p := ⟨x, i, none⟩) (Nat.lt_succ_self x)).trans (h.box i), h.gb⟩
theorem St.alloc {w : World} {x : Nat} {vals : Array Value} {l : List UInt8} (h : St w x vals l) (o : Obj) : St (w.alloc o) x vals l :=
  h.wr (Wr.of_below ((Below.refl _ _).alloc (Nat.le_refl _) o) (Nat.le_of_lt h.bd.lt)) (h.bd.below ((Below.refl _ _).alloc (Nat.le_refl _) o))
/-- One item whose numbers are a new row. -/
theorem item_new (k : Nat) (hk : k < 11) (ki : Int) (hki : ki = (k : Int)) (sb : Nat) (ns : List Int) (c : Array Value) (hc : c = (ns.map (Value.int .i64)).toArray) (n : Nat) (hn : n = ns.length) {x : Nat} {vals : Array Value} {l : List UInt8} (w : World) (S : St w x vals l) (hok : okI ns) (hlen : l.length + 21 * ns.length + 40 ≤ 140737488355328) (cap : Nat) (hsb : sb = w.heap.size) :
    Calls Tryz.prog 61 #[.pointer (some ⟨x + 1, 0, none⟩), .int .i64 ki, .slice (some ⟨sb, 0, none⟩) n cap] (w.alloc (.cells c 3)) fun e w' => e = .returned (.tuple #[]) ∧ St w' x vals (l ++ itemText k ns) ∧ Wr w w' (x + 1) := by
  subst hn hsb hki
  have hx := S.bd.lt
  have hR : Rd (w.alloc (.cells c 3)) (x + 1) w.heap.size 0 ns := by
    refine ⟨fun i hi => ?_, Or.inr ⟨by omega, c, (0, 0), ?_⟩⟩
    · rw [World.cell?_alloc_at _ _ _ _ rfl, hc]; simp [List.getD, hi]
    · unfold World.alloc; exact Array.getElem?_push_size
  have S1 := S.alloc (.cells c 3)
  refine (pitem_row k hk (x + 1) l w.heap.size 0 cap ns _ S1.tabs S1.bd S1.gb hR hok hlen).mono ?_
  rintro e w' ⟨h1, h2, h3⟩
  exact ⟨h1, S1.wr h3 h2, (Wr.of_below ((Below.refl _ _).alloc (Nat.le_refl _) _) (Nat.le_of_lt hx)).trans h3⟩
theorem item_old (k : Nat) (hk : k < 11) (ki : Int) (hki : ki = (k : Int)) (v : Value) (ns : List Int) {x : Nat} {vals : Array Value} {l : List UInt8} (w : World) (S : St w x vals l) (hL : Lst w (x + 1) v ns) (hok : okI ns) (hlen : l.length + 21 * ns.length + 40 ≤ 140737488355328) :
    Calls Tryz.prog 61 #[.pointer (some ⟨x + 1, 0, none⟩), .int .i64 ki, v] w fun e w' => e = .returned (.tuple #[]) ∧ St w' x vals (l ++ itemText k ns) ∧ Wr w w' (x + 1) := by
  subst hki
  exact (pitem k hk (x + 1) l v ns w S.tabs S.bd S.gb hL hok hlen).mono fun _ _ ⟨h1, h2, h3⟩ => ⟨h1, S.wr h3 h2, h3⟩
theorem Lst.wr {w w' : World} {b : Nat} {v : Value} {ns : List Int} (h : Lst w b v ns) (hw : Wr w w' b) : Lst w' b v ns := by
  rcases h with h | ⟨sb, so, cap, e, hR⟩
  · exact Or.inl h
  · exact Or.inr ⟨sb, so, cap, e, hR.wr hw⟩
theorem Lst.old {w w' : World} {b b' : Nat} {v : Value} {ns : List Int} (h : Lst w b v ns) (hb : Below b w w') (hlow : ∀ sb so cap, v = .slice (some ⟨sb, so, none⟩) ns.length cap → ns ≠ [] → sb < b) (hbb : b ≤ b') : Lst w' b' v ns := by
  rcases h with h | ⟨sb, so, cap, e, hR⟩
  · exact Or.inl h
  · cases ns with
    | nil => exact Or.inl ⟨rfl, _, _, e⟩
    | cons n r =>
      have hs := hlow sb so cap e (by simp)
      exact Or.inr ⟨sb, so, cap, e, ⟨fun i hi => (hb.cell (p := ⟨sb, so + i, none⟩) hs).trans (hR.cell i hi), Or.inl (by omega)⟩⟩

/-- The whole text. -/
def printText (r sp lk t0 t1 : Int) (ag rs ss : List Int) (al sh by_ : Int) (pr : Bool) : List UInt8 :=
  itemText 0 [r] ++ (itemText 1 [sp] ++ (itemText 2 [lk] ++ (itemText 3 [t0, t1] ++ (itemText 4 ag ++ (itemText 5 rs ++ (itemText 6 ss ++ (itemText 7 [al] ++ (itemText 8 [sh] ++ (itemText 9 [by_] ++ (if pr then itemText 10 [] else []))))))))))

def boxOf (r sp lk t0 t1 : Int) (va vr vs : Value) (al sh by_ : Int) (pr : Bool) : Array Value :=
  #[.int .i64 r, .int .i64 sp, .int .i64 lk, .int .i64 t0, .int .i64 t1, va, vr, vs, .int .i64 al, .int .i64 sh, .int .i64 by_, .bool pr]
def okN (n : Int) : Prop := -9223372036854775808 ≤ n ∧ n ≤ 9223372036854775807
theorem okI1 {n : Int} (h : okN n) : okI [n] := fun x hx => by simp at hx; subst hx; exact h
theorem okI2 {n m : Int} (h : okN n) (k : okN m) : okI [n, m] := fun x hx => by
  simp at hx
  rcases hx with rfl | rfl
  · exact h
  · exact k
theorem item_len (k : Nat) {ns : List Int} (h : okI ns) : (itemText k ns).length ≤ 21 * ns.length + 9 := by
  have h1 := nm_len k
  have h2 := numsText_len k ns h
  simp [itemText]; omega

set_option maxHeartbeats 4000000 in
theorem tprint (r sp lk t0 t1 : Int) (va vr vs : Value) (al sh by_ : Int) (pr : Bool) (ag rs ss : List Int) (w : World) (hT : Tabs w)
    (o0 : okN r) (o1 : okN sp) (o2 : okN lk) (o3 : okN t0) (o4 : okN t1) (o5 : okN al) (o6 : okN sh) (o7 : okN by_) (oa : okI ag) (orr : okI rs) (os : okI ss)
    (la : ∀ w' b, Below w.heap.size w w' → w.heap.size ≤ b → Lst w' b va ag) (lr : ∀ w' b, Below w.heap.size w w' → w.heap.size ≤ b → Lst w' b vr rs) (ls : ∀ w' b, Below w.heap.size w w' → w.heap.size ≤ b → Lst w' b vs ss)
    (hsm : ag.length + rs.length + ss.length ≤ 4000000) :
    Calls Tryz.prog 36 #[.agg (boxOf r sp lk t0 t1 va vr vs al sh by_ pr)] w fun e w' => e = .returned (.string ⟨(printText r sp lk t0 t1 ag rs ss al sh by_ pr).toArray⟩) ∧ Below w.heap.size w w' := by
  have HT := hideP hT
  have HO := hideP (And.intro o0 (And.intro o1 (And.intro o2 (And.intro o3 (And.intro o4 (And.intro o5 (And.intro o6 o7)))))))
  have HA := hideP (And.intro oa (And.intro orr os))
  have HL := hideP (And.intro la (And.intro lr ls))
  clear hT o0 o1 o2 o3 o4 o5 o6 o7 oa orr os la lr ls
  have i0 := item_len 0 (okI1 (unhideP HO).1)
  have i1 := item_len 1 (okI1 (unhideP HO).2.1)
  have i2 := item_len 2 (okI1 (unhideP HO).2.2.1)
  have i3 := item_len 3 (okI2 (unhideP HO).2.2.2.1 (unhideP HO).2.2.2.2.1)
  have i4 := item_len 4 (unhideP HA).1
  have i5 := item_len 5 (unhideP HA).2.1
  have i6 := item_len 6 (unhideP HA).2.2
  have i7 := item_len 7 (okI1 (unhideP HO).2.2.2.2.2.1)
  have i8 := item_len 8 (okI1 (unhideP HO).2.2.2.2.2.2.1)
  have i9 := item_len 9 (okI1 (unhideP HO).2.2.2.2.2.2.2)
  simp only [List.length_cons, List.length_nil] at i0 i1 i2 i3 i7 i8 i9
  have S0 : St ((w.alloc (.cells (boxOf r sp lk t0 t1 va vr vs al sh by_ pr) 25)).alloc (.cells #[.pointer none, .slice none 0 0] 149)) w.heap.size (boxOf r sp lk t0 t1 va vr vs al sh by_ pr) [] := by
    refine ⟨?_, ?_, fun i => ?_, gB_mono (unhideP HT).gb (by omega)⟩
    · exact (unhideP HT).below (((Below.refl w.heap.size w).alloc (Nat.le_refl _) _).alloc (by simp) _) (unhideP HT).gb
    · have := Bd.fresh (w.alloc (.cells (boxOf r sp lk t0 t1 va vr vs al sh by_ pr) 25))
      simpa using this
    · rw [World.cell?_alloc_lt _ _ ⟨w.heap.size, i, none⟩ (by simp), World.cell?_alloc_at _ _ _ _ rfl]
  have HS0 := hideP S0
  clear S0
  have HB0 := hideP (((Below.refl w.heap.size w).alloc (Nat.le_refl _) (.cells (boxOf r sp lk t0 t1 va vr vs al sh by_ pr) 25)).alloc (by simp) (.cells #[.pointer none, .slice none 0 0] 149))
  unfold boxOf at HS0 HB0 ⊢
  go_enter Tryz.func36, Tryz.ntmps36
  go_wp2_with fail
  refine (item_new 0 (by omega) _ rfl _ [r] #[.int .i64 r] rfl 1 rfl _ (unhideP HS0) (okI1 (unhideP HO).1) (by simp) _ (by simp)).mono ?_
  rintro e w1 ⟨rfl, hS, hW⟩
  have HS1 := hideP hS
  have HB1 := hideP ((unhideP HB0).trans (hW.low.mono (by omega)))
  clear hS hW
  have hbx := (unhideP HS1).box
  go_wp2_with fail
  clear hbx
  refine (item_new 1 (by omega) _ rfl _ [sp] #[.int .i64 sp] rfl 1 rfl _ (unhideP HS1) (okI1 (unhideP HO).2.1) (by simp; omega) _ (by simp)).mono ?_
  rintro e w2 ⟨rfl, hS, hW⟩
  have HS2 := hideP hS
  have HB2 := hideP ((unhideP HB1).trans (hW.low.mono (by omega)))
  clear hS hW
  have hbx := (unhideP HS2).box
  go_wp2_with fail
  clear hbx
  refine (item_new 2 (by omega) _ rfl _ [lk] #[.int .i64 lk] rfl 1 rfl _ (unhideP HS2) (okI1 (unhideP HO).2.2.1) (by simp; omega) _ (by simp)).mono ?_
  rintro e w3 ⟨rfl, hS, hW⟩
  have HS3 := hideP hS
  have HB3 := hideP ((unhideP HB2).trans (hW.low.mono (by omega)))
  clear hS hW
  have hbx := (unhideP HS3).box
  go_wp2_with fail
  clear hbx
  refine (item_new 3 (by omega) _ rfl _ [t0, t1] #[.int .i64 t0, .int .i64 t1] rfl 2 rfl _ (unhideP HS3) (okI2 (unhideP HO).2.2.2.1 (unhideP HO).2.2.2.2.1) (by simp; omega) _ (by simp)).mono ?_
  rintro e w4 ⟨rfl, hS, hW⟩
  have HS4 := hideP hS
  have HB4 := hideP ((unhideP HB3).trans (hW.low.mono (by omega)))
  clear hS hW
  have hbx := (unhideP HS4).box
  go_wp2_with fail
  clear hbx
  refine (item_old 4 (by omega) _ rfl va ag _ (unhideP HS4) ((unhideP HL).1 _ _ (unhideP HB4) (by omega)) ((unhideP HA).1) (by simp; omega)).mono ?_
  rintro e w5 ⟨rfl, hS, hW⟩
  have HS5 := hideP hS
  have HB5 := hideP ((unhideP HB4).trans (hW.low.mono (by omega)))
  clear hS hW
  have hbx := (unhideP HS5).box
  go_wp2_with fail
  clear hbx
  refine (item_old 5 (by omega) _ rfl vr rs _ (unhideP HS5) ((unhideP HL).2.1 _ _ (unhideP HB5) (by omega)) ((unhideP HA).2.1) (by simp; omega)).mono ?_
  rintro e w6 ⟨rfl, hS, hW⟩
  have HS6 := hideP hS
  have HB6 := hideP ((unhideP HB5).trans (hW.low.mono (by omega)))
  clear hS hW
  have hbx := (unhideP HS6).box
  go_wp2_with fail
  clear hbx
  refine (item_old 6 (by omega) _ rfl vs ss _ (unhideP HS6) ((unhideP HL).2.2 _ _ (unhideP HB6) (by omega)) ((unhideP HA).2.2) (by simp; omega)).mono ?_
  rintro e w7 ⟨rfl, hS, hW⟩
  have HS7 := hideP hS
  have HB7 := hideP ((unhideP HB6).trans (hW.low.mono (by omega)))
  clear hS hW
  have hbx := (unhideP HS7).box
  go_wp2_with fail
  clear hbx
  refine (item_new 7 (by omega) _ rfl _ [al] #[.int .i64 al] rfl 1 rfl _ (unhideP HS7) (okI1 (unhideP HO).2.2.2.2.2.1) (by simp; omega) _ (by simp)).mono ?_
  rintro e w8 ⟨rfl, hS, hW⟩
  have HS8 := hideP hS
  have HB8 := hideP ((unhideP HB7).trans (hW.low.mono (by omega)))
  clear hS hW
  have hbx := (unhideP HS8).box
  go_wp2_with fail
  clear hbx
  refine (item_new 8 (by omega) _ rfl _ [sh] #[.int .i64 sh] rfl 1 rfl _ (unhideP HS8) (okI1 (unhideP HO).2.2.2.2.2.2.1) (by simp; omega) _ (by simp)).mono ?_
  rintro e w9 ⟨rfl, hS, hW⟩
  have HS9 := hideP hS
  have HB9 := hideP ((unhideP HB8).trans (hW.low.mono (by omega)))
  clear hS hW
  have hbx := (unhideP HS9).box
  go_wp2_with fail
  clear hbx
  refine (item_new 9 (by omega) _ rfl _ [by_] #[.int .i64 by_] rfl 1 rfl _ (unhideP HS9) (okI1 (unhideP HO).2.2.2.2.2.2.2) (by simp; omega) _ (by simp)).mono ?_
  rintro e w10 ⟨rfl, hS, hW⟩
  have HS10 := hideP hS
  have HB10 := hideP ((unhideP HB9).trans (hW.low.mono (by omega)))
  clear hS hW
  have hbx := (unhideP HS10).box
  cases pr with
  | true =>
    go_wp2_with fail
    clear hbx
    refine (item_old 10 (by omega) _ rfl (.slice none 0 0) [] _ (unhideP HS10) (Or.inl ⟨rfl, _, _, rfl⟩) (fun _ h => by cases h) (by simp; omega)).mono ?_
    rintro e w11 ⟨rfl, hS, hW⟩
    have HS11 := hideP hS
    have HB11 := hideP ((unhideP HB10).trans (hW.low.mono (by omega)))
    clear hS hW
    go_wp2_with fail
    refine (bstr _ _ _ (unhideP HS11).bd).mono ?_
    rintro e w12 ⟨rfl, hW⟩
    have HB12 := hideP ((unhideP HB11).trans (hW.low.mono (by omega)))
    clear hW
    go_wp2
    go_ret
    refine ⟨?_, unhideP HB12⟩
    simp [printText]
  | false =>
    go_wp2_with fail
    clear hbx
    refine (bstr _ _ _ (unhideP HS10).bd).mono ?_
    rintro e w12 ⟨rfl, hW⟩
    have HB12 := hideP ((unhideP HB10).trans (hW.low.mono (by omega)))
    clear hW
    go_wp2
    go_ret
    refine ⟨?_, unhideP HB12⟩
    simp [printText]
end Go.Proofs.YtobempobmokkcaaGreatDoor
