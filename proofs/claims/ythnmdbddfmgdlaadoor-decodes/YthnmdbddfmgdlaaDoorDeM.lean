/-
  Decodes: the statement's comparisons, at equal ones. Own work of the verifier.
-/
import Derived.Test.YthnmdbddfmgdlaaDoorDecB
import Derived.Test.YthnmdbddfmgdlaaDoorEncY
import Derived.Deep.QuietTactic
import Derived.BigQuiet
namespace Go.Proofs.YthnmdbddfmgdlaaDoor
open Go.RowKit

theorem RsB.heap {w w' : World} {b : Nat} {v : Value} {ns : List Int} (h : RsB w b v ns) (e : w'.heap = w.heap) : RsB w' b v ns := h.same (fun k _ => by rw [e])
set_option maxHeartbeats 2000000 in
set_option maxRecDepth 100000 in
theorem ints_q (ns : List Int) (va vb : Value) (b : Nat) (w : World) (ha : RsB w b va ns) (hb : RsB w b vb ns) (hn : ns.length < short) : Calls Tryd.prog 33 #[va, vb] w fun x w' => x = .returned (.bool true) ∧ ∃ m, w' = w.drewN m := by
  obtain ⟨pa, ca, rfl⟩ := ha.shape
  obtain ⟨pb, cb, rfl⟩ := hb.shape
  have hn' : ns.length < 9223372036854775808 := hn
  have hne : ((ns.length : Int) != (ns.length : Int)) = false := by simp
  have HA := hideE ha
  have HB := hideE hb
  clear ha hb
  go_enter Tryd.func33, Tryd.ntmps33
  go_wp2
  go_loopw [13] (fun j w' => ∃ (k m : Nat), j = .int .i64 k ∧ k ≤ ns.length ∧ w' = w.drewN m) (fun j _ => ns.length - (intOf j).toNat)
  case atStart => exact ⟨0, 0, rfl, by omega, rfl⟩
  case round =>
    obtain ⟨k, m, rfl, hk, hw⟩ := hrel
    subst hw
    by_cases hlt : k < ns.length
    · obtain ⟨sa, oa, ca', hva, -, hca⟩ := (unhideE HA).resolve_left (fun c => by rw [c.1] at hlt; simp at hlt)
      obtain ⟨sb, ob, cb', hvb, -, hcb⟩ := (unhideE HB).resolve_left (fun c => by rw [c.1] at hlt; simp at hlt)
      injection hva with e1 e2 e3
      injection hvb with e4 e5 e6
      subst e1 e4
      have c1 := hca k hlt
      have c2 := hcb k hlt
      have hxx : (ns.getD k 0 != ns.getD k 0) = false := by simp
      clear hca hcb e2 e3 e5 e6
      generalize ns.getD k 0 = x at c1 c2 hxx
      go_wp2
      go_quiet (fail)
      go_wp2
      go_roundw
      case rel => exact ⟨k + 1, _, by go_num, by omega, rfl⟩
      case measure => simp [intOf]; omega
    · obtain rfl : k = ns.length := by omega
      go_wp2
      go_ret
      exact ⟨rfl, m, rfl⟩
theorem map2_len {α : Type} {pa pb : List (Array Value × α)} {xs : List α} (ha : pa.map (·.2) = xs) (hb : pb.map (·.2) = xs) : pa.length = xs.length ∧ pb.length = xs.length := ⟨by rw [← ha]; simp, by rw [← hb]; simp⟩
theorem map2_get {α : Type} {pa : List (Array Value × α)} {xs : List α} (ha : pa.map (·.2) = xs) (k : Nat) (h1 : k < pa.length) (h2 : k < xs.length) : pa[k].2 = xs[k] := by subst ha; simp
set_option maxHeartbeats 4000000 in
set_option maxRecDepth 100000 in
theorem sigs_q (xs : List (List Int × Int)) (pa pb : List (Array Value × (List Int × Int))) (va vb : Value) (b : Nat) (w : World) (ha : LsB 2 w b va pa) (hb : LsB 2 w b vb pb) (ma : pa.map (·.2) = xs) (mb : pb.map (·.2) = xs) (ea : ∀ q ∈ pa, SigAt w b q) (eb : ∀ q ∈ pb, SigAt w b q) (hn : xs.length < short) : Calls Tryd.prog 24 #[va, vb] w fun x w' => x = .returned (.bool true) ∧ ∃ m, w' = w.drewN m := by
  obtain ⟨l1, l2⟩ := map2_len ma mb
  obtain ⟨qa, ca, hva⟩ := ha.shape
  obtain ⟨qb, cb, hvb⟩ := hb.shape
  rw [l1] at hva
  rw [l2] at hvb
  subst hva hvb
  have hn' : xs.length < 9223372036854775808 := hn
  have hne : ((xs.length : Int) != (xs.length : Int)) = false := by simp
  have HA := hideE ha
  have HB := hideE hb
  have HMA := hideE ma
  have HMB := hideE mb
  have HEA := hideE ea
  have HEB := hideE eb
  have HL1 := hideE l1
  have HL2 := hideE l2
  clear ha hb ma mb ea eb l1 l2
  go_enter Tryd.func24, Tryd.ntmps24
  go_wp2
  go_loopw [13] (fun j w' => ∃ (k m : Nat), j = .int .i64 k ∧ k ≤ xs.length ∧ w' = w.drewN m) (fun j _ => xs.length - (intOf j).toNat)
  case atStart => exact ⟨0, 0, rfl, by omega, rfl⟩
  case round =>
    obtain ⟨k, m, rfl, hk, hw⟩ := hrel
    have hh : wr.heap = w.heap := by rw [hw]; rfl
    have HW := hideE hw
    have HH := hideE hh
    clear hw hh
    by_cases hlt : k < xs.length
    · have hka : k < pa.length := by rw [unhideE HL1]; exact hlt
      have hkb : k < pb.length := by rw [unhideE HL2]; exact hlt
      obtain ⟨sa, oa, ca', hva, -, hca⟩ := (unhideE HA).resolve_left (fun c => by rw [c.1] at hka; simp at hka)
      obtain ⟨sb, ob, cb', hvb, -, hcb⟩ := (unhideE HB).resolve_left (fun c => by rw [c.1] at hkb; simp at hkb)
      injection hva with e1 e2 e3
      injection hvb with e4 e5 e6
      subst e1 e4
      have ra := hca k hka
      have rb := hcb k hkb
      obtain ⟨lva, ha1, ha2, ha3⟩ := unhideE HEA pa[k] (List.getElem_mem hka)
      obtain ⟨lvb, hb1, hb2, hb3⟩ := unhideE HEB pb[k] (List.getElem_mem hkb)
      rw [map2_get (unhideE HMA) k hka hlt] at ha1 ha2 ha3
      rw [map2_get (unhideE HMB) k hkb hlt] at hb1 hb2 hb3
      rw [ha1] at ra
      rw [hb1] at rb
      generalize xs[k] = y at ra rb ha2 ha3 hb2 hb3
      obtain ⟨y1, y2⟩ := y
      simp only at ra rb ha2 ha3 hb2 hb3
      have c1 := (World.cell?_of_block (by rw [unhideE HH])).trans (ra 1 _ rfl)
      have c2 := (World.cell?_of_block (by rw [unhideE HH])).trans (rb 1 _ rfl)
      have c3 := (World.cell?_of_block (by rw [unhideE HH])).trans (ra 0 _ rfl)
      have c4 := (World.cell?_of_block (by rw [unhideE HH])).trans (rb 0 _ rfl)
      rw [Nat.add_zero] at c3 c4
      have hyy : (y2 != y2) = false := by simp
      have HQ := hideE (fun (V : World) (hV : V.heap = w.heap) => ints_q y1 lva lvb b V (ha2.heap hV) (hb2.heap hV) ha3)
      obtain ⟨p1, c1', e7⟩ := ha2.shape
      obtain ⟨p2, c2', e8⟩ := hb2.shape
      subst e7 e8
      clear hca hcb e2 e3 e5 e6 ra rb ha1 hb1 ha2 hb2 ha3 hb3 hka hkb
      go_wp2
      go_quiet ((go_at_call 33; exact Calls.quiet_of (unhideE HQ _ (unhideE HH))))
      go_wp2
      go_roundw
      case rel => exact ⟨k + 1, _, by go_num, by omega, by rw [unhideE HW]; exact World.drewN_drewN _ _ _⟩
      case measure => simp [intOf]; omega
    · obtain rfl : k = xs.length := by omega
      go_wp2
      go_ret
      exact ⟨rfl, m, unhideE HW⟩
end Go.Proofs.YthnmdbddfmgdlaaDoor
