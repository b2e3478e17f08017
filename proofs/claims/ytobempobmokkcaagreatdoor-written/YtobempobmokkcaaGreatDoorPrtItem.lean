/-
  table.numberText, table.printItem by contracts. Own work of the verifier.
-/
import Derived.Test.YtobempobmokkcaaGreatDoorPrtBuild
import Derived.WalkSmall
namespace Go.Proofs.YtobempobmokkcaaGreatDoor
open Go.RowKit

def Items (w : World) : Prop := ∀ k, k < 11 → w.cell? ⟨1, k * 5, none⟩ = some (.string ⟨(nm k).toArray⟩) ∧ w.cell? ⟨1, k * 5 + 3, none⟩ = some (.bool (decide (k = 2)))
def gB (B : Nat) : Prop := 1 < B ∧ 6 < B
structure Tabs (w : World) : Prop where
  items : Items w
  pow : Lib.TabIs Tryz.prog w "internal/strconv.uint64pow10" .u64 Lib.pow10Tab
theorem Tryz.gPow : Tryz.prog.globalNamed "internal/strconv.uint64pow10" = some 6 := by kernel_rfl
theorem Tabs.blk {w w' : World} (h : Tabs w) (h1 : w'.heap[1]? = w.heap[1]?) (h2 : w'.heap[6]? = w.heap[6]?) : Tabs w' := by
  refine ⟨fun k hk => ⟨(World.cell?_of_block h1).trans (h.items k hk).1, (World.cell?_of_block h1).trans (h.items k hk).2⟩, ?_⟩
  have hp := h.pow
  unfold Lib.TabIs at hp ⊢
  rw [← hp]
  simp only [World.var?, Tryz.gPow, Option.bind_some, h2]
theorem ltc {w : World} {b o : Nat} {v : Value} (h : w.cell? ⟨b, o, none⟩ = some v) : b < w.heap.size := by
  rcases Nat.lt_or_ge b w.heap.size with h' | h'
  · exact h'
  · simp [World.cell?, Array.getElem?_eq_none h'] at h
theorem Tabs.gb {w : World} (h : Tabs w) : gB w.heap.size := ⟨ltc (h.items 0 (by omega)).1, ltc (h.pow.cell Tryz.gPow 0 (by decide))⟩
theorem Tabs.below {w w' : World} {B : Nat} (h : Tabs w) (hb : Below B w w') (hB : gB B) : Tabs w' := h.blk (hb.block _ hB.1) (hb.block _ hB.2)

set_option maxHeartbeats 400000 in
theorem ntext (k : Nat) (hk : k < 11) (n : Int) (h0 : -9223372036854775808 ≤ n) (h1 : n ≤ 9223372036854775807) (w : World) (hT : Tabs w) :
    Calls Tryz.prog 100 #[.int .i64 k, .int .i64 n] w fun e w' => e = .returned (.string ⟨(numText k n).toArray⟩) ∧ Below w.heap.size w w' := by
  have hc := (hT.items k hk).2
  have HT := hideP hT
  clear hT
  by_cases h2 : k = 2
  · subst h2
    by_cases hm : n = -1
    · have HE := hideP (show numText 2 n = [45] by simp [numText, hm])
      have hm' : (n == -1) = true := by simp [hm]
      clear hm
      simp only [decide_true] at hc
      go_enter Tryz.func100, Tryz.ntmps100
      go_wp2
      go_ret
      rw [unhideP HE]
      exact ⟨rfl, Below.refl _ _⟩
    · have HE := hideP (show numText 2 n = Lib.itoa n by simp [numText, hm])
      have hm' : (n == -1) = false := by simp [hm]
      clear hm
      simp only [decide_true] at hc
      go_enter Tryz.func100, Tryz.ntmps100
      go_wp2_with fail
      refine (itoa_any n h0 h1 _ (unhideP HT).pow).mono ?_
      rintro e w' ⟨rfl, hb⟩
      have HB := hideP hb
      clear hb
      go_wp2
      go_ret
      rw [unhideP HE]
      exact ⟨rfl, unhideP HB⟩
  · have HE := hideP (show numText k n = Lib.itoa n by simp [numText, h2])
    rw [show decide (k = 2) = false by simp [h2]] at hc
    clear h2
    go_enter Tryz.func100, Tryz.ntmps100
    go_wp2_with fail
    refine (itoa_any n h0 h1 _ (unhideP HT).pow).mono ?_
    rintro e w' ⟨rfl, hb⟩
    have HB := hideP hb
    clear hb
    go_wp2
    go_ret
    rw [unhideP HE]
    exact ⟨rfl, unhideP HB⟩

/-- What a call of printItem is handed: a list of numbers, nil or not. -/
def Lst (w : World) (b : Nat) (v : Value) (ns : List Int) : Prop := (ns = [] ∧ ∃ p cap, v = .slice p 0 cap) ∨ ∃ sb so cap, v = .slice (some ⟨sb, so, none⟩) ns.length cap ∧ Rd w b sb so ns
def okI (ns : List Int) : Prop := ∀ n ∈ ns, -9223372036854775808 ≤ n ∧ n ≤ 9223372036854775807
theorem toList_mk (l : List UInt8) : (⟨l.toArray⟩ : ByteArray).data.toList = l := rfl
theorem size_mk (l : List UInt8) : (⟨l.toArray⟩ : ByteArray).size = l.length := rfl
theorem take_snoc_getD (ns : List Int) (j : Nat) (h : j < ns.length) : ns.take (j + 1) = ns.take j ++ [ns.getD j 0] := by
  rw [List.take_succ_eq_append_getElem h]; simp [List.getD, h]

set_option maxHeartbeats 1000000 in
theorem pitem_nil (k : Nat) (hk : k < 11) (b : Nat) (l : List UInt8) (p : Option Addr) (cap : Nat) (w : World) (hT : Tabs w) (hB : Bd w b l) (hlen : l.length + 40 ≤ 140737488355328) :
    Calls Tryz.prog 61 #[.pointer (some ⟨b, 0, none⟩), .int .i64 k, .slice p 0 cap] w fun e w' => e = .returned (.tuple #[]) ∧ Bd w' b (l ++ itemText k []) ∧ Wr w w' b := by
  have hc := (hT.items k hk).1
  have hnl := nm_len k
  have HB := hideP hB
  clear hB
  go_enter Tryz.func61, Tryz.ntmps61
  go_wp2_with fail
  refine (wstr b l _ _ (unhideP HB) (by rw [size_mk]; omega)).mono ?_
  rintro e w1 ⟨rfl, hB1, hw1⟩
  rw [toList_mk] at hB1
  have HB1 := hideP hB1
  have HW1 := hideP hw1
  clear hB1 hw1
  go_wp2_with fail
  refine wp_loop_rounds 1 ?_
  rw [rounds_succ]
  go_wp2_with fail
  refine (wstr b _ _ _ (unhideP HB1) (by simp [ByteArray.size]; omega)).mono ?_
  rintro e w2 ⟨rfl, hB2, hw2⟩
  have HB2 := hideP hB2
  have HW2 := hideP ((unhideP HW1).trans hw2)
  clear hB2 hw2
  go_wp2
  go_end0
  refine ⟨rfl, ?_, unhideP HW2⟩
  have := unhideP HB2
  simpa [itemText, numsText, List.append_assoc] using this

set_option maxHeartbeats 1000000 in
theorem pitem_row (k : Nat) (hk : k < 11) (b : Nat) (l : List UInt8) (sb so cap : Nat) (ns : List Int) (w : World) (hT : Tabs w) (hB : Bd w b l) (hb16 : gB b) (hR : Rd w b sb so ns) (hok : okI ns) (hlen : l.length + 21 * ns.length + 40 ≤ 140737488355328) :
    Calls Tryz.prog 61 #[.pointer (some ⟨b, 0, none⟩), .int .i64 k, .slice (some ⟨sb, so, none⟩) ns.length cap] w fun e w' => e = .returned (.tuple #[]) ∧ Bd w' b (l ++ itemText k ns) ∧ Wr w w' b := by
  have hc := (hT.items k hk).1
  have hnl := nm_len k
  have HB := hideP hB
  have HT := hideP hT
  have HR := hideP hR
  have HO := hideP hok
  have hnsl : ns.length ≤ 9223372036854775807 := by omega
  clear hB hT hR hok
  go_enter Tryz.func61, Tryz.ntmps61
  go_wp2_with fail
  refine (wstr b l _ _ (unhideP HB) (by rw [size_mk]; omega)).mono ?_
  rintro e w1 ⟨rfl, hB1, hw1⟩
  rw [toList_mk] at hB1
  have HB1 := hideP hB1
  have HW1 := hideP hw1
  clear hB1 hw1
  go_wp2_with fail
  go_loopw [16] (fun i wr => ∃ j : Nat, j ≤ ns.length ∧ i = .int .i64 j ∧ Bd wr b (l ++ nm k ++ numsText k (ns.take j)) ∧ Wr w wr b) (fun i _ => ns.length - (intOf i).toNat)
  case atStart => exact ⟨0, by omega, rfl, by simpa [numsText] using unhideP HB1, unhideP HW1⟩
  case round =>
    obtain ⟨j, hj, rfl, hBj, hwj⟩ := hrel
    have hlt' := numsText_len k (ns.take j) (fun n hn => unhideP HO n (List.mem_of_mem_take hn))
    have htl : (ns.take j).length = j := by simp; omega
    by_cases hlt : j < ns.length
    · have hcx := ((unhideP HR).wr hwj).cell j hlt
      have hn := unhideP HO (ns.getD j 0) (by rw [List.getD, List.getElem?_eq_getElem hlt]; simp)
      have hTj := (unhideP HT).below hwj.low hb16
      have HS := hideP (numsText_snoc k (ns.take j) (ns.getD j 0))
      have HTS := hideP (take_snoc_getD ns j hlt)
      have hnl2 := numText_len k hn.1 hn.2
      generalize ns.getD j 0 = n at hcx hn HS HTS hnl2
      have HBj := hideP hBj
      have HWj := hideP hwj
      have HTj := hideP hTj
      clear hBj hwj hTj
      go_wp2_with fail
      refine (wbyte b _ 32 _ (unhideP HBj) (by simp; omega)).mono ?_
      rintro e w2 ⟨rfl, hB2, hw2⟩
      have HB2 := hideP hB2
      have HW2 := hideP ((unhideP HWj).trans hw2)
      have HT2 := hideP ((unhideP HTj).below hw2.low hb16)
      clear hB2 hw2
      go_wp2_with fail
      refine (ntext k hk n hn.1 hn.2 _ (unhideP HT2)).mono ?_
      rintro e w3 ⟨rfl, hb3⟩
      have HB3 := hideP ((unhideP HB2).below hb3)
      have HW3 := hideP ((unhideP HW2).trans (Wr.of_below hb3 (Nat.le_of_lt (unhideP HB2).lt)))
      clear hb3
      go_wp2_with fail
      refine (wstr b _ _ _ (unhideP HB3) (by rw [size_mk]; simp; omega)).mono ?_
      rintro e w4 ⟨rfl, hB4, hw4⟩
      rw [toList_mk] at hB4
      have HB4 := hideP hB4
      have HW4 := hideP ((unhideP HW3).trans hw4)
      clear hB4 hw4
      go_wp2_with fail
      go_roundw
      case rel =>
        refine ⟨j + 1, hlt, by go_num, ?_, unhideP HW4⟩
        rw [unhideP HTS, unhideP HS]
        have := unhideP HB4
        simpa [List.append_assoc] using this
      case measure => simp [intOf]; omega
    · obtain rfl : j = ns.length := by omega
      rw [List.take_length] at hBj hlt'
      have HBj := hideP hBj
      have HWj := hideP hwj
      clear hBj hwj
      go_wp2_with fail
      refine (wstr b _ _ _ (unhideP HBj) (by simp [ByteArray.size]; omega)).mono ?_
      rintro e w2 ⟨rfl, hB2, hw2⟩
      have HB2 := hideP hB2
      have HW2 := hideP ((unhideP HWj).trans hw2)
      clear hB2 hw2
      go_wp2
      go_end0
      refine ⟨rfl, ?_, unhideP HW2⟩
      have := unhideP HB2
      simpa [itemText, List.append_assoc] using this
theorem pitem (k : Nat) (hk : k < 11) (b : Nat) (l : List UInt8) (v : Value) (ns : List Int) (w : World) (hT : Tabs w) (hB : Bd w b l) (hb16 : gB b) (hL : Lst w b v ns) (hok : okI ns) (hlen : l.length + 21 * ns.length + 40 ≤ 140737488355328) :
    Calls Tryz.prog 61 #[.pointer (some ⟨b, 0, none⟩), .int .i64 k, v] w fun e w' => e = .returned (.tuple #[]) ∧ Bd w' b (l ++ itemText k ns) ∧ Wr w w' b := by
  rcases hL with ⟨rfl, p, cap, rfl⟩ | ⟨sb, so, cap, rfl, hR⟩
  · exact pitem_nil k hk b l p cap w hT hB (by omega)
  · exact pitem_row k hk b l sb so cap ns w hT hB hb16 hR hok hlen
end Go.Proofs.YtobempobmokkcaaGreatDoor
