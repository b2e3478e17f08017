/-
  Parses: prologueref.scalar by its contract. Own work of the verifier (made by gen_scalar.py).
-/
import Derived.Test.YtidhncoecfkbfaaDoorPsLeaf
namespace Go.Proofs.YtidhncoecfkbfaaDoor
open Go.RowKit
set_option maxHeartbeats 4000000 in
set_option maxRecDepth 100000 in
theorem scalar_2 (s : ByteArray) (p : Nat) (w : World) (hp : p < s.size) (hs : s.size ≤ 400) (b0 : UInt8) (hb0 : s.get! p = b0) (hx0 : s[p]'hp = b0) (c1 : 194 ≤ b0.toNat) (c2 : b0.toNat < 224) :
    Calls Tryd.prog 49 #[.string s, .int .i64 p] w fun e w' => e = .returned (.int .i64 (scalAt s p)) ∧ w' = w := by
  by_cases d1 : p + 1 < s.size
  · have hx1 : s[p + 1]'d1 = s.get! (p + 1) := (Utf8W.get!_of_lt s (p + 1) d1).symm
    generalize hb1 : s.get! (p + 1) = b1 at hx1
    have g1 := and63 b1
    by_cases k1 : b1.toNat / 64 = 2
    · have q1 : (bits BinOp.and IntKind.u8 (b1.toNat : Int) 192 != 128) = false := by rw [and192]; simp [k1]
      have hv : scalAt s p = 2 := by
        unfold scalAt scalN
        rw [hb0, hb1]
        repeat' split
        all_goals first | rfl | (exfalso; omega)
      rw [hv]
      go_enter Tryd.func49, Tryd.ntmps49
      go_wp2_with fail
      refine wp_loop_rounds 2 ?_
      rw [rounds_succ]
      go_wp2_with fail
      rw [rounds_succ]
      go_wp2
      go_ret
      exact ⟨rfl, rfl⟩
    · have q1 : (bits BinOp.and IntKind.u8 (b1.toNat : Int) 192 != 128) = true := by rw [and192]; simp [k1]
      have hv : scalAt s p = 0 := by
        unfold scalAt scalN
        rw [hb0, hb1]
        repeat' split
        all_goals first | rfl | (exfalso; omega)
      rw [hv]
      go_enter Tryd.func49, Tryd.ntmps49
      go_wp2_with fail
      refine wp_loop_rounds 2 ?_
      rw [rounds_succ]
      go_wp2
      go_ret
      exact ⟨rfl, rfl⟩
  · have hv : scalAt s p = 0 := by
      unfold scalAt scalN
      rw [hb0]
      repeat' split
      all_goals first | rfl | (exfalso; omega)
    rw [hv]
    go_enter Tryd.func49, Tryd.ntmps49
    go_wp2_with fail
    refine wp_loop_rounds 2 ?_
    rw [rounds_succ]
    go_wp2
    go_ret
    exact ⟨rfl, rfl⟩
set_option maxHeartbeats 4000000 in
set_option maxRecDepth 100000 in
theorem scalar_3 (s : ByteArray) (p : Nat) (w : World) (hp : p < s.size) (hs : s.size ≤ 400) (b0 : UInt8) (hb0 : s.get! p = b0) (hx0 : s[p]'hp = b0) (c1 : 224 ≤ b0.toNat) (c2 : b0.toNat < 240) :
    Calls Tryd.prog 49 #[.string s, .int .i64 p] w fun e w' => e = .returned (.int .i64 (scalAt s p)) ∧ w' = w := by
  by_cases d1 : p + 1 < s.size
  · have hx1 : s[p + 1]'d1 = s.get! (p + 1) := (Utf8W.get!_of_lt s (p + 1) d1).symm
    generalize hb1 : s.get! (p + 1) = b1 at hx1
    have g1 := and63 b1
    by_cases k1 : b1.toNat / 64 = 2
    · have q1 : (bits BinOp.and IntKind.u8 (b1.toNat : Int) 192 != 128) = false := by rw [and192]; simp [k1]
      by_cases d2 : p + 2 < s.size
      · have hx2 : s[p + 2]'d2 = s.get! (p + 2) := (Utf8W.get!_of_lt s (p + 2) d2).symm
        generalize hb2 : s.get! (p + 2) = b2 at hx2
        have g2 := and63 b2
        by_cases k2 : b2.toNat / 64 = 2
        · have q2 : (bits BinOp.and IntKind.u8 (b2.toNat : Int) 192 != 128) = false := by rw [and192]; simp [k2]
          by_cases v0 : b0.toNat % 16 * 4096 + b1.toNat % 64 * 64 + b2.toNat % 64 < 2048
          · have hv : scalAt s p = 0 := by
              unfold scalAt scalN
              rw [hb0, hb1, hb2]
              repeat' split
              all_goals first | rfl | (exfalso; omega)
            rw [hv]
            go_enter Tryd.func49, Tryd.ntmps49
            go_wp2_with fail
            refine wp_loop_rounds 3 ?_
            rw [rounds_succ]
            go_wp2_with fail
            rw [rounds_succ]
            go_wp2_with fail
            rw [rounds_succ]
            go_wp2
            go_ret
            exact ⟨rfl, rfl⟩
          · by_cases v1 : 55296 ≤ b0.toNat % 16 * 4096 + b1.toNat % 64 * 64 + b2.toNat % 64
            · by_cases v2 : b0.toNat % 16 * 4096 + b1.toNat % 64 * 64 + b2.toNat % 64 < 57344
              · have hv : scalAt s p = 0 := by
                  unfold scalAt scalN
                  rw [hb0, hb1, hb2]
                  repeat' split
                  all_goals first | rfl | (exfalso; omega)
                rw [hv]
                go_enter Tryd.func49, Tryd.ntmps49
                go_wp2_with fail
                refine wp_loop_rounds 3 ?_
                rw [rounds_succ]
                go_wp2_with fail
                rw [rounds_succ]
                go_wp2_with fail
                rw [rounds_succ]
                go_wp2
                go_ret
                exact ⟨rfl, rfl⟩
              · have hv : scalAt s p = 3 := by
                  unfold scalAt scalN
                  rw [hb0, hb1, hb2]
                  repeat' split
                  all_goals first | rfl | (exfalso; omega)
                rw [hv]
                go_enter Tryd.func49, Tryd.ntmps49
                go_wp2_with fail
                refine wp_loop_rounds 3 ?_
                rw [rounds_succ]
                go_wp2_with fail
                rw [rounds_succ]
                go_wp2_with fail
                rw [rounds_succ]
                go_wp2
                go_ret
                exact ⟨rfl, rfl⟩
            · have hv : scalAt s p = 3 := by
                unfold scalAt scalN
                rw [hb0, hb1, hb2]
                repeat' split
                all_goals first | rfl | (exfalso; omega)
              rw [hv]
              go_enter Tryd.func49, Tryd.ntmps49
              go_wp2_with fail
              refine wp_loop_rounds 3 ?_
              rw [rounds_succ]
              go_wp2_with fail
              rw [rounds_succ]
              go_wp2_with fail
              rw [rounds_succ]
              go_wp2
              go_ret
              exact ⟨rfl, rfl⟩
        · have q2 : (bits BinOp.and IntKind.u8 (b2.toNat : Int) 192 != 128) = true := by rw [and192]; simp [k2]
          have hv : scalAt s p = 0 := by
            unfold scalAt scalN
            rw [hb0, hb1, hb2]
            repeat' split
            all_goals first | rfl | (exfalso; omega)
          rw [hv]
          go_enter Tryd.func49, Tryd.ntmps49
          go_wp2_with fail
          refine wp_loop_rounds 3 ?_
          rw [rounds_succ]
          go_wp2_with fail
          rw [rounds_succ]
          go_wp2
          go_ret
          exact ⟨rfl, rfl⟩
      · have hv : scalAt s p = 0 := by
          unfold scalAt scalN
          rw [hb0, hb1]
          repeat' split
          all_goals first | rfl | (exfalso; omega)
        rw [hv]
        go_enter Tryd.func49, Tryd.ntmps49
        go_wp2_with fail
        refine wp_loop_rounds 3 ?_
        rw [rounds_succ]
        go_wp2_with fail
        rw [rounds_succ]
        go_wp2
        go_ret
        exact ⟨rfl, rfl⟩
    · have q1 : (bits BinOp.and IntKind.u8 (b1.toNat : Int) 192 != 128) = true := by rw [and192]; simp [k1]
      have hv : scalAt s p = 0 := by
        unfold scalAt scalN
        rw [hb0, hb1]
        repeat' split
        all_goals first | rfl | (exfalso; omega)
      rw [hv]
      go_enter Tryd.func49, Tryd.ntmps49
      go_wp2_with fail
      refine wp_loop_rounds 3 ?_
      rw [rounds_succ]
      go_wp2
      go_ret
      exact ⟨rfl, rfl⟩
  · have hv : scalAt s p = 0 := by
      unfold scalAt scalN
      rw [hb0]
      repeat' split
      all_goals first | rfl | (exfalso; omega)
    rw [hv]
    go_enter Tryd.func49, Tryd.ntmps49
    go_wp2_with fail
    refine wp_loop_rounds 3 ?_
    rw [rounds_succ]
    go_wp2
    go_ret
    exact ⟨rfl, rfl⟩
set_option maxHeartbeats 4000000 in
set_option maxRecDepth 100000 in
theorem scalar_4 (s : ByteArray) (p : Nat) (w : World) (hp : p < s.size) (hs : s.size ≤ 400) (b0 : UInt8) (hb0 : s.get! p = b0) (hx0 : s[p]'hp = b0) (c1 : 240 ≤ b0.toNat) (c2 : b0.toNat < 245) :
    Calls Tryd.prog 49 #[.string s, .int .i64 p] w fun e w' => e = .returned (.int .i64 (scalAt s p)) ∧ w' = w := by
  by_cases d1 : p + 1 < s.size
  · have hx1 : s[p + 1]'d1 = s.get! (p + 1) := (Utf8W.get!_of_lt s (p + 1) d1).symm
    generalize hb1 : s.get! (p + 1) = b1 at hx1
    have g1 := and63 b1
    by_cases k1 : b1.toNat / 64 = 2
    · have q1 : (bits BinOp.and IntKind.u8 (b1.toNat : Int) 192 != 128) = false := by rw [and192]; simp [k1]
      by_cases d2 : p + 2 < s.size
      · have hx2 : s[p + 2]'d2 = s.get! (p + 2) := (Utf8W.get!_of_lt s (p + 2) d2).symm
        generalize hb2 : s.get! (p + 2) = b2 at hx2
        have g2 := and63 b2
        by_cases k2 : b2.toNat / 64 = 2
        · have q2 : (bits BinOp.and IntKind.u8 (b2.toNat : Int) 192 != 128) = false := by rw [and192]; simp [k2]
          by_cases d3 : p + 3 < s.size
          · have hx3 : s[p + 3]'d3 = s.get! (p + 3) := (Utf8W.get!_of_lt s (p + 3) d3).symm
            generalize hb3 : s.get! (p + 3) = b3 at hx3
            have g3 := and63 b3
            by_cases k3 : b3.toNat / 64 = 2
            · have q3 : (bits BinOp.and IntKind.u8 (b3.toNat : Int) 192 != 128) = false := by rw [and192]; simp [k3]
              by_cases v0 : b0.toNat % 8 * 262144 + b1.toNat % 64 * 4096 + b2.toNat % 64 * 64 + b3.toNat % 64 < 65536
              · have hv : scalAt s p = 0 := by
                  unfold scalAt scalN
                  rw [hb0, hb1, hb2, hb3]
                  repeat' split
                  all_goals first | rfl | (exfalso; omega)
                rw [hv]
                go_enter Tryd.func49, Tryd.ntmps49
                go_wp2_with fail
                refine wp_loop_rounds 4 ?_
                rw [rounds_succ]
                go_wp2_with fail
                rw [rounds_succ]
                go_wp2_with fail
                rw [rounds_succ]
                go_wp2_with fail
                rw [rounds_succ]
                go_wp2
                go_ret
                exact ⟨rfl, rfl⟩
              · by_cases v1 : 1114111 < b0.toNat % 8 * 262144 + b1.toNat % 64 * 4096 + b2.toNat % 64 * 64 + b3.toNat % 64
                · have hv : scalAt s p = 0 := by
                    unfold scalAt scalN
                    rw [hb0, hb1, hb2, hb3]
                    repeat' split
                    all_goals first | rfl | (exfalso; omega)
                  rw [hv]
                  go_enter Tryd.func49, Tryd.ntmps49
                  go_wp2_with fail
                  refine wp_loop_rounds 4 ?_
                  rw [rounds_succ]
                  go_wp2_with fail
                  rw [rounds_succ]
                  go_wp2_with fail
                  rw [rounds_succ]
                  go_wp2_with fail
                  rw [rounds_succ]
                  go_wp2
                  go_ret
                  exact ⟨rfl, rfl⟩
                · have hv : scalAt s p = 4 := by
                    unfold scalAt scalN
                    rw [hb0, hb1, hb2, hb3]
                    repeat' split
                    all_goals first | rfl | (exfalso; omega)
                  rw [hv]
                  go_enter Tryd.func49, Tryd.ntmps49
                  go_wp2_with fail
                  refine wp_loop_rounds 4 ?_
                  rw [rounds_succ]
                  go_wp2_with fail
                  rw [rounds_succ]
                  go_wp2_with fail
                  rw [rounds_succ]
                  go_wp2_with fail
                  rw [rounds_succ]
                  go_wp2
                  go_ret
                  exact ⟨rfl, rfl⟩
            · have q3 : (bits BinOp.and IntKind.u8 (b3.toNat : Int) 192 != 128) = true := by rw [and192]; simp [k3]
              have hv : scalAt s p = 0 := by
                unfold scalAt scalN
                rw [hb0, hb1, hb2, hb3]
                repeat' split
                all_goals first | rfl | (exfalso; omega)
              rw [hv]
              go_enter Tryd.func49, Tryd.ntmps49
              go_wp2_with fail
              refine wp_loop_rounds 4 ?_
              rw [rounds_succ]
              go_wp2_with fail
              rw [rounds_succ]
              go_wp2_with fail
              rw [rounds_succ]
              go_wp2
              go_ret
              exact ⟨rfl, rfl⟩
          · have hv : scalAt s p = 0 := by
              unfold scalAt scalN
              rw [hb0, hb1, hb2]
              repeat' split
              all_goals first | rfl | (exfalso; omega)
            rw [hv]
            go_enter Tryd.func49, Tryd.ntmps49
            go_wp2_with fail
            refine wp_loop_rounds 4 ?_
            rw [rounds_succ]
            go_wp2_with fail
            rw [rounds_succ]
            go_wp2_with fail
            rw [rounds_succ]
            go_wp2
            go_ret
            exact ⟨rfl, rfl⟩
        · have q2 : (bits BinOp.and IntKind.u8 (b2.toNat : Int) 192 != 128) = true := by rw [and192]; simp [k2]
          have hv : scalAt s p = 0 := by
            unfold scalAt scalN
            rw [hb0, hb1, hb2]
            repeat' split
            all_goals first | rfl | (exfalso; omega)
          rw [hv]
          go_enter Tryd.func49, Tryd.ntmps49
          go_wp2_with fail
          refine wp_loop_rounds 4 ?_
          rw [rounds_succ]
          go_wp2_with fail
          rw [rounds_succ]
          go_wp2
          go_ret
          exact ⟨rfl, rfl⟩
      · have hv : scalAt s p = 0 := by
          unfold scalAt scalN
          rw [hb0, hb1]
          repeat' split
          all_goals first | rfl | (exfalso; omega)
        rw [hv]
        go_enter Tryd.func49, Tryd.ntmps49
        go_wp2_with fail
        refine wp_loop_rounds 4 ?_
        rw [rounds_succ]
        go_wp2_with fail
        rw [rounds_succ]
        go_wp2
        go_ret
        exact ⟨rfl, rfl⟩
    · have q1 : (bits BinOp.and IntKind.u8 (b1.toNat : Int) 192 != 128) = true := by rw [and192]; simp [k1]
      have hv : scalAt s p = 0 := by
        unfold scalAt scalN
        rw [hb0, hb1]
        repeat' split
        all_goals first | rfl | (exfalso; omega)
      rw [hv]
      go_enter Tryd.func49, Tryd.ntmps49
      go_wp2_with fail
      refine wp_loop_rounds 4 ?_
      rw [rounds_succ]
      go_wp2
      go_ret
      exact ⟨rfl, rfl⟩
  · have hv : scalAt s p = 0 := by
      unfold scalAt scalN
      rw [hb0]
      repeat' split
      all_goals first | rfl | (exfalso; omega)
    rw [hv]
    go_enter Tryd.func49, Tryd.ntmps49
    go_wp2_with fail
    refine wp_loop_rounds 4 ?_
    rw [rounds_succ]
    go_wp2
    go_ret
    exact ⟨rfl, rfl⟩
set_option maxHeartbeats 4000000 in
set_option maxRecDepth 100000 in
theorem scalar_c (s : ByteArray) (p : Nat) (w : World) (hp : p < s.size) (hs : s.size ≤ 400) :
    Calls Tryd.prog 49 #[.string s, .int .i64 p] w fun e w' => e = .returned (.int .i64 (scalAt s p)) ∧ w' = w := by
  have hx0 : s[p]'hp = s.get! p := (Utf8W.get!_of_lt s p hp).symm
  generalize hb0 : s.get! p = b0 at hx0
  by_cases c0 : b0.toNat < 128
  · go_enter Tryd.func49, Tryd.ntmps49
    go_wp2
    go_ret
    exact ⟨by simp [scalAt, scalN, hb0, c0], rfl⟩
  by_cases c2 : 194 ≤ b0.toNat ∧ b0.toNat < 224
  · exact scalar_2 s p w hp hs b0 hb0 hx0 c2.1 c2.2
  by_cases c3 : 224 ≤ b0.toNat ∧ b0.toNat < 240
  · exact scalar_3 s p w hp hs b0 hb0 hx0 c3.1 c3.2
  by_cases c4 : 240 ≤ b0.toNat ∧ b0.toNat < 245
  · exact scalar_4 s p w hp hs b0 hb0 hx0 c4.1 c4.2
  have hv : scalAt s p = 0 := by
    unfold scalAt scalN
    rw [hb0]
    repeat' split
    all_goals first | rfl | (exfalso; omega)
  rw [hv]
  by_cases c5 : b0.toNat < 194
  all_goals
    have c6 : b0.toNat < 194 ∨ 245 ≤ b0.toNat := by omega
    go_enter Tryd.func49, Tryd.ntmps49
    go_wp2
    go_ret
    exact ⟨rfl, rfl⟩
end Go.Proofs.YtidhncoecfkbfaaDoor
