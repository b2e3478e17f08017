/-
  Encodes: what the reference's pen writes of an instruction. Own work of the verifier.
-/
import Derived.Test.YthnmdbddfmgdlaaDoorEncU
import Derived.Test.YthnmdbddfmgdlaaDoorEncD
namespace Go.Proofs.YthnmdbddfmgdlaaDoor
open Go.RowKit

def penArg (p : Int × Int) : Pr := penSeq (penNum 0 8 p.1) (penNum 0 255 p.2)
theorem encOf_arg (p : Int × Int) : encOf (penArg p) = encArg p := by
  unfold penArg encArg
  rw [encOf_seq, encOf_num, encOf_num]
/-- What one letter of the shape makes the pen write. -/
def penPart (i : InsE) (c : UInt8) : Pr :=
  if c = 68 then penNum 0 255 i.d else if c = 65 then penNum 0 255 i.a else if c = 66 then penNum 0 255 i.bb
  else if c = 110 then ([byteOf i.n], decide (255 < i.n)) else if c = 78 then (opB i.n 8, false)
  else if c = 70 then penNum 0 255 i.f else if c = 82 then penL 0 8 penArg i.args else if c = 79 then penL 0 4 (penNum 0 255) i.outs else ([], false)
def zap (ls : List UInt8) (c : UInt8) (x : Int) : Int := if ls.contains c then 0 else x
def zapN (ls : List UInt8) (x : Int) : Int := if ls.contains 110 || ls.contains 78 then 0 else x
def zapL (ls : List UInt8) (c : UInt8) (x : Nat) : Nat := if ls.contains c then 0 else x
def zapV (ls : List UInt8) (c : UInt8) (v : Value) : Value := if ls.contains c then .slice none 0 0 else v
/-- What is left of the instruction behind these letters. -/
def restA (i : InsE) (av ov : Value) (ls : List UInt8) : Array Value := #[.int .i64 0, .int .i64 (zap ls 68 i.d), .int .i64 (zap ls 65 i.a), .int .i64 (zap ls 66 i.bb), .int .u64 (zapN ls i.n), .int .i64 (zap ls 70 i.f), zapV ls 82 av, zapV ls 79 ov]
theorem zapV_slice (ls : List UInt8) (c : UInt8) (p : Option Addr) (n k : Nat) : ∃ p' k', zapV ls c (.slice p n k) = .slice p' (zapL ls c n) k' := by
  unfold zapV zapL
  cases ls.contains c
  · exact ⟨p, k, rfl⟩
  · exact ⟨none, 0, rfl⟩
def restB (i : InsE) (ls : List UInt8) : Bool := nothingB (zap ls 68 i.d) (zap ls 65 i.a) (zap ls 66 i.bb) (zapN ls i.n) (zap ls 70 i.f) (zapL ls 82 i.args.length) (zapL ls 79 i.outs.length)
def shapeLs (op : Int) : List UInt8 := (shapeB op).data.toList
def penIns (i : InsE) : Pr := penSeq (penNum 1 18 i.op) (penSeq (penAll (penPart i) (shapeLs i.op)) ([], !restB i (shapeLs i.op)))
theorem rest_68 (i : InsE) (av ov : Value) (ls : List UInt8) : restA i av ov (ls ++ [68]) = (restA i av ov ls).setIfInBounds 1 (.int .i64 0) := by
  simp [restA, zap, zapN, zapV]
theorem rest_65 (i : InsE) (av ov : Value) (ls : List UInt8) : restA i av ov (ls ++ [65]) = (restA i av ov ls).setIfInBounds 2 (.int .i64 0) := by
  simp [restA, zap, zapN, zapV]
theorem rest_66 (i : InsE) (av ov : Value) (ls : List UInt8) : restA i av ov (ls ++ [66]) = (restA i av ov ls).setIfInBounds 3 (.int .i64 0) := by
  simp [restA, zap, zapN, zapV]
theorem rest_110 (i : InsE) (av ov : Value) (ls : List UInt8) : restA i av ov (ls ++ [110]) = (restA i av ov ls).setIfInBounds 4 (.int .u64 0) := by
  simp [restA, zap, zapN, zapV]
theorem rest_78 (i : InsE) (av ov : Value) (ls : List UInt8) : restA i av ov (ls ++ [78]) = (restA i av ov ls).setIfInBounds 4 (.int .u64 0) := by
  simp [restA, zap, zapN, zapV]
theorem rest_70 (i : InsE) (av ov : Value) (ls : List UInt8) : restA i av ov (ls ++ [70]) = (restA i av ov ls).setIfInBounds 5 (.int .i64 0) := by
  simp [restA, zap, zapN, zapV]
theorem rest_82 (i : InsE) (av ov : Value) (ls : List UInt8) : restA i av ov (ls ++ [82]) = (restA i av ov ls).setIfInBounds 6 (.slice none 0 0) := by
  simp [restA, zap, zapN, zapV]
theorem rest_79 (i : InsE) (av ov : Value) (ls : List UInt8) : restA i av ov (ls ++ [79]) = (restA i av ov ls).setIfInBounds 7 (.slice none 0 0) := by
  simp [restA, zap, zapN, zapV]
theorem rest_63 (i : InsE) (av ov : Value) (ls : List UInt8) : restA i av ov (ls ++ [63]) = restA i av ov ls := by
  simp [restA, zap, zapN, zapV]
theorem penAll_append {α : Type} (one : α → Pr) : ∀ (xs ys : List α), penAll one (xs ++ ys) = penSeq (penAll one xs) (penAll one ys)
  | [], ys => by simp [penAll, penSeq]
  | x :: xs, ys => by
    simp only [List.cons_append, penAll, penAll_append one xs ys, penSeq, List.append_assoc, Bool.or_assoc]
theorem penAll_take_len {α : Type} (one : α → Pr) (xs : List α) (q : Nat) : (penAll one (xs.take q)).1.length ≤ (penAll one xs).1.length := by
  have h : penAll one xs = penSeq (penAll one (xs.take q)) (penAll one (xs.drop q)) := by rw [← penAll_append, List.take_append_drop]
  rw [h]
  simp [penSeq]
theorem shape_letters (op : Int) : ∀ c ∈ shapeLs op, c = 63 ∨ c = 68 ∨ c = 65 ∨ c = 66 ∨ c = 110 ∨ c = 78 ∨ c = 70 ∨ c = 82 ∨ c = 79 := by
  unfold shapeLs shapeB
  split
  · rename_i h0
    by_cases h : op.toNat < 19
    · generalize op.toNat = k at h
      have : ∀ k, k < 19 → ∀ c ∈ (shapeL.getD k #[63]).toList, c = 63 ∨ c = 68 ∨ c = 65 ∨ c = 66 ∨ c = 110 ∨ c = 78 ∨ c = 70 ∨ c = 82 ∨ c = 79 := by decide
      exact this k h
    · have h3 : shapeL.length ≤ op.toNat := by simp [shapeL]; omega
      intro c hc
      simp [List.getD, List.getElem?_eq_none h3] at hc
      exact Or.inl hc
  · intro c hc
    simp at hc
    exact Or.inl hc
theorem shape_len (op : Int) : (shapeLs op).length ≤ 4 := by
  unfold shapeLs shapeB
  split
  · by_cases h : op.toNat < 19
    · generalize op.toNat = k at h
      have : ∀ k, k < 19 → (shapeL.getD k #[63]).toList.length ≤ 4 := by decide
      exact this k h
    · have h3 : shapeL.length ≤ op.toNat := by simp [shapeL]; omega
      simp [List.getD, List.getElem?_eq_none h3]
  · simp
theorem seqE_cond (x : Option (List UInt8)) (c : Bool) : seqE x (if c then none else some []) = if c then none else x := by
  cases c <;> cases x <;> simp [seqE]
theorem encOf_last (c : Bool) : encOf ([], c) = if c then none else some [] := by cases c <;> rfl
theorem spare9 : ∀ b0 b1 b2 b3 b4 b5 b6 : Bool, (bits .andNot .u8 (fillU [b0, b1, b2, b3, b4, b5, b6] 7) 9 != 0) = (b1 || b2 || b4 || b5 || b6) := by decide
theorem spare3 : ∀ b0 b1 b2 b3 b4 b5 b6 : Bool, (bits .andNot .u8 (fillU [b0, b1, b2, b3, b4, b5, b6] 7) 3 != 0) = (b2 || b3 || b4 || b5 || b6) := by decide
theorem spare7 : ∀ b0 b1 b2 b3 b4 b5 b6 : Bool, (bits .andNot .u8 (fillU [b0, b1, b2, b3, b4, b5, b6] 7) 7 != 0) = (b3 || b4 || b5 || b6) := by decide
theorem spare15 : ∀ b0 b1 b2 b3 b4 b5 b6 : Bool, (bits .andNot .u8 (fillU [b0, b1, b2, b3, b4, b5, b6] 7) 15 != 0) = (b4 || b5 || b6) := by decide
theorem spare112 : ∀ b0 b1 b2 b3 b4 b5 b6 : Bool, (bits .andNot .u8 (fillU [b0, b1, b2, b3, b4, b5, b6] 7) 112 != 0) = (b0 || b1 || b2 || b3) := by decide
theorem spare2 : ∀ b0 b1 b2 b3 b4 b5 b6 : Bool, (bits .andNot .u8 (fillU [b0, b1, b2, b3, b4, b5, b6] 7) 2 != 0) = (b0 || b2 || b3 || b4 || b5 || b6) := by decide
theorem spare64 : ∀ b0 b1 b2 b3 b4 b5 b6 : Bool, (bits .andNot .u8 (fillU [b0, b1, b2, b3, b4, b5, b6] 7) 64 != 0) = (b0 || b1 || b2 || b3 || b4 || b5) := by decide
theorem spare48 : ∀ b0 b1 b2 b3 b4 b5 b6 : Bool, (bits .andNot .u8 (fillU [b0, b1, b2, b3, b4, b5, b6] 7) 48 != 0) = (b0 || b1 || b2 || b3 || b6) := by decide
theorem spare8 : ∀ b0 b1 b2 b3 b4 b5 b6 : Bool, (bits .andNot .u8 (fillU [b0, b1, b2, b3, b4, b5, b6] 7) 8 != 0) = (b0 || b1 || b2 || b4 || b5 || b6) := by decide
theorem encOf_part_args (i : InsE) : encOf (penL 0 8 penArg i.args) = encL 0 8 encArg i.args := by
  rw [encOf_L]
  congr 1
  funext x
  exact encOf_arg x
theorem encOf_part_outs (i : InsE) : encOf (penL 0 4 (penNum 0 255) i.outs) = encL 0 4 (encNum 0 255) i.outs := by
  rw [encOf_L]
  congr 1
  funext x
  exact encOf_num 0 255 x
theorem encOf_n1 (n : Int) (op : Int) (h : encWidth op = 1) : encOf ([byteOf n], decide (255 < n)) = encOp op n := by
  unfold encOf encOp
  rw [h]
  by_cases hn : 255 < n
  · simp [hn]
  · simp [hn, opB]
theorem encOf_n8 (n : Int) (op : Int) (h : encWidth op = 8) : encOf (opB n 8, false) = encOp op n := by
  unfold encOf encOp
  rw [h]
  simp
theorem part_68 (i : InsE) : penPart i 68 = penNum 0 255 i.d := rfl
theorem part_65 (i : InsE) : penPart i 65 = penNum 0 255 i.a := rfl
theorem part_66 (i : InsE) : penPart i 66 = penNum 0 255 i.bb := rfl
theorem part_110 (i : InsE) : penPart i 110 = ([byteOf i.n], decide (255 < i.n)) := rfl
theorem part_78 (i : InsE) : penPart i 78 = (opB i.n 8, false) := rfl
theorem part_70 (i : InsE) : penPart i 70 = penNum 0 255 i.f := rfl
theorem part_82 (i : InsE) : penPart i 82 = penL 0 8 penArg i.args := rfl
theorem part_79 (i : InsE) : penPart i 79 = penL 0 4 (penNum 0 255) i.outs := rfl
theorem part_63 (i : InsE) : penPart i 63 = ([], false) := rfl
theorem encOf_ins1 (i : InsE) (h : i.op = 1) : encOf (penIns i) = encIns i := by
  have e1 : shapeLs i.op = [68, 78] := by rw [h]; rfl
  have e2 : needOf i.op = 9 := by rw [h]; rfl
  have e3 : encWidth i.op = 8 := by rw [h]; rfl
  have e4 : (!restB i [68, 78]) = i.spare := by
    unfold InsE.spare spareOf
    rw [e2, spare9]
    simp [restB, zap, zapN, zapL, nothingB, bne, Bool.not_and, Bool.or_assoc]
  unfold penIns encIns needBit
  rw [encOf_seq, encOf_num, encOf_seq, encOf_all, e1, e4, e2, encOf_last, seqE_cond]
  simp only [encAll, part_68, part_78, encOf_num, encOf_n8 _ _ e3, show (bits .and .u8 9 1 != 0) = true by decide, show (bits .and .u8 9 2 != 0) = false by decide, show (bits .and .u8 9 4 != 0) = false by decide, show (bits .and .u8 9 8 != 0) = true by decide, show (bits .and .u8 9 16 != 0) = false by decide, show (bits .and .u8 9 32 != 0) = false by decide, show (bits .and .u8 9 64 != 0) = false by decide, condE, if_true, Bool.false_eq_true, if_false]
  repeat rw [nil_seqE]
  repeat rw [seqE_nil]
theorem encOf_ins2 (i : InsE) (h : i.op = 2) : encOf (penIns i) = encIns i := by
  have e1 : shapeLs i.op = [68, 65] := by rw [h]; rfl
  have e2 : needOf i.op = 3 := by rw [h]; rfl
  have e4 : (!restB i [68, 65]) = i.spare := by
    unfold InsE.spare spareOf
    rw [e2, spare3]
    simp [restB, zap, zapN, zapL, nothingB, bne, Bool.not_and, Bool.or_assoc]
  unfold penIns encIns needBit
  rw [encOf_seq, encOf_num, encOf_seq, encOf_all, e1, e4, e2, encOf_last, seqE_cond]
  simp only [encAll, part_68, part_65, encOf_num, show (bits .and .u8 3 1 != 0) = true by decide, show (bits .and .u8 3 2 != 0) = true by decide, show (bits .and .u8 3 4 != 0) = false by decide, show (bits .and .u8 3 8 != 0) = false by decide, show (bits .and .u8 3 16 != 0) = false by decide, show (bits .and .u8 3 32 != 0) = false by decide, show (bits .and .u8 3 64 != 0) = false by decide, condE, if_true, Bool.false_eq_true, if_false]
  repeat rw [nil_seqE]
  repeat rw [seqE_nil]
theorem encOf_ins3 (i : InsE) (h : i.op = 3) : encOf (penIns i) = encIns i := by
  have e1 : shapeLs i.op = [68, 65, 66] := by rw [h]; rfl
  have e2 : needOf i.op = 7 := by rw [h]; rfl
  have e4 : (!restB i [68, 65, 66]) = i.spare := by
    unfold InsE.spare spareOf
    rw [e2, spare7]
    simp [restB, zap, zapN, zapL, nothingB, bne, Bool.not_and, Bool.or_assoc]
  unfold penIns encIns needBit
  rw [encOf_seq, encOf_num, encOf_seq, encOf_all, e1, e4, e2, encOf_last, seqE_cond]
  simp only [encAll, part_68, part_65, part_66, encOf_num, show (bits .and .u8 7 1 != 0) = true by decide, show (bits .and .u8 7 2 != 0) = true by decide, show (bits .and .u8 7 4 != 0) = true by decide, show (bits .and .u8 7 8 != 0) = false by decide, show (bits .and .u8 7 16 != 0) = false by decide, show (bits .and .u8 7 32 != 0) = false by decide, show (bits .and .u8 7 64 != 0) = false by decide, condE, if_true, Bool.false_eq_true, if_false]
  repeat rw [nil_seqE]
  repeat rw [seqE_nil]
theorem encOf_ins4 (i : InsE) (h : i.op = 4) : encOf (penIns i) = encIns i := by
  have e1 : shapeLs i.op = [68, 65, 66] := by rw [h]; rfl
  have e2 : needOf i.op = 7 := by rw [h]; rfl
  have e4 : (!restB i [68, 65, 66]) = i.spare := by
    unfold InsE.spare spareOf
    rw [e2, spare7]
    simp [restB, zap, zapN, zapL, nothingB, bne, Bool.not_and, Bool.or_assoc]
  unfold penIns encIns needBit
  rw [encOf_seq, encOf_num, encOf_seq, encOf_all, e1, e4, e2, encOf_last, seqE_cond]
  simp only [encAll, part_68, part_65, part_66, encOf_num, show (bits .and .u8 7 1 != 0) = true by decide, show (bits .and .u8 7 2 != 0) = true by decide, show (bits .and .u8 7 4 != 0) = true by decide, show (bits .and .u8 7 8 != 0) = false by decide, show (bits .and .u8 7 16 != 0) = false by decide, show (bits .and .u8 7 32 != 0) = false by decide, show (bits .and .u8 7 64 != 0) = false by decide, condE, if_true, Bool.false_eq_true, if_false]
  repeat rw [nil_seqE]
  repeat rw [seqE_nil]
theorem encOf_ins5 (i : InsE) (h : i.op = 5) : encOf (penIns i) = encIns i := by
  have e1 : shapeLs i.op = [68, 65, 66] := by rw [h]; rfl
  have e2 : needOf i.op = 7 := by rw [h]; rfl
  have e4 : (!restB i [68, 65, 66]) = i.spare := by
    unfold InsE.spare spareOf
    rw [e2, spare7]
    simp [restB, zap, zapN, zapL, nothingB, bne, Bool.not_and, Bool.or_assoc]
  unfold penIns encIns needBit
  rw [encOf_seq, encOf_num, encOf_seq, encOf_all, e1, e4, e2, encOf_last, seqE_cond]
  simp only [encAll, part_68, part_65, part_66, encOf_num, show (bits .and .u8 7 1 != 0) = true by decide, show (bits .and .u8 7 2 != 0) = true by decide, show (bits .and .u8 7 4 != 0) = true by decide, show (bits .and .u8 7 8 != 0) = false by decide, show (bits .and .u8 7 16 != 0) = false by decide, show (bits .and .u8 7 32 != 0) = false by decide, show (bits .and .u8 7 64 != 0) = false by decide, condE, if_true, Bool.false_eq_true, if_false]
  repeat rw [nil_seqE]
  repeat rw [seqE_nil]
theorem encOf_ins6 (i : InsE) (h : i.op = 6) : encOf (penIns i) = encIns i := by
  have e1 : shapeLs i.op = [68, 65, 66] := by rw [h]; rfl
  have e2 : needOf i.op = 7 := by rw [h]; rfl
  have e4 : (!restB i [68, 65, 66]) = i.spare := by
    unfold InsE.spare spareOf
    rw [e2, spare7]
    simp [restB, zap, zapN, zapL, nothingB, bne, Bool.not_and, Bool.or_assoc]
  unfold penIns encIns needBit
  rw [encOf_seq, encOf_num, encOf_seq, encOf_all, e1, e4, e2, encOf_last, seqE_cond]
  simp only [encAll, part_68, part_65, part_66, encOf_num, show (bits .and .u8 7 1 != 0) = true by decide, show (bits .and .u8 7 2 != 0) = true by decide, show (bits .and .u8 7 4 != 0) = true by decide, show (bits .and .u8 7 8 != 0) = false by decide, show (bits .and .u8 7 16 != 0) = false by decide, show (bits .and .u8 7 32 != 0) = false by decide, show (bits .and .u8 7 64 != 0) = false by decide, condE, if_true, Bool.false_eq_true, if_false]
  repeat rw [nil_seqE]
  repeat rw [seqE_nil]
theorem encOf_ins7 (i : InsE) (h : i.op = 7) : encOf (penIns i) = encIns i := by
  have e1 : shapeLs i.op = [68, 65, 66] := by rw [h]; rfl
  have e2 : needOf i.op = 7 := by rw [h]; rfl
  have e4 : (!restB i [68, 65, 66]) = i.spare := by
    unfold InsE.spare spareOf
    rw [e2, spare7]
    simp [restB, zap, zapN, zapL, nothingB, bne, Bool.not_and, Bool.or_assoc]
  unfold penIns encIns needBit
  rw [encOf_seq, encOf_num, encOf_seq, encOf_all, e1, e4, e2, encOf_last, seqE_cond]
  simp only [encAll, part_68, part_65, part_66, encOf_num, show (bits .and .u8 7 1 != 0) = true by decide, show (bits .and .u8 7 2 != 0) = true by decide, show (bits .and .u8 7 4 != 0) = true by decide, show (bits .and .u8 7 8 != 0) = false by decide, show (bits .and .u8 7 16 != 0) = false by decide, show (bits .and .u8 7 32 != 0) = false by decide, show (bits .and .u8 7 64 != 0) = false by decide, condE, if_true, Bool.false_eq_true, if_false]
  repeat rw [nil_seqE]
  repeat rw [seqE_nil]
theorem encOf_ins8 (i : InsE) (h : i.op = 8) : encOf (penIns i) = encIns i := by
  have e1 : shapeLs i.op = [68, 65, 66] := by rw [h]; rfl
  have e2 : needOf i.op = 7 := by rw [h]; rfl
  have e4 : (!restB i [68, 65, 66]) = i.spare := by
    unfold InsE.spare spareOf
    rw [e2, spare7]
    simp [restB, zap, zapN, zapL, nothingB, bne, Bool.not_and, Bool.or_assoc]
  unfold penIns encIns needBit
  rw [encOf_seq, encOf_num, encOf_seq, encOf_all, e1, e4, e2, encOf_last, seqE_cond]
  simp only [encAll, part_68, part_65, part_66, encOf_num, show (bits .and .u8 7 1 != 0) = true by decide, show (bits .and .u8 7 2 != 0) = true by decide, show (bits .and .u8 7 4 != 0) = true by decide, show (bits .and .u8 7 8 != 0) = false by decide, show (bits .and .u8 7 16 != 0) = false by decide, show (bits .and .u8 7 32 != 0) = false by decide, show (bits .and .u8 7 64 != 0) = false by decide, condE, if_true, Bool.false_eq_true, if_false]
  repeat rw [nil_seqE]
  repeat rw [seqE_nil]
theorem encOf_ins9 (i : InsE) (h : i.op = 9) : encOf (penIns i) = encIns i := by
  have e1 : shapeLs i.op = [68, 65, 66] := by rw [h]; rfl
  have e2 : needOf i.op = 7 := by rw [h]; rfl
  have e4 : (!restB i [68, 65, 66]) = i.spare := by
    unfold InsE.spare spareOf
    rw [e2, spare7]
    simp [restB, zap, zapN, zapL, nothingB, bne, Bool.not_and, Bool.or_assoc]
  unfold penIns encIns needBit
  rw [encOf_seq, encOf_num, encOf_seq, encOf_all, e1, e4, e2, encOf_last, seqE_cond]
  simp only [encAll, part_68, part_65, part_66, encOf_num, show (bits .and .u8 7 1 != 0) = true by decide, show (bits .and .u8 7 2 != 0) = true by decide, show (bits .and .u8 7 4 != 0) = true by decide, show (bits .and .u8 7 8 != 0) = false by decide, show (bits .and .u8 7 16 != 0) = false by decide, show (bits .and .u8 7 32 != 0) = false by decide, show (bits .and .u8 7 64 != 0) = false by decide, condE, if_true, Bool.false_eq_true, if_false]
  repeat rw [nil_seqE]
  repeat rw [seqE_nil]
theorem encOf_ins10 (i : InsE) (h : i.op = 10) : encOf (penIns i) = encIns i := by
  have e1 : shapeLs i.op = [68, 65, 66, 110] := by rw [h]; rfl
  have e2 : needOf i.op = 15 := by rw [h]; rfl
  have e3 : encWidth i.op = 1 := by rw [h]; rfl
  have e4 : (!restB i [68, 65, 66, 110]) = i.spare := by
    unfold InsE.spare spareOf
    rw [e2, spare15]
    simp [restB, zap, zapN, zapL, nothingB, bne, Bool.not_and, Bool.or_assoc]
  unfold penIns encIns needBit
  rw [encOf_seq, encOf_num, encOf_seq, encOf_all, e1, e4, e2, encOf_last, seqE_cond]
  simp only [encAll, part_68, part_65, part_66, part_110, encOf_num, encOf_n1 _ _ e3, show (bits .and .u8 15 1 != 0) = true by decide, show (bits .and .u8 15 2 != 0) = true by decide, show (bits .and .u8 15 4 != 0) = true by decide, show (bits .and .u8 15 8 != 0) = true by decide, show (bits .and .u8 15 16 != 0) = false by decide, show (bits .and .u8 15 32 != 0) = false by decide, show (bits .and .u8 15 64 != 0) = false by decide, condE, if_true, Bool.false_eq_true, if_false]
  repeat rw [nil_seqE]
  repeat rw [seqE_nil]
theorem encOf_ins11 (i : InsE) (h : i.op = 11) : encOf (penIns i) = encIns i := by
  have e1 : shapeLs i.op = [68, 65, 66, 110] := by rw [h]; rfl
  have e2 : needOf i.op = 15 := by rw [h]; rfl
  have e3 : encWidth i.op = 1 := by rw [h]; rfl
  have e4 : (!restB i [68, 65, 66, 110]) = i.spare := by
    unfold InsE.spare spareOf
    rw [e2, spare15]
    simp [restB, zap, zapN, zapL, nothingB, bne, Bool.not_and, Bool.or_assoc]
  unfold penIns encIns needBit
  rw [encOf_seq, encOf_num, encOf_seq, encOf_all, e1, e4, e2, encOf_last, seqE_cond]
  simp only [encAll, part_68, part_65, part_66, part_110, encOf_num, encOf_n1 _ _ e3, show (bits .and .u8 15 1 != 0) = true by decide, show (bits .and .u8 15 2 != 0) = true by decide, show (bits .and .u8 15 4 != 0) = true by decide, show (bits .and .u8 15 8 != 0) = true by decide, show (bits .and .u8 15 16 != 0) = false by decide, show (bits .and .u8 15 32 != 0) = false by decide, show (bits .and .u8 15 64 != 0) = false by decide, condE, if_true, Bool.false_eq_true, if_false]
  repeat rw [nil_seqE]
  repeat rw [seqE_nil]
theorem encOf_ins12 (i : InsE) (h : i.op = 12) : encOf (penIns i) = encIns i := by
  have e1 : shapeLs i.op = [70, 82, 79] := by rw [h]; rfl
  have e2 : needOf i.op = 112 := by rw [h]; rfl
  have e4 : (!restB i [70, 82, 79]) = i.spare := by
    unfold InsE.spare spareOf
    rw [e2, spare112]
    simp [restB, zap, zapN, zapL, nothingB, bne, Bool.not_and, Bool.or_assoc]
  unfold penIns encIns needBit
  rw [encOf_seq, encOf_num, encOf_seq, encOf_all, e1, e4, e2, encOf_last, seqE_cond]
  simp only [encAll, part_70, part_82, part_79, encOf_num, encOf_part_args, encOf_part_outs, show (bits .and .u8 112 1 != 0) = false by decide, show (bits .and .u8 112 2 != 0) = false by decide, show (bits .and .u8 112 4 != 0) = false by decide, show (bits .and .u8 112 8 != 0) = false by decide, show (bits .and .u8 112 16 != 0) = true by decide, show (bits .and .u8 112 32 != 0) = true by decide, show (bits .and .u8 112 64 != 0) = true by decide, condE, if_true, Bool.false_eq_true, if_false]
  repeat rw [nil_seqE]
  repeat rw [seqE_nil]
theorem encOf_ins13 (i : InsE) (h : i.op = 13) : encOf (penIns i) = encIns i := by
  have e1 : shapeLs i.op = [70, 82, 79] := by rw [h]; rfl
  have e2 : needOf i.op = 112 := by rw [h]; rfl
  have e4 : (!restB i [70, 82, 79]) = i.spare := by
    unfold InsE.spare spareOf
    rw [e2, spare112]
    simp [restB, zap, zapN, zapL, nothingB, bne, Bool.not_and, Bool.or_assoc]
  unfold penIns encIns needBit
  rw [encOf_seq, encOf_num, encOf_seq, encOf_all, e1, e4, e2, encOf_last, seqE_cond]
  simp only [encAll, part_70, part_82, part_79, encOf_num, encOf_part_args, encOf_part_outs, show (bits .and .u8 112 1 != 0) = false by decide, show (bits .and .u8 112 2 != 0) = false by decide, show (bits .and .u8 112 4 != 0) = false by decide, show (bits .and .u8 112 8 != 0) = false by decide, show (bits .and .u8 112 16 != 0) = true by decide, show (bits .and .u8 112 32 != 0) = true by decide, show (bits .and .u8 112 64 != 0) = true by decide, condE, if_true, Bool.false_eq_true, if_false]
  repeat rw [nil_seqE]
  repeat rw [seqE_nil]
theorem encOf_ins14 (i : InsE) (h : i.op = 14) : encOf (penIns i) = encIns i := by
  have e1 : shapeLs i.op = [65] := by rw [h]; rfl
  have e2 : needOf i.op = 2 := by rw [h]; rfl
  have e4 : (!restB i [65]) = i.spare := by
    unfold InsE.spare spareOf
    rw [e2, spare2]
    simp [restB, zap, zapN, zapL, nothingB, bne, Bool.not_and, Bool.or_assoc]
  unfold penIns encIns needBit
  rw [encOf_seq, encOf_num, encOf_seq, encOf_all, e1, e4, e2, encOf_last, seqE_cond]
  simp only [encAll, part_65, encOf_num, show (bits .and .u8 2 1 != 0) = false by decide, show (bits .and .u8 2 2 != 0) = true by decide, show (bits .and .u8 2 4 != 0) = false by decide, show (bits .and .u8 2 8 != 0) = false by decide, show (bits .and .u8 2 16 != 0) = false by decide, show (bits .and .u8 2 32 != 0) = false by decide, show (bits .and .u8 2 64 != 0) = false by decide, condE, if_true, Bool.false_eq_true, if_false]
  repeat rw [nil_seqE]
  repeat rw [seqE_nil]
theorem encOf_ins15 (i : InsE) (h : i.op = 15) : encOf (penIns i) = encIns i := by
  have e1 : shapeLs i.op = [68, 65, 66] := by rw [h]; rfl
  have e2 : needOf i.op = 7 := by rw [h]; rfl
  have e4 : (!restB i [68, 65, 66]) = i.spare := by
    unfold InsE.spare spareOf
    rw [e2, spare7]
    simp [restB, zap, zapN, zapL, nothingB, bne, Bool.not_and, Bool.or_assoc]
  unfold penIns encIns needBit
  rw [encOf_seq, encOf_num, encOf_seq, encOf_all, e1, e4, e2, encOf_last, seqE_cond]
  simp only [encAll, part_68, part_65, part_66, encOf_num, show (bits .and .u8 7 1 != 0) = true by decide, show (bits .and .u8 7 2 != 0) = true by decide, show (bits .and .u8 7 4 != 0) = true by decide, show (bits .and .u8 7 8 != 0) = false by decide, show (bits .and .u8 7 16 != 0) = false by decide, show (bits .and .u8 7 32 != 0) = false by decide, show (bits .and .u8 7 64 != 0) = false by decide, condE, if_true, Bool.false_eq_true, if_false]
  repeat rw [nil_seqE]
  repeat rw [seqE_nil]
theorem encOf_ins16 (i : InsE) (h : i.op = 16) : encOf (penIns i) = encIns i := by
  have e1 : shapeLs i.op = [79] := by rw [h]; rfl
  have e2 : needOf i.op = 64 := by rw [h]; rfl
  have e4 : (!restB i [79]) = i.spare := by
    unfold InsE.spare spareOf
    rw [e2, spare64]
    simp [restB, zap, zapN, zapL, nothingB, bne, Bool.not_and, Bool.or_assoc]
  unfold penIns encIns needBit
  rw [encOf_seq, encOf_num, encOf_seq, encOf_all, e1, e4, e2, encOf_last, seqE_cond]
  simp only [encAll, part_79, encOf_part_outs, show (bits .and .u8 64 1 != 0) = false by decide, show (bits .and .u8 64 2 != 0) = false by decide, show (bits .and .u8 64 4 != 0) = false by decide, show (bits .and .u8 64 8 != 0) = false by decide, show (bits .and .u8 64 16 != 0) = false by decide, show (bits .and .u8 64 32 != 0) = false by decide, show (bits .and .u8 64 64 != 0) = true by decide, condE, if_true, Bool.false_eq_true, if_false]
  repeat rw [nil_seqE]
  repeat rw [seqE_nil]
theorem encOf_ins17 (i : InsE) (h : i.op = 17) : encOf (penIns i) = encIns i := by
  have e1 : shapeLs i.op = [70, 82] := by rw [h]; rfl
  have e2 : needOf i.op = 48 := by rw [h]; rfl
  have e4 : (!restB i [70, 82]) = i.spare := by
    unfold InsE.spare spareOf
    rw [e2, spare48]
    simp [restB, zap, zapN, zapL, nothingB, bne, Bool.not_and, Bool.or_assoc]
  unfold penIns encIns needBit
  rw [encOf_seq, encOf_num, encOf_seq, encOf_all, e1, e4, e2, encOf_last, seqE_cond]
  simp only [encAll, part_70, part_82, encOf_num, encOf_part_args, show (bits .and .u8 48 1 != 0) = false by decide, show (bits .and .u8 48 2 != 0) = false by decide, show (bits .and .u8 48 4 != 0) = false by decide, show (bits .and .u8 48 8 != 0) = false by decide, show (bits .and .u8 48 16 != 0) = true by decide, show (bits .and .u8 48 32 != 0) = true by decide, show (bits .and .u8 48 64 != 0) = false by decide, condE, if_true, Bool.false_eq_true, if_false]
  repeat rw [nil_seqE]
  repeat rw [seqE_nil]
theorem encOf_ins18 (i : InsE) (h : i.op = 18) : encOf (penIns i) = encIns i := by
  have e1 : shapeLs i.op = [78] := by rw [h]; rfl
  have e2 : needOf i.op = 8 := by rw [h]; rfl
  have e3 : encWidth i.op = 8 := by rw [h]; rfl
  have e4 : (!restB i [78]) = i.spare := by
    unfold InsE.spare spareOf
    rw [e2, spare8]
    simp [restB, zap, zapN, zapL, nothingB, bne, Bool.not_and, Bool.or_assoc]
  unfold penIns encIns needBit
  rw [encOf_seq, encOf_num, encOf_seq, encOf_all, e1, e4, e2, encOf_last, seqE_cond]
  simp only [encAll, part_78, encOf_n8 _ _ e3, show (bits .and .u8 8 1 != 0) = false by decide, show (bits .and .u8 8 2 != 0) = false by decide, show (bits .and .u8 8 4 != 0) = false by decide, show (bits .and .u8 8 8 != 0) = true by decide, show (bits .and .u8 8 16 != 0) = false by decide, show (bits .and .u8 8 32 != 0) = false by decide, show (bits .and .u8 8 64 != 0) = false by decide, condE, if_true, Bool.false_eq_true, if_false]
  repeat rw [nil_seqE]
  repeat rw [seqE_nil]
theorem encOf_ins (i : InsE) : encOf (penIns i) = encIns i := by
  by_cases h : 1 ≤ i.op ∧ i.op ≤ 18
  · have hs : i.op = 1 ∨ i.op = 2 ∨ i.op = 3 ∨ i.op = 4 ∨ i.op = 5 ∨ i.op = 6 ∨ i.op = 7 ∨ i.op = 8 ∨ i.op = 9 ∨ i.op = 10 ∨ i.op = 11 ∨ i.op = 12 ∨ i.op = 13 ∨ i.op = 14 ∨ i.op = 15 ∨ i.op = 16 ∨ i.op = 17 ∨ i.op = 18 := by omega
    rcases hs with h2 | h2 | h2 | h2 | h2 | h2 | h2 | h2 | h2 | h2 | h2 | h2 | h2 | h2 | h2 | h2 | h2 | h2
    · exact encOf_ins1 i h2
    · exact encOf_ins2 i h2
    · exact encOf_ins3 i h2
    · exact encOf_ins4 i h2
    · exact encOf_ins5 i h2
    · exact encOf_ins6 i h2
    · exact encOf_ins7 i h2
    · exact encOf_ins8 i h2
    · exact encOf_ins9 i h2
    · exact encOf_ins10 i h2
    · exact encOf_ins11 i h2
    · exact encOf_ins12 i h2
    · exact encOf_ins13 i h2
    · exact encOf_ins14 i h2
    · exact encOf_ins15 i h2
    · exact encOf_ins16 i h2
    · exact encOf_ins17 i h2
    · exact encOf_ins18 i h2
  · have h1 : encNum 1 18 i.op = none := if_neg h
    unfold penIns encIns
    rw [encOf_seq, encOf_num, h1]
    rfl
end Go.Proofs.YthnmdbddfmgdlaaDoor
