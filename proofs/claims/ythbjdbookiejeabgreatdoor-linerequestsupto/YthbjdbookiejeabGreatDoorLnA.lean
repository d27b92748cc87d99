/- The small calls of package line: methods, targets, versions, codes, reasons. -/
import Derived.Test.YthbjdbookiejeabGreatDoorSgnV
import Derived.Test.YthbjdbookiejeabGreatDoorTxtK
import Derived.Test.YthbjdbookiejeabGreatDoorDecR
namespace Go.Proofs.YthbjdbookiejeabGreatDoor
open Go.RowKit
set_option linter.unusedVariables false

def eqS (a b : ByteArray) : Bool := a.toList == b.toList
def tgtP (s : ByteArray) : Bool := allB (spanP 33 126) s.data.toList && decide (0 < s.size)
def mthP (s : ByteArray) : Bool := decide (s.size ≤ 20) && (allB tokP s.data.toList && decide (0 < s.size))
theorem retb {x y : Bool} (h : x = y) : Ending.returned (.bool x) = .returned (.bool y) := by rw [h]

set_option maxHeartbeats 1000000 in
theorem starget_any (s : ByteArray) (w : World) (hs : s.size ≤ maxLen) :
    Calls Tryz.prog 45 #[.string s] w fun e w' => e = .returned (.bool (tgtP s)) ∧ Below w.heap.size w w' := by
  unfold tgtP
  by_cases hz : s.size = 0
  · have he := empty_of hz
    subst he
    go_enter Tryz.func45, Tryz.ntmps45
    go_wp2
    go_ret
    exact ⟨rfl, Below.refl _ _⟩
  · have HZ : Hid (decide (0 < s.size) = true) := by rw [Hid]; simp; omega
    have hne := isEmpty_of hz
    clear hz
    rw [HZ.out]
    go_enter Tryz.func45, Tryz.ntmps45
    go_wp2_with fail
    refine (span_any 33 126 _).mono ?_
    rintro e w1 ⟨p0, q0, rfl, h0, k0, B1⟩
    have HA : Hid (Calls Tryz.prog 78 #[.string s, .func (.func 115) #[] #[.pointer (some ⟨p0, 0, none⟩), .pointer (some ⟨q0, 0, none⟩)]] w1 fun e w' => e = .returned (.bool (allB (spanP 33 126) s.data.toList)) ∧ w' = w1) := all50 s _ _ (spanP 33 126) w1 hs (fun c _ _ => span_call 33 126 c p0 q0 w1 h0 k0)
    clear h0 k0
    go_wp2_with fail
    refine HA.out.mono ?_
    rintro e w2 ⟨rfl, rfl⟩
    go_wp2
    go_ret
    exact ⟨ret_b (by simp), B1⟩

set_option maxHeartbeats 1000000 in
theorem method_any (s : ByteArray) (w : World) (hs : s.size ≤ maxLen) :
    Calls Tryz.prog 53 #[.string s] w fun e w' => e = .returned (.bool (mthP s)) ∧ Below w.heap.size w w' := by
  have HT : Hid (Calls Tryz.prog 44 #[.string s] w fun e w' => e = .returned (.bool (allB tokP s.data.toList && decide (0 < s.size))) ∧ Below w.heap.size w w') := token_any s w hs
  unfold mthP
  unfold maxLen at hs
  generalize (allB tokP s.data.toList && decide (0 < s.size)) = t at *
  by_cases h : s.size ≤ 20
  · have h' : (s.size : Int) ≤ 20 := by omega
    rw [decide_eq_true h, Bool.true_and]
    clear h
    go_enter Tryz.func53, Tryz.ntmps53
    go_wp2_with fail
    refine HT.out.mono ?_
    rintro e w1 ⟨rfl, B1⟩
    go_wp2
    go_ret
    exact ⟨rfl, B1⟩
  · have h' : ¬ (s.size : Int) ≤ 20 := by omega
    rw [decide_eq_false h, Bool.false_and]
    clear h HT
    go_enter Tryz.func53, Tryz.ntmps53
    go_wp2
    go_ret
    exact ⟨rfl, Below.refl _ _⟩

/-- A target of a method, however long. -/
def tarP (s m : ByteArray) : Bool := tgtP s && (decide (s.data.toList.head? = some 47) || (eqS s ⟨#[42]⟩ && eqS m ⟨#[79, 80, 84, 73, 79, 78, 83]⟩))
theorem lit_list (l : List UInt8) : (⟨l.toArray⟩ : ByteArray).toList = l := by rw [ByteArray.toList_eq]
theorem head_eq {s : ByteArray} (h : 0 < s.size) : decide (s.data.toList.head? = some 47) = ((s[0].toNat : Int) == 47) := by
  have e : s.data.toList.head? = some s[0] := by
    rw [List.head?_eq_getElem?, List.getElem?_eq_getElem (show 0 < s.data.toList.length from h)]; rfl
  rw [e]
  by_cases q : s[0] = 47
  · rw [q]; rfl
  · have q2 : ¬ (s[0].toNat : Int) = 47 := fun e => q (UInt8.toNat_inj.1 (show s[0].toNat = 47 by omega))
    rw [decide_eq_false (fun e => q (Option.some.inj e))]
    exact (beq_eq_false_iff_ne.2 q2).symm

set_option maxHeartbeats 1000000 in
theorem target_any (s m : ByteArray) (w : World) (hs : s.size ≤ maxLen) :
    Calls Tryz.prog 54 #[.string s, .string m] w fun e w' => e = .returned (.bool (tarP s m)) ∧ Below w.heap.size w w' := by
  have HT : Hid (Calls Tryz.prog 45 #[.string s] w fun e w' => e = .returned (.bool (tgtP s)) ∧ Below w.heap.size w w') := starget_any s w hs
  unfold tarP
  unfold maxLen at hs
  cases ht : tgtP s
  · rw [ht] at HT
    rw [Bool.false_and]
    clear ht
    go_enter Tryz.func54, Tryz.ntmps54
    go_wp2_with fail
    refine HT.out.mono ?_
    rintro e w1 ⟨rfl, B1⟩
    go_wp2
    go_ret
    exact ⟨rfl, B1⟩
  · rw [ht] at HT
    have hp : 0 < s.size := by
      unfold tgtP at ht
      rw [Bool.and_eq_true] at ht
      exact of_decide_eq_true ht.2
    rw [Bool.true_and, head_eq hp]
    have e1 : eqS s ⟨#[42]⟩ = (s.toList == [42]) := by unfold eqS; congr 1; exact lit_list _
    have e2 : eqS m ⟨#[79, 80, 84, 73, 79, 78, 83]⟩ = (m.toList == [79, 80, 84, 73, 79, 78, 83]) := by unfold eqS; congr 1; exact lit_list _
    rw [e1, e2]
    clear ht e1 e2
    have hp2 : (0 : Int) < (s.size : Int) := by omega
    cases h1 : ((s[0].toNat : Int) == 47)
    · cases h2 : (s.toList == [42])
      · go_enter Tryz.func54, Tryz.ntmps54
        go_wp2_with fail
        refine HT.out.mono ?_
        rintro e w1 ⟨rfl, B1⟩
        go_wp2
        go_ret
        exact ⟨rfl, B1⟩
      · go_enter Tryz.func54, Tryz.ntmps54
        go_wp2_with fail
        refine HT.out.mono ?_
        rintro e w1 ⟨rfl, B1⟩
        go_wp2
        go_ret
        exact ⟨retb (by simp), B1⟩
    · go_enter Tryz.func54, Tryz.ntmps54
      go_wp2_with fail
      refine HT.out.mono ?_
      rintro e w1 ⟨rfl, B1⟩
      go_wp2
      go_ret
      exact ⟨rfl, B1⟩

/-- The Minor of a version that is known. -/
def v10 : ByteArray := ⟨#[72, 84, 84, 80, 47, 49, 46, 48]⟩
def v11 : ByteArray := ⟨#[72, 84, 84, 80, 47, 49, 46, 49]⟩
def minP (s : ByteArray) : Int × Bool := if eqS s v10 = true then (0, true) else if eqS s v11 = true then (1, true) else (0, false)
theorem minor_any (s : ByteArray) (w : World) : Calls Tryz.prog 56 #[.string s] w fun e w' => e = .returned (.tuple #[.int .i64 (minP s).1, .bool (minP s).2]) ∧ w' = w := by
  unfold minP
  have e1 : eqS s v10 = (s.toList == [72, 84, 84, 80, 47, 49, 46, 48]) := by unfold eqS v10; congr 1; exact lit_list _
  have e2 : eqS s v11 = (s.toList == [72, 84, 84, 80, 47, 49, 46, 49]) := by unfold eqS v11; congr 1; exact lit_list _
  rw [e1, e2]
  clear e1 e2
  cases h1 : (s.toList == [72, 84, 84, 80, 47, 49, 46, 48])
  · cases h2 : (s.toList == [72, 84, 84, 80, 47, 49, 46, 49])
    · go_enter Tryz.func56, Tryz.ntmps56
      go_wp2
      go_ret2
      exact ⟨rfl, rfl⟩
    · go_enter Tryz.func56, Tryz.ntmps56
      go_wp2
      go_ret2
      exact ⟨rfl, rfl⟩
  · go_enter Tryz.func56, Tryz.ntmps56
    go_wp2
    go_ret2
    exact ⟨rfl, rfl⟩

def digP (c : Int) : Bool := decide (48 ≤ c) && decide (c ≤ 57)
theorem lisdigit_any (c : Int) (w : World) : Calls Tryz.prog 90 #[.int .u8 c] w fun e w' => e = .returned (.bool (digP c)) ∧ w' = w := by
  unfold digP
  by_cases a : 48 ≤ c
  · rw [decide_eq_true a]
    go_enter Tryz.func90, Tryz.ntmps90
    go_wp2
    go_ret
    exact ⟨retb (by simp), rfl⟩
  · rw [decide_eq_false a]
    go_enter Tryz.func90, Tryz.ntmps90
    go_wp2
    go_ret
    exact ⟨rfl, rfl⟩
end Go.Proofs.YthbjdbookiejeabGreatDoor
