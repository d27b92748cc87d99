/- Texts that the proof leans on, one behind the other: LnA LnB LnC LnD LnE LnF LnG LvA LbC -/
import Derived.Test.YtkdnckkdofoaoaaGreatDoorKc
import Derived.Test.YtkdnckkdofoaoaaGreatDoorKb
import Derived.Test.YtkdnckkdofoaoaaGreatDoorKa
import Derived.Deep.RegionHeld3
import Derived.Deep.RegionWith
import Derived.Deep.QuietTactic
import Derived.Lib.AppendIntMem
import Derived.Lib.LaidTab
import Derived.LaidSub
import Derived.MakeChecks
import Derived.Laws.RangeAny
import Derived.WalkSmall
/- The small calls of package line: methods, targets, versions, codes, reasons. -/
namespace Go.Proofs.YtkdnckkdofoaoaaGreatDoor
open Go.RowKit
set_option linter.unusedVariables false

def eqS (a b : ByteArray) : Bool := a.toList == b.toList
def tgtP (s : ByteArray) : Bool := allB (spanP 33 126) s.data.toList && decide (0 < s.size)
def mthP (s : ByteArray) : Bool := decide (s.size ≤ 20) && (allB tokP s.data.toList && decide (0 < s.size))
theorem retb {x y : Bool} (h : x = y) : Ending.returned (.bool x) = .returned (.bool y) := by rw [h]

set_option maxHeartbeats 1000000 in
theorem starget_any (s : ByteArray) (w : World) (hs : s.size ≤ maxLen) :
    Calls Tryz.prog 58 #[.string s] w fun e w' => e = .returned (.bool (tgtP s)) ∧ Below w.heap.size w w' := by
  unfold tgtP
  by_cases hz : s.size = 0
  · have he := empty_of hz
    subst he
    go_enter Tryz.func58, Tryz.ntmps58
    go_wp2
    go_ret
    exact ⟨rfl, Below.refl _ _⟩
  · have HZ : Hid (decide (0 < s.size) = true) := by rw [Hid]; simp; omega
    have hne := isEmpty_of hz
    clear hz
    rw [HZ.out]
    go_enter Tryz.func58, Tryz.ntmps58
    go_wp2_with fail
    refine (span_any 33 126 _).mono ?_
    rintro e w1 ⟨p0, q0, rfl, h0, k0, B1⟩
    have HA : Hid (Calls Tryz.prog 101 #[.string s, .func (.func 139) #[] #[.pointer (some ⟨p0, 0, none⟩), .pointer (some ⟨q0, 0, none⟩)]] w1 fun e w' => e = .returned (.bool (allB (spanP 33 126) s.data.toList)) ∧ w' = w1) := all50 s _ _ (spanP 33 126) w1 hs (fun c _ _ => span_call 33 126 c p0 q0 w1 h0 k0)
    clear h0 k0
    go_wp2_with fail
    refine HA.out.mono ?_
    rintro e w2 ⟨rfl, rfl⟩
    go_wp2
    go_ret
    exact ⟨ret_b (by simp), B1⟩

set_option maxHeartbeats 1000000 in
theorem method_any (s : ByteArray) (w : World) (hs : s.size ≤ maxLen) :
    Calls Tryz.prog 69 #[.string s] w fun e w' => e = .returned (.bool (mthP s)) ∧ Below w.heap.size w w' := by
  have HT : Hid (Calls Tryz.prog 57 #[.string s] w fun e w' => e = .returned (.bool (allB tokP s.data.toList && decide (0 < s.size))) ∧ Below w.heap.size w w') := token_any s w hs
  unfold mthP
  unfold maxLen at hs
  generalize (allB tokP s.data.toList && decide (0 < s.size)) = t at *
  by_cases h : s.size ≤ 20
  · have h' : (s.size : Int) ≤ 20 := by omega
    rw [decide_eq_true h, Bool.true_and]
    clear h
    go_enter Tryz.func69, Tryz.ntmps69
    go_wp2_with fail
    refine HT.out.mono ?_
    rintro e w1 ⟨rfl, B1⟩
    go_wp2
    go_ret
    exact ⟨rfl, B1⟩
  · have h' : ¬ (s.size : Int) ≤ 20 := by omega
    rw [decide_eq_false h, Bool.false_and]
    clear h HT
    go_enter Tryz.func69, Tryz.ntmps69
    go_wp2
    go_ret
    exact ⟨rfl, Below.refl _ _⟩

/-- A target of a method, however long. -/
def tarP (s m : ByteArray) : Bool := tgtP s && (decide (s.data.toList.head? = some 47) || (eqS s ⟨#[42]⟩ && eqS m ⟨#[79, 80, 84, 73, 79, 78, 83]⟩))
theorem lit_list (l : List UInt8) : (⟨l.toArray⟩ : ByteArray).toList = l := by rw [ByteArray.toList_eq]
theorem head_eq {s : ByteArray} (h : 0 < s.size) : decide (s.data.toList.head? = some 47) = ((s[0].toNat : Int) == 47) := by
  have e : s.data.toList.head? = some s[0] := by
    rw [List.head?_eq_getElem?, List.getElem?_eq_getElem (show 0 < s.data.toList.length from h)]; rfl
  rw [e]
  by_cases q : s[0] = 47
  · rw [q]; rfl
  · have q2 : ¬ (s[0].toNat : Int) = 47 := fun e => q (UInt8.toNat_inj.1 (show s[0].toNat = 47 by omega))
    rw [decide_eq_false (fun e => q (Option.some.inj e))]
    exact (beq_eq_false_iff_ne.2 q2).symm

set_option maxHeartbeats 1000000 in
theorem target_any (s m : ByteArray) (w : World) (hs : s.size ≤ maxLen) :
    Calls Tryz.prog 70 #[.string s, .string m] w fun e w' => e = .returned (.bool (tarP s m)) ∧ Below w.heap.size w w' := by
  have HT : Hid (Calls Tryz.prog 58 #[.string s] w fun e w' => e = .returned (.bool (tgtP s)) ∧ Below w.heap.size w w') := starget_any s w hs
  unfold tarP
  unfold maxLen at hs
  cases ht : tgtP s
  · rw [ht] at HT
    rw [Bool.false_and]
    clear ht
    go_enter Tryz.func70, Tryz.ntmps70
    go_wp2_with fail
    refine HT.out.mono ?_
    rintro e w1 ⟨rfl, B1⟩
    go_wp2
    go_ret
    exact ⟨rfl, B1⟩
  · rw [ht] at HT
    have hp : 0 < s.size := by
      unfold tgtP at ht
      rw [Bool.and_eq_true] at ht
      exact of_decide_eq_true ht.2
    rw [Bool.true_and, head_eq hp]
    have e1 : eqS s ⟨#[42]⟩ = (s.toList == [42]) := by unfold eqS; congr 1; exact lit_list _
    have e2 : eqS m ⟨#[79, 80, 84, 73, 79, 78, 83]⟩ = (m.toList == [79, 80, 84, 73, 79, 78, 83]) := by unfold eqS; congr 1; exact lit_list _
    rw [e1, e2]
    clear ht e1 e2
    have hp2 : (0 : Int) < (s.size : Int) := by omega
    cases h1 : ((s[0].toNat : Int) == 47)
    · cases h2 : (s.toList == [42])
      · go_enter Tryz.func70, Tryz.ntmps70
        go_wp2_with fail
        refine HT.out.mono ?_
        rintro e w1 ⟨rfl, B1⟩
        go_wp2
        go_ret
        exact ⟨rfl, B1⟩
      · go_enter Tryz.func70, Tryz.ntmps70
        go_wp2_with fail
        refine HT.out.mono ?_
        rintro e w1 ⟨rfl, B1⟩
        go_wp2
        go_ret
        exact ⟨retb (by simp), B1⟩
    · go_enter Tryz.func70, Tryz.ntmps70
      go_wp2_with fail
      refine HT.out.mono ?_
      rintro e w1 ⟨rfl, B1⟩
      go_wp2
      go_ret
      exact ⟨rfl, B1⟩

/-- The Minor of a version that is known. -/
def v10 : ByteArray := ⟨#[72, 84, 84, 80, 47, 49, 46, 48]⟩
def v11 : ByteArray := ⟨#[72, 84, 84, 80, 47, 49, 46, 49]⟩
def minP (s : ByteArray) : Int × Bool := if eqS s v10 = true then (0, true) else if eqS s v11 = true then (1, true) else (0, false)
theorem minor_any (s : ByteArray) (w : World) : Calls Tryz.prog 72 #[.string s] w fun e w' => e = .returned (.tuple #[.int .i64 (minP s).1, .bool (minP s).2]) ∧ w' = w := by
  unfold minP
  have e1 : eqS s v10 = (s.toList == [72, 84, 84, 80, 47, 49, 46, 48]) := by unfold eqS v10; congr 1; exact lit_list _
  have e2 : eqS s v11 = (s.toList == [72, 84, 84, 80, 47, 49, 46, 49]) := by unfold eqS v11; congr 1; exact lit_list _
  rw [e1, e2]
  clear e1 e2
  cases h1 : (s.toList == [72, 84, 84, 80, 47, 49, 46, 48])
  · cases h2 : (s.toList == [72, 84, 84, 80, 47, 49, 46, 49])
    · go_enter Tryz.func72, Tryz.ntmps72
      go_wp2
      go_ret2
      exact ⟨rfl, rfl⟩
    · go_enter Tryz.func72, Tryz.ntmps72
      go_wp2
      go_ret2
      exact ⟨rfl, rfl⟩
  · go_enter Tryz.func72, Tryz.ntmps72
    go_wp2
    go_ret2
    exact ⟨rfl, rfl⟩

def digP (c : Int) : Bool := decide (48 ≤ c) && decide (c ≤ 57)
theorem lisdigit_any (c : Int) (w : World) : Calls Tryz.prog 118 #[.int .u8 c] w fun e w' => e = .returned (.bool (digP c)) ∧ w' = w := by
  unfold digP
  by_cases a : 48 ≤ c
  · rw [decide_eq_true a]
    go_enter Tryz.func118, Tryz.ntmps118
    go_wp2
    go_ret
    exact ⟨retb (by simp), rfl⟩
  · rw [decide_eq_false a]
    go_enter Tryz.func118, Tryz.ntmps118
    go_wp2
    go_ret
    exact ⟨rfl, rfl⟩
end Go.Proofs.YtkdnckkdofoaoaaGreatDoor

/- Versions, codes, reasons: what the code of package line answers of every text. -/
namespace Go.Proofs.YtkdnckkdofoaoaaGreatDoor
open Go.RowKit
set_option linter.unusedVariables false

/-- Does a text begin with another? -/
def hasP (s p : ByteArray) : Bool := decide (p.size ≤ s.size) && ((s.extract 0 p.size).toList == p.toList)
def cutP (s p : ByteArray) : ByteArray := if hasP s p = true then s.extract p.size s.size else s

theorem hasprefix_any (s p : ByteArray) (w : World) : Calls Tryz.prog 177 #[.string s, .string p] w fun e w' => e = .returned (.bool (hasP s p)) ∧ w' = w := by
  unfold hasP
  go_enter Tryz.func177, Tryz.ntmps177
  go_wp2
  · rename_i h
    go_ret
    exact ⟨retb (by rw [decide_eq_true h, Bool.true_and]), rfl⟩
  · rename_i h
    go_ret
    exact ⟨retb (by rw [decide_eq_false h, Bool.false_and]), rfl⟩

theorem cutprefix_sl (s p : ByteArray) (w : World) : Calls Tryz.prog 151 #[.string s, .string p] w fun e w' => e = .returned (.tuple #[.string (cutP s p), .bool (hasP s p)]) ∧ w' = w := by
  have H : Hid (∀ W, Calls Tryz.prog 177 #[.string s, .string p] W fun e w' => e = .returned (.bool (hasP s p)) ∧ w' = W) := fun W => hasprefix_any s p W
  unfold cutP
  cases h : hasP s p
  · rw [h] at H
    clear h
    go_enter Tryz.func151, Tryz.ntmps151
    go_wp2_with fail
    refine (H.out _).mono ?_
    rintro e w1 ⟨rfl, rfl⟩
    go_wp2
    go_ret2
    exact ⟨rfl, rfl⟩
  · rw [h] at H
    have hl : p.size ≤ s.size := by
      unfold hasP at h
      rw [Bool.and_eq_true] at h
      exact of_decide_eq_true h.1
    clear h
    go_enter Tryz.func151, Tryz.ntmps151
    go_wp2_with fail
    refine (H.out _).mono ?_
    rintro e w1 ⟨rfl, rfl⟩
    go_wp2
    go_ret2
    exact ⟨rfl, rfl⟩

theorem cutprefix_any (s p : ByteArray) (w : World) : Calls Tryz.prog 117 #[.string s, .string p] w fun e w' => e = .returned (.tuple #[.string (cutP s p), .bool (hasP s p)]) ∧ w' = w := by
  go_enter Tryz.func117, Tryz.ntmps117
  go_wp2_with fail
  refine (cutprefix_sl s p _).mono ?_
  rintro e w1 ⟨rfl, rfl⟩
  go_wp2
  go_ret2
  exact ⟨rfl, rfl⟩

/-- A version of HTTP, known or not. -/
def http : ByteArray := ⟨#[72, 84, 84, 80, 47]⟩
def verN (l : List UInt8) : Bool := match l with
  | [a, b, c] => digP a.toNat && (((b.toNat : Int) == 46) && digP c.toNat)
  | _ => false
def verP (s : ByteArray) : Bool := hasP s http && verN (cutP s http).data.toList
theorem three_of {n : ByteArray} (h : n.size = 3) : ∃ a b c, n = ⟨#[a, b, c]⟩ := by
  obtain ⟨⟨l⟩⟩ := n
  match l, h with
  | [a, b, c], _ => exact ⟨a, b, c, rfl⟩
theorem verN_len {l : List UInt8} (h : ¬ l.length = 3) : verN l = false := by
  unfold verN
  split
  · exact absurd rfl h
  · rfl

set_option maxHeartbeats 1000000 in
theorem isversion_any (s : ByteArray) (w : World) : Calls Tryz.prog 71 #[.string s] w fun e w' => e = .returned (.bool (verP s)) ∧ w' = w := by
  have H : Hid (∀ W, Calls Tryz.prog 117 #[.string s, .string ⟨#[72, 84, 84, 80, 47]⟩] W fun e w' => e = .returned (.tuple #[.string (cutP s http), .bool (hasP s http)]) ∧ w' = W) := fun W => cutprefix_any s http W
  have D : Hid (∀ c W, Calls Tryz.prog 118 #[.int .u8 c] W fun e w' => e = .returned (.bool (digP c)) ∧ w' = W) := fun c W => lisdigit_any c W
  unfold verP
  generalize cutP s http = n at *
  cases h : hasP s http
  · rw [h] at H
    rw [Bool.false_and]
    clear h
    go_enter Tryz.func71, Tryz.ntmps71
    go_wp2_with fail
    refine (H.out _).mono ?_
    rintro e w1 ⟨rfl, rfl⟩
    go_wp2
    go_ret
    exact ⟨rfl, rfl⟩
  · rw [h] at H
    rw [Bool.true_and]
    clear h
    by_cases h3 : n.size = 3
    · obtain ⟨a, b, c, rfl⟩ := three_of h3
      clear h3
      unfold verN
      simp only
      clear D
      go_enter Tryz.func71, Tryz.ntmps71
      go_wp2_with fail
      refine (H.out _).mono ?_
      rintro e w1 ⟨rfl, rfl⟩
      go_wp2
      all_goals go_ret
      all_goals refine ⟨retb ?_, rfl⟩
      all_goals show _ = (digP (((⟨#[a, b, c]⟩ : ByteArray)[0]'(show 0 < 3 by decide)).toNat : Int) && (((((⟨#[a, b, c]⟩ : ByteArray)[1]'(show 1 < 3 by decide)).toNat : Int) == 46) && digP (((⟨#[a, b, c]⟩ : ByteArray)[2]'(show 2 < 3 by decide)).toNat : Int)))
      all_goals generalize (((⟨#[a, b, c]⟩ : ByteArray)[0]'(show 0 < 3 by decide)).toNat : Int) = x at *
      all_goals generalize (((⟨#[a, b, c]⟩ : ByteArray)[1]'(show 1 < 3 by decide)).toNat : Int) = y at *
      all_goals generalize (((⟨#[a, b, c]⟩ : ByteArray)[2]'(show 2 < 3 by decide)).toNat : Int) = z at *
      all_goals unfold digP
      all_goals (rw [Bool.eq_iff_iff]; simp; omega)
    · rw [verN_len (show ¬ n.data.toList.length = 3 from h3)]
      have h3' : ¬ (n.size : Int) = 3 := by omega
      clear h3
      go_enter Tryz.func71, Tryz.ntmps71
      go_wp2_with fail
      refine (H.out _).mono ?_
      rintro e w1 ⟨rfl, rfl⟩
      go_wp2
      go_ret
      exact ⟨rfl, rfl⟩

/-- A code of three digits. -/
def codP (s : ByteArray) : Int × Bool := if numB 10 18 s = true ∧ s.size = 3 ∧ 100 ≤ numI 10 18 s ∧ numI 10 18 s ≤ 599 then (numI 10 18 s, true) else (0, false)
set_option maxHeartbeats 1000000 in
theorem codeof_any (s : ByteArray) (w : World) (hs : s.size ≤ maxLen) : Calls Tryz.prog 127 #[.string s] w fun e w' => e = .returned (.tuple #[.int .i64 (codP s).1, .bool (codP s).2]) ∧ w' = w := by
  have H : Hid (∀ W, Calls Tryz.prog 143 #[.string s] W fun e w' => e = .returned (.tuple #[.int .i64 (numI 10 18 s), .bool (numB 10 18 s)]) ∧ w' = W) := fun W => decimal_any s W hs
  unfold codP
  unfold maxLen at hs
  generalize numI 10 18 s = n at *
  cases hb : numB 10 18 s
  · rw [hb] at H
    rw [if_neg (by simp)]
    go_enter Tryz.func127, Tryz.ntmps127
    go_wp2_with fail
    refine (H.out _).mono ?_
    rintro e w1 ⟨rfl, rfl⟩
    go_wp2
    go_ret2
    exact ⟨rfl, rfl⟩
  · rw [hb] at H
    by_cases h3 : s.size = 3
    · by_cases h1 : 100 ≤ n
      · by_cases h5 : n ≤ 599
        · rw [if_pos ⟨rfl, h3, h1, h5⟩]
          have k1 : ¬ n < 100 := by omega
          have k5 : ¬ 599 < n := by omega
          have k3 : (s.size : Int) = 3 := by omega
          clear h1 h5 h3 hs hb
          go_enter Tryz.func127, Tryz.ntmps127
          go_wp2_with fail
          refine (H.out _).mono ?_
          rintro e w1 ⟨rfl, rfl⟩
          go_wp2
          go_ret2
          exact ⟨rfl, rfl⟩
        · rw [if_neg (fun k => h5 k.2.2.2)]
          have k1 : ¬ n < 100 := by omega
          have k5 : 599 < n := by omega
          have k3 : (s.size : Int) = 3 := by omega
          clear h1 h5 h3 hs hb
          go_enter Tryz.func127, Tryz.ntmps127
          go_wp2_with fail
          refine (H.out _).mono ?_
          rintro e w1 ⟨rfl, rfl⟩
          go_wp2
          go_ret2
          exact ⟨rfl, rfl⟩
      · rw [if_neg (fun k => h1 k.2.2.1)]
        have k1 : n < 100 := by omega
        have k3 : (s.size : Int) = 3 := by omega
        clear h1 h3 hs hb
        go_enter Tryz.func127, Tryz.ntmps127
        go_wp2_with fail
        refine (H.out _).mono ?_
        rintro e w1 ⟨rfl, rfl⟩
        go_wp2
        go_ret2
        exact ⟨rfl, rfl⟩
    · rw [if_neg (fun k => h3 k.2.1)]
      have k3 : ¬ (s.size : Int) = 3 := by omega
      clear h3 hs hb
      go_enter Tryz.func127, Tryz.ntmps127
      go_wp2_with fail
      refine (H.out _).mono ?_
      rintro e w1 ⟨rfl, rfl⟩
      go_wp2
      go_ret2
      exact ⟨rfl, rfl⟩

def rsnP (s : ByteArray) : Bool := decide (s.size ≤ 100) && allB valP s.data.toList
theorem isreason_any (s : ByteArray) (w : World) (hs : s.size ≤ maxLen) :
    Calls Tryz.prog 128 #[.string s] w fun e w' => e = .returned (.bool (rsnP s)) ∧ Below w.heap.size w w' := by
  have HT : Hid (∀ W, Calls Tryz.prog 160 #[.string s] W fun e w' => e = .returned (.bool (allB valP s.data.toList)) ∧ Below W.heap.size W w') := fun W => value_any s W hs
  unfold rsnP
  unfold maxLen at hs
  generalize allB valP s.data.toList = t at *
  by_cases h : s.size ≤ 100
  · have h' : (s.size : Int) ≤ 100 := by omega
    rw [decide_eq_true h, Bool.true_and]
    clear h
    go_enter Tryz.func128, Tryz.ntmps128
    go_wp2_with fail
    refine (HT.out _).mono ?_
    rintro e w1 ⟨rfl, B1⟩
    go_wp2
    go_ret
    exact ⟨rfl, B1⟩
  · have h' : ¬ (s.size : Int) ≤ 100 := by omega
    rw [decide_eq_false h, Bool.false_and]
    clear h HT
    go_enter Tryz.func128, Tryz.ntmps128
    go_wp2
    go_ret
    exact ⟨rfl, Below.refl _ _⟩
end Go.Proofs.YtkdnckkdofoaoaaGreatDoor

/- Status: what it answers of every text. -/
namespace Go.Proofs.YtkdnckkdofoaoaaGreatDoor
open Go.RowKit
set_option linter.unusedVariables false

theorem lbelow_drewN (B : Nat) (w : World) (k : Nat) : Below B w (w.drewN k) := by refine ⟨?_, ?_, ?_, ?_, ?_⟩ <;> simp [World.drewN]
theorem lblk_z {w : World} {b i : Nat} {c : Array Value} {t : TypeId} (h : w.heap[b]? = some (.cells c t)) : w.frozen? ⟨b, i, none⟩ = false := by simp [World.frozen?, h]
/-- A block of five cells, written over. -/
def five (w : World) (b : Nat) (v0 v1 v2 v3 v4 : Value) : World := ((((w.setCell ⟨b, 0, none⟩ v0).setCell ⟨b, 1, none⟩ v1).setCell ⟨b, 2, none⟩ v2).setCell ⟨b, 3, none⟩ v3).setCell ⟨b, 4, none⟩ v4
theorem five_cells {w : World} {b : Nat} {y0 y1 y2 y3 y4 : Value} {t : TypeId} (h : w.heap[b]? = some (.cells #[y0, y1, y2, y3, y4] t)) (v0 v1 v2 v3 v4 : Value) :
    (five w b v0 v1 v2 v3 v4).heap[b]? = some (.cells #[v0, v1, v2, v3, v4] t) := by
  simp [five, World.setCell, Array.getElem?_modify, h]
theorem five_below {B : Nat} {w w' : World} {b : Nat} (v0 v1 v2 v3 v4 : Value) (C : Below B w w') (hb : B ≤ b) : Below B w (five w' b v0 v1 v2 v3 v4) := by
  unfold five
  exact ((((C.setCell (p := ⟨b, 0, none⟩) hb _).setCell (p := ⟨b, 1, none⟩) hb _).setCell (p := ⟨b, 2, none⟩) hb _).setCell (p := ⟨b, 3, none⟩) hb _).setCell (p := ⟨b, 4, none⟩) hb _

/-- Cut at the first blank. -/
def bcut (s : ByteArray) : ByteArray × ByteArray × Bool := (⟨(Lib.cut s.data.toList [32]).1.toArray⟩, ⟨(Lib.cut s.data.toList [32]).2.1.toArray⟩, (Lib.cut s.data.toList [32]).2.2)
theorem bcut_any (s : ByteArray) (w : World) (hs : s.size < 4294967281) (hM : MaxL w) :
    Calls Tryz.prog 98 #[.string s, .string ⟨#[32]⟩] w fun e w' => e = .returned (.tuple #[.string (bcut s).1, .string (bcut s).2.1, .bool (bcut s).2.2]) ∧ Below w.heap.size w w' := by
  obtain ⟨m, hm⟩ := hM
  refine (Tryz.strings_Cut s ⟨#[32]⟩ m w hs hm).mono ?_
  rintro e w' ⟨rfl, k, rfl⟩
  exact ⟨rfl, lbelow_drewN _ _ _⟩
theorem lcut_len (l s : List UInt8) : (Lib.cut l s).1.length ≤ l.length ∧ (Lib.cut l s).2.1.length ≤ l.length := by
  unfold Lib.cut
  split <;> simp <;> omega
theorem bcut_len (s : ByteArray) : (bcut s).1.size ≤ s.size ∧ (bcut s).2.1.size ≤ s.size := lcut_len s.data.toList [32]

structure St where
  code : Int
  reason : ByteArray
  minor : Int
  ok : Bool
def statP (s : ByteArray) : St :=
  if (minP (bcut s).1).2 = true ∧ (codP (bcut (bcut s).2.1).1).2 = true ∧ rsnP (bcut (bcut s).2.1).2.1 = true then ⟨(codP (bcut (bcut s).2.1).1).1, (bcut (bcut s).2.1).2.1, (minP (bcut s).1).1, true⟩ else ⟨0, ⟨#[]⟩, 0, false⟩
/-- A response's value. -/
def respV (x : St) : Value := .agg #[.int .i64 x.code, .string x.reason, .int .i64 x.minor, .slice none 0 0, .slice none 0 0]

set_option maxRecDepth 100000 in
set_option maxHeartbeats 4000000 in
theorem status_any (s : ByteArray) (w : World) (hs : s.size < 4294967281) (hM : MaxL w) :
    Calls Tryz.prog 86 #[.string s] w fun e w' => e = .returned (.tuple #[respV (statP s), .bool (statP s).ok]) ∧ Below w.heap.size w w' := by
  have l1 := bcut_len s
  have l2 := bcut_len (bcut s).2.1
  have H1 : Hid (∀ W, Below w.heap.size w W → Calls Tryz.prog 98 #[.string s, .string ⟨#[32]⟩] W fun e w' => e = .returned (.tuple #[.string (bcut s).1, .string (bcut s).2.1, .bool (bcut s).2.2]) ∧ Below W.heap.size W w') := fun W b => bcut_any s W hs (hM.below b)
  have H2 : Hid (∀ W, Below w.heap.size w W → Calls Tryz.prog 98 #[.string (bcut s).2.1, .string ⟨#[32]⟩] W fun e w' => e = .returned (.tuple #[.string (bcut (bcut s).2.1).1, .string (bcut (bcut s).2.1).2.1, .bool (bcut (bcut s).2.1).2.2]) ∧ Below W.heap.size W w') := fun W b => bcut_any _ W (by omega) (hM.below b)
  have HD : Hid (∀ W, Calls Tryz.prog 127 #[.string (bcut (bcut s).2.1).1] W fun e w' => e = .returned (.tuple #[.int .i64 (codP (bcut (bcut s).2.1).1).1, .bool (codP (bcut (bcut s).2.1).1).2]) ∧ w' = W) := fun W => codeof_any _ W (by unfold maxLen; omega)
  have HR : Hid (∀ W, Calls Tryz.prog 128 #[.string (bcut (bcut s).2.1).2.1] W fun e w' => e = .returned (.bool (rsnP (bcut (bcut s).2.1).2.1)) ∧ Below W.heap.size W w') := fun W => isreason_any _ W (by unfold maxLen; omega)
  have HK : Hid (∀ W, Calls Tryz.prog 73 #[.string (bcut (bcut s).2.1).2.1] W fun e w' => e = .returned (.string (bcut (bcut s).2.1).2.1) ∧ Below W.heap.size W w') := fun W => clone_any _ W (by omega)
  have HN : Hid (∀ W, Calls Tryz.prog 72 #[.string (bcut s).1] W fun e w' => e = .returned (.tuple #[.int .i64 (minP (bcut s).1).1, .bool (minP (bcut s).1).2]) ∧ w' = W) := fun W => minor_any _ W
  unfold statP
  generalize (bcut (bcut s).2.1) = y at *
  generalize (bcut s) = x at *
  obtain ⟨v, rest, b1⟩ := x
  obtain ⟨d, r, b2⟩ := y
  simp only at H1 H2 HD HR HK HN ⊢
  generalize minP v = mm at *
  generalize codP d = cc at *
  generalize rsnP r = rr at *
  obtain ⟨m, kn⟩ := mm
  obtain ⟨c, ok⟩ := cc
  simp only at HD HN ⊢
  clear l1 l2 hs hM
  have hg0 := tblk_new w (.cells #[.int .i64 0, .string ⟨#[]⟩, .int .i64 0, .slice none 0 0, .slice none 0 0] 33)
  have C0 : Below w.heap.size w (w.alloc (.cells #[.int .i64 0, .string ⟨#[]⟩, .int .i64 0, .slice none 0 0, .slice none 0 0] 33)) := (Below.refl _ _).alloc (Nat.le_refl _) _
  cases kn
  · rw [if_neg (by simp)]
    clear HR HK
    go_enter Tryz.func86, Tryz.ntmps86
    go_wp2_with fail
    refine (H1.out _ C0).mono ?_
    generalize w.alloc (.cells #[.int .i64 0, .string ⟨#[]⟩, .int .i64 0, .slice none 0 0, .slice none 0 0] 33) = w0 at *
    rintro e w1 ⟨rfl, B1⟩
    have hg1 := tblk_below hg0 B1
    have C1 := C0.trans (B1.mono C0.size)
    clear hg0 C0 B1 H1
    go_wp2_with fail
    refine (H2.out _ C1).mono ?_
    rintro e w2 ⟨rfl, B2⟩
    have hg2 := tblk_below hg1 B2
    have C2 := C1.trans (B2.mono C1.size)
    clear hg1 C1 B2 H2
    go_wp2_with fail
    refine (HN.out _).mono ?_
    rintro e w3 ⟨rfl, rfl⟩
    go_wp2_with fail
    refine (HD.out _).mono ?_
    rintro e w4 ⟨rfl, rfl⟩
    clear HD HN
    have HW := five_cells hg2 (.int .i64 0) (.string ⟨#[]⟩) (.int .i64 0) (.slice none 0 0) (.slice none 0 0)
    have HB := five_below (.int .i64 0) (.string ⟨#[]⟩) (.int .i64 0) (.slice none 0 0) (.slice none 0 0) C2 (Nat.le_refl _)
    have a0 : w4.cell? ⟨w.heap.size, 0, none⟩ = some _ := tblk_cell hg2 rfl
    have z0 : w4.frozen? ⟨w.heap.size, 0, none⟩ = false := lblk_z hg2
    have a1 : w4.cell? ⟨w.heap.size, 1, none⟩ = some _ := tblk_cell hg2 rfl
    have z1 : w4.frozen? ⟨w.heap.size, 1, none⟩ = false := lblk_z hg2
    have a2 : w4.cell? ⟨w.heap.size, 2, none⟩ = some _ := tblk_cell hg2 rfl
    have z2 : w4.frozen? ⟨w.heap.size, 2, none⟩ = false := lblk_z hg2
    have a3 : w4.cell? ⟨w.heap.size, 3, none⟩ = some _ := tblk_cell hg2 rfl
    have z3 : w4.frozen? ⟨w.heap.size, 3, none⟩ = false := lblk_z hg2
    have a4 : w4.cell? ⟨w.heap.size, 4, none⟩ = some _ := tblk_cell hg2 rfl
    have z4 : w4.frozen? ⟨w.heap.size, 4, none⟩ = false := lblk_z hg2
    have r0 := tblk_cell (i := 0) HW rfl
    have r1 := tblk_cell (i := 1) HW rfl
    have r2 := tblk_cell (i := 2) HW rfl
    have r3 := tblk_cell (i := 3) HW rfl
    have r4 := tblk_cell (i := 4) HW rfl
    unfold five at r0 r1 r2 r3 r4 HB
    have HB' : Hid _ := HB
    clear HB HW hg2 C2
    go_wp2
    refine bodyPost_ret (v := .tuple #[.agg #[.int .i64 0, .string ⟨#[]⟩, .int .i64 0, .slice none 0 0, .slice none 0 0], .bool false]) (by simp [results, Tryz.results86, go_sem, r0, r1, r2, r3, r4]) rfl ⟨rfl, HB'.out⟩
  · cases ok
    · rw [if_neg (by simp)]
      clear HR HK
      go_enter Tryz.func86, Tryz.ntmps86
      go_wp2_with fail
      refine (H1.out _ C0).mono ?_
      generalize w.alloc (.cells #[.int .i64 0, .string ⟨#[]⟩, .int .i64 0, .slice none 0 0, .slice none 0 0] 33) = w0 at *
      rintro e w1 ⟨rfl, B1⟩
      have hg1 := tblk_below hg0 B1
      have C1 := C0.trans (B1.mono C0.size)
      clear hg0 C0 B1 H1
      go_wp2_with fail
      refine (H2.out _ C1).mono ?_
      rintro e w2 ⟨rfl, B2⟩
      have hg2 := tblk_below hg1 B2
      have C2 := C1.trans (B2.mono C1.size)
      clear hg1 C1 B2 H2
      go_wp2_with fail
      refine (HN.out _).mono ?_
      rintro e w3 ⟨rfl, rfl⟩
      go_wp2_with fail
      refine (HD.out _).mono ?_
      rintro e w4 ⟨rfl, rfl⟩
      clear HD HN
      have HW := five_cells hg2 (.int .i64 0) (.string ⟨#[]⟩) (.int .i64 0) (.slice none 0 0) (.slice none 0 0)
      have HB := five_below (.int .i64 0) (.string ⟨#[]⟩) (.int .i64 0) (.slice none 0 0) (.slice none 0 0) C2 (Nat.le_refl _)
      have a0 : w4.cell? ⟨w.heap.size, 0, none⟩ = some _ := tblk_cell hg2 rfl
      have z0 : w4.frozen? ⟨w.heap.size, 0, none⟩ = false := lblk_z hg2
      have a1 : w4.cell? ⟨w.heap.size, 1, none⟩ = some _ := tblk_cell hg2 rfl
      have z1 : w4.frozen? ⟨w.heap.size, 1, none⟩ = false := lblk_z hg2
      have a2 : w4.cell? ⟨w.heap.size, 2, none⟩ = some _ := tblk_cell hg2 rfl
      have z2 : w4.frozen? ⟨w.heap.size, 2, none⟩ = false := lblk_z hg2
      have a3 : w4.cell? ⟨w.heap.size, 3, none⟩ = some _ := tblk_cell hg2 rfl
      have z3 : w4.frozen? ⟨w.heap.size, 3, none⟩ = false := lblk_z hg2
      have a4 : w4.cell? ⟨w.heap.size, 4, none⟩ = some _ := tblk_cell hg2 rfl
      have z4 : w4.frozen? ⟨w.heap.size, 4, none⟩ = false := lblk_z hg2
      have r0 := tblk_cell (i := 0) HW rfl
      have r1 := tblk_cell (i := 1) HW rfl
      have r2 := tblk_cell (i := 2) HW rfl
      have r3 := tblk_cell (i := 3) HW rfl
      have r4 := tblk_cell (i := 4) HW rfl
      unfold five at r0 r1 r2 r3 r4 HB
      have HB' : Hid _ := HB
      clear HB HW hg2 C2
      go_wp2
      refine bodyPost_ret (v := .tuple #[.agg #[.int .i64 0, .string ⟨#[]⟩, .int .i64 0, .slice none 0 0, .slice none 0 0], .bool false]) (by simp [results, Tryz.results86, go_sem, r0, r1, r2, r3, r4]) rfl ⟨rfl, HB'.out⟩
    · cases rr
      · rw [if_neg (by simp)]
        clear HK
        go_enter Tryz.func86, Tryz.ntmps86
        go_wp2_with fail
        refine (H1.out _ C0).mono ?_
        generalize w.alloc (.cells #[.int .i64 0, .string ⟨#[]⟩, .int .i64 0, .slice none 0 0, .slice none 0 0] 33) = w0 at *
        rintro e w1 ⟨rfl, B1⟩
        have hg1 := tblk_below hg0 B1
        have C1 := C0.trans (B1.mono C0.size)
        clear hg0 C0 B1 H1
        go_wp2_with fail
        refine (H2.out _ C1).mono ?_
        rintro e w2 ⟨rfl, B2⟩
        have hg2 := tblk_below hg1 B2
        have C2 := C1.trans (B2.mono C1.size)
        clear hg1 C1 B2 H2
        go_wp2_with fail
        refine (HN.out _).mono ?_
        rintro e w3 ⟨rfl, rfl⟩
        go_wp2_with fail
        refine (HD.out _).mono ?_
        rintro e w4 ⟨rfl, rfl⟩
        clear HD HN
        go_wp2_with fail
        refine (HR.out _).mono ?_
        rintro e w5 ⟨rfl, B3⟩
        have hg3 := tblk_below hg2 B3
        have C3 := C2.trans (B3.mono C2.size)
        clear hg2 C2 B3 HR
        have HW := five_cells hg3 (.int .i64 0) (.string ⟨#[]⟩) (.int .i64 0) (.slice none 0 0) (.slice none 0 0)
        have HB := five_below (.int .i64 0) (.string ⟨#[]⟩) (.int .i64 0) (.slice none 0 0) (.slice none 0 0) C3 (Nat.le_refl _)
        have a0 : w5.cell? ⟨w.heap.size, 0, none⟩ = some _ := tblk_cell hg3 rfl
        have z0 : w5.frozen? ⟨w.heap.size, 0, none⟩ = false := lblk_z hg3
        have a1 : w5.cell? ⟨w.heap.size, 1, none⟩ = some _ := tblk_cell hg3 rfl
        have z1 : w5.frozen? ⟨w.heap.size, 1, none⟩ = false := lblk_z hg3
        have a2 : w5.cell? ⟨w.heap.size, 2, none⟩ = some _ := tblk_cell hg3 rfl
        have z2 : w5.frozen? ⟨w.heap.size, 2, none⟩ = false := lblk_z hg3
        have a3 : w5.cell? ⟨w.heap.size, 3, none⟩ = some _ := tblk_cell hg3 rfl
        have z3 : w5.frozen? ⟨w.heap.size, 3, none⟩ = false := lblk_z hg3
        have a4 : w5.cell? ⟨w.heap.size, 4, none⟩ = some _ := tblk_cell hg3 rfl
        have z4 : w5.frozen? ⟨w.heap.size, 4, none⟩ = false := lblk_z hg3
        have r0 := tblk_cell (i := 0) HW rfl
        have r1 := tblk_cell (i := 1) HW rfl
        have r2 := tblk_cell (i := 2) HW rfl
        have r3 := tblk_cell (i := 3) HW rfl
        have r4 := tblk_cell (i := 4) HW rfl
        unfold five at r0 r1 r2 r3 r4 HB
        have HB' : Hid _ := HB
        clear HB HW hg3 C3
        go_wp2
        refine bodyPost_ret (v := .tuple #[.agg #[.int .i64 0, .string ⟨#[]⟩, .int .i64 0, .slice none 0 0, .slice none 0 0], .bool false]) (by simp [results, Tryz.results86, go_sem, r0, r1, r2, r3, r4]) rfl ⟨rfl, HB'.out⟩
      · rw [if_pos ⟨rfl, rfl, rfl⟩]
        go_enter Tryz.func86, Tryz.ntmps86
        go_wp2_with fail
        refine (H1.out _ C0).mono ?_
        generalize w.alloc (.cells #[.int .i64 0, .string ⟨#[]⟩, .int .i64 0, .slice none 0 0, .slice none 0 0] 33) = w0 at *
        rintro e w1 ⟨rfl, B1⟩
        have hg1 := tblk_below hg0 B1
        have C1 := C0.trans (B1.mono C0.size)
        clear hg0 C0 B1 H1
        go_wp2_with fail
        refine (H2.out _ C1).mono ?_
        rintro e w2 ⟨rfl, B2⟩
        have hg2 := tblk_below hg1 B2
        have C2 := C1.trans (B2.mono C1.size)
        clear hg1 C1 B2 H2
        go_wp2_with fail
        refine (HN.out _).mono ?_
        rintro e w3 ⟨rfl, rfl⟩
        go_wp2_with fail
        refine (HD.out _).mono ?_
        rintro e w4 ⟨rfl, rfl⟩
        clear HD HN
        go_wp2_with fail
        refine (HR.out _).mono ?_
        rintro e w5 ⟨rfl, B3⟩
        have hg3 := tblk_below hg2 B3
        have C3 := C2.trans (B3.mono C2.size)
        clear hg2 C2 B3 HR
        go_wp2_with fail
        refine (HK.out _).mono ?_
        rintro e w6 ⟨rfl, B4⟩
        have hg4 := tblk_below hg3 B4
        have C4 := C3.trans (B4.mono C3.size)
        clear hg3 C3 B4 HK
        have HW := five_cells hg4 (.int .i64 c) (.string r) (.int .i64 m) (.slice none 0 0) (.slice none 0 0)
        have HB := five_below (.int .i64 c) (.string r) (.int .i64 m) (.slice none 0 0) (.slice none 0 0) C4 (Nat.le_refl _)
        have a0 : w6.cell? ⟨w.heap.size, 0, none⟩ = some _ := tblk_cell hg4 rfl
        have z0 : w6.frozen? ⟨w.heap.size, 0, none⟩ = false := lblk_z hg4
        have a1 : w6.cell? ⟨w.heap.size, 1, none⟩ = some _ := tblk_cell hg4 rfl
        have z1 : w6.frozen? ⟨w.heap.size, 1, none⟩ = false := lblk_z hg4
        have a2 : w6.cell? ⟨w.heap.size, 2, none⟩ = some _ := tblk_cell hg4 rfl
        have z2 : w6.frozen? ⟨w.heap.size, 2, none⟩ = false := lblk_z hg4
        have a3 : w6.cell? ⟨w.heap.size, 3, none⟩ = some _ := tblk_cell hg4 rfl
        have z3 : w6.frozen? ⟨w.heap.size, 3, none⟩ = false := lblk_z hg4
        have a4 : w6.cell? ⟨w.heap.size, 4, none⟩ = some _ := tblk_cell hg4 rfl
        have z4 : w6.frozen? ⟨w.heap.size, 4, none⟩ = false := lblk_z hg4
        have r0 := tblk_cell (i := 0) HW rfl
        have r1 := tblk_cell (i := 1) HW rfl
        have r2 := tblk_cell (i := 2) HW rfl
        have r3 := tblk_cell (i := 3) HW rfl
        have r4 := tblk_cell (i := 4) HW rfl
        unfold five at r0 r1 r2 r3 r4 HB
        have HB' : Hid _ := HB
        clear HB HW hg4 C4
        go_wp2
        refine bodyPost_ret (v := .tuple #[.agg #[.int .i64 c, .string r, .int .i64 m, .slice none 0 0, .slice none 0 0], .bool true]) (by simp [results, Tryz.results86, go_sem, r0, r1, r2, r3, r4]) rfl ⟨rfl, HB'.out⟩
end Go.Proofs.YtkdnckkdofoaoaaGreatDoor

/- Request: what it answers of every text. -/
namespace Go.Proofs.YtkdnckkdofoaoaaGreatDoor
open Go.RowKit
set_option linter.unusedVariables false

/-- The parts between blanks, up to four. -/
def part4 (s : ByteArray) : List ByteArray := Lib.splitB ⟨#[32]⟩ 0 (min 4 (s.size + 1) - 1) s
theorem extract_le (s : ByteArray) (i j : Nat) : (s.extract i j).size ≤ s.size := by rw [ByteArray.size_extract]; omega
theorem splitB_sizes (sep : ByteArray) : ∀ (k : Nat) (s : ByteArray), ∀ x ∈ Lib.splitB sep 0 k s, x.size ≤ s.size
  | 0, s, x, hx => by
    rw [Lib.splitB_zero] at hx
    simp at hx
    rw [hx]
    exact Nat.le_refl _
  | k + 1, s, x, hx => by
    unfold Lib.splitB at hx
    split at hx
    · simp at hx
      rw [hx]
      exact Nat.le_refl _
    · rcases List.mem_cons.1 hx with h | h
      · rw [h]; exact extract_le _ _ _
      · exact Nat.le_trans (splitB_sizes sep k _ x h) (extract_le _ _ _)
theorem part4_any (s : ByteArray) (w : World) (hs : s.size < 4294967281) (hM : MaxL w) :
    Calls Tryz.prog 68 #[.string s, .string ⟨#[32]⟩, .int .i64 4] w fun e w' => ∃ b c, e = .returned (.slice (some ⟨b, 0, none⟩) (part4 s).length c) ∧ Below w.heap.size w w' ∧ w.heap.size ≤ b ∧ (∀ i x, (part4 s)[i]? = some x → w'.cell? ⟨b, i, none⟩ = some (.string x)) := by
  obtain ⟨m, hm⟩ := hM
  refine (Tryz.strings_SplitN s ⟨#[32]⟩ 4 m w hs hm (by decide) (by decide) (by decide)).mono ?_
  rintro e w' ⟨rfl, rfl⟩
  refine ⟨w.heap.size, _, rfl, (Below.refl _ _).alloc (Nat.le_refl _) _, Nat.le_refl _, ?_⟩
  intro i x hx
  refine tblk_cell (tblk_new _ _) ?_
  unfold Lib.cellsOf
  have hi : i < (part4 s).length := (List.getElem?_eq_some_iff.1 hx).1
  unfold part4 at hx hi
  rw [List.getElem?_toArray, List.getElem?_append_left (by simpa using hi), List.getElem?_map, hx]
  rfl

structure Rq where
  method : ByteArray
  target : ByteArray
  minor : Int
  code : Int
def rqV (x : Rq) : Value := .agg #[.string x.method, .string x.target, .int .i64 x.minor, .slice none 0 0, .slice none 0 0]
def rqNo (c : Int) : Rq := ⟨⟨#[]⟩, ⟨#[]⟩, 0, c⟩
def rq3 (p0 p1 p2 : ByteArray) : Rq :=
  if mthP p0 = false then rqNo 400 else if tarP p1 p0 = false then rqNo 400 else if 512 < p1.size then rqNo 414 else if verP p2 = false then rqNo 400 else if (minP p2).2 = false then rqNo 505 else ⟨p0, p1, (minP p2).1, 0⟩
def rqP (s : ByteArray) : Rq := match part4 s with
  | [p0, p1, p2] => rq3 p0 p1 p2
  | _ => rqNo 400
/-- Request's own block, and the row of the three parts. -/
structure RQ (w : World) (b : Nat) (p0 p1 p2 : ByteArray) (W : World) : Prop where
  below : Below w.heap.size w W
  own : W.heap[w.heap.size]? = some (.cells #[.string ⟨#[]⟩, .string ⟨#[]⟩, .int .i64 0, .slice none 0 0, .slice none 0 0] 26)
  lt : b < W.heap.size
  ne : ¬ b = w.heap.size
  c0 : W.cell? ⟨b, 0, none⟩ = some (.string p0)
  c1 : W.cell? ⟨b, 1, none⟩ = some (.string p1)
  c2 : W.cell? ⟨b, 2, none⟩ = some (.string p2)
theorem RQ.drew {w W : World} {b : Nat} {p0 p1 p2 : ByteArray} (h : RQ w b p0 p1 p2 W) : RQ w b p0 p1 p2 W.drew := ⟨h.below.drew, h.own, h.lt, h.ne, h.c0, h.c1, h.c2⟩
theorem RQ.next {w W W' : World} {b : Nat} {p0 p1 p2 : ByteArray} (h : RQ w b p0 p1 p2 W) (k : Below W.heap.size W W') : RQ w b p0 p1 p2 W' :=
  ⟨h.below.trans (k.mono h.below.size), tblk_below h.own k, Nat.lt_of_lt_of_le h.lt k.size, h.ne, (k.cell (p := ⟨b, 0, none⟩) h.lt).trans h.c0, (k.cell (p := ⟨b, 1, none⟩) h.lt).trans h.c1, (k.cell (p := ⟨b, 2, none⟩) h.lt).trans h.c2⟩
theorem ne_of_le {w : World} {o : Obj} {b : Nat} (h : (w.alloc o).heap.size ≤ b) : ¬ b = w.heap.size := by simp at h; omega
theorem lcell_lt {w : World} {b : Nat} {i : Nat} {v : Value} (h : w.cell? ⟨b, i, none⟩ = some v) : b < w.heap.size := by
  unfold World.cell? at h
  rcases Nat.lt_or_ge b w.heap.size with c | c
  · exact c
  · simp [Array.getElem?_eq_none c] at h

set_option maxRecDepth 100000 in
set_option maxHeartbeats 4000000 in
theorem req_three (p0 p1 p2 s : ByteArray) (w : World) (hs : s.size < 4294967281) (hM : MaxL w) (hp : part4 s = [p0, p1, p2]) :
    Calls Tryz.prog 36 #[.string s] w fun e w' => e = .returned (.tuple #[rqV (rq3 p0 p1 p2), .int .i64 (rq3 p0 p1 p2).code]) ∧ Below w.heap.size w w' := by
  have q0 : p0.size ≤ s.size := splitB_sizes _ _ _ p0 (show p0 ∈ part4 s by rw [hp]; simp)
  have q1 : p1.size ≤ s.size := splitB_sizes _ _ _ p1 (show p1 ∈ part4 s by rw [hp]; simp)
  have q2 : p2.size ≤ s.size := splitB_sizes _ _ _ p2 (show p2 ∈ part4 s by rw [hp]; simp)
  have C0 : Below w.heap.size w (w.alloc (.cells #[.string ⟨#[]⟩, .string ⟨#[]⟩, .int .i64 0, .slice none 0 0, .slice none 0 0] 26)) := (Below.refl _ _).alloc (Nat.le_refl _) _
  have hg0 := tblk_new w (.cells #[.string ⟨#[]⟩, .string ⟨#[]⟩, .int .i64 0, .slice none 0 0, .slice none 0 0] 26)
  have H1 : Hid (Calls Tryz.prog 68 #[.string s, .string ⟨#[32]⟩, .int .i64 4] (w.alloc (.cells #[.string ⟨#[]⟩, .string ⟨#[]⟩, .int .i64 0, .slice none 0 0, .slice none 0 0] 26)) fun e w' => ∃ b c, e = .returned (.slice (some ⟨b, 0, none⟩) 3 c) ∧ RQ w b p0 p1 p2 w') := by
    refine (part4_any s _ hs (hM.below C0)).mono ?_
    rintro e w' ⟨b, c, he, B, hb, hc⟩
    rw [hp] at he hc
    have c0 := hc 0 p0 rfl
    exact ⟨b, c, he, C0.trans (B.mono C0.size), tblk_below hg0 B, lcell_lt c0, (ne_of_le hb), c0, hc 1 p1 rfl, hc 2 p2 rfl⟩
  have HM : Hid (∀ b W, RQ w b p0 p1 p2 W → Calls Tryz.prog 69 #[.string p0] W fun e w' => e = .returned (.bool (mthP p0)) ∧ RQ w b p0 p1 p2 w' ∧ w'.cell? ⟨b, 0, none⟩ = some (.string p0) ∧ w'.cell? ⟨b, 1, none⟩ = some (.string p1) ∧ w'.cell? ⟨b, 2, none⟩ = some (.string p2)) := fun b W i => (method_any _ W (by unfold maxLen; omega)).mono fun e w' z => ⟨z.1, i.next z.2, (i.next z.2).c0, (i.next z.2).c1, (i.next z.2).c2⟩
  have HT : Hid (∀ b W, RQ w b p0 p1 p2 W → Calls Tryz.prog 70 #[.string p1, .string p0] W fun e w' => e = .returned (.bool (tarP p1 p0)) ∧ RQ w b p0 p1 p2 w' ∧ w'.cell? ⟨b, 0, none⟩ = some (.string p0) ∧ w'.cell? ⟨b, 1, none⟩ = some (.string p1) ∧ w'.cell? ⟨b, 2, none⟩ = some (.string p2)) := fun b W i => (target_any _ _ W (by unfold maxLen; omega)).mono fun e w' z => ⟨z.1, i.next z.2, (i.next z.2).c0, (i.next z.2).c1, (i.next z.2).c2⟩
  have K0 : Hid (∀ b W, RQ w b p0 p1 p2 W → Calls Tryz.prog 73 #[.string p0] W fun e w' => e = .returned (.string p0) ∧ RQ w b p0 p1 p2 w' ∧ w'.cell? ⟨b, 0, none⟩ = some (.string p0) ∧ w'.cell? ⟨b, 1, none⟩ = some (.string p1) ∧ w'.cell? ⟨w.heap.size, 0, none⟩ = some (.string ⟨#[]⟩) ∧ w'.frozen? ⟨w.heap.size, 0, none⟩ = false ∧ w'.cell? ⟨w.heap.size, 1, none⟩ = some (.string ⟨#[]⟩) ∧ w'.frozen? ⟨w.heap.size, 1, none⟩ = false ∧ w'.cell? ⟨w.heap.size, 2, none⟩ = some (.int .i64 0) ∧ w'.frozen? ⟨w.heap.size, 2, none⟩ = false ∧ w'.cell? ⟨w.heap.size, 3, none⟩ = some (.slice none 0 0) ∧ w'.frozen? ⟨w.heap.size, 3, none⟩ = false ∧ w'.cell? ⟨w.heap.size, 4, none⟩ = some (.slice none 0 0) ∧ w'.frozen? ⟨w.heap.size, 4, none⟩ = false) := fun b W i => (clone_any _ W (by omega)).mono fun e w' z => ⟨z.1, i.next z.2, (i.next z.2).c0, (i.next z.2).c1, tblk_cell (i.next z.2).own rfl, lblk_z (i.next z.2).own, tblk_cell (i.next z.2).own rfl, lblk_z (i.next z.2).own, tblk_cell (i.next z.2).own rfl, lblk_z (i.next z.2).own, tblk_cell (i.next z.2).own rfl, lblk_z (i.next z.2).own, tblk_cell (i.next z.2).own rfl, lblk_z (i.next z.2).own⟩
  have K1 : Hid (∀ b W, RQ w b p0 p1 p2 W → Calls Tryz.prog 73 #[.string p1] W fun e w' => e = .returned (.string p1) ∧ RQ w b p0 p1 p2 w' ∧ w'.cell? ⟨b, 0, none⟩ = some (.string p0) ∧ w'.cell? ⟨b, 1, none⟩ = some (.string p1) ∧ w'.cell? ⟨w.heap.size, 0, none⟩ = some (.string ⟨#[]⟩) ∧ w'.frozen? ⟨w.heap.size, 0, none⟩ = false ∧ w'.cell? ⟨w.heap.size, 1, none⟩ = some (.string ⟨#[]⟩) ∧ w'.frozen? ⟨w.heap.size, 1, none⟩ = false ∧ w'.cell? ⟨w.heap.size, 2, none⟩ = some (.int .i64 0) ∧ w'.frozen? ⟨w.heap.size, 2, none⟩ = false ∧ w'.cell? ⟨w.heap.size, 3, none⟩ = some (.slice none 0 0) ∧ w'.frozen? ⟨w.heap.size, 3, none⟩ = false ∧ w'.cell? ⟨w.heap.size, 4, none⟩ = some (.slice none 0 0) ∧ w'.frozen? ⟨w.heap.size, 4, none⟩ = false) := fun b W i => (clone_any _ W (by omega)).mono fun e w' z => ⟨z.1, i.next z.2, (i.next z.2).c0, (i.next z.2).c1, tblk_cell (i.next z.2).own rfl, lblk_z (i.next z.2).own, tblk_cell (i.next z.2).own rfl, lblk_z (i.next z.2).own, tblk_cell (i.next z.2).own rfl, lblk_z (i.next z.2).own, tblk_cell (i.next z.2).own rfl, lblk_z (i.next z.2).own, tblk_cell (i.next z.2).own rfl, lblk_z (i.next z.2).own⟩
  have HV : Hid (∀ W, Calls Tryz.prog 71 #[.string p2] W fun e w' => e = .returned (.bool (verP p2)) ∧ w' = W) := fun W => isversion_any _ W
  have HN : Hid (∀ W, Calls Tryz.prog 72 #[.string p2] W fun e w' => e = .returned (.tuple #[.int .i64 (minP p2).1, .bool (minP p2).2]) ∧ w' = W) := fun W => minor_any _ W
  unfold rq3
  generalize mthP p0 = bm at *
  generalize tarP p1 p0 = bt at *
  generalize verP p2 = bv at *
  generalize minP p2 = mm at *
  obtain ⟨mi, kn⟩ := mm
  simp only at HN ⊢
  have hq : Hid (p1.size ≤ 4294967281) := by rw [Hid]; omega
  clear q0 q1 q2 hs hM hp C0 hg0
  cases bm
  · rw [if_pos rfl]
    go_enter Tryz.func36, Tryz.ntmps36
    go_wp2_with fail
    refine H1.out.mono ?_
    rintro e w1 ⟨b, c, rfl, I0⟩
    have s0 := I0.c0
    have s1 := I0.c1
    have s2 := I0.c2
    clear H1
    go_wp2_with fail
    refine wp_region_held_drew (S := (fun W => W.cell? ⟨b, 0, none⟩ = some (.string p0) ∧ W.cell? ⟨b, 1, none⟩ = some (.string p1) ∧ W.cell? ⟨b, 2, none⟩ = some (.string p2))) (by kernel_rfl) ⟨s0, s1, s2⟩ (fun hHeld => ?_)
    refine wpAnyH_take (i := 0) (oi := { dst := some 9, op := Op.move (Operand.tmp 4), type := 39, pos := "line.go:44", after := #[], guard := none }) (v := ?v0) rfl (by kernel_rfl) (by kernel_rfl) (by kernel_rfl) (fun _ _ _ h => h) (Or.inl ⟨by rfl, ?hy0⟩) hHeld ?rest0
    case hy0 => (intro w hSw; (try dsimp only at hSw); go_simp; try with_reducible rfl)
    try simp only [Act.put, List.setIfInBounds_toArray, List.set_cons_zero, List.set_cons_succ]
    refine wpAnyH_take (i := 1) (oi := { dst := some 10, op := Op.call { callee := Callee.builtin Builtin.len, args := #[Operand.tmp 9], argTypes := #[39] }, type := 3, pos := "line.go:44", after := #[{ on := 0, ground := Ground.data }], guard := none }) (v := ?v1) rfl (by kernel_rfl) (by kernel_rfl) (by kernel_rfl) (fun _ _ _ h => h) (Or.inl ⟨by rfl, ?hy1⟩) hHeld ?rest1
    case hy1 => (intro w hSw; (try dsimp only at hSw); go_simp; try with_reducible rfl)
    try simp only [Act.put, List.setIfInBounds_toArray, List.set_cons_zero, List.set_cons_succ]
    refine wpAnyH_take (i := 2) (oi := { dst := some 11, op := Op.binOp BinOp.neq 3 (Operand.tmp 10) (Operand.const (Value.int IntKind.i64 3)) 3, type := 4, pos := "line.go:44", after := #[{ on := 1, ground := Ground.data }], guard := none }) (v := ?v2) rfl (by kernel_rfl) (by kernel_rfl) (by kernel_rfl) (fun _ _ _ h => h) (Or.inl ⟨by rfl, ?hy2⟩) hHeld ?rest2
    case hy2 => (intro w hSw; (try dsimp only at hSw); go_simp; try with_reducible rfl)
    try simp only [Act.put, List.setIfInBounds_toArray, List.set_cons_zero, List.set_cons_succ]
    refine wpAnyH_take (i := 3) (oi := { dst := some 12, op := Op.move (Operand.tmp 11), type := 4, pos := "line.go:44", after := #[{ on := 2, ground := Ground.data }], guard := none }) (v := ?v3) rfl (by kernel_rfl) (by kernel_rfl) (by kernel_rfl) (fun _ _ _ h => h) (Or.inl ⟨by rfl, ?hy3⟩) hHeld ?rest3
    case hy3 => (intro w hSw; (try dsimp only at hSw); go_simp; try with_reducible rfl)
    try simp only [Act.put, List.setIfInBounds_toArray, List.set_cons_zero, List.set_cons_succ]
    refine wpAnyH_take (i := 4) (oi := { dst := some 13, op := Op.move (Operand.tmp 4), type := 39, pos := "line.go:44", after := #[{ on := 3, ground := Ground.guard }], guard := some (3, false) }) (v := ?v4) rfl (by kernel_rfl) (by kernel_rfl) (by kernel_rfl) (fun _ _ _ h => h) (Or.inl ⟨by rfl, ?hy4⟩) hHeld ?rest4
    case hy4 => (intro w hSw; (try dsimp only at hSw); go_simp; try with_reducible rfl)
    try simp only [Act.put, List.setIfInBounds_toArray, List.set_cons_zero, List.set_cons_succ]
    refine wpAnyH_take (i := 5) (oi := { dst := some 14, op := Op.indexAddr 39 (Operand.tmp 13) (Operand.const (Value.int IntKind.i64 0)), type := 0, pos := "line.go:44", after := #[{ on := 4, ground := Ground.data }, { on := 3, ground := Ground.guard }], guard := some (3, false) }) (v := ?v5) rfl (by kernel_rfl) (by kernel_rfl) (by kernel_rfl) (fun _ _ _ h => h) (Or.inl ⟨by rfl, ?hy5⟩) hHeld ?rest5
    case hy5 => (intro w hSw; (try dsimp only at hSw); go_simp; try with_reducible rfl)
    try simp only [Act.put, List.setIfInBounds_toArray, List.set_cons_zero, List.set_cons_succ]
    refine wpAnyH_take (i := 6) (oi := { dst := some 15, op := Op.load 9 (Operand.tmp 14), type := 9, pos := "line.go:44", after := #[{ on := 5, ground := Ground.data }, { on := 3, ground := Ground.guard }], guard := some (3, false) }) (v := ?v6) rfl (by kernel_rfl) (by kernel_rfl) (by kernel_rfl) (fun _ _ _ h => h) (Or.inl ⟨by rfl, ?hy6⟩) hHeld ?rest6
    case hy6 => (intro w hSw; (try dsimp only at hSw); go_simp; try with_reducible rfl)
    try simp only [Act.put, List.setIfInBounds_toArray, List.set_cons_zero, List.set_cons_succ]
    refine wpAnyH_ready (rs := [7]) (by kernel_rfl) (by simp) ?_
    refine AllReadyH.cons (o := { dst := some 16, op := Op.call { callee := Callee.value (Operand.func 69), args := #[Operand.tmp 15], argTypes := #[9] }, type := 4, pos := "line.go:44", after := #[{ on := 6, ground := Ground.data }, { on := 3, ground := Ground.chain }, { on := 3, ground := Ground.guard }], guard := some (3, false) }) rfl (fun K hK => ?_) AllReadyH.nil
    go_simp
    (go_at_call 69; refine (HM.out b _ (by first | assumption | exact RQ.drew I0 | exact RQ.drew (by assumption))).mono ?_; rintro e w' ⟨rfl, hI, hS0, hS1, hS2⟩)
    refine hK.out _ _ ⟨hS0, hS1, hS2⟩ (fun hHeld => ?_)
    clear hK K
    try simp only [Act.put, List.setIfInBounds_toArray, List.set_cons_zero, List.set_cons_succ]
    refine wpAnyH_take (i := 8) (oi := { dst := some 17, op := Op.unOp UnOp.not 4 (Operand.tmp 16), type := 4, pos := "line.go:44", after := #[{ on := 7, ground := Ground.data }, { on := 3, ground := Ground.guard }], guard := some (3, false) }) (v := ?v8) rfl (by kernel_rfl) (by kernel_rfl) (by kernel_rfl) (fun _ _ _ h => h) (Or.inl ⟨by rfl, ?hy8⟩) hHeld ?rest8
    case hy8 => (intro w hSw; (try dsimp only at hSw); go_simp; try with_reducible rfl)
    try simp only [Act.put, List.setIfInBounds_toArray, List.set_cons_zero, List.set_cons_succ]
    refine wpAnyH_take (i := 9) (oi := { dst := some 18, op := Op.pick (Operand.tmp 12) (Operand.const (Value.bool true)) (Operand.tmp 17), type := 4, pos := "line.go:44", after := #[{ on := 3, ground := Ground.data }, { on := 8, ground := Ground.data }], guard := none }) (v := ?v9) rfl (by kernel_rfl) (by kernel_rfl) (by kernel_rfl) (fun _ _ _ h => h) (Or.inl ⟨by rfl, ?hy9⟩) hHeld ?rest9
    case hy9 => (intro w hSw; (try dsimp only at hSw); go_simp; try with_reducible rfl)
    try simp only [Act.put, List.setIfInBounds_toArray, List.set_cons_zero, List.set_cons_succ]
    refine wpAnyH_take (i := 10) (oi := { dst := some 19, op := Op.move (Operand.tmp 18), type := 4, pos := "line.go:44", after := #[{ on := 9, ground := Ground.data }, { on := 7, ground := Ground.chain }], guard := none }) (v := ?v10) rfl (by kernel_rfl) (by kernel_rfl) (by kernel_rfl) (fun _ _ _ h => h) (Or.inl ⟨by rfl, ?hy10⟩) hHeld ?rest10
    case hy10 => (intro w hSw; (try dsimp only at hSw); go_simp; try with_reducible rfl)
    try simp only [Act.put, List.setIfInBounds_toArray, List.set_cons_zero, List.set_cons_succ]
    refine wpAnyH_take (i := 11) (oi := { dst := some 20, op := Op.move (Operand.tmp 4), type := 39, pos := "line.go:44", after := #[{ on := 10, ground := Ground.guard }], guard := some (10, false) }) (v := undef) rfl (by kernel_rfl) (by kernel_rfl) (by kernel_rfl) (fun _ _ _ h => h) (Or.inr ⟨by rfl, rfl⟩) hHeld ?rest11
    try simp only [Act.put, List.setIfInBounds_toArray, List.set_cons_zero, List.set_cons_succ]
    refine wpAnyH_take (i := 12) (oi := { dst := some 21, op := Op.indexAddr 39 (Operand.tmp 20) (Operand.const (Value.int IntKind.i64 1)), type := 0, pos := "line.go:44", after := #[{ on := 11, ground := Ground.data }, { on := 10, ground := Ground.guard }], guard := some (10, false) }) (v := undef) rfl (by kernel_rfl) (by kernel_rfl) (by kernel_rfl) (fun _ _ _ h => h) (Or.inr ⟨by rfl, rfl⟩) hHeld ?rest12
    try simp only [Act.put, List.setIfInBounds_toArray, List.set_cons_zero, List.set_cons_succ]
    refine wpAnyH_take (i := 13) (oi := { dst := some 22, op := Op.load 9 (Operand.tmp 21), type := 9, pos := "line.go:44", after := #[{ on := 12, ground := Ground.data }, { on := 10, ground := Ground.guard }], guard := some (10, false) }) (v := undef) rfl (by kernel_rfl) (by kernel_rfl) (by kernel_rfl) (fun _ _ _ h => h) (Or.inr ⟨by rfl, rfl⟩) hHeld ?rest13
    try simp only [Act.put, List.setIfInBounds_toArray, List.set_cons_zero, List.set_cons_succ]
    refine wpAnyH_take (i := 14) (oi := { dst := some 23, op := Op.move (Operand.tmp 4), type := 39, pos := "line.go:44", after := #[{ on := 10, ground := Ground.guard }], guard := some (10, false) }) (v := undef) rfl (by kernel_rfl) (by kernel_rfl) (by kernel_rfl) (fun _ _ _ h => h) (Or.inr ⟨by rfl, rfl⟩) hHeld ?rest14
    try simp only [Act.put, List.setIfInBounds_toArray, List.set_cons_zero, List.set_cons_succ]
    refine wpAnyH_take (i := 15) (oi := { dst := some 24, op := Op.indexAddr 39 (Operand.tmp 23) (Operand.const (Value.int IntKind.i64 0)), type := 0, pos := "line.go:44", after := #[{ on := 14, ground := Ground.data }, { on := 10, ground := Ground.guard }], guard := some (10, false) }) (v := undef) rfl (by kernel_rfl) (by kernel_rfl) (by kernel_rfl) (fun _ _ _ h => h) (Or.inr ⟨by rfl, rfl⟩) hHeld ?rest15
    try simp only [Act.put, List.setIfInBounds_toArray, List.set_cons_zero, List.set_cons_succ]
    refine wpAnyH_take (i := 16) (oi := { dst := some 25, op := Op.load 9 (Operand.tmp 24), type := 9, pos := "line.go:44", after := #[{ on := 15, ground := Ground.data }, { on := 10, ground := Ground.guard }], guard := some (10, false) }) (v := undef) rfl (by kernel_rfl) (by kernel_rfl) (by kernel_rfl) (fun _ _ _ h => h) (Or.inr ⟨by rfl, rfl⟩) hHeld ?rest16
    try simp only [Act.put, List.setIfInBounds_toArray, List.set_cons_zero, List.set_cons_succ]
    refine wpAnyH_take (i := 17) (oi := { dst := some 26, op := Op.call { callee := Callee.value (Operand.func 70), args := #[Operand.tmp 22, Operand.tmp 25], argTypes := #[9, 9] }, type := 4, pos := "line.go:44", after := #[{ on := 13, ground := Ground.data }, { on := 16, ground := Ground.data }, { on := 10, ground := Ground.chain }, { on := 10, ground := Ground.guard }], guard := some (10, false) }) (v := undef) rfl (by kernel_rfl) (by kernel_rfl) (by kernel_rfl) (fun _ _ _ h => h) (Or.inr ⟨by rfl, rfl⟩) hHeld ?rest17
    try simp only [Act.put, List.setIfInBounds_toArray, List.set_cons_zero, List.set_cons_succ]
    refine wpAnyH_take (i := 18) (oi := { dst := some 27, op := Op.unOp UnOp.not 4 (Operand.tmp 26), type := 4, pos := "line.go:44", after := #[{ on := 17, ground := Ground.data }, { on := 10, ground := Ground.guard }], guard := some (10, false) }) (v := undef) rfl (by kernel_rfl) (by kernel_rfl) (by kernel_rfl) (fun _ _ _ h => h) (Or.inr ⟨by rfl, rfl⟩) hHeld ?rest18
    try simp only [Act.put, List.setIfInBounds_toArray, List.set_cons_zero, List.set_cons_succ]
    refine wpAnyH_take (i := 19) (oi := { dst := some 28, op := Op.pick (Operand.tmp 19) (Operand.const (Value.bool true)) (Operand.tmp 27), type := 4, pos := "line.go:44", after := #[{ on := 10, ground := Ground.data }, { on := 18, ground := Ground.data }], guard := none }) (v := ?v19) rfl (by kernel_rfl) (by kernel_rfl) (by kernel_rfl) (fun _ _ _ h => h) (Or.inl ⟨by rfl, ?hy19⟩) hHeld ?rest19
    case hy19 => (intro w hSw; (try dsimp only at hSw); go_simp; try with_reducible rfl)
    try simp only [Act.put, List.setIfInBounds_toArray, List.set_cons_zero, List.set_cons_succ]
    refine wpAnyH_done (by kernel_rfl) ?_ _
    have HW := five_cells hI.own (.string ⟨#[]⟩) (.string ⟨#[]⟩) (.int .i64 0) (.slice none 0 0) (.slice none 0 0)
    have HB := five_below (.string ⟨#[]⟩) (.string ⟨#[]⟩) (.int .i64 0) (.slice none 0 0) (.slice none 0 0) hI.below (Nat.le_refl _)
    have a0 := tblk_cell (i := 0) hI.own rfl
    have z0 := lblk_z (i := 0) hI.own
    have a1 := tblk_cell (i := 1) hI.own rfl
    have z1 := lblk_z (i := 1) hI.own
    have a2 := tblk_cell (i := 2) hI.own rfl
    have z2 := lblk_z (i := 2) hI.own
    have a3 := tblk_cell (i := 3) hI.own rfl
    have z3 := lblk_z (i := 3) hI.own
    have a4 := tblk_cell (i := 4) hI.own rfl
    have z4 := lblk_z (i := 4) hI.own
    have r0 := tblk_cell (i := 0) HW rfl
    have r1 := tblk_cell (i := 1) HW rfl
    have r2 := tblk_cell (i := 2) HW rfl
    have r3 := tblk_cell (i := 3) HW rfl
    have r4 := tblk_cell (i := 4) HW rfl
    unfold five at r0 r1 r2 r3 r4 HB
    have HB' : Hid _ := HB
    clear HB HW
    go_wp2
    refine bodyPost_ret (v := .tuple #[.agg #[.string ⟨#[]⟩, .string ⟨#[]⟩, .int .i64 0, .slice none 0 0, .slice none 0 0], .int .i64 400]) (by simp [results, Tryz.results36, go_sem, r0, r1, r2, r3, r4]) rfl ⟨rfl, HB'.out⟩
  · rw [if_neg (by decide)]
    cases bt
    · rw [if_pos rfl]
      go_enter Tryz.func36, Tryz.ntmps36
      go_wp2_with fail
      refine H1.out.mono ?_
      rintro e w1 ⟨b, c, rfl, I0⟩
      have s0 := I0.c0
      have s1 := I0.c1
      have s2 := I0.c2
      clear H1
      go_wp2_with fail
      go_region_held3 (fun W => W.cell? ⟨b, 0, none⟩ = some (.string p0) ∧ W.cell? ⟨b, 1, none⟩ = some (.string p1) ∧ W.cell? ⟨b, 2, none⟩ = some (.string p2)) (go_keep) (first | (go_at_call 69; refine (HM.out b _ (by first | assumption | exact RQ.drew I0 | exact RQ.drew (by assumption))).mono ?_; rintro e w' ⟨rfl, hI, hS0, hS1, hS2⟩) | (go_at_call 70; refine (HT.out b _ (by first | assumption | exact RQ.drew I0 | exact RQ.drew (by assumption))).mono ?_; rintro e w' ⟨rfl, hI, hS0, hS1, hS2⟩))
      have HW := five_cells hI.own (.string ⟨#[]⟩) (.string ⟨#[]⟩) (.int .i64 0) (.slice none 0 0) (.slice none 0 0)
      have HB := five_below (.string ⟨#[]⟩) (.string ⟨#[]⟩) (.int .i64 0) (.slice none 0 0) (.slice none 0 0) hI.below (Nat.le_refl _)
      have a0 := tblk_cell (i := 0) hI.own rfl
      have z0 := lblk_z (i := 0) hI.own
      have a1 := tblk_cell (i := 1) hI.own rfl
      have z1 := lblk_z (i := 1) hI.own
      have a2 := tblk_cell (i := 2) hI.own rfl
      have z2 := lblk_z (i := 2) hI.own
      have a3 := tblk_cell (i := 3) hI.own rfl
      have z3 := lblk_z (i := 3) hI.own
      have a4 := tblk_cell (i := 4) hI.own rfl
      have z4 := lblk_z (i := 4) hI.own
      have r0 := tblk_cell (i := 0) HW rfl
      have r1 := tblk_cell (i := 1) HW rfl
      have r2 := tblk_cell (i := 2) HW rfl
      have r3 := tblk_cell (i := 3) HW rfl
      have r4 := tblk_cell (i := 4) HW rfl
      unfold five at r0 r1 r2 r3 r4 HB
      have HB' : Hid _ := HB
      clear HB HW
      go_wp2
      refine bodyPost_ret (v := .tuple #[.agg #[.string ⟨#[]⟩, .string ⟨#[]⟩, .int .i64 0, .slice none 0 0, .slice none 0 0], .int .i64 400]) (by simp [results, Tryz.results36, go_sem, r0, r1, r2, r3, r4]) rfl ⟨rfl, HB'.out⟩
    · rw [if_neg (by decide)]
      by_cases h5 : 512 < p1.size
      · rw [if_pos h5]
        have h5' : (512 : Int) < (p1.size : Int) := by omega
        clear h5
        go_enter Tryz.func36, Tryz.ntmps36
        go_wp2_with fail
        refine H1.out.mono ?_
        rintro e w1 ⟨b, c, rfl, I0⟩
        have s0 := I0.c0
        have s1 := I0.c1
        have s2 := I0.c2
        clear H1
        go_wp2_with fail
        go_region_held3 (fun W => W.cell? ⟨b, 0, none⟩ = some (.string p0) ∧ W.cell? ⟨b, 1, none⟩ = some (.string p1) ∧ W.cell? ⟨b, 2, none⟩ = some (.string p2)) (go_keep) (first | (go_at_call 69; refine (HM.out b _ (by first | assumption | exact RQ.drew I0 | exact RQ.drew (by assumption))).mono ?_; rintro e w' ⟨rfl, hI, hS0, hS1, hS2⟩) | (go_at_call 70; refine (HT.out b _ (by first | assumption | exact RQ.drew I0 | exact RQ.drew (by assumption))).mono ?_; rintro e w' ⟨rfl, hI, hS0, hS1, hS2⟩))
        have HW := five_cells hI.own (.string ⟨#[]⟩) (.string ⟨#[]⟩) (.int .i64 0) (.slice none 0 0) (.slice none 0 0)
        have HB := five_below (.string ⟨#[]⟩) (.string ⟨#[]⟩) (.int .i64 0) (.slice none 0 0) (.slice none 0 0) hI.below (Nat.le_refl _)
        have a0 := tblk_cell (i := 0) hI.own rfl
        have z0 := lblk_z (i := 0) hI.own
        have a1 := tblk_cell (i := 1) hI.own rfl
        have z1 := lblk_z (i := 1) hI.own
        have a2 := tblk_cell (i := 2) hI.own rfl
        have z2 := lblk_z (i := 2) hI.own
        have a3 := tblk_cell (i := 3) hI.own rfl
        have z3 := lblk_z (i := 3) hI.own
        have a4 := tblk_cell (i := 4) hI.own rfl
        have z4 := lblk_z (i := 4) hI.own
        have r0 := tblk_cell (i := 0) HW rfl
        have r1 := tblk_cell (i := 1) HW rfl
        have r2 := tblk_cell (i := 2) HW rfl
        have r3 := tblk_cell (i := 3) HW rfl
        have r4 := tblk_cell (i := 4) HW rfl
        unfold five at r0 r1 r2 r3 r4 HB
        have HB' : Hid _ := HB
        clear HB HW
        go_wp2
        refine bodyPost_ret (v := .tuple #[.agg #[.string ⟨#[]⟩, .string ⟨#[]⟩, .int .i64 0, .slice none 0 0, .slice none 0 0], .int .i64 414]) (by simp [results, Tryz.results36, go_sem, r0, r1, r2, r3, r4]) rfl ⟨rfl, HB'.out⟩
      · rw [if_neg h5]
        have h5' : ¬ (512 : Int) < (p1.size : Int) := by omega
        clear h5
        cases bv
        · rw [if_pos rfl]
          go_enter Tryz.func36, Tryz.ntmps36
          go_wp2_with fail
          refine H1.out.mono ?_
          rintro e w1 ⟨b, c, rfl, I0⟩
          have s0 := I0.c0
          have s1 := I0.c1
          have s2 := I0.c2
          clear H1
          go_wp2_with fail
          go_region_held3 (fun W => W.cell? ⟨b, 0, none⟩ = some (.string p0) ∧ W.cell? ⟨b, 1, none⟩ = some (.string p1) ∧ W.cell? ⟨b, 2, none⟩ = some (.string p2)) (go_keep) (first | (go_at_call 69; refine (HM.out b _ (by first | assumption | exact RQ.drew I0 | exact RQ.drew (by assumption))).mono ?_; rintro e w' ⟨rfl, hI, hS0, hS1, hS2⟩) | (go_at_call 70; refine (HT.out b _ (by first | assumption | exact RQ.drew I0 | exact RQ.drew (by assumption))).mono ?_; rintro e w' ⟨rfl, hI, hS0, hS1, hS2⟩))
          go_wp2_with fail
          refine (HV.out _).mono ?_
          rintro e w5 ⟨rfl, rfl⟩
          have HW := five_cells hI.own (.string ⟨#[]⟩) (.string ⟨#[]⟩) (.int .i64 0) (.slice none 0 0) (.slice none 0 0)
          have HB := five_below (.string ⟨#[]⟩) (.string ⟨#[]⟩) (.int .i64 0) (.slice none 0 0) (.slice none 0 0) hI.below (Nat.le_refl _)
          have a0 := tblk_cell (i := 0) hI.own rfl
          have z0 := lblk_z (i := 0) hI.own
          have a1 := tblk_cell (i := 1) hI.own rfl
          have z1 := lblk_z (i := 1) hI.own
          have a2 := tblk_cell (i := 2) hI.own rfl
          have z2 := lblk_z (i := 2) hI.own
          have a3 := tblk_cell (i := 3) hI.own rfl
          have z3 := lblk_z (i := 3) hI.own
          have a4 := tblk_cell (i := 4) hI.own rfl
          have z4 := lblk_z (i := 4) hI.own
          have r0 := tblk_cell (i := 0) HW rfl
          have r1 := tblk_cell (i := 1) HW rfl
          have r2 := tblk_cell (i := 2) HW rfl
          have r3 := tblk_cell (i := 3) HW rfl
          have r4 := tblk_cell (i := 4) HW rfl
          unfold five at r0 r1 r2 r3 r4 HB
          have HB' : Hid _ := HB
          clear HB HW
          go_wp2
          refine bodyPost_ret (v := .tuple #[.agg #[.string ⟨#[]⟩, .string ⟨#[]⟩, .int .i64 0, .slice none 0 0, .slice none 0 0], .int .i64 400]) (by simp [results, Tryz.results36, go_sem, r0, r1, r2, r3, r4]) rfl ⟨rfl, HB'.out⟩
        · rw [if_neg (by decide)]
          cases kn
          · rw [if_pos rfl]
            go_enter Tryz.func36, Tryz.ntmps36
            go_wp2_with fail
            refine H1.out.mono ?_
            rintro e w1 ⟨b, c, rfl, I0⟩
            have s0 := I0.c0
            have s1 := I0.c1
            have s2 := I0.c2
            clear H1
            go_wp2_with fail
            go_region_held3 (fun W => W.cell? ⟨b, 0, none⟩ = some (.string p0) ∧ W.cell? ⟨b, 1, none⟩ = some (.string p1) ∧ W.cell? ⟨b, 2, none⟩ = some (.string p2)) (go_keep) (first | (go_at_call 69; refine (HM.out b _ (by first | assumption | exact RQ.drew I0 | exact RQ.drew (by assumption))).mono ?_; rintro e w' ⟨rfl, hI, hS0, hS1, hS2⟩) | (go_at_call 70; refine (HT.out b _ (by first | assumption | exact RQ.drew I0 | exact RQ.drew (by assumption))).mono ?_; rintro e w' ⟨rfl, hI, hS0, hS1, hS2⟩))
            go_wp2_with fail
            refine (HV.out _).mono ?_
            rintro e w5 ⟨rfl, rfl⟩
            go_wp2_with fail
            refine (HN.out _).mono ?_
            rintro e w6 ⟨rfl, rfl⟩
            have HW := five_cells hI.own (.string ⟨#[]⟩) (.string ⟨#[]⟩) (.int .i64 0) (.slice none 0 0) (.slice none 0 0)
            have HB := five_below (.string ⟨#[]⟩) (.string ⟨#[]⟩) (.int .i64 0) (.slice none 0 0) (.slice none 0 0) hI.below (Nat.le_refl _)
            have a0 := tblk_cell (i := 0) hI.own rfl
            have z0 := lblk_z (i := 0) hI.own
            have a1 := tblk_cell (i := 1) hI.own rfl
            have z1 := lblk_z (i := 1) hI.own
            have a2 := tblk_cell (i := 2) hI.own rfl
            have z2 := lblk_z (i := 2) hI.own
            have a3 := tblk_cell (i := 3) hI.own rfl
            have z3 := lblk_z (i := 3) hI.own
            have a4 := tblk_cell (i := 4) hI.own rfl
            have z4 := lblk_z (i := 4) hI.own
            have r0 := tblk_cell (i := 0) HW rfl
            have r1 := tblk_cell (i := 1) HW rfl
            have r2 := tblk_cell (i := 2) HW rfl
            have r3 := tblk_cell (i := 3) HW rfl
            have r4 := tblk_cell (i := 4) HW rfl
            unfold five at r0 r1 r2 r3 r4 HB
            have HB' : Hid _ := HB
            clear HB HW
            go_wp2
            refine bodyPost_ret (v := .tuple #[.agg #[.string ⟨#[]⟩, .string ⟨#[]⟩, .int .i64 0, .slice none 0 0, .slice none 0 0], .int .i64 505]) (by simp [results, Tryz.results36, go_sem, r0, r1, r2, r3, r4]) rfl ⟨rfl, HB'.out⟩
          · rw [if_neg (by decide)]
            go_enter Tryz.func36, Tryz.ntmps36
            go_wp2_with fail
            refine H1.out.mono ?_
            rintro e w1 ⟨b, c, rfl, I0⟩
            have s0 := I0.c0
            have s1 := I0.c1
            have s2 := I0.c2
            clear H1
            go_wp2_with fail
            go_region_held3 (fun W => W.cell? ⟨b, 0, none⟩ = some (.string p0) ∧ W.cell? ⟨b, 1, none⟩ = some (.string p1) ∧ W.cell? ⟨b, 2, none⟩ = some (.string p2)) (go_keep) (first | (go_at_call 69; refine (HM.out b _ (by first | assumption | exact RQ.drew I0 | exact RQ.drew (by assumption))).mono ?_; rintro e w' ⟨rfl, hI, hS0, hS1, hS2⟩) | (go_at_call 70; refine (HT.out b _ (by first | assumption | exact RQ.drew I0 | exact RQ.drew (by assumption))).mono ?_; rintro e w' ⟨rfl, hI, hS0, hS1, hS2⟩))
            go_wp2_with fail
            refine (HV.out _).mono ?_
            rintro e w5 ⟨rfl, rfl⟩
            go_wp2_with fail
            refine (HN.out _).mono ?_
            rintro e w6 ⟨rfl, rfl⟩
            have nb := I0.ne
            have nb' : ¬ w.heap.size = b := fun e => nb e.symm
            have t0 := hI.c0
            have t1 := hI.c1
            go_wp2_with fail
            go_region_held3 (fun W => W.cell? ⟨b, 0, none⟩ = some (.string p0) ∧ W.cell? ⟨b, 1, none⟩ = some (.string p1)) (go_keep) (first | (go_at_call 73; refine (K0.out b _ (by first | assumption | exact RQ.drew (by assumption))).mono ?_; rintro e w' ⟨rfl, hI, hS0, hS1, d0, y0, d1, y1, d2, y2, d3, y3, d4, y4⟩) | (go_at_call 73; refine (K1.out b _ (by first | assumption | exact RQ.drew (by assumption))).mono ?_; rintro e w' ⟨rfl, hI, hS0, hS1, d0, y0, d1, y1, d2, y2, d3, y3, d4, y4⟩))
            have HW := five_cells hI.own (.string p0) (.string p1) (.int .i64 mi) (.slice none 0 0) (.slice none 0 0)
            have HB := five_below (.string p0) (.string p1) (.int .i64 mi) (.slice none 0 0) (.slice none 0 0) hI.below (Nat.le_refl _)
            have r0 := tblk_cell (i := 0) HW rfl
            have r1 := tblk_cell (i := 1) HW rfl
            have r2 := tblk_cell (i := 2) HW rfl
            have r3 := tblk_cell (i := 3) HW rfl
            have r4 := tblk_cell (i := 4) HW rfl
            unfold five at r0 r1 r2 r3 r4 HB
            have HB' : Hid _ := HB
            clear HB HW
            go_wp2
            refine bodyPost_ret (v := .tuple #[.agg #[.string p0, .string p1, .int .i64 mi, .slice none 0 0, .slice none 0 0], .int .i64 0]) (by simp [results, Tryz.results36, go_sem, r0, r1, r2, r3, r4]) rfl ⟨rfl, HB'.out⟩
end Go.Proofs.YtkdnckkdofoaoaaGreatDoor

/- Request, whole. -/
namespace Go.Proofs.YtkdnckkdofoaoaaGreatDoor
open Go.RowKit
set_option linter.unusedVariables false

set_option maxRecDepth 100000 in
set_option maxHeartbeats 4000000 in
theorem req_other (s : ByteArray) (w : World) (hs : s.size < 4294967281) (hM : MaxL w) (hp : ¬ (part4 s).length = 3) :
    Calls Tryz.prog 36 #[.string s] w fun e w' => e = .returned (.tuple #[rqV (rqNo 400), .int .i64 (rqNo 400).code]) ∧ Below w.heap.size w w' := by
  have C0 : Below w.heap.size w (w.alloc (.cells #[.string ⟨#[]⟩, .string ⟨#[]⟩, .int .i64 0, .slice none 0 0, .slice none 0 0] 26)) := (Below.refl _ _).alloc (Nat.le_refl _) _
  have hg0 := tblk_new w (.cells #[.string ⟨#[]⟩, .string ⟨#[]⟩, .int .i64 0, .slice none 0 0, .slice none 0 0] 26)
  have H1 : Hid (Calls Tryz.prog 68 #[.string s, .string ⟨#[32]⟩, .int .i64 4] (w.alloc (.cells #[.string ⟨#[]⟩, .string ⟨#[]⟩, .int .i64 0, .slice none 0 0, .slice none 0 0] 26)) fun e w' => ∃ b c, e = .returned (.slice (some ⟨b, 0, none⟩) (part4 s).length c) ∧ Below w.heap.size w w' ∧ w'.heap[w.heap.size]? = some (.cells #[.string ⟨#[]⟩, .string ⟨#[]⟩, .int .i64 0, .slice none 0 0, .slice none 0 0] 26)) := by
    refine (part4_any s _ hs (hM.below C0)).mono ?_
    rintro e w' ⟨b, c, he, B, hb, hc⟩
    exact ⟨b, c, he, C0.trans (B.mono C0.size), tblk_below hg0 B⟩
  have hn : ¬ (((part4 s).length : Nat) : Int) = 3 := by omega
  clear hp hs hM hg0 C0
  generalize (part4 s).length = n at *
  go_enter Tryz.func36, Tryz.ntmps36
  go_wp2_with fail
  refine H1.out.mono ?_
  rintro e w1 ⟨b, c, rfl, C1, hg1⟩
  clear H1
  go_wp2_with fail
  go_quiet (fail)
  have C2 := C1.trans (lbelow_drewN w.heap.size w1 nq)
  have hg2 : (w1.drewN nq).heap[w.heap.size]? = some (.cells #[.string ⟨#[]⟩, .string ⟨#[]⟩, .int .i64 0, .slice none 0 0, .slice none 0 0] 26) := hg1
  generalize w1.drewN nq = w2 at *
  have HW := five_cells hg2 (.string ⟨#[]⟩) (.string ⟨#[]⟩) (.int .i64 0) (.slice none 0 0) (.slice none 0 0)
  have HB := five_below (.string ⟨#[]⟩) (.string ⟨#[]⟩) (.int .i64 0) (.slice none 0 0) (.slice none 0 0) C2 (Nat.le_refl _)
  have a0 := tblk_cell (i := 0) hg2 rfl
  have z0 := lblk_z (i := 0) hg2
  have a1 := tblk_cell (i := 1) hg2 rfl
  have z1 := lblk_z (i := 1) hg2
  have a2 := tblk_cell (i := 2) hg2 rfl
  have z2 := lblk_z (i := 2) hg2
  have a3 := tblk_cell (i := 3) hg2 rfl
  have z3 := lblk_z (i := 3) hg2
  have a4 := tblk_cell (i := 4) hg2 rfl
  have z4 := lblk_z (i := 4) hg2
  have r0 := tblk_cell (i := 0) HW rfl
  have r1 := tblk_cell (i := 1) HW rfl
  have r2 := tblk_cell (i := 2) HW rfl
  have r3 := tblk_cell (i := 3) HW rfl
  have r4 := tblk_cell (i := 4) HW rfl
  unfold five at r0 r1 r2 r3 r4 HB
  have HB' : Hid _ := HB
  clear HB HW
  go_wp2
  refine bodyPost_ret (v := .tuple #[.agg #[.string ⟨#[]⟩, .string ⟨#[]⟩, .int .i64 0, .slice none 0 0, .slice none 0 0], .int .i64 400]) (by simp [results, Tryz.results36, go_sem, r0, r1, r2, r3, r4]) rfl ⟨rfl, HB'.out⟩

theorem lreq_any (s : ByteArray) (w : World) (hs : s.size < 4294967281) (hM : MaxL w) :
    Calls Tryz.prog 36 #[.string s] w fun e w' => e = .returned (.tuple #[rqV (rqP s), .int .i64 (rqP s).code]) ∧ Below w.heap.size w w' := by
  unfold rqP
  split
  · rename_i p0 p1 p2 h
    exact req_three p0 p1 p2 s w hs hM h
  · rename_i h
    refine req_other s w hs hM ?_
    intro h3
    match hl : part4 s, h3 with
    | [a, b, c], _ => exact h a b c hl
end Go.Proofs.YtkdnckkdofoaoaaGreatDoor

/- What tells lines. -/
namespace Go.Proofs.YtkdnckkdofoaoaaGreatDoor
open Go.RowKit
set_option linter.unusedVariables false

/-- The table that the telling of a number reads. -/
structure PowT (w : World) : Prop where
  pow : Lib.TabIs Tryz.prog w "internal/strconv.uint64pow10" .u64 Lib.pow10Tab
  lt : 0 < w.heap.size
theorem gPow : Tryz.prog.globalNamed "internal/strconv.uint64pow10" = some 0 := by kernel_rfl
theorem PowT.below {w w' : World} (h : PowT w) (b : Below w.heap.size w w') : PowT w' := ⟨var?_below b gPow h.lt h.pow, Nat.lt_of_lt_of_le h.lt b.size⟩
def itoaS (n : Int) : ByteArray := ⟨(Lib.itoa n).toArray⟩
theorem text_any (n : Int) (h0 : -9223372036854775808 ≤ n) (h1 : n ≤ 9223372036854775807) (w : World) (ht : PowT w) :
    Calls Tryz.prog 56 #[.int .i64 n] w fun e w' => e = .returned (.string (itoaS n)) ∧ Below w.heap.size w w' := by
  have HP : Hid (Lib.TabIs Tryz.prog w "internal/strconv.uint64pow10" .u64 Lib.pow10Tab) := ht.pow
  clear ht
  go_enter Tryz.func56, Tryz.ntmps56
  go_wp2_with fail
  refine (Tryz.strconv_FormatInt_10 n h0 h1 _ HP.out).mono ?_
  rintro e w1 ⟨rfl, k, os, hw⟩
  have hB : Below w.heap.size w w1 := by rw [hw]; exact Lib.below_grow _ w (Nat.le_refl _) k os
  clear hw
  go_wp2
  go_ret
  exact ⟨rfl, hB⟩
theorem lcat_size (a b : ByteArray) : (a ++ b).size = a.size + b.size := by rw [ByteArray.size_append]
theorem lcat_run (W : World) (a b : ByteArray) (h : a.size + b.size ≤ 281474976710656) : (Op.stringOp .add a b).run Tryz.prog W = .ok (.string (a ++ b)) W :=
  run_string_add_sum W a b (by omega)
def verT (m : Int) : ByteArray := ⟨#[72, 84, 84, 80, 47, 49, 46]⟩ ++ itoaS m
theorem version_any (n : Int) (h0 : -9223372036854775808 ≤ n) (h1 : n ≤ 9223372036854775807) (hi : (itoaS n).size ≤ 21) (w : World) (ht : PowT w) :
    Calls Tryz.prog 97 #[.int .i64 n] w fun e w' => e = .returned (.string (verT n)) ∧ Below w.heap.size w w' := by
  have H : Hid (∀ W, Below w.heap.size w W → Calls Tryz.prog 56 #[.int .i64 n] W fun e w' => e = .returned (.string (itoaS n)) ∧ Below W.heap.size W w') := fun W b => text_any n h0 h1 W (ht.below b)
  have hw : IntKind.i64.wrap n = n := by simp [IntKind.wrap, IntKind.bits, IntKind.signed]; omega
  have hc := fun W : World => lcat_run W ⟨#[72, 84, 84, 80, 47, 49, 46]⟩ (itoaS n) (by show 7 + _ ≤ _; omega)
  clear h0 h1 ht hi
  unfold verT
  generalize itoaS n = t at *
  have B0 := Below.refl w.heap.size w
  go_enter Tryz.func97, Tryz.ntmps97
  go_wp2_with fail
  refine (H.out _ B0).mono ?_
  rintro e w1 ⟨rfl, B1⟩
  go_wp2
  go_ret
  exact ⟨rfl, B1⟩

/-- A request's line. -/
def reqT (m t v : ByteArray) : ByteArray := m ++ ⟨#[32]⟩ ++ t ++ ⟨#[32]⟩ ++ v ++ ⟨#[13, 10]⟩
structure PI (w : World) (o : Obj) (W : World) : Prop where
  below : Below w.heap.size w W
  own : W.heap[w.heap.size]? = some o
theorem PI.drew {w W : World} {o : Obj} (h : PI w o W) : PI w o W.drew := ⟨h.below.drew, h.own⟩
theorem PI.next {w W W' : World} {o : Obj} (h : PI w o W) (k : Below W.heap.size W W') : PI w o W' := ⟨h.below.trans (k.mono h.below.size), tblk_below h.own k⟩
theorem PI.new (w : World) (o : Obj) : PI w o (w.alloc o) := ⟨(Below.refl _ _).alloc (Nat.le_refl _) _, tblk_new w o⟩

set_option maxRecDepth 100000 in
set_option maxHeartbeats 2000000 in
theorem reqline_any {f1 f2 : Option Addr} {l1 k1 l2 k2 : Nat} (m t : ByteArray) (n : Int) (h0 : -9223372036854775808 ≤ n) (h1 : n ≤ 9223372036854775807) (hi : (itoaS n).size ≤ 21) (w : World) (ht : PowT w) (hm : m.size ≤ 4294967296) (hl : t.size ≤ 4294967296) :
    Calls Tryz.prog 54 #[.agg #[.string m, .string t, .int .i64 n, .slice f1 l1 k1, .slice f2 l2 k2]] w fun e w' => e = .returned (.string (reqT m t (verT n))) ∧ Below w.heap.size w w' := by
  have hv : (verT n).size ≤ 28 := by unfold verT; rw [lcat_size]; show 7 + _ ≤ _; omega
  have H : Hid (∀ W, PI w (.cells #[.string m, .string t, .int .i64 n, .slice f1 l1 k1, .slice f2 l2 k2] 26) W → Calls Tryz.prog 97 #[.int .i64 n] W fun e w' => e = .returned (.string (verT n)) ∧ PI w (.cells #[.string m, .string t, .int .i64 n, .slice f1 l1 k1, .slice f2 l2 k2] 26) w' ∧ w'.cell? ⟨w.heap.size, 0, none⟩ = some (.string m) ∧ w'.cell? ⟨w.heap.size, 1, none⟩ = some (.string t) ∧ w'.cell? ⟨w.heap.size, 2, none⟩ = some (.int .i64 n)) := fun W i => (version_any n h0 h1 hi W (ht.below i.below)).mono fun e w' z => ⟨z.1, i.next z.2, tblk_cell (i.next z.2).own rfl, tblk_cell (i.next z.2).own rfl, tblk_cell (i.next z.2).own rfl⟩
  generalize verT n = v at *
  have c1 := fun W : World => lcat_run W m ⟨#[32]⟩ (by show _ + 1 ≤ _; omega)
  have c2 := fun W : World => lcat_run W (m ++ ⟨#[32]⟩) t (by rw [lcat_size]; show _ + 1 + _ ≤ _; omega)
  have c3 := fun W : World => lcat_run W (m ++ ⟨#[32]⟩ ++ t) ⟨#[32]⟩ (by rw [lcat_size, lcat_size]; show _ + 1 + _ + 1 ≤ _; omega)
  have c4 := fun W : World => lcat_run W (m ++ ⟨#[32]⟩ ++ t ++ ⟨#[32]⟩) v (by rw [lcat_size, lcat_size, lcat_size]; show _ + 1 + _ + 1 + _ ≤ _; omega)
  have c5 := fun W : World => lcat_run W (m ++ ⟨#[32]⟩ ++ t ++ ⟨#[32]⟩ ++ v) ⟨#[13, 10]⟩ (by rw [lcat_size, lcat_size, lcat_size, lcat_size]; show _ + 1 + _ + 1 + _ + 2 ≤ _; omega)
  have I0 := PI.new w (.cells #[.string m, .string t, .int .i64 n, .slice f1 l1 k1, .slice f2 l2 k2] 26)
  clear h0 h1 ht hi hm hl hv
  unfold reqT
  go_enter Tryz.func54, Tryz.ntmps54
  go_wp2_with fail
  go_region_held3 (fun W => W.cell? ⟨w.heap.size, 0, none⟩ = some (.string m) ∧ W.cell? ⟨w.heap.size, 1, none⟩ = some (.string t) ∧ W.cell? ⟨w.heap.size, 2, none⟩ = some (.int .i64 n)) (go_keep) (first | (go_at_call 97; refine (H.out _ (by first | assumption | exact PI.drew I0 | exact PI.drew (by assumption))).mono ?_; rintro e w' ⟨rfl, hI, hS0, hS1, hS2⟩))
  go_wp2
  go_ret
  exact ⟨rfl, hI.below⟩

set_option maxHeartbeats 1000000 in
theorem codetext_any (n : Int) (h0 : -9223372036854775808 ≤ n) (h1 : n ≤ 9223372036854775807) (hi : (itoaS n).size = 3) (hn : hasP (itoaS n) ⟨#[45]⟩ = false) (w : World) (ht : PowT w) :
    Calls Tryz.prog 126 #[.int .i64 n] w fun e w' => e = .returned (.string (itoaS n)) ∧ Below w.heap.size w w' := by
  have H : Hid (∀ W, Below w.heap.size w W → Calls Tryz.prog 56 #[.int .i64 n] W fun e w' => e = .returned (.string (itoaS n)) ∧ Below W.heap.size W w') := fun W b => text_any n h0 h1 W (ht.below b)
  have hw : IntKind.i64.wrap n = n := by simp [IntKind.wrap, IntKind.bits, IntKind.signed]; omega
  have HC : Hid (∀ W, Calls Tryz.prog 117 #[.string (itoaS n), .string ⟨#[45]⟩] W fun e w' => e = .returned (.tuple #[.string (itoaS n), .bool false]) ∧ w' = W) := fun W => by
    have k := cutprefix_any (itoaS n) ⟨#[45]⟩ W
    unfold cutP at k
    rw [hn, if_neg (by decide)] at k
    exact k
  have hc := fun W : World => lcat_run W ⟨#[]⟩ (itoaS n) (by show 0 + _ ≤ _; omega)
  have he : (⟨#[]⟩ : ByteArray) ++ itoaS n = itoaS n := by
    obtain ⟨⟨l⟩⟩ := itoaS n
    exact ByteArray.empty_append
  rw [he] at hc
  have hz : ((itoaS n).size : Int) = 3 := by omega
  clear h0 h1 ht hi he hn
  generalize itoaS n = t at *
  have B0 := Below.refl w.heap.size w
  go_enter Tryz.func126, Tryz.ntmps126
  go_wp2_with fail
  refine (H.out _ B0).mono ?_
  rintro e w1 ⟨rfl, B1⟩
  go_wp2_with fail
  refine (HC.out _).mono ?_
  rintro e w2 ⟨rfl, rfl⟩
  go_wp2
  go_ret
  exact ⟨rfl, B1⟩

/-- A response's line. -/
def staT (v c r : ByteArray) : ByteArray := v ++ ⟨#[32]⟩ ++ c ++ ⟨#[32]⟩ ++ r ++ ⟨#[13, 10]⟩
set_option maxRecDepth 100000 in
set_option maxHeartbeats 2000000 in
theorem statline_any {f1 f2 : Option Addr} {l1 k1 l2 k2 : Nat} (code n : Int) (r : ByteArray) (hi : (itoaS n).size ≤ 21) (h0 : -9223372036854775808 ≤ n) (h1 : n ≤ 9223372036854775807) (hc0 : -9223372036854775808 ≤ code) (hc1 : code ≤ 9223372036854775807) (hc3 : (itoaS code).size = 3) (hcn : hasP (itoaS code) ⟨#[45]⟩ = false) (w : World) (ht : PowT w) (hm : r.size ≤ 4294967296) :
    Calls Tryz.prog 84 #[.agg #[.int .i64 code, .string r, .int .i64 n, .slice f1 l1 k1, .slice f2 l2 k2]] w fun e w' => e = .returned (.string (staT (verT n) (itoaS code) r)) ∧ Below w.heap.size w w' := by
  have hv : (verT n).size ≤ 28 := by unfold verT; rw [lcat_size]; show 7 + _ ≤ _; omega
  have H : Hid (∀ W, PI w (.cells #[.int .i64 code, .string r, .int .i64 n, .slice f1 l1 k1, .slice f2 l2 k2] 33) W → Calls Tryz.prog 97 #[.int .i64 n] W fun e w' => e = .returned (.string (verT n)) ∧ PI w (.cells #[.int .i64 code, .string r, .int .i64 n, .slice f1 l1 k1, .slice f2 l2 k2] 33) w' ∧ w'.cell? ⟨w.heap.size, 0, none⟩ = some (.int .i64 code) ∧ w'.cell? ⟨w.heap.size, 1, none⟩ = some (.string r) ∧ w'.cell? ⟨w.heap.size, 2, none⟩ = some (.int .i64 n)) := fun W i => (version_any n h0 h1 hi W (ht.below i.below)).mono fun e w' z => ⟨z.1, i.next z.2, tblk_cell (i.next z.2).own rfl, tblk_cell (i.next z.2).own rfl, tblk_cell (i.next z.2).own rfl⟩
  have HC : Hid (∀ W, PI w (.cells #[.int .i64 code, .string r, .int .i64 n, .slice f1 l1 k1, .slice f2 l2 k2] 33) W → Calls Tryz.prog 126 #[.int .i64 code] W fun e w' => e = .returned (.string (itoaS code)) ∧ PI w (.cells #[.int .i64 code, .string r, .int .i64 n, .slice f1 l1 k1, .slice f2 l2 k2] 33) w' ∧ w'.cell? ⟨w.heap.size, 0, none⟩ = some (.int .i64 code) ∧ w'.cell? ⟨w.heap.size, 1, none⟩ = some (.string r) ∧ w'.cell? ⟨w.heap.size, 2, none⟩ = some (.int .i64 n)) := fun W i => (codetext_any code hc0 hc1 hc3 hcn W (ht.below i.below)).mono fun e w' z => ⟨z.1, i.next z.2, tblk_cell (i.next z.2).own rfl, tblk_cell (i.next z.2).own rfl, tblk_cell (i.next z.2).own rfl⟩
  clear hcn
  generalize verT n = v at *
  generalize itoaS code = c at *
  have c1 := fun W : World => lcat_run W v ⟨#[32]⟩ (by show _ + 1 ≤ _; omega)
  have c2 := fun W : World => lcat_run W (v ++ ⟨#[32]⟩) c (by rw [lcat_size]; show _ + 1 + _ ≤ _; omega)
  have c3 := fun W : World => lcat_run W (v ++ ⟨#[32]⟩ ++ c) ⟨#[32]⟩ (by rw [lcat_size, lcat_size]; show _ + 1 + _ + 1 ≤ _; omega)
  have c4 := fun W : World => lcat_run W (v ++ ⟨#[32]⟩ ++ c ++ ⟨#[32]⟩) r (by rw [lcat_size, lcat_size, lcat_size]; show _ + 1 + _ + 1 + _ ≤ _; omega)
  have c5 := fun W : World => lcat_run W (v ++ ⟨#[32]⟩ ++ c ++ ⟨#[32]⟩ ++ r) ⟨#[13, 10]⟩ (by rw [lcat_size, lcat_size, lcat_size, lcat_size]; show _ + 1 + _ + 1 + _ + 2 ≤ _; omega)
  have I0 := PI.new w (.cells #[.int .i64 code, .string r, .int .i64 n, .slice f1 l1 k1, .slice f2 l2 k2] 33)
  clear h0 h1 ht hi hm hv hc0 hc1 hc3
  unfold staT
  go_enter Tryz.func84, Tryz.ntmps84
  go_wp2_with fail
  go_region_held3 (fun W => W.cell? ⟨w.heap.size, 0, none⟩ = some (.int .i64 code) ∧ W.cell? ⟨w.heap.size, 1, none⟩ = some (.string r) ∧ W.cell? ⟨w.heap.size, 2, none⟩ = some (.int .i64 n)) (go_keep) (first | (go_at_call 97; refine (H.out _ (by first | assumption | exact PI.drew I0 | exact PI.drew (by assumption))).mono ?_; rintro e w' ⟨rfl, hI, hS0, hS1, hS2⟩) | (go_at_call 126; refine (HC.out _ (by first | assumption | exact PI.drew I0 | exact PI.drew (by assumption))).mono ?_; rintro e w' ⟨rfl, hI, hS0, hS1, hS2⟩))
  go_wp2
  go_ret
  exact ⟨rfl, hI.below⟩
end Go.Proofs.YtkdnckkdofoaoaaGreatDoor

/- Host: what it answers of every text. -/
namespace Go.Proofs.YtkdnckkdofoaoaaGreatDoor
open Go.RowKit
set_option linter.unusedVariables false

def hasS (s p : ByteArray) : Bool := decide (p.size ≤ s.size) && ((s.extract (s.size - p.size) s.size).toList == p.toList)
def cutX (s p : ByteArray) : ByteArray := if hasS s p = true then s.extract 0 (s.size - p.size) else s
theorem hassuffix_any (s p : ByteArray) (w : World) (hs : s.size ≤ maxLen) : Calls Tryz.prog 178 #[.string s, .string p] w fun e w' => e = .returned (.bool (hasS s p)) ∧ w' = w := by
  unfold hasS
  unfold maxLen at hs
  have hlo : p.size ≤ s.size → ((s.size : Int) - (p.size : Int) + 9223372036854775808) % 18446744073709551616 - 9223372036854775808 = ((s.size - p.size : Nat) : Int) := fun _ => by omega
  go_enter Tryz.func178, Tryz.ntmps178
  go_wp2
  · have h : p.size ≤ s.size := by assumption
    go_ret
    exact ⟨retb (by rw [decide_eq_true h, Bool.true_and]), rfl⟩
  · have h : ¬ p.size ≤ s.size := by assumption
    go_ret
    exact ⟨retb (by rw [decide_eq_false h, Bool.false_and]), rfl⟩
theorem cutsuffix_sl (s p : ByteArray) (w : World) (hs : s.size ≤ maxLen) : Calls Tryz.prog 154 #[.string s, .string p] w fun e w' => e = .returned (.tuple #[.string (cutX s p), .bool (hasS s p)]) ∧ w' = w := by
  have H : Hid (∀ W, Calls Tryz.prog 178 #[.string s, .string p] W fun e w' => e = .returned (.bool (hasS s p)) ∧ w' = W) := fun W => hassuffix_any s p W hs
  unfold cutX
  unfold maxLen at hs
  cases h : hasS s p
  · rw [h] at H
    clear h
    go_enter Tryz.func154, Tryz.ntmps154
    go_wp2_with fail
    refine (H.out _).mono ?_
    rintro e w1 ⟨rfl, rfl⟩
    go_wp2
    go_ret2
    exact ⟨rfl, rfl⟩
  · rw [h] at H
    have hl : p.size ≤ s.size := by
      unfold hasS at h
      rw [Bool.and_eq_true] at h
      exact of_decide_eq_true h.1
    have hlo : ((s.size : Int) - (p.size : Int) + 9223372036854775808) % 18446744073709551616 - 9223372036854775808 = ((s.size - p.size : Nat) : Int) := by omega
    clear h
    go_enter Tryz.func154, Tryz.ntmps154
    go_wp2_with fail
    refine (H.out _).mono ?_
    rintro e w1 ⟨rfl, rfl⟩
    go_wp2
    go_ret2
    exact ⟨rfl, rfl⟩
theorem cutsuffix_any (s p : ByteArray) (w : World) (hs : s.size ≤ maxLen) : Calls Tryz.prog 124 #[.string s, .string p] w fun e w' => e = .returned (.tuple #[.string (cutX s p), .bool (hasS s p)]) ∧ w' = w := by
  go_enter Tryz.func124, Tryz.ntmps124
  go_wp2_with fail
  refine (cutsuffix_sl s p _ hs).mono ?_
  rintro e w1 ⟨rfl, rfl⟩
  go_wp2
  go_ret2
  exact ⟨rfl, rfl⟩

/-- A text without the digits at its end. -/
def noDig (s : ByteArray) : ByteArray := ⟨(Lib.trimRightS s.data.toList [48, 49, 50, 51, 52, 53, 54, 55, 56, 57]).toArray⟩
def portP (s : ByteArray) : ByteArray := if hasS (noDig s) ⟨#[58]⟩ = true then cutX (noDig s) ⟨#[58]⟩ else s
theorem drop_len (p : UInt8 → Bool) : ∀ l : List UInt8, (l.dropWhile p).length ≤ l.length
  | [] => Nat.le_refl _
  | a :: l => by
    rw [List.dropWhile_cons]
    split
    · exact Nat.le_succ_of_le (drop_len p l)
    · exact Nat.le_refl _
theorem noDig_size (s : ByteArray) : (noDig s).size ≤ s.size := by
  show (Lib.trimRightS s.data.toList _).length ≤ _
  unfold Lib.trimRightS
  rw [List.length_reverse]
  exact Nat.le_trans (drop_len _ _) (by rw [List.length_reverse]; exact Nat.le_refl _)
theorem digs_ascii : ∀ (j : Nat) (b : UInt8), ([48, 49, 50, 51, 52, 53, 54, 55, 56, 57] : List UInt8)[j]? = some b → b.toNat < 128 := by
  intro j b h
  have : b ∈ ([48, 49, 50, 51, 52, 53, 54, 55, 56, 57] : List UInt8) := List.mem_of_getElem? h
  simp at this
  rcases this with rfl | rfl | rfl | rfl | rfl | rfl | rfl | rfl | rfl | rfl <;> decide
theorem wport_any (s : ByteArray) (w : World) (hs : s.size ≤ maxLen) : Calls Tryz.prog 80 #[.string s] w fun e w' => e = .returned (.string (portP s)) ∧ Below w.heap.size w w' := by
  have hz := noDig_size s
  have H : Hid (∀ W, Calls Tryz.prog 125 #[.string s, .string ⟨#[48, 49, 50, 51, 52, 53, 54, 55, 56, 57]⟩] W fun e w' => e = .returned (.string (noDig s)) ∧ Below W.heap.size W w') := fun W => Tryz.strings_TrimRight_laid s ⟨#[48, 49, 50, 51, 52, 53, 54, 55, 56, 57]⟩ W (by unfold maxLen at hs; omega) (by decide) digs_ascii
  have HC : Hid (∀ W, Calls Tryz.prog 124 #[.string (noDig s), .string ⟨#[58]⟩] W fun e w' => e = .returned (.tuple #[.string (cutX (noDig s) ⟨#[58]⟩), .bool (hasS (noDig s) ⟨#[58]⟩)]) ∧ w' = W) := fun W => cutsuffix_any _ _ W (Nat.le_trans hz hs)
  unfold portP
  clear hz hs
  generalize cutX (noDig s) ⟨#[58]⟩ = x at *
  cases h : hasS (noDig s) ⟨#[58]⟩
  · rw [h] at HC
    clear h
    generalize noDig s = y at *
    go_enter Tryz.func80, Tryz.ntmps80
    go_wp2_with fail
    refine (H.out _).mono ?_
    rintro e w1 ⟨rfl, B1⟩
    go_wp2_with fail
    refine (HC.out _).mono ?_
    rintro e w2 ⟨rfl, rfl⟩
    go_wp2
    go_ret
    exact ⟨rfl, B1⟩
  · rw [h] at HC
    clear h
    generalize noDig s = y at *
    go_enter Tryz.func80, Tryz.ntmps80
    go_wp2_with fail
    refine (H.out _).mono ?_
    rintro e w1 ⟨rfl, B1⟩
    go_wp2_with fail
    refine (HC.out _).mono ?_
    rintro e w2 ⟨rfl, rfl⟩
    go_wp2
    go_ret
    exact ⟨rfl, B1⟩

/-- The signs of a host. -/
def hsP (r : Int) : Bool := (decide (97 ≤ r) && decide (r ≤ 122)) || ((decide (48 ≤ r) && decide (r ≤ 57)) || ((r == 45) || (r == 46)))
theorem hostsign_any (r : Int) (w : World) : Calls Tryz.prog 81 #[.int .i32 r] w fun e w' => e = .returned (.bool (hsP r)) ∧ w' = w := by
  go_enter Tryz.func81, Tryz.ntmps81
  go_wp2
  all_goals go_ret
  all_goals refine ⟨retb ?_, rfl⟩
  all_goals unfold hsP
  all_goals (rw [Bool.eq_iff_iff]; simp <;> omega)

/-- The host of a text. -/
def hostP (s : ByteArray) : ByteArray × Bool :=
  if (portP (foldS s)).size = 0 then (⟨#[]⟩, false) else if 64 < (portP (foldS s)).size then (⟨#[]⟩, false) else if allB hsP (portP (foldS s)).data.toList = false then (⟨#[]⟩, false) else (portP (foldS s), true)
theorem lfold_size (s : ByteArray) : (foldS s).size = s.size := by
  show (foldL s.data.toList).length = s.data.toList.length
  simp [foldL]
theorem ret2_sb {a c : ByteArray} {b d : Bool} (h : a = c) (k : b = d) : Ending.returned (.tuple #[.string a, .bool b]) = .returned (.tuple #[.string c, .bool d]) := by rw [h, k]
theorem hs_high {r : Nat} (h : 128 ≤ r) : hsP (r : Int) = false := by
  unfold hsP
  simp
  omega
theorem iter_below {B : Nat} {w : World} (h : B ≤ w.heap.size) (s : ByteArray) (pos : Nat) : Below B w (w.iter s pos) := (Below.refl _ _).alloc h _
set_option maxRecDepth 100000 in
set_option maxHeartbeats 4000000 in
theorem host_any (s : ByteArray) (w : World) (hs : s.size ≤ maxLen) :
    Calls Tryz.prog 41 #[.string s] w fun e w' => e = .returned (.tuple #[.string (hostP s).1, .bool (hostP s).2]) ∧ Below w.heap.size w w' := by
  have hfz : (foldS s).size ≤ maxLen := by rw [lfold_size]; exact hs
  have HF : Hid (∀ W, Calls Tryz.prog 60 #[.string s] W fun e w' => e = .returned (.string (foldS s)) ∧ Below W.heap.size W w') := fun W => fold_any s W hs
  have HP : Hid (∀ W, Calls Tryz.prog 80 #[.string (foldS s)] W fun e w' => e = .returned (.string (portP (foldS s))) ∧ Below W.heap.size W w') := fun W => wport_any _ W hfz
  have HS : Hid (∀ r W, Calls Tryz.prog 81 #[.int .i32 r] W fun e w' => e = .returned (.bool (hsP r)) ∧ w' = W) := fun r W => hostsign_any r W
  unfold hostP
  clear hfz hs
  generalize portP (foldS s) = h at *
  generalize foldS s = f at *
  by_cases h0 : h.size = 0
  · rw [if_pos h0]
    obtain rfl := empty_t h0
    clear h0 HS
    go_enter Tryz.func41, Tryz.ntmps41
    go_wp2_with fail
    refine (HF.out _).mono ?_
    rintro e w1 ⟨rfl, B1⟩
    go_wp2_with fail
    refine (HP.out _).mono ?_
    rintro e w2 ⟨rfl, B2⟩
    go_wp2
    go_ret2
    exact ⟨rfl, B1.trans (B2.mono B1.size)⟩
  · rw [if_neg h0]
    have he := isEmpty_t h0
    by_cases h6 : 64 < h.size
    · rw [if_pos h6]
      have h6' : (64 : Int) < (h.size : Int) := by omega
      clear h0 h6 HS
      go_enter Tryz.func41, Tryz.ntmps41
      go_wp2_with fail
      refine (HF.out _).mono ?_
      rintro e w1 ⟨rfl, B1⟩
      go_wp2_with fail
      refine (HP.out _).mono ?_
      rintro e w2 ⟨rfl, B2⟩
      go_wp2
      go_ret2
      exact ⟨rfl, B1.trans (B2.mono B1.size)⟩
    · rw [if_neg h6]
      generalize hE : (if allB hsP h.data.toList = false then ((⟨#[]⟩ : ByteArray), false) else (h, true)) = E
      have HE : Hid ((if allB hsP h.data.toList = false then ((⟨#[]⟩ : ByteArray), false) else (h, true)) = E) := hE
      clear hE
      obtain ⟨E1, E2⟩ := E
      have h6' : ¬ (64 : Int) < (h.size : Int) := by omega
      clear h0 h6
      go_enter Tryz.func41, Tryz.ntmps41
      go_wp2_with fail
      refine (HF.out _).mono ?_
      rintro e w1 ⟨rfl, B1⟩
      go_wp2_with fail
      refine (HP.out _).mono ?_
      rintro e w2 ⟨rfl, B2⟩
      have C2 : Hid (Below w.heap.size w w2 ∧ w.heap.size ≤ w2.heap.size) := ⟨B1.trans (B2.mono B1.size), (B1.trans (B2.mono B1.size)).size⟩
      clear B1 B2 HF HP
      go_wp2_with fail
      go_loopw [] (fun w' => ∃ pos : Nat, pos ≤ h.size ∧ w' = w2.iter h pos ∧ Hid (allB hsP (h.data.toList.take pos) = true)) (fun w' => h.size - w'.iterPos w2.heap.size)
      case atStart => exact ⟨0, Nat.zero_le _, rfl, rfl⟩
      case round =>
        obtain ⟨pos, hle, rfl, hA⟩ := hrel
        by_cases hp : pos < h.size
        · have hnx : ∀ ty, (Instr.next (.pointer (some ⟨w2.heap.size, 0, none⟩)) true ty).run Tryz.prog (w2.iter h pos) = _ := fun ty => run_next_any w2 h pos ty hp
          by_cases ha : (h[pos]'hp).toNat < 128
          · rw [decode_ascii h pos hp ha] at hnx
            simp only at hnx
            have HC := HS.out ((h[pos]'hp).toNat : Int)
            cases hc : hsP ((h[pos]'hp).toNat : Int)
            · have HX : Hid (allB hsP h.data.toList = false) := allB_false h pos hp hc
              rw [hc] at HC
              have HC' : Hid _ := HC
              clear HC hc ha
              go_wp2_with fail
              refine (HC'.out _).mono ?_
              rintro e w5 ⟨rfl, rfl⟩
              go_wp2
              go_ret2
              have k := HE.out
              rw [if_pos HX.out] at k
              exact ⟨ret2_sb (congrArg Prod.fst k) (congrArg Prod.snd k), C2.out.1.trans (iter_below C2.out.2 _ _)⟩
            · have HX : Hid (allB hsP (h.data.toList.take (pos + 1)) = true) := allB_snoc h pos hp hA.out hc
              rw [hc] at HC
              have HC' : Hid _ := HC
              clear HC hc ha
              go_wp2_with fail
              refine (HC'.out _).mono ?_
              rintro e w5 ⟨rfl, rfl⟩
              go_wp2
              go_roundw
              case rel => exact ⟨pos + 1, hp, rfl, HX⟩
              case measure => simp; omega
          · have hhi := (decode_high h pos hp (by omega)).1
            have HC := HS.out ((Utf8.decode h pos).1 : Int)
            rw [hs_high hhi] at HC
            have HX : Hid (allB hsP h.data.toList = false) := allB_false h pos hp (hs_high (by omega))
            have HC' : Hid _ := HC
            clear HC hhi ha
            go_wp2_with fail
            refine (HC'.out _).mono ?_
            rintro e w5 ⟨rfl, rfl⟩
            go_wp2
            go_ret2
            have k := HE.out
            rw [if_pos HX.out] at k
            exact ⟨ret2_sb (congrArg Prod.fst k) (congrArg Prod.snd k), C2.out.1.trans (iter_below C2.out.2 _ _)⟩
        · have hnx : ∀ ty, (Instr.next (.pointer (some ⟨w2.heap.size, 0, none⟩)) true ty).run Tryz.prog (w2.iter h pos) = _ := fun ty => run_next_end w2 h pos ty hp
          have HX : Hid (¬ allB hsP h.data.toList = false) := by
            have k := hA.out
            rw [List.take_of_length_le (show h.data.toList.length ≤ pos from Nat.le_of_not_lt hp)] at k
            rw [Hid, k]
            decide
          go_wp2
          go_ret2
          have k := HE.out
          rw [if_neg HX.out] at k
          exact ⟨ret2_sb (congrArg Prod.fst k) (congrArg Prod.snd k), C2.out.1.trans (iter_below C2.out.2 _ _)⟩
end Go.Proofs.YtkdnckkdofoaoaaGreatDoor

/- What the contracts of lines lean on. -/
namespace Go.Proofs.YtkdnckkdofoaoaaGreatDoor
open Go.RowKit
set_option linter.unusedVariables false

/-- What the contracts lean on. -/
structure Lv (w : World) : Prop where
  max : MaxL w
  pow : PowT w
theorem Lv.below {w w' : World} (h : Lv w) (b : Below w.heap.size w w') : Lv w' := ⟨h.max.below b, h.pow.below b⟩

end Go.Proofs.YtkdnckkdofoaoaaGreatDoor

/- Out of the row's condition: the table of the powers of ten. -/
namespace Go.Proofs.YtkdnckkdofoaoaaGreatDoor
open Go.RowKit
set_option linter.unusedVariables false

theorem pow_of {l : List (String × DataW Unit)} {W : World} (hl : l.filter (fun x => x.1 == "internal/strconv.uint64pow10") = [("internal/strconv.uint64pow10", Lib.tabData .u64 Lib.pow10Tab)]) (h : laidMetH Tryz.prog l W) : PowT W := by
  have h1 := laidMetH.filter (fun x => x.1 == "internal/strconv.uint64pow10") h
  rw [hl, MakeChecks.laidMetH_plain _ _ _ (by kernel_rfl)] at h1
  have p1 := Lib.tabIs_of_head gPow (by kernel_rfl) Tryz.underlying180 Tryz.underlying156 (by kernel_rfl) (by kernel_rfl) h1
  have c : W.cell? ⟨0, 0, none⟩ = some (.int .u64 1) := p1.cell gPow 0 (by decide)
  exact ⟨p1, lcell_lt c⟩
end Go.Proofs.YtkdnckkdofoaoaaGreatDoor
