/- Versions, codes, reasons: what the code of package line answers of every text. -/
import Derived.Test.YthbjdbookiejeabGreatDoorLnA
namespace Go.Proofs.YthbjdbookiejeabGreatDoor
open Go.RowKit
set_option linter.unusedVariables false

/-- Does a text begin with another? -/
def hasP (s p : ByteArray) : Bool := decide (p.size ≤ s.size) && ((s.extract 0 p.size).toList == p.toList)
def cutP (s p : ByteArray) : ByteArray := if hasP s p = true then s.extract p.size s.size else s

theorem hasprefix_any (s p : ByteArray) (w : World) : Calls Tryz.prog 155 #[.string s, .string p] w fun e w' => e = .returned (.bool (hasP s p)) ∧ w' = w := by
  unfold hasP
  go_enter Tryz.func155, Tryz.ntmps155
  go_wp2
  · rename_i h
    go_ret
    exact ⟨retb (by rw [decide_eq_true h, Bool.true_and]), rfl⟩
  · rename_i h
    go_ret
    exact ⟨retb (by rw [decide_eq_false h, Bool.false_and]), rfl⟩

theorem cutprefix_sl (s p : ByteArray) (w : World) : Calls Tryz.prog 125 #[.string s, .string p] w fun e w' => e = .returned (.tuple #[.string (cutP s p), .bool (hasP s p)]) ∧ w' = w := by
  have H : Hid (∀ W, Calls Tryz.prog 155 #[.string s, .string p] W fun e w' => e = .returned (.bool (hasP s p)) ∧ w' = W) := fun W => hasprefix_any s p W
  unfold cutP
  cases h : hasP s p
  · rw [h] at H
    clear h
    go_enter Tryz.func125, Tryz.ntmps125
    go_wp2_with fail
    refine (H.out _).mono ?_
    rintro e w1 ⟨rfl, rfl⟩
    go_wp2
    go_ret2
    exact ⟨rfl, rfl⟩
  · rw [h] at H
    have hl : p.size ≤ s.size := by
      unfold hasP at h
      rw [Bool.and_eq_true] at h
      exact of_decide_eq_true h.1
    clear h
    go_enter Tryz.func125, Tryz.ntmps125
    go_wp2_with fail
    refine (H.out _).mono ?_
    rintro e w1 ⟨rfl, rfl⟩
    go_wp2
    go_ret2
    exact ⟨rfl, rfl⟩

theorem cutprefix_any (s p : ByteArray) (w : World) : Calls Tryz.prog 89 #[.string s, .string p] w fun e w' => e = .returned (.tuple #[.string (cutP s p), .bool (hasP s p)]) ∧ w' = w := by
  go_enter Tryz.func89, Tryz.ntmps89
  go_wp2_with fail
  refine (cutprefix_sl s p _).mono ?_
  rintro e w1 ⟨rfl, rfl⟩
  go_wp2
  go_ret2
  exact ⟨rfl, rfl⟩

/-- A version of HTTP, known or not. -/
def http : ByteArray := ⟨#[72, 84, 84, 80, 47]⟩
def verN (l : List UInt8) : Bool := match l with
  | [a, b, c] => digP a.toNat && (((b.toNat : Int) == 46) && digP c.toNat)
  | _ => false
def verP (s : ByteArray) : Bool := hasP s http && verN (cutP s http).data.toList
theorem three_of {n : ByteArray} (h : n.size = 3) : ∃ a b c, n = ⟨#[a, b, c]⟩ := by
  obtain ⟨⟨l⟩⟩ := n
  match l, h with
  | [a, b, c], _ => exact ⟨a, b, c, rfl⟩
theorem verN_len {l : List UInt8} (h : ¬ l.length = 3) : verN l = false := by
  unfold verN
  split
  · exact absurd rfl h
  · rfl

set_option maxHeartbeats 1000000 in
theorem isversion_any (s : ByteArray) (w : World) : Calls Tryz.prog 55 #[.string s] w fun e w' => e = .returned (.bool (verP s)) ∧ w' = w := by
  have H : Hid (∀ W, Calls Tryz.prog 89 #[.string s, .string ⟨#[72, 84, 84, 80, 47]⟩] W fun e w' => e = .returned (.tuple #[.string (cutP s http), .bool (hasP s http)]) ∧ w' = W) := fun W => cutprefix_any s http W
  have D : Hid (∀ c W, Calls Tryz.prog 90 #[.int .u8 c] W fun e w' => e = .returned (.bool (digP c)) ∧ w' = W) := fun c W => lisdigit_any c W
  unfold verP
  generalize cutP s http = n at *
  cases h : hasP s http
  · rw [h] at H
    rw [Bool.false_and]
    clear h
    go_enter Tryz.func55, Tryz.ntmps55
    go_wp2_with fail
    refine (H.out _).mono ?_
    rintro e w1 ⟨rfl, rfl⟩
    go_wp2
    go_ret
    exact ⟨rfl, rfl⟩
  · rw [h] at H
    rw [Bool.true_and]
    clear h
    by_cases h3 : n.size = 3
    · obtain ⟨a, b, c, rfl⟩ := three_of h3
      clear h3
      unfold verN
      simp only
      clear D
      go_enter Tryz.func55, Tryz.ntmps55
      go_wp2_with fail
      refine (H.out _).mono ?_
      rintro e w1 ⟨rfl, rfl⟩
      go_wp2
      all_goals go_ret
      all_goals refine ⟨retb ?_, rfl⟩
      all_goals show _ = (digP (((⟨#[a, b, c]⟩ : ByteArray)[0]'(show 0 < 3 by decide)).toNat : Int) && (((((⟨#[a, b, c]⟩ : ByteArray)[1]'(show 1 < 3 by decide)).toNat : Int) == 46) && digP (((⟨#[a, b, c]⟩ : ByteArray)[2]'(show 2 < 3 by decide)).toNat : Int)))
      all_goals generalize (((⟨#[a, b, c]⟩ : ByteArray)[0]'(show 0 < 3 by decide)).toNat : Int) = x at *
      all_goals generalize (((⟨#[a, b, c]⟩ : ByteArray)[1]'(show 1 < 3 by decide)).toNat : Int) = y at *
      all_goals generalize (((⟨#[a, b, c]⟩ : ByteArray)[2]'(show 2 < 3 by decide)).toNat : Int) = z at *
      all_goals unfold digP
      all_goals (rw [Bool.eq_iff_iff]; simp; omega)
    · rw [verN_len (show ¬ n.data.toList.length = 3 from h3)]
      have h3' : ¬ (n.size : Int) = 3 := by omega
      clear h3
      go_enter Tryz.func55, Tryz.ntmps55
      go_wp2_with fail
      refine (H.out _).mono ?_
      rintro e w1 ⟨rfl, rfl⟩
      go_wp2
      go_ret
      exact ⟨rfl, rfl⟩

/-- A code of three digits. -/
def codP (s : ByteArray) : Int × Bool := if numB 10 18 s = true ∧ s.size = 3 ∧ 100 ≤ numI 10 18 s ∧ numI 10 18 s ≤ 599 then (numI 10 18 s, true) else (0, false)
set_option maxHeartbeats 1000000 in
theorem codeof_any (s : ByteArray) (w : World) (hs : s.size ≤ maxLen) : Calls Tryz.prog 84 #[.string s] w fun e w' => e = .returned (.tuple #[.int .i64 (codP s).1, .bool (codP s).2]) ∧ w' = w := by
  have H : Hid (∀ W, Calls Tryz.prog 119 #[.string s] W fun e w' => e = .returned (.tuple #[.int .i64 (numI 10 18 s), .bool (numB 10 18 s)]) ∧ w' = W) := fun W => decimal_any s W hs
  unfold codP
  unfold maxLen at hs
  generalize numI 10 18 s = n at *
  cases hb : numB 10 18 s
  · rw [hb] at H
    rw [if_neg (by simp)]
    go_enter Tryz.func84, Tryz.ntmps84
    go_wp2_with fail
    refine (H.out _).mono ?_
    rintro e w1 ⟨rfl, rfl⟩
    go_wp2
    go_ret2
    exact ⟨rfl, rfl⟩
  · rw [hb] at H
    by_cases h3 : s.size = 3
    · by_cases h1 : 100 ≤ n
      · by_cases h5 : n ≤ 599
        · rw [if_pos ⟨rfl, h3, h1, h5⟩]
          have k1 : ¬ n < 100 := by omega
          have k5 : ¬ 599 < n := by omega
          have k3 : (s.size : Int) = 3 := by omega
          clear h1 h5 h3 hs hb
          go_enter Tryz.func84, Tryz.ntmps84
          go_wp2_with fail
          refine (H.out _).mono ?_
          rintro e w1 ⟨rfl, rfl⟩
          go_wp2
          go_ret2
          exact ⟨rfl, rfl⟩
        · rw [if_neg (fun k => h5 k.2.2.2)]
          have k1 : ¬ n < 100 := by omega
          have k5 : 599 < n := by omega
          have k3 : (s.size : Int) = 3 := by omega
          clear h1 h5 h3 hs hb
          go_enter Tryz.func84, Tryz.ntmps84
          go_wp2_with fail
          refine (H.out _).mono ?_
          rintro e w1 ⟨rfl, rfl⟩
          go_wp2
          go_ret2
          exact ⟨rfl, rfl⟩
      · rw [if_neg (fun k => h1 k.2.2.1)]
        have k1 : n < 100 := by omega
        have k3 : (s.size : Int) = 3 := by omega
        clear h1 h3 hs hb
        go_enter Tryz.func84, Tryz.ntmps84
        go_wp2_with fail
        refine (H.out _).mono ?_
        rintro e w1 ⟨rfl, rfl⟩
        go_wp2
        go_ret2
        exact ⟨rfl, rfl⟩
    · rw [if_neg (fun k => h3 k.2.1)]
      have k3 : ¬ (s.size : Int) = 3 := by omega
      clear h3 hs hb
      go_enter Tryz.func84, Tryz.ntmps84
      go_wp2_with fail
      refine (H.out _).mono ?_
      rintro e w1 ⟨rfl, rfl⟩
      go_wp2
      go_ret2
      exact ⟨rfl, rfl⟩

def rsnP (s : ByteArray) : Bool := decide (s.size ≤ 100) && allB valP s.data.toList
theorem isreason_any (s : ByteArray) (w : World) (hs : s.size ≤ maxLen) :
    Calls Tryz.prog 85 #[.string s] w fun e w' => e = .returned (.bool (rsnP s)) ∧ Below w.heap.size w w' := by
  have HT : Hid (∀ W, Calls Tryz.prog 120 #[.string s] W fun e w' => e = .returned (.bool (allB valP s.data.toList)) ∧ Below W.heap.size W w') := fun W => value_any s W hs
  unfold rsnP
  unfold maxLen at hs
  generalize allB valP s.data.toList = t at *
  by_cases h : s.size ≤ 100
  · have h' : (s.size : Int) ≤ 100 := by omega
    rw [decide_eq_true h, Bool.true_and]
    clear h
    go_enter Tryz.func85, Tryz.ntmps85
    go_wp2_with fail
    refine (HT.out _).mono ?_
    rintro e w1 ⟨rfl, B1⟩
    go_wp2
    go_ret
    exact ⟨rfl, B1⟩
  · have h' : ¬ (s.size : Int) ≤ 100 := by omega
    rw [decide_eq_false h, Bool.false_and]
    clear h HT
    go_enter Tryz.func85, Tryz.ntmps85
    go_wp2
    go_ret
    exact ⟨rfl, Below.refl _ _⟩
end Go.Proofs.YthbjdbookiejeabGreatDoor
