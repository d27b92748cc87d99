/- The reference's Version. -/
import Derived.Test.YthbjdbookiejeabGreatDoorLbA
import Derived.Test.YthbjdbookiejeabGreatDoorSgnE
namespace Go.Proofs.YthbjdbookiejeabGreatDoor
open Go.RowKit
set_option linter.unusedVariables false

theorem lret3_iib {a b c d : Int} {x y : Bool} (h : a = c) (k : b = d) (l : x = y) : Ending.returned (.tuple #[.int .i64 a, .int .i64 b, .bool x]) = .returned (.tuple #[.int .i64 c, .int .i64 d, .bool y]) := by rw [h, k, l]
theorem eight_of {n : ByteArray} (h : n.size = 8) : ∃ a b c d e f g i, n = ⟨#[a, b, c, d, e, f, g, i]⟩ := by
  obtain ⟨⟨l⟩⟩ := n
  match l, h with
  | [a, b, c, d, e, f, g, i], _ => exact ⟨a, b, c, d, e, f, g, i, rfl⟩
/-- What the reference's Version answers of eight bytes. -/
def rverL (l : List UInt8) : Int × Int × Bool := match l with
  | [a, b, c, d, e, f, g, i] => if ([a, b, c, d, e] == [72, 84, 84, 80, 47]) = true ∧ spanP 48 57 f.toNat = true ∧ g = 46 ∧ spanP 48 57 i.toNat = true then ((f.toNat : Int) - 48, (i.toNat : Int) - 48, true) else (0, 0, false)
  | _ => (0, 0, false)
theorem rverL_len {l : List UInt8} (h : ¬ l.length = 8) : rverL l = (0, 0, false) := by
  unfold rverL
  split
  · exact absurd rfl h
  · rfl
set_option maxHeartbeats 2000000 in
theorem rversion_any (s : ByteArray) (w : World) (hs : s.size ≤ maxLen) : Calls Tryz.prog 61 #[.string s] w fun e w' => e = .returned (.tuple #[.int .i64 (rverL s.data.toList).1, .int .i64 (rverL s.data.toList).2.1, .bool (rverL s.data.toList).2.2]) ∧ Below w.heap.size w w' := by
  have D : Hid (∀ c W, Calls Tryz.prog 93 #[.int .u8 c] W fun e w' => e = .returned (.bool (spanP 48 57 c)) ∧ w' = W) := fun c W => rdig_any c W
  unfold maxLen at hs
  by_cases h8 : s.size = 8
  · obtain ⟨a, b, c, d, e, f, g, i, rfl⟩ := eight_of h8
    clear h8 hs
    unfold rverL
    simp only
    have hx : ((⟨#[a, b, c, d, e, f, g, i]⟩ : ByteArray).extract 0 5).toList = [a, b, c, d, e] := by rw [ByteArray.toList_eq]; rfl
    cases h1 : ([a, b, c, d, e] == [72, 84, 84, 80, 47])
    · rw [if_neg (by simp)]
      have hx' : (((⟨#[a, b, c, d, e, f, g, i]⟩ : ByteArray).extract 0 5).toList == [72, 84, 84, 80, 47]) = false := by rw [hx]; exact h1
      clear h1 hx D
      go_enter Tryz.func61, Tryz.ntmps61
      go_wp2
      go_ret3
      exact ⟨rfl, Below.refl _ _⟩
    · have hx' : (((⟨#[a, b, c, d, e, f, g, i]⟩ : ByteArray).extract 0 5).toList == [72, 84, 84, 80, 47]) = true := by rw [hx]; exact h1
      clear h1 hx
      generalize hE : (if (true = true) ∧ spanP 48 57 f.toNat = true ∧ g = 46 ∧ spanP 48 57 i.toNat = true then ((f.toNat : Int) - 48, (i.toNat : Int) - 48, true) else ((0 : Int), (0 : Int), false)) = E
      obtain ⟨E1, E2, E3⟩ := E
      have D5 : Hid (∀ W, Calls Tryz.prog 93 #[.int .u8 ((⟨#[a, b, c, d, e, f, g, i]⟩ : ByteArray)[5]'(show 5 < 8 by decide)).toNat] W fun e w' => e = .returned (.bool (spanP 48 57 f.toNat)) ∧ w' = W) := fun W => D.out _ W
      have D7 : Hid (∀ W, Calls Tryz.prog 93 #[.int .u8 ((⟨#[a, b, c, d, e, f, g, i]⟩ : ByteArray)[7]'(show 7 < 8 by decide)).toNat] W fun e w' => e = .returned (.bool (spanP 48 57 i.toNat)) ∧ w' = W) := fun W => D.out _ W
      clear D
      cases h5 : spanP 48 57 f.toNat
      · have HE : Hid (((0 : Int), (0 : Int), false) = (E1, E2, E3)) := by rw [Hid, ← hE, if_neg (by simp [h5])]
        rw [h5] at D5
        clear hE h5 D7
        go_enter Tryz.func61, Tryz.ntmps61
        go_wp2_with fail
        refine (D5.out _).mono ?_
        rintro e w1 ⟨rfl, rfl⟩
        go_wp2
        go_ret3
        exact ⟨lret3_iib (congrArg (·.1) HE.out) (congrArg (·.2.1) HE.out) (congrArg (·.2.2) HE.out), Below.refl _ _⟩
      · rw [h5] at D5
        by_cases h6 : g = 46
        · cases h7 : spanP 48 57 i.toNat
          · have HE : Hid (((0 : Int), (0 : Int), false) = (E1, E2, E3)) := by rw [Hid, ← hE, if_neg (by simp [h7])]
            rw [h7] at D7
            have g6 : ((((⟨#[a, b, c, d, e, f, g, i]⟩ : ByteArray)[6]'(show 6 < 8 by decide)).toNat : Nat) : Int) = 46 := by show ((g.toNat : Nat) : Int) = 46; rw [h6]; rfl
            clear hE h5 h7 h6
            go_enter Tryz.func61, Tryz.ntmps61
            go_wp2_with fail
            refine (D5.out _).mono ?_
            rintro e w1 ⟨rfl, rfl⟩
            go_wp2_with fail
            refine (D7.out _).mono ?_
            rintro e w2 ⟨rfl, rfl⟩
            go_wp2
            go_ret3
            exact ⟨lret3_iib (congrArg (·.1) HE.out) (congrArg (·.2.1) HE.out) (congrArg (·.2.2) HE.out), Below.refl _ _⟩
          · have HE : Hid (((f.toNat : Int) - 48, (i.toNat : Int) - 48, true) = (E1, E2, E3)) := by rw [Hid, ← hE, if_pos ⟨rfl, h5, h6, h7⟩]
            rw [h7] at D7
            have g6 : ((((⟨#[a, b, c, d, e, f, g, i]⟩ : ByteArray)[6]'(show 6 < 8 by decide)).toNat : Nat) : Int) = 46 := by show ((g.toNat : Nat) : Int) = 46; rw [h6]; rfl
            have hf : 48 ≤ (f.toNat : Int) ∧ (f.toNat : Int) ≤ 57 := by unfold spanP at h5; simpa using h5
            have hi : 48 ≤ (i.toNat : Int) ∧ (i.toNat : Int) ≤ 57 := by unfold spanP at h7; simpa using h7
            have u5 : IntKind.u8.wrap (((((⟨#[a, b, c, d, e, f, g, i]⟩ : ByteArray)[5]'(show 5 < 8 by decide)).toNat : Nat) : Int) - 48) = (f.toNat : Int) - 48 := by show IntKind.u8.wrap ((f.toNat : Int) - 48) = _; simp [IntKind.wrap, IntKind.bits, IntKind.signed]; omega
            have u7 : IntKind.u8.wrap (((((⟨#[a, b, c, d, e, f, g, i]⟩ : ByteArray)[7]'(show 7 < 8 by decide)).toNat : Nat) : Int) - 48) = (i.toNat : Int) - 48 := by show IntKind.u8.wrap ((i.toNat : Int) - 48) = _; simp [IntKind.wrap, IntKind.bits, IntKind.signed]; omega
            have v5 : IntKind.i64.wrap ((f.toNat : Int) - 48) = (f.toNat : Int) - 48 := by simp [IntKind.wrap, IntKind.bits, IntKind.signed]; omega
            have v7 : IntKind.i64.wrap ((i.toNat : Int) - 48) = (i.toNat : Int) - 48 := by simp [IntKind.wrap, IntKind.bits, IntKind.signed]; omega
            clear hE h5 h7 h6 hf hi
            go_enter Tryz.func61, Tryz.ntmps61
            go_wp2_with fail
            refine (D5.out _).mono ?_
            rintro e w1 ⟨rfl, rfl⟩
            go_wp2_with fail
            refine (D7.out _).mono ?_
            rintro e w2 ⟨rfl, rfl⟩
            go_wp2_with fail
            go_quiet (fail)
            go_wp2
            go_ret3
            exact ⟨lret3_iib (congrArg (·.1) HE.out) (congrArg (·.2.1) HE.out) (congrArg (·.2.2) HE.out), lbelow_drewN _ _ _⟩
        · have HE : Hid (((0 : Int), (0 : Int), false) = (E1, E2, E3)) := by rw [Hid, ← hE, if_neg (by simp [h6])]
          have g6 : ¬ ((((⟨#[a, b, c, d, e, f, g, i]⟩ : ByteArray)[6]'(show 6 < 8 by decide)).toNat : Nat) : Int) = 46 := by
            show ¬ ((g.toNat : Nat) : Int) = 46
            intro q
            exact h6 (UInt8.toNat_inj.1 (show g.toNat = 46 by omega))
          clear hE h5 h6 D7
          go_enter Tryz.func61, Tryz.ntmps61
          go_wp2_with fail
          refine (D5.out _).mono ?_
          rintro e w1 ⟨rfl, rfl⟩
          go_wp2
          go_ret3
          exact ⟨lret3_iib (congrArg (·.1) HE.out) (congrArg (·.2.1) HE.out) (congrArg (·.2.2) HE.out), Below.refl _ _⟩
  · rw [rverL_len h8]
    have h8' : ¬ (s.size : Int) = 8 := by omega
    clear h8 D
    go_enter Tryz.func61, Tryz.ntmps61
    go_wp2
    go_ret3
    exact ⟨rfl, Below.refl _ _⟩
end Go.Proofs.YthbjdbookiejeabGreatDoor
