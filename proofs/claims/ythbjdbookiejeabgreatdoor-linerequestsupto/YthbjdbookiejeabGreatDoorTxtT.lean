/- Trim and Clone: what each answers of every text; the library's variable that a search may look at. -/
import Derived.Test.YthbjdbookiejeabGreatDoorTxtK
import Derived.Test.YthbjdbookiejeabGreatDoorShTrim
import Derived.WalkSpells
import Derived.WalkLawsBesides
import Derived.Lib.Walk
import Derived.Lib.ItoaMem
import Derived.Laws.IdiomStrings
namespace Go.Proofs.YthbjdbookiejeabGreatDoor
open Go.RowKit
set_option linter.unusedVariables false

/-- A text without blanks at its ends. -/
def trimP (l : List UInt8) : List UInt8 := Lib.trimS l [32, 9]
def trimT (s : ByteArray) : ByteArray := ⟨(trimP s.data.toList).toArray⟩
theorem dropWhile_len (p : UInt8 → Bool) : ∀ l : List UInt8, (l.dropWhile p).length ≤ l.length
  | [] => Nat.le_refl _
  | b :: l => by
    rw [List.dropWhile_cons]
    split
    · have := dropWhile_len p l; rw [List.length_cons]; omega
    · exact Nat.le_refl _
theorem trimP_len (l : List UInt8) : (trimP l).length ≤ l.length := by
  unfold trimP Lib.trimS Lib.trimLeftS Lib.trimRightS
  refine Nat.le_trans (dropWhile_len _ _) ?_
  rw [List.length_reverse]
  refine Nat.le_trans (dropWhile_len _ _) ?_
  rw [List.length_reverse]; exact Nat.le_refl _
theorem trimT_size (s : ByteArray) : (trimT s).size ≤ s.size := trimP_len s.data.toList

theorem trim_any (s : ByteArray) (w : World) (hs : s.size ≤ 140737488355328) : Calls Tryz.prog 75 #[.string s] w fun e w' => e = .returned (.string (trimT s)) ∧ Below w.heap.size w w' := by
  have H1 : Hid (s.size ≤ 9223372036854775807) := by rw [Hid]; omega
  have H2 : Hid ((trimT s).size ≤ 281474976710656) := by rw [Hid]; have := trimT_size s; omega
  clear hs
  go_enter Tryz.func75, Tryz.ntmps75
  go_wp2_with fail
  refine (Tryz.strings_Trim_laid s ⟨#[32, 9]⟩ _ H1.out (by decide) (ascii_of_all (by decide))).mono ?_
  rintro e w1 ⟨rfl, B1⟩
  go_wp2_with fail
  refine (clone_any (trimT s) _ H2.out).mono ?_
  rintro e w2 ⟨rfl, B2⟩
  go_wp2
  go_ret
  exact ⟨rfl, B1.trans (B2.mono B1.size)⟩

end Go.Proofs.YthbjdbookiejeabGreatDoor
