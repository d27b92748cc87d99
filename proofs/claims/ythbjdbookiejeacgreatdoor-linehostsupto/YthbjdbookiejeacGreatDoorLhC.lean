/- LineHosts: the walk. -/
import Derived.Test.YthbjdbookiejeacGreatDoorLhB
import Derived.Test.YthbjdbookiejeacGreatDoorLnH
namespace Go.Proofs.YthbjdbookiejeacGreatDoor
open Go.RowKit
set_option linter.unusedVariables false

theorem hostP_size (s : ByteArray) : (hostP s).1.size ≤ 64 := by
  rw [host_ref]
  generalize (⟨(foldL (endL s.data.toList)).toArray⟩ : ByteArray) = o
  unfold refO
  by_cases h2 : allB hsP o.data.toList = false
  · rw [if_pos h2]; decide
  · rw [if_neg h2]
    by_cases h1 : o.size = 0
    · rw [if_pos h1]; decide
    · rw [if_neg h1]
      by_cases h3 : 64 < o.size
      · rw [if_pos h3]; decide
      · rw [if_neg h3]; exact Nat.le_of_not_lt h3
theorem hostP_no (s : ByteArray) (h : (hostP s).2 = false) : (hostP s).1 = ⟨#[]⟩ := by
  rw [host_ref] at h ⊢
  generalize (⟨(foldL (endL s.data.toList)).toArray⟩ : ByteArray) = o at *
  unfold refO at h ⊢
  by_cases h2 : allB hsP o.data.toList = false
  · rw [if_pos h2]
  · rw [if_neg h2] at h ⊢
    by_cases h1 : o.size = 0
    · rw [if_pos h1]
    · rw [if_neg h1] at h ⊢
      by_cases h3 : 64 < o.size
      · rw [if_pos h3]
      · rw [if_neg h3] at h; cases h

set_option maxRecDepth 100000 in
set_option maxHeartbeats 4000000 in
theorem hosts_walk (s : ByteArray) (w : World) (hs : s.size ≤ 1048576) (hL : Lv w) : Calls Tryz.prog 4 #[.string s] w fun e w' => e = .returned (.bool true) ∧ Below w.heap.size w w' := by
  have HR : Hid (∀ W, Below w.heap.size w W → Calls Tryz.prog 5 #[] W fun e w' => e = .returned (.bool true) ∧ Below W.heap.size W w') := fun W b => reading_any W (hL.below b)
  have H1 : Hid (∀ W, Calls Tryz.prog 8 #[.string s] W fun e w' => e = .returned (.tuple #[.string (hostP s).1, .bool (hostP s).2]) ∧ Below W.heap.size W w') := fun W => host_any s W (by unfold maxLen; omega)
  have H2 : Hid (∀ W, Calls Tryz.prog 9 #[.string s] W fun e w' => e = .returned (.tuple #[.string (hostP s).1, .bool (hostP s).2]) ∧ Below W.heap.size W w') := fun W => rhost_any s W (by omega)
  have hz := hostP_size s
  have hn := hostP_no s
  have hy := host_again s
  have H3 : Hid ((hostP s).2 = true → ∀ W, Calls Tryz.prog 8 #[.string ((hostP s).1 ++ ⟨#[58, 56, 48]⟩)] W fun e w' => e = .returned (.tuple #[.string (hostP s).1, .bool true]) ∧ Below W.heap.size W w') := fun h W => by
    have k := host_any ((hostP s).1 ++ ⟨#[58, 56, 48]⟩) W (by
      rw [ByteArray.size_append]
      have e : (⟨#[58, 56, 48]⟩ : ByteArray).size = 3 := rfl
      rw [e]; unfold maxLen; omega)
    rw [hy h] at k
    exact k
  clear hy
  generalize hostP s = x at *
  obtain ⟨h, ok⟩ := x
  simp only at H1 H2 H3 hz hn
  clear hL hs
  go_enter Tryz.func4, Tryz.ntmps4
  go_wp2_with fail
  refine (HR.out _ (Below.refl _ _)).mono ?_
  rintro e w1 ⟨rfl, C1⟩
  clear HR
  go_wp2_with fail
  refine (H1.out _).mono ?_
  rintro e w2 ⟨rfl, B2⟩
  have C2 := C1.trans (B2.mono C1.size)
  clear C1 B2 H1
  go_wp2_with fail
  refine (H2.out _).mono ?_
  rintro e w3 ⟨rfl, B3⟩
  have C3 := C2.trans (B3.mono C2.size)
  clear C2 B3 H2
  cases ok
  · obtain rfl := hn rfl
    clear H3 hn hz
    go_wp2
    go_ret
    exact ⟨rfl, C3⟩
  · have H4 : Hid (∀ W, Calls Tryz.prog 8 #[.string (h ++ ⟨#[58, 56, 48]⟩)] W fun e w' => e = .returned (.tuple #[.string h, .bool true]) ∧ Below W.heap.size W w') := H3.out rfl
    clear H3 hn
    go_wp2_with fail
    refine (H4.out _).mono ?_
    rintro e w4 ⟨rfl, B4⟩
    have C4 := C3.trans (B4.mono C3.size)
    clear C3 B4 H4
    go_wp2
    go_ret
    exact ⟨rfl, C4⟩
end Go.Proofs.YthbjdbookiejeacGreatDoor
