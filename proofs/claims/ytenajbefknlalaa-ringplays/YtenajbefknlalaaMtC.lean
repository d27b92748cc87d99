/- The document's example of a meter answers as it should. -/
import Derived.Test.YtenajbefknlalaaMtB
namespace Go.Proofs.Ytenajbefknlalaa
open Go.RowKit
set_option linter.unusedVariables false

/-- A new meter lies in its block. -/
theorem isM_new (w : World) (m : Int) : IsM (w.alloc (.cells #[.int .i64 m, .int .i64 0, .int .i64 0] 53)) w.heap.size m 0 0 := by
  show (w.heap.push _)[w.heap.size]? = _
  simp
theorem new_m (a : Int) (w : World) :
    Calls Try.prog 4 #[.int .i64 a] w fun e w' => ∃ b, e = .returned (.pointer (some ⟨b, 0, none⟩)) ∧ w.heap.size = b ∧ IsM w' b (mst a) 0 0 ∧ Below w.heap.size w w' :=
  (new_any a w).mono fun e w' ⟨he, hw⟩ => ⟨_, he, rfl, hw ▸ isM_new w _, hw ▸ (Below.refl _ _).alloc (Nat.le_refl _) _⟩

theorem take_ok (b : Nat) (m h p n h' : Int) (w : World) (hm : IsM w b m h p) (h0 : 0 ≤ h) (h1 : h ≤ m) (h2 : m ≤ 1099511627776) (c : 0 ≤ n) (d : n ≤ m - h) (f : h + n = h') :
    Calls Try.prog 22 #[.pointer (some ⟨b, 0, none⟩), .int .i64 n] w fun e w' => e = .returned (.bool true) ∧ IsM w' b m h' p ∧ But b w w' := by
  have k := take_any b m h p n w hm h0 h1 h2
  rw [(tk_yes c d).1, (tk_yes c d).2, f] at k
  exact k
theorem take_nok (b : Nat) (m h p n : Int) (w : World) (hm : IsM w b m h p) (h0 : 0 ≤ h) (h1 : h ≤ m) (h2 : m ≤ 1099511627776) (c : n < 0 ∨ m - h < n) :
    Calls Try.prog 22 #[.pointer (some ⟨b, 0, none⟩), .int .i64 n] w fun e w' => e = .returned (.bool false) ∧ IsM w' b m h p ∧ But b w w' := by
  have k := take_any b m h p n w hm h0 h1 h2
  rw [(tk_no c).1, (tk_no c).2] at k
  exact k
theorem give_no (b : Nat) (m h p n : Int) (w : World) (hm : IsM w b m h p) (h0 : 0 ≤ h) (h1 : h ≤ m) (h2 : m ≤ 1099511627776) (c : n ≤ 0) :
    Calls Try.prog 27 #[.pointer (some ⟨b, 0, none⟩), .int .i64 n] w fun e w' => e = .returned (.int .i64 0) ∧ IsM w' b m h p ∧ But b w w' := by
  have k := give_any b m h p n w hm h0 h1 h2
  rw [(gv_no (p := p) (h := h) c).1, (gv_no (h := h) c).2, show h - 0 = h from by omega] at k
  exact k
theorem give_ok (b : Nat) (m h p n h' p' : Int) (w : World) (hm : IsM w b m h p) (h0 : 0 ≤ h) (h1 : h ≤ m) (h2 : m ≤ 1099511627776) (c : 0 ≤ n) (d : n ≤ h) (f : h - n = h') (g : (if n ≤ 0 then p else if h ≤ p then p else h) = p') :
    Calls Try.prog 27 #[.pointer (some ⟨b, 0, none⟩), .int .i64 n] w fun e w' => e = .returned (.int .i64 n) ∧ IsM w' b m h' p' ∧ But b w w' := by
  have k := give_any b m h p n w hm h0 h1 h2
  have e1 : gvL h n = n := by unfold gvL; split <;> omega
  have e2 : gvP h p n = p' := by rw [← g]; rfl
  rw [e1, e2, f] at k
  exact k
theorem give_all (b : Nat) (m h p n p' : Int) (w : World) (hm : IsM w b m h p) (h0 : 0 ≤ h) (h1 : h ≤ m) (h2 : m ≤ 1099511627776) (c : 0 < n) (d : h ≤ n) (g : (if h ≤ p then p else h) = p') :
    Calls Try.prog 27 #[.pointer (some ⟨b, 0, none⟩), .int .i64 n] w fun e w' => e = .returned (.int .i64 h) ∧ IsM w' b m 0 p' ∧ But b w w' := by
  have k := give_any b m h p n w hm h0 h1 h2
  have e1 : gvL h n = h := by unfold gvL; rw [if_neg (by omega)]; split <;> omega
  have e2 : gvP h p n = p' := by unfold gvP; rw [if_neg (by omega), ← g]; rfl
  rw [e1, e2, show h - h = 0 from by omega] at k
  exact k
theorem peak_at (b : Nat) (m h p q : Int) (w : World) (hm : IsM w b m h p) (g : (if h ≤ p then p else h) = q) :
    Calls Try.prog 16 #[.pointer (some ⟨b, 0, none⟩)] w fun e w' => e = .returned (.int .i64 q) ∧ IsM w' b m h p ∧ But b w w' := by
  have k := peak_any b m h p w hm
  rw [show pst h p = q from g] at k
  exact k
theorem mst3 (a : Int) : (a < 0 ∧ mst a = 0) ∨ (0 ≤ a ∧ a ≤ 1099511627776 ∧ mst a = a) ∨ (1099511627776 < a ∧ mst a = 1099511627776) := by
  unfold mst; omega

end Go.Proofs.Ytenajbefknlalaa
