/- The document's example of a meter answers as it should. -/
import Derived.Test.YtmmileafiainnaaMeterB
namespace Go.Proofs.Ytmmileafiainnaa
open Go.RowKit
set_option linter.unusedVariables false

/-- A new meter lies in its block. -/
theorem isM_new (w : World) (m : Int) : IsM (w.alloc (.cells #[.int .i64 m, .int .i64 0, .int .i64 0] 62)) w.heap.size m 0 0 := by
  show (w.heap.push _)[w.heap.size]? = _
  simp
theorem new_m (a : Int) (w : World) :
    Calls Try.prog 9 #[.int .i64 a] w fun e w' => ∃ b, e = .returned (.pointer (some ⟨b, 0, none⟩)) ∧ w.heap.size = b ∧ IsM w' b (mst a) 0 0 ∧ Below w.heap.size w w' :=
  (new_any a w).mono fun e w' ⟨he, hw⟩ => ⟨_, he, rfl, hw ▸ isM_new w _, hw ▸ (Below.refl _ _).alloc (Nat.le_refl _) _⟩

theorem take_ok (b : Nat) (m h p n h' : Int) (w : World) (hm : IsM w b m h p) (h0 : 0 ≤ h) (h1 : h ≤ m) (h2 : m ≤ 1099511627776) (c : 0 ≤ n) (d : n ≤ m - h) (f : h + n = h') :
    Calls Try.prog 13 #[.pointer (some ⟨b, 0, none⟩), .int .i64 n] w fun e w' => e = .returned (.bool true) ∧ IsM w' b m h' p ∧ But b w w' := by
  have k := take_any b m h p n w hm h0 h1 h2
  rw [(tk_yes c d).1, (tk_yes c d).2, f] at k
  exact k
theorem take_nok (b : Nat) (m h p n : Int) (w : World) (hm : IsM w b m h p) (h0 : 0 ≤ h) (h1 : h ≤ m) (h2 : m ≤ 1099511627776) (c : n < 0 ∨ m - h < n) :
    Calls Try.prog 13 #[.pointer (some ⟨b, 0, none⟩), .int .i64 n] w fun e w' => e = .returned (.bool false) ∧ IsM w' b m h p ∧ But b w w' := by
  have k := take_any b m h p n w hm h0 h1 h2
  rw [(tk_no c).1, (tk_no c).2] at k
  exact k
theorem give_no (b : Nat) (m h p n : Int) (w : World) (hm : IsM w b m h p) (h0 : 0 ≤ h) (h1 : h ≤ m) (h2 : m ≤ 1099511627776) (c : n ≤ 0) :
    Calls Try.prog 15 #[.pointer (some ⟨b, 0, none⟩), .int .i64 n] w fun e w' => e = .returned (.int .i64 0) ∧ IsM w' b m h p ∧ But b w w' := by
  have k := give_any b m h p n w hm h0 h1 h2
  rw [(gv_no (p := p) (h := h) c).1, (gv_no (h := h) c).2, show h - 0 = h from by omega] at k
  exact k
theorem give_ok (b : Nat) (m h p n h' p' : Int) (w : World) (hm : IsM w b m h p) (h0 : 0 ≤ h) (h1 : h ≤ m) (h2 : m ≤ 1099511627776) (c : 0 ≤ n) (d : n ≤ h) (f : h - n = h') (g : (if n ≤ 0 then p else if h ≤ p then p else h) = p') :
    Calls Try.prog 15 #[.pointer (some ⟨b, 0, none⟩), .int .i64 n] w fun e w' => e = .returned (.int .i64 n) ∧ IsM w' b m h' p' ∧ But b w w' := by
  have k := give_any b m h p n w hm h0 h1 h2
  have e1 : gvL h n = n := by unfold gvL; split <;> omega
  have e2 : gvP h p n = p' := by rw [← g]; rfl
  rw [e1, e2, f] at k
  exact k
theorem give_all (b : Nat) (m h p n p' : Int) (w : World) (hm : IsM w b m h p) (h0 : 0 ≤ h) (h1 : h ≤ m) (h2 : m ≤ 1099511627776) (c : 0 < n) (d : h ≤ n) (g : (if h ≤ p then p else h) = p') :
    Calls Try.prog 15 #[.pointer (some ⟨b, 0, none⟩), .int .i64 n] w fun e w' => e = .returned (.int .i64 h) ∧ IsM w' b m 0 p' ∧ But b w w' := by
  have k := give_any b m h p n w hm h0 h1 h2
  have e1 : gvL h n = h := by unfold gvL; rw [if_neg (by omega)]; split <;> omega
  have e2 : gvP h p n = p' := by unfold gvP; rw [if_neg (by omega), ← g]; rfl
  rw [e1, e2, show h - h = 0 from by omega] at k
  exact k
theorem peak_at (b : Nat) (m h p q : Int) (w : World) (hm : IsM w b m h p) (g : (if h ≤ p then p else h) = q) :
    Calls Try.prog 17 #[.pointer (some ⟨b, 0, none⟩)] w fun e w' => e = .returned (.int .i64 q) ∧ IsM w' b m h p ∧ But b w w' := by
  have k := peak_any b m h p w hm
  rw [show pst h p = q from g] at k
  exact k
theorem mst3 (a : Int) : (a < 0 ∧ mst a = 0) ∨ (0 ≤ a ∧ a ≤ 1099511627776 ∧ mst a = a) ∨ (1099511627776 < a ∧ mst a = 1099511627776) := by
  unfold mst; omega

set_option maxHeartbeats 1000000 in
theorem alive_any (w : World) : Calls Try.prog 10 #[] w fun e w' => e = .returned (.bool true) ∧ Below w.heap.size w w' := by
  go_enter Try.func10, Try.ntmps10
  go_wp2_with fail
  refine (new_m 10 _).mono ?_
  rintro e w1 ⟨b, rfl, hb, hm, hB⟩
  have e0 : mst 10 = 10 := by decide
  rw [e0] at hm
  clear e0
  have HB : Hid (w.heap.size = b) := hb
  clear hb
  go_wp2_with fail
  refine (take_any b 10 0 0 7 _ hm (by omega) (by omega) (by omega)).mono ?_
  rw [show tkB 10 0 7 = true from by decide, show tkH 10 0 7 = 7 from by decide]
  rintro e w2 ⟨rfl, hm2, hb2⟩
  go_wp2_with fail
  refine (take_any b 10 7 0 4 _ hm2 (by omega) (by omega) (by omega)).mono ?_
  rw [show tkB 10 7 4 = false from by decide, show tkH 10 7 4 = 7 from by decide]
  rintro e w3 ⟨rfl, hm3, hb3⟩
  go_wp2_with fail
  refine (give_any b 10 7 0 2 _ hm3 (by omega) (by omega) (by omega)).mono ?_
  rw [show gvL 7 2 = 2 from by decide, show gvP 7 0 2 = 7 from by decide]
  rintro e w4 ⟨rfl, hm4, hb4⟩
  go_wp2_with fail
  refine (take_any b 10 5 7 4 _ hm4 (by omega) (by omega) (by omega)).mono ?_
  rw [show tkB 10 5 4 = true from by decide, show tkH 10 5 4 = 9 from by decide]
  rintro e w5 ⟨rfl, hm5, hb5⟩
  go_wp2_with fail
  refine (held_any b 10 9 7 _ hm5).mono ?_
  rintro e w6 ⟨rfl, hm6, hb6⟩
  go_wp2_with fail
  refine (peak_any b 10 9 7 _ hm6).mono ?_
  rw [show pst 9 7 = 9 from by decide]
  rintro e w7 ⟨rfl, hm7, hb7⟩
  go_wp2_with fail
  refine (room_any b 10 9 7 _ hm7 (by omega) (by omega) (by omega)).mono ?_
  rintro e w8 ⟨rfl, hm8, hb8⟩
  go_wp2
  go_ret
  have hb := HB.out
  exact ⟨rfl, hB.trans ((hb2.trans (hb3.trans (hb4.trans (hb5.trans (hb6.trans (hb7.trans hb8)))))).below (by omega))⟩
end Go.Proofs.Ytmmileafiainnaa
