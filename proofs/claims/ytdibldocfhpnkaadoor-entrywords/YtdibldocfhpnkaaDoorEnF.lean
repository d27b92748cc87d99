/- slices.Concat of four and three texts. -/
import Derived.Test.YtdibldocfhpnkaaDoorEnE
namespace Go.Proofs.YtdibldocfhpnkaaDoor
open Go.RowKit
set_option linter.unusedVariables false

set_option maxRecDepth 100000 in
set_option maxHeartbeats 3200000 in
theorem concat_any (X Y : List ByteArray) (g : Nat) (a1 a2 : Option Addr) (c1 c2 : Nat) (w : World) (hX : X.length = 4) (hY : Y.length = 3) (hg : g < w.heap.size)
    (k0 : w.cell? ⟨g, 0, none⟩ = some (.slice a1 4 c1)) (k1 : w.cell? ⟨g, 1, none⟩ = some (.slice a2 3 c2)) (h1 : Txs w.heap.size w (.slice a1 4 c1) X) (h2 : Txs w.heap.size w (.slice a2 3 c2) Y) :
    Calls Tryd.prog 41 #[.slice (some ⟨g, 0, none⟩) 2 2] w fun e w' => ∃ b c, e = .returned (.slice (some ⟨b, 0, none⟩) 7 c) ∧ OwnT w.heap.size w' (.slice (some ⟨b, 0, none⟩) 7 c) (X ++ Y) ∧ Below w.heap.size w w' := by
  have HG : Hid (∀ W, Calls Tryd.prog 59 #[.slice none 0 0, .int .i64 7] W fun e w' => ∃ c, e = .returned (.slice (some ⟨W.heap.size, 0, none⟩) 0 c) ∧ OwnT W.heap.size w' (.slice (some ⟨W.heap.size, 0, none⟩) 0 c) [] ∧ Below W.heap.size W w') := grow7
  have HX : Hid (Txs w.heap.size w (.slice a1 4 c1) X) := h1
  have HY : Hid (Txs w.heap.size w (.slice a2 3 c2) Y) := h2
  clear h1 h2
  go_enter Tryd.func41, Tryd.ntmps41
  go_wp2_with fail
  go_loopw [3, 11] (fun vs vi wr => ∃ i : Nat, i ≤ 2 ∧ vi = .int .i64 i ∧ vs = .int .i64 (if i = 0 then 0 else if i = 1 then 4 else 7) ∧ Hid (wr = w)) (fun _ vi _ => 2 - (intOf vi).toNat)
  case atStart => exact ⟨0, Nat.zero_le _, rfl, rfl, by first | exact rfl | exact True.intro⟩
  case round =>
    obtain ⟨i, hi, rfl, rfl, hw⟩ := hrel
    obtain rfl := hw.out
    have e3 : i = 0 ∨ i = 1 ∨ i = 2 := by omega
    clear hi hw
    rcases e3 with rfl | rfl | rfl
    · simp only [if_true]
      go_wp2
      go_roundw
      case rel => exact ⟨1, by omega, by go_num, by go_num, by first | exact rfl | exact True.intro⟩
      case measure => simp [intOf]
    · simp only [if_true, if_false, Nat.one_ne_zero]
      go_wp2
      go_roundw
      case rel => exact ⟨2, by omega, by go_num, by go_num, by first | exact rfl | exact True.intro⟩
      case measure => simp [intOf]
    · simp only [if_false, show ¬ (2 : Nat) = 0 by decide, show ¬ (2 : Nat) = 1 by decide]
      go_wp2_with fail
      refine (HG.out _).mono ?_
      rintro e w1 ⟨c, rfl, O1, B1⟩
      have HO1 : Hid (OwnT wr.heap.size w1 (.slice (some ⟨wr.heap.size, 0, none⟩) 0 c) [] ∧ Below wr.heap.size wr w1) := ⟨O1, B1⟩
      clear O1 B1 HG
      obtain ⟨w0, hw0⟩ : ∃ w0, w0 = wr := ⟨_, rfl⟩
      subst hw0
      go_wp2_with fail
      go_loopw [6, 27] (fun v6 vi W => ∃ i : Nat, i ≤ 2 ∧ vi = .int .i64 i ∧ Hid (OwnT w0.heap.size W v6 (if i = 0 then [] else if i = 1 then X else X ++ Y) ∧ Below w0.heap.size w0 W)) (fun _ vi _ => 2 - (intOf vi).toNat)
      case atStart => exact ⟨0, Nat.zero_le _, rfl, HO1.out⟩
      case round =>
        obtain ⟨i, hi, rfl, hO⟩ := hrel
        clear HO1
        have e3 : i = 0 ∨ i = 1 ∨ i = 2 := by omega
        clear hi
        have hB := hO.out.2
        have hsz := hB.size
        rcases e3 with rfl | rfl | rfl
        · have q0 := (hB.cell (p := ⟨g, 0, none⟩) hg).trans k0
          obtain ⟨v', w', r, O, b⟩ := ownT_append hO.out.1 (HX.out.keep hB) (by show ([] : List ByteArray).length + X.length ≤ _; rw [hX]; decide) hsz
          have D := hB.trans b
          go_wp2_with (at_builtin; refine wpList_append_run2 rfl _ _ 55 55 rfl _ _ _ w' rfl rfl r ?_)
          go_wp2
          go_roundw
          case rel => exact ⟨1, by omega, by go_num, O, D⟩
          case measure => simp [intOf]
        · have q0 := (hB.cell (p := ⟨g, 1, none⟩) hg).trans k1
          obtain ⟨v', w', r, O, b⟩ := ownT_append hO.out.1 (HY.out.keep hB) (by show X.length + Y.length ≤ _; rw [hX, hY]; decide) hsz
          have D := hB.trans b
          go_wp2_with (at_builtin; refine wpList_append_run2 rfl _ _ 55 55 rfl _ _ _ w' rfl rfl r ?_)
          go_wp2
          go_roundw
          case rel => exact ⟨2, by omega, by go_num, O, D⟩
          case measure => simp [intOf]
        · have O2 : OwnT w0.heap.size wr u6 (X ++ Y) := hO.out.1
          have hl7 : (X ++ Y).length = 7 := by rw [List.length_append, hX, hY]
          obtain ⟨h5, ⟨h6, h7⟩ | ⟨gb, cb, cur, hv, r6⟩⟩ := O2
          · rw [hl7] at h7; cases h7
          rw [hl7] at hv
          subst hv
          have HO2 : Hid (OwnT w0.heap.size wr (.slice (some ⟨gb, 0, none⟩) 7 cb) (X ++ Y)) := hO.out.1
          clear h5 r6 hl7
          go_wp2
          go_ret
          exact ⟨gb, cb, rfl, HO2.out, hB⟩
end Go.Proofs.YtdibldocfhpnkaaDoor
