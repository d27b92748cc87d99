/- SameTexts of two equal lists; the examples of package sign's texts. -/
import Derived.Test.YtmmileafiainnabDoorTxtB
import Derived.Deep.QuietTactic
import Derived.BigQuiet
namespace Go.Proofs.YtmmileafiainnabDoor
open Go.RowKit
set_option linter.unusedVariables false

theorem owns_at {w : World} {base : Nat} {ao : Option Addr} {cv : Nat} {xs : List ByteArray} (h : w.ownsRow base 9 1 (.slice ao xs.length cv) xs.length (xs.map Value.string)) (hp : 0 < xs.length) :
    ∃ g, ao = some ⟨g, 0, none⟩ ∧ ∀ (j : Nat) (hj : j < xs.length), w.cell? ⟨g, j, none⟩ = some (.string xs[j]) := by
  rcases h.2 with ⟨h1, h2⟩ | ⟨g, cap, cur, hv, _⟩
  · omega
  · injection hv with e1 e2 e3
    refine ⟨g, e1, fun j hj => ?_⟩
    rw [e1] at h
    have k := h.cellAt j (by omega)
    rw [k, List.getElem?_map, List.getElem?_eq_getElem hj]; rfl

set_option maxHeartbeats 1000000 in
theorem sameTexts_eq (xs : List ByteArray) (b1 b2 : Nat) (a1 a2 : Option Addr) (c1 c2 : Nat) (w : World) (hn : xs.length ≤ maxLen)
    (h1 : w.ownsRow b1 9 1 (.slice a1 xs.length c1) xs.length (xs.map Value.string)) (h2 : w.ownsRow b2 9 1 (.slice a2 xs.length c2) xs.length (xs.map Value.string)) :
    Calls Tryd.prog 14 #[.slice a1 xs.length c1, .slice a2 xs.length c2] w fun e w' => e = .returned (.bool true) ∧ Below w.heap.size w w' := by
  unfold maxLen at hn
  rcases Nat.eq_zero_or_pos xs.length with h0 | hp
  · rw [h0]
    clear h1 h2
    go_enter Tryd.func14, Tryd.ntmps14
    go_wp2_with fail
    refine wp_loop_rounds 1 ?_
    rw [rounds_succ]
    go_wp2
    go_ret
    exact ⟨rfl, Below.refl _ _⟩
  · obtain ⟨g1, rfl, k1⟩ := owns_at h1 hp
    obtain ⟨g2, rfl, k2⟩ := owns_at h2 hp
    clear h1 h2
    go_enter Tryd.func14, Tryd.ntmps14
    go_wp2_with fail
    go_loopw [5] (fun vi wr => ∃ k d : Nat, k ≤ xs.length ∧ vi = .int .i64 k ∧ wr = w.drewN d) (fun vi _ => xs.length - (intOf vi).toNat)
    case atStart => exact ⟨0, 0, Nat.zero_le _, rfl, by simp [World.drewN_zero]⟩
    case round =>
      obtain ⟨k, d, hk, rfl, rfl⟩ := hrel
      by_cases hlt : k < xs.length
      · have q1 := k1 k hlt
        have q2 := k2 k hlt
        generalize xs[k] = x at *
        clear k1 k2
        go_wp2
        go_quiet (fail)
        go_wp2
        go_roundw
        case rel => exact ⟨k + 1, _, by omega, by go_num, rfl⟩
        case measure => simp [intOf]; omega
      · go_wp2
        go_ret
        exact ⟨rfl, by refine ⟨?_, ?_, ?_, ?_, ?_⟩ <;> simp [World.drewN]⟩

/-- The example's list, and its parts. -/
def exS : ByteArray := ⟨#[97, 44, 32, 44, 98, 32]⟩
theorem ex_keep : keepT (pieces exS) = [⟨#[97]⟩, ⟨#[98]⟩] := by decide +kernel
theorem ex_len : (pieces exS).length = Lib.countB exS ⟨#[44]⟩ + 1 := by decide +kernel
theorem ex_sizes : ∀ p ∈ pieces exS, p.size ≤ 140737488355328 := by
  have h : (pieces exS).all (fun p => decide (p.size ≤ 140737488355328)) = true := by decide +kernel
  exact fun p hp => of_decide_eq_true (List.all_eq_true.1 h p hp)
theorem lit2 (w : World) (x y : ByteArray) : (w.alloc (.cells #[.string x, .string y] 9)).ownsRow 0 9 1 (.slice (some ⟨w.heap.size, 0, none⟩) 2 2) 2 ([x, y].map Value.string) := by
  refine ⟨rfl, .inr ⟨w.heap.size, 2, #[.string x, .string y], rfl, Nat.zero_le _, tblk_new _ _, Nat.le_refl _, by decide, rfl, rfl⟩⟩

set_option maxRecDepth 100000 in
set_option maxHeartbeats 2000000 in
theorem texts_any (w : World) (hM : MaxL w) : Calls Tryd.prog 9 #[] w fun e w' => e = .returned (.bool true) ∧ Below w.heap.size w w' := by
  have E1 : Hid (trimT ⟨#[9, 32, 97, 32]⟩ = ⟨#[97]⟩) := by rw [Hid]; decide +kernel
  have E2 : Hid (foldS ⟨#[97, 66]⟩ = ⟨#[97, 98]⟩) := by rw [Hid]; decide +kernel
  have E3 : Hid (((foldS ⟨#[65, 98]⟩).toList == (foldS ⟨#[97, 66]⟩).toList) = true) := by rw [Hid]; decide +kernel
  have E4 : Hid (((foldS ⟨#[97]⟩).toList == (foldS ⟨#[98]⟩).toList) = false) := by rw [Hid]; decide +kernel
  go_enter Tryd.func9, Tryd.ntmps9
  go_wp2_with fail
  refine (trim_any ⟨#[9, 32, 97, 32]⟩ _ (by decide +kernel)).mono ?_
  rw [E1.out]
  rintro e w1 ⟨rfl, B1⟩
  have M1 := hM.below B1
  go_wp2_with fail
  refine (fold_any ⟨#[97, 66]⟩ _ (by decide +kernel)).mono ?_
  rw [E2.out]
  rintro e w2 ⟨rfl, B2⟩
  have M2 := M1.below B2
  go_wp2_with fail
  refine (same_any ⟨#[65, 98]⟩ ⟨#[97, 66]⟩ _ (by decide +kernel) (by decide +kernel)).mono ?_
  rw [E3.out]
  rintro e w3 ⟨rfl, B3⟩
  have M3 := M2.below B3
  go_wp2_with fail
  refine (same_any ⟨#[97]⟩ ⟨#[98]⟩ _ (by decide +kernel) (by decide +kernel)).mono ?_
  rw [E4.out]
  rintro e w4 ⟨rfl, B4⟩
  have M4 := M3.below B4
  have D3 := B3.trans (B4.mono B3.size)
  have D2 := B2.trans (D3.mono B2.size)
  have D1 := B1.trans (D2.mono B1.size)
  clear M1 M2 M3 hM D2 D3 B1 B2 B3 B4 E1 E2 E3 E4
  go_wp2_with fail
  have hsp := split_any exS w4 (by decide +kernel) ex_len ex_sizes M4
  rw [ex_keep] at hsp
  refine hsp.mono ?_
  rintro e w5 ⟨ao, cv, rfl, hown, B5⟩
  have hown6 := owns_below hown ((Below.refl w5.heap.size w5).alloc (Nat.le_refl _) (.cells #[.string ⟨#[97]⟩, .string ⟨#[98]⟩] 9))
  have HS : Hid (Calls Tryd.prog 14 #[.slice ao 2 cv, .slice (some ⟨w5.heap.size, 0, none⟩) 2 2] (w5.alloc (.cells #[.string ⟨#[97]⟩, .string ⟨#[98]⟩] 9)) fun e w' => e = .returned (.bool true) ∧ Below (w5.alloc (.cells #[.string ⟨#[97]⟩, .string ⟨#[98]⟩] 9)).heap.size (w5.alloc (.cells #[.string ⟨#[97]⟩, .string ⟨#[98]⟩] 9)) w') :=
    sameTexts_eq [⟨#[97]⟩, ⟨#[98]⟩] _ _ ao _ cv 2 _ (by decide) hown6 (lit2 w5 _ _)
  have D5 := D1.trans (B5.mono D1.size)
  have D6 := D5.alloc D5.size (.cells #[.string ⟨#[97]⟩, .string ⟨#[98]⟩] 9)
  clear hsp hown hown6 M4 D1 B5 D5
  go_wp2_with fail
  refine HS.out.mono ?_
  rintro e w7 ⟨rfl, B7⟩
  go_wp2
  go_ret
  exact ⟨rfl, D6.trans (B7.mono D6.size)⟩
end Go.Proofs.YtmmileafiainnabDoor
