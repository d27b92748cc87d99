/- The examples of Get, List, Has, Without, Right and Same. -/
import Derived.Test.YtflgjhknobnnaabDoorFsE
import Derived.Test.YtflgjhknobnnaabDoorTxtC
namespace Go.Proofs.YtflgjhknobnnaabDoor
open Go.ChangeShapes Go.WideShapes Go.ChangeAt Go.RowKit
set_option linter.unusedVariables false

def lookF : Fs := [(⟨#[120]⟩, ⟨#[49, 44, 32, 50]⟩), (⟨#[89]⟩, ⟨#[122]⟩), (⟨#[88]⟩, ⟨#[51]⟩)]
def lookO : Obj := .cells #[.string ⟨#[120]⟩, .string ⟨#[49, 44, 32, 50]⟩, .string ⟨#[89]⟩, .string ⟨#[122]⟩, .string ⟨#[88]⟩, .string ⟨#[51]⟩] 34
structure LI (w W : World) : Prop where
  below : Below w.heap.size w W
  blk : W.heap[w.heap.size]? = some lookO
theorem LI.next {w W W' : World} (h : LI w W) (b : Below W.heap.size W W') : LI w W' := ⟨h.below.trans (b.mono h.below.size), tblk_below h.blk b⟩
theorem LI.fds {w W : World} (h : LI w W) : Fds W.heap.size W (.slice (some ⟨w.heap.size, 0, none⟩) 3 3) lookF := by
  have hb := h.blk
  unfold lookO at hb
  refine ⟨_, 3, rfl, (fun e => by cases e), Nat.le_refl _, by decide, fun _ => ⟨w.heap.size, 0, rfl, heap_lt h.blk, fun j hj => ?_⟩⟩
  have hj3 : j = 0 ∨ j = 1 ∨ j = 2 := by have : j < 3 := hj; omega
  rcases hj3 with rfl | rfl | rfl <;> exact ⟨tblk_cell hb rfl, tblk_cell hb rfl⟩
theorem LI.fds2 {w W : World} (h : LI w W) : Fds W.heap.size W (.slice (some ⟨w.heap.size, 0, none⟩) 2 3) (lookF.take 2) := by
  have hb := h.blk
  unfold lookO at hb
  refine ⟨_, 3, rfl, (fun e => by cases e), by decide, by decide, fun _ => ⟨w.heap.size, 0, rfl, heap_lt h.blk, fun j hj => ?_⟩⟩
  have hj3 : j = 0 ∨ j = 1 := by have : j < 2 := hj; omega
  rcases hj3 with rfl | rfl <;> exact ⟨tblk_cell hb rfl, tblk_cell hb rfl⟩
theorem look_bd (N : Nat) (h : 4 ≤ N) : FBd N lookF := by
  intro f hf
  have : f.1.size ≤ 4 ∧ f.2.size ≤ 4 := by
    revert f hf
    decide
  omega
theorem ownT_lit {w : World} {B n : Nat} {xs : List ByteArray} (hn : xs.length = n) (hB : B ≤ w.heap.size) (hm : n ≤ maxLen) (r : Array Value) (hr : (xs.map Value.string).toArray = r) : OwnT B (w.alloc (.cells r 9)) (.slice (some ⟨w.heap.size, 0, none⟩) n n) xs := by
  subst hr hn
  refine ⟨by simp, .inr ⟨w.heap.size, xs.length, _, rfl, hB, tblk_new _ _, Nat.le_refl _, hm, by simp, by simp only [Nat.mul_one]; exact List.take_of_length_le (by simp)⟩⟩

set_option maxRecDepth 100000 in
set_option maxHeartbeats 4000000 in
theorem looking_any (w : World) (hM : MaxL w) : Calls Tryd.prog 9 #[] w fun e w' => e = .returned (.bool true) ∧ Below w.heap.size w w' := by
  have I0 : LI w (w.alloc lookO) := ⟨(Below.refl _ _).alloc (Nat.le_refl _) _, tblk_new _ _⟩
  have H1 : Hid (∀ W, LI w W → Calls Tryd.prog 11 #[.slice (some ⟨w.heap.size, 0, none⟩) 3 3, .string ⟨#[120]⟩] W fun e w' => ∃ ao cv, e = .returned (.slice ao 2 cv) ∧ LI w w') := fun W i => by
    have k := get_any lookF (some ⟨w.heap.size, 0, none⟩) 3 ⟨#[120]⟩ W i.fds (look_bd _ (by decide)) (by decide) (by decide)
    rw [show (getF lookF ⟨#[120]⟩).length = 2 by decide +kernel] at k
    exact k.mono fun e w' ⟨ao, cv, h1, _, h3⟩ => ⟨ao, cv, h1, i.next h3⟩
  have H2 : Hid (∀ W, LI w W → Calls Tryd.prog 13 #[.slice (some ⟨w.heap.size, 0, none⟩) 3 3, .string ⟨#[88]⟩] W fun e w' => ∃ ao cv, e = .returned (.slice ao 3 cv) ∧ OwnT w.heap.size w' (.slice ao 3 cv) [⟨#[49]⟩, ⟨#[50]⟩, ⟨#[51]⟩] ∧ LI w w') := fun W i => by
    have k := list_any lookF (some ⟨w.heap.size, 0, none⟩) 3 ⟨#[88]⟩ W i.fds (look_bd _ (by decide)) (by decide) (by decide) (hM.below i.below)
    rw [show listF lookF ⟨#[88]⟩ = [⟨#[49]⟩, ⟨#[50]⟩, ⟨#[51]⟩] by decide +kernel] at k
    exact k.mono fun e w' ⟨ao, cv, h1, h2, h3⟩ => ⟨ao, cv, h1, h2.mono i.below.size, i.next h3⟩
  have H4 : Hid (∀ W, LI w W → Calls Tryd.prog 15 #[.slice (some ⟨w.heap.size, 0, none⟩) 3 3, .string ⟨#[121]⟩, .string ⟨#[90]⟩] W fun e w' => e = .returned (.bool true) ∧ LI w w') := fun W i => by
    have k := has_any lookF (some ⟨w.heap.size, 0, none⟩) 3 ⟨#[121]⟩ ⟨#[90]⟩ W i.fds (look_bd _ (by decide)) (by decide) (by decide) (by decide) (hM.below i.below)
    rw [show hasF lookF ⟨#[121]⟩ ⟨#[90]⟩ = true by decide +kernel] at k
    exact k.mono fun e w' z => ⟨z.1, i.next z.2⟩
  have H5 : Hid (∀ W, LI w W → Calls Tryd.prog 15 #[.slice (some ⟨w.heap.size, 0, none⟩) 3 3, .string ⟨#[121]⟩, .string ⟨#[119]⟩] W fun e w' => e = .returned (.bool false) ∧ LI w w') := fun W i => by
    have k := has_any lookF (some ⟨w.heap.size, 0, none⟩) 3 ⟨#[121]⟩ ⟨#[119]⟩ W i.fds (look_bd _ (by decide)) (by decide) (by decide) (by decide) (hM.below i.below)
    rw [show hasF lookF ⟨#[121]⟩ ⟨#[119]⟩ = false by decide +kernel] at k
    exact k.mono fun e w' z => ⟨z.1, i.next z.2⟩
  have H6 : Hid (∀ W0, LI w W0 → Calls Tryd.prog 20 #[.slice (some ⟨w.heap.size, 0, none⟩) 3 3, .slice (some ⟨W0.heap.size, 0, none⟩) 1 1] (W0.alloc (.cells #[.string ⟨#[120]⟩] 9)) fun e w' => ∃ ao cv, e = .returned (.slice ao 1 cv) ∧ LI w w') := fun W0 i0 => by
    have i : LI w (W0.alloc (.cells #[.string ⟨#[120]⟩] 9)) := i0.next ((Below.refl _ _).alloc (Nat.le_refl _) _)
    have k := without_any lookF (some ⟨w.heap.size, 0, none⟩) 3 [⟨#[120]⟩] (some ⟨W0.heap.size, 0, none⟩) 1 (W0.alloc (.cells #[.string ⟨#[120]⟩] 9)) i.fds (look_bd _ (by decide)) (one_txs W0 _ _ (by simp)) (fun x hx => by rw [List.mem_singleton.1 hx]; decide) (by decide)
    rw [show (withoutF lookF [⟨#[120]⟩]).length = 1 by decide +kernel] at k
    exact k.mono fun e w' ⟨ao, cv, h1, _, h3⟩ => ⟨ao, cv, h1, i.next h3⟩
  have H7 : Hid (∀ W, LI w W → Calls Tryd.prog 17 #[.slice (some ⟨w.heap.size, 0, none⟩) 3 3] W fun e w' => e = .returned (.bool true) ∧ LI w w') := fun W i => by
    have k := right_any lookF (some ⟨w.heap.size, 0, none⟩) 3 W i.fds (look_bd _ (by decide))
    rw [show rightF lookF = true by decide +kernel] at k
    exact k.mono fun e w' z => ⟨z.1, i.next z.2⟩
  have H8 : Hid (∀ W, LI w W → Calls Tryd.prog 26 #[.slice (some ⟨w.heap.size, 0, none⟩) 3 3, .slice (some ⟨w.heap.size, 0, none⟩) 3 3] W fun e w' => e = .returned (.bool true) ∧ LI w w') := fun W i => by
    have k := fsame_any lookF lookF (some ⟨w.heap.size, 0, none⟩) (some ⟨w.heap.size, 0, none⟩) 3 3 W i.fds i.fds
    rw [show sameF lookF lookF = true by unfold sameF; exact decide_eq_true rfl] at k
    exact k.mono fun e w' z => ⟨z.1, i.next z.2⟩
  have H9 : Hid (∀ W, LI w W → Calls Tryd.prog 26 #[.slice (some ⟨w.heap.size, 0, none⟩) 3 3, .slice (some ⟨w.heap.size, 0, none⟩) 2 3] W fun e w' => e = .returned (.bool false) ∧ LI w w') := fun W i => by
    have k := fsame_any lookF (lookF.take 2) (some ⟨w.heap.size, 0, none⟩) (some ⟨w.heap.size, 0, none⟩) 3 3 W i.fds i.fds2
    rw [show sameF lookF (lookF.take 2) = false by unfold sameF; exact decide_eq_false (fun h => by have := congrArg List.length h; revert this; decide)] at k
    exact k.mono fun e w' z => ⟨z.1, i.next z.2⟩
  unfold lookO at I0
  clear hM
  go_enter Tryd.func9, Tryd.ntmps9
  go_wp2_with fail
  refine (H1.out _ I0).mono ?_
  rintro e w1 ⟨a1, c1, rfl, I1⟩
  clear H1 I0
  go_wp2_with fail
  refine (H2.out _ I1).mono ?_
  rintro e w2 ⟨a2, c2, rfl, own2, I2⟩
  have C2 : Below w2.heap.size w2 (w2.alloc (.cells #[.string ⟨#[49]⟩, .string ⟨#[50]⟩, .string ⟨#[51]⟩] 9)) := (Below.refl _ _).alloc (Nat.le_refl _) _
  have H3 : Hid (Calls Tryd.prog 10 #[.slice a2 3 c2, .slice (some ⟨w2.heap.size, 0, none⟩) 3 3] (w2.alloc (.cells #[.string ⟨#[49]⟩, .string ⟨#[50]⟩, .string ⟨#[51]⟩] 9)) fun e w' => e = .returned (.bool true) ∧ LI w w') :=
    (sameTexts_eq [⟨#[49]⟩, ⟨#[50]⟩, ⟨#[51]⟩] w.heap.size w.heap.size a2 (some ⟨w2.heap.size, 0, none⟩) c2 3 _ (by decide) (own2.keep C2) (ownT_lit rfl I2.below.size (by decide) _ rfl)).mono fun e w' z => ⟨z.1, (I2.next C2).next z.2⟩
  clear H2 I1 own2 C2
  go_wp2_with fail
  refine H3.out.mono ?_
  rintro e w3 ⟨rfl, I3⟩
  clear H3 I2
  go_wp2_with fail
  refine (H4.out _ I3).mono ?_
  rintro e w4 ⟨rfl, I4⟩
  go_wp2_with fail
  refine (H5.out _ I4).mono ?_
  rintro e w5 ⟨rfl, I5⟩
  go_wp2_with fail
  refine (H6.out _ I5).mono ?_
  rintro e w6 ⟨a6, c6, rfl, I6⟩
  go_wp2_with fail
  refine (H7.out _ I6).mono ?_
  rintro e w7 ⟨rfl, I7⟩
  go_wp2_with fail
  refine (H8.out _ I7).mono ?_
  rintro e w8 ⟨rfl, I8⟩
  go_wp2_with fail
  refine (H9.out _ I8).mono ?_
  rintro e w9 ⟨rfl, I9⟩
  go_wp2
  go_ret
  exact ⟨rfl, I9.below⟩
end Go.Proofs.YtflgjhknobnnaabDoor
