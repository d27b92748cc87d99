/- The document's examples of routes. -/
import Derived.Test.YtjfcoihfjjcooaaRtD
namespace Go.Proofs.Ytjfcoihfjjcooaa
open Go.RowKit
set_option linter.unusedVariables false

def exR : List RouteP := [⟨⟨#[47]⟩, ⟨#[]⟩, ⟨#[]⟩⟩, ⟨⟨#[47, 97]⟩, ⟨#[]⟩, ⟨#[47, 110]⟩⟩]
theorem exR_bd : RBd exR := by
  intro r hr
  simp only [exR, List.mem_cons, List.not_mem_nil, or_false] at hr
  rcases hr with rfl | rfl <;> exact ⟨by decide, by decide⟩
/-- The block that the two routes lie in. -/
def exO : Obj := .cells #[.string ⟨#[47]⟩, .string ⟨#[]⟩, .string ⟨#[]⟩, .string ⟨#[47, 97]⟩, .string ⟨#[]⟩, .string ⟨#[47, 110]⟩] 26
theorem exR_rts {W : World} {b : Nat} (h : W.heap[b]? = some exO) : Rts W.heap.size W (.slice (some ⟨b, 0, none⟩) 2 2) exR := by
  refine ⟨_, 2, rfl, (fun e => by cases e), Nat.le_refl _, by decide, fun _ => ⟨b, 0, rfl, (Array.getElem?_eq_some_iff.1 h).1, fun j hj => ?_⟩⟩
  have hj2 : j < 2 := hj
  rcases (by omega : j = 0 ∨ j = 1) with rfl | rfl
  · exact ⟨tblk_cell h rfl, tblk_cell h rfl, tblk_cell h rfl⟩
  · exact ⟨tblk_cell h rfl, tblk_cell h rfl, tblk_cell h rfl⟩
theorem ex_m1 {m : Int} (h : Best exR ⟨#[47, 97, 47, 98, 63, 120]⟩ 2 m) : m = 1 := by
  have a : Best exR ⟨#[47, 97, 47, 98, 63, 120]⟩ 1 ((0 : Nat) : Int) := (Best.zero exR _).first (by decide) (by decide +kernel)
  have b : Best exR ⟨#[47, 97, 47, 98, 63, 120]⟩ 2 ((1 : Nat) : Int) := a.more (by decide) (by decide) (by decide +kernel) (by decide)
  exact Best.one h b
theorem ex_m2 {m : Int} (h : Best exR ⟨#[47, 97, 98]⟩ 2 m) : m = 0 := by
  have a : Best exR ⟨#[47, 97, 98]⟩ 1 ((0 : Nat) : Int) := (Best.zero exR _).first (by decide) (by decide +kernel)
  have b : Best exR ⟨#[47, 97, 98]⟩ 2 ((0 : Nat) : Int) := a.skip (by decide) (by decide +kernel)
  exact Best.one h b
theorem ex_m3 {m : Int} (h : Best exR ⟨#[42]⟩ 2 m) : m = -1 := by
  have a : Best exR ⟨#[42]⟩ 1 (-1) := (Best.zero exR _).skip (by decide) (by decide +kernel)
  have b : Best exR ⟨#[42]⟩ 2 (-1) := a.skip (by decide) (by decide +kernel)
  exact Best.one h b
theorem ex_r1 : rewB ⟨#[47, 97]⟩ ⟨#[47, 110]⟩ ⟨#[47, 97, 47, 98, 63, 120]⟩ = (⟨#[47, 110, 47, 98, 63, 120]⟩, true) := by kernel_rfl
theorem ex_r2 : rewB ⟨#[47, 97]⟩ ⟨#[47]⟩ ⟨#[47, 97, 63, 120]⟩ = (⟨#[47, 63, 120]⟩, true) := by kernel_rfl
theorem ex_r3 : rewB ⟨#[47, 97]⟩ ⟨#[47, 110]⟩ ⟨#[47, 97, 98]⟩ = (⟨#[]⟩, false) := by kernel_rfl
theorem ex_f1 : fitT ⟨#[47, 97]⟩ ⟨#[47, 97, 47]⟩ = true := by kernel_rfl
theorem ex_f2 : fitT ⟨#[47, 97]⟩ ⟨#[47, 97, 98]⟩ = false := by kernel_rfl

structure ExI (w W : World) : Prop where
  below : Below w.heap.size w W
  blk : W.heap[w.heap.size]? = some exO
theorem ExI.next {w W W' : World} (h : ExI w W) (b : Below W.heap.size W W') : ExI w W' := ⟨h.below.trans (b.mono h.below.size), tblk_below h.blk b⟩
set_option maxRecDepth 100000 in
set_option maxHeartbeats 2000000 in
theorem alive11_any (w : World) (hM : MaxL w) : Calls Try.prog 7 #[] w fun e w' => e = .returned (.bool true) ∧ Below w.heap.size w w' := by
  have I0 : ExI w (w.alloc exO) := ⟨(Below.refl _ _).alloc (Nat.le_refl _) _, tblk_new _ _⟩
  have HR1 : Hid (∀ W, ExI w W → Calls Try.prog 10 #[.agg #[.string ⟨#[47, 97]⟩, .string ⟨#[]⟩, .string ⟨#[47, 110]⟩], .string ⟨#[47, 97, 47, 98, 63, 120]⟩] W fun e w' => e = .returned (.tuple #[.string ⟨#[47, 110, 47, 98, 63, 120]⟩, .bool true]) ∧ ExI w w') := fun W i => by
    have k := rewrite_any ⟨#[47, 97]⟩ ⟨#[]⟩ ⟨#[47, 110]⟩ ⟨#[47, 97, 47, 98, 63, 120]⟩ W (by decide) (by decide) (by decide) (hM.below i.below)
    rw [ex_r1] at k
    exact k.mono fun e w' z => ⟨z.1, i.next z.2⟩
  have HR2 : Hid (∀ W, ExI w W → Calls Try.prog 10 #[.agg #[.string ⟨#[47, 97]⟩, .string ⟨#[]⟩, .string ⟨#[47]⟩], .string ⟨#[47, 97, 63, 120]⟩] W fun e w' => e = .returned (.tuple #[.string ⟨#[47, 63, 120]⟩, .bool true]) ∧ ExI w w') := fun W i => by
    have k := rewrite_any ⟨#[47, 97]⟩ ⟨#[]⟩ ⟨#[47]⟩ ⟨#[47, 97, 63, 120]⟩ W (by decide) (by decide) (by decide) (hM.below i.below)
    rw [ex_r2] at k
    exact k.mono fun e w' z => ⟨z.1, i.next z.2⟩
  have HR3 : Hid (∀ W, ExI w W → Calls Try.prog 10 #[.agg #[.string ⟨#[47, 97]⟩, .string ⟨#[]⟩, .string ⟨#[47, 110]⟩], .string ⟨#[47, 97, 98]⟩] W fun e w' => e = .returned (.tuple #[.string ⟨#[]⟩, .bool false]) ∧ ExI w w') := fun W i => by
    have k := rewrite_any ⟨#[47, 97]⟩ ⟨#[]⟩ ⟨#[47, 110]⟩ ⟨#[47, 97, 98]⟩ W (by decide) (by decide) (by decide) (hM.below i.below)
    rw [ex_r3] at k
    exact k.mono fun e w' z => ⟨z.1, i.next z.2⟩
  have HM1 : Hid (∀ W, ExI w W → Calls Try.prog 8 #[.slice (some ⟨w.heap.size, 0, none⟩) 2 2, .string ⟨#[47, 97, 47, 98, 63, 120]⟩] W fun e w' => e = .returned (.int .i64 1) ∧ ExI w w') := fun W i => (match_any exR _ 2 _ W (exR_rts i.blk) exR_bd (by decide) (hM.below i.below)).mono fun e w' ⟨m, h1, h2, h3⟩ => ⟨by rw [h1, ex_m1 h2], i.next h3⟩
  have HM2 : Hid (∀ W, ExI w W → Calls Try.prog 8 #[.slice (some ⟨w.heap.size, 0, none⟩) 2 2, .string ⟨#[47, 97, 98]⟩] W fun e w' => e = .returned (.int .i64 0) ∧ ExI w w') := fun W i => (match_any exR _ 2 _ W (exR_rts i.blk) exR_bd (by decide) (hM.below i.below)).mono fun e w' ⟨m, h1, h2, h3⟩ => ⟨by rw [h1, ex_m2 h2], i.next h3⟩
  have HM3 : Hid (∀ W, ExI w W → Calls Try.prog 8 #[.slice (some ⟨w.heap.size, 0, none⟩) 2 2, .string ⟨#[42]⟩] W fun e w' => e = .returned (.int .i64 (-1)) ∧ ExI w w') := fun W i => (match_any exR _ 2 _ W (exR_rts i.blk) exR_bd (by decide) (hM.below i.below)).mono fun e w' ⟨m, h1, h2, h3⟩ => ⟨by rw [h1, ex_m3 h2], i.next h3⟩
  have HF1 : Hid (∀ W, ExI w W → Calls Try.prog 12 #[.string ⟨#[47, 97]⟩, .string ⟨#[47, 97, 47]⟩] W fun e w' => e = .returned (.bool true) ∧ ExI w w') := fun W i => by
    have k := fits_any ⟨#[47, 97]⟩ ⟨#[47, 97, 47]⟩ W (by decide) (by decide) (hM.below i.below)
    rw [ex_f1] at k
    exact k.mono fun e w' z => ⟨z.1, i.next z.2⟩
  have HF2 : Hid (∀ W, ExI w W → Calls Try.prog 12 #[.string ⟨#[47, 97]⟩, .string ⟨#[47, 97, 98]⟩] W fun e w' => e = .returned (.bool false) ∧ ExI w w') := fun W i => by
    have k := fits_any ⟨#[47, 97]⟩ ⟨#[47, 97, 98]⟩ W (by decide) (by decide) (hM.below i.below)
    rw [ex_f2] at k
    exact k.mono fun e w' z => ⟨z.1, i.next z.2⟩
  clear hM
  go_enter Try.func7, Try.ntmps7
  go_wp2_with fail
  refine (HR1.out _ I0).mono ?_
  rintro e w1 ⟨rfl, I1⟩
  go_wp2_with fail
  refine (HR2.out _ I1).mono ?_
  rintro e w2 ⟨rfl, I2⟩
  have d3 : w2.cell? ⟨w.heap.size, 3, none⟩ = some (.string ⟨#[47, 97]⟩) := tblk_cell I2.blk rfl
  have d4 : w2.cell? ⟨w.heap.size, 4, none⟩ = some (.string ⟨#[]⟩) := tblk_cell I2.blk rfl
  have d5 : w2.cell? ⟨w.heap.size, 5, none⟩ = some (.string ⟨#[47, 110]⟩) := tblk_cell I2.blk rfl
  go_wp2_with fail
  refine (HR3.out _ I2).mono ?_
  rintro e w3 ⟨rfl, I3⟩
  go_wp2_with fail
  refine (HM1.out _ I3).mono ?_
  rintro e w4 ⟨rfl, I4⟩
  go_wp2_with fail
  refine (HM2.out _ I4).mono ?_
  rintro e w5 ⟨rfl, I5⟩
  go_wp2_with fail
  refine (HM3.out _ I5).mono ?_
  rintro e w6 ⟨rfl, I6⟩
  go_wp2_with fail
  refine (HF1.out _ I6).mono ?_
  rintro e w7 ⟨rfl, I7⟩
  go_wp2_with fail
  refine (HF2.out _ I7).mono ?_
  rintro e w8 ⟨rfl, I8⟩
  go_wp2
  go_ret
  exact ⟨rfl, I8.below⟩
end Go.Proofs.Ytjfcoihfjjcooaa
