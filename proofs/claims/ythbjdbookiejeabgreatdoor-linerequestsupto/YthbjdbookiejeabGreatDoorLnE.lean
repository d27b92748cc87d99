/- Request, whole. -/
import Derived.Test.YthbjdbookiejeabGreatDoorLnD
import Derived.Deep.QuietTactic
namespace Go.Proofs.YthbjdbookiejeabGreatDoor
open Go.RowKit
set_option linter.unusedVariables false

set_option maxRecDepth 100000 in
set_option maxHeartbeats 4000000 in
theorem req_other (s : ByteArray) (w : World) (hs : s.size < 4294967281) (hM : MaxL w) (hp : ¬ (part4 s).length = 3) :
    Calls Tryz.prog 24 #[.string s] w fun e w' => e = .returned (.tuple #[rqV (rqNo 400), .int .i64 (rqNo 400).code]) ∧ Below w.heap.size w w' := by
  have C0 : Below w.heap.size w (w.alloc (.cells #[.string ⟨#[]⟩, .string ⟨#[]⟩, .int .i64 0, .slice none 0 0, .slice none 0 0] 26)) := (Below.refl _ _).alloc (Nat.le_refl _) _
  have hg0 := tblk_new w (.cells #[.string ⟨#[]⟩, .string ⟨#[]⟩, .int .i64 0, .slice none 0 0, .slice none 0 0] 26)
  have H1 : Hid (Calls Tryz.prog 52 #[.string s, .string ⟨#[32]⟩, .int .i64 4] (w.alloc (.cells #[.string ⟨#[]⟩, .string ⟨#[]⟩, .int .i64 0, .slice none 0 0, .slice none 0 0] 26)) fun e w' => ∃ b c, e = .returned (.slice (some ⟨b, 0, none⟩) (part4 s).length c) ∧ Below w.heap.size w w' ∧ w'.heap[w.heap.size]? = some (.cells #[.string ⟨#[]⟩, .string ⟨#[]⟩, .int .i64 0, .slice none 0 0, .slice none 0 0] 26)) := by
    refine (part4_any s _ hs (hM.below C0)).mono ?_
    rintro e w' ⟨b, c, he, B, hb, hc⟩
    exact ⟨b, c, he, C0.trans (B.mono C0.size), tblk_below hg0 B⟩
  have hn : ¬ (((part4 s).length : Nat) : Int) = 3 := by omega
  clear hp hs hM hg0 C0
  generalize (part4 s).length = n at *
  go_enter Tryz.func24, Tryz.ntmps24
  go_wp2_with fail
  refine H1.out.mono ?_
  rintro e w1 ⟨b, c, rfl, C1, hg1⟩
  clear H1
  go_wp2_with fail
  go_quiet (fail)
  have C2 := C1.trans (lbelow_drewN w.heap.size w1 nq)
  have hg2 : (w1.drewN nq).heap[w.heap.size]? = some (.cells #[.string ⟨#[]⟩, .string ⟨#[]⟩, .int .i64 0, .slice none 0 0, .slice none 0 0] 26) := hg1
  generalize w1.drewN nq = w2 at *
  have HW := five_cells hg2 (.string ⟨#[]⟩) (.string ⟨#[]⟩) (.int .i64 0) (.slice none 0 0) (.slice none 0 0)
  have HB := five_below (.string ⟨#[]⟩) (.string ⟨#[]⟩) (.int .i64 0) (.slice none 0 0) (.slice none 0 0) C2 (Nat.le_refl _)
  have a0 := tblk_cell (i := 0) hg2 rfl
  have z0 := lblk_z (i := 0) hg2
  have a1 := tblk_cell (i := 1) hg2 rfl
  have z1 := lblk_z (i := 1) hg2
  have a2 := tblk_cell (i := 2) hg2 rfl
  have z2 := lblk_z (i := 2) hg2
  have a3 := tblk_cell (i := 3) hg2 rfl
  have z3 := lblk_z (i := 3) hg2
  have a4 := tblk_cell (i := 4) hg2 rfl
  have z4 := lblk_z (i := 4) hg2
  have r0 := tblk_cell (i := 0) HW rfl
  have r1 := tblk_cell (i := 1) HW rfl
  have r2 := tblk_cell (i := 2) HW rfl
  have r3 := tblk_cell (i := 3) HW rfl
  have r4 := tblk_cell (i := 4) HW rfl
  unfold five at r0 r1 r2 r3 r4 HB
  have HB' : Hid _ := HB
  clear HB HW
  go_wp2
  refine bodyPost_ret (v := .tuple #[.agg #[.string ⟨#[]⟩, .string ⟨#[]⟩, .int .i64 0, .slice none 0 0, .slice none 0 0], .int .i64 400]) (by simp [results, Tryz.results24, go_sem, r0, r1, r2, r3, r4]) rfl ⟨rfl, HB'.out⟩

theorem lreq_any (s : ByteArray) (w : World) (hs : s.size < 4294967281) (hM : MaxL w) :
    Calls Tryz.prog 24 #[.string s] w fun e w' => e = .returned (.tuple #[rqV (rqP s), .int .i64 (rqP s).code]) ∧ Below w.heap.size w w' := by
  unfold rqP
  split
  · rename_i p0 p1 p2 h
    exact req_three p0 p1 p2 s w hs hM h
  · rename_i h
    refine req_other s w hs hM ?_
    intro h3
    match hl : part4 s, h3 with
    | [a, b, c], _ => exact h a b c hl
end Go.Proofs.YthbjdbookiejeabGreatDoor
