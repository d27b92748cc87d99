/- The reference's SameReq: equal requests are the same. -/
import Derived.Test.YthbjdbookiejeabGreatDoorHtA
import Derived.Test.YthbjdbookiejeabGreatDoorFrB
import Derived.Test.YthbjdbookiejeabGreatDoorFsS
import Derived.Test.YthbjdbookiejeabGreatDoorSamB
namespace Go.Proofs.YthbjdbookiejeabGreatDoor
open Go.RowKit
set_option linter.unusedVariables false

set_option maxRecDepth 100000 in
set_option maxHeartbeats 2000000 in
theorem samereq_eq (m t : ByteArray) (mi : Int) (fs : Fs) (body : List UInt8) (a1 a2 b1 b2 : Option Addr) (c1 c2 d1 d2 k1 k2 : Nat) (w : World) (hf1 : Fds w.heap.size w (.slice a1 fs.length c1) fs) (hf2 : Fds w.heap.size w (.slice a2 fs.length c2) fs) (hs1 : Src w k1 (.slice b1 body.length d1) body) (hk1 : 0 < body.length → k1 < w.heap.size) (hs2 : Src w k2 (.slice b2 body.length d2) body) (hk2 : 0 < body.length → k2 < w.heap.size) :
    Calls Tryz.prog 12 #[.agg #[.string m, .string t, .int .i64 mi, .slice a1 fs.length c1, .slice b1 body.length d1], .agg #[.string m, .string t, .int .i64 mi, .slice a2 fs.length c2, .slice b2 body.length d2]] w fun e w' => e = .returned (.bool true) ∧ Below w.heap.size w w' := by
  have C1 : Below w.heap.size w (w.alloc (.cells #[.string m, .string t, .int .i64 mi, .slice a1 fs.length c1, .slice b1 body.length d1] 26)) := (Below.refl _ _).alloc (Nat.le_refl _) _
  have C2 : Below w.heap.size w ((w.alloc (.cells #[.string m, .string t, .int .i64 mi, .slice a1 fs.length c1, .slice b1 body.length d1] 26)).alloc (.cells #[.string m, .string t, .int .i64 mi, .slice a2 fs.length c2, .slice b2 body.length d2] 26)) := C1.alloc C1.size _
  have h1 : ((w.alloc (.cells #[.string m, .string t, .int .i64 mi, .slice a1 fs.length c1, .slice b1 body.length d1] 26)).alloc (.cells #[.string m, .string t, .int .i64 mi, .slice a2 fs.length c2, .slice b2 body.length d2] 26)).heap[w.heap.size]? = some (.cells #[.string m, .string t, .int .i64 mi, .slice a1 fs.length c1, .slice b1 body.length d1] 26) := tblk_below (tblk_new _ _) ((Below.refl _ _).alloc (Nat.le_refl _) _)
  have h2 : ((w.alloc (.cells #[.string m, .string t, .int .i64 mi, .slice a1 fs.length c1, .slice b1 body.length d1] 26)).alloc (.cells #[.string m, .string t, .int .i64 mi, .slice a2 fs.length c2, .slice b2 body.length d2] 26)).heap[w.heap.size + 1]? = some (.cells #[.string m, .string t, .int .i64 mi, .slice a2 fs.length c2, .slice b2 body.length d2] 26) := by
    have k := tblk_new (w.alloc (.cells #[.string m, .string t, .int .i64 mi, .slice a1 fs.length c1, .slice b1 body.length d1] 26)) (.cells #[.string m, .string t, .int .i64 mi, .slice a2 fs.length c2, .slice b2 body.length d2] 26)
    have e : (w.alloc (.cells #[.string m, .string t, .int .i64 mi, .slice a1 fs.length c1, .slice b1 body.length d1] 26)).heap.size = w.heap.size + 1 := by simp
    rw [e] at k
    exact k
  have HF : Hid (Calls Tryz.prog 34 #[.slice a1 fs.length c1, .slice a2 fs.length c2] ((w.alloc (.cells #[.string m, .string t, .int .i64 mi, .slice a1 fs.length c1, .slice b1 body.length d1] 26)).alloc (.cells #[.string m, .string t, .int .i64 mi, .slice a2 fs.length c2, .slice b2 body.length d2] 26)) fun e w' => e = .returned (.bool true) ∧ Below w.heap.size w w' ∧ w'.cell? ⟨w.heap.size, 4, none⟩ = some (.slice b1 body.length d1) ∧ w'.cell? ⟨w.heap.size + 1, 4, none⟩ = some (.slice b2 body.length d2)) := by
    refine (rsame_eq fs a1 a2 c1 c2 _ (hf1.over C2) (hf2.over C2)).mono ?_
    rintro e w' ⟨he, hB⟩
    exact ⟨he, C2.trans (hB.mono C2.size), tblk_cell (tblk_below h1 hB) rfl, tblk_cell (tblk_below h2 hB) rfl⟩
  have HS : Hid (∀ W, Below w.heap.size w W → Calls Tryz.prog 16 #[.slice b1 body.length d1, .slice b2 body.length d2] W fun e w' => e = .returned (.bool true) ∧ Below W.heap.size W w') := fun W B => sameBytes_eq body k1 k2 _ _ W (hs1.keep hk1 B) (hs2.keep hk2 B)
  have x0 := tblk_cell (i := 0) h1 rfl
  have x1 := tblk_cell (i := 1) h1 rfl
  have x2 := tblk_cell (i := 2) h1 rfl
  have x3 := tblk_cell (i := 3) h1 rfl
  have y0 := tblk_cell (i := 0) h2 rfl
  have y1 := tblk_cell (i := 1) h2 rfl
  have y2 := tblk_cell (i := 2) h2 rfl
  have y3 := tblk_cell (i := 3) h2 rfl
  clear hf1 hf2 hs1 hk1 hs2 hk2 C1 C2 h1 h2
  generalize fs.length = fl at *
  generalize body.length = bl at *
  go_enter Tryz.func12, Tryz.ntmps12
  go_wp2_with fail
  refine HF.out.mono ?_
  rintro e w1 ⟨rfl, B1, q1, q2⟩
  clear HF x0 x1 x2 x3 y0 y1 y2 y3
  go_wp2_with fail
  refine (HS.out _ B1).mono ?_
  rintro e w2 ⟨rfl, B2⟩
  have D2 := B1.trans (B2.mono B1.size)
  go_wp2
  go_ret
  exact ⟨rfl, D2⟩
end Go.Proofs.YthbjdbookiejeabGreatDoor
