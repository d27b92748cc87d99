/- Package http: Waits. -/
import Derived.Test.YthbjdbookiejeabGreatDoorHtI
namespace Go.Proofs.YthbjdbookiejeabGreatDoor
open Go.RowKit
set_option linter.unusedVariables false

def tExp : ByteArray := ⟨#[69, 120, 112, 101, 99, 116]⟩
def t100 : ByteArray := ⟨#[49, 48, 48, 45, 99, 111, 110, 116, 105, 110, 117, 101]⟩
def waitsQ (b : List UInt8) : Bool := if (headQ b).n = 0 then false else if ¬ (headQ b).minor = 1 then false else if hasF (headQ b).fs tExp t100 = false then false else (decide ((reqQ b).n = 0) && decide ((reqQ b).st = 0))

set_option maxRecDepth 100000 in
set_option maxHeartbeats 4000000 in
theorem waits_any (b : List UInt8) (kb c : Nat) (a : Option Addr) (w : World) (hs : Src w kb (.slice a b.length c) b) (hk : 0 < b.length → kb < w.heap.size) (hM : MaxL w) (hlen : b.length ≤ 1048576) :
    Calls Tryz.prog 27 #[.slice a b.length c] w fun e w' => e = .returned (.bool (waitsQ b)) ∧ Below w.heap.size w w' := by
  have HOK : Hid (HdOk b.length (headQ b)) := headQ_ok b
  have HH : Hid (Calls Tryz.prog 10 #[.slice a b.length c] w (HeadR w (headQ b))) := head_any b kb c a w hs hk hM
  have HR : Hid (∀ W, Below w.heap.size w W → Calls Tryz.prog 11 #[.slice a b.length c] W (ReqR W (reqQ b))) := fun W B => hreq_any b kb c a W (hs.keep hk B) (fun q => Nat.lt_of_lt_of_le (hk q) B.size) (hM.below B) hlen
  have HF : Hid (∀ (W : World) (fa : Option Addr) (fc : Nat), Below w.heap.size w W → Fds W.heap.size W (.slice fa (headQ b).fs.length fc) (headQ b).fs → Calls Tryz.prog 63 #[.slice fa (headQ b).fs.length fc, .string ⟨#[69, 120, 112, 101, 99, 116]⟩, .string ⟨#[49, 48, 48, 45, 99, 111, 110, 116, 105, 110, 117, 101]⟩] W fun e w' => e = .returned (.bool (hasF (headQ b).fs tExp t100)) ∧ Below W.heap.size W w') := fun W fa fc B F => has_any _ fa fc tExp t100 W F (bd_big HOK.out.bd) (by decide) (by decide) (by have := HOK.out.len; omega) (hM.below B)
  clear hs hk hM hlen HOK
  unfold waitsQ
  generalize reqQ b = Q at *
  generalize headQ b = H at *
  obtain ⟨m, t, mi, fs, n, st⟩ := H
  obtain ⟨qm, qt, qmi, qfs, qb, qn, qst⟩ := Q
  generalize hasF fs tExp t100 = he at *
  unfold HeadR hdV at HH
  unfold ReqR rdV at HR
  simp only at HH HR HF ⊢
  generalize b.length = bl at *
  by_cases h0 : n = 0
  · subst h0
    rw [if_pos rfl]
    clear HR HF
    go_enter Tryz.func27, Tryz.ntmps27
    go_wp2_with fail
    refine HH.out.mono ?_
    rintro e w1 ⟨fa, fc, rfl, O1, B1⟩
    have B2 := B1.alloc B1.size (.cells #[.string m, .string t, .int .i64 mi, .slice fa fs.length fc, .slice none 0 0] 26)
    clear O1 B1 HH
    go_wp2
    go_ret
    exact ⟨rfl, B2⟩
  · rw [if_neg h0]
    have h0' : ¬ ((n : Nat) : Int) = 0 := by omega
    have h0'' : (((n : Nat) : Int) == 0) = false := by simpa using h0'
    clear h0
    by_cases h1 : mi = 1
    · subst h1
      rw [if_neg (fun k => k rfl)]
      cases he
      · rw [if_pos rfl]
        clear HR
        go_enter Tryz.func27, Tryz.ntmps27
        go_wp2_with fail
        refine HH.out.mono ?_
        rintro e w1 ⟨fa, fc, rfl, O1, B1⟩
        have B2 := B1.alloc B1.size (.cells #[.string m, .string t, .int .i64 1, .slice fa fs.length fc, .slice none 0 0] 26)
        have U2 : Below w1.heap.size w1 (w1.alloc (.cells #[.string m, .string t, .int .i64 1, .slice fa fs.length fc, .slice none 0 0] 26)) := (Below.refl _ _).alloc (Nat.le_refl _) _
        have hr2 := tblk_new w1 (.cells #[.string m, .string t, .int .i64 1, .slice fa fs.length fc, .slice none 0 0] 26)
        have HFF : Hid (Fds (w1.alloc (.cells #[.string m, .string t, .int .i64 1, .slice fa fs.length fc, .slice none 0 0] 26)).heap.size (w1.alloc (.cells #[.string m, .string t, .int .i64 1, .slice fa fs.length fc, .slice none 0 0] 26)) (.slice fa fs.length fc) fs) := (O1.keep U2).fds
        have d2 := tblk_cell (i := 2) hr2 rfl
        have d3 := tblk_cell (i := 3) hr2 rfl
        clear O1 B1 HH U2 hr2
        go_wp2_with fail
        refine (HF.out _ fa fc B2 HFF.out).mono ?_
        rintro e w3 ⟨rfl, B3⟩
        have D3 := B2.trans (B3.mono B2.size)
        clear d2 d3 B2 B3 HFF HF
        go_wp2
        go_ret
        exact ⟨rfl, D3⟩
      · rw [if_neg (by decide)]
        by_cases hq : qn = 0
        · subst hq
          by_cases hs : qst = 0
          · subst hs
            simp only [decide_true, Bool.and_true]
            go_enter Tryz.func27, Tryz.ntmps27
            go_wp2_with fail
            refine HH.out.mono ?_
            rintro e w1 ⟨fa, fc, rfl, O1, B1⟩
            have B2 := B1.alloc B1.size (.cells #[.string m, .string t, .int .i64 1, .slice fa fs.length fc, .slice none 0 0] 26)
            have U2 : Below w1.heap.size w1 (w1.alloc (.cells #[.string m, .string t, .int .i64 1, .slice fa fs.length fc, .slice none 0 0] 26)) := (Below.refl _ _).alloc (Nat.le_refl _) _
            have hr2 := tblk_new w1 (.cells #[.string m, .string t, .int .i64 1, .slice fa fs.length fc, .slice none 0 0] 26)
            have HFF : Hid (Fds (w1.alloc (.cells #[.string m, .string t, .int .i64 1, .slice fa fs.length fc, .slice none 0 0] 26)).heap.size (w1.alloc (.cells #[.string m, .string t, .int .i64 1, .slice fa fs.length fc, .slice none 0 0] 26)) (.slice fa fs.length fc) fs) := (O1.keep U2).fds
            have d2 := tblk_cell (i := 2) hr2 rfl
            have d3 := tblk_cell (i := 3) hr2 rfl
            clear O1 B1 HH U2 hr2
            go_wp2_with fail
            refine (HF.out _ fa fc B2 HFF.out).mono ?_
            rintro e w3 ⟨rfl, B3⟩
            have D3 := B2.trans (B3.mono B2.size)
            clear d2 d3 B2 B3 HFF HF
            go_wp2_with fail
            refine (HR.out _ D3).mono ?_
            rintro e w4 ⟨ga, gb, gc, gd, rfl, _, _, B4⟩
            have D4 := D3.trans (B4.mono D3.size)
            have D5 := D4.alloc D4.size (.cells #[.string qm, .string qt, .int .i64 qmi, .slice ga qfs.length gc, .slice gb qb.length gd] 26)
            clear D3 B4 D4 HR
            generalize qfs.length = q1 at *
            generalize qb.length = q2 at *
            go_wp2
            go_ret
            exact ⟨rfl, D5⟩
          · rw [decide_eq_false hs, Bool.and_false]
            have hs' : (qst == 0) = false := by simpa using hs
            go_enter Tryz.func27, Tryz.ntmps27
            go_wp2_with fail
            refine HH.out.mono ?_
            rintro e w1 ⟨fa, fc, rfl, O1, B1⟩
            have B2 := B1.alloc B1.size (.cells #[.string m, .string t, .int .i64 1, .slice fa fs.length fc, .slice none 0 0] 26)
            have U2 : Below w1.heap.size w1 (w1.alloc (.cells #[.string m, .string t, .int .i64 1, .slice fa fs.length fc, .slice none 0 0] 26)) := (Below.refl _ _).alloc (Nat.le_refl _) _
            have hr2 := tblk_new w1 (.cells #[.string m, .string t, .int .i64 1, .slice fa fs.length fc, .slice none 0 0] 26)
            have HFF : Hid (Fds (w1.alloc (.cells #[.string m, .string t, .int .i64 1, .slice fa fs.length fc, .slice none 0 0] 26)).heap.size (w1.alloc (.cells #[.string m, .string t, .int .i64 1, .slice fa fs.length fc, .slice none 0 0] 26)) (.slice fa fs.length fc) fs) := (O1.keep U2).fds
            have d2 := tblk_cell (i := 2) hr2 rfl
            have d3 := tblk_cell (i := 3) hr2 rfl
            clear O1 B1 HH U2 hr2
            go_wp2_with fail
            refine (HF.out _ fa fc B2 HFF.out).mono ?_
            rintro e w3 ⟨rfl, B3⟩
            have D3 := B2.trans (B3.mono B2.size)
            clear d2 d3 B2 B3 HFF HF
            go_wp2_with fail
            refine (HR.out _ D3).mono ?_
            rintro e w4 ⟨ga, gb, gc, gd, rfl, _, _, B4⟩
            have D4 := D3.trans (B4.mono D3.size)
            have D5 := D4.alloc D4.size (.cells #[.string qm, .string qt, .int .i64 qmi, .slice ga qfs.length gc, .slice gb qb.length gd] 26)
            clear D3 B4 D4 HR
            generalize qfs.length = q1 at *
            generalize qb.length = q2 at *
            go_wp2
            go_ret
            exact ⟨rfl, D5⟩
        · rw [decide_eq_false hq, Bool.false_and]
          have hq' : ¬ ((qn : Nat) : Int) = 0 := by omega
          have hq'' : (((qn : Nat) : Int) == 0) = false := by simpa using hq'
          go_enter Tryz.func27, Tryz.ntmps27
          go_wp2_with fail
          refine HH.out.mono ?_
          rintro e w1 ⟨fa, fc, rfl, O1, B1⟩
          have B2 := B1.alloc B1.size (.cells #[.string m, .string t, .int .i64 1, .slice fa fs.length fc, .slice none 0 0] 26)
          have U2 : Below w1.heap.size w1 (w1.alloc (.cells #[.string m, .string t, .int .i64 1, .slice fa fs.length fc, .slice none 0 0] 26)) := (Below.refl _ _).alloc (Nat.le_refl _) _
          have hr2 := tblk_new w1 (.cells #[.string m, .string t, .int .i64 1, .slice fa fs.length fc, .slice none 0 0] 26)
          have HFF : Hid (Fds (w1.alloc (.cells #[.string m, .string t, .int .i64 1, .slice fa fs.length fc, .slice none 0 0] 26)).heap.size (w1.alloc (.cells #[.string m, .string t, .int .i64 1, .slice fa fs.length fc, .slice none 0 0] 26)) (.slice fa fs.length fc) fs) := (O1.keep U2).fds
          have d2 := tblk_cell (i := 2) hr2 rfl
          have d3 := tblk_cell (i := 3) hr2 rfl
          clear O1 B1 HH U2 hr2
          go_wp2_with fail
          refine (HF.out _ fa fc B2 HFF.out).mono ?_
          rintro e w3 ⟨rfl, B3⟩
          have D3 := B2.trans (B3.mono B2.size)
          clear d2 d3 B2 B3 HFF HF
          go_wp2_with fail
          refine (HR.out _ D3).mono ?_
          rintro e w4 ⟨ga, gb, gc, gd, rfl, _, _, B4⟩
          have D4 := D3.trans (B4.mono D3.size)
          have D5 := D4.alloc D4.size (.cells #[.string qm, .string qt, .int .i64 qmi, .slice ga qfs.length gc, .slice gb qb.length gd] 26)
          clear D3 B4 D4 HR
          generalize qfs.length = q1 at *
          generalize qb.length = q2 at *
          go_wp2
          go_ret
          exact ⟨rfl, D5⟩
    · rw [if_pos h1]
      have h1' : (mi != 1) = true := by simpa using h1
      clear HR HF
      go_enter Tryz.func27, Tryz.ntmps27
      go_wp2_with fail
      refine HH.out.mono ?_
      rintro e w1 ⟨fa, fc, rfl, O1, B1⟩
      have B2 := B1.alloc B1.size (.cells #[.string m, .string t, .int .i64 mi, .slice fa fs.length fc, .slice none 0 0] 26)
      have hr2 := tblk_new w1 (.cells #[.string m, .string t, .int .i64 mi, .slice fa fs.length fc, .slice none 0 0] 26)
      have d2 := tblk_cell (i := 2) hr2 rfl
      clear O1 B1 HH hr2
      go_wp2
      go_ret
      exact ⟨rfl, B2⟩
end Go.Proofs.YthbjdbookiejeabGreatDoor
