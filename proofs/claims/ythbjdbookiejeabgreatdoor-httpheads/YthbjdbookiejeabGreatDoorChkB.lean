/- A chunk's size, its end. -/
import Derived.Test.YthbjdbookiejeabGreatDoorChkA
namespace Go.Proofs.YthbjdbookiejeabGreatDoor
open Go.RowKit
set_option linter.unusedVariables false

theorem cut59_len (l : List UInt8) : (Lib.cut l [59]).1.length ≤ l.length ∧ (Lib.cut l [59]).2.1.length ≤ l.length := by
  unfold Lib.cut
  split
  · simp only [List.length_take, List.length_drop]; omega
  · simp
theorem dropWhile_le (p : UInt8 → Bool) : ∀ l : List UInt8, (l.dropWhile p).length ≤ l.length
  | [] => Nat.le_refl _
  | b :: l => by
    rw [List.dropWhile_cons]
    split
    · have := dropWhile_le p l; rw [List.length_cons]; omega
    · exact Nat.le_refl _
theorem trimR_len (l cs : List UInt8) : (Lib.trimRightS l cs).length ≤ l.length := by
  unfold Lib.trimRightS
  rw [List.length_reverse]
  refine Nat.le_trans (dropWhile_le _ _) ?_
  rw [List.length_reverse]; exact Nat.le_refl _

set_option maxRecDepth 100000 in
set_option maxHeartbeats 2000000 in
theorem sizeof_any (l : List UInt8) (w : World) (hs : l.length ≤ 256) (hM : MaxL w) :
    Calls Tryz.prog 130 #[.string (tx l)] w fun e w' => e = .returned (.tuple #[.int .i64 ((szO l).getD 0 : Nat), .bool (szO l).isSome]) ∧ Below w.heap.size w w' := by
  obtain ⟨m, hm⟩ := hM
  have hcl := cut59_len l
  have htl := trimR_len (Lib.cut l [59]).1 [32, 9]
  have HC : Hid (Calls Tryz.prog 74 #[.string (tx l), .string ⟨#[59]⟩] w fun e w' => e = .returned (.tuple #[.string (tx (Lib.cut l [59]).1), .string (tx (Lib.cut l [59]).2.1), .bool (Lib.cut l [59]).2.2]) ∧ ∃ n, w' = w.drewN n) := Tryz.strings_Cut (tx l) ⟨#[59]⟩ m w (by rw [tx_size]; omega) hm
  unfold szO
  generalize Lib.cut l [59] = c at *
  obtain ⟨c1, c2, c3⟩ := c
  simp only at hcl htl HC ⊢
  have HV : Hid (∀ W, Calls Tryz.prog 120 #[.string (tx c2)] W fun e w' => e = .returned (.bool (allB valP c2)) ∧ Below W.heap.size W w') := fun W => value_any (tx c2) W (by rw [tx_size]; unfold maxLen; omega)
  have HT : Hid (∀ W, Calls Tryz.prog 72 #[.string (tx c1), .string ⟨#[32, 9]⟩] W fun e w' => e = .returned (.string (tx (Lib.trimRightS c1 [32, 9]))) ∧ Below W.heap.size W w') := fun W => Tryz.strings_TrimRight_laid (tx c1) ⟨#[32, 9]⟩ W (by rw [tx_size]; omega) (by decide) (ascii_of_all (by decide))
  have HX : Hid (∀ W, Calls Tryz.prog 158 #[.string (tx (Lib.trimRightS c1 [32, 9]))] W fun e w' => e = .returned (.tuple #[.int .i64 (numI 16 15 (tx (Lib.trimRightS c1 [32, 9]))), .bool (numB 16 15 (tx (Lib.trimRightS c1 [32, 9])))]) ∧ w' = W) := fun W => hex_any _ W (by rw [tx_size]; unfold maxLen; omega)
  unfold numI numB at HX
  generalize numV 16 15 (tx (Lib.trimRightS c1 [32, 9])) = nv at *
  generalize tx (Lib.trimRightS c1 [32, 9]) = t at *
  generalize tx c1 = s1 at *
  generalize tx c2 = s2 at *
  generalize tx l = s at *
  cases hv : allB valP c2
  · rw [hv] at HV
    rw [if_neg (by decide)]
    clear hv hcl htl hm
    go_enter Tryz.func130, Tryz.ntmps130
    go_wp2_with fail
    refine HC.out.mono ?_
    rintro e w1 ⟨rfl, n, rfl⟩
    have B1 := below_drewN w.heap.size w n
    go_wp2_with fail
    refine (HV.out _).mono ?_
    rintro e w2 ⟨rfl, B2⟩
    have C2 := B1.trans (B2.mono B1.size)
    go_wp2
    go_ret2
    exact ⟨rfl, C2⟩
  · rw [hv] at HV
    rw [if_pos rfl]
    clear hv hcl htl hm
    go_enter Tryz.func130, Tryz.ntmps130
    go_wp2_with fail
    refine HC.out.mono ?_
    rintro e w1 ⟨rfl, n, rfl⟩
    have B1 := below_drewN w.heap.size w n
    go_wp2_with fail
    refine (HV.out _).mono ?_
    rintro e w2 ⟨rfl, B2⟩
    have C2 := B1.trans (B2.mono B1.size)
    go_wp2_with fail
    refine (HT.out _).mono ?_
    rintro e w3 ⟨rfl, B3⟩
    have C3 := C2.trans (B3.mono C2.size)
    go_wp2_with fail
    refine (HX.out _).mono ?_
    rintro e w4 ⟨rfl, rfl⟩
    go_wp2
    go_ret2
    exact ⟨rfl, C3⟩

set_option maxRecDepth 100000 in
set_option maxHeartbeats 2000000 in
theorem ends_any (l : List UInt8) (k : Nat) (v : Value) (w : World) (hs : Src w k v l) :
    Calls Tryz.prog 131 #[v] w fun e w' => e = .returned (.tuple #[.bool (endsP l).1, .int .i64 (endsP l).2]) ∧ ∃ n, w' = w.drewN n := by
  obtain ⟨a, c, rfl, h1, h2, h3⟩ := hs
  match l, h3 with
  | [], _ =>
    show Calls Tryz.prog 131 #[.slice a 0 c] w fun e w' => e = .returned (.tuple #[.bool false, .int .i64 0]) ∧ ∃ n, w' = w.drewN n
    go_enter Tryz.func131, Tryz.ntmps131
    go_wp2_with fail
    refine wp_loop_rounds 1 ?_
    rw [rounds_succ]
    go_wp2
    go_ret2
    exact ⟨rfl, 0, (World.drewN_zero _).symm⟩
  | [x], h3 =>
    obtain ⟨off, rfl, hc⟩ := h3 (by simp)
    have q0 : w.cell? ⟨k, off, none⟩ = some (.int .u8 (x.toNat : Int)) := hc 0 (by simp)
    clear hc h3
    by_cases t : x = 13
    · subst t
      have q1 : w.cell? ⟨k, off, none⟩ = some (.int .u8 13) := q0
      clear q0
      show Calls Tryz.prog 131 #[.slice (some ⟨k, off, none⟩) 1 c] w fun e w' => e = .returned (.tuple #[.bool false, .int .i64 0]) ∧ ∃ n, w' = w.drewN n
      go_enter Tryz.func131, Tryz.ntmps131
      go_wp2_with fail
      refine wp_loop_rounds 2 ?_
      rw [rounds_succ]
      go_wp2
      go_quiet (fail)
      go_wp2
      rw [rounds_succ]
      go_wp2
      go_ret2
      exact ⟨rfl, _, rfl⟩
    · have e : endsP [x] = (false, 20) := by simp [endsP, t]
      rw [e]
      have t5 : ((x.toNat : Int) != 13) = true := by simpa using toNat_ne 13 13 rfl t
      have t6 : ((x.toNat : Int) != ((⟨#[13, 10]⟩ : ByteArray)[0].toNat : Int)) = true := t5
      clear e
      show Calls Tryz.prog 131 #[.slice (some ⟨k, off, none⟩) 1 c] w fun e w' => e = .returned (.tuple #[.bool false, .int .i64 20]) ∧ ∃ n, w' = w.drewN n
      generalize (x.toNat : Int) = X at *
      go_enter Tryz.func131, Tryz.ntmps131
      go_wp2_with fail
      refine wp_loop_rounds 1 ?_
      rw [rounds_succ]
      go_wp2
      go_quiet (fail)
      go_wp2
      go_ret2
      exact ⟨rfl, _, rfl⟩
  | x :: y :: r, h3 =>
    obtain ⟨off, rfl, hc⟩ := h3 (by simp)
    have q0 : w.cell? ⟨k, off, none⟩ = some (.int .u8 (x.toNat : Int)) := hc 0 (by simp)
    have q1 : w.cell? ⟨k, off + 1, none⟩ = some (.int .u8 (y.toNat : Int)) := hc 1 (by simp)
    clear hc h3
    obtain ⟨n, hn⟩ : ∃ n, n = (x :: y :: r).length := ⟨_, rfl⟩
    have hn2 : 2 ≤ n := by rw [hn]; simp
    rw [← hn] at h1 ⊢
    clear hn
    unfold maxLen at h2
    have hmin : min (n : Int) 2 = 2 := by omega
    by_cases t : x = 13
    · subst t
      have q2 : w.cell? ⟨k, off, none⟩ = some (.int .u8 13) := q0
      clear q0
      by_cases u : y = 10
      · subst u
        have q3 : w.cell? ⟨k, off + 1, none⟩ = some (.int .u8 10) := q1
        clear q1
        show Calls Tryz.prog 131 #[.slice (some ⟨k, off, none⟩) n c] w fun e w' => e = .returned (.tuple #[.bool true, .int .i64 0]) ∧ ∃ n, w' = w.drewN n
        go_enter Tryz.func131, Tryz.ntmps131
        go_wp2_with fail
        refine wp_loop_rounds 3 ?_
        rw [rounds_succ]
        go_wp2
        go_quiet (fail)
        go_wp2
        rw [rounds_succ]
        go_wp2
        go_quiet (fail)
        go_wp2
        rw [rounds_succ]
        go_wp2
        go_ret2
        exact ⟨by simp; omega, _, rfl⟩
      · have e : endsP (13 :: y :: r) = (false, 20) := by simp [endsP, u]
        rw [e]
        have t5 : ((y.toNat : Int) != 10) = true := by simpa using toNat_ne 10 10 rfl u
        have t6 : ((y.toNat : Int) != ((⟨#[13, 10]⟩ : ByteArray)[1].toNat : Int)) = true := t5
        clear e
        show Calls Tryz.prog 131 #[.slice (some ⟨k, off, none⟩) n c] w fun e w' => e = .returned (.tuple #[.bool false, .int .i64 20]) ∧ ∃ n, w' = w.drewN n
        generalize (y.toNat : Int) = Y at *
        go_enter Tryz.func131, Tryz.ntmps131
        go_wp2_with fail
        refine wp_loop_rounds 2 ?_
        rw [rounds_succ]
        go_wp2
        go_quiet (fail)
        go_wp2
        rw [rounds_succ]
        go_wp2
        go_quiet (fail)
        go_wp2
        go_ret2
        exact ⟨rfl, _, World.drewN_drewN _ _ _⟩
    · have e : endsP (x :: y :: r) = (false, 20) := by simp [endsP, t]
      rw [e]
      have t5 : ((x.toNat : Int) != 13) = true := by simpa using toNat_ne 13 13 rfl t
      have t6 : ((x.toNat : Int) != ((⟨#[13, 10]⟩ : ByteArray)[0].toNat : Int)) = true := t5
      clear e
      show Calls Tryz.prog 131 #[.slice (some ⟨k, off, none⟩) n c] w fun e w' => e = .returned (.tuple #[.bool false, .int .i64 20]) ∧ ∃ n, w' = w.drewN n
      generalize (x.toNat : Int) = X at *
      go_enter Tryz.func131, Tryz.ntmps131
      go_wp2_with fail
      refine wp_loop_rounds 1 ?_
      rw [rounds_succ]
      go_wp2
      go_quiet (fail)
      go_wp2
      go_ret2
      exact ⟨rfl, _, rfl⟩
end Go.Proofs.YthbjdbookiejeabGreatDoor
