/- Join: two lists, one behind the other. -/
import Derived.Test.YtenajbefknlalaaRow
namespace Go.Proofs.Ytenajbefknlalaa
open Go.RowKit
set_option linter.unusedVariables false

set_option maxRecDepth 100000 in
set_option maxHeartbeats 4000000 in
theorem join_any (X Y : List UInt8) (k1 k2 : Nat) (v1 v2 : Value) (w : World) (h1 : Src w k1 v1 X) (hk1 : 0 < X.length → k1 < w.heap.size) (h2 : Src w k2 v2 Y) (hk2 : 0 < Y.length → k2 < w.heap.size) (hmax : X.length + Y.length ≤ 140737488355328) :
    Calls Try.prog 21 #[v1, v2] w fun e w' => ∃ v', e = .returned v' ∧ Own w.heap.size w' v' (X ++ Y) ∧ Below w.heap.size w w' := by
  have HX : Hid (Src w k1 v1 X) := h1
  have HY : Hid (Src w k2 v2 Y) := h2
  obtain ⟨a1, c1, rfl, p1, q1, f1⟩ := h1
  obtain ⟨a2, c2, rfl, p2, q2, f2⟩ := h2
  have F1 : Hid (0 < X.length → ∃ off, a1 = some ⟨k1, off, none⟩ ∧ ∀ (j : Nat) (hj : j < X.length), w.cell? ⟨k1, off + j, none⟩ = some (bv X[j])) := f1
  have F2 : Hid (0 < Y.length → ∃ off, a2 = some ⟨k2, off, none⟩ ∧ ∀ (j : Nat) (hj : j < Y.length), w.cell? ⟨k2, off + j, none⟩ = some (bv Y[j])) := f2
  obtain ⟨n, hn⟩ : ∃ n, n = X.length := ⟨_, rfl⟩
  obtain ⟨m, hm⟩ : ∃ m, m = Y.length := ⟨_, rfl⟩
  rw [← hn, ← hm]
  rw [← hn] at hmax hk1
  rw [← hm] at hmax hk2
  have HN : Hid (n = X.length) := hn
  have HM : Hid (m = Y.length) := hm
  have HK1 : Hid (0 < n → k1 < w.heap.size) := hk1
  have HK2 : Hid (0 < m → k2 < w.heap.size) := hk2
  clear f1 f2 hn hm p1 q1 p2 q2 hk1 hk2 HX HY
  have O0 := Own.empty w.heap.size w (Nat.le_refl _)
  have B0 : Below w.heap.size w (w.alloc (.cells #[] 5)) := (Below.refl _ _).alloc (Nat.le_refl _) _
  go_enter Try.func21, Try.ntmps21
  go_wp2_with fail
  go_loopw [5, 6] (fun v5 vi wr => ∃ k : Nat, k ≤ n ∧ vi = .int .i64 k ∧ Hid (Own w.heap.size wr v5 (X.take k)) ∧ Below w.heap.size w wr) (fun _ vi _ => n - (intOf vi).toNat)
  case atStart => exact ⟨0, Nat.zero_le _, rfl, (by rw [List.take_zero]; exact O0), B0⟩
  case round =>
    obtain ⟨k, hk, rfl, hO, hB⟩ := hrel
    clear O0 B0
    by_cases hlt : k < n
    · have hlX : k < X.length := by have := HN.out; omega
      obtain ⟨off, rfl, hc⟩ := F1.out (by omega)
      have hcell : wr.cell? ⟨k1, off + k, none⟩ = some (.int .u8 (X[k].toNat : Int)) := (hB.cell (p := ⟨k1, off + k, none⟩) (HK1.out (by omega))).trans (hc k hlX)
      have BA : Below wr.heap.size wr (wr.alloc (.cells #[.int .u8 (X[k].toNat : Int)] 5)) := (Below.refl _ _).alloc (Nat.le_refl _) _
      have hsn : X.take (k + 1) = X.take k ++ [X[k]] := List.take_succ_eq_append_getElem hlX
      obtain ⟨v3, w3, r3, O3, B3⟩ := own_append (hO.out.keep BA) (lit_src wr [X[k]] 1 #[.int .u8 (X[k].toNat : Int)] (0, 0) rfl (by decide) rfl) (fun e => by cases e) (by rw [List.length_take]; show _ + 1 ≤ _; omega) (Nat.le_trans hB.size BA.size)
      rw [← hsn] at O3
      have HO3 : Hid (Own w.heap.size w3 v3 (X.take (k + 1))) := O3
      have C3 := (hB.trans (BA.mono hB.size)).trans B3
      clear O3 B3 BA hsn hc hO
      generalize (X[k].toNat : Int) = z at *
      go_wp2_with (at_builtin; refine wpList_append_run2 rfl _ _ 35 35 rfl _ _ _ w3 rfl rfl r3 ?_)
      go_roundw
      case rel => exact ⟨k + 1, by omega, by go_num, HO3, C3⟩
      case measure => simp [intOf]; omega
    · have hO2 := hO.out
      rw [List.take_of_length_le (by have := HN.out; omega)] at hO2
      have HB1 : Hid (Below w.heap.size w wr) := hB
      clear hO hB
      go_wp2_with fail
      go_loopw [5, 7] (fun v5 vi wx => ∃ j : Nat, j ≤ m ∧ vi = .int .i64 j ∧ Hid (Own w.heap.size wx v5 (X ++ Y.take j)) ∧ Below w.heap.size w wx) (fun _ vi _ => m - (intOf vi).toNat)
      case atStart => exact ⟨0, Nat.zero_le _, rfl, (by rw [List.take_zero, List.append_nil]; exact hO2), HB1.out⟩
      case round =>
        obtain ⟨j, hj, rfl, hO, hB⟩ := hrel
        clear hO2 HB1
        by_cases hjm : j < m
        · have hlY : j < Y.length := by have := HM.out; omega
          obtain ⟨off, rfl, hc⟩ := F2.out (by omega)
          have hcell := (hB.cell (p := ⟨k2, off + j, none⟩) (HK2.out (by omega))).trans (hc j hlY)
          have BA := fun W : World => (Below.refl W.heap.size W).alloc (Nat.le_refl _) (.cells #[.int .u8 (Y[j].toNat : Int)] 5)
          have hsn : Y.take (j + 1) = Y.take j ++ [Y[j]] := List.take_succ_eq_append_getElem hlY
          obtain ⟨v3, w3, r3, O3, B3⟩ := own_append (hO.out.keep (BA _)) (lit_src _ [Y[j]] 1 #[.int .u8 (Y[j].toNat : Int)] (0, 0) rfl (by decide) rfl) (fun e => by cases e) (by rw [List.length_append, List.length_take]; have := HN.out; show _ + 1 ≤ _; omega) (Nat.le_trans hB.size (BA _).size)
          rw [List.append_assoc, ← hsn] at O3
          have HO3 : Hid (Own w.heap.size w3 v3 (X ++ Y.take (j + 1))) := O3
          have C3 := (hB.trans ((BA _).mono hB.size)).trans B3
          clear O3 B3 BA hsn hc hO
          unfold bv at hcell
          generalize (Y[j].toNat : Int) = z at *
          go_wp2_with (at_builtin; refine wpList_append_run2 rfl _ _ 35 35 rfl _ _ _ w3 rfl rfl r3 ?_)
          go_roundw
          case rel => exact ⟨j + 1, by omega, by go_num, HO3, C3⟩
          case measure => simp [intOf]; omega
        · have h := hO.out
          rw [List.take_of_length_le (by have := HM.out; omega)] at h
          clear hO
          go_wp2
          go_ret
          exact ⟨_, rfl, h, hB⟩
end Go.Proofs.Ytenajbefknlalaa
