/- FrameBoth's own text of a number. -/
import Derived.Test.YtflgjhknobnnaaaDoorFrI
namespace Go.Proofs.YtflgjhknobnnaaaDoor
open Go.RowKit
set_option linter.unusedVariables false

set_option maxRecDepth 100000 in
set_option maxHeartbeats 1000000 in
theorem both1_any (n : Nat) (hn : n < 10000) (w : World) : Calls Tryd.prog 15 #[.int .i64 n] w fun e w' => ∃ X, e = .returned (.string ⟨X.toArray⟩) ∧ Dgs X n ∧ X.length ≤ 4 ∧ Below w.heap.size w w' := by
  go_enter Tryd.func15, Tryd.ntmps15
  go_wp2_with fail
  go_loopw [0, 3] (fun vn vo wr => ∃ (u : Nat) (o : ByteArray), vn = .int .i64 u ∧ vo = .string o ∧ u < 10000 ∧ o.size ≤ 4 ∧ Hid (DI n u o.data.toList) ∧ Below w.heap.size w wr) (fun vn vo _ => msr vn vo)
  case atStart => exact ⟨n, ⟨#[]⟩, rfl, rfl, hn, by decide, DI.start hn, Below.refl _ _⟩
  case round =>
    obtain ⟨u, o, rfl, rfl, hu, ho, hj, hB⟩ := hrel
    have HN : Hid (n < 10000) := hn
    clear hn
    by_cases hz : o.size = 0
    · obtain ⟨b, hb1, hb2⟩ : ∃ b : UInt8, (b.toNat : Int) = 48 + (u : Int) % 10 ∧ b = UInt8.ofNat (48 + u % 10) := ⟨_, dig_int u, rfl⟩
      have hcv := conv1 wr (48 + (u : Int) % 10) b hb1
      have hcat := fun W : World => run_string_add (P := Tryd.prog) (w := W) ⟨#[b]⟩ o (show ((1 : Nat) : Int) ≤ 8388608 by decide) (by omega)
      have HS : Hid (DI n (u / 10) ((⟨#[b]⟩ : ByteArray) ++ o).data.toList) := by
        rw [Hid, cons_data, hb2]; exact hj.out.step (.inl (List.eq_nil_of_length_eq_zero hz))
      have HL : Hid (((⟨#[b]⟩ : ByteArray) ++ o).size ≤ 4) := HS.out.len
      have HM : Hid (msr (.int .i64 ((u / 10 : Nat) : Int)) (.string ((⟨#[b]⟩ : ByteArray) ++ o)) < msr (.int .i64 (u : Int)) (.string o)) := msr_lt (.inl hz) (by omega) (fun h => by omega) (by rw [cons_size1]; omega)
      clear hb1 hb2
      have he := empty_of hz
      subst he
      go_wp2
      go_roundw
      case rel => exact ⟨u / 10, _, by go_num, rfl, by omega, HL.out, HS, hB.alloc hB.size _⟩
      case measure => exact HM.out
    · have hne := isEmpty_of hz
      by_cases hpos : (0 : Int) < (u : Int)
      · obtain ⟨b, hb1, hb2⟩ : ∃ b : UInt8, (b.toNat : Int) = 48 + (u : Int) % 10 ∧ b = UInt8.ofNat (48 + u % 10) := ⟨_, dig_int u, rfl⟩
        have hcv := conv1 wr (48 + (u : Int) % 10) b hb1
        have hcat := fun W : World => run_string_add (P := Tryd.prog) (w := W) ⟨#[b]⟩ o (show ((1 : Nat) : Int) ≤ 8388608 by decide) (by omega)
        have HS : Hid (DI n (u / 10) ((⟨#[b]⟩ : ByteArray) ++ o).data.toList) := by
          rw [Hid, cons_data, hb2]; exact hj.out.step (.inr (by omega))
        have HL : Hid (((⟨#[b]⟩ : ByteArray) ++ o).size ≤ 4) := HS.out.len
        have HM : Hid (msr (.int .i64 ((u / 10 : Nat) : Int)) (.string ((⟨#[b]⟩ : ByteArray) ++ o)) < msr (.int .i64 (u : Int)) (.string o)) := msr_lt (.inr (by omega)) (by omega) (fun h => by omega) (by rw [cons_size1]; omega)
        clear hb1 hb2 hz
        go_wp2
        go_roundw
        case rel => exact ⟨u / 10, _, by go_num, rfl, by omega, HL.out, HS, hB.alloc hB.size _⟩
        case measure => exact HM.out
      · have hu0 : u = 0 := by omega
        subst hu0
        have HF : Hid (Dgs o.data.toList n) := hj.out.fin (fun e => hz (congrArg List.length e))
        have HL : Hid (o.data.toList.length ≤ 4) := ho
        clear hz
        go_wp2
        go_ret
        exact ⟨_, ret_s (bytes_ext rfl), HF.out, HL.out, hB⟩
end Go.Proofs.YtflgjhknobnnaaaDoor
