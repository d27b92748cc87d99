/- The reference's telling of a number in digits of the base 16. -/
import Derived.Test.YtbmpfjmnedlahabDoorHexT
import Derived.Lib.SmallJoins
namespace Go.Proofs.YtbmpfjmnedlahabDoor
open Go.RowKit
set_option linter.unusedVariables false

def JH (n u : Nat) (acc : List UInt8) : Prop := (acc = [] ∧ u = n) ∨ (acc ≠ [] ∧ ((u = 0 ∧ acc = hexT n) ∨ (0 < u ∧ ∃ f, u < 16 ^ (f + 1) ∧ hexGo (f + 1) u acc = hexT n)))
theorem JH_step {n u : Nat} {acc : List UInt8} (hn : n < 16 ^ 17) (h : JH n u acc) (c : acc = [] ∨ 0 < u) : JH n (u / 16) (hexD (u % 16) :: acc) := by
  refine .inr ⟨by simp, ?_⟩
  have key : ∃ f, u < 16 ^ (f + 1) ∧ hexGo (f + 1) u acc = hexT n := by
    rcases h with ⟨rfl, rfl⟩ | ⟨h1, h2⟩
    · exact ⟨16, hn, rfl⟩
    · rcases h2 with ⟨h2, _⟩ | ⟨_, h2⟩
      · rcases c with c | c
        · exact absurd c h1
        · omega
      · exact h2
  obtain ⟨f, hf, hg⟩ := key
  by_cases k : u < 16
  · left
    rw [hexGo_end _ _ _ k] at hg
    exact ⟨by omega, by rw [Nat.mod_eq_of_lt k]; exact hg⟩
  · right
    rw [hexGo_step _ _ _ k] at hg
    cases f with
    | zero => simp at hf; omega
    | succ f => exact ⟨by omega, f, by rw [Nat.pow_succ, Nat.mul_comm] at hf; exact Nat.div_lt_of_lt_mul hf, hg⟩
theorem JH_end {n : Nat} {acc : List UInt8} (h : JH n 0 acc) (c : acc ≠ []) : acc = hexT n := by
  rcases h with ⟨h1, _⟩ | ⟨_, ⟨_, h2⟩ | ⟨h2, _⟩⟩
  · exact absurd h1 c
  · exact h2
  · omega
theorem ret_s {a b : ByteArray} (h : a = b) : Ending.returned (.string a) = .returned (.string b) := by rw [h]
theorem bytes_ext {a : ByteArray} {l : List UInt8} (h : a.data.toList = l) : a = ⟨l.toArray⟩ := by
  obtain ⟨⟨l'⟩⟩ := a
  simp at h
  rw [h]
theorem cons_data (b : UInt8) (o : ByteArray) : ((⟨#[b]⟩ : ByteArray) ++ o).data.toList = b :: o.data.toList := by
  rw [Joins.data_append]; rfl
theorem conv1 (W : World) (x : Int) (b : UInt8) (h : (b.toNat : Int) = x) : (convert 24 9 (.slice (some ⟨W.heap.size, 0, none⟩) 1 1)).run Tryd.prog (W.alloc (.cells #[.int .u8 x] 5)) = .ok (.string ⟨#[b]⟩) (W.alloc (.cells #[.int .u8 x] 5)) := by
  have k := run_convert_bytes_back (P := Tryd.prog) (W.alloc (.cells #[.int .u8 x] 5)) 24 9 5 ⟨W.heap.size, 0, none⟩ 1 [b] Tryd.underlying24 Tryd.underlying5 Tryd.underlying9 (fun j hj => by
    obtain rfl : j = 0 := by simpa using hj
    rw [Lib.add_plain]
    exact blk_cell (blk_new _ _) (by simp [h]))
  exact k
def msr (vn vo : Value) : Nat := (intOf vn).toNat + (match vo with | .string o => if o.size = 0 then 1 else 0 | _ => 0)
theorem msr_lt {u u' : Nat} {o o' : ByteArray} (h : o.size = 0 ∨ 0 < u) (hu : u' ≤ u) (hd : 0 < u → u' < u) (ho : ¬ o'.size = 0) : msr (.int .i64 u') (.string o') < msr (.int .i64 u) (.string o) := by
  unfold msr intOf
  simp only [Int.toNat_natCast]
  rw [if_neg ho]
  rcases h with h | h
  · rw [if_pos h]; omega
  · have := hd h; split <;> omega
theorem cons_size (b : UInt8) (o : ByteArray) : ¬ ((⟨#[b]⟩ : ByteArray) ++ o).size = 0 := by
  have h : ((⟨#[b]⟩ : ByteArray) ++ o).data.toList.length ≠ 0 := by rw [cons_data]; simp
  exact h
theorem wrap64_in (x : Int) (h0 : 0 ≤ x) (h1 : x < 9223372036854775808) : wrap64 x = x := by unfold wrap64; omega
theorem cons_size1 (b : UInt8) (o : ByteArray) : ((⟨#[b]⟩ : ByteArray) ++ o).size = o.size + 1 := by
  have h : ((⟨#[b]⟩ : ByteArray) ++ o).data.toList.length = o.data.toList.length + 1 := by rw [cons_data]; simp
  exact h
theorem hexD_hi (d : Nat) (h : 9 < d) (h' : d < 16) : ((hexD d).toNat : Int) = 87 + d := by
  have h10 : d = 10 ∨ d = 11 ∨ d = 12 ∨ d = 13 ∨ d = 14 ∨ d = 15 := by omega
  rcases h10 with rfl | rfl | rfl | rfl | rfl | rfl <;> decide
theorem hexD_lo (d : Nat) (h : d ≤ 9) : ((hexD d).toNat : Int) = 48 + d := by
  have h10 : d = 0 ∨ d = 1 ∨ d = 2 ∨ d = 3 ∨ d = 4 ∨ d = 5 ∨ d = 6 ∨ d = 7 ∨ d = 8 ∨ d = 9 := by omega
  rcases h10 with rfl | rfl | rfl | rfl | rfl | rfl | rfl | rfl | rfl | rfl <;> decide

set_option maxRecDepth 100000 in
set_option maxHeartbeats 4000000 in
theorem rhex_nat (n : Nat) (hn : n < 9223372036854775808) (w : World) :
    Calls Tryd.prog 39 #[.int .i64 n] w fun e w' => e = .returned (.string ⟨(hexT n).toArray⟩) ∧ Below w.heap.size w w' := by
  have h0 : ¬ (n : Int) < 0 := by omega
  go_enter Tryd.func39, Tryd.ntmps39
  go_wp2_with fail
  clear h0
  go_loopw [0, 3] (fun vn vo wr => ∃ (u f : Nat) (o : ByteArray), vn = .int .i64 u ∧ vo = .string o ∧ u < 9223372036854775808 ∧ f + o.size ≤ 20 ∧ Hid (u < 16 ^ f) ∧ Hid (JH n u o.data.toList) ∧ Below w.heap.size w wr) (fun vn vo _ => msr vn vo)
  case atStart => exact ⟨n, 19, ⟨#[]⟩, rfl, rfl, hn, by decide, Nat.lt_of_lt_of_le hn (by decide), .inl ⟨rfl, rfl⟩, Below.refl _ _⟩
  case round =>
    obtain ⟨u, f, o, rfl, rfl, hu, hfo, hf, hj, hB⟩ := hrel
    have HU : Hid (u < 9223372036854775808) := hu
    clear hu
    have ho : (o.size : Int) ≤ 20 := by omega
    have HN : Hid (n < 9223372036854775808) := hn
    clear hn
    by_cases hd9 : (9 : Int) < (u : Int) % 16
    · obtain ⟨b, hb1, hb2⟩ : ∃ b : UInt8, (b.toNat : Int) = 97 + (u : Int) % 16 - 10 ∧ b = hexD (u % 16) := ⟨_, hexD_hi (u % 16) (by omega) (by omega) |>.trans (by omega), rfl⟩
      by_cases hz : o.size = 0
      · have hcv := conv1 wr (97 + (u : Int) % 16 - 10) b hb1
        have hcat := fun W : World => run_string_add (P := Tryd.prog) (w := W) ⟨#[b]⟩ o (show ((1 : Nat) : Int) ≤ 8388608 by decide) (by omega)
        have HS : Hid (JH n (u / 16) ((⟨#[b]⟩ : ByteArray) ++ o).data.toList) := by
          rw [Hid, cons_data, hb2]; exact JH_step (Nat.lt_of_lt_of_le HN.out (by decide)) hj.out (.inl (List.eq_nil_of_length_eq_zero hz))
        have HF : Hid (∃ f', f' + ((⟨#[b]⟩ : ByteArray) ++ o).size ≤ 20 ∧ u / 16 < 16 ^ f') := by
          rw [Hid, cons_size1]
          have h := hf.out
          cases f with
          | zero => exact ⟨0, by omega, by have : u < 1 := h; omega⟩
          | succ f' => exact ⟨f', by omega, by rw [Nat.pow_succ, Nat.mul_comm] at h; exact Nat.div_lt_of_lt_mul h⟩
        have HM : Hid (msr (.int .i64 ((u / 16 : Nat) : Int)) (.string ((⟨#[b]⟩ : ByteArray) ++ o)) < msr (.int .i64 (u : Int)) (.string o)) := msr_lt (.inl hz) (by omega) (fun h => by omega) (cons_size _ _)
        clear hb1 hb2
        have he := empty_of hz
        subst he
        go_wp2
        go_roundw
        case rel => obtain ⟨f', q1, q2⟩ := HF.out; have hu := HU.out; exact ⟨u / 16, f', _, by rw [wrap64_in _ (by omega) (by omega)]; go_num, rfl, by omega, q1, q2, HS, hB.alloc hB.size _⟩
        case measure => have hu := HU.out; rw [wrap64_in _ (by omega) (by omega)]; exact HM.out
      · by_cases hpos : (0 : Int) < (u : Int)
        · have hcv := conv1 wr (97 + (u : Int) % 16 - 10) b hb1
          have hcat := fun W : World => run_string_add (P := Tryd.prog) (w := W) ⟨#[b]⟩ o (show ((1 : Nat) : Int) ≤ 8388608 by decide) (by omega)
          have HS : Hid (JH n (u / 16) ((⟨#[b]⟩ : ByteArray) ++ o).data.toList) := by
            rw [Hid, cons_data, hb2]; exact JH_step (Nat.lt_of_lt_of_le HN.out (by decide)) hj.out (.inr (by omega))
          have HF : Hid (∃ f', f' + ((⟨#[b]⟩ : ByteArray) ++ o).size ≤ 20 ∧ u / 16 < 16 ^ f') := by
            rw [Hid, cons_size1]
            have h := hf.out
            cases f with
            | zero => exact ⟨0, by have : u < 1 := h; omega, by have : u < 1 := h; omega⟩
            | succ f' => exact ⟨f', by omega, by rw [Nat.pow_succ, Nat.mul_comm] at h; exact Nat.div_lt_of_lt_mul h⟩
          have HM : Hid (msr (.int .i64 ((u / 16 : Nat) : Int)) (.string ((⟨#[b]⟩ : ByteArray) ++ o)) < msr (.int .i64 (u : Int)) (.string o)) := msr_lt (.inr (by omega)) (by omega) (fun h => by omega) (cons_size _ _)
          clear hb1 hb2
          have hne2 := isEmpty_of hz
          clear hz
          go_wp2
          go_roundw
          case rel => obtain ⟨f', q1, q2⟩ := HF.out; have hu := HU.out; exact ⟨u / 16, f', _, by rw [wrap64_in _ (by omega) (by omega)]; go_num, rfl, by omega, q1, q2, HS, hB.alloc hB.size _⟩
          case measure => have hu := HU.out; rw [wrap64_in _ (by omega) (by omega)]; exact HM.out
        · have hu0 : u = 0 := by omega
          have HE : Hid (o = ⟨(hexT n).toArray⟩) := by
            have h := hj.out
            rw [hu0] at h
            exact bytes_ext (JH_end h (fun e => hz (congrArg List.length e)))
          have hne2 := isEmpty_of hz
          clear hz hb1 hb2
          go_wp2
          go_ret
          exact ⟨ret_s HE.out, hB⟩
    · obtain ⟨b, hb1, hb2⟩ : ∃ b : UInt8, (b.toNat : Int) = 48 + (u : Int) % 16 ∧ b = hexD (u % 16) := ⟨_, hexD_lo (u % 16) (by omega) |>.trans (by omega), rfl⟩
      by_cases hz : o.size = 0
      · have hcv := conv1 wr (48 + (u : Int) % 16) b hb1
        have hcat := fun W : World => run_string_add (P := Tryd.prog) (w := W) ⟨#[b]⟩ o (show ((1 : Nat) : Int) ≤ 8388608 by decide) (by omega)
        have HS : Hid (JH n (u / 16) ((⟨#[b]⟩ : ByteArray) ++ o).data.toList) := by
          rw [Hid, cons_data, hb2]; exact JH_step (Nat.lt_of_lt_of_le HN.out (by decide)) hj.out (.inl (List.eq_nil_of_length_eq_zero hz))
        have HF : Hid (∃ f', f' + ((⟨#[b]⟩ : ByteArray) ++ o).size ≤ 20 ∧ u / 16 < 16 ^ f') := by
          rw [Hid, cons_size1]
          have h := hf.out
          cases f with
          | zero => exact ⟨0, by omega, by have : u < 1 := h; omega⟩
          | succ f' => exact ⟨f', by omega, by rw [Nat.pow_succ, Nat.mul_comm] at h; exact Nat.div_lt_of_lt_mul h⟩
        have HM : Hid (msr (.int .i64 ((u / 16 : Nat) : Int)) (.string ((⟨#[b]⟩ : ByteArray) ++ o)) < msr (.int .i64 (u : Int)) (.string o)) := msr_lt (.inl hz) (by omega) (fun h => by omega) (cons_size _ _)
        clear hb1 hb2
        have he := empty_of hz
        subst he
        go_wp2
        go_roundw
        case rel => obtain ⟨f', q1, q2⟩ := HF.out; have hu := HU.out; exact ⟨u / 16, f', _, by rw [wrap64_in _ (by omega) (by omega)]; go_num, rfl, by omega, q1, q2, HS, hB.alloc hB.size _⟩
        case measure => have hu := HU.out; rw [wrap64_in _ (by omega) (by omega)]; exact HM.out
      · by_cases hpos : (0 : Int) < (u : Int)
        · have hcv := conv1 wr (48 + (u : Int) % 16) b hb1
          have hcat := fun W : World => run_string_add (P := Tryd.prog) (w := W) ⟨#[b]⟩ o (show ((1 : Nat) : Int) ≤ 8388608 by decide) (by omega)
          have HS : Hid (JH n (u / 16) ((⟨#[b]⟩ : ByteArray) ++ o).data.toList) := by
            rw [Hid, cons_data, hb2]; exact JH_step (Nat.lt_of_lt_of_le HN.out (by decide)) hj.out (.inr (by omega))
          have HF : Hid (∃ f', f' + ((⟨#[b]⟩ : ByteArray) ++ o).size ≤ 20 ∧ u / 16 < 16 ^ f') := by
            rw [Hid, cons_size1]
            have h := hf.out
            cases f with
            | zero => exact ⟨0, by have : u < 1 := h; omega, by have : u < 1 := h; omega⟩
            | succ f' => exact ⟨f', by omega, by rw [Nat.pow_succ, Nat.mul_comm] at h; exact Nat.div_lt_of_lt_mul h⟩
          have HM : Hid (msr (.int .i64 ((u / 16 : Nat) : Int)) (.string ((⟨#[b]⟩ : ByteArray) ++ o)) < msr (.int .i64 (u : Int)) (.string o)) := msr_lt (.inr (by omega)) (by omega) (fun h => by omega) (cons_size _ _)
          clear hb1 hb2
          have hne2 := isEmpty_of hz
          clear hz
          go_wp2
          go_roundw
          case rel => obtain ⟨f', q1, q2⟩ := HF.out; have hu := HU.out; exact ⟨u / 16, f', _, by rw [wrap64_in _ (by omega) (by omega)]; go_num, rfl, by omega, q1, q2, HS, hB.alloc hB.size _⟩
          case measure => have hu := HU.out; rw [wrap64_in _ (by omega) (by omega)]; exact HM.out
        · have hu0 : u = 0 := by omega
          have HE : Hid (o = ⟨(hexT n).toArray⟩) := by
            have h := hj.out
            rw [hu0] at h
            exact bytes_ext (JH_end h (fun e => hz (congrArg List.length e)))
          have hne2 := isEmpty_of hz
          clear hz hb1 hb2
          go_wp2
          go_ret
          exact ⟨ret_s HE.out, hB⟩

end Go.Proofs.YtbmpfjmnedlahabDoor
