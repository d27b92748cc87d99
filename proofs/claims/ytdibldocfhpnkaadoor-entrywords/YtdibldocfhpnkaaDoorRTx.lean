/- The reference's telling of a number that isn't below 0. -/
import Derived.Test.YtdibldocfhpnkaaDoorLtA
import Derived.Test.YtdibldocfhpnkaaDoorTxtL
import Derived.Lib.SmallJoins
import Derived.Lib.ItoaNum
namespace Go.Proofs.YtdibldocfhpnkaaDoor
open Go.RowKit
set_option linter.unusedVariables false

theorem rx_dec_small {u : Nat} (h : u < 10) : Lib.decDigits u = [UInt8.ofNat (48 + u)] := by rw [Lib.decDigits, dif_pos h]
theorem rx_dec_big {u : Nat} (h : ¬ u < 10) : Lib.decDigits u = Lib.decDigits (u / 10) ++ [UInt8.ofNat (48 + u % 10)] := by rw [Lib.decDigits, dif_neg h]
/-- How far the reference has come: what is left of the number, what is told already. -/
def RxJ (n u : Nat) (acc : List UInt8) : Prop := (acc = [] ∧ u = n) ∨ (acc ≠ [] ∧ Lib.decDigits n = (if u = 0 then [] else Lib.decDigits u) ++ acc)
theorem rx_JD_step {n u : Nat} {acc : List UInt8} (h : RxJ n u acc) (c : acc = [] ∨ 0 < u) : RxJ n (u / 10) (UInt8.ofNat (48 + u % 10) :: acc) := by
  refine .inr ⟨by simp, ?_⟩
  have key : Lib.decDigits u = (if u / 10 = 0 then [] else Lib.decDigits (u / 10)) ++ [UInt8.ofNat (48 + u % 10)] := by
    by_cases k : u < 10
    · rw [rx_dec_small k, if_pos (by omega), Nat.mod_eq_of_lt k]; rfl
    · rw [rx_dec_big k, if_neg (by omega)]
  rcases h with ⟨rfl, rfl⟩ | ⟨h1, h2⟩
  · exact key
  · have hu : 0 < u := by
      rcases c with c | c
      · exact absurd c h1
      · exact c
    rw [h2, if_neg (by omega), key, List.append_assoc]; rfl
theorem rx_JD_end {n : Nat} {acc : List UInt8} (h : RxJ n 0 acc) (c : acc ≠ []) : acc = Lib.decDigits n := by
  rcases h with ⟨h1, _⟩ | ⟨_, h2⟩
  · exact absurd h1 c
  · rw [h2]; rfl
theorem rx_ret_s {a b : ByteArray} (h : a = b) : Ending.returned (.string a) = .returned (.string b) := by rw [h]
theorem rx_bytes_ext {a : ByteArray} {l : List UInt8} (h : a.data.toList = l) : a = ⟨l.toArray⟩ := by
  obtain ⟨⟨l'⟩⟩ := a
  simp at h
  rw [h]
theorem rx_cons_data (b : UInt8) (o : ByteArray) : ((⟨#[b]⟩ : ByteArray) ++ o).data.toList = b :: o.data.toList := by
  rw [Joins.data_append]; rfl
theorem rx_conv1 (W : World) (x : Int) (b : UInt8) (h : (b.toNat : Int) = x) : (convert 25 9 (.slice (some ⟨W.heap.size, 0, none⟩) 1 1)).run Tryd.prog (W.alloc (.cells #[.int .u8 x] 5)) = .ok (.string ⟨#[b]⟩) (W.alloc (.cells #[.int .u8 x] 5)) := by
  have k := run_convert_bytes_back (P := Tryd.prog) (W.alloc (.cells #[.int .u8 x] 5)) 25 9 5 ⟨W.heap.size, 0, none⟩ 1 [b] Tryd.underlying25 Tryd.underlying5 Tryd.underlying9 (fun j hj => by
    obtain rfl : j = 0 := by simpa using hj
    rw [Lib.add_plain]
    exact tblk_cell (tblk_new _ _) (by simp [h]))
  exact k
def rxM (vn vo : Value) : Nat := (intOf vn).toNat + (match vo with | .string o => if o.size = 0 then 1 else 0 | _ => 0)
theorem rx_msr_lt {u u' : Nat} {o o' : ByteArray} (h : o.size = 0 ∨ 0 < u) (hu : u' ≤ u) (hd : 0 < u → u' < u) (ho : ¬ o'.size = 0) : rxM (.int .i64 u') (.string o') < rxM (.int .i64 u) (.string o) := by
  unfold rxM intOf
  simp only [Int.toNat_natCast]
  rw [if_neg ho]
  rcases h with h | h
  · rw [if_pos h]; omega
  · have := hd h; split <;> omega
theorem rx_cons_size (b : UInt8) (o : ByteArray) : ¬ ((⟨#[b]⟩ : ByteArray) ++ o).size = 0 := by
  have h : ((⟨#[b]⟩ : ByteArray) ++ o).data.toList.length ≠ 0 := by rw [rx_cons_data]; simp
  exact h
theorem rx_wrap64_in (x : Int) (h0 : 0 ≤ x) (h1 : x < 9223372036854775808) : wrap64 x = x := by unfold wrap64; omega
theorem rx_cons_size1 (b : UInt8) (o : ByteArray) : ((⟨#[b]⟩ : ByteArray) ++ o).size = o.size + 1 := by
  have h : ((⟨#[b]⟩ : ByteArray) ++ o).data.toList.length = o.data.toList.length + 1 := by rw [rx_cons_data]; simp
  exact h
theorem rx_u8_48 (d : Nat) (h : d < 200) : ((UInt8.ofNat (48 + d)).toNat : Int) = 48 + (d : Int) := by
  rw [UInt8.toNat_ofNat']; omega


set_option maxRecDepth 100000 in
set_option maxHeartbeats 4000000 in
theorem rtext_nat (n : Nat) (hn : n < 9223372036854775808) (w : World) :
    Calls Tryd.prog 29 #[.int .i64 n] w fun e w' => e = .returned (.string ⟨(Lib.decDigits n).toArray⟩) ∧ Below w.heap.size w w' := by
  have hne : ((n : Int) == -9223372036854775808) = false := beq_eq_false_iff_ne.2 (by omega)
  have h0 : ¬ (n : Int) < 0 := by omega
  go_enter Tryd.func29, Tryd.ntmps29
  go_wp2_with fail
  clear hne h0
  go_loopw [0, 3] (fun vn vo wr => ∃ (u f : Nat) (o : ByteArray), vn = .int .i64 u ∧ vo = .string o ∧ u < 9223372036854775808 ∧ f + o.size ≤ 20 ∧ Hid (u < 10 ^ f) ∧ Hid (RxJ n u o.data.toList) ∧ Below w.heap.size w wr) (fun vn vo _ => rxM vn vo)
  case atStart => exact ⟨n, 19, ⟨#[]⟩, rfl, rfl, hn, by decide, Nat.lt_of_lt_of_le hn (by decide), .inl ⟨rfl, rfl⟩, Below.refl _ _⟩
  case round =>
    obtain ⟨u, f, o, rfl, rfl, hu, hfo, hf, hj, hB⟩ := hrel
    have HU : Hid (u < 9223372036854775808) := hu
    clear hu
    have ho : (o.size : Int) ≤ 20 := by omega
    have HN : Hid (n < 9223372036854775808) := hn
    clear hn
    obtain ⟨b, hb1, hb2⟩ : ∃ b : UInt8, (b.toNat : Int) = 48 + (u : Int) % 10 ∧ b = UInt8.ofNat (48 + u % 10) := ⟨_, by rw [rx_u8_48 _ (by omega)]; omega, rfl⟩
    by_cases hz : o.size = 0
    · have hcv := rx_conv1 wr (48 + (u : Int) % 10) b hb1
      have hcat := fun W : World => run_string_add (P := Tryd.prog) (w := W) ⟨#[b]⟩ o (show ((1 : Nat) : Int) ≤ 8388608 by decide) (by omega)
      have HS : Hid (RxJ n (u / 10) ((⟨#[b]⟩ : ByteArray) ++ o).data.toList) := by
        rw [Hid, rx_cons_data, hb2]; exact rx_JD_step hj.out (.inl (List.eq_nil_of_length_eq_zero hz))
      have HF : Hid (∃ f', f' + ((⟨#[b]⟩ : ByteArray) ++ o).size ≤ 20 ∧ u / 10 < 10 ^ f') := by
        rw [Hid, rx_cons_size1]
        have h := hf.out
        cases f with
        | zero => exact ⟨0, by omega, by have : u < 1 := h; omega⟩
        | succ f' => exact ⟨f', by omega, by rw [Nat.pow_succ, Nat.mul_comm] at h; exact Nat.div_lt_of_lt_mul h⟩
      have HM : Hid (rxM (.int .i64 ((u / 10 : Nat) : Int)) (.string ((⟨#[b]⟩ : ByteArray) ++ o)) < rxM (.int .i64 (u : Int)) (.string o)) := rx_msr_lt (.inl hz) (by omega) (fun h => by omega) (rx_cons_size _ _)
      clear hb1 hb2
      have he := empty_of hz
      subst he
      go_wp2
      go_roundw
      case rel => obtain ⟨f', q1, q2⟩ := HF.out; have hu := HU.out; exact ⟨u / 10, f', _, by rw [rx_wrap64_in _ (by omega) (by omega)]; go_num, rfl, by omega, q1, q2, HS, hB.alloc hB.size _⟩
      case measure => have hu := HU.out; rw [rx_wrap64_in _ (by omega) (by omega)]; exact HM.out
    · by_cases hpos : (0 : Int) < (u : Int)
      · have hcv := rx_conv1 wr (48 + (u : Int) % 10) b hb1
        have hcat := fun W : World => run_string_add (P := Tryd.prog) (w := W) ⟨#[b]⟩ o (show ((1 : Nat) : Int) ≤ 8388608 by decide) (by omega)
        have HS : Hid (RxJ n (u / 10) ((⟨#[b]⟩ : ByteArray) ++ o).data.toList) := by
          rw [Hid, rx_cons_data, hb2]; exact rx_JD_step hj.out (.inr (by omega))
        have HF : Hid (∃ f', f' + ((⟨#[b]⟩ : ByteArray) ++ o).size ≤ 20 ∧ u / 10 < 10 ^ f') := by
          rw [Hid, rx_cons_size1]
          have h := hf.out
          cases f with
          | zero => exact ⟨0, by have : u < 1 := h; omega, by have : u < 1 := h; omega⟩
          | succ f' => exact ⟨f', by omega, by rw [Nat.pow_succ, Nat.mul_comm] at h; exact Nat.div_lt_of_lt_mul h⟩
        have HM : Hid (rxM (.int .i64 ((u / 10 : Nat) : Int)) (.string ((⟨#[b]⟩ : ByteArray) ++ o)) < rxM (.int .i64 (u : Int)) (.string o)) := rx_msr_lt (.inr (by omega)) (by omega) (fun h => by omega) (rx_cons_size _ _)
        clear hb1 hb2
        have hne2 := isEmpty_of hz
        clear hz
        go_wp2
        go_roundw
        case rel => obtain ⟨f', q1, q2⟩ := HF.out; have hu := HU.out; exact ⟨u / 10, f', _, by rw [rx_wrap64_in _ (by omega) (by omega)]; go_num, rfl, by omega, q1, q2, HS, hB.alloc hB.size _⟩
        case measure => have hu := HU.out; rw [rx_wrap64_in _ (by omega) (by omega)]; exact HM.out
      · have hu0 : u = 0 := by omega
        have HE : Hid (o = ⟨(Lib.decDigits n).toArray⟩) := by
          have h := hj.out
          rw [hu0] at h
          exact rx_bytes_ext (rx_JD_end h (fun e => hz (congrArg List.length e)))
        have hne2 := isEmpty_of hz
        clear hz hb1 hb2
        go_wp2
        go_ret
        exact ⟨rx_ret_s HE.out, hB⟩
theorem itoa_nat (n : Nat) : itoaS (n : Int) = ⟨(Lib.decDigits n).toArray⟩ := by
  unfold itoaS Lib.itoa
  rw [if_neg (by omega), Int.toNat_natCast]
theorem rtext_pos (n : Int) (h0 : 0 ≤ n) (h1 : n < 9223372036854775808) (w : World) : Calls Tryd.prog 29 #[.int .i64 n] w fun e w' => e = .returned (.string (itoaS n)) ∧ Below w.heap.size w w' := by
  obtain ⟨k, rfl⟩ : ∃ k : Nat, n = k := ⟨n.toNat, by omega⟩
  rw [itoa_nat]
  exact rtext_nat k (by omega) w
end Go.Proofs.YtdibldocfhpnkaaDoor
