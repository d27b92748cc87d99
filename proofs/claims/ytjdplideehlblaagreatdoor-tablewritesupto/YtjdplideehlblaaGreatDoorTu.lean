/- Texts that the proof leans on, one behind the other: RTx RnD -/
import Derived.Test.YtjdplideehlblaaGreatDoorTb
import Derived.Lib.SmallJoins
import Derived.Lib.ItoaNum
import Derived.Test.YtjdplideehlblaaGreatDoorTt
/- The reference's telling of a number that isn't below 0. -/
namespace Go.Proofs.YtjdplideehlblaaGreatDoor
open Go.RowKit
set_option linter.unusedVariables false

theorem rx_dec_small {u : Nat} (h : u < 10) : Lib.decDigits u = [UInt8.ofNat (48 + u)] := by rw [Lib.decDigits, dif_pos h]
theorem rx_dec_big {u : Nat} (h : ¬ u < 10) : Lib.decDigits u = Lib.decDigits (u / 10) ++ [UInt8.ofNat (48 + u % 10)] := by rw [Lib.decDigits, dif_neg h]
/-- How far the reference has come: what is left of the number, what is told already. -/
def RxJ (n u : Nat) (acc : List UInt8) : Prop := (acc = [] ∧ u = n) ∨ (acc ≠ [] ∧ Lib.decDigits n = (if u = 0 then [] else Lib.decDigits u) ++ acc)
theorem rx_JD_step {n u : Nat} {acc : List UInt8} (h : RxJ n u acc) (c : acc = [] ∨ 0 < u) : RxJ n (u / 10) (UInt8.ofNat (48 + u % 10) :: acc) := by
  refine .inr ⟨by simp, ?_⟩
  have key : Lib.decDigits u = (if u / 10 = 0 then [] else Lib.decDigits (u / 10)) ++ [UInt8.ofNat (48 + u % 10)] := by
    by_cases k : u < 10
    · rw [rx_dec_small k, if_pos (by omega), Nat.mod_eq_of_lt k]; rfl
    · rw [rx_dec_big k, if_neg (by omega)]
  rcases h with ⟨rfl, rfl⟩ | ⟨h1, h2⟩
  · exact key
  · have hu : 0 < u := by
      rcases c with c | c
      · exact absurd c h1
      · exact c
    rw [h2, if_neg (by omega), key, List.append_assoc]; rfl
theorem rx_JD_end {n : Nat} {acc : List UInt8} (h : RxJ n 0 acc) (c : acc ≠ []) : acc = Lib.decDigits n := by
  rcases h with ⟨h1, _⟩ | ⟨_, h2⟩
  · exact absurd h1 c
  · rw [h2]; rfl
theorem rx_ret_s {a b : ByteArray} (h : a = b) : Ending.returned (.string a) = .returned (.string b) := by rw [h]
theorem rx_bytes_ext {a : ByteArray} {l : List UInt8} (h : a.data.toList = l) : a = ⟨l.toArray⟩ := by
  obtain ⟨⟨l'⟩⟩ := a
  simp at h
  rw [h]
theorem rx_cons_data (b : UInt8) (o : ByteArray) : ((⟨#[b]⟩ : ByteArray) ++ o).data.toList = b :: o.data.toList := by
  rw [Joins.data_append]; rfl
theorem rx_conv1 (W : World) (x : Int) (b : UInt8) (h : (b.toNat : Int) = x) : (convert 75 9 (.slice (some ⟨W.heap.size, 0, none⟩) 1 1)).run Tryz.prog (W.alloc (.cells #[.int .u8 x] 5)) = .ok (.string ⟨#[b]⟩) (W.alloc (.cells #[.int .u8 x] 5)) := by
  have k := run_convert_bytes_back (P := Tryz.prog) (W.alloc (.cells #[.int .u8 x] 5)) 75 9 5 ⟨W.heap.size, 0, none⟩ 1 [b] Tryz.underlying75 Tryz.underlying5 Tryz.underlying9 (fun j hj => by
    obtain rfl : j = 0 := by simpa using hj
    rw [Lib.add_plain]
    exact tblk_cell (tblk_new _ _) (by simp [h]))
  exact k
def rxM (vn vo : Value) : Nat := (intOf vn).toNat + (match vo with | .string o => if o.size = 0 then 1 else 0 | _ => 0)
theorem rx_msr_lt {u u' : Nat} {o o' : ByteArray} (h : o.size = 0 ∨ 0 < u) (hu : u' ≤ u) (hd : 0 < u → u' < u) (ho : ¬ o'.size = 0) : rxM (.int .i64 u') (.string o') < rxM (.int .i64 u) (.string o) := by
  unfold rxM intOf
  simp only [Int.toNat_natCast]
  rw [if_neg ho]
  rcases h with h | h
  · rw [if_pos h]; omega
  · have := hd h; split <;> omega
theorem rx_cons_size (b : UInt8) (o : ByteArray) : ¬ ((⟨#[b]⟩ : ByteArray) ++ o).size = 0 := by
  have h : ((⟨#[b]⟩ : ByteArray) ++ o).data.toList.length ≠ 0 := by rw [rx_cons_data]; simp
  exact h
theorem rx_wrap64_in (x : Int) (h0 : 0 ≤ x) (h1 : x < 9223372036854775808) : wrap64 x = x := by unfold wrap64; omega
theorem rx_cons_size1 (b : UInt8) (o : ByteArray) : ((⟨#[b]⟩ : ByteArray) ++ o).size = o.size + 1 := by
  have h : ((⟨#[b]⟩ : ByteArray) ++ o).data.toList.length = o.data.toList.length + 1 := by rw [rx_cons_data]; simp
  exact h
theorem rx_u8_48 (d : Nat) (h : d < 200) : ((UInt8.ofNat (48 + d)).toNat : Int) = 48 + (d : Int) := by
  rw [UInt8.toNat_ofNat']; omega


set_option maxRecDepth 100000 in
set_option maxHeartbeats 4000000 in
theorem rtext_nat (n : Nat) (hn : n < 9223372036854775808) (w : World) :
    Calls Tryz.prog 48 #[.int .i64 n] w fun e w' => e = .returned (.string ⟨(Lib.decDigits n).toArray⟩) ∧ Below w.heap.size w w' := by
  have hne : ((n : Int) == -9223372036854775808) = false := beq_eq_false_iff_ne.2 (by omega)
  have h0 : ¬ (n : Int) < 0 := by omega
  go_enter Tryz.func48, Tryz.ntmps48
  go_wp2_with fail
  clear hne h0
  go_loopw [0, 3] (fun vn vo wr => ∃ (u f : Nat) (o : ByteArray), vn = .int .i64 u ∧ vo = .string o ∧ u < 9223372036854775808 ∧ f + o.size ≤ 20 ∧ Hid (u < 10 ^ f) ∧ Hid (RxJ n u o.data.toList) ∧ Below w.heap.size w wr) (fun vn vo _ => rxM vn vo)
  case atStart => exact ⟨n, 19, ⟨#[]⟩, rfl, rfl, hn, by decide, Nat.lt_of_lt_of_le hn (by decide), .inl ⟨rfl, rfl⟩, Below.refl _ _⟩
  case round =>
    obtain ⟨u, f, o, rfl, rfl, hu, hfo, hf, hj, hB⟩ := hrel
    have HU : Hid (u < 9223372036854775808) := hu
    clear hu
    have ho : (o.size : Int) ≤ 20 := by omega
    have HN : Hid (n < 9223372036854775808) := hn
    clear hn
    obtain ⟨b, hb1, hb2⟩ : ∃ b : UInt8, (b.toNat : Int) = 48 + (u : Int) % 10 ∧ b = UInt8.ofNat (48 + u % 10) := ⟨_, by rw [rx_u8_48 _ (by omega)]; omega, rfl⟩
    by_cases hz : o.size = 0
    · have hcv := rx_conv1 wr (48 + (u : Int) % 10) b hb1
      have hcat := fun W : World => run_string_add (P := Tryz.prog) (w := W) ⟨#[b]⟩ o (show ((1 : Nat) : Int) ≤ 8388608 by decide) (by omega)
      have HS : Hid (RxJ n (u / 10) ((⟨#[b]⟩ : ByteArray) ++ o).data.toList) := by
        rw [Hid, rx_cons_data, hb2]; exact rx_JD_step hj.out (.inl (List.eq_nil_of_length_eq_zero hz))
      have HF : Hid (∃ f', f' + ((⟨#[b]⟩ : ByteArray) ++ o).size ≤ 20 ∧ u / 10 < 10 ^ f') := by
        rw [Hid, rx_cons_size1]
        have h := hf.out
        cases f with
        | zero => exact ⟨0, by omega, by have : u < 1 := h; omega⟩
        | succ f' => exact ⟨f', by omega, by rw [Nat.pow_succ, Nat.mul_comm] at h; exact Nat.div_lt_of_lt_mul h⟩
      have HM : Hid (rxM (.int .i64 ((u / 10 : Nat) : Int)) (.string ((⟨#[b]⟩ : ByteArray) ++ o)) < rxM (.int .i64 (u : Int)) (.string o)) := rx_msr_lt (.inl hz) (by omega) (fun h => by omega) (rx_cons_size _ _)
      clear hb1 hb2
      have he := empty_of hz
      subst he
      go_wp2
      go_roundw
      case rel => obtain ⟨f', q1, q2⟩ := HF.out; have hu := HU.out; exact ⟨u / 10, f', _, by rw [rx_wrap64_in _ (by omega) (by omega)]; go_num, rfl, by omega, q1, q2, HS, hB.alloc hB.size _⟩
      case measure => have hu := HU.out; rw [rx_wrap64_in _ (by omega) (by omega)]; exact HM.out
    · by_cases hpos : (0 : Int) < (u : Int)
      · have hcv := rx_conv1 wr (48 + (u : Int) % 10) b hb1
        have hcat := fun W : World => run_string_add (P := Tryz.prog) (w := W) ⟨#[b]⟩ o (show ((1 : Nat) : Int) ≤ 8388608 by decide) (by omega)
        have HS : Hid (RxJ n (u / 10) ((⟨#[b]⟩ : ByteArray) ++ o).data.toList) := by
          rw [Hid, rx_cons_data, hb2]; exact rx_JD_step hj.out (.inr (by omega))
        have HF : Hid (∃ f', f' + ((⟨#[b]⟩ : ByteArray) ++ o).size ≤ 20 ∧ u / 10 < 10 ^ f') := by
          rw [Hid, rx_cons_size1]
          have h := hf.out
          cases f with
          | zero => exact ⟨0, by have : u < 1 := h; omega, by have : u < 1 := h; omega⟩
          | succ f' => exact ⟨f', by omega, by rw [Nat.pow_succ, Nat.mul_comm] at h; exact Nat.div_lt_of_lt_mul h⟩
        have HM : Hid (rxM (.int .i64 ((u / 10 : Nat) : Int)) (.string ((⟨#[b]⟩ : ByteArray) ++ o)) < rxM (.int .i64 (u : Int)) (.string o)) := rx_msr_lt (.inr (by omega)) (by omega) (fun h => by omega) (rx_cons_size _ _)
        clear hb1 hb2
        have hne2 := isEmpty_of hz
        clear hz
        go_wp2
        go_roundw
        case rel => obtain ⟨f', q1, q2⟩ := HF.out; have hu := HU.out; exact ⟨u / 10, f', _, by rw [rx_wrap64_in _ (by omega) (by omega)]; go_num, rfl, by omega, q1, q2, HS, hB.alloc hB.size _⟩
        case measure => have hu := HU.out; rw [rx_wrap64_in _ (by omega) (by omega)]; exact HM.out
      · have hu0 : u = 0 := by omega
        have HE : Hid (o = ⟨(Lib.decDigits n).toArray⟩) := by
          have h := hj.out
          rw [hu0] at h
          exact rx_bytes_ext (rx_JD_end h (fun e => hz (congrArg List.length e)))
        have hne2 := isEmpty_of hz
        clear hz hb1 hb2
        go_wp2
        go_ret
        exact ⟨rx_ret_s HE.out, hB⟩
theorem itoa_nat (n : Nat) : itoaS (n : Int) = ⟨(Lib.decDigits n).toArray⟩ := by
  unfold itoaS Lib.itoa
  rw [if_neg (by omega), Int.toNat_natCast]
theorem rtext_pos (n : Int) (h0 : 0 ≤ n) (h1 : n < 9223372036854775808) (w : World) : Calls Tryz.prog 48 #[.int .i64 n] w fun e w' => e = .returned (.string (itoaS n)) ∧ Below w.heap.size w w' := by
  obtain ⟨k, rfl⟩ : ∃ k : Nat, n = k := ⟨n.toNat, by omega⟩
  rw [itoa_nat]
  exact rtext_nat k (by omega) w
end Go.Proofs.YtjdplideehlblaaGreatDoor

/- The reference's Line and Write. -/
namespace Go.Proofs.YtjdplideehlblaaGreatDoor
open Go.ChangeShapes Go.WideShapes Go.ChangeAt Go.RowKit
set_option linter.unusedVariables false

def tailW (ws : List ByteArray) : List UInt8 := ws.flatMap fun x => 32 :: x.data.toList
theorem tailW_app (a b : List ByteArray) : tailW (a ++ b) = tailW a ++ tailW b := List.flatMap_append
def wsP (s : SlotP) : List ByteArray := s.n :: ((numsP s).map itoaS ++ s.h)
theorem wsP_len (s : SlotP) : (wsP s).length = 7 + s.h.length := by
  unfold wsP
  rw [List.length_cons, List.length_append, List.length_map, numsP_len]
  omega
def preP (s : SlotP) (i : Nat) : List UInt8 := [115, 108, 111, 116] ++ tailW ((wsP s).take i)
theorem preP_succ {s : SlotP} {i : Nat} {x : ByteArray} (h : (wsP s)[i]? = some x) : preP s (i + 1) = preP s i ++ 32 :: x.data.toList := by
  obtain ⟨hi, e⟩ := List.getElem?_eq_some_iff.1 h
  unfold preP
  rw [List.take_succ_eq_append_getElem hi, tailW_app, e, List.append_assoc]
  congr 2
  show (32 :: x.data.toList) ++ [] = _
  rw [List.append_nil]
theorem preP_one (s : SlotP) : preP s 1 = [115, 108, 111, 116, 32] ++ s.n.data.toList := by
  show [115, 108, 111, 116] ++ ((32 :: s.n.data.toList) ++ []) = _
  rw [List.append_nil]
  rfl
theorem joinT_tail (ws : List ByteArray) : Lib.joinTail [32] (ws.map (·.data.toList)) = tailW ws := by
  induction ws with
  | nil => rfl
  | cons x l ih =>
    unfold Lib.joinTail tailW at *
    rw [List.map_cons, List.map_cons, List.flatten_cons, List.flatMap_cons, ih]
    rfl
theorem preP_end (s : SlotP) : preP s (7 + s.h.length) ++ [10] = lineP s := by
  unfold lineP preP
  rw [← wsP_len, List.take_length]
  have e : wordsP s = ⟨#[115, 108, 111, 116]⟩ :: wsP s := by
    unfold wordsP wsP
    simp
  rw [e, List.map_cons, Lib.join_cons, joinT_tail]
theorem preP_le (s : SlotP) (i : Nat) : (preP s i).length + 1 ≤ (lineP s).length := by
  rw [← preP_end, ← wsP_len]
  unfold preP
  rw [List.take_length, List.length_append, List.length_append, List.length_append]
  have e : tailW (wsP s) = tailW ((wsP s).take i) ++ tailW ((wsP s).drop i) := by rw [← tailW_app, List.take_append_drop]
  rw [e, List.length_append]
  simp
theorem wsP_num (s : SlotP) (i : Nat) (h : i < 6) : (wsP s)[i + 1]? = some (itoaS ((numsP s)[i]'h)) := by
  unfold wsP
  rw [List.getElem?_cons_succ, List.getElem?_append_left (by rw [List.length_map, numsP_len]; exact h), List.getElem?_map, List.getElem?_eq_getElem (by rw [numsP_len]; exact h)]
  rfl
theorem wsP_host (s : SlotP) (k : Nat) (h : k < s.h.length) : (wsP s)[k + 6 + 1]? = some s.h[k] := by
  unfold wsP
  rw [List.getElem?_cons_succ, List.getElem?_append_right (by rw [List.length_map, numsP_len]; omega), List.length_map, numsP_len, Nat.add_sub_cancel, List.getElem?_eq_getElem h]
theorem ba_of {o : ByteArray} {l : List UInt8} (h : o.data.toList = l) : o = ⟨l.toArray⟩ := rx_bytes_ext h
theorem rd_cat (a b : ByteArray) : (a ++ b).data.toList = a.data.toList ++ b.data.toList := by rw [Joins.data_append]
theorem ba_size (o : ByteArray) : o.size = o.data.toList.length := rfl
/-- One more word: the two sums and what they give. -/
theorem word_step {s : SlotP} {i : Nat} {x o : ByteArray} (hx : (wsP s)[i]? = some x) (ho : o.data.toList = preP s i) (hL : (lineP s).length ≤ 100000000) :
    o.size + 1 ≤ 9223372036854775807 ∧ (o ++ (⟨#[32]⟩ : ByteArray)).size + x.size ≤ 9223372036854775807 ∧ ((o ++ (⟨#[32]⟩ : ByteArray)) ++ x).data.toList = preP s (i + 1) := by
  have e : ((o ++ (⟨#[32]⟩ : ByteArray)) ++ x).data.toList = preP s (i + 1) := by
    rw [rd_cat, rd_cat, ho, preP_succ hx, List.append_assoc]
    rfl
  have l1 := preP_le s i
  have l2 := preP_le s (i + 1)
  rw [← e, rd_cat, List.length_append, ← ba_size, ← ba_size] at l2
  rw [← ho, ← ba_size] at l1
  exact ⟨by omega, by omega, e⟩
structure NB1 (s : SlotP) : Prop where
  all : ∀ (k : Nat) (hk : k < 6), 0 ≤ (numsP s)[k]'hk ∧ (numsP s)[k]'hk < 9223372036854775808
set_option maxRecDepth 100000 in
set_option maxHeartbeats 4000000 in
theorem r9line_any (s : SlotP) (ha : Option Addr) (hc : Nat) (w : World) (hT : Txs w.heap.size w (.slice ha s.h.length hc) s.h) (hb : NB1 s) (hL : (lineP s).length ≤ 100000000) : Calls Tryz.prog 42 #[.agg (slotV s ha hc)] w fun e w' => e = .returned (.string ⟨(lineP s).toArray⟩) ∧ Below w.heap.size w w' := by
  have HNU : Hid (∀ W, Calls Tryz.prog 26 #[.agg (slotV s ha hc)] W fun e w' => ∃ b, e = .returned (.slice (some ⟨b, 0, none⟩) 6 6) ∧ w'.heap[b]? = some (.cells #[.int .i64 s.q, .int .i64 s.c, .int .i64 s.p, .int .i64 s.r, .int .i64 s.b, .int .i64 s.u] 3) ∧ W.heap.size ≤ b ∧ Below W.heap.size W w') := fun W => r9numbers_any s ha hc W
  have HTX : Hid (Txs w.heap.size w (.slice ha s.h.length hc) s.h) := hT
  have HSTEP : Hid (∀ (i : Nat) (x o : ByteArray), (wsP s)[i]? = some x → o.data.toList = preP s i → o.size + 1 ≤ 9223372036854775807 ∧ (o ++ (⟨#[32]⟩ : ByteArray)).size + x.size ≤ 9223372036854775807 ∧ ((o ++ (⟨#[32]⟩ : ByteArray)) ++ x).data.toList = preP s (i + 1)) := fun i x o hx ho => word_step hx ho hL
  have HNB : Hid (NB1 s) := hb
  have HEND : Hid (∀ o : ByteArray, o.data.toList = preP s (7 + s.h.length) → o.size + 1 ≤ 9223372036854775807 ∧ o ++ (⟨#[10]⟩ : ByteArray) = ⟨(lineP s).toArray⟩) := fun o ho => by
    refine ⟨?_, rx_bytes_ext ?_⟩
    · have := preP_le s (7 + s.h.length)
      rw [← ho, ← ba_size] at this
      omega
    · rw [rd_cat, ho, ← preP_end]
  have h1 : (5 : Nat) + s.n.size ≤ 9223372036854775807 := by
    have := preP_le s 1
    rw [preP_one, List.length_append, ← ba_size] at this
    have e5 : ([115, 108, 111, 116, 32] : List UInt8).length = 5 := rfl
    rw [e5] at this
    omega
  have c0 := fun W : World => run_string_add_sum (P := Tryz.prog) W ⟨#[115, 108, 111, 116, 32]⟩ s.n h1
  have HS1 : Hid (((⟨#[115, 108, 111, 116, 32]⟩ : ByteArray) ++ s.n).data.toList = preP s 1) := by
    rw [Hid, rd_cat, preP_one]
  generalize (⟨(lineP s).toArray⟩ : ByteArray) = R at *
  clear hT hb hL h1
  unfold slotV at *
  go_enter Tryz.func42, Tryz.ntmps42
  go_wp2_with fail
  refine (HNU.out _).mono ?_
  rintro e w2 ⟨b, rfl, hnb, hbb, B2⟩
  have z0 : w2.heap[w.heap.size]? = some (.cells #[.string s.n, .slice ha s.h.length hc, .int .i64 s.q, .int .i64 s.c, .int .i64 s.p, .int .i64 s.r, .int .i64 s.b, .int .i64 s.u] 33) := (B2.block _ (by simp)).trans (new_at _ _)
  have D2 : Below w.heap.size w w2 := ((Below.refl _ _).alloc (Nat.le_refl _) _).trans (B2.mono (by simp))
  have Z0 : Hid (w2.heap[w.heap.size]? = some (.cells #[.string s.n, .slice ha s.h.length hc, .int .i64 s.q, .int .i64 s.c, .int .i64 s.p, .int .i64 s.r, .int .i64 s.b, .int .i64 s.u] 33)) := z0
  have HNC : Hid (w2.heap[b]? = some (.cells #[.int .i64 s.q, .int .i64 s.c, .int .i64 s.p, .int .i64 s.r, .int .i64 s.b, .int .i64 s.u] 3)) := hnb
  clear HNU hnb hbb B2 z0 c0
  generalize (⟨#[115, 108, 111, 116, 32]⟩ : ByteArray) ++ s.n = o1 at *
  go_wp2_with fail
  go_loopw [3, 5] (fun v3 v wr => ∃ (k : Nat) (o : ByteArray), k ≤ 6 ∧ v = .int .i64 k ∧ v3 = .string o ∧ Below w2.heap.size w2 wr ∧ Hid (o.data.toList = preP s (k + 1))) (fun _ v _ => 6 - (intOf v).toNat)
  case atStart => exact ⟨0, o1, Nat.zero_le _, rfl, rfl, Below.refl _ _, HS1⟩
  case round =>
    obtain ⟨k, o, hk, rfl, rfl, hB, hA⟩ := hrel
    clear HS1
    by_cases hlt : k < 6
    · have t0 := (hB.cell (p := ⟨b, k, none⟩) (heap_lt HNC.out)).trans (nums_cell hlt HNC.out)
      obtain ⟨n0, n1⟩ := HNB.out.all k hlt
      have HT : Hid (∀ W, Calls Tryz.prog 48 #[.int .i64 ((numsP s)[k]'hlt)] W fun e w' => e = .returned (.string (itoaS ((numsP s)[k]'hlt))) ∧ Below W.heap.size W w') := fun W => rtext_pos _ n0 n1 W
      obtain ⟨s1, s2, s3⟩ := HSTEP.out (k + 1) _ o (wsP_num s k hlt) hA.out
      have HS3 : Hid (((o ++ (⟨#[32]⟩ : ByteArray)) ++ itoaS ((numsP s)[k]'hlt)).data.toList = preP s (k + 1 + 1)) := s3
      have c1 := fun W : World => run_string_add_sum (P := Tryz.prog) W o ⟨#[32]⟩ s1
      have c2 := fun W : World => run_string_add_sum (P := Tryz.prog) W (o ++ (⟨#[32]⟩ : ByteArray)) (itoaS ((numsP s)[k]'hlt)) s2
      clear s1 s2 s3 HSTEP HEND HTX HNB Z0 HNC hA n0 n1
      generalize itoaS ((numsP s)[k]'hlt) = x at *
      generalize (numsP s)[k]'hlt = nk at *
      generalize o ++ (⟨#[32]⟩ : ByteArray) = o2 at *
      generalize o2 ++ x = o3 at *
      go_wp2_with fail
      refine (HT.out _).mono ?_
      rintro e w5 ⟨rfl, B5⟩
      clear HT
      go_wp2
      go_roundw
      case rel => exact ⟨k + 1, o3, by omega, by go_num, rfl, hB.trans (B5.mono hB.size), HS3⟩
      case measure => simp [intOf]; omega
    · have hk6 : k = 6 := by omega
      subst hk6
      have hlh : s.h.length ≤ 9223372036854775807 := by
        obtain ⟨a2, c2, e2, _, q2, q3, _⟩ := HTX.out
        unfold maxLen at q3
        omega
      have D3 := D2.trans (hB.mono D2.size)
      have x1 : wr.cell? ⟨w.heap.size, 1, none⟩ = some (.slice ha s.h.length hc) := ring_cell ((hB.block _ (heap_lt Z0.out)).trans Z0.out) rfl
      clear HNC HNB hlt Z0
      go_wp2_with fail
      go_loop [3, 6] (fun v3 v => ∃ (m : Nat) (o : ByteArray), m ≤ s.h.length ∧ v = .int .i64 m ∧ v3 = .string o ∧ Hid (o.data.toList = preP s (m + 6 + 1))) (fun _ v => s.h.length - (intOf v).toNat)
      case atStart => exact ⟨0, o, Nat.zero_le _, rfl, rfl, hA⟩
      case round =>
        clear hA
        obtain ⟨m, o, hm, rfl, rfl, hA⟩ := hrel
        by_cases hltm : m < s.h.length
        · obtain ⟨a2, c2, e2, _, _, q3, q4⟩ := HTX.out
          obtain ⟨rfl, _, rfl⟩ := slice_inj e2
          obtain ⟨gh, oh, rfl, hgh, hcc⟩ := q4 (by omega)
          have t1 := (D3.cell (p := ⟨gh, oh + m, none⟩) hgh).trans (hcc m hltm)
          unfold maxLen at q3
          obtain ⟨s1, s2, s3⟩ := HSTEP.out (m + 6 + 1) _ o (wsP_host s m hltm) hA.out
          have HS3 : Hid (((o ++ (⟨#[32]⟩ : ByteArray)) ++ s.h[m]).data.toList = preP s (m + 1 + 6 + 1)) := by
            rw [Hid, show m + 1 + 6 + 1 = m + 6 + 1 + 1 by omega]
            exact s3
          have c1 := fun W : World => run_string_add_sum (P := Tryz.prog) W o ⟨#[32]⟩ s1
          have c2 := fun W : World => run_string_add_sum (P := Tryz.prog) W (o ++ (⟨#[32]⟩ : ByteArray)) s.h[m] s2
          clear s1 s2 s3 HSTEP HEND HTX hA hcc q4 e2
          generalize s.h[m] = x at *
          generalize s.h.length = lh at *
          generalize o ++ (⟨#[32]⟩ : ByteArray) = o2 at *
          generalize o2 ++ x = o3 at *
          go_wp2
          go_round
          case rel => exact ⟨m + 1, o3, by omega, by go_num, rfl, HS3⟩
          case measure => simp [intOf]; omega
        · have hm' : m = s.h.length := by omega
          subst hm'
          obtain ⟨s1, rfl⟩ := HEND.out o (by have h := hA.out; rw [show s.h.length + 6 + 1 = 7 + s.h.length by omega] at h; exact h)
          have c1 := fun W : World => run_string_add_sum (P := Tryz.prog) W o ⟨#[10]⟩ s1
          clear s1 HSTEP HEND HTX hA
          generalize s.h.length = lh at *
          go_wp2
          go_ret
          exact ⟨rfl, D3⟩
theorem tellP_succ {ts : List SlotP} {i : Nat} (hi : i < ts.length) : tellP (ts.take (i + 1)) = tellP (ts.take i) ++ lineP ts[i] := by
  unfold tellP
  rw [List.take_succ_eq_append_getElem hi, List.flatMap_append]
  congr 1
  rw [List.flatMap_cons, List.flatMap_nil, List.append_nil]
theorem tellP_pre (ts : List SlotP) (i : Nat) : (tellP (ts.take i)).length ≤ (tellP ts).length := by
  have e : tellP ts = tellP (ts.take i) ++ tellP (ts.drop i) := by
    unfold tellP
    rw [← List.flatMap_append, List.take_append_drop]
  rw [e, List.length_append]
  omega
set_option maxRecDepth 100000 in
set_option maxHeartbeats 4000000 in
theorem r9write_any (ts : List SlotP) (a : Option Addr) (c : Nat) (w : World) (hf : Sls w.heap.size w (.slice a ts.length c) ts) (hb : ∀ s ∈ ts, NB1 s) (hL : (tellP ts).length ≤ 100000000) :
    Calls Tryz.prog 18 #[.slice a ts.length c] w fun e w' => e = .returned (.string ⟨(tellP ts).toArray⟩) ∧ Below w.heap.size w w' := by
  have hlm := hf.len
  unfold maxLen at hlm
  have HF : Hid (Sls w.heap.size w (.slice a ts.length c) ts) := hf
  have HSTEP : Hid (∀ (i : Nat) (hi : i < ts.length) (o : ByteArray), o.data.toList = tellP (ts.take i) → o.size + (⟨(lineP ts[i]).toArray⟩ : ByteArray).size ≤ 9223372036854775807 ∧ (o ++ (⟨(lineP ts[i]).toArray⟩ : ByteArray)).data.toList = tellP (ts.take (i + 1)) ∧ (lineP ts[i]).length ≤ 100000000) := fun i hi o ho => by
    have l := tellP_pre ts (i + 1)
    have e : (o ++ (⟨(lineP ts[i]).toArray⟩ : ByteArray)).data.toList = tellP (ts.take (i + 1)) := by
      rw [rd_cat, ho, tellP_succ hi]
    rw [tellP_succ hi, List.length_append, ← ho, ← ba_size] at l
    have z : (⟨(lineP ts[i]).toArray⟩ : ByteArray).size = (lineP ts[i]).length := rfl
    exact ⟨by omega, e, by omega⟩
  have HNB : Hid (∀ s ∈ ts, NB1 s) := hb
  have HEND : Hid (∀ o : ByteArray, o.data.toList = tellP (ts.take ts.length) → o = ⟨(tellP ts).toArray⟩) := fun o ho => by
    rw [List.take_length] at ho
    exact rx_bytes_ext ho
  generalize (⟨(tellP ts).toArray⟩ : ByteArray) = R at *
  clear hf hb hL
  go_enter Tryz.func18, Tryz.ntmps18
  go_wp2_with fail
  go_loopw [3, 4] (fun v3 v4 wr => ∃ (i : Nat) (o : ByteArray), i ≤ ts.length ∧ v4 = .int .i64 i ∧ v3 = .string o ∧ Below w.heap.size w wr ∧ Hid (o.data.toList = tellP (ts.take i))) (fun _ v4 _ => ts.length - (intOf v4).toNat)
  case atStart => exact ⟨0, ⟨#[]⟩, Nat.zero_le _, rfl, rfl, Below.refl _ _, rfl⟩
  case round =>
    obtain ⟨i, o, hi, rfl, rfl, hB, hA⟩ := hrel
    by_cases hlt : i < ts.length
    · obtain ⟨a1, c1, e1, _, _, _, h4⟩ := HF.out
      obtain ⟨rfl, _, rfl⟩ := slice_inj e1
      obtain ⟨g, off, rfl, hg, hc⟩ := h4 (by omega)
      obtain ⟨ha, hcp, d0, d1, d2, d3, d4, d5, d6, d7, kt⟩ := (hc i hlt).keep hg hB
      obtain ⟨s1, s2, s3⟩ := HSTEP.out i hlt o hA.out
      have HL : Hid (Calls Tryz.prog 42 #[.agg (slotV ts[i] ha hcp)] wr fun e w' => e = .returned (.string ⟨(lineP ts[i]).toArray⟩) ∧ Below wr.heap.size wr w') := r9line_any ts[i] ha hcp wr (kt.mono hB.size) (HNB.out _ (List.getElem_mem hlt)) s3
      have HS2 : Hid ((o ++ (⟨(lineP ts[i]).toArray⟩ : ByteArray)).data.toList = tellP (ts.take (i + 1))) := s2
      have c1 := fun W : World => run_string_add_sum (P := Tryz.prog) W o (⟨(lineP ts[i]).toArray⟩ : ByteArray) s1
      clear s1 s2 s3 HSTEP HEND HNB hA HF hc h4 e1 kt
      generalize (⟨(lineP ts[i]).toArray⟩ : ByteArray) = x at *
      generalize ts[i] = si at *
      generalize o ++ x = o3 at *
      unfold slotV at *
      go_wp2_with fail
      refine HL.out.mono ?_
      rintro e w5 ⟨rfl, B5⟩
      clear HL
      go_wp2
      go_roundw
      case rel => exact ⟨i + 1, o3, by omega, by go_num, rfl, hB.trans (B5.mono hB.size), HS2⟩
      case measure => simp [intOf]; omega
    · have hi' : i = ts.length := by omega
      subst hi'
      obtain rfl := HEND.out o hA.out
      clear HSTEP HEND HNB hA HF
      go_wp2
      go_ret
      exact ⟨rfl, hB⟩
end Go.Proofs.YtjdplideehlblaaGreatDoor
