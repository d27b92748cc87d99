/- The reference's Trim. -/
import Derived.Test.YtflgjhknobnnaabDoorTrimA
namespace Go.Proofs.YtflgjhknobnnaabDoor
open Go.RowKit
set_option linter.unusedVariables false

theorem ret_bT {x y : Bool} (h : x = y) : Ending.returned (.bool x) = .returned (.bool y) := by rw [h]
theorem ret_sT {x y : ByteArray} (h : x = y) : Ending.returned (.string x) = .returned (.string y) := by rw [h]
def szOf (v : Value) : Nat := match v with | .string x => x.size | _ => 0
theorem blk_eq (b : UInt8) : blk b = (decide ((b.toNat : Int) = 32) || decide ((b.toNat : Int) = 9)) := by
  have h : ∀ n : Nat, n < 256 → blk (UInt8.ofNat n) = (decide (((UInt8.ofNat n).toNat : Int) = 32) || decide (((UInt8.ofNat n).toNat : Int) = 9)) := by decide +kernel
  have k := h b.toNat b.toNat_lt
  rwa [UInt8.ofNat_toNat] at k
theorem blank_any (b : UInt8) (w : World) : Calls Tryd.prog 54 #[.int .u8 (b.toNat : Int)] w fun e w' => e = .returned (.bool (blk b)) ∧ w' = w := by
  have hb := blk_eq b
  have hlt := b.toNat_lt
  by_cases h1 : (b.toNat : Int) = 32
  · have HB : Hid (true = blk b) := by rw [Hid, hb]; simp [h1]
    clear hb
    go_enter Tryd.func54, Tryd.ntmps54
    go_wp2
    go_ret
    exact ⟨ret_bT HB.out, rfl⟩
  · by_cases h2 : (b.toNat : Int) = 9
    · have HB : Hid (true = blk b) := by rw [Hid, hb]; simp [h2]
      have n1 : ((b.toNat : Int) == 32) = false := beq_eq_false_iff_ne.2 h1
      clear hb
      go_enter Tryd.func54, Tryd.ntmps54
      go_wp2
      go_ret
      exact ⟨ret_bT HB.out, rfl⟩
    · have HB : Hid (false = blk b) := by rw [Hid, hb, decide_eq_false h1, decide_eq_false h2]; rfl
      have n1 : ((b.toNat : Int) == 32) = false := beq_eq_false_iff_ne.2 h1
      have n2 : ((b.toNat : Int) == 9) = false := beq_eq_false_iff_ne.2 h2
      clear hb
      go_enter Tryd.func54, Tryd.ntmps54
      go_wp2
      go_ret
      exact ⟨ret_bT HB.out, rfl⟩

/-- What is left of a text whose first blanks were cut; whose last blanks were cut too. -/
def Lft (s x : ByteArray) : Prop := ∃ a : List UInt8, (∀ b ∈ a, blk b = true) ∧ s.data.toList = a ++ x.data.toList
def Mid (s y : ByteArray) : Prop := ∃ a q : List UInt8, (∀ b ∈ a, blk b = true) ∧ (∀ b ∈ q, blk b = true) ∧ s.data.toList = a ++ y.data.toList ++ q ∧ NF y.data.toList
theorem ext_data (x : ByteArray) (i j : Nat) : (x.extract i j).data.toList = (x.data.toList.take j).drop i := by
  rw [Lib.extract_data, List.drop_take]
theorem Lft.mid {s x : ByteArray} (h : Lft s x) (hf : NF x.data.toList) : Mid s x := by
  obtain ⟨a, ha, e⟩ := h
  exact ⟨a, [], ha, (fun _ h => by cases h), by rw [List.append_nil]; exact e, hf⟩
theorem first_t {x : ByteArray} (h : 0 < x.size) : x.data.toList = x[0] :: x.data.toList.drop 1 := by
  have h' : 0 < x.data.toList.length := h
  have e := List.drop_eq_getElem_cons h'
  rw [List.drop_zero] at e
  exact e
theorem last_t {y : ByteArray} {n : Nat} (hn : y.size = n + 1) : y.data.toList.getLast? = some (y[n]'(by omega)) := by
  have hl : y.data.toList.length = n + 1 := hn
  rw [List.getLast?_eq_getElem?, hl, Nat.add_sub_cancel, List.getElem?_eq_getElem (by omega)]
  rfl
theorem take_t {y : ByteArray} {n : Nat} (hn : y.size = n + 1) : y.data.toList = y.data.toList.take n ++ [y[n]'(by omega)] := by
  have hl : y.data.toList.length = n + 1 := hn
  have e := List.take_succ_eq_append_getElem (l := y.data.toList) (i := n) (by omega)
  rw [List.take_of_length_le (by omega)] at e
  exact e
theorem Lft.cut {s x : ByteArray} (h : Lft s x) (hp : 0 < x.size) (hb : blk x[0] = true) : Lft s (x.extract 1 x.size) := by
  obtain ⟨a, ha, e⟩ := h
  refine ⟨a ++ [x[0]], fun b hm => ?_, ?_⟩
  · rcases List.mem_append.1 hm with hm | hm
    · exact ha b hm
    · rw [List.mem_singleton.1 hm]; exact hb
  · rw [ext_data, List.take_of_length_le (show x.data.toList.length ≤ x.size from Nat.le_refl _), e, List.append_assoc, List.singleton_append, ← first_t hp]
theorem Mid.cut {s y : ByteArray} {n : Nat} (h : Mid s y) (hn : y.size = n + 1) (hb : blk (y[n]'(by omega)) = true) : Mid s (y.extract 0 n) := by
  obtain ⟨a, q, ha, hq, e, hf⟩ := h
  refine ⟨a, (y[n]'(by omega)) :: q, ha, fun b hm => ?_, ?_, ?_⟩
  · cases hm with
    | head => exact hb
    | tail _ hm => exact hq b hm
  · rw [ext_data, List.drop_zero, e]
    conv => lhs; rw [take_t hn]
    simp
  · rw [ext_data, List.drop_zero]
    intro b hb'
    refine hf b ?_
    rw [take_t hn]
    cases hq2 : y.data.toList.take n with
    | nil => rw [hq2] at hb'; simp at hb'
    | cons c r => rw [hq2] at hb'; exact hb'
theorem Mid.fin {s y : ByteArray} (h : Mid s y) (hl : NL y.data.toList) : y = trimT s := by
  obtain ⟨a, q, ha, hq, e, hf⟩ := h
  refine bytes_eq ?_
  unfold trimT
  rw [e]
  exact (trim_around a _ q ha hq hf hl).symm

set_option maxRecDepth 100000 in
set_option maxHeartbeats 4000000 in
theorem rtrim_any (s : ByteArray) (w : World) (hs : s.size ≤ 140737488355328) : Calls Tryd.prog 43 #[.string s] w fun e w' => e = .returned (.string (trimT s)) ∧ w' = w := by
  go_enter Tryd.func43, Tryd.ntmps43
  go_wp2_with fail
  go_loopw [0] (fun v wr => ∃ x : ByteArray, v = .string x ∧ Hid (Lft s x) ∧ x.size ≤ s.size ∧ Hid (wr = w)) (fun v _ => szOf v)
  case atStart => exact ⟨s, rfl, ⟨[], (fun _ h => by cases h), rfl⟩, Nat.le_refl _, rfl⟩
  case round =>
    obtain ⟨x, rfl, hl, hxs, hB⟩ := hrel
    by_cases hz : x.size = 0
    · have h0 : ¬ (0 : Int) < (x.size : Int) := by omega
      have HM : Hid (Mid s x) := hl.out.mid (fun b hb => by rw [empty_t hz] at hb; cases hb)
      clear hz hl
      go_wp2_with fail
      clear h0
      go_loopw [0] (fun v wr => ∃ y : ByteArray, v = .string y ∧ Hid (Mid s y) ∧ y.size ≤ s.size ∧ Hid (wr = w)) (fun v _ => szOf v)
      case atStart => exact ⟨x, rfl, HM, hxs, hB⟩
      case round =>
        obtain ⟨y, rfl, hmid, hys, hB2⟩ := hrel
        clear hB HM
        by_cases hz2 : y.size = 0
        · have HE : Hid (y = trimT s) := hmid.out.fin (fun b hb => by rw [empty_t hz2] at hb; cases hb)
          have h0 : ¬ (0 : Int) < (y.size : Int) := by omega
          clear hz2
          go_wp2
          go_ret
          exact ⟨ret_sT HE.out, hB2.out⟩
        · obtain ⟨n, hn⟩ : ∃ n, y.size = n + 1 := ⟨y.size - 1, by omega⟩
          have h0 : (0 : Int) < (y.size : Int) := by omega
          have hi : (y.size : Int) - 1 = (n : Int) := by omega
          have hlt : n < y.size := by omega
          clear hz2
          go_wp2_with fail
          refine (blank_any y[n] _).mono ?_
          rintro e w3 ⟨rfl, rfl⟩
          by_cases hb : blk y[n] = true
          · have HM2 : Hid (Mid s (y.extract 0 n)) := hmid.out.cut hn hb
            have hsz2 : (y.extract 0 n).size = n := by rw [ByteArray.size_extract]; omega
            go_wp2
            go_roundw
            case rel => exact ⟨_, rfl, HM2, by omega, hB2⟩
            case measure => simp only [szOf]; omega
          · have HE : Hid (y = trimT s) := hmid.out.fin (fun b hb' => by
              rw [last_t hn] at hb'
              rw [← Option.some.inj hb']; simpa using hb)
            have hb0 : blk y[n] = false := by simpa using hb
            go_wp2
            go_ret
            exact ⟨ret_sT HE.out, hB2.out⟩
    · have h0 : (0 : Int) < (x.size : Int) := by omega
      have hp : 0 < x.size := by omega
      clear hz
      go_wp2_with fail
      refine (blank_any x[0] _).mono ?_
      rintro e w2 ⟨rfl, rfl⟩
      by_cases hb : blk x[0] = true
      · have HM2 : Hid (Lft s (x.extract 1 x.size)) := hl.out.cut hp hb
        have hsz2 : (x.extract 1 x.size).size = x.size - 1 := by rw [ByteArray.size_extract]; omega
        go_wp2
        go_roundw
        case rel => exact ⟨_, rfl, HM2, by omega, hB⟩
        case measure => simp only [szOf]; omega
      · have HM : Hid (Mid s x) := hl.out.mid (fun b hb' => by
          rw [first_t hp] at hb'
          rw [← Option.some.inj hb']; simpa using hb)
        have hb0 : blk x[0] = false := by simpa using hb
        clear hl hb
        go_wp2_with fail
        clear h0 hb0
        go_loopw [0] (fun v wr => ∃ y : ByteArray, v = .string y ∧ Hid (Mid s y) ∧ y.size ≤ s.size ∧ Hid (wr = w)) (fun v _ => szOf v)
        case atStart => exact ⟨x, rfl, HM, hxs, hB⟩
        case round =>
          obtain ⟨y, rfl, hmid, hys, hB2⟩ := hrel
          clear hB HM
          by_cases hz2 : y.size = 0
          · have HE : Hid (y = trimT s) := hmid.out.fin (fun b hb => by rw [empty_t hz2] at hb; cases hb)
            have h0 : ¬ (0 : Int) < (y.size : Int) := by omega
            clear hz2
            go_wp2
            go_ret
            exact ⟨ret_sT HE.out, hB2.out⟩
          · obtain ⟨n, hn⟩ : ∃ n, y.size = n + 1 := ⟨y.size - 1, by omega⟩
            have h0 : (0 : Int) < (y.size : Int) := by omega
            have hi : (y.size : Int) - 1 = (n : Int) := by omega
            have hlt : n < y.size := by omega
            clear hz2
            go_wp2_with fail
            refine (blank_any y[n] _).mono ?_
            rintro e w3 ⟨rfl, rfl⟩
            by_cases hb : blk y[n] = true
            · have HM2 : Hid (Mid s (y.extract 0 n)) := hmid.out.cut hn hb
              have hsz2 : (y.extract 0 n).size = n := by rw [ByteArray.size_extract]; omega
              go_wp2
              go_roundw
              case rel => exact ⟨_, rfl, HM2, by omega, hB2⟩
              case measure => simp only [szOf]; omega
            · have HE : Hid (y = trimT s) := hmid.out.fin (fun b hb' => by
                rw [last_t hn] at hb'
                rw [← Option.some.inj hb']; simpa using hb)
              have hb0 : blk y[n] = false := by simpa using hb
              go_wp2
              go_ret
              exact ⟨ret_sT HE.out, hB2.out⟩
end Go.Proofs.YtflgjhknobnnaabDoor
