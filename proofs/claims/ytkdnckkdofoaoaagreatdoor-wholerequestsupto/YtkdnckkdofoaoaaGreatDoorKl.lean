/- Texts that the proof leans on, one behind the other: RefA FldI FbA -/
import Derived.Test.YtkdnckkdofoaoaaGreatDoorKc
/- The reference's Trim. -/
namespace Go.Proofs.YtkdnckkdofoaoaaGreatDoor
open Go.RowKit
set_option linter.unusedVariables false

theorem ret_bT {x y : Bool} (h : x = y) : Ending.returned (.bool x) = .returned (.bool y) := by rw [h]
theorem ret_sT {x y : ByteArray} (h : x = y) : Ending.returned (.string x) = .returned (.string y) := by rw [h]
def szOf (v : Value) : Nat := match v with | .string x => x.size | _ => 0
theorem blk_eq (b : UInt8) : blk b = (decide ((b.toNat : Int) = 32) || decide ((b.toNat : Int) = 9)) := by
  have h : ∀ n : Nat, n < 256 → blk (UInt8.ofNat n) = (decide (((UInt8.ofNat n).toNat : Int) = 32) || decide (((UInt8.ofNat n).toNat : Int) = 9)) := by decide +kernel
  have k := h b.toNat b.toNat_lt
  rwa [UInt8.ofNat_toNat] at k
theorem blank_any (b : UInt8) (w : World) : Calls Tryz.prog 161 #[.int .u8 (b.toNat : Int)] w fun e w' => e = .returned (.bool (blk b)) ∧ w' = w := by
  have hb := blk_eq b
  have hlt := b.toNat_lt
  by_cases h1 : (b.toNat : Int) = 32
  · have HB : Hid (true = blk b) := by rw [Hid, hb]; simp [h1]
    clear hb
    go_enter Tryz.func161, Tryz.ntmps161
    go_wp2
    go_ret
    exact ⟨ret_bT HB.out, rfl⟩
  · by_cases h2 : (b.toNat : Int) = 9
    · have HB : Hid (true = blk b) := by rw [Hid, hb]; simp [h2]
      have n1 : ((b.toNat : Int) == 32) = false := beq_eq_false_iff_ne.2 h1
      clear hb
      go_enter Tryz.func161, Tryz.ntmps161
      go_wp2
      go_ret
      exact ⟨ret_bT HB.out, rfl⟩
    · have HB : Hid (false = blk b) := by rw [Hid, hb, decide_eq_false h1, decide_eq_false h2]; rfl
      have n1 : ((b.toNat : Int) == 32) = false := beq_eq_false_iff_ne.2 h1
      have n2 : ((b.toNat : Int) == 9) = false := beq_eq_false_iff_ne.2 h2
      clear hb
      go_enter Tryz.func161, Tryz.ntmps161
      go_wp2
      go_ret
      exact ⟨ret_bT HB.out, rfl⟩

/-- What is left of a text whose first blanks were cut; whose last blanks were cut too. -/
def Lft (s x : ByteArray) : Prop := ∃ a : List UInt8, (∀ b ∈ a, blk b = true) ∧ s.data.toList = a ++ x.data.toList
def Mid (s y : ByteArray) : Prop := ∃ a q : List UInt8, (∀ b ∈ a, blk b = true) ∧ (∀ b ∈ q, blk b = true) ∧ s.data.toList = a ++ y.data.toList ++ q ∧ NF y.data.toList
theorem ext_data (x : ByteArray) (i j : Nat) : (x.extract i j).data.toList = (x.data.toList.take j).drop i := by
  rw [Lib.extract_data, List.drop_take]
theorem Lft.mid {s x : ByteArray} (h : Lft s x) (hf : NF x.data.toList) : Mid s x := by
  obtain ⟨a, ha, e⟩ := h
  exact ⟨a, [], ha, (fun _ h => by cases h), by rw [List.append_nil]; exact e, hf⟩
theorem first_t {x : ByteArray} (h : 0 < x.size) : x.data.toList = x[0] :: x.data.toList.drop 1 := by
  have h' : 0 < x.data.toList.length := h
  have e := List.drop_eq_getElem_cons h'
  rw [List.drop_zero] at e
  exact e
theorem last_t {y : ByteArray} {n : Nat} (hn : y.size = n + 1) : y.data.toList.getLast? = some (y[n]'(by omega)) := by
  have hl : y.data.toList.length = n + 1 := hn
  rw [List.getLast?_eq_getElem?, hl, Nat.add_sub_cancel, List.getElem?_eq_getElem (by omega)]
  rfl
theorem take_t {y : ByteArray} {n : Nat} (hn : y.size = n + 1) : y.data.toList = y.data.toList.take n ++ [y[n]'(by omega)] := by
  have hl : y.data.toList.length = n + 1 := hn
  have e := List.take_succ_eq_append_getElem (l := y.data.toList) (i := n) (by omega)
  rw [List.take_of_length_le (by omega)] at e
  exact e
theorem Lft.cut {s x : ByteArray} (h : Lft s x) (hp : 0 < x.size) (hb : blk x[0] = true) : Lft s (x.extract 1 x.size) := by
  obtain ⟨a, ha, e⟩ := h
  refine ⟨a ++ [x[0]], fun b hm => ?_, ?_⟩
  · rcases List.mem_append.1 hm with hm | hm
    · exact ha b hm
    · rw [List.mem_singleton.1 hm]; exact hb
  · rw [ext_data, List.take_of_length_le (show x.data.toList.length ≤ x.size from Nat.le_refl _), e, List.append_assoc, List.singleton_append, ← first_t hp]
theorem Mid.cut {s y : ByteArray} {n : Nat} (h : Mid s y) (hn : y.size = n + 1) (hb : blk (y[n]'(by omega)) = true) : Mid s (y.extract 0 n) := by
  obtain ⟨a, q, ha, hq, e, hf⟩ := h
  refine ⟨a, (y[n]'(by omega)) :: q, ha, fun b hm => ?_, ?_, ?_⟩
  · cases hm with
    | head => exact hb
    | tail _ hm => exact hq b hm
  · rw [ext_data, List.drop_zero, e]
    conv => lhs; rw [take_t hn]
    simp
  · rw [ext_data, List.drop_zero]
    intro b hb'
    refine hf b ?_
    rw [take_t hn]
    cases hq2 : y.data.toList.take n with
    | nil => rw [hq2] at hb'; simp at hb'
    | cons c r => rw [hq2] at hb'; exact hb'
theorem Mid.fin {s y : ByteArray} (h : Mid s y) (hl : NL y.data.toList) : y = trimT s := by
  obtain ⟨a, q, ha, hq, e, hf⟩ := h
  refine bytes_eq ?_
  unfold trimT
  rw [e]
  exact (trim_around a _ q ha hq hf hl).symm

set_option maxRecDepth 100000 in
set_option maxHeartbeats 4000000 in
theorem rtrim_any (s : ByteArray) (w : World) (hs : s.size ≤ 140737488355328) : Calls Tryz.prog 130 #[.string s] w fun e w' => e = .returned (.string (trimT s)) ∧ w' = w := by
  go_enter Tryz.func130, Tryz.ntmps130
  go_wp2_with fail
  go_loopw [0] (fun v wr => ∃ x : ByteArray, v = .string x ∧ Hid (Lft s x) ∧ x.size ≤ s.size ∧ Hid (wr = w)) (fun v _ => szOf v)
  case atStart => exact ⟨s, rfl, ⟨[], (fun _ h => by cases h), rfl⟩, Nat.le_refl _, rfl⟩
  case round =>
    obtain ⟨x, rfl, hl, hxs, hB⟩ := hrel
    by_cases hz : x.size = 0
    · have h0 : ¬ (0 : Int) < (x.size : Int) := by omega
      have HM : Hid (Mid s x) := hl.out.mid (fun b hb => by rw [empty_t hz] at hb; cases hb)
      clear hz hl
      go_wp2_with fail
      clear h0
      go_loopw [0] (fun v wr => ∃ y : ByteArray, v = .string y ∧ Hid (Mid s y) ∧ y.size ≤ s.size ∧ Hid (wr = w)) (fun v _ => szOf v)
      case atStart => exact ⟨x, rfl, HM, hxs, hB⟩
      case round =>
        obtain ⟨y, rfl, hmid, hys, hB2⟩ := hrel
        clear hB HM
        by_cases hz2 : y.size = 0
        · have HE : Hid (y = trimT s) := hmid.out.fin (fun b hb => by rw [empty_t hz2] at hb; cases hb)
          have h0 : ¬ (0 : Int) < (y.size : Int) := by omega
          clear hz2
          go_wp2
          go_ret
          exact ⟨ret_sT HE.out, hB2.out⟩
        · obtain ⟨n, hn⟩ : ∃ n, y.size = n + 1 := ⟨y.size - 1, by omega⟩
          have h0 : (0 : Int) < (y.size : Int) := by omega
          have hi : (y.size : Int) - 1 = (n : Int) := by omega
          have hlt : n < y.size := by omega
          clear hz2
          go_wp2_with fail
          refine (blank_any y[n] _).mono ?_
          rintro e w3 ⟨rfl, rfl⟩
          by_cases hb : blk y[n] = true
          · have HM2 : Hid (Mid s (y.extract 0 n)) := hmid.out.cut hn hb
            have hsz2 : (y.extract 0 n).size = n := by rw [ByteArray.size_extract]; omega
            go_wp2
            go_roundw
            case rel => exact ⟨_, rfl, HM2, by omega, hB2⟩
            case measure => simp only [szOf]; omega
          · have HE : Hid (y = trimT s) := hmid.out.fin (fun b hb' => by
              rw [last_t hn] at hb'
              rw [← Option.some.inj hb']; simpa using hb)
            have hb0 : blk y[n] = false := by simpa using hb
            go_wp2
            go_ret
            exact ⟨ret_sT HE.out, hB2.out⟩
    · have h0 : (0 : Int) < (x.size : Int) := by omega
      have hp : 0 < x.size := by omega
      clear hz
      go_wp2_with fail
      refine (blank_any x[0] _).mono ?_
      rintro e w2 ⟨rfl, rfl⟩
      by_cases hb : blk x[0] = true
      · have HM2 : Hid (Lft s (x.extract 1 x.size)) := hl.out.cut hp hb
        have hsz2 : (x.extract 1 x.size).size = x.size - 1 := by rw [ByteArray.size_extract]; omega
        go_wp2
        go_roundw
        case rel => exact ⟨_, rfl, HM2, by omega, hB⟩
        case measure => simp only [szOf]; omega
      · have HM : Hid (Mid s x) := hl.out.mid (fun b hb' => by
          rw [first_t hp] at hb'
          rw [← Option.some.inj hb']; simpa using hb)
        have hb0 : blk x[0] = false := by simpa using hb
        clear hl hb
        go_wp2_with fail
        clear h0 hb0
        go_loopw [0] (fun v wr => ∃ y : ByteArray, v = .string y ∧ Hid (Mid s y) ∧ y.size ≤ s.size ∧ Hid (wr = w)) (fun v _ => szOf v)
        case atStart => exact ⟨x, rfl, HM, hxs, hB⟩
        case round =>
          obtain ⟨y, rfl, hmid, hys, hB2⟩ := hrel
          clear hB HM
          by_cases hz2 : y.size = 0
          · have HE : Hid (y = trimT s) := hmid.out.fin (fun b hb => by rw [empty_t hz2] at hb; cases hb)
            have h0 : ¬ (0 : Int) < (y.size : Int) := by omega
            clear hz2
            go_wp2
            go_ret
            exact ⟨ret_sT HE.out, hB2.out⟩
          · obtain ⟨n, hn⟩ : ∃ n, y.size = n + 1 := ⟨y.size - 1, by omega⟩
            have h0 : (0 : Int) < (y.size : Int) := by omega
            have hi : (y.size : Int) - 1 = (n : Int) := by omega
            have hlt : n < y.size := by omega
            clear hz2
            go_wp2_with fail
            refine (blank_any y[n] _).mono ?_
            rintro e w3 ⟨rfl, rfl⟩
            by_cases hb : blk y[n] = true
            · have HM2 : Hid (Mid s (y.extract 0 n)) := hmid.out.cut hn hb
              have hsz2 : (y.extract 0 n).size = n := by rw [ByteArray.size_extract]; omega
              go_wp2
              go_roundw
              case rel => exact ⟨_, rfl, HM2, by omega, hB2⟩
              case measure => simp only [szOf]; omega
            · have HE : Hid (y = trimT s) := hmid.out.fin (fun b hb' => by
                rw [last_t hn] at hb'
                rw [← Option.some.inj hb']; simpa using hb)
              have hb0 : blk y[n] = false := by simpa using hb
              go_wp2
              go_ret
              exact ⟨ret_sT HE.out, hB2.out⟩
end Go.Proofs.YtkdnckkdofoaoaaGreatDoor

/- Where a line's colon stands. -/
namespace Go.Proofs.YtkdnckkdofoaoaaGreatDoor
open Go.RowKit
set_option linter.unusedVariables false

theorem index_at : ∀ (l : List UInt8) (k : Nat), (∀ b ∈ l.take k, b ≠ 58) → l[k]? = some 58 → Lib.index l [58] = k
  | [], k, _, h => by simp at h
  | b :: l, 0, _, h => by
    have : b = 58 := by simpa using h
    subst this
    simp [Lib.index, List.isPrefixOf]
  | b :: l, k + 1, hn, h => by
    have hb : b ≠ 58 := hn b (by simp)
    have ih := index_at l k (fun c hc => hn c (by rw [List.take_succ_cons]; exact .tail _ hc)) (by simpa using h)
    have hp : ([58] : List UInt8).isPrefixOf (b :: l) = false := by simp [List.isPrefixOf, Ne.symm hb]
    rw [Lib.index, hp, ih, if_neg (by decide), if_neg (by simp)]
    omega
theorem index_no : ∀ (l : List UInt8), (∀ b ∈ l, b ≠ 58) → Lib.index l [58] = -1
  | [], _ => by simp [Lib.index]
  | b :: l, hn => by
    have hb : b ≠ 58 := hn b (.head _)
    have ih := index_no l (fun c hc => hn c (.tail _ hc))
    have hp : ([58] : List UInt8).isPrefixOf (b :: l) = false := by simp [List.isPrefixOf, Ne.symm hb]
    rw [Lib.index, hp, ih]
    simp
theorem prs_no (s : ByteArray) (h : ∀ b ∈ s.data.toList, b ≠ 58) : prs s = (⟨#[]⟩, ⟨#[]⟩, 20) := by
  unfold prs Lib.cut
  rw [index_no _ h]
  simp
theorem prs_at (s : ByteArray) (k : Nat) (hk : k < s.size) (h : ∀ b ∈ s.data.toList.take k, b ≠ 58) (hb : s[k] = 58) :
    prs s = if okF (s.extract 0 k) (trimT (s.extract (k + 1) s.size)) then (s.extract 0 k, trimT (s.extract (k + 1) s.size), 0) else (⟨#[]⟩, ⟨#[]⟩, 20) := by
  have hk' : k < s.data.toList.length := hk
  have hi := index_at s.data.toList k h (by rw [List.getElem?_eq_getElem hk']; exact congrArg some hb)
  have e1 : (⟨(s.data.toList.take k).toArray⟩ : ByteArray) = s.extract 0 k := bytes_eq (by rw [ext_data]; simp)
  have e2 : (⟨(s.data.toList.drop (k + 1)).toArray⟩ : ByteArray) = s.extract (k + 1) s.size := bytes_eq (by rw [ext_data, List.take_of_length_le (show s.data.toList.length ≤ s.size from Nat.le_refl _)])
  have hc : Lib.cut s.data.toList [58] = (s.data.toList.take k, s.data.toList.drop (k + 1), true) := by
    unfold Lib.cut
    rw [hi, if_pos (by omega)]
    rfl
  unfold prs
  rw [hc]
  simp only [Bool.true_and, e1, e2]

end Go.Proofs.YtkdnckkdofoaoaaGreatDoor

/- A right field's line, read again. -/
namespace Go.Proofs.YtkdnckkdofoaoaaGreatDoor
open Go.RowKit
set_option linter.unusedVariables false

theorem tok_no (b : UInt8) (h : tokP (b.toNat : Int) = true) : b ≠ 58 ∧ b ≠ 13 ∧ b ≠ 10 := by
  refine ⟨?_, ?_, ?_⟩ <;> (rintro rfl; revert h; decide +kernel)
theorem val_no (b : UInt8) (h : valP (b.toNat : Int) = true) : b ≠ 13 ∧ b ≠ 10 := by
  refine ⟨?_, ?_⟩ <;> (rintro rfl; revert h; decide +kernel)
/-- A line without its end. -/
def bodyT (n v : ByteArray) : ByteArray := n ++ ⟨#[58, 32]⟩ ++ v
theorem body_data (n v : ByteArray) : (bodyT n v).data.toList = n.data.toList ++ [58, 32] ++ v.data.toList := by
  unfold bodyT
  rw [Joins.data_append, Joins.data_append]
theorem line_data (n v : ByteArray) : (lineT n v).data.toList = (bodyT n v).data.toList ++ [13, 10] := by
  unfold lineT bodyT
  rw [Joins.data_append]
theorem line_size (n v : ByteArray) : (lineT n v).size = n.size + v.size + 4 := by
  have h : (lineT n v).data.toList.length = n.data.toList.length + v.data.toList.length + 4 := by
    rw [line_data, body_data]; simp; omega
  exact h
theorem body_size (n v : ByteArray) : (bodyT n v).size = n.size + v.size + 2 := by
  have h : (bodyT n v).data.toList.length = n.data.toList.length + v.data.toList.length + 2 := by
    rw [body_data]; simp; omega
  exact h
theorem okF_parts {n v : ByteArray} (h : okF n v = true) : n.size ≤ 100 ∧ v.size ≤ 1000 ∧ allB tokP n.data.toList = true ∧ allB valP v.data.toList = true ∧ trimT v = v := by
  unfold okF okName okVal eqT at h
  simp only [Bool.and_eq_true, decide_eq_true_eq] at h
  obtain ⟨⟨h1, h2, _⟩, ⟨h3, h4⟩, h5⟩ := h
  refine ⟨h1, h3, h2, h4, bytes_eq ?_⟩
  rw [ByteArray.toList_eq, ByteArray.toList_eq] at h5
  exact beq_iff_eq.1 h5
theorem body_no {n v : ByteArray} (h : okF n v = true) : ∀ b ∈ (bodyT n v).data.toList, b ≠ 13 ∧ b ≠ 10 := by
  obtain ⟨_, _, h2, h4, _⟩ := okF_parts h
  unfold allB at h2 h4
  rw [List.all_eq_true] at h2 h4
  intro b hb
  rw [body_data] at hb
  rcases List.mem_append.1 hb with hb | hb
  · rcases List.mem_append.1 hb with hb | hb
    · exact (tok_no b (h2 b hb)).2
    · simp at hb
      rcases hb with rfl | rfl <;> decide
  · exact val_no b (h4 b hb)
theorem line_cut (n v : ByteArray) : (lineT n v).extract 0 ((lineT n v).size - 2) = bodyT n v := by
  refine bytes_eq ?_
  rw [ext_data, line_size, line_data]
  have e : n.size + v.size + 4 - 2 = (bodyT n v).data.toList.length := by show _ = (bodyT n v).size; rw [body_size]; omega
  rw [e, List.take_left]; rfl
theorem line_end (n v : ByteArray) : (lineT n v).extract ((lineT n v).size - 2) (lineT n v).size = ⟨#[13, 10]⟩ := by
  refine bytes_eq ?_
  rw [ext_data, List.take_of_length_le (show (lineT n v).data.toList.length ≤ (lineT n v).size from Nat.le_refl _), line_size, line_data]
  have e : n.size + v.size + 4 - 2 = (bodyT n v).data.toList.length := by show _ = (bodyT n v).size; rw [body_size]; omega
  rw [e, List.drop_left]
theorem prs_body {n v : ByteArray} (h : okF n v = true) : prs (bodyT n v) = (n, v, 0) := by
  obtain ⟨_, _, h2, h4, h5⟩ := okF_parts h
  have hl : n.data.toList.length = n.size := rfl
  have hk : n.size < (bodyT n v).size := by rw [body_size]; omega
  have hk' : n.size < (bodyT n v).data.toList.length := hk
  have e0 : (bodyT n v).data.toList.take n.size = n.data.toList := by
    rw [body_data, List.append_assoc, ← hl, List.take_left]
  have eb : (bodyT n v)[n.size] = 58 := by
    show (bodyT n v).data.toList[n.size] = 58
    have k : (bodyT n v).data.toList[n.size]? = some 58 := by
      rw [body_data, List.append_assoc, List.getElem?_append_right (by omega), hl, Nat.sub_self]; rfl
    rw [List.getElem?_eq_getElem hk'] at k
    exact Option.some.inj k
  have e1 : (bodyT n v).extract 0 n.size = n := bytes_eq (by rw [ext_data, e0]; rfl)
  have e2 : trimT ((bodyT n v).extract (n.size + 1) (bodyT n v).size) = v := by
    have e3 : ((bodyT n v).extract (n.size + 1) (bodyT n v).size).data.toList = [32] ++ v.data.toList := by
      rw [ext_data, List.take_of_length_le (show (bodyT n v).data.toList.length ≤ (bodyT n v).size from Nat.le_refl _), body_data]
      have e4 : n.data.toList ++ [58, 32] ++ v.data.toList = (n.data.toList ++ [58]) ++ ([32] ++ v.data.toList) := by simp
      rw [e4]
      have e5 : n.size + 1 = (n.data.toList ++ [58]).length := by simp
      rw [e5, List.drop_left]
    refine bytes_eq ?_
    show trimP _ = _
    rw [e3]
    have h6 : trimP v.data.toList = v.data.toList := congrArg (fun x : ByteArray => x.data.toList) h5
    have f1 : NF v.data.toList := by rw [← h6]; exact trim_front _
    have f2 : NL v.data.toList := by rw [← h6]; exact trim_last _
    have k := trim_around [32] v.data.toList [] (fun b hb => by rw [List.mem_singleton.1 hb]; decide) (fun b hb => by cases hb) f1 f2
    simpa using k
  rw [prs_at (bodyT n v) n.size hk (fun b hb => by
    rw [e0] at hb
    unfold allB at h2
    rw [List.all_eq_true] at h2
    exact (tok_no b (h2 b hb)).1) eb, e1, e2, h]
  rfl
end Go.Proofs.YtkdnckkdofoaoaaGreatDoor
