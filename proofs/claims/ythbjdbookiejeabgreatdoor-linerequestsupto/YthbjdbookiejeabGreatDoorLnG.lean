/- Host: what it answers of every text. -/
import Derived.Test.YthbjdbookiejeabGreatDoorLnF
import Derived.Test.YthbjdbookiejeabGreatDoorTxtF
import Derived.Test.YthbjdbookiejeabGreatDoorShTrimR
import Derived.Laws.RangeAny
import Derived.WalkSmall
namespace Go.Proofs.YthbjdbookiejeabGreatDoor
open Go.RowKit
set_option linter.unusedVariables false

def hasS (s p : ByteArray) : Bool := decide (p.size ≤ s.size) && ((s.extract (s.size - p.size) s.size).toList == p.toList)
def cutX (s p : ByteArray) : ByteArray := if hasS s p = true then s.extract 0 (s.size - p.size) else s
theorem hassuffix_any (s p : ByteArray) (w : World) (hs : s.size ≤ maxLen) : Calls Tryz.prog 132 #[.string s, .string p] w fun e w' => e = .returned (.bool (hasS s p)) ∧ w' = w := by
  unfold hasS
  unfold maxLen at hs
  have hlo : p.size ≤ s.size → ((s.size : Int) - (p.size : Int) + 9223372036854775808) % 18446744073709551616 - 9223372036854775808 = ((s.size - p.size : Nat) : Int) := fun _ => by omega
  go_enter Tryz.func132, Tryz.ntmps132
  go_wp2
  · have h : p.size ≤ s.size := by assumption
    go_ret
    exact ⟨retb (by rw [decide_eq_true h, Bool.true_and]), rfl⟩
  · have h : ¬ p.size ≤ s.size := by assumption
    go_ret
    exact ⟨retb (by rw [decide_eq_false h, Bool.false_and]), rfl⟩
theorem cutsuffix_sl (s p : ByteArray) (w : World) (hs : s.size ≤ maxLen) : Calls Tryz.prog 104 #[.string s, .string p] w fun e w' => e = .returned (.tuple #[.string (cutX s p), .bool (hasS s p)]) ∧ w' = w := by
  have H : Hid (∀ W, Calls Tryz.prog 132 #[.string s, .string p] W fun e w' => e = .returned (.bool (hasS s p)) ∧ w' = W) := fun W => hassuffix_any s p W hs
  unfold cutX
  unfold maxLen at hs
  cases h : hasS s p
  · rw [h] at H
    clear h
    go_enter Tryz.func104, Tryz.ntmps104
    go_wp2_with fail
    refine (H.out _).mono ?_
    rintro e w1 ⟨rfl, rfl⟩
    go_wp2
    go_ret2
    exact ⟨rfl, rfl⟩
  · rw [h] at H
    have hl : p.size ≤ s.size := by
      unfold hasS at h
      rw [Bool.and_eq_true] at h
      exact of_decide_eq_true h.1
    have hlo : ((s.size : Int) - (p.size : Int) + 9223372036854775808) % 18446744073709551616 - 9223372036854775808 = ((s.size - p.size : Nat) : Int) := by omega
    clear h
    go_enter Tryz.func104, Tryz.ntmps104
    go_wp2_with fail
    refine (H.out _).mono ?_
    rintro e w1 ⟨rfl, rfl⟩
    go_wp2
    go_ret2
    exact ⟨rfl, rfl⟩
theorem cutsuffix_any (s p : ByteArray) (w : World) (hs : s.size ≤ maxLen) : Calls Tryz.prog 71 #[.string s, .string p] w fun e w' => e = .returned (.tuple #[.string (cutX s p), .bool (hasS s p)]) ∧ w' = w := by
  go_enter Tryz.func71, Tryz.ntmps71
  go_wp2_with fail
  refine (cutsuffix_sl s p _ hs).mono ?_
  rintro e w1 ⟨rfl, rfl⟩
  go_wp2
  go_ret2
  exact ⟨rfl, rfl⟩

/-- A text without the digits at its end. -/
def noDig (s : ByteArray) : ByteArray := ⟨(Lib.trimRightS s.data.toList [48, 49, 50, 51, 52, 53, 54, 55, 56, 57]).toArray⟩
def portP (s : ByteArray) : ByteArray := if hasS (noDig s) ⟨#[58]⟩ = true then cutX (noDig s) ⟨#[58]⟩ else s
theorem drop_len (p : UInt8 → Bool) : ∀ l : List UInt8, (l.dropWhile p).length ≤ l.length
  | [] => Nat.le_refl _
  | a :: l => by
    rw [List.dropWhile_cons]
    split
    · exact Nat.le_succ_of_le (drop_len p l)
    · exact Nat.le_refl _
theorem noDig_size (s : ByteArray) : (noDig s).size ≤ s.size := by
  show (Lib.trimRightS s.data.toList _).length ≤ _
  unfold Lib.trimRightS
  rw [List.length_reverse]
  exact Nat.le_trans (drop_len _ _) (by rw [List.length_reverse]; exact Nat.le_refl _)
theorem digs_ascii : ∀ (j : Nat) (b : UInt8), ([48, 49, 50, 51, 52, 53, 54, 55, 56, 57] : List UInt8)[j]? = some b → b.toNat < 128 := by
  intro j b h
  have : b ∈ ([48, 49, 50, 51, 52, 53, 54, 55, 56, 57] : List UInt8) := List.mem_of_getElem? h
  simp at this
  rcases this with rfl | rfl | rfl | rfl | rfl | rfl | rfl | rfl | rfl | rfl <;> decide
theorem wport_any (s : ByteArray) (w : World) (hs : s.size ≤ maxLen) : Calls Tryz.prog 38 #[.string s] w fun e w' => e = .returned (.string (portP s)) ∧ Below w.heap.size w w' := by
  have hz := noDig_size s
  have H : Hid (∀ W, Calls Tryz.prog 72 #[.string s, .string ⟨#[48, 49, 50, 51, 52, 53, 54, 55, 56, 57]⟩] W fun e w' => e = .returned (.string (noDig s)) ∧ Below W.heap.size W w') := fun W => Tryz.strings_TrimRight_laid s ⟨#[48, 49, 50, 51, 52, 53, 54, 55, 56, 57]⟩ W (by unfold maxLen at hs; omega) (by decide) digs_ascii
  have HC : Hid (∀ W, Calls Tryz.prog 71 #[.string (noDig s), .string ⟨#[58]⟩] W fun e w' => e = .returned (.tuple #[.string (cutX (noDig s) ⟨#[58]⟩), .bool (hasS (noDig s) ⟨#[58]⟩)]) ∧ w' = W) := fun W => cutsuffix_any _ _ W (Nat.le_trans hz hs)
  unfold portP
  clear hz hs
  generalize cutX (noDig s) ⟨#[58]⟩ = x at *
  cases h : hasS (noDig s) ⟨#[58]⟩
  · rw [h] at HC
    clear h
    generalize noDig s = y at *
    go_enter Tryz.func38, Tryz.ntmps38
    go_wp2_with fail
    refine (H.out _).mono ?_
    rintro e w1 ⟨rfl, B1⟩
    go_wp2_with fail
    refine (HC.out _).mono ?_
    rintro e w2 ⟨rfl, rfl⟩
    go_wp2
    go_ret
    exact ⟨rfl, B1⟩
  · rw [h] at HC
    clear h
    generalize noDig s = y at *
    go_enter Tryz.func38, Tryz.ntmps38
    go_wp2_with fail
    refine (H.out _).mono ?_
    rintro e w1 ⟨rfl, B1⟩
    go_wp2_with fail
    refine (HC.out _).mono ?_
    rintro e w2 ⟨rfl, rfl⟩
    go_wp2
    go_ret
    exact ⟨rfl, B1⟩

/-- The signs of a host. -/
def hsP (r : Int) : Bool := (decide (97 ≤ r) && decide (r ≤ 122)) || ((decide (48 ≤ r) && decide (r ≤ 57)) || ((r == 45) || (r == 46)))
theorem hostsign_any (r : Int) (w : World) : Calls Tryz.prog 40 #[.int .i32 r] w fun e w' => e = .returned (.bool (hsP r)) ∧ w' = w := by
  go_enter Tryz.func40, Tryz.ntmps40
  go_wp2
  all_goals go_ret
  all_goals refine ⟨retb ?_, rfl⟩
  all_goals unfold hsP
  all_goals (rw [Bool.eq_iff_iff]; simp <;> omega)

/-- The host of a text. -/
def hostP (s : ByteArray) : ByteArray × Bool :=
  if (portP (foldS s)).size = 0 then (⟨#[]⟩, false) else if 64 < (portP (foldS s)).size then (⟨#[]⟩, false) else if allB hsP (portP (foldS s)).data.toList = false then (⟨#[]⟩, false) else (portP (foldS s), true)
theorem lfold_size (s : ByteArray) : (foldS s).size = s.size := by
  show (foldL s.data.toList).length = s.data.toList.length
  simp [foldL]
theorem ret2_sb {a c : ByteArray} {b d : Bool} (h : a = c) (k : b = d) : Ending.returned (.tuple #[.string a, .bool b]) = .returned (.tuple #[.string c, .bool d]) := by rw [h, k]
theorem hs_high {r : Nat} (h : 128 ≤ r) : hsP (r : Int) = false := by
  unfold hsP
  simp
  omega
theorem iter_below {B : Nat} {w : World} (h : B ≤ w.heap.size) (s : ByteArray) (pos : Nat) : Below B w (w.iter s pos) := (Below.refl _ _).alloc h _
set_option maxRecDepth 100000 in
set_option maxHeartbeats 4000000 in
theorem host_any (s : ByteArray) (w : World) (hs : s.size ≤ maxLen) :
    Calls Tryz.prog 19 #[.string s] w fun e w' => e = .returned (.tuple #[.string (hostP s).1, .bool (hostP s).2]) ∧ Below w.heap.size w w' := by
  have hfz : (foldS s).size ≤ maxLen := by rw [lfold_size]; exact hs
  have HF : Hid (∀ W, Calls Tryz.prog 39 #[.string s] W fun e w' => e = .returned (.string (foldS s)) ∧ Below W.heap.size W w') := fun W => fold_any s W hs
  have HP : Hid (∀ W, Calls Tryz.prog 38 #[.string (foldS s)] W fun e w' => e = .returned (.string (portP (foldS s))) ∧ Below W.heap.size W w') := fun W => wport_any _ W hfz
  have HS : Hid (∀ r W, Calls Tryz.prog 40 #[.int .i32 r] W fun e w' => e = .returned (.bool (hsP r)) ∧ w' = W) := fun r W => hostsign_any r W
  unfold hostP
  clear hfz hs
  generalize portP (foldS s) = h at *
  generalize foldS s = f at *
  by_cases h0 : h.size = 0
  · rw [if_pos h0]
    obtain rfl := empty_t h0
    clear h0 HS
    go_enter Tryz.func19, Tryz.ntmps19
    go_wp2_with fail
    refine (HF.out _).mono ?_
    rintro e w1 ⟨rfl, B1⟩
    go_wp2_with fail
    refine (HP.out _).mono ?_
    rintro e w2 ⟨rfl, B2⟩
    go_wp2
    go_ret2
    exact ⟨rfl, B1.trans (B2.mono B1.size)⟩
  · rw [if_neg h0]
    have he := isEmpty_t h0
    by_cases h6 : 64 < h.size
    · rw [if_pos h6]
      have h6' : (64 : Int) < (h.size : Int) := by omega
      clear h0 h6 HS
      go_enter Tryz.func19, Tryz.ntmps19
      go_wp2_with fail
      refine (HF.out _).mono ?_
      rintro e w1 ⟨rfl, B1⟩
      go_wp2_with fail
      refine (HP.out _).mono ?_
      rintro e w2 ⟨rfl, B2⟩
      go_wp2
      go_ret2
      exact ⟨rfl, B1.trans (B2.mono B1.size)⟩
    · rw [if_neg h6]
      generalize hE : (if allB hsP h.data.toList = false then ((⟨#[]⟩ : ByteArray), false) else (h, true)) = E
      have HE : Hid ((if allB hsP h.data.toList = false then ((⟨#[]⟩ : ByteArray), false) else (h, true)) = E) := hE
      clear hE
      obtain ⟨E1, E2⟩ := E
      have h6' : ¬ (64 : Int) < (h.size : Int) := by omega
      clear h0 h6
      go_enter Tryz.func19, Tryz.ntmps19
      go_wp2_with fail
      refine (HF.out _).mono ?_
      rintro e w1 ⟨rfl, B1⟩
      go_wp2_with fail
      refine (HP.out _).mono ?_
      rintro e w2 ⟨rfl, B2⟩
      have C2 : Hid (Below w.heap.size w w2 ∧ w.heap.size ≤ w2.heap.size) := ⟨B1.trans (B2.mono B1.size), (B1.trans (B2.mono B1.size)).size⟩
      clear B1 B2 HF HP
      go_wp2_with fail
      go_loopw [] (fun w' => ∃ pos : Nat, pos ≤ h.size ∧ w' = w2.iter h pos ∧ Hid (allB hsP (h.data.toList.take pos) = true)) (fun w' => h.size - w'.iterPos w2.heap.size)
      case atStart => exact ⟨0, Nat.zero_le _, rfl, rfl⟩
      case round =>
        obtain ⟨pos, hle, rfl, hA⟩ := hrel
        by_cases hp : pos < h.size
        · have hnx : ∀ ty, (Instr.next (.pointer (some ⟨w2.heap.size, 0, none⟩)) true ty).run Tryz.prog (w2.iter h pos) = _ := fun ty => run_next_any w2 h pos ty hp
          by_cases ha : (h[pos]'hp).toNat < 128
          · rw [decode_ascii h pos hp ha] at hnx
            simp only at hnx
            have HC := HS.out ((h[pos]'hp).toNat : Int)
            cases hc : hsP ((h[pos]'hp).toNat : Int)
            · have HX : Hid (allB hsP h.data.toList = false) := allB_false h pos hp hc
              rw [hc] at HC
              have HC' : Hid _ := HC
              clear HC hc ha
              go_wp2_with fail
              refine (HC'.out _).mono ?_
              rintro e w5 ⟨rfl, rfl⟩
              go_wp2
              go_ret2
              have k := HE.out
              rw [if_pos HX.out] at k
              exact ⟨ret2_sb (congrArg Prod.fst k) (congrArg Prod.snd k), C2.out.1.trans (iter_below C2.out.2 _ _)⟩
            · have HX : Hid (allB hsP (h.data.toList.take (pos + 1)) = true) := allB_snoc h pos hp hA.out hc
              rw [hc] at HC
              have HC' : Hid _ := HC
              clear HC hc ha
              go_wp2_with fail
              refine (HC'.out _).mono ?_
              rintro e w5 ⟨rfl, rfl⟩
              go_wp2
              go_roundw
              case rel => exact ⟨pos + 1, hp, rfl, HX⟩
              case measure => simp; omega
          · have hhi := (decode_high h pos hp (by omega)).1
            have HC := HS.out ((Utf8.decode h pos).1 : Int)
            rw [hs_high hhi] at HC
            have HX : Hid (allB hsP h.data.toList = false) := allB_false h pos hp (hs_high (by omega))
            have HC' : Hid _ := HC
            clear HC hhi ha
            go_wp2_with fail
            refine (HC'.out _).mono ?_
            rintro e w5 ⟨rfl, rfl⟩
            go_wp2
            go_ret2
            have k := HE.out
            rw [if_pos HX.out] at k
            exact ⟨ret2_sb (congrArg Prod.fst k) (congrArg Prod.snd k), C2.out.1.trans (iter_below C2.out.2 _ _)⟩
        · have hnx : ∀ ty, (Instr.next (.pointer (some ⟨w2.heap.size, 0, none⟩)) true ty).run Tryz.prog (w2.iter h pos) = _ := fun ty => run_next_end w2 h pos ty hp
          have HX : Hid (¬ allB hsP h.data.toList = false) := by
            have k := hA.out
            rw [List.take_of_length_le (show h.data.toList.length ≤ pos from Nat.le_of_not_lt hp)] at k
            rw [Hid, k]
            decide
          go_wp2
          go_ret2
          have k := HE.out
          rw [if_neg HX.out] at k
          exact ⟨ret2_sb (congrArg Prod.fst k) (congrArg Prod.snd k), C2.out.1.trans (iter_below C2.out.2 _ _)⟩
end Go.Proofs.YthbjdbookiejeabGreatDoor
