/- Texts that the proof leans on, one behind the other: RDig RDec RsA RsB RsC RsD -/
import Derived.Test.YthmhaflkkigenaaGreatDoorTb
import Derived.Test.YthmhaflkkigenaaGreatDoorTe
import Derived.Test.YthmhaflkkigenaaGreatDoorTd
import Derived.Test.YthmhaflkkigenaaGreatDoorTu
import Derived.Test.YthmhaflkkigenaaGreatDoorTf
import Derived.Test.YthmhaflkkigenaaGreatDoorTs
import Derived.Test.YthmhaflkkigenaaGreatDoorTt
import Derived.Deep.RegionHeld3
/- What the reference's reading of numbers answers of every text. -/
namespace Go.Proofs.YthmhaflkkigenaaGreatDoor
open Go.RowKit
set_option linter.unusedVariables false

def isD (c : Int) : Bool := decide (48 ≤ c) && decide (c ≤ 57)
theorem rdigit_any (c : Int) (w : World) : Calls Tryz.prog 25 #[.int .u8 c] w fun e w' => e = .returned (.bool (isD c)) ∧ w' = w := by
  unfold isD
  by_cases a : 48 ≤ c
  · by_cases b : c ≤ 57
    · go_enter Tryz.func25, Tryz.ntmps25
      go_wp2
      go_ret
      exact ⟨ret_b (by simp [a, b]), rfl⟩
    · go_enter Tryz.func25, Tryz.ntmps25
      go_wp2
      go_ret
      exact ⟨ret_b (by simp [b]), rfl⟩
  · go_enter Tryz.func25, Tryz.ntmps25
    go_wp2
    go_ret
    exact ⟨ret_b (by simp; omega), rfl⟩

end Go.Proofs.YthmhaflkkigenaaGreatDoor

/- The reference: what its Decimal answers of every text. -/
namespace Go.Proofs.YthmhaflkkigenaaGreatDoor
open Go.RowKit
set_option linter.unusedVariables false

set_option maxHeartbeats 1000000 in
theorem rdecimal_any (s : ByteArray) (w : World) (hs : s.size ≤ maxLen) :
    Calls Tryz.prog 41 #[.string s] w fun e w' => e = .returned (.tuple #[.int .i64 (numI 10 18 s), .bool (numB 10 18 s)]) ∧ w' = w := by
  unfold maxLen at hs
  by_cases hz : (s.size : Int) < 1
  · have E : Hid (numI 10 18 s = 0 ∧ numB 10 18 s = false) := num_out (.inl (by omega))
    go_enter Tryz.func41, Tryz.ntmps41
    go_wp2
    go_ret2
    exact ⟨ret2_ib E.out.1.symm E.out.2.symm, rfl⟩
  · by_cases hm : (18 : Int) < (s.size : Int)
    · have E : Hid (numI 10 18 s = 0 ∧ numB 10 18 s = false) := num_out (.inr (by omega))
      go_enter Tryz.func41, Tryz.ntmps41
      go_wp2
      go_ret2
      exact ⟨ret2_ib E.out.1.symm E.out.2.symm, rfl⟩
    · have hout : Hid (¬ (s.size = 0 ∨ 18 < s.size)) := by rw [Hid]; omega
      go_enter Tryz.func41, Tryz.ntmps41
      go_wp2
      go_loop [4, 5] (fun vn vi => ∃ k n : Nat, k ≤ s.size ∧ vi = .int .i64 k ∧ vn = .int .i64 n ∧ Hid (vN 10 (s.data.toList.take k) = some n)) (fun _ vi => s.size - (intOf vi).toNat)
      case atStart => exact ⟨0, 0, Nat.zero_le _, rfl, rfl, rfl⟩
      case round =>
        obtain ⟨k, n, hk, rfl, rfl, hv⟩ := hrel
        by_cases hlt : k < s.size
        · have bd := byte_bd s[k]
          have hn : n < 100000000000000000 := vN_take_lt 10 17 (by decide) s k (by omega) n hv.out
          have HD : Hid (((dgN s[k] : Nat) : Int) = dgI (s[k].toNat : Int)) := dgN_cast s[k]
          by_cases hb : 48 ≤ (s[k].toNat : Int) ∧ (s[k].toNat : Int) ≤ 57
          · have E1 : Hid (dgI (s[k].toNat : Int) = (s[k].toNat : Int) - 48) := by rw [Hid, dgI, if_pos hb]
            have E : Hid (vN 10 (s.data.toList.take (k + 1)) = some (n * 10 + dgN s[k])) := vN_next 10 s k hlt n hv.out (by have := HD.out; have := E1.out; omega)
            have ED : Hid (isD (s[k].toNat : Int) = true) := by rw [Hid, isD]; simp; omega
            obtain ⟨b0, b1⟩ := hb
            go_wp2_with fail
            refine (rdigit_any _ _).mono ?_
            rw [ED.out]
            rintro e w' ⟨rfl, rfl⟩
            go_wp2
            go_round
            case rel => exact ⟨k + 1, n * 10 + dgN s[k], by omega, by go_num, by have h1 := HD.out; have h2 := E1.out; rw [Int.natCast_add, Int.natCast_mul, h1, h2]; rfl, E⟩
            case measure => simp [intOf]; omega
          · have E : Hid (numI 10 18 s = 0 ∧ numB 10 18 s = false) := num_bad (vN_bad_at 10 s k hlt (by have h1 := HD.out; unfold dgI at h1; rw [if_neg hb] at h1; split at h1 <;> (try split at h1) <;> omega))
            have ED : Hid (isD (s[k].toNat : Int) = false) := by rw [Hid, isD]; simp; omega
            clear hb
            go_wp2_with fail
            refine (rdigit_any _ _).mono ?_
            rw [ED.out]
            rintro e w' ⟨rfl, rfl⟩
            go_wp2
            go_ret2
            exact ⟨ret2_ib E.out.1.symm E.out.2.symm, rfl⟩
        · go_wp2
          go_ret2
          have hk' : k = s.size := by omega
          subst hk'
          have h := hv.out
          rw [List.take_of_length_le (by simp)] at h
          exact ⟨ret2_ib (num_ok hout.out h).1.symm (num_ok hout.out h).2.symm, rfl⟩

end Go.Proofs.YthmhaflkkigenaaGreatDoor

/- The reference's Words and Lines. -/
namespace Go.Proofs.YthmhaflkkigenaaGreatDoor
open Go.ChangeShapes Go.WideShapes Go.ChangeAt Go.RowKit
set_option linter.unusedVariables false

/-- Parts between ends of lines. -/
def cutn : List UInt8 → List UInt8 → List (List UInt8)
  | acc, [] => [acc]
  | acc, b :: l => if b = 10 then acc :: cutn [] l else cutn (acc ++ [b]) l
def ScanN (s : ByteArray) (ps : List ByteArray) (f k : Nat) : Prop := f ≤ k ∧ k ≤ s.size ∧ ps.map (·.data.toList) ++ cutn ((s.data.toList.take k).drop f) (s.data.toList.drop k) = cutn [] s.data.toList
theorem ScanN.start (s : ByteArray) : ScanN s [] 0 0 := ⟨Nat.le_refl _, Nat.zero_le _, by simp⟩
theorem ScanN.go {s : ByteArray} {ps : List ByteArray} {f k : Nat} (h : ScanN s ps f k) (hk : k < s.size) (hb : s[k] ≠ 10) : ScanN s ps f (k + 1) := by
  obtain ⟨h1, _, h3⟩ := h
  have hk' : k < s.data.toList.length := hk
  refine ⟨by omega, hk, ?_⟩
  rw [List.drop_eq_getElem_cons hk', cutn, if_neg (show s.data.toList[k] ≠ 10 from hb)] at h3
  rw [← h3, List.take_succ_eq_append_getElem hk', List.drop_append_of_le_length (by rw [List.length_take]; omega)]
theorem ScanN.cut {s : ByteArray} {ps : List ByteArray} {f k : Nat} (h : ScanN s ps f k) (hk : k < s.size) (hb : s[k] = 10) : ScanN s (ps ++ [s.extract f k]) (k + 1) (k + 1) := by
  obtain ⟨h1, _, h3⟩ := h
  have hk' : k < s.data.toList.length := hk
  refine ⟨Nat.le_refl _, hk, ?_⟩
  rw [List.drop_eq_getElem_cons hk', cutn, if_pos (show s.data.toList[k] = 10 from hb)] at h3
  have hd : List.drop (k + 1) (List.take (k + 1) s.data.toList) = [] := List.drop_eq_nil_of_le (by rw [List.length_take]; omega)
  rw [← h3, hd, List.map_append, List.map_cons, List.map_nil, Lib.extract_data, ← List.drop_take, List.append_assoc, List.singleton_append]
def lineW (s : ByteArray) : List ByteArray := ((cutn [] s.data.toList).dropLast).map fun l => ⟨l.toArray⟩
def lineO (s : ByteArray) : Bool := (cutn [] s.data.toList).getLast? == some []
theorem ScanN.fin {s : ByteArray} {ps : List ByteArray} {f : Nat} (h : ScanN s ps f s.size) : ps = lineW s ∧ ((f : Int) == (s.size : Int)) = lineO s := by
  obtain ⟨h1, _, h3⟩ := h
  have hd : List.drop s.size s.data.toList = [] := List.drop_eq_nil_of_le (Nat.le_refl _)
  have ht : List.take s.size s.data.toList = s.data.toList := List.take_of_length_le (Nat.le_refl _)
  rw [hd, cutn, ht] at h3
  unfold lineW lineO
  rw [← h3, List.dropLast_concat, List.getLast?_concat]
  constructor
  · rw [List.map_map]
    have e : ((fun l : List UInt8 => (⟨l.toArray⟩ : ByteArray)) ∘ fun x : ByteArray => x.data.toList) = id := by
      funext x
      rfl
    rw [e, List.map_id]
  · have hl : (s.data.toList.drop f).length = s.size - f := by rw [List.length_drop]; rfl
    rw [Bool.eq_iff_iff, beq_iff_eq, beq_iff_eq]
    constructor
    · intro e
      rw [List.eq_nil_of_length_eq_zero (show (s.data.toList.drop f).length = 0 by omega)]
    · intro e
      have e2 : s.data.toList.drop f = [] := Option.some.inj e
      rw [e2, List.length_nil] at hl
      omega
set_option maxRecDepth 100000 in
set_option maxHeartbeats 4000000 in
theorem r9words_any (s : ByteArray) (w : World) (hs : s.size ≤ 1048576) :
    Calls Tryz.prog 17 #[.string s] w fun e w' => ∃ ao cv, e = .returned (.slice ao (piecew s).length cv) ∧ OwnT w.heap.size w' (.slice ao (piecew s).length cv) (piecew s) ∧ Below w.heap.size w w' := by
  have O1 : OwnT w.heap.size (w.alloc (.cells #[] 9)) (.slice (some ⟨w.heap.size, 0, none⟩) 0 0) [] := OwnT.empty _ _ (Nat.le_refl _)
  go_enter Tryz.func17, Tryz.ntmps17
  go_wp2_with fail
  go_loopw [3, 4, 5] (fun v vf vi wr => ∃ (k f : Nat) (ps : List ByteArray) (ao : Option Addr) (cv : Nat), k ≤ s.size + 1 ∧ f ≤ k ∧ vi = .int .i64 k ∧ vf = .int .i64 f ∧ v = .slice ao ps.length cv ∧ ps.length ≤ k ∧ Hid (OwnT w.heap.size wr (.slice ao ps.length cv) ps) ∧ Hid (k ≤ s.size → ScanW s ps f k) ∧ Hid (k = s.size + 1 → ps = piecew s) ∧ Below w.heap.size w wr) (fun _ _ vi _ => s.size + 1 - (intOf vi).toNat)
  case atStart => exact ⟨0, 0, [], some ⟨w.heap.size, 0, none⟩, 0, Nat.zero_le _, Nat.le_refl _, rfl, rfl, rfl, Nat.le_refl _, O1, fun _ => ScanW.start s, (fun h => by omega), (Below.refl _ _).alloc (Nat.le_refl _) _⟩
  case round =>
    obtain ⟨k, f, ps, ao, cv, hk, hf, rfl, rfl, rfl, hkl, hown, hsc, hfi, hB⟩ := hrel
    clear O1
    by_cases hle : (k : Int) ≤ (s.size : Int)
    · have own3 := hown.out.keep ((Below.refl _ _).alloc (Nat.le_refl _) (.cells #[.string (s.extract f k)] 9))
      obtain ⟨v4, w4, r4, own4, B4⟩ := ownT_append own3 (one_txs wr (s.extract f k) _ (Nat.lt_succ_self _)) (by simp; omega) (by have := hB.size; simp; omega)
      have hB4 : Below w.heap.size w w4 := (hB.alloc hB.size _).trans B4
      obtain ⟨a4, c4, rfl, _⟩ := own4.form
      have HO4 : Hid (OwnT w.heap.size w4 (.slice a4 (ps ++ [s.extract f k]).length c4) (ps ++ [s.extract f k])) := own4
      have HRN : Hid ((Builtin.append_ #[33, 33] 33 #[.slice ao ps.length cv, .slice (some ⟨wr.heap.size, 0, none⟩) 1 1]).run Tryz.prog (wr.alloc (.cells #[.string (s.extract f k)] 9)) = .ok (.slice a4 (ps ++ [s.extract f k]).length c4) w4) := r4
      have HLE : Hid ((ps ++ [s.extract f k]).length = ps.length + 1) := by rw [Hid, List.length_append]; rfl
      clear own3 own4 B4 r4
      by_cases hend : k = s.size
      · subst hend
        have HF : Hid (ps ++ [s.extract f s.size] = piecew s) := (hsc.out (by omega)).fin
        clear hsc hfi hown
        generalize hps : ps ++ [s.extract f s.size] = ps2 at *
        have HPS : Hid (ps ++ [s.extract f s.size] = ps2) := hps
        clear hps
        go_wp2_with (at_builtin; refine wpList_append_run2 rfl _ _ 33 33 rfl _ _ _ w4 rfl rfl HRN.out ?_)
        go_roundw
        case rel => exact ⟨s.size + 1, s.size + 1, ps2, a4, c4, by omega, by omega, by go_num, by go_num, rfl, by rw [HLE.out]; omega, HO4, (fun h => by omega), (fun _ => HF.out), hB4⟩
        case measure => simp [intOf]
      · have hlt : k < s.size := by omega
        have hbe : ((k : Int) == (s.size : Int)) = false := beq_eq_false_iff_ne.2 (by omega)
        by_cases hc : (s[k].toNat : Int) = 32
        · have hc2 : s[k] = 32 := UInt8.toNat_inj.1 (show s[k].toNat = 32 by omega)
          have HC : Hid (k + 1 ≤ s.size → ScanW s (ps ++ [s.extract f k]) (k + 1) (k + 1)) := fun _ => (hsc.out (by omega)).cut hlt hc2
          clear hc2 hsc hfi hown
          generalize hps : ps ++ [s.extract f k] = ps2 at *
          have HPS : Hid (ps ++ [s.extract f k] = ps2) := hps
          clear hps
          go_wp2_with (at_builtin; refine wpList_append_run2 rfl _ _ 33 33 rfl _ _ _ w4 rfl rfl HRN.out ?_)
          go_roundw
          case rel => exact ⟨k + 1, k + 1, ps2, a4, c4, by omega, by omega, by go_num, by go_num, rfl, by rw [HLE.out]; omega, HO4, HC, (fun h => by omega), hB4⟩
          case measure => simp [intOf]; omega
        · have hc2 : s[k] ≠ 32 := fun e => hc (by rw [e]; rfl)
          have hcb : ((s[k].toNat : Int) == 32) = false := beq_eq_false_iff_ne.2 hc
          have HC : Hid (k + 1 ≤ s.size → ScanW s ps f (k + 1)) := fun _ => (hsc.out (by omega)).go hlt hc2
          clear hc2 HO4 HRN HLE hsc hfi
          go_wp2
          go_roundw
          case rel => exact ⟨k + 1, f, ps, ao, cv, by omega, by omega, by go_num, rfl, rfl, by omega, hown, HC, (fun h => by omega), hB⟩
          case measure => simp [intOf]; omega
    · have hke : k = s.size + 1 := by omega
      have HP := hfi.out hke
      subst HP
      go_wp2
      go_ret
      exact ⟨ao, cv, rfl, hown.out, hB⟩
set_option maxRecDepth 100000 in
set_option maxHeartbeats 4000000 in
theorem r9lines_any (s : ByteArray) (w : World) (hs : s.size ≤ 1048576) :
    Calls Tryz.prog 16 #[.string s] w fun e w' => ∃ ao cv, e = .returned (.tuple #[.slice ao (lineW s).length cv, .bool (lineO s)]) ∧ OwnT w.heap.size w' (.slice ao (lineW s).length cv) (lineW s) ∧ Below w.heap.size w w' := by
  have O1 : OwnT w.heap.size (w.alloc (.cells #[] 9)) (.slice (some ⟨w.heap.size, 0, none⟩) 0 0) [] := OwnT.empty _ _ (Nat.le_refl _)
  go_enter Tryz.func16, Tryz.ntmps16
  go_wp2_with fail
  go_loopw [4, 5, 6] (fun v vf vi wr => ∃ (k f : Nat) (ps : List ByteArray) (ao : Option Addr) (cv : Nat), k ≤ s.size ∧ f ≤ k ∧ vi = .int .i64 k ∧ vf = .int .i64 f ∧ v = .slice ao ps.length cv ∧ ps.length ≤ k ∧ Hid (OwnT w.heap.size wr (.slice ao ps.length cv) ps) ∧ Hid (ScanN s ps f k) ∧ Below w.heap.size w wr) (fun _ _ vi _ => s.size - (intOf vi).toNat)
  case atStart => exact ⟨0, 0, [], some ⟨w.heap.size, 0, none⟩, 0, Nat.zero_le _, Nat.le_refl _, rfl, rfl, rfl, Nat.le_refl _, O1, ScanN.start s, (Below.refl _ _).alloc (Nat.le_refl _) _⟩
  case round =>
    obtain ⟨k, f, ps, ao, cv, hk, hf, rfl, rfl, rfl, hkl, hown, hsc, hB⟩ := hrel
    clear O1
    by_cases hlt : k < s.size
    · by_cases hc : (s[k].toNat : Int) = 10
      · have own3 := hown.out.keep ((Below.refl _ _).alloc (Nat.le_refl _) (.cells #[.string (s.extract f k)] 9))
        obtain ⟨v4, w4, r4, own4, B4⟩ := ownT_append own3 (one_txs wr (s.extract f k) _ (Nat.lt_succ_self _)) (by simp; omega) (by have := hB.size; simp; omega)
        have hB4 : Below w.heap.size w w4 := (hB.alloc hB.size _).trans B4
        obtain ⟨a4, c4, rfl, _⟩ := own4.form
        have HO4 : Hid (OwnT w.heap.size w4 (.slice a4 (ps ++ [s.extract f k]).length c4) (ps ++ [s.extract f k])) := own4
        have HRN : Hid ((Builtin.append_ #[33, 33] 33 #[.slice ao ps.length cv, .slice (some ⟨wr.heap.size, 0, none⟩) 1 1]).run Tryz.prog (wr.alloc (.cells #[.string (s.extract f k)] 9)) = .ok (.slice a4 (ps ++ [s.extract f k]).length c4) w4) := r4
        have HLE : Hid ((ps ++ [s.extract f k]).length = ps.length + 1) := by rw [Hid, List.length_append]; rfl
        have hc2 : s[k] = 10 := UInt8.toNat_inj.1 (show s[k].toNat = 10 by omega)
        have HC : Hid (ScanN s (ps ++ [s.extract f k]) (k + 1) (k + 1)) := hsc.out.cut hlt hc2
        clear own3 own4 B4 r4 hc2 hsc hown
        generalize hps : ps ++ [s.extract f k] = ps2 at *
        have HPS : Hid (ps ++ [s.extract f k] = ps2) := hps
        clear hps
        go_wp2_with (at_builtin; refine wpList_append_run2 rfl _ _ 33 33 rfl _ _ _ w4 rfl rfl HRN.out ?_)
        go_roundw
        case rel => exact ⟨k + 1, k + 1, ps2, a4, c4, by omega, by omega, by go_num, by go_num, rfl, by rw [HLE.out]; omega, HO4, HC, hB4⟩
        case measure => simp [intOf]; omega
      · have hc2 : s[k] ≠ 10 := fun e => hc (by rw [e]; rfl)
        have hcb : ((s[k].toNat : Int) == 10) = false := beq_eq_false_iff_ne.2 hc
        have HC : Hid (ScanN s ps f (k + 1)) := hsc.out.go hlt hc2
        clear hc2 hsc
        go_wp2
        go_roundw
        case rel => exact ⟨k + 1, f, ps, ao, cv, by omega, by omega, by go_num, rfl, rfl, by omega, hown, HC, hB⟩
        case measure => simp [intOf]; omega
    · have hke : k = s.size := by omega
      subst hke
      obtain ⟨hp, hq⟩ := hsc.out.fin
      subst hp
      have HQ : Hid (((f : Int) == (s.size : Int)) = lineO s) := hq
      clear hq hsc
      go_wp2
      refine bodyPost_ret (v := .tuple #[.slice ao (lineW s).length cv, .bool ((f : Int) == (s.size : Int))]) (by simp [results, Tryz.results16, go_sem]) rfl ?_
      exact ⟨ao, cv, by rw [HQ.out], hown.out, hB⟩
end Go.Proofs.YthmhaflkkigenaaGreatDoor

/- The reference's Number. -/
namespace Go.Proofs.YthmhaflkkigenaaGreatDoor
open Go.ChangeShapes Go.WideShapes Go.ChangeAt Go.RowKit
set_option linter.unusedVariables false

/-- A number that is told so. -/
def numOk (x : ByteArray) : Bool := numB 10 18 x && ((itoaS (numI 10 18 x)).toList == x.toList)
set_option maxRecDepth 100000 in
set_option maxHeartbeats 2000000 in
theorem r9number_any (x : ByteArray) (w : World) (hs : x.size ≤ 1048576) :
    Calls Tryz.prog 18 #[.string x] w fun e w' => e = .returned (.tuple #[.int .i64 (numI 10 18 x), .bool (numOk x)]) ∧ Below w.heap.size w w' := by
  have HD : Hid (∀ W, Calls Tryz.prog 41 #[.string x] W fun e w' => e = .returned (.tuple #[.int .i64 (numI 10 18 x), .bool (numB 10 18 x)]) ∧ w' = W) := fun W => rdecimal_any x W (by unfold maxLen; omega)
  have HT : Hid (∀ W, Calls Tryz.prog 42 #[.int .i64 (numI 10 18 x)] W fun e w' => e = .returned (.string (itoaS (numI 10 18 x))) ∧ Below W.heap.size W w') := fun W => rtext_pos _ (numI_bdT x).1 (by have := (numI_bdT x).2; omega) W
  have HO : Hid (numOk x = (numB 10 18 x && ((itoaS (numI 10 18 x)).toList == x.toList))) := rfl
  generalize numOk x = R at *
  generalize itoaS (numI 10 18 x) = t at *
  generalize numI 10 18 x = n at *
  cases hb : numB 10 18 x
  · rw [hb] at HD HO
    obtain rfl := HO.out
    clear HO HT
    go_enter Tryz.func18, Tryz.ntmps18
    go_wp2_with fail
    refine (HD.out _).mono ?_
    rintro e w1 ⟨rfl, rfl⟩
    go_wp2
    refine bodyPost_ret (v := .tuple #[.int .i64 n, .bool false]) (by simp [results, Tryz.results18, go_sem]) rfl ?_
    exact ⟨rfl, Below.refl _ _⟩
  · rw [hb] at HD HO
    cases hq : (t.toList == x.toList)
    · rw [hq] at HO
      obtain rfl := HO.out
      clear HO
      go_enter Tryz.func18, Tryz.ntmps18
      go_wp2_with fail
      refine (HD.out _).mono ?_
      rintro e w1 ⟨rfl, rfl⟩
      go_wp2_with fail
      refine (HT.out _).mono ?_
      rintro e w2 ⟨rfl, B2⟩
      go_wp2
      refine bodyPost_ret (v := .tuple #[.int .i64 n, .bool false]) (by simp [results, Tryz.results18, go_sem]) rfl ?_
      exact ⟨rfl, B2⟩
    · rw [hq] at HO
      obtain rfl := HO.out
      clear HO
      go_enter Tryz.func18, Tryz.ntmps18
      go_wp2_with fail
      refine (HD.out _).mono ?_
      rintro e w1 ⟨rfl, rfl⟩
      go_wp2_with fail
      refine (HT.out _).mono ?_
      rintro e w2 ⟨rfl, B2⟩
      go_wp2
      refine bodyPost_ret (v := .tuple #[.int .i64 n, .bool true]) (by simp [results, Tryz.results18, go_sem]) rfl ?_
      exact ⟨rfl, B2⟩
end Go.Proofs.YthmhaflkkigenaaGreatDoor

/- The reference's SameTexts and SameInts of equal rows. -/
namespace Go.Proofs.YthmhaflkkigenaaGreatDoor
open Go.ChangeShapes Go.WideShapes Go.ChangeAt Go.RowKit
set_option linter.unusedVariables false

set_option maxRecDepth 100000 in
set_option maxHeartbeats 2000000 in
theorem r1texts_same (xs : List ByteArray) (a : Option Addr) (c : Nat) (b : Option Addr) (d : Nat) (w : World) (hl : xs.length ≤ 1048576) (h1 : Txs w.heap.size w (.slice a xs.length c) xs) (h2 : Txs w.heap.size w (.slice b xs.length d) xs) :
    Calls Tryz.prog 20 #[.slice a xs.length c, .slice b xs.length d] w fun e w' => e = .returned (.bool true) ∧ Below w.heap.size w w' := by
  have H1 : Hid (Txs w.heap.size w (.slice a xs.length c) xs) := h1
  have H2 : Hid (Txs w.heap.size w (.slice b xs.length d) xs) := h2
  clear h1 h2
  go_enter Tryz.func20, Tryz.ntmps20
  go_wp2_with fail
  go_loopw [5] (fun v wr => ∃ k : Nat, k ≤ xs.length ∧ v = .int .i64 k ∧ Below w.heap.size w wr) (fun v _ => xs.length - (intOf v).toNat)
  case atStart => exact ⟨0, Nat.zero_le _, rfl, Below.refl _ _⟩
  case round =>
    obtain ⟨k, hk, rfl, hB⟩ := hrel
    by_cases hlt : k < xs.length
    · obtain ⟨a2, c2, e2, _, q2, q3, q4⟩ := H1.out
      obtain ⟨rfl, _, rfl⟩ := slice_inj e2
      obtain ⟨g1, o1, rfl, hg1, hc1⟩ := q4 (by omega)
      obtain ⟨a3, c3, e3, _, p2, p3, p4⟩ := H2.out
      obtain ⟨rfl, _, rfl⟩ := slice_inj e3
      obtain ⟨g2, o2, rfl, hg2, hc2⟩ := p4 (by omega)
      have t1 := (hB.cell (p := ⟨g1, o1 + k, none⟩) hg1).trans (hc1 k hlt)
      have t2 := (hB.cell (p := ⟨g2, o2 + k, none⟩) hg2).trans (hc2 k hlt)
      unfold maxLen at q3 p3
      clear H1 H2 q4 p4 e2 e3 hc1 hc2
      generalize xs[k] = x at *
      have hx : (x.toList == x.toList) = true := beq_self_eq_true _
      go_wp2
      go_quiet (fail)
      go_wp2
      go_roundw
      case rel => exact ⟨k + 1, by omega, by go_num, hB.trans (rn_drewN _ _ _)⟩
      case measure => simp [intOf]; omega
    · have hk' : k = xs.length := by omega
      subst hk'
      clear H1 H2
      go_wp2
      go_ret
      exact ⟨rfl, hB⟩
set_option maxRecDepth 100000 in
set_option maxHeartbeats 2000000 in
theorem r1ints_same (s : SlotP) (b1 b2 : Nat) (w : World) (h1 : w.heap[b1]? = some (.cells #[.int .i64 s.q, .int .i64 s.c, .int .i64 s.p, .int .i64 s.r, .int .i64 s.b, .int .i64 s.u] 3)) (h2 : w.heap[b2]? = some (.cells #[.int .i64 s.q, .int .i64 s.c, .int .i64 s.p, .int .i64 s.r, .int .i64 s.b, .int .i64 s.u] 3)) :
    Calls Tryz.prog 21 #[.slice (some ⟨b1, 0, none⟩) 6 6, .slice (some ⟨b2, 0, none⟩) 6 6] w fun e w' => e = .returned (.bool true) ∧ Below w.heap.size w w' := by
  have H1 : Hid (∀ (k : Nat) (hk : k < 6), w.cell? ⟨b1, k, none⟩ = some (.int .i64 ((numsP s)[k]'hk))) := fun k hk => nums_cell hk h1
  have H2 : Hid (∀ (k : Nat) (hk : k < 6), w.cell? ⟨b2, k, none⟩ = some (.int .i64 ((numsP s)[k]'hk))) := fun k hk => nums_cell hk h2
  have hb1 := heap_lt h1
  have hb2 := heap_lt h2
  clear h1 h2
  go_enter Tryz.func21, Tryz.ntmps21
  go_wp2_with fail
  go_loopw [5] (fun v wr => ∃ k : Nat, k ≤ 6 ∧ v = .int .i64 k ∧ Below w.heap.size w wr) (fun v _ => 6 - (intOf v).toNat)
  case atStart => exact ⟨0, Nat.zero_le _, rfl, Below.refl _ _⟩
  case round =>
    obtain ⟨k, hk, rfl, hB⟩ := hrel
    by_cases hlt : k < 6
    · have t1 := (hB.cell (p := ⟨b1, k, none⟩) hb1).trans (H1.out k hlt)
      have t2 := (hB.cell (p := ⟨b2, k, none⟩) hb2).trans (H2.out k hlt)
      have c1 : (0 : Int) ≤ (k : Int) := by omega
      have c2 : (k : Int) < 6 := by omega
      clear H1 H2
      generalize (numsP s)[k]'hlt = x at *
      have hx : (x == x) = true := beq_self_eq_true _
      go_wp2
      go_quiet (fail)
      go_wp2
      go_roundw
      case rel => exact ⟨k + 1, by omega, by go_num, hB.trans (rn_drewN _ _ _)⟩
      case measure => simp [intOf]; omega
    · have hk' : k = 6 := by omega
      subst hk'
      clear H1 H2
      go_wp2
      go_ret
      exact ⟨rfl, hB⟩
end Go.Proofs.YthmhaflkkigenaaGreatDoor

/- The reference's Same of equal tables. -/
namespace Go.Proofs.YthmhaflkkigenaaGreatDoor
open Go.ChangeShapes Go.WideShapes Go.ChangeAt Go.RowKit
set_option linter.unusedVariables false

def NumO (s : SlotP) : Obj := .cells #[.int .i64 s.q, .int .i64 s.c, .int .i64 s.p, .int .i64 s.r, .int .i64 s.b, .int .i64 s.u] 3
theorem sls_sc8 {w : World} {a : Option Addr} {c : Nat} {ts : List SlotP} (h : Sls w.heap.size w (.slice a ts.length c) ts) (h0 : 0 < ts.length) : ∃ g off, a = some ⟨g, off, none⟩ ∧ g < w.heap.size ∧ ts.length ≤ c ∧ ∀ (k : Nat) (hk : k < ts.length), ∃ ha hc, Txs w.heap.size w (.slice ha ts[k].h.length hc) ts[k].h ∧ ∀ V, Below w.heap.size w V → SC8 V g (off + k * 8) ts[k] ha hc := by
  obtain ⟨a1, c1, e1, _, hl, _, h4⟩ := h
  obtain ⟨rfl, _, rfl⟩ := slice_inj e1
  obtain ⟨g, off, rfl, hg, hc⟩ := h4 h0
  refine ⟨g, off, rfl, hg, hl, fun k hk => ?_⟩
  obtain ⟨ha, hcp, d0, d1, d2, d3, d4, d5, d6, d7, kt⟩ := hc k hk
  exact ⟨ha, hcp, kt, fun V b => ⟨(b.cell (p := ⟨g, _, none⟩) hg).trans d0, (b.cell (p := ⟨g, _, none⟩) hg).trans d1, (b.cell (p := ⟨g, _, none⟩) hg).trans d2, (b.cell (p := ⟨g, _, none⟩) hg).trans d3, (b.cell (p := ⟨g, _, none⟩) hg).trans d4, (b.cell (p := ⟨g, _, none⟩) hg).trans d5, (b.cell (p := ⟨g, _, none⟩) hg).trans d6, (b.cell (p := ⟨g, _, none⟩) hg).trans d7⟩⟩
set_option maxRecDepth 100000 in
set_option maxHeartbeats 8000000 in
theorem r9same_eq (ts : List SlotP) (a : Option Addr) (c : Nat) (b : Option Addr) (d : Nat) (w : World) (hl : ts.length ≤ 1048576) (hh : ∀ s ∈ ts, s.h.length ≤ 1048576) (h1 : Sls w.heap.size w (.slice a ts.length c) ts) (h2 : Sls w.heap.size w (.slice b ts.length d) ts) :
    Calls Tryz.prog 7 #[.slice a ts.length c, .slice b ts.length d] w fun e w' => e = .returned (.bool true) ∧ Below w.heap.size w w' := by
  rcases Nat.eq_zero_or_pos ts.length with h0 | h0
  · rw [h0]
    clear h1 h2 hh hl
    go_enter Tryz.func7, Tryz.ntmps7
    go_wp2_with fail
    go_loop [5] (fun v => v = .int .i64 0) (fun _ => 0)
    case atStart => rfl
    case round =>
      subst hrel
      go_wp2
      go_ret
      exact ⟨rfl, Below.refl _ _⟩
  · obtain ⟨g1, o1, rfl, hg1, hc1, K1⟩ := sls_sc8 h1 h0
    obtain ⟨g2, o2, rfl, hg2, hc2, K2⟩ := sls_sc8 h2 h0
    have hcm : c ≤ 9223372036854775807 := by
      have := h1.len
      unfold maxLen at this
      omega
    have hdm : d ≤ 9223372036854775807 := by
      have := h2.len
      unfold maxLen at this
      omega
    have H1 : Hid (∀ (k : Nat) (hk : k < ts.length), ∃ ha hc, Txs w.heap.size w (.slice ha ts[k].h.length hc) ts[k].h ∧ ∀ V, Below w.heap.size w V → SC8 V g1 (o1 + k * 8) ts[k] ha hc) := K1
    have H2 : Hid (∀ (k : Nat) (hk : k < ts.length), ∃ ha hc, Txs w.heap.size w (.slice ha ts[k].h.length hc) ts[k].h ∧ ∀ V, Below w.heap.size w V → SC8 V g2 (o2 + k * 8) ts[k] ha hc) := K2
    have HH : Hid (∀ s ∈ ts, s.h.length ≤ 1048576) := hh
    clear h1 h2 hh K1 K2
    go_enter Tryz.func7, Tryz.ntmps7
    go_wp2_with fail
    go_loopw [5] (fun v wr => ∃ k : Nat, k ≤ ts.length ∧ v = .int .i64 k ∧ Below w.heap.size w wr) (fun v _ => ts.length - (intOf v).toNat)
    case atStart => exact ⟨0, Nat.zero_le _, rfl, Below.refl _ _⟩
    case round =>
      obtain ⟨k, hk, rfl, hB⟩ := hrel
      by_cases hlt : k < ts.length
      · obtain ⟨a1, c1, T1, S1⟩ := H1.out k hlt
        obtain ⟨a2, c2, T2, S2⟩ := H2.out k hlt
        have hsl := HH.out _ (List.getElem_mem hlt)
        clear H1 H2 HH
        generalize ts[k] = s at *
        have HT : Hid (∀ V, Below w.heap.size w V → Calls Tryz.prog 20 #[.slice a1 s.h.length c1, .slice a2 s.h.length c2] V fun e w' => e = .returned (.bool true) ∧ Below w.heap.size w w') := fun V b => (r1texts_same s.h a1 c1 a2 c2 V hsl ((T1.keep b).mono b.size) ((T2.keep b).mono b.size)).mono fun e w' ⟨q1, q2⟩ => ⟨q1, b.trans (q2.mono b.size)⟩
        have HN : Hid (∀ V, Below w.heap.size w V → Calls Tryz.prog 22 #[.agg (slotV s a1 c1)] V fun e w' => ∃ b, e = .returned (.slice (some ⟨b, 0, none⟩) 6 6) ∧ w'.heap[b]? = some (NumO s) ∧ Below w.heap.size w w') := fun V b => (r9numbers_any s a1 c1 V).mono fun e w' ⟨b', q1, q2, _, q3⟩ => ⟨b', q1, q2, b.trans (q3.mono b.size)⟩
        have HN2 : Hid (∀ V k, Below w.heap.size w V → V.heap[k]? = some (NumO s) → Calls Tryz.prog 22 #[.agg (slotV s a2 c2)] V fun e w' => ∃ b, e = .returned (.slice (some ⟨b, 0, none⟩) 6 6) ∧ w'.heap[b]? = some (NumO s) ∧ w'.heap[k]? = some (NumO s) ∧ Below w.heap.size w w') := fun V k b hk => (r9numbers_any s a2 c2 V).mono fun e w' ⟨b', q1, q2, _, q3⟩ => ⟨b', q1, q2, (q3.block _ (heap_lt hk)).trans hk, b.trans (q3.mono b.size)⟩
        have HI : Hid (∀ V k1 k2, Below w.heap.size w V → V.heap[k1]? = some (NumO s) → V.heap[k2]? = some (NumO s) → Calls Tryz.prog 21 #[.slice (some ⟨k1, 0, none⟩) 6 6, .slice (some ⟨k2, 0, none⟩) 6 6] V fun e w' => e = .returned (.bool true) ∧ Below w.heap.size w w') := fun V k1 k2 b q1 q2 => (r1ints_same s k1 k2 V q1 q2).mono fun e w' ⟨q1, q2⟩ => ⟨q1, b.trans (q2.mono b.size)⟩
        have HC : Hid (∀ V, Below w.heap.size w V → SC8 V g1 (o1 + k * 8) s a1 c1 ∧ SC8 V g2 (o2 + k * 8) s a2 c2) := fun V b => ⟨S1 V b, S2 V b⟩
        clear T1 T2 S1 S2
        have hnn : (s.n.toList == s.n.toList) = true := beq_self_eq_true _
        have S4 := HC.out wr hB
        unfold SC8 at HC S4
        unfold slotV at HN HN2
        generalize s.h.length = lh at *
        go_wp2_with fail
        go_region_held3 (fun V => (V.cell? ⟨g1, o1 + k * 8, none⟩ = some (.string s.n) ∧ V.cell? ⟨g1, o1 + k * 8 + 1, none⟩ = some (.slice a1 lh c1) ∧ V.cell? ⟨g1, o1 + k * 8 + 2, none⟩ = some (.int .i64 s.q) ∧ V.cell? ⟨g1, o1 + k * 8 + 3, none⟩ = some (.int .i64 s.c) ∧ V.cell? ⟨g1, o1 + k * 8 + 4, none⟩ = some (.int .i64 s.p) ∧ V.cell? ⟨g1, o1 + k * 8 + 5, none⟩ = some (.int .i64 s.r) ∧ V.cell? ⟨g1, o1 + k * 8 + 6, none⟩ = some (.int .i64 s.b) ∧ V.cell? ⟨g1, o1 + k * 8 + 7, none⟩ = some (.int .i64 s.u)) ∧ (V.cell? ⟨g2, o2 + k * 8, none⟩ = some (.string s.n) ∧ V.cell? ⟨g2, o2 + k * 8 + 1, none⟩ = some (.slice a2 lh c2) ∧ V.cell? ⟨g2, o2 + k * 8 + 2, none⟩ = some (.int .i64 s.q) ∧ V.cell? ⟨g2, o2 + k * 8 + 3, none⟩ = some (.int .i64 s.c) ∧ V.cell? ⟨g2, o2 + k * 8 + 4, none⟩ = some (.int .i64 s.p) ∧ V.cell? ⟨g2, o2 + k * 8 + 5, none⟩ = some (.int .i64 s.r) ∧ V.cell? ⟨g2, o2 + k * 8 + 6, none⟩ = some (.int .i64 s.b) ∧ V.cell? ⟨g2, o2 + k * 8 + 7, none⟩ = some (.int .i64 s.u)))
          (first | exact S4 | exact S5 | exact S6 | exact S7 | exact S8 | go_keep)
          (first
            | (go_simp; go_at_call 20; refine Calls.mono (HT.out _ (Below.drew hB)) ?_; rintro e W5 ⟨rfl, C5⟩; have S5 := HC.out W5 C5)
            | (go_simp; go_at_call 21; refine Calls.mono (HI.out _ b6 b7 C7 k67 k7) ?_; rintro e W8 ⟨rfl, C8⟩; have S8 := HC.out W8 C8)
            | (go_simp; go_at_call 22; refine Calls.mono (HN2.out _ b6 C6 k6) ?_; rintro e W7 ⟨b7, rfl, k7, k67, C7⟩; have S7 := HC.out W7 C7)
            | (go_simp; go_at_call 22; refine Calls.mono (HN.out _ C5) ?_; rintro e W6 ⟨b6, rfl, k6, C6⟩; have S6 := HC.out W6 C6))
        go_wp2
        go_roundw
        case rel => exact ⟨k + 1, by omega, by go_num, C8⟩
        case measure => simp [intOf]; omega
      · have hk' : k = ts.length := by omega
        subst hk'
        clear H1 H2 HH
        go_wp2
        go_ret
        exact ⟨rfl, hB⟩
end Go.Proofs.YthmhaflkkigenaaGreatDoor
