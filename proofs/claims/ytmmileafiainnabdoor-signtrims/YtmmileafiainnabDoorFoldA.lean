/- Plain lemmas on folded texts. -/
import Derived.Test.YtmmileafiainnabDoorTxtC
import Derived.Deep.DeepCutAuto
namespace Go.Proofs.YtmmileafiainnabDoor
open Go.RowKit
set_option linter.unusedVariables false

theorem foldB_idem (b : UInt8) : foldB (foldB b) = foldB b := by
  have h : ∀ n : Nat, n < 256 → foldB (foldB (UInt8.ofNat n)) = foldB (UInt8.ofNat n) := by decide +kernel
  have k := h b.toNat b.toNat_lt
  rwa [UInt8.ofNat_toNat] at k
theorem foldS_idem (s : ByteArray) : foldS (foldS s) = foldS s := by
  unfold foldS foldL
  simp [foldB_idem, Function.comp_def]
theorem foldS_size (s : ByteArray) : (foldS s).size = s.size := by
  show (foldL s.data.toList).length = s.data.toList.length
  unfold foldL; rw [List.length_map]
def letB (b : UInt8) : Bool := (decide (97 ≤ (b.toNat : Int)) && decide ((b.toNat : Int) ≤ 122)) || (decide (65 ≤ (b.toNat : Int)) && decide ((b.toNat : Int) ≤ 90))
theorem fold_xor (b : UInt8) : (foldB b == foldB (b ^^^ 32)) = letB b := by
  have h : ∀ n : Nat, n < 256 → (foldB (UInt8.ofNat n) == foldB (UInt8.ofNat n ^^^ 32)) = letB (UInt8.ofNat n) := by decide +kernel
  have k := h b.toNat b.toNat_lt
  rwa [UInt8.ofNat_toNat] at k
theorem xor_u8 (b : UInt8) : bits BinOp.xor IntKind.u8 (b.toNat : Int) 32 = ((b ^^^ 32).toNat : Int) := by
  have h : ∀ n : Nat, n < 256 → bits BinOp.xor IntKind.u8 ((UInt8.ofNat n).toNat : Int) 32 = ((UInt8.ofNat n ^^^ 32).toNat : Int) := by decide +kernel
  have k := h b.toNat b.toNat_lt
  rwa [UInt8.ofNat_toNat] at k
theorem set_same (l : List UInt8) (i : Nat) (h : i < l.length) (x : UInt8) : (foldL l == foldL (l.set i x)) = (foldB l[i] == foldB x) := by
  unfold foldL
  rw [List.map_set]
  rw [Bool.eq_iff_iff, beq_iff_eq, beq_iff_eq]
  constructor
  · intro e
    have k := congrArg (fun q => q[i]?) e
    simp only [List.getElem?_map, List.getElem?_eq_getElem h, Option.map_some] at k
    rw [List.getElem?_set_self (by simpa using h)] at k
    exact Option.some.inj k
  · intro e
    rw [← e]
    have : (l.map foldB)[i]'(by simpa using h) = foldB l[i] := by simp
    rw [← this, List.set_getElem_self]
theorem same_xor (s : ByteArray) (i : Nat) (h : i < s.size) : ((foldS s).toList == (foldS ⟨(s.data.toList.set i (s[i] ^^^ 32)).toArray⟩).toList) = letB s[i] := by
  rw [ByteArray.toList_eq, ByteArray.toList_eq]
  show (foldL s.data.toList == foldL (s.data.toList.set i (s[i] ^^^ 32))) = _
  rw [set_same _ _ h]
  exact fold_xor s[i]
theorem and_mask (n : Int) (m : Nat) (hm : m < 9223372036854775808) : ∃ k : Nat, k ≤ m ∧ bits .and .i64 n (m : Int) = (k : Int) := by
  have h2 : (BitVec.ofInt 64 (m : Int)).toNat = m := by
    rw [BitVec.ofInt_natCast, BitVec.toNat_ofNat]; exact Nat.mod_eq_of_lt (by omega)
  have hk : (BitVec.ofInt 64 n &&& BitVec.ofInt 64 (m : Int)).toNat ≤ m := by
    rw [BitVec.toNat_and, h2]; exact Nat.and_le_right
  refine ⟨(BitVec.ofInt 64 n &&& BitVec.ofInt 64 (m : Int)).toNat, hk, ?_⟩
  show IntKind.i64.wrap ((BitVec.ofInt 64 n &&& BitVec.ofInt 64 (m : Int)).toNat : Int) = _
  rw [IntKind.wrap_i64]
  generalize (BitVec.ofInt 64 n &&& BitVec.ofInt 64 (m : Int)).toNat = k at *
  omega
theorem ret_b {x y : Bool} (h : x = y) : Ending.returned (.bool x) = .returned (.bool y) := by rw [h]

set_option maxRecDepth 100000 in
set_option maxHeartbeats 4000000 in
theorem folds_walk (s : ByteArray) (at_ : Int) (w : World) (hs : s.size ≤ 140737488355328) (hM : MaxL w) :
    Calls Tryd.prog 6 #[.string s, .int .i64 at_] w fun e w' => e = .returned (.bool true) ∧ Below w.heap.size w w' := by
  obtain ⟨m, hm, hb⟩ := and_mask at_ 1048575 (by decide)
  have hb' : bits BinOp.and IntKind.i64 at_ 1048575 = (m : Int) := hb
  clear hb
  have hsm : s.size ≤ maxLen := by unfold maxLen; omega
  have hf : (foldS s).size = s.size := foldS_size s
  have HI : Hid (foldS (foldS s) = foldS s) := foldS_idem s
  have HSM : Hid (s.size ≤ maxLen) := hsm
  have HFM : Hid ((foldS s).size ≤ maxLen) := by rw [Hid, hf]; exact hsm
  clear hsm
  go_enter Tryd.func6, Tryd.ntmps6
  go_wp2_with fail
  refine (texts_any _ hM).mono ?_
  rintro e w1 ⟨rfl, B1⟩
  clear hM
  go_wp2_with fail
  refine (fold_any s _ HSM.out).mono ?_
  rintro e w2 ⟨rfl, B2⟩
  have C2 := B1.trans (B2.mono B1.size)
  clear B1 B2
  go_wp2_with fail
  refine (fold_any (foldS s) _ HFM.out).mono ?_
  rw [HI.out]
  rintro e w3 ⟨rfl, B3⟩
  have C3 := C2.trans (B3.mono C2.size)
  clear C2 B3
  go_wp2_with fail
  refine (same_any s (foldS s) _ HSM.out HFM.out).mono ?_
  rw [HI.out]
  rintro e w4 ⟨rfl, B4⟩
  have C4 := C3.trans (B4.mono C3.size)
  clear C3 B4
  go_wp2_with fail
  refine (same_any s s _ HSM.out HSM.out).mono ?_
  rintro e w5 ⟨rfl, B5⟩
  have C5 := C4.trans (B5.mono C4.size)
  clear C4 B5
  by_cases hz : s.size = 0
  · have h0 : ((s.size : Int) == 0) = true := by simp; exact empty_t hz
    go_wp2
    go_ret
    exact ⟨rfl, C5⟩
  · have hne : ((s.size : Int) == 0) = false := beq_eq_false_iff_ne.2 (by omega)
    obtain ⟨i, hi, hi2⟩ : ∃ i : Nat, i < s.size ∧ (m : Int) % (s.size : Int) = (i : Int) := ⟨m % s.size, Nat.mod_lt _ (by omega), (Int.natCast_emod m s.size).symm⟩
    have hnz : ¬ (s.size : Int) = 0 := by omega
    have hcv := run_bytes_of_string (P := Tryd.prog) w5 9 33 5 s Tryd.underlying9 Tryd.underlying33 Tryd.underlying5
    have HROW : Hid (InRow ((w5.alloc (.cells (bytesRow s (grownCap w5 s.size 0 5)) 5 ((bytesRow s (grownCap w5 s.size 0 5)).size, (bytesRow s (grownCap w5 s.size 0 5)).size + 1))).drew) w5.heap.size s.data.toList (List.replicate (grownCap w5 s.size 0 5 - s.size) (.int .u8 0))) := InRow.new w5 s _
    clear hz
    go_upto_region 8 with fail
    go_cut [6] (fun v wx => ∃ (cap : Nat) (z : List Value), v = .slice (some ⟨w5.heap.size, 0, none⟩) s.size cap ∧ InRow wx w5.heap.size s.data.toList z ∧ Below w5.heap.size w5 wx)
    case first =>
      go_wp2
      go_meet
      exact ⟨_, _, rfl, HROW.out, ((Below.refl _ _).alloc (Nat.le_refl _) _).drew⟩
    case rest =>
      obtain ⟨cap, z, rfl, hr, hB6⟩ := hcut
      clear hcv HROW
      have hc : wc.cell? ⟨w5.heap.size, i, none⟩ = some (.int .u8 (s[i].toNat : Int)) := hr.cell i hi
      have hzf := hr.z i hi
      have hx := xor_u8 s[i]
      have hset := hr.set i hi (s[i] ^^^ 32)
      have hcv2 : (convert 33 9 (.slice (some ⟨w5.heap.size, 0, none⟩) s.size cap)).run Tryd.prog (wc.setCell ⟨w5.heap.size, i, none⟩ (.int .u8 ((s[i] ^^^ 32).toNat : Int))) = .ok (.string ⟨(s.data.toList.set i (s[i] ^^^ 32)).toArray⟩) (wc.setCell ⟨w5.heap.size, i, none⟩ (.int .u8 ((s[i] ^^^ 32).toNat : Int))) := by
        have h := run_convert_bytes_back (P := Tryd.prog) (wc.setCell ⟨w5.heap.size, i, none⟩ (bvT (s[i] ^^^ 32))) 33 9 5 ⟨w5.heap.size, 0, none⟩ cap (s.data.toList.set i (s[i] ^^^ 32)) Tryd.underlying33 Tryd.underlying5 Tryd.underlying9 (fun j hj => by
          rw [Lib.add_plain]; rw [Nat.zero_add]; exact hset.cell j hj)
        rw [List.length_set] at h
        exact h
      have HE : Hid (((foldS s).toList == (foldS ⟨(s.data.toList.set i (s[i] ^^^ 32)).toArray⟩).toList) = letB s[i]) := same_xor s i hi
      have HS2 : Hid ((⟨(s.data.toList.set i (s[i] ^^^ 32)).toArray⟩ : ByteArray).size ≤ maxLen) := by
        rw [Hid]; show (s.data.toList.set i (s[i] ^^^ 32)).length ≤ maxLen; rw [List.length_set]; exact HSM.out
      have C6 := C5.trans ((hB6.setCell (p := ⟨w5.heap.size, i, none⟩) (Nat.le_refl _) (.int .u8 ((s[i] ^^^ 32).toNat : Int))).mono C5.size)
      clear hset hr hB6 C5 hf
      generalize (s[i] ^^^ 32 : UInt8) = xb at *
      generalize (⟨(s.data.toList.set i xb).toArray⟩ : ByteArray) = S2 at *
      have bd := s[i].toNat_lt
      by_cases a : 97 ≤ (s[i].toNat : Int)
      · by_cases b : (s[i].toNat : Int) ≤ 122
        · have HL : Hid (letB s[i] = true) := by rw [Hid, letB]; simp [a, b]
          go_wp2_with fail
          refine (same_any s S2 _ HSM.out HS2.out).mono ?_
          rw [HE.out, HL.out]
          rintro e w7 ⟨rfl, B7⟩
          go_wp2
          go_ret
          exact ⟨rfl, C6.trans (B7.mono C6.size)⟩
        · have c1 : 65 ≤ (s[i].toNat : Int) := by omega
          have c2 : ¬ (s[i].toNat : Int) ≤ 90 := by omega
          have HL : Hid (letB s[i] = false) := by rw [Hid, letB]; simp [b, c2]
          go_wp2_with fail
          refine (same_any s S2 _ HSM.out HS2.out).mono ?_
          rw [HE.out, HL.out]
          rintro e w7 ⟨rfl, B7⟩
          go_wp2
          go_ret
          exact ⟨rfl, C6.trans (B7.mono C6.size)⟩
      · by_cases c1 : 65 ≤ (s[i].toNat : Int)
        · by_cases c2 : (s[i].toNat : Int) ≤ 90
          · have HL : Hid (letB s[i] = true) := by rw [Hid, letB]; simp [c1, c2]
            go_wp2_with fail
            refine (same_any s S2 _ HSM.out HS2.out).mono ?_
            rw [HE.out, HL.out]
            rintro e w7 ⟨rfl, B7⟩
            go_wp2
            go_ret
            exact ⟨rfl, C6.trans (B7.mono C6.size)⟩
          · have HL : Hid (letB s[i] = false) := by rw [Hid, letB]; simp; omega
            go_wp2_with fail
            refine (same_any s S2 _ HSM.out HS2.out).mono ?_
            rw [HE.out, HL.out]
            rintro e w7 ⟨rfl, B7⟩
            go_wp2
            go_ret
            exact ⟨rfl, C6.trans (B7.mono C6.size)⟩
        · have HL : Hid (letB s[i] = false) := by rw [Hid, letB]; simp; omega
          go_wp2_with fail
          refine (same_any s S2 _ HSM.out HS2.out).mono ?_
          rw [HE.out, HL.out]
          rintro e w7 ⟨rfl, B7⟩
          go_wp2
          go_ret
          exact ⟨rfl, C6.trans (B7.mono C6.size)⟩
end Go.Proofs.YtmmileafiainnabDoor
