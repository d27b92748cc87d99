/- SignParts, walked. -/
import Derived.Test.YtmmileafiainnabDoorPartA
namespace Go.Proofs.YtmmileafiainnabDoor
open Go.RowKit
set_option linter.unusedVariables false

theorem catP (W : World) (a b : ByteArray) (h : a.size + b.size ≤ 281474976710656) : (Op.stringOp .add a b).run Tryd.prog W = .ok (.string (a ++ b)) W :=
  run_string_add_sum W a b (by omega)

set_option maxRecDepth 100000 in
set_option maxHeartbeats 4000000 in
theorem parts_walk (s : ByteArray) (w : World) (hs : s.size ≤ 1048576) (hM : MaxL w) :
    Calls Tryd.prog 7 #[.string s] w fun e w' => e = .returned (.bool true) ∧ Below w.heap.size w w' := by
  have HS : Hid (s.size ≤ 1048576) := hs
  have HP : Hid (Hid (∀ p ∈ pieces s, p.size ≤ 140737488355328)) := fun p hp => by have := pieces_size s p hp; omega
  have HG : Hid (∀ q ∈ keepT (pieces s), Good q.data.toList) := split_good s
  have HJ : Hid ((joinJ (keepT (pieces s))).length ≤ 10000000) := by rw [Hid]; have := split_join_len s; omega
  have HN : Hid ((keepT (pieces s)).length ≤ 1048578) := by rw [Hid]; have h1 := keepT_len (pieces s); have h2 := pieces_len s; omega
  have HPL : Hid ((pieces s).length = Lib.countB s ⟨#[44]⟩ + 1) := pieces_length s
  clear hs
  go_enter Tryd.func7, Tryd.ntmps7
  go_wp2_with fail
  refine (texts_any _ hM).mono ?_
  rintro e w1 ⟨rfl, B1⟩
  have M1 : Hid (MaxL w1) := hM.below B1
  clear hM
  go_wp2_with fail
  refine (split_any s w1 (by have := HS.out; omega) HPL.out HP.out.out M1.out).mono ?_
  clear HPL HP HS
  generalize keepT (pieces s) = Q at *
  rintro e w2 ⟨a1, c1, rfl, O2, B2⟩
  have M2 : Hid (MaxL w2) := M1.out.below B2
  have C2 := B1.trans (B2.mono B1.size)
  have HO2 : Hid (w2.ownsRow (w1.heap.size + 1) 9 1 (.slice a1 Q.length c1) Q.length (Q.map Value.string)) := O2
  clear B1 B2 M1 O2
  have hQ := HN.out
  go_wp2_with fail
  go_loopw [4, 14] (fun vx vk wr => ∃ (k : Nat) (x : ByteArray), k ≤ Q.length ∧ vx = .string x ∧ vk = .int .i64 (k : Int) ∧ Hid (x.data.toList = joinJ (Q.take k)) ∧ Below w2.heap.size w2 wr) (fun vx vk _ => Q.length - (intOf vk).toNat)
  case atStart => exact ⟨0, ⟨#[32, 44, 32]⟩, Nat.zero_le _, rfl, rfl, rfl, Below.refl _ _⟩
  case round =>
    obtain ⟨k, x, hk, rfl, rfl, hx, hB⟩ := hrel
    by_cases hlt : k < Q.length
    · obtain ⟨g, rfl, hcell⟩ := owns_at (owns_below HO2.out hB) (by omega)
      have q1 := hcell k hlt
      have hgd : Hid (Good Q[k].data.toList) := HG.out _ (List.getElem_mem hlt)
      have hnx : Hid (joinJ (Q.take (k + 1)) = joinJ (Q.take k) ++ Q[k].data.toList ++ [9, 44, 44, 32]) := join_next Q k hlt
      have hl1 := join_len Q (k + 1)
      have hl2 : (joinJ (Q.take (k + 1))).length = x.size + Q[k].size + 4 := by
        rw [hnx.out, ← hx.out]; simp only [List.length_append]; rfl
      have HSZ : Hid (x.size + Q[k].size + 4 ≤ 10000000) := by rw [Hid]; have := HJ.out; omega
      clear hl1 hl2 hcell
      generalize Q[k] = p at *
      have hcat1 := fun W : World => catP W x p (by have := HSZ.out; omega)
      have hcat2 := fun W : World => catP W (x ++ p) ⟨#[9, 44, 44, 32]⟩ (by have := HSZ.out; rw [cat_size]; show _ + 4 ≤ _; omega)
      have HX : Hid ((x ++ p ++ ⟨#[9, 44, 44, 32]⟩ : ByteArray).data.toList = joinJ (Q.take (k + 1))) := by
        rw [Hid, Joins.data_append, Joins.data_append, hnx.out, hx.out]
      have hne := isEmpty_t (good_size hgd.out)
      have HT : Hid (trimT p = p) := good_trim hgd.out
      clear hnx hx
      go_wp2_with fail
      refine (trim_any p _ (by have := HSZ.out; omega)).mono ?_
      rw [HT.out]
      rintro e w3 ⟨rfl, B3⟩
      have C3 := hB.trans (B3.mono hB.size)
      clear hB B3 q1 HT
      have hps : p.size ≤ 10000000 := by have := HSZ.out; omega
      go_wp2_with fail
      go_loopw [7] (fun vj wr => ∃ j : Nat, j ≤ p.size ∧ vj = .int .i64 (j : Int) ∧ Below w2.heap.size w2 wr) (fun vj _ => p.size - (intOf vj).toNat)
      case atStart => exact ⟨0, Nat.zero_le _, rfl, C3⟩
      case round =>
        obtain ⟨j, hj, rfl, hB4⟩ := hrel
        by_cases hjl : j < p.size
        · have hno := good_no hgd.out j hjl
          go_wp2
          go_roundw
          case rel => exact ⟨j + 1, by omega, by go_num, hB4⟩
          case measure => simp [intOf]; omega
        · go_wp2
          go_roundw
          case rel => exact ⟨k + 1, _, by omega, rfl, by go_num, HX, hB4⟩
          case measure => simp [intOf]; omega
    · have hke : k = Q.length := by omega
      have hxq : x.data.toList = joinJ Q := by have h := hx.out; rwa [hke, List.take_length] at h
      have hxs : x.size ≤ 10000000 := by
        have h : x.size = x.data.toList.length := rfl
        rw [hxq] at h; have := HJ.out; omega
      have HXS : Hid (x.size ≤ 10000000) := hxs
      have HKE : Hid (keepT (pieces x) = Q) := join_keep Q HG.out x hxq
      have HP2 : Hid (Hid (∀ p ∈ pieces x, p.size ≤ 140737488355328)) := fun p hp => by have := pieces_size x p hp; omega
      have HPL2 : Hid ((pieces x).length = Lib.countB x ⟨#[44]⟩ + 1) := pieces_length x
      have M3 := M2.out.below hB
      clear hxq hxs hke
      go_wp2_with fail
      have hsp := split_any x wr (by have := HXS.out; omega) HPL2.out HP2.out.out M3
      rw [HKE.out] at hsp
      refine hsp.mono ?_
      rintro e w5 ⟨a2, c2, rfl, O5, B5⟩
      have C5 := hB.trans (B5.mono hB.size)
      have O25 := owns_below HO2.out C5
      have HC : Hid (Calls Tryd.prog 14 #[.slice a2 Q.length c2, .slice a1 Q.length c1] w5 fun e w' => e = .returned (.bool true) ∧ Below w5.heap.size w5 w') := sameTexts_eq Q _ _ _ _ _ _ w5 (by unfold maxLen; omega) O5 O25
      have D5 := C2.trans (C5.mono C2.size)
      clear hsp O5 O25 C5 B5 HO2 hB M3
      go_wp2_with fail
      refine HC.out.mono ?_
      rintro e w6 ⟨rfl, B6⟩
      go_wp2
      go_ret
      exact ⟨rfl, D5.trans (B6.mono D5.size)⟩
end Go.Proofs.YtmmileafiainnabDoor
