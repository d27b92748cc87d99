/- A request's line is what the reference says it is. -/
import Derived.Test.YthbjdbookiejeabGreatDoorLqA
namespace Go.Proofs.YthbjdbookiejeabGreatDoor
open Go.RowKit
set_option linter.unusedVariables false

def vF (x y : Fin 10) : List UInt8 := [72, 84, 84, 80, 47, UInt8.ofNat (48 + x.val), 46, UInt8.ofNat (48 + y.val)]
theorem v_min : ∀ x y : Fin 10, (minP ⟨(vF x y).toArray⟩).2 = (decide (x.val = 1) && decide (y.val ≤ 1)) ∧ ((minP ⟨(vF x y).toArray⟩).2 = true → (minP ⟨(vF x y).toArray⟩).1 = (y.val : Int)) := by decide +kernel
theorem v_ver : ∀ x y : Fin 10, verP ⟨(vF x y).toArray⟩ = true := by decide +kernel
theorem v_ref : ∀ x y : Fin 10, rverL (vF x y) = ((x.val : Int), (y.val : Int), true) := by decide +kernel
theorem dig_fin {a : UInt8} (h : spanP 48 57 (a.toNat : Int) = true) : ∃ x : Fin 10, a = UInt8.ofNat (48 + x.val) := by
  have k : ∀ n : Fin 256, spanP 48 57 ((UInt8.ofNat n.val).toNat : Int) = true → ∃ x : Fin 10, UInt8.ofNat n.val = UInt8.ofNat (48 + x.val) := by decide +kernel
  have q := k ⟨a.toNat, a.toNat_lt⟩
  simp only [UInt8.ofNat_toNat] at q
  exact q h
theorem rver_form {l : List UInt8} (h : (rverL l).2.2 = true) : ∃ x y, l = vF x y := by
  unfold rverL at h
  split at h
  · rename_i a b c d e f g i
    split at h
    · rename_i hc
      obtain ⟨h1, h2, h3, h4⟩ := hc
      obtain ⟨x, rfl⟩ := dig_fin h2
      obtain ⟨y, rfl⟩ := dig_fin h4
      have e1 := eq_of_beq h1
      simp only [List.cons.injEq, and_true] at e1
      obtain ⟨rfl, rfl, rfl, rfl, rfl⟩ := e1
      subst h3
      exact ⟨x, y, rfl⟩
    · cases h
  · cases h
theorem ver_form {p : ByteArray} (h : verP p = true) : ∃ x y, p.data.toList = vF x y := by
  unfold verP at h
  rw [Bool.and_eq_true] at h
  obtain ⟨h1, h2⟩ := h
  have hc : cutP p http = p.extract 5 p.size := by unfold cutP; rw [if_pos h1]; rfl
  rw [hc] at h2
  unfold hasP at h1
  rw [Bool.and_eq_true] at h1
  obtain ⟨h3, h4⟩ := h1
  have e4 := eq_of_beq h4
  rw [ByteArray.toList_eq, ByteArray.toList_eq] at e4
  have e5 : (p.extract 0 5).data.toList = p.data.toList.take 5 := by rw [Lib.extract_data]; rfl
  have e6 : (p.extract 5 p.size).data.toList = p.data.toList.drop 5 := by
    rw [Lib.extract_data, List.take_of_length_le (by rw [List.length_drop]; exact Nat.le_refl _)]
  rw [e6] at h2
  have e7 : p.data.toList.take 5 = [72, 84, 84, 80, 47] := by
    rw [← e5]
    exact e4
  unfold verN at h2
  split at h2
  · rename_i a b c e8
    rw [Bool.and_eq_true, Bool.and_eq_true] at h2
    obtain ⟨ha, hb, hc⟩ := h2
    obtain ⟨x, rfl⟩ := dig_fin (show spanP 48 57 (a.toNat : Int) = true from ha)
    obtain ⟨y, rfl⟩ := dig_fin (show spanP 48 57 (c.toNat : Int) = true from hc)
    have hb' : b = 46 := UInt8.toNat_inj.1 (by have e : (46 : UInt8).toNat = 46 := rfl; have k := eq_of_beq hb; omega)
    subst hb'
    refine ⟨x, y, ?_⟩
    rw [← List.take_append_drop 5 p.data.toList, e7, e8]
    rfl
  · cases h2
theorem three_ref (p0 p1 p2 : ByteArray) : rq3 p0 p1 p2 = rqR p0 p1 p2 := by
  have hver : (if verP p2 = false then rqNo 400 else if (minP p2).2 = false then rqNo 505 else (⟨p0, p1, (minP p2).1, 0⟩ : Rq)) =
      (if (rverL p2.data.toList).2.2 = false then rqNo 400 else if ¬ (rverL p2.data.toList).1 = 1 then rqNo 505 else if 1 < (rverL p2.data.toList).2.1 then rqNo 505 else ⟨p0, p1, (rverL p2.data.toList).2.1, 0⟩) := by
    by_cases hf : ∃ x y, p2.data.toList = vF x y
    · obtain ⟨x, y, e⟩ := hf
      obtain rfl : p2 = ⟨(vF x y).toArray⟩ := ba_eq (by rw [e])
      have k1 := v_min x y
      have k2 := v_ver x y
      have k3 := v_ref x y
      have e9 : (⟨(vF x y).toArray⟩ : ByteArray).data.toList = vF x y := rfl
      rw [e9, k3, k2]
      simp only
      rw [if_neg (show ¬ ((true : Bool) = false) by decide), if_neg (show ¬ ((true : Bool) = false) by decide)]
      by_cases hx : x.val = 1
      · rw [if_neg (show ¬ ¬ ((x.val : Int) = 1) from fun k => k (by omega))]
        by_cases hy : y.val ≤ 1
        · have q : (minP ⟨(vF x y).toArray⟩).2 = true := by rw [k1.1, decide_eq_true hx, decide_eq_true hy]; rfl
          rw [if_neg (by rw [q]; decide), if_neg (by omega), k1.2 q]
        · have q : (minP ⟨(vF x y).toArray⟩).2 = false := by rw [k1.1, decide_eq_false hy, Bool.and_false]
          rw [if_pos q, if_pos (by omega)]
      · have q : (minP ⟨(vF x y).toArray⟩).2 = false := by rw [k1.1, decide_eq_false hx, Bool.false_and]
        rw [if_pos q, if_pos (by omega)]
    · have k1 : verP p2 = false := by
        cases h : verP p2
        · rfl
        · exact absurd (ver_form h) hf
      have k2 : (rverL p2.data.toList).2.2 = false := by
        cases h : (rverL p2.data.toList).2.2
        · rfl
        · exact absurd (rver_form h) hf
      rw [if_pos k1, if_pos k2]
  unfold rq3 rqR mthP tarP
  rw [hver]
  generalize (if (rverL p2.data.toList).2.2 = false then rqNo 400 else if ¬ (rverL p2.data.toList).1 = 1 then rqNo 505 else if 1 < (rverL p2.data.toList).2.1 then rqNo 505 else ⟨p0, p1, (rverL p2.data.toList).2.1, 0⟩) = E
  generalize (allB tokP p0.data.toList && decide (0 < p0.size)) = tk
  generalize tgtP p1 = tg
  generalize decide (p1.data.toList.head? = some 47) = hd
  generalize eqS p1 ⟨#[42]⟩ = st
  generalize eqS p0 ⟨#[79, 80, 84, 73, 79, 78, 83]⟩ = op
  by_cases h20 : 20 < p0.size
  · rw [decide_eq_false (show ¬ p0.size ≤ 20 by omega), Bool.false_and, if_pos rfl, if_pos h20]
    cases tk <;> simp
  · rw [decide_eq_true (show p0.size ≤ 20 by omega), Bool.true_and, if_neg h20]
    cases tk <;> cases tg <;> cases hd <;> cases st <;> cases op <;> simp
theorem req_ref (s : ByteArray) : rqP s = refQ s := by
  unfold rqP refQ
  rcases four_parts s with h | ⟨h1, h2⟩
  · rw [h]
    generalize partsB s = P
    match P with
    | [] => rfl
    | [_] => rfl
    | [_, _] => rfl
    | [p0, p1, p2] => exact three_ref p0 p1 p2
    | _ :: _ :: _ :: _ :: _ => rfl
  · split
    · rename_i p0 p1 p2 h
      rw [h] at h1
      cases h1
    · split
      · rename_i p0 p1 p2 h
        rw [h] at h2
        simp at h2
      · rfl
end Go.Proofs.YthbjdbookiejeabGreatDoor
