/- The reference's Fits and Rewrite. -/
import Derived.Test.YtjfcoihfjjcooaaRtF
import Derived.Test.YtjfcoihfjjcooaaRtC
namespace Go.Proofs.Ytjfcoihfjjcooaa
open Go.RowKit
set_option linter.unusedVariables false

/-- Where the first question mark from j on stands. -/
def fq (l : List UInt8) (j : Nat) : Nat := j + (pathL (l.drop j)).length
theorem fq_end (s : ByteArray) : fq s.data.toList s.size = s.size := by
  unfold fq
  rw [← rt_len s, List.drop_length]; rfl
theorem fq_hit (s : ByteArray) (i : Nat) (h : i < s.size) (hq : (s[i].toNat : Int) = 63) : fq s.data.toList i = i := by
  have hi : i < s.data.toList.length := h
  have e : s.data.toList[i] = 63 := UInt8.toNat_inj.1 (by have k : (63 : UInt8).toNat = 63 := rfl; have : s[i] = s.data.toList[i] := rfl; rw [← this, k]; omega)
  unfold fq
  rw [List.drop_eq_getElem_cons hi, e, pathL_q]; rfl
theorem fq_miss (s : ByteArray) (i : Nat) (h : i < s.size) (hq : ¬ (s[i].toNat : Int) = 63) : fq s.data.toList i = fq s.data.toList (i + 1) := by
  have hi : i < s.data.toList.length := h
  have e : s.data.toList[i] ≠ 63 := fun k => hq (by have : s[i] = s.data.toList[i] := rfl; rw [this, k]; rfl)
  unfold fq
  rw [List.drop_eq_getElem_cons hi, pathL_c e, List.length_cons]; omega
theorem fq_zero (l : List UInt8) : fq l 0 = (pathL l).length := by
  unfold fq; rw [List.drop_zero, Nat.zero_add]
theorem path_take (l : List UInt8) : pathL l = l.take (pathL l).length := List.prefix_iff_eq_take.1 (by obtain ⟨q, e⟩ := path_pre l; exact ⟨q, e.symm⟩)
theorem rf_take {p t : ByteArray} (hn : p.size ≤ (pathL t.data.toList).length) : ((t.extract 0 p.size).toList == p.toList) = p.data.toList.isPrefixOf (pathL t.data.toList) := by
  have e := rt_ext t 0 p.size
  rw [List.drop_zero] at e
  have e2 : (pathL t.data.toList).take p.data.toList.length = t.data.toList.take p.data.toList.length := by
    rw [path_take t.data.toList, List.take_take, Nat.min_eq_left (show p.data.toList.length ≤ _ from hn)]
  rw [ByteArray.toList_eq, ByteArray.toList_eq, Bool.eq_iff_iff, List.isPrefixOf_iff_prefix, List.prefix_iff_eq_take, beq_iff_eq, e2]
  exact ⟨fun h => (h.symm.trans e), fun h => (e.trans h.symm)⟩
theorem rf_far {p t : ByteArray} (h : (pathL t.data.toList).length < p.size) : fitT p t = false := by
  cases e : fitT p t
  · rfl
  · have := (fitL_path e).length_le
    rw [rt_len] at this; omega
theorem rf_other {p t : ByteArray} (hn : p.size ≤ (pathL t.data.toList).length) (h : ((t.extract 0 p.size).toList == p.toList) = false) : fitT p t = false := by
  rw [rf_take hn] at h
  unfold fitT fitL
  rw [h, Bool.false_and]
theorem rf_same {p t : ByteArray} (hn : p.size ≤ (pathL t.data.toList).length) (h : ((t.extract 0 p.size).toList == p.toList) = true) : fitT p t = (decide ((pathL t.data.toList).length = p.size) || ((p.data.toList.getLast? == some 47) || (((pathL t.data.toList).drop p.size).head? == some 47))) := by
  rw [rf_take hn] at h
  unfold fitT fitL
  rw [h, Bool.true_and]
  rfl
theorem rf_next {p t : ByteArray} (hn : p.size < (pathL t.data.toList).length) : p.size < t.size := by
  have := pathL_le t.data.toList
  rw [rt_len] at this; omega
theorem rf_head {p t : ByteArray} (hn : p.size < (pathL t.data.toList).length) (h5 : p.size < t.size) : (((pathL t.data.toList).drop p.size).head? == some 47) = (((t[p.size]'h5).toNat : Int) == 47) := by
  rw [List.head?_drop, List.getElem?_eq_getElem hn]
  have e : (pathL t.data.toList)[p.size] = t[p.size]'h5 := by
    obtain ⟨q, e⟩ := path_pre t.data.toList
    have h2 : p.size < t.data.toList.length := rf_next hn
    have k : t.data.toList[p.size]? = (pathL t.data.toList)[p.size]? := by
      conv => lhs; rw [e]
      rw [List.getElem?_append_left hn]
    rw [List.getElem?_eq_getElem hn, List.getElem?_eq_getElem h2] at k
    exact (Option.some.inj k).symm
  rw [e]
  exact u8_eq _ 47 (by decide)

set_option maxRecDepth 100000 in
set_option maxHeartbeats 2000000 in
theorem r11fits_any (p t : ByteArray) (w : World) (ht : t.size ≤ 4294967281) (hp : p.size ≤ maxLen) : Calls Try.prog 13 #[.string p, .string t] w fun e w' => e = .returned (.bool (fitT p t)) ∧ w' = w := by
  have h1 := rf_far (p := p) (t := t)
  have h2 := rf_other (p := p) (t := t)
  have h3 := rf_same (p := p) (t := t)
  have h4 := rf_head (p := p) (t := t)
  have hE := pathL_le t.data.toList
  have hZ : Hid (fq t.data.toList 0 = (pathL t.data.toList).length) := fq_zero _
  rw [rt_len] at hE
  unfold maxLen at hp
  generalize fitT p t = F at *
  go_enter Try.func13, Try.ntmps13
  go_wp2_with fail
  go_loop [5, 6] (fun v5 v6 => ∃ j e : Nat, j ≤ t.size ∧ e ≤ t.size ∧ v6 = .int .i64 ((j : Int) - 1) ∧ v5 = .int .i64 e ∧ Hid (e = fq t.data.toList j)) (fun _ v6 => (intOf v6 + 1).toNat)
  case atStart => exact ⟨t.size, t.size, Nat.le_refl _, Nat.le_refl _, by first | rfl | (unfold wrap64; congr 1; omega), rfl, (fq_end t).symm⟩
  case round =>
    obtain ⟨j, e, hj, he, rfl, rfl, hq⟩ := hrel
    rcases Nat.eq_zero_or_pos j with h0 | h0
    · subst h0
      have heq : e = (pathL t.data.toList).length := hq.out.trans hZ.out
      subst heq
      clear hq hZ
      have hx : ∀ hn : p.size < (pathL t.data.toList).length, p.size < t.size := fun hn => rf_next hn
      generalize pathL t.data.toList = P at *
      clear he hj
      by_cases hn : p.size ≤ P.length
      · have hn' : decide (P.length < p.size) = false := decide_eq_false (by omega)
        have k2 := h2 hn
        have k3 := h3 hn
        clear h1 h2 h3
        cases hc : ((t.extract 0 p.size).toList == p.toList)
        · have hF := k2 hc
          subst hF
          have hc' : ((t.extract 0 p.size).toList != p.toList) = true := by simp [bne, hc]
          clear k2 k3 h4 hx
          go_wp2
          go_ret
          exact ⟨rfl, rfl⟩
        · have hF := k3 hc
          have hc' : ((t.extract 0 p.size).toList != p.toList) = false := by simp [bne, hc]
          clear k2 k3
          rcases Nat.lt_or_ge p.size P.length with hlt | hge
          · have h5 := hx hlt
            have hh := h4 hlt h5
            rw [decide_eq_false (by omega), Bool.false_or, hh] at hF
            have hne : ((p.size : Int) == (P.length : Int)) = false := by simp; omega
            clear h4 hx hh
            rcases Nat.eq_zero_or_pos p.size with hp0 | hp0
            · have hl : p.data.toList.getLast? = none := by rw [empty_of hp0]; rfl
              rw [hl, show ((none : Option UInt8) == some 47) = false from rfl, Bool.false_or] at hF
              subst hF
              have hz : decide (0 < p.size) = false := decide_eq_false (by omega)
              clear hl hp0
              go_wp2
              go_ret
              exact ⟨rfl, rfl⟩
            · rw [last_eq p hp0] at hF
              obtain ⟨m, hm⟩ : ∃ m : Nat, m = p.size - 1 := ⟨_, rfl⟩
              have hix2 : m < p.size := by omega
              have hw : wrap64 ((p.size : Int) - 1) = (m : Int) := by unfold wrap64; omega
              have hF2 : F = ((((p[m]'hix2).toNat : Int) == 47) || (((t[p.size]'h5).toNat : Int) == 47)) := by
                rw [hF]
                subst hm
                congr 1
                exact u8_eq _ 47 (by decide)
              clear hF hm
              have hz : decide (0 < p.size) = true := decide_eq_true hp0
              clear hp hp0 ht hE hlt
              have HN : Hid (p.size ≤ P.length) := hn
              cases hb : (((p[m]'hix2).toNat : Int) == 47)
              · rw [hb, Bool.false_or] at hF2
                subst hF2
                go_wp2
                go_ret
                exact ⟨rfl, rfl⟩
              · rw [hb, Bool.true_or] at hF2
                subst hF2
                go_wp2
                go_ret
                exact ⟨rfl, rfl⟩
          · rw [decide_eq_true (by omega), Bool.true_or] at hF
            subst hF
            have heq : ((p.size : Int) == (P.length : Int)) = true := by simp; omega
            clear h4 hx
            go_wp2
            go_ret
            exact ⟨rfl, rfl⟩
      · have hF := h1 (by omega)
        subst hF
        have hn' : decide (P.length < p.size) = true := decide_eq_true (by omega)
        clear h1 h2 h3 h4 hx
        go_wp2
        go_ret
        exact ⟨rfl, rfl⟩
    · obtain ⟨i, rfl⟩ : ∃ i, j = i + 1 := ⟨j - 1, by omega⟩
      have ei : ((i + 1 : Nat) : Int) - 1 = (i : Int) := by omega
      rw [ei]
      clear ei
      have hi : i < t.size := by omega
      by_cases h63 : (t[i].toNat : Int) = 63
      · have h63' : ((t[i].toNat : Int) == 63) = true := by simp [h63]
        have hq2 : Hid (i = fq t.data.toList i) := (fq_hit t i hi h63).symm
        clear h63 hq h1 h2 h3 h4
        go_wp2
        go_round
        case rel => exact ⟨i, i, by omega, by omega, by first | rfl | (unfold wrap64; congr 1; omega), rfl, hq2⟩
        case measure => simp [intOf]
      · have h63' : ((t[i].toNat : Int) == 63) = false := by simp [h63]
        have hq2 : Hid (e = fq t.data.toList i) := hq.out.trans (fq_miss t i hi h63).symm
        clear h63 hq h1 h2 h3 h4
        go_wp2
        go_round
        case rel => exact ⟨i, e, by omega, by omega, by first | rfl | (unfold wrap64; congr 1; omega), rfl, hq2⟩
        case measure => simp [intOf]
end Go.Proofs.Ytjfcoihfjjcooaa
