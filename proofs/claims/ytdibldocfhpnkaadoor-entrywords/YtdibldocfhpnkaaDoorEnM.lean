/- What is told of a right record is read as it (plain). -/
import Derived.Test.YtdibldocfhpnkaaDoorEnL
import Derived.Test.YtdibldocfhpnkaaDoorCutJ
import Derived.Test.YtdibldocfhpnkaaDoorRTx
namespace Go.Proofs.YtdibldocfhpnkaaDoor
open Go.RowKit
set_option linter.unusedVariables false

theorem dec_small_vN : ∀ d : Fin 10, vN 10 [UInt8.ofNat (48 + d.val)] = some d.val := by decide +kernel
theorem dec_step : ∀ d : Fin 10, dgN (UInt8.ofNat (48 + d.val)) = d.val := by decide +kernel
theorem dec_vN (u : Nat) : vN 10 (Lib.decDigits u) = some u := by
  induction u using Nat.strongRecOn with
  | ind u ih =>
    by_cases h : u < 10
    · rw [rx_dec_small h]; exact dec_small_vN ⟨u, h⟩
    · rw [rx_dec_big h, vN_snoc, ih (u / 10) (by omega)]
      have e := dec_step ⟨u % 10, by omega⟩
      simp only at e
      unfold stepV
      simp only [e]
      rw [Option.bind_some, if_pos (by omega)]
      congr 1
      omega
theorem dec_len : ∀ (k u : Nat), u < 10 ^ (k + 1) → (Lib.decDigits u).length ≤ k + 1
  | 0, u, h => by rw [rx_dec_small (by simpa using h)]; simp
  | k + 1, u, h => by
    by_cases c : u < 10
    · rw [rx_dec_small c]; simp
    · rw [rx_dec_big c, List.length_append]
      have := dec_len k (u / 10) (by rw [Nat.pow_succ] at h; omega)
      simp only [List.length_cons, List.length_nil]
      omega
theorem dec_pos (u : Nat) : 0 < (Lib.decDigits u).length := by
  by_cases c : u < 10
  · rw [rx_dec_small c]; simp
  · rw [rx_dec_big c, List.length_append]; simp
theorem dec_ge (u : Nat) : ∀ b ∈ Lib.decDigits u, 48 ≤ b.toNat := by
  have one : ∀ d : Nat, d < 10 → 48 ≤ (UInt8.ofNat (48 + d)).toNat := fun d hd => by rw [UInt8.toNat_ofNat']; omega
  induction u using Nat.strongRecOn with
  | ind u ih =>
    by_cases h : u < 10
    · rw [rx_dec_small h]
      intro b hb
      rw [List.mem_singleton] at hb
      rw [hb]; exact one u h
    · rw [rx_dec_big h]
      intro b hb
      rcases List.mem_append.1 hb with hb | hb
      · exact ih (u / 10) (by omega) b hb
      · rw [List.mem_singleton] at hb
        rw [hb]; exact one _ (by omega)
theorem itoa_dec (z : Int) (h : 0 ≤ z) : (itoaS z).data.toList = Lib.decDigits z.toNat := by
  unfold itoaS Lib.itoa
  rw [if_neg (by omega)]
theorem itoa_num (z : Int) (h0 : 0 ≤ z) (h1 : z < 1000000000000000000) : numI 10 18 (itoaS z) = z ∧ numB 10 18 (itoaS z) = true := by
  have hd := itoa_dec z h0
  have hl : (itoaS z).size = (Lib.decDigits z.toNat).length := by rw [← hd]; rfl
  have k := dec_len 17 z.toNat (by have : (10 : Nat) ^ (17 + 1) = 1000000000000000000 := by decide
                                   omega)
  have p := dec_pos z.toNat
  have q := num_ok (base := 10) (most := 18) (s := itoaS z) (n := z.toNat) (by omega) (by rw [hd]; exact dec_vN _)
  exact ⟨by rw [q.1]; omega, q.2⟩
theorem itoa_clean (z : Int) (h0 : 0 ≤ z) : (10 : UInt8) ∉ (itoaS z).data.toList ∧ (32 : UInt8) ∉ (itoaS z).data.toList := by
  rw [itoa_dec z h0]
  exact ⟨fun hb => absurd (dec_ge _ _ hb) (by decide), fun hb => absurd (dec_ge _ _ hb) (by decide)⟩
theorem allB_mem {p : Int → Bool} {l : List UInt8} (h : allB p l = true) : ∀ b ∈ l, p (b.toNat : Int) = true := by
  intro b hb
  unfold allB at h
  exact List.all_eq_true.1 h b hb
theorem tok_clean {s : ByteArray} (h : tokS s = true) : (10 : UInt8) ∉ s.data.toList ∧ (32 : UInt8) ∉ s.data.toList := by
  unfold tokS at h
  rw [Bool.and_eq_true] at h
  exact ⟨fun hb => absurd (allB_mem h.1 _ hb) (by decide), fun hb => absurd (allB_mem h.1 _ hb) (by decide)⟩
theorem tgt_clean {s : ByteArray} (h : tgtP s = true) : (10 : UInt8) ∉ s.data.toList ∧ (32 : UInt8) ∉ s.data.toList := by
  unfold tgtP at h
  rw [Bool.and_eq_true] at h
  exact ⟨fun hb => absurd (allB_mem h.1 _ hb) (by decide), fun hb => absurd (allB_mem h.1 _ hb) (by decide)⟩
theorem words_clean {e : EntP} (h : rightE e = true) : ∀ p ∈ wordsE e, (10 : UInt8) ∉ p.data.toList ∧ (32 : UInt8) ∉ p.data.toList := by
  obtain ⟨h1, _, _, h4, h5⟩ := right_bd h
  intro p hp
  unfold wordsE at hp
  simp only [List.mem_append, List.mem_map, List.mem_cons, List.not_mem_nil, or_false] at hp
  rcases hp with (⟨z, hz, rfl⟩ | rfl | rfl) | ⟨z, hz, rfl⟩
  · exact itoa_clean z (h1 z ((List.take_sublist _ _).subset hz)).1
  · exact tok_clean h4
  · exact tgt_clean h5
  · exact itoa_clean z (h1 z ((List.drop_sublist _ _).subset hz)).1
/-- Cut into at most ten. -/
theorem split_le : ∀ (k : Nat) (s : ByteArray), Lib.countB s ⟨#[32]⟩ ≤ k → (Lib.splitB ⟨#[32]⟩ 0 k s).map (·.data.toList) = cutw [] s.data.toList
  | 0, s, hk => split_cutw 0 s (by omega)
  | k + 1, s, hk => by
    rcases Lib.indexB_cases s ⟨#[32]⟩ with hix | ⟨i, hix, _⟩
    · rw [cutw_miss _ _ hix, Lib.splitB, if_pos (by simpa using hix)]; rfl
    · rw [Lib.splitB_hit _ 0 k s i hix, List.map_cons, split_le k _ (by have := Lib.countB_hit s ⟨#[32]⟩ i (by decide) hix; omega), cutw_hit _ _ i hix, Lib.extract_from_zero, Lib.extract_to_end]
      rfl
theorem p10_cut (s : ByteArray) (h : (cutw [] s.data.toList).length ≤ 10) : (p10 s).map (·.data.toList) = cutw [] s.data.toList := by
  have hc : Lib.countB s ⟨#[32]⟩ + 1 = (cutw [] s.data.toList).length := by rw [← piecew_length, ← List.length_map (f := fun x : ByteArray => x.data.toList), piecew_cuts]
  have hs : Lib.countB s ⟨#[32]⟩ ≤ s.size := Lib.countB_le ⟨#[32]⟩ (by decide) s.size s (Nat.le_refl _)
  unfold p10
  exact split_le _ s (by omega)
theorem join_data (e : EntP) : lineL e = Lib.join ((wordsE e).map (·.data.toList)) [32] ++ [10] := rfl
theorem words_back {e : EntP} (h : rightE e = true) : p10 ⟨(Lib.join ((wordsE e).map (·.data.toList)) [32]).toArray⟩ = wordsE e := by
  have hc := words_clean h
  have hd : (⟨(Lib.join ((wordsE e).map (·.data.toList)) [32]).toArray⟩ : ByteArray).data.toList = Lib.join ((wordsE e).map (·.data.toList)) [32] := rfl
  have key : cutw [] (Lib.join ((wordsE e).map (·.data.toList)) [32]) = (wordsE e).map (·.data.toList) := by
    cases hw : (wordsE e).map (·.data.toList) with
    | nil => exact absurd (congrArg List.length hw) (by rw [List.length_map, wordsE_len]; decide)
    | cons x r =>
      rw [Lib.join_cons]
      have hm : ∀ y ∈ x :: r, (32 : UInt8) ∉ y := fun y hy => by
        rw [← hw] at hy
        obtain ⟨p, hp, rfl⟩ := List.mem_map.1 hy
        exact (hc p hp).2
      exact cutw_all r x (hm x List.mem_cons_self) (fun y hy => hm y (List.mem_cons_of_mem _ hy))
  have k := p10_cut ⟨(Lib.join ((wordsE e).map (·.data.toList)) [32]).toArray⟩ (by rw [hd, key, List.length_map, wordsE_len]; decide)
  rw [hd, key] at k
  exact map_data_injW k
theorem trim_line (l : List UInt8) : trimR ⟨(l ++ [10]).toArray⟩ = ⟨l.toArray⟩ := by
  have h : Lib.trimSuffix (l ++ [10]) [10] = l := by
    unfold Lib.trimSuffix
    rw [if_pos (by unfold Lib.hasSuffix; simp)]
    simp
  show (⟨(Lib.trimSuffix (l ++ [10]) [10]).toArray⟩ : ByteArray) = _
  rw [h]
theorem read_back {e : EntP} (h : rightE e = true) : okR (lineB e) = true ∧ valR (lineB e) = e := by
  obtain ⟨h1, h2, h3, h4, h5⟩ := right_bd h
  have ht : trimR (lineB e) = ⟨(Lib.join ((wordsE e).map (·.data.toList)) [32]).toArray⟩ := trim_line _
  have hw := words_back h
  have nm : ∀ z ∈ numsE e, numI 10 18 (itoaS z) = z ∧ numB 10 18 (itoaS z) = true := fun z hz => itoa_num z (h1 z hz).1 (by have := (h1 z hz).2; omega)
  have hok : okW (wordsE e) = true := by
    unfold okW
    rw [List.all_eq_true]
    intro p hp
    have : digW (wordsE e) = (numsE e).map itoaS := rfl
    rw [this] at hp
    obtain ⟨z, hz, rfl⟩ := List.mem_map.1 hp
    exact (nm z hz).2
  have hen : entW (wordsE e) = e := by
    obtain ⟨q, a, k, n, m, t, c, u, d⟩ := e
    have n0 := (nm q (by unfold numsE; simp)).1
    have n1 := (nm a (by unfold numsE; simp)).1
    have n2 := (nm k (by unfold numsE; simp)).1
    have n3 := (nm n (by unfold numsE; simp)).1
    have n4 := (nm c (by unfold numsE; simp)).1
    have n5 := (nm u (by unfold numsE; simp)).1
    have n6 := (nm d (by unfold numsE; simp)).1
    show (⟨numI 10 18 (itoaS q), numI 10 18 (itoaS a), numI 10 18 (itoaS k), numI 10 18 (itoaS n), m, t, numI 10 18 (itoaS c), numI 10 18 (itoaS u), numI 10 18 (itoaS d)⟩ : EntP) = _
    rw [n0, n1, n2, n3, n4, n5, n6]
  have hpe : parE (trimR (lineB e)) = true := by
    unfold parE
    rw [ht, hw, hok, decide_eq_true (wordsE_len e)]; rfl
  have hpv : parV (trimR (lineB e)) = e := by
    unfold parV
    rw [if_pos hpe, ht, hw, hen]
  have hk : okR (lineB e) = true := by
    unfold okR
    rw [hpe, hpv, h]
    show (true && (true && (lineL e == lineL e))) = true
    rw [beq_self_eq_true]; rfl
  refine ⟨hk, ?_⟩
  unfold valR
  rw [if_pos hk, hpv]
theorem line_inj {a b : EntP} (ha : rightE a = true) (hb : rightE b = true) (h : lineL a = lineL b) : a = b := by
  have e : lineB a = lineB b := by unfold lineB; rw [h]
  rw [← (read_back ha).2, ← (read_back hb).2, e]
/-- A line that is read is written again. -/
theorem read_line {x : ByteArray} (h : okR x = true) : rightE (valR x) = true ∧ lineL (valR x) = x.data.toList := by
  unfold valR
  rw [if_pos h]
  unfold okR at h
  simp only [Bool.and_eq_true, beq_iff_eq] at h
  exact ⟨h.2.1, h.2.2⟩
end Go.Proofs.YtdibldocfhpnkaaDoor
