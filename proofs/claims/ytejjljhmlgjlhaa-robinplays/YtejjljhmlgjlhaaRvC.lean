/- The flows that count (tollbarref16.counted). -/
import Derived.Test.YtejjljhmlgjlhaaRvB
namespace Go.Proofs.Ytejjljhmlgjlhaa
open Go.RowKit
set_option linter.unusedVariables false

/-- No one of the first k is of the connection of the one at i. -/
def isF (fs : List Fl) (i k : Nat) : Bool := (List.range k).all fun t => (fs.getD t (0, 0)).1 != (fs.getD i (0, 0)).1
theorem isF_succ (fs : List Fl) (i k : Nat) : isF fs i (k + 1) = (isF fs i k && ((fs.getD k (0, 0)).1 != (fs.getD i (0, 0)).1)) := by
  unfold isF
  rw [List.range_succ, List.all_append]
  simp
theorem isF_iff (fs : List Fl) (i k : Nat) : isF fs i k = true ↔ ∀ t, t < k → (fs.getD t (0, 0)).1 ≠ (fs.getD i (0, 0)).1 := by
  unfold isF
  rw [List.all_eq_true]
  constructor
  · intro h t ht
    have := h t (List.mem_range.2 ht)
    simpa using this
  · intro h t ht
    have := h t (List.mem_range.1 ht)
    simpa using this
/-- Those of the first i that count. -/
def cnt (fs : List Fl) : Nat → List Fl
  | 0 => []
  | i + 1 => cnt fs i ++ if (isF fs i i && decide (0 < (fs.getD i (0, 0)).2)) = true then [fs.getD i (0, 0)] else []
theorem cnt_len (fs : List Fl) : ∀ i, (cnt fs i).length ≤ i
  | 0 => Nat.le_refl _
  | i + 1 => by
    have := cnt_len fs i
    unfold cnt
    rw [List.length_append]
    split <;> simp <;> omega
theorem cnt_mem (fs : List Fl) (f : Fl) : ∀ n, f ∈ cnt fs n ↔ ∃ i, i < n ∧ fs.getD i (0, 0) = f ∧ 0 < f.2 ∧ ∀ t, t < i → (fs.getD t (0, 0)).1 ≠ f.1
  | 0 => ⟨fun h => (by cases h), fun ⟨i, h, _⟩ => absurd h (Nat.not_lt_zero _)⟩
  | n + 1 => by
    show f ∈ cnt fs n ++ _ ↔ _
    rw [List.mem_append, cnt_mem fs f n]
    constructor
    · rintro (⟨i, h1, h2⟩ | h)
      · exact ⟨i, by omega, h2⟩
      · split at h
        · rename_i q
          have e : f = fs.getD n (0, 0) := by simpa using h
          obtain ⟨q1, q2⟩ := Bool.and_eq_true_iff.1 q
          subst e
          exact ⟨n, by omega, rfl, of_decide_eq_true q2, (isF_iff fs n n).1 q1⟩
        · cases h
    · rintro ⟨i, h1, h2, h3, h4⟩
      by_cases e : i = n
      · subst e
        refine .inr ?_
        have q1 : isF fs i i = true := (isF_iff fs i i).2 (by rw [h2]; exact h4)
        rw [if_pos (by rw [q1, h2]; simp [h3])]
        rw [h2]; simp
      · exact .inl ⟨i, by omega, h2, h3, h4⟩
theorem cnt_dist (fs : List Fl) : ∀ n, (cnt fs n).Pairwise (fun a b => a.1 ≠ b.1)
  | 0 => List.Pairwise.nil
  | n + 1 => by
    show (cnt fs n ++ _).Pairwise _
    rw [List.pairwise_append]
    refine ⟨cnt_dist fs n, by split <;> simp, fun a ha b hb => ?_⟩
    split at hb
    · rename_i q
      have e : b = fs.getD n (0, 0) := by simpa using hb
      obtain ⟨i, hi, h2, _, _⟩ := (cnt_mem fs a n).1 ha
      have q1 : isF fs n n = true := (Bool.and_eq_true_iff.1 q).1
      have := (isF_iff fs n n).1 q1 i hi
      rw [e, ← h2]
      exact this
    · cases hb
theorem head_first : ∀ (fs : List Fl) (c : Int) (f : Fl), (fs.filter (fun x => x.1 == c)).head? = some f ↔ ∃ i, i < fs.length ∧ fs.getD i (0, 0) = f ∧ f.1 = c ∧ ∀ t, t < i → (fs.getD t (0, 0)).1 ≠ c
  | [], c, f => ⟨fun h => by simp at h, fun ⟨i, h, _⟩ => absurd h (Nat.not_lt_zero _)⟩
  | x :: t, c, f => by
    by_cases q : x.1 = c
    · rw [List.filter_cons, if_pos (by simpa using q), List.head?_cons]
      constructor
      · intro e
        injection e with e
        subst e
        exact ⟨0, Nat.succ_pos _, rfl, q, fun t ht => absurd ht (Nat.not_lt_zero _)⟩
      · rintro ⟨i, h1, h2, h3, h4⟩
        cases i with
        | zero => have e : x = f := h2; rw [e]
        | succ i => exact absurd q (h4 0 (Nat.succ_pos _))
    · rw [List.filter_cons, if_neg (by simpa using q), head_first t c f]
      constructor
      · rintro ⟨i, h1, h2, h3, h4⟩
        refine ⟨i + 1, by simpa using h1, by simpa using h2, h3, fun k hk => ?_⟩
        cases k with
        | zero => exact q
        | succ k => have := h4 k (by omega); simpa using this
      · rintro ⟨i, h1, h2, h3, h4⟩
        cases i with
        | zero => have e : x = f := h2; rw [← e] at h3; exact absurd h3 q
        | succ i =>
          refine ⟨i, by simpa using h1, by simpa using h2, h3, fun k hk => ?_⟩
          have := h4 (k + 1) (by omega)
          simpa using this
/-- What waits, and what the document counts, are the same. -/
theorem wait_cnt {la : Int} {fs W : List Fl} (h : WaitP la fs W) (hf : ∀ f ∈ fs, InR f.1) : Inv la (cnt fs fs.length) W := by
  obtain ⟨h1, h2⟩ := wait_spec h hf
  have key : ∀ f, f ∈ cnt fs fs.length ↔ 0 < f.2 ∧ (fs.filter (fun x => x.1 == f.1)).head? = some f := fun f => by
    rw [cnt_mem, head_first]
    constructor
    · rintro ⟨i, q1, q2, q3, q4⟩; exact ⟨q3, i, q1, q2, rfl, q4⟩
    · rintro ⟨q3, i, q1, q2, _, q4⟩; exact ⟨i, q1, q2, q3, q4⟩
  refine ⟨fun f => ?_, h1, cnt_dist fs _, fun f hm => ?_⟩
  · rw [h2 f, key f]
    exact ⟨fun q => ⟨q.1, q⟩, fun q => q.2⟩
  · obtain ⟨i, q1, q2, _⟩ := (cnt_mem fs f _).1 hm
    rw [← q2]
    exact hf _ (getD_mem q1)
set_option maxRecDepth 100000 in
set_option maxHeartbeats 2000000 in
theorem counted_any (fs : List Fl) (a : Option Addr) (c : Nat) (w : World) (hf : Fls w a c fs) (hl : fs.length ≤ 20) :
    Calls Try.prog 17 #[.slice a fs.length c] w fun e w' => ∃ v, e = .returned v ∧ OwP 58 w.heap.size w' v (cnt fs fs.length) ∧ Below w.heap.size w w' := by
  have HF : Hid (∀ W, Below w.heap.size w W → Fls W a c fs) := fun W b => hf.keep b
  obtain ⟨n, hn⟩ : ∃ n, n = fs.length := ⟨_, rfl⟩
  have HNN : Hid (fs.length = n) := hn.symm
  rw [← hn] at hl ⊢
  have O0 : Hid (OwP 58 w.heap.size (w.alloc (.cells #[] 58)) (.slice (some ⟨w.heap.size, 0, none⟩) 0 0) (cnt fs 0)) := OwP.empty _ _ _ (Nat.le_refl _)
  clear hn hf
  go_enter Try.func17, Try.ntmps17
  go_wp2_with fail
  go_loopw [3, 4] (fun v3 vi wr => ∃ (k : Nat) (a3 : Option Addr) (c3 : Nat), k ≤ n ∧ vi = .int .i64 k ∧ v3 = .slice a3 (cnt fs k).length c3 ∧ Hid (OwP 58 w.heap.size wr (.slice a3 (cnt fs k).length c3) (cnt fs k)) ∧ Hid (Below w.heap.size w wr)) (fun _ vi _ => n - (intOf vi).toNat)
  case atStart => exact ⟨0, _, _, Nat.zero_le _, rfl, rfl, O0, (Below.refl _ _).alloc (Nat.le_refl _) _⟩
  case round =>
    clear O0
    obtain ⟨k, a3, c3, hk, rfl, rfl, HO, HB⟩ := hrel
    by_cases hlt : k < n
    · have HOB : Hid (∀ W, Below wr.heap.size wr W → OwP 58 w.heap.size W (.slice a3 (cnt fs k).length c3) (cnt fs k)) := fun W b => HO.out.grow b
      obtain ⟨m3, hm3⟩ : ∃ m3, m3 = (cnt fs k).length := ⟨_, rfl⟩
      rw [← hm3] at HOB ⊢
      have HM3 := hidE hm3
      clear hm3
      go_wp2_with fail
      go_loopw [5, 6] (fun v5 vj wr2 => ∃ j : Nat, j ≤ k ∧ vj = .int .i64 j ∧ v5 = .bool (isF fs k j) ∧ Hid (Below wr.heap.size wr wr2)) (fun _ vj _ => k - (intOf vj).toNat)
      case atStart => exact ⟨0, Nat.zero_le _, rfl, rfl, Below.refl _ _⟩
      case round =>
        obtain ⟨j, hj, rfl, rfl, HB2⟩ := hrel
        have hBw := HB.out.trans (HB2.out.mono HB.out.size)
        obtain ⟨g, off, rfl, hg, hc⟩ := (HF.out wr hBw).2.2.2 (by rw [HNN.out]; omega)
        have ck := (hc k (by rw [HNN.out]; exact hlt)).1
        have ck1 := (hc k (by rw [HNN.out]; exact hlt)).2
        have m1 : (0 : Int) ≤ k := by omega
        have m2 : (k : Int) < n := by omega
        by_cases hjk : j < k
        · have cj := (hc j (by rw [HNN.out]; omega)).1
          have hs := isF_succ fs k j
          have n1 : (0 : Int) ≤ j := by omega
          have n2 : (j : Int) < n := by omega
          generalize hb : isF fs k j = b at *
          have HSF := hidE hs
          clear hs hb hc hBw HOB
          cases b with
          | false =>
            go_wp2_with fail
            go_quiet (fail)
            go_wp2
            go_roundw
            case rel => exact ⟨j + 1, by omega, by go_num, by rw [HSF.out]; rfl, below_drewN HB2.out _⟩
            case measure => simp [intOf]; omega
          | true =>
            generalize (fs.getD k (0, 0)).1 = x at *
            generalize (fs.getD j (0, 0)).1 = y at *
            go_wp2_with fail
            go_quiet (fail)
            go_wp2
            go_roundw
            case rel => exact ⟨j + 1, by omega, by go_num, by rw [HSF.out]; rfl, below_drewN HB2.out _⟩
            case measure => simp [intOf]; omega
        · obtain rfl : j = k := by omega
          have hO := HOB.out wr HB2.out
          have HCS : Hid (cnt fs (j + 1) = cnt fs j ++ if (isF fs j j && decide (0 < (fs.getD j (0, 0)).2)) = true then [fs.getD j (0, 0)] else []) := rfl
          by_cases hq : isF fs j j = true
          · by_cases hw2 : 0 < (fs.getD j (0, 0)).2
            · have HC2 : Hid (cnt fs (j + 1) = cnt fs j ++ [fs.getD j (0, 0)]) := by rw [Hid, HCS.out, if_pos (by rw [hq, decide_eq_true hw2]; rfl)]
              obtain ⟨v7, w7, r7, O7, B7, _⟩ := owp_append Try.underlying34 infoRF hO hBw.size (fs.getD j (0, 0)).1 (fs.getD j (0, 0)).2 (by have := cnt_len fs j; omega)
              have O7' : OwP 58 w.heap.size w7 v7 (cnt fs (j + 1)) := by rw [HC2.out]; exact O7
              obtain ⟨a7, c7, rfl, _⟩ := O7'.fls
              have HO7 := hidE O7'
              have HB7 := hidE (hBw.trans B7)
              rw [hq]
              have hd2 : decide (0 < (fs.getD j (0, 0)).2) = true := decide_eq_true hw2
              clear hO O7 O7' B7 hc hBw HOB HCS HC2 HO hq
              generalize (fs.getD j (0, 0)).1 = x at *
              generalize (fs.getD j (0, 0)).2 = y at *
              go_wp2_with (at_builtin; refine wpList_append_run2 rfl _ _ 34 34 rfl _ _ _ w7 rfl rfl r7 ?_)
              go_roundw
              case rel => exact ⟨j + 1, _, _, by omega, by go_num, rfl, HO7, HB7⟩
              case measure => simp [intOf]; omega
            · have HC2 : Hid (cnt fs (j + 1) = cnt fs j) := by rw [Hid, HCS.out, if_neg (by rw [hq, decide_eq_false hw2]; decide), List.append_nil]
              have HO7 : Hid (OwP 58 w.heap.size wr (.slice a3 m3 c3) (cnt fs (j + 1))) := by rw [HC2.out]; exact hO
              have HB7 := hidE hBw
              have HM4 : Hid (m3 = (cnt fs (j + 1)).length) := by rw [HC2.out]; exact HM3.out
              rw [hq]
              have hd2 : decide (0 < (fs.getD j (0, 0)).2) = false := decide_eq_false hw2
              clear hO hc hBw HOB HCS HC2 HO hq
              generalize (fs.getD j (0, 0)).1 = x at *
              generalize (fs.getD j (0, 0)).2 = y at *
              go_wp2
              go_roundw
              case rel => exact ⟨j + 1, a3, c3, by omega, by go_num, by rw [← HM4.out], by rw [← HM4.out]; exact HO7, HB7⟩
              case measure => simp [intOf]; omega
          · have hq' : isF fs j j = false := by simpa using hq
            have HC2 : Hid (cnt fs (j + 1) = cnt fs j) := by rw [Hid, HCS.out, if_neg (by rw [hq', Bool.false_and]; decide), List.append_nil]
            have HO7 : Hid (OwP 58 w.heap.size wr (.slice a3 m3 c3) (cnt fs (j + 1))) := by rw [HC2.out]; exact hO
            have HB7 := hidE hBw
            have HM4 : Hid (m3 = (cnt fs (j + 1)).length) := by rw [HC2.out]; exact HM3.out
            rw [hq']
            clear hO hc hBw HOB HCS HC2 HO hq hq'
            go_wp2
            go_roundw
            case rel => exact ⟨j + 1, a3, c3, by omega, by go_num, by rw [← HM4.out], by rw [← HM4.out]; exact HO7, HB7⟩
            case measure => simp [intOf]; omega
    · obtain rfl : k = n := by omega
      go_wp2
      go_ret
      exact ⟨_, rfl, HO.out, HB.out⟩
end Go.Proofs.Ytejjljhmlgjlhaa
