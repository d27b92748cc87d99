/- Fits, join and what they call: what each answers of every text. -/
import Derived.Test.YtjfcoihfjjcooaaRtA
import Derived.Test.YtjfcoihfjjcooaaPrfC
import Derived.Test.YtjfcoihfjjcooaaPrfS
import Derived.Test.YtjfcoihfjjcooaaSufS
import Derived.Test.YtjfcoihfjjcooaaTxtK
import Derived.Test.YtjfcoihfjjcooaaShCut
import Derived.Laws.Concat
namespace Go.Proofs.Ytjfcoihfjjcooaa
open Go.RowKit
set_option linter.unusedVariables false

theorem rt_drewN (B : Nat) (w : World) (k : Nat) : Below B w (w.drewN k) := by refine ⟨?_, ?_, ?_, ?_, ?_⟩ <;> simp [World.drewN]

theorem rt_emp : (⟨#[]⟩ : ByteArray).toList.isEmpty = true := by rw [ByteArray.toList_eq]; rfl
set_option maxHeartbeats 1000000 in
theorem fits_q (p t : ByteArray) (w : World) (ht : t.size < 4294967281) (hp : p.size ≤ maxLen) (hM : MaxL w) : Calls Try.prog 12 #[.string p, .string t] w fun e w' => e = .returned (.bool (fitT p t)) ∧ ∃ n, w' = w.drewN n := by
  obtain ⟨m, hm⟩ := hM
  have HC : Hid (Calls Try.prog 17 #[.string t, .string ⟨#[63]⟩] w fun e w' => e = .returned (.tuple #[.string (pathB t), .string ⟨(Lib.cut t.data.toList [63]).2.1.toArray⟩, .bool (Lib.cut t.data.toList [63]).2.2]) ∧ ∃ n, w' = w.drewN n) := Try.strings_Cut t ⟨#[63]⟩ m w ht hm
  have HP : Hid (∀ W, Calls Try.prog 18 #[.string (pathB t), .string p] W fun e w' => e = .returned (.tuple #[.string (cutP (pathB t) p), .bool (hasP (pathB t) p)]) ∧ w' = W) := fun W => cutprefix_any _ _ W
  have HS : Hid (∀ W, Calls Try.prog 19 #[.string p, .string ⟨#[47]⟩] W fun e w' => e = .returned (.bool (hasS p ⟨#[47]⟩)) ∧ w' = W) := fun W => shassuffix_any _ _ W hp
  have HH : Hid (∀ W, Calls Try.prog 20 #[.string (cutP (pathB t) p), .string ⟨#[47]⟩] W fun e w' => e = .returned (.bool (hasP (cutP (pathB t) p) ⟨#[47]⟩)) ∧ w' = W) := fun W => shasprefix_any _ _ W
  have hY : hasP (pathB t) p = true → fitT p t = ((cutP (pathB t) p).toList.isEmpty || (hasS p ⟨#[47]⟩ || hasP (cutP (pathB t) p) ⟨#[47]⟩)) := fit_yes
  have hN : hasP (pathB t) p = false → fitT p t = false := fit_no
  generalize fitT p t = F at *
  generalize (⟨(Lib.cut t.data.toList [63]).2.1.toArray⟩ : ByteArray) = q at *
  generalize (Lib.cut t.data.toList [63]).2.2 = q2 at *
  generalize cutP (pathB t) p = r at *
  generalize hasP (pathB t) p = b at *
  generalize pathB t = x at *
  generalize hasS p ⟨#[47]⟩ = s1 at *
  generalize hasP r ⟨#[47]⟩ = s2 at *
  clear hm ht hp
  cases b
  · obtain rfl := hN rfl
    clear hY hN HS HH
    go_enter Try.func12, Try.ntmps12
    go_wp2_with fail
    refine HC.out.mono ?_
    rintro e w1 ⟨rfl, n, rfl⟩
    go_wp2_with fail
    refine (HP.out _).mono ?_
    rintro e w2 ⟨rfl, rfl⟩
    go_wp2
    go_ret
    exact ⟨rfl, n, rfl⟩
  · have hF := hY rfl
    clear hY hN
    by_cases hr : r.size = 0
    · have hr2 : r.toList.isEmpty = true := by rw [empty_of hr]; exact rt_emp
      rw [hr2, Bool.true_or] at hF
      subst hF
      clear hr HS HH
      go_enter Try.func12, Try.ntmps12
      go_wp2_with fail
      refine HC.out.mono ?_
      rintro e w1 ⟨rfl, n, rfl⟩
      go_wp2_with fail
      refine (HP.out _).mono ?_
      rintro e w2 ⟨rfl, rfl⟩
      go_wp2
      go_ret
      exact ⟨rfl, n, rfl⟩
    · have hr2 : r.toList.isEmpty = false := isEmpty_of hr
      rw [hr2, Bool.false_or] at hF
      clear hr
      cases s1
      · rw [Bool.false_or] at hF
        subst hF
        go_enter Try.func12, Try.ntmps12
        go_wp2_with fail
        refine HC.out.mono ?_
        rintro e w1 ⟨rfl, n, rfl⟩
        go_wp2_with fail
        refine (HP.out _).mono ?_
        rintro e w2 ⟨rfl, rfl⟩
        go_wp2_with fail
        refine (HS.out _).mono ?_
        rintro e w2 ⟨rfl, rfl⟩
        go_wp2_with fail
        refine (HH.out _).mono ?_
        rintro e w2 ⟨rfl, rfl⟩
        go_wp2
        go_ret
        exact ⟨rfl, n, rfl⟩
      · rw [Bool.true_or] at hF
        subst hF
        clear HH
        go_enter Try.func12, Try.ntmps12
        go_wp2_with fail
        refine HC.out.mono ?_
        rintro e w1 ⟨rfl, n, rfl⟩
        go_wp2_with fail
        refine (HP.out _).mono ?_
        rintro e w2 ⟨rfl, rfl⟩
        go_wp2_with fail
        refine (HS.out _).mono ?_
        rintro e w2 ⟨rfl, rfl⟩
        go_wp2
        go_ret
        exact ⟨rfl, n, rfl⟩

theorem fits_any (p t : ByteArray) (w : World) (ht : t.size < 4294967281) (hp : p.size ≤ maxLen) (hM : MaxL w) : Calls Try.prog 12 #[.string p, .string t] w fun e w' => e = .returned (.bool (fitT p t)) ∧ Below w.heap.size w w' :=
  (fits_q p t w ht hp hM).mono fun e w' ⟨he, n, hw⟩ => ⟨he, by rw [hw]; exact rt_drewN _ _ _⟩

/-- TrimPrefix. -/
theorem trimprefix_sl (s p : ByteArray) (w : World) : Calls Try.prog 28 #[.string s, .string p] w fun e w' => e = .returned (.string (cutP s p)) ∧ w' = w := by
  have H : Hid (∀ W, Calls Try.prog 27 #[.string s, .string p] W fun e w' => e = .returned (.bool (hasP s p)) ∧ w' = W) := fun W => hasprefix_any s p W
  unfold cutP
  cases h : hasP s p
  · rw [h] at H
    clear h
    go_enter Try.func28, Try.ntmps28
    go_wp2_with fail
    refine (H.out _).mono ?_
    rintro e w1 ⟨rfl, rfl⟩
    go_wp2
    go_ret
    exact ⟨rfl, rfl⟩
  · rw [h] at H
    have hl : p.size ≤ s.size := by
      unfold hasP at h
      rw [Bool.and_eq_true] at h
      exact of_decide_eq_true h.1
    clear h
    go_enter Try.func28, Try.ntmps28
    go_wp2_with fail
    refine (H.out _).mono ?_
    rintro e w1 ⟨rfl, rfl⟩
    go_wp2
    go_ret
    exact ⟨rfl, rfl⟩
theorem trimprefix_any (s p : ByteArray) (w : World) : Calls Try.prog 21 #[.string s, .string p] w fun e w' => e = .returned (.string (cutP s p)) ∧ w' = w := by
  go_enter Try.func21, Try.ntmps21
  go_wp2_with fail
  refine (trimprefix_sl s p _).mono ?_
  rintro e w1 ⟨rfl, rfl⟩
  go_wp2
  go_ret
  exact ⟨rfl, rfl⟩

/-- Does a rest begin within a name? -/
def stN (r : ByteArray) : Bool := (!r.toList.isEmpty) && ((!hasP r ⟨#[47]⟩) && (!hasP r ⟨#[63]⟩))
theorem starts_any (r : ByteArray) (w : World) : Calls Try.prog 22 #[.string r] w fun e w' => e = .returned (.bool (stN r)) ∧ w' = w := by
  have H1 : Hid (∀ W, Calls Try.prog 20 #[.string r, .string ⟨#[47]⟩] W fun e w' => e = .returned (.bool (hasP r ⟨#[47]⟩)) ∧ w' = W) := fun W => shasprefix_any _ _ W
  have H2 : Hid (∀ W, Calls Try.prog 20 #[.string r, .string ⟨#[63]⟩] W fun e w' => e = .returned (.bool (hasP r ⟨#[63]⟩)) ∧ w' = W) := fun W => shasprefix_any _ _ W
  unfold stN
  generalize hasP r ⟨#[47]⟩ = a at *
  generalize hasP r ⟨#[63]⟩ = b at *
  by_cases hr : r.size = 0
  · obtain rfl := empty_of hr
    clear H1 H2 hr
    rw [rt_emp]
    go_enter Try.func22, Try.ntmps22
    go_wp2
    go_ret
    exact ⟨rfl, rfl⟩
  · have hr2 : r.toList.isEmpty = false := isEmpty_of hr
    rw [hr2, Bool.not_false, Bool.true_and]
    clear hr
    cases a
    · go_enter Try.func22, Try.ntmps22
      go_wp2_with fail
      refine (H1.out _).mono ?_
      rintro e w2 ⟨rfl, rfl⟩
      go_wp2_with fail
      refine (H2.out _).mono ?_
      rintro e w2 ⟨rfl, rfl⟩
      go_wp2
      go_ret
      exact ⟨rfl, rfl⟩
    · clear H2
      go_enter Try.func22, Try.ntmps22
      go_wp2_with fail
      refine (H1.out _).mono ?_
      rintro e w2 ⟨rfl, rfl⟩
      go_wp2
      go_ret
      exact ⟨rfl, rfl⟩
theorem stN_data (r : ByteArray) : stN r = decide (r.data.toList.head? ≠ none ∧ r.data.toList.head? ≠ some 47 ∧ r.data.toList.head? ≠ some 63) := by
  unfold stN
  rw [hasP_one, hasP_one, ByteArray.toList_eq]
  show ((!r.data.toList.isEmpty) && _) = _
  cases r.data.toList with
  | nil => rfl
  | cons b l =>
    rw [Bool.eq_iff_iff]
    simp
theorem rt_cat {P : Program} (a b : ByteArray) (h : a.size + b.size ≤ 9223372036854775807) (W : World) : (Op.stringOp .add a b).run P W = .ok (.string (a ++ b)) W := run_string_add_sum W a b h
theorem rt_sizes (a b : ByteArray) : (a ++ b).size = a.size + b.size := ByteArray.size_append
theorem app_data (a b : ByteArray) : (a ++ b).data.toList = a.data.toList ++ b.data.toList := by simp
/-- What join answers. -/
def joinB (s r : ByteArray) : ByteArray := ⟨(joinR s.data.toList r.data.toList).toArray⟩
theorem joinB_1 {s r : ByteArray} (h : hasS s ⟨#[47]⟩ = true) : joinB s r = s ++ cutP r ⟨#[47]⟩ := by
  apply rt_eq
  rw [app_data]
  show joinR _ _ = _
  rw [hasS_one, beq_iff_eq] at h
  unfold joinR
  rw [if_pos h]
  have k := hasP_one r 47
  by_cases h2 : r.data.toList.head? = some 47
  · have k2 : hasP r ⟨#[47]⟩ = true := by rw [k, h2]; rfl
    rw [if_pos h2, cutP_yes k2]
    rfl
  · have k2 : ¬ hasP r ⟨#[47]⟩ = true := by rw [k, beq_iff_eq]; exact h2
    rw [if_neg h2]
    unfold cutP
    rw [if_neg k2]
theorem joinB_2 {s r : ByteArray} (h : hasS s ⟨#[47]⟩ = false) (h2 : stN r = true) : joinB s r = s ++ ⟨#[47]⟩ ++ r := by
  apply rt_eq
  rw [app_data, app_data]
  show joinR _ _ = _
  rw [hasS_one] at h
  have h' : ¬ s.data.toList.getLast? = some 47 := fun e => by rw [e] at h; exact absurd h (by decide)
  rw [stN_data, decide_eq_true_iff] at h2
  unfold joinR
  rw [if_neg h', if_pos h2, List.append_assoc]
  rfl
theorem joinB_3 {s r : ByteArray} (h : hasS s ⟨#[47]⟩ = false) (h2 : stN r = false) : joinB s r = s ++ r := by
  apply rt_eq
  rw [app_data]
  show joinR _ _ = _
  rw [hasS_one] at h
  have h' : ¬ s.data.toList.getLast? = some 47 := fun e => by rw [e] at h; exact absurd h (by decide)
  rw [stN_data, decide_eq_false_iff_not] at h2
  unfold joinR
  rw [if_neg h', if_neg h2]
theorem cutP_le (s p : ByteArray) : (cutP s p).size ≤ s.size := by
  unfold cutP
  split
  · rw [ByteArray.size_extract]; omega
  · exact Nat.le_refl _

set_option maxHeartbeats 1000000 in
theorem join_any (s r : ByteArray) (w : World) (hs : s.size ≤ 140737488355328) (hr : r.size ≤ 4294967296) : Calls Try.prog 16 #[.string s, .string r] w fun e w' => e = .returned (.string (joinB s r)) ∧ Below w.heap.size w w' := by
  have H1 : Hid (∀ W, Calls Try.prog 19 #[.string s, .string ⟨#[47]⟩] W fun e w' => e = .returned (.bool (hasS s ⟨#[47]⟩)) ∧ w' = W) := fun W => shassuffix_any _ _ W (by unfold maxLen; omega)
  have H2 : Hid (∀ W, Calls Try.prog 21 #[.string r, .string ⟨#[47]⟩] W fun e w' => e = .returned (.string (cutP r ⟨#[47]⟩)) ∧ w' = W) := fun W => trimprefix_any _ _ W
  have H3 : Hid (∀ W, Calls Try.prog 22 #[.string r] W fun e w' => e = .returned (.bool (stN r)) ∧ w' = W) := fun W => starts_any _ W
  have e1 := joinB_1 (s := s) (r := r)
  have e2 := joinB_2 (s := s) (r := r)
  have e3 := joinB_3 (s := s) (r := r)
  have hc := cutP_le r ⟨#[47]⟩
  have q1 : (⟨#[47]⟩ : ByteArray).size = 1 := rfl
  have z1 := ByteArray.size_append (a := s) (b := cutP r ⟨#[47]⟩)
  have z2 := ByteArray.size_append (a := s) (b := (⟨#[47]⟩ : ByteArray))
  have z3 := ByteArray.size_append (a := s ++ (⟨#[47]⟩ : ByteArray)) (b := r)
  have z4 := ByteArray.size_append (a := s) (b := r)
  have c1 := fun W : World => rt_cat (P := Try.prog) s (cutP r ⟨#[47]⟩) (by omega) W
  have c2 := fun W : World => rt_cat (P := Try.prog) s ⟨#[47]⟩ (by omega) W
  have c3 := fun W : World => rt_cat (P := Try.prog) (s ++ (⟨#[47]⟩ : ByteArray)) r (by omega) W
  have c4 := fun W : World => rt_cat (P := Try.prog) s r (by omega) W
  have K1 : Hid (∀ W, Calls Try.prog 23 #[.string (s ++ cutP r ⟨#[47]⟩)] W fun e w' => e = .returned (.string (s ++ cutP r ⟨#[47]⟩)) ∧ Below W.heap.size W w') := fun W => clone_any _ W (by omega)
  have K3 : Hid (∀ W, Calls Try.prog 23 #[.string (s ++ ⟨#[47]⟩ ++ r)] W fun e w' => e = .returned (.string (s ++ ⟨#[47]⟩ ++ r)) ∧ Below W.heap.size W w') := fun W => clone_any _ W (by omega)
  have K4 : Hid (∀ W, Calls Try.prog 23 #[.string (s ++ r)] W fun e w' => e = .returned (.string (s ++ r)) ∧ Below W.heap.size W w') := fun W => clone_any _ W (by omega)
  clear z1 z2 z3 z4 q1 hc hs hr
  generalize joinB s r = J at *
  generalize cutP r ⟨#[47]⟩ = x at *
  generalize hasS s ⟨#[47]⟩ = a at *
  generalize stN r = b at *
  cases a
  · cases b
    · obtain rfl := e3 rfl rfl
      clear e1 e2 e3 c1 c2 c3 K1 K3 H2
      generalize s ++ r = y at *
      go_enter Try.func16, Try.ntmps16
      go_wp2_with fail
      refine (H1.out _).mono ?_
      rintro e w2 ⟨rfl, rfl⟩
      go_wp2_with fail
      refine (H3.out _).mono ?_
      rintro e w2 ⟨rfl, rfl⟩
      go_wp2_with fail
      refine (K4.out _).mono ?_
      rintro e w2 ⟨rfl, B2⟩
      go_wp2
      go_ret
      exact ⟨rfl, B2⟩
    · obtain rfl := e2 rfl rfl
      clear e1 e2 e3 c1 c4 K1 K4 H2
      generalize s ++ (⟨#[47]⟩ : ByteArray) = y at *
      generalize y ++ r = z at *
      go_enter Try.func16, Try.ntmps16
      go_wp2_with fail
      refine (H1.out _).mono ?_
      rintro e w2 ⟨rfl, rfl⟩
      go_wp2_with fail
      refine (H3.out _).mono ?_
      rintro e w2 ⟨rfl, rfl⟩
      go_wp2_with fail
      refine (K3.out _).mono ?_
      rintro e w2 ⟨rfl, B2⟩
      go_wp2
      go_ret
      exact ⟨rfl, B2⟩
  · obtain rfl := e1 rfl
    clear e1 e2 e3 c2 c3 c4 K3 K4 H3
    generalize s ++ x = y at *
    go_enter Try.func16, Try.ntmps16
    go_wp2_with fail
    refine (H1.out _).mono ?_
    rintro e w2 ⟨rfl, rfl⟩
    go_wp2_with fail
    refine (H2.out _).mono ?_
    rintro e w2 ⟨rfl, rfl⟩
    go_wp2_with fail
    refine (K1.out _).mono ?_
    rintro e w2 ⟨rfl, B2⟩
    go_wp2
    go_ret
    exact ⟨rfl, B2⟩
end Go.Proofs.Ytjfcoihfjjcooaa
