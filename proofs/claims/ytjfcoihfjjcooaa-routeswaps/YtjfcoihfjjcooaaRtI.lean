/- The reference's Rewrite. -/
import Derived.Test.YtjfcoihfjjcooaaRtH
namespace Go.Proofs.Ytjfcoihfjjcooaa
open Go.RowKit
set_option linter.unusedVariables false

theorem hd_eq (r : ByteArray) (h : 0 < r.size) : r.data.toList.head? = some (r[0]'h) := by
  have hl : 0 < r.data.toList.length := h
  rw [List.head?_eq_getElem?, List.getElem?_eq_getElem hl]
  rfl
theorem u8_iff (b : UInt8) (n : Nat) (h : n < 256) : (some b = some (UInt8.ofNat n)) ↔ (b.toNat : Int) = (n : Int) := by
  have k := u8_eq b n h
  rw [Bool.eq_iff_iff, beq_iff_eq, beq_iff_eq] at k
  exact k
theorem jr_A {s r : ByteArray} (h : r.size = 0) : joinB s r = s ++ r := by
  obtain rfl := empty_of h
  apply rt_eq
  rw [app_data]
  show joinR _ [] = _ ++ []
  unfold joinR
  split
  · rfl
  · rw [if_neg (fun k => k.1 rfl)]
theorem jr_ends {s : ByteArray} {m : Nat} (hm : m = s.size - 1) (h0 : 0 < s.size) (hx : m < s.size) : (s.data.toList.getLast? = some 47) ↔ ((s[m]'hx).toNat : Int) = 47 := by
  subst hm
  rw [last_eq s h0]
  exact u8_iff _ 47 (by decide)
theorem jr_B {s r : ByteArray} (he : s.data.toList.getLast? = some 47) (h0 : 0 < r.size) (h : ((r[0]'h0).toNat : Int) = 47) : joinB s r = s ++ r.extract 1 r.size := by
  apply rt_eq
  rw [app_data, rt_ext, ← rt_len r, List.take_length]
  show joinR _ _ = _
  unfold joinR
  rw [if_pos he, if_pos (by rw [hd_eq r h0]; exact (u8_iff _ 47 (by decide)).2 h)]
theorem jr_C {s r : ByteArray} (he : s.data.toList.getLast? = some 47) (h0 : 0 < r.size) (h : ¬ ((r[0]'h0).toNat : Int) = 47) : joinB s r = s ++ r := by
  apply rt_eq
  rw [app_data]
  show joinR _ _ = _
  unfold joinR
  rw [if_pos he, if_neg (by rw [hd_eq r h0]; exact fun k => h ((u8_iff _ 47 (by decide)).1 k))]
theorem jr_D {s r : ByteArray} (he : ¬ s.data.toList.getLast? = some 47) (h0 : 0 < r.size) (h : ¬ ((r[0]'h0).toNat : Int) = 47) (h' : ¬ ((r[0]'h0).toNat : Int) = 63) : joinB s r = s ++ ((⟨#[47]⟩ : ByteArray) ++ r) := by
  apply rt_eq
  rw [app_data, app_data]
  show joinR _ _ = _
  unfold joinR
  rw [if_neg he, if_pos ⟨(by rw [hd_eq r h0]; exact fun k => (by cases k)), (by rw [hd_eq r h0]; exact fun k => h ((u8_iff _ 47 (by decide)).1 k)), (by rw [hd_eq r h0]; exact fun k => h' ((u8_iff _ 63 (by decide)).1 k))⟩]
  rfl
theorem jr_E {s r : ByteArray} (he : ¬ s.data.toList.getLast? = some 47) (h0 : 0 < r.size) (h : ((r[0]'h0).toNat : Int) = 47 ∨ ((r[0]'h0).toNat : Int) = 63) : joinB s r = s ++ r := by
  apply rt_eq
  rw [app_data]
  show joinR _ _ = _
  unfold joinR
  rw [if_neg he, if_neg (fun k => by
    rw [hd_eq r h0] at k
    rcases h with h | h
    · exact k.2.1 ((u8_iff _ 47 (by decide)).2 h)
    · exact k.2.2 ((u8_iff _ 63 (by decide)).2 h))]
theorem empty_last {s : ByteArray} (h : s.size = 0) : ¬ s.data.toList.getLast? = some 47 := by
  rw [empty_of h]; exact fun k => by cases k

set_option maxRecDepth 100000 in
set_option maxHeartbeats 4000000 in
theorem r11rewrite_any (p u s t : ByteArray) (w : World) (ht : t.size ≤ 4294967281) (hp : p.size ≤ maxLen) (hs : s.size ≤ 140737488355328) :
    Calls Try.prog 11 #[.agg #[.string p, .string u, .string s], .string t] w fun e w' => e = .returned (.tuple #[.string (rewB p s t).1, .bool (rewB p s t).2]) ∧ Below w.heap.size w w' := by
  have B0 : Below w.heap.size w (w.alloc (.cells #[.string p, .string u, .string s] 26)) := (Below.refl _ _).alloc (Nat.le_refl _) _
  have HF : Hid (∀ W, Calls Try.prog 13 #[.string p, .string t] W fun e w' => e = .returned (.bool (fitT p t)) ∧ w' = W) := fun W => r11fits_any p t W ht hp
  have h1 := rew_no (p := p) (s := s) (t := t)
  have h2 := rew_long (p := p) (s := s) (t := t)
  have h3 := rew_yes (p := p) (s := s) (t := t)
  have h4 := fitT_le (p := p) (t := t)
  have hr := restB_le p t
  generalize fitT p t = F at *
  generalize rewB p s t = R at *
  cases F
  · obtain rfl := h1 rfl
    clear h1 h2 h3 h4 ht hp hs hr
    go_enter Try.func11, Try.ntmps11
    go_wp2_with fail
    refine (HF.out _).mono ?_
    rintro e w1 ⟨rfl, rfl⟩
    go_wp2
    go_ret2
    exact ⟨rfl, B0⟩
  · have hle := h4 rfl
    have h3' := h3 rfl
    clear h1 h3 h4
    have z1 := rt_sizes s (restB p t)
    have z2 := rt_sizes s ((restB p t).extract 1 (restB p t).size)
    have z3 := rt_sizes (⟨#[47]⟩ : ByteArray) (restB p t)
    have z4 := rt_sizes s ((⟨#[47]⟩ : ByteArray) ++ restB p t)
    have y2 : (⟨#[47]⟩ : ByteArray).size = 1 := rfl
    have z5 : ((restB p t).extract 1 (restB p t).size).size ≤ (restB p t).size := by rw [ByteArray.size_extract]; omega
    have c1 := fun W : World => rt_cat (P := Try.prog) s (restB p t) (by omega) W
    have c2 := fun W : World => rt_cat (P := Try.prog) s ((restB p t).extract 1 (restB p t).size) (by omega) W
    have c3 := fun W : World => rt_cat (P := Try.prog) (⟨#[47]⟩ : ByteArray) (restB p t) (by omega) W
    have c4 := fun W : World => rt_cat (P := Try.prog) s ((⟨#[47]⟩ : ByteArray) ++ restB p t) (by omega) W
    have hrb : restB p t = t.extract p.size t.size := rfl
    have HSZ : Hid (s.size ≤ 140737488355328) := hs
    clear z1 z2 z3 z4 y2 z5 ht hp hs hr
    go_enter Try.func11, Try.ntmps11
    go_wp2_with fail
    refine (HF.out _).mono ?_
    rintro e w1 ⟨rfl, rfl⟩
    clear HF
    unfold restB at *
    generalize hr : t.extract p.size t.size = r at *
    have HR : Hid (t.extract p.size t.size = r) := hr
    clear hrb
    generalize hJ : joinB s r = J at *
    rcases Nat.eq_zero_or_pos s.size with hs0 | hs0
    · have he := empty_last hs0
      have hs0' : decide (0 < s.size) = false := decide_eq_false (by omega)
      clear hs0
      rcases Nat.eq_zero_or_pos r.size with hr0 | hr0
      · have hJ2 := hJ.symm.trans (jr_A (s := s) hr0)
        rw [← hJ2] at c1
        clear hJ hJ2 c2 c3 c4
        have hr0' : decide (0 < r.size) = false := decide_eq_false (by omega)
        clear hr0 he
        by_cases hl : 512 < J.size
        · obtain rfl := h2 hl
          clear h2 h3'
          have hl' : (512 : Int) < (J.size : Int) := by omega
          clear hl
          go_wp2
          go_ret2
          exact ⟨rfl, B0⟩
        · obtain rfl := h3' hl
          clear h2 h3'
          have hl' : ¬ (512 : Int) < (J.size : Int) := by omega
          clear hl
          go_wp2
          go_ret2
          exact ⟨rfl, B0⟩
      · have hr0' : decide (0 < r.size) = true := decide_eq_true hr0
        by_cases h47 : ((r[0]'hr0).toNat : Int) = 47
        · have hJ2 := hJ.symm.trans (jr_E he hr0 (.inl h47))
          have h47' : (((r[0]'hr0).toNat : Int) != 47) = false := by simp [h47]
          rw [← hJ2] at c1
          clear hJ hJ2 c2 c3 c4 h47 he
          by_cases hl : 512 < J.size
          · obtain rfl := h2 hl
            clear h2 h3'
            have hl' : (512 : Int) < (J.size : Int) := by omega
            clear hl
            go_wp2
            go_ret2
            exact ⟨rfl, B0⟩
          · obtain rfl := h3' hl
            clear h2 h3'
            have hl' : ¬ (512 : Int) < (J.size : Int) := by omega
            clear hl
            go_wp2
            go_ret2
            exact ⟨rfl, B0⟩
        · have h47' : (((r[0]'hr0).toNat : Int) != 47) = true := by simp [h47]
          by_cases h63 : ((r[0]'hr0).toNat : Int) = 63
          · have hJ2 := hJ.symm.trans (jr_E he hr0 (.inr h63))
            have h63' : (((r[0]'hr0).toNat : Int) != 63) = false := by simp [h63]
            rw [← hJ2] at c1
            clear hJ hJ2 c2 c3 c4 h47 h63 he
            by_cases hl : 512 < J.size
            · obtain rfl := h2 hl
              clear h2 h3'
              have hl' : (512 : Int) < (J.size : Int) := by omega
              clear hl
              go_wp2
              go_ret2
              exact ⟨rfl, B0⟩
            · obtain rfl := h3' hl
              clear h2 h3'
              have hl' : ¬ (512 : Int) < (J.size : Int) := by omega
              clear hl
              go_wp2
              go_ret2
              exact ⟨rfl, B0⟩
          · have hJ2 := hJ.symm.trans (jr_D he hr0 h47 h63)
            have h63' : (((r[0]'hr0).toNat : Int) != 63) = true := by simp [h63]
            rw [← hJ2] at c4
            clear hJ hJ2 c1 c2 h47 h63 he
            by_cases hl : 512 < J.size
            · obtain rfl := h2 hl
              clear h2 h3'
              have hl' : (512 : Int) < (J.size : Int) := by omega
              clear hl
              go_wp2
              go_ret2
              exact ⟨rfl, B0⟩
            · obtain rfl := h3' hl
              clear h2 h3'
              have hl' : ¬ (512 : Int) < (J.size : Int) := by omega
              clear hl
              go_wp2
              go_ret2
              exact ⟨rfl, B0⟩
    · have hs0' : decide (0 < s.size) = true := decide_eq_true hs0
      obtain ⟨m, hm⟩ : ∃ m : Nat, m = s.size - 1 := ⟨_, rfl⟩
      have hix : m < s.size := by omega
      have hw : wrap64 ((s.size : Int) - 1) = (m : Int) := by
        unfold wrap64
        have := HSZ.out
        omega
      have hiff := jr_ends hm hs0 hix
      clear hm hs0
      by_cases h47s : ((s[m]'hix).toNat : Int) = 47
      · have he := hiff.2 h47s
        have h47s' : (((s[m]'hix).toNat : Int) == 47) = true := by simp [h47s]
        clear hiff h47s
        rcases Nat.eq_zero_or_pos r.size with hr0 | hr0
        · have hJ2 := hJ.symm.trans (jr_A (s := s) hr0)
          rw [← hJ2] at c1
          clear hJ hJ2 c2 c3 c4
          have hr0' : decide (0 < r.size) = false := decide_eq_false (by omega)
          clear hr0 he
          by_cases hl : 512 < J.size
          · obtain rfl := h2 hl
            clear h2 h3'
            have hl' : (512 : Int) < (J.size : Int) := by omega
            clear hl
            go_wp2
            go_ret2
            exact ⟨rfl, B0⟩
          · obtain rfl := h3' hl
            clear h2 h3'
            have hl' : ¬ (512 : Int) < (J.size : Int) := by omega
            clear hl
            go_wp2
            go_ret2
            exact ⟨rfl, B0⟩
        · have hr0' : decide (0 < r.size) = true := decide_eq_true hr0
          by_cases h47 : ((r[0]'hr0).toNat : Int) = 47
          · have hJ2 := hJ.symm.trans (jr_B he hr0 h47)
            have h47' : (((r[0]'hr0).toNat : Int) == 47) = true := by simp [h47]
            rw [← hJ2] at c2
            clear hJ hJ2 c1 c3 c4 h47 he
            by_cases hl : 512 < J.size
            · obtain rfl := h2 hl
              clear h2 h3'
              have hl' : (512 : Int) < (J.size : Int) := by omega
              clear hl
              go_wp2
              go_ret2
              exact ⟨rfl, B0⟩
            · obtain rfl := h3' hl
              clear h2 h3'
              have hl' : ¬ (512 : Int) < (J.size : Int) := by omega
              clear hl
              go_wp2
              go_ret2
              exact ⟨rfl, B0⟩
          · have hJ2 := hJ.symm.trans (jr_C he hr0 h47)
            have h47' : (((r[0]'hr0).toNat : Int) == 47) = false := by simp [h47]
            rw [← hJ2] at c1
            clear hJ hJ2 c2 c3 c4 h47 he
            by_cases hl : 512 < J.size
            · obtain rfl := h2 hl
              clear h2 h3'
              have hl' : (512 : Int) < (J.size : Int) := by omega
              clear hl
              go_wp2
              go_ret2
              exact ⟨rfl, B0⟩
            · obtain rfl := h3' hl
              clear h2 h3'
              have hl' : ¬ (512 : Int) < (J.size : Int) := by omega
              clear hl
              go_wp2
              go_ret2
              exact ⟨rfl, B0⟩
      · have he := fun k => h47s (hiff.1 k)
        have h47s' : (((s[m]'hix).toNat : Int) == 47) = false := by simp [h47s]
        clear hiff h47s
        rcases Nat.eq_zero_or_pos r.size with hr0 | hr0
        · have hJ2 := hJ.symm.trans (jr_A (s := s) hr0)
          rw [← hJ2] at c1
          clear hJ hJ2 c2 c3 c4
          have hr0' : decide (0 < r.size) = false := decide_eq_false (by omega)
          clear hr0 he
          by_cases hl : 512 < J.size
          · obtain rfl := h2 hl
            clear h2 h3'
            have hl' : (512 : Int) < (J.size : Int) := by omega
            clear hl
            go_wp2
            go_ret2
            exact ⟨rfl, B0⟩
          · obtain rfl := h3' hl
            clear h2 h3'
            have hl' : ¬ (512 : Int) < (J.size : Int) := by omega
            clear hl
            go_wp2
            go_ret2
            exact ⟨rfl, B0⟩
        · have hr0' : decide (0 < r.size) = true := decide_eq_true hr0
          by_cases h47 : ((r[0]'hr0).toNat : Int) = 47
          · have hJ2 := hJ.symm.trans (jr_E he hr0 (.inl h47))
            have h47' : (((r[0]'hr0).toNat : Int) != 47) = false := by simp [h47]
            rw [← hJ2] at c1
            clear hJ hJ2 c2 c3 c4 h47 he
            by_cases hl : 512 < J.size
            · obtain rfl := h2 hl
              clear h2 h3'
              have hl' : (512 : Int) < (J.size : Int) := by omega
              clear hl
              go_wp2
              go_ret2
              exact ⟨rfl, B0⟩
            · obtain rfl := h3' hl
              clear h2 h3'
              have hl' : ¬ (512 : Int) < (J.size : Int) := by omega
              clear hl
              go_wp2
              go_ret2
              exact ⟨rfl, B0⟩
          · have h47' : (((r[0]'hr0).toNat : Int) != 47) = true := by simp [h47]
            by_cases h63 : ((r[0]'hr0).toNat : Int) = 63
            · have hJ2 := hJ.symm.trans (jr_E he hr0 (.inr h63))
              have h63' : (((r[0]'hr0).toNat : Int) != 63) = false := by simp [h63]
              rw [← hJ2] at c1
              clear hJ hJ2 c2 c3 c4 h47 h63 he
              by_cases hl : 512 < J.size
              · obtain rfl := h2 hl
                clear h2 h3'
                have hl' : (512 : Int) < (J.size : Int) := by omega
                clear hl
                go_wp2
                go_ret2
                exact ⟨rfl, B0⟩
              · obtain rfl := h3' hl
                clear h2 h3'
                have hl' : ¬ (512 : Int) < (J.size : Int) := by omega
                clear hl
                go_wp2
                go_ret2
                exact ⟨rfl, B0⟩
            · have hJ2 := hJ.symm.trans (jr_D he hr0 h47 h63)
              have h63' : (((r[0]'hr0).toNat : Int) != 63) = true := by simp [h63]
              rw [← hJ2] at c4
              clear hJ hJ2 c1 c2 h47 h63 he
              by_cases hl : 512 < J.size
              · obtain rfl := h2 hl
                clear h2 h3'
                have hl' : (512 : Int) < (J.size : Int) := by omega
                clear hl
                go_wp2
                go_ret2
                exact ⟨rfl, B0⟩
              · obtain rfl := h3' hl
                clear h2 h3'
                have hl' : ¬ (512 : Int) < (J.size : Int) := by omega
                clear hl
                go_wp2
                go_ret2
                exact ⟨rfl, B0⟩
end Go.Proofs.Ytjfcoihfjjcooaa
