/- The reference's Match. -/
import Derived.Test.YtjfcoihfjjcooaaRtH
import Derived.Test.YtjfcoihfjjcooaaRtD
namespace Go.Proofs.Ytjfcoihfjjcooaa
open Go.RowKit
set_option linter.unusedVariables false

/-- No route of j bytes or more fits. -/
def Long (rs : List RouteP) (t : ByteArray) (j : Nat) : Prop := ∀ (i : Nat) (hi : i < rs.length), fitT rs[i].p t = true → rs[i].p.size < j
theorem Long.start (rs : List RouteP) (t : ByteArray) : Long rs t (t.size + 1) := fun i hi h => by have := fitT_le h; omega
theorem Long.none {rs : List RouteP} {t : ByteArray} (h : Long rs t 0) : Best rs t rs.length (-1) :=
  .inl ⟨rfl, fun j hj _ => by
    cases e : fitT rs[j].p t
    · rfl
    · have := h j hj e; omega⟩
/-- None of the first k is of n bytes and fits. -/
def Few (rs : List RouteP) (t : ByteArray) (n k : Nat) : Prop := ∀ (i : Nat) (hi : i < rs.length), i < k → ¬ (rs[i].p.size = n ∧ fitT rs[i].p t = true)
theorem Few.zero (rs : List RouteP) (t : ByteArray) (n : Nat) : Few rs t n 0 := fun i _ h => absurd h (Nat.not_lt_zero _)
theorem Few.next {rs : List RouteP} {t : ByteArray} {n k : Nat} (h : Few rs t n k) (hk : k < rs.length) (hc : ¬ (rs[k].p.size = n ∧ fitT rs[k].p t = true)) : Few rs t n (k + 1) := fun i hi hik => by
  rcases Nat.lt_or_ge i k with c | c
  · exact h i hi c
  · have : i = k := by omega
    subst this; exact hc
theorem Few.done {rs : List RouteP} {t : ByteArray} {n k : Nat} (h : Few rs t n k) (hk : rs.length ≤ k) (hl : Long rs t (n + 1)) : Long rs t n := fun i hi hf => by
  have a := hl i hi hf
  have b := h i hi (by omega)
  rcases Nat.lt_or_ge rs[i].p.size n with c | c
  · exact c
  · exact absurd ⟨by omega, hf⟩ b
theorem Few.hit {rs : List RouteP} {t : ByteArray} {n k : Nat} (h : Few rs t n k) (hk : k < rs.length) (hl : Long rs t (n + 1)) (h1 : rs[k].p.size = n) (h2 : fitT rs[k].p t = true) : Best rs t rs.length k := by
  refine .inr ⟨k, hk, rfl, hk, h2, fun j hj _ hf => ?_⟩
  have a := hl j hj hf
  refine ⟨by omega, fun hjk => ?_⟩
  have b := h j hj hjk
  rcases Nat.lt_or_ge rs[j].p.size n with c | c
  · omega
  · exact absurd ⟨by omega, hf⟩ b

set_option maxRecDepth 100000 in
set_option maxHeartbeats 2000000 in
theorem r11match_any (rs : List RouteP) (a : Option Addr) (c : Nat) (t : ByteArray) (w : World) (hf : Rts w.heap.size w (.slice a rs.length c) rs) (hb : RBd rs) (ht : t.size ≤ 4294967281) :
    Calls Try.prog 9 #[.slice a rs.length c, .string t] w fun e w' => ∃ m, e = .returned (.int .i64 m) ∧ Best rs t rs.length m ∧ w' = w := by
  have hlen := hf.len
  obtain ⟨a', c', e, hnil, h1, h2, h3⟩ := hf
  obtain ⟨rfl, _, rfl⟩ := rt_slice_inj e
  have hn : rs.length ≤ 9223372036854775807 := by unfold maxLen at h2; omega
  have H3 : Hid (0 < rs.length → ∃ g off, a = some ⟨g, off, none⟩ ∧ g < w.heap.size ∧ ∀ (j : Nat) (hj : j < rs.length), RtAt w g (off + j * 3) rs[j]) := h3
  have HBD : Hid (RBd rs) := hb
  have HT : Hid (t.size ≤ 4294967281) := ht
  clear e hnil h1 h2 h3 hb hlen
  go_enter Try.func9, Try.ntmps9
  go_wp2_with fail
  go_loop [5] (fun v => ∃ j : Nat, j ≤ t.size + 1 ∧ v = .int .i64 ((j : Int) - 1) ∧ Hid (Long rs t j)) (fun v => (intOf v + 1).toNat)
  case atStart => exact ⟨t.size + 1, Nat.le_refl _, by congr 1; omega, Long.start _ _⟩
  case round =>
    obtain ⟨j, hj, rfl, hL⟩ := hrel
    rcases Nat.eq_zero_or_pos j with h0 | h0
    · subst h0
      go_wp2
      go_ret
      exact ⟨_, rfl, hL.out.none, rfl⟩
    · obtain ⟨n, rfl⟩ : ∃ n, j = n + 1 := ⟨j - 1, by omega⟩
      have en : ((n + 1 : Nat) : Int) - 1 = (n : Int) := by omega
      rw [en]
      clear en h0
      go_wp2_with fail
      go_loop [6] (fun v => ∃ k : Nat, k ≤ rs.length ∧ v = .int .i64 k ∧ Hid (Few rs t n k)) (fun v => rs.length - (intOf v).toNat)
      case atStart => exact ⟨0, Nat.zero_le _, rfl, Few.zero _ _ _⟩
      case round =>
        obtain ⟨k, hk, rfl, hF⟩ := hrel
        by_cases hlt : k < rs.length
        · obtain ⟨g, off, ha, hg, hc⟩ := H3.out (by omega)
          subst ha
          have hc1 := (hc k hlt).1
          have hbd := (HBD.out rs[k] (List.getElem_mem hlt)).1
          have HFT : Hid (∀ W, Calls Try.prog 13 #[.string rs[k].p, .string t] W fun e w' => e = .returned (.bool (fitT rs[k].p t)) ∧ w' = W) := fun W => r11fits_any _ t W HT.out (by unfold maxLen; omega)
          by_cases hs : rs[k].p.size = n
          · have hs' : ((rs[k].p.size : Int) == (n : Int)) = true := by simp [hs]
            cases hfit : fitT rs[k].p t
            · have hN : Hid (Few rs t n (k + 1)) := hF.out.next hlt (fun q => by rw [hfit] at q; exact absurd q.2 (by decide))
              rw [hfit] at HFT
              clear hfit hs hbd hc H3 HBD hF
              generalize rs[k].p = xp at *
              go_wp2_with fail
              refine (HFT.out _).mono ?_
              rintro e w1 ⟨rfl, rfl⟩
              go_wp2
              go_round
              case rel => exact ⟨k + 1, by omega, by go_num, hN⟩
              case measure => simp [intOf]; omega
            · have hN : Hid (Best rs t rs.length k) := hF.out.hit hlt hL.out hs hfit
              rw [hfit] at HFT
              clear hfit hs hbd hc H3 HBD hF
              generalize rs[k].p = xp at *
              go_wp2_with fail
              refine (HFT.out _).mono ?_
              rintro e w1 ⟨rfl, rfl⟩
              go_wp2
              go_ret
              exact ⟨_, rfl, hN.out, rfl⟩
          · have hs' : ((rs[k].p.size : Int) == (n : Int)) = false := by simp; omega
            have hN : Hid (Few rs t n (k + 1)) := hF.out.next hlt (fun q => hs q.1)
            clear hs hbd hc H3 HBD hF HFT
            generalize rs[k].p = xp at *
            go_wp2
            go_round
            case rel => exact ⟨k + 1, by omega, by go_num, hN⟩
            case measure => simp [intOf]; omega
        · have hN : Hid (Long rs t n) := hF.out.done (by omega) hL.out
          clear H3 HBD hF hL
          go_wp2
          go_round
          case rel => exact ⟨n, by omega, by first | rfl | (unfold wrap64; congr 1; omega), hN⟩
          case measure => simp [intOf]
end Go.Proofs.Ytjfcoihfjjcooaa
