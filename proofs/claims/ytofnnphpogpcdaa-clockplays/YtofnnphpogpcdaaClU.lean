/- The document's clock: without, ahead, Drop. -/
import Derived.Test.YtofnnphpogpcdaaClR
namespace Go.Proofs.Ytofnnphpogpcdaa
open Go.ChangeShapes Go.WideShapes Go.ChangeAt Go.RowKit
set_option linter.unusedVariables false

def encD (p : Pr) : Array Value := #[.int .i64 p.1, .int .i64 p.2]
theorem ED : EncR Pr 2 encD := ⟨fun _ => rfl, fun x v hv => by simp [encD] at hv; rcases hv with rfl | rfl <;> rfl, by decide⟩
theorem infoD : (Try.prog.info? 45).map (fun i => (i.zero, i.size, i.bytes)) = some (some (.agg #[.int .i64 0, .int .i64 0]), 2, 16) := by kernel_rfl
theorem RdR.d {w : World} {g off c : Nat} {l : List Pr} (h : RdR 2 encD w (some ⟨g, off, none⟩) c l) {j : Nat} {p : Pr} (hj : l[j]? = some p) : w.cell? ⟨g, off + j * 2, none⟩ = some (.int .i64 p.1) ∧ w.cell? ⟨g, off + j * 2 + 1, none⟩ = some (.int .i64 p.2) := by
  obtain ⟨g', off', e, _, hc⟩ := h.at hj
  injection e with e
  injection e with e1 e2
  subst e1 e2
  exact ⟨hc 0 (by decide), hc 1 (by decide)⟩
theorem takeP_snoc {L : List Pr} {k : Nat} {p : Pr} (h : L[k]? = some p) : L.take (k + 1) = L.take k ++ [p] := by rw [List.take_add_one, h]; rfl
theorem off_snoc_ne {id : Int} {l : List Pr} {p : Pr} (h : p.1 ≠ id) : offL id (l ++ [p]) = offL id l ++ [p] := by unfold offL; rw [List.filter_append, List.filter_cons, if_pos (by simpa using h)]; rfl
theorem off_snoc_eq {id : Int} {l : List Pr} {p : Pr} (h : p.1 = id) : offL id (l ++ [p]) = offL id l := by unfold offL; rw [List.filter_append, List.filter_cons, if_neg (by simpa using h)]; simp
theorem has_snoc {id : Int} {l : List Pr} {p : Pr} : hasL id (l ++ [p]) = (hasL id l || (p.1 == id)) := by unfold hasL; simp [List.any_append]
set_option maxRecDepth 100000 in
set_option maxHeartbeats 1000000 in
theorem without15_any (L : List Pr) (a : Option Addr) (c : Nat) (id : Int) (w : World) (hL : RdR 2 encD w a c L) (hl : L.length ≤ 1000000) :
    Calls Try.prog 22 #[.slice a L.length c, .int .i64 id] w fun e w' => ∃ a' c', e = .returned (.tuple #[.slice a' (offL id L).length c', .bool (hasL id L)]) ∧ OwR 45 2 encD w.heap.size w' (.slice a' (offL id L).length c') (offL id L) ∧ Below w.heap.size w w' := by
  have HF : Hid (∀ W, Below w.heap.size w W → RdR 2 encD W a c L) := fun W b => hL.keep b
  obtain ⟨n, hn⟩ : ∃ n, n = L.length := ⟨_, rfl⟩
  have HNN : Hid (L.length = n) := hn.symm
  rw [← hn] at hl ⊢
  have O0 : Hid (OwR 45 2 encD w.heap.size (w.alloc (.cells #[] 45)) (.slice (some ⟨w.heap.size, 0, none⟩) 0 0) (offL id (L.take 0))) := OwR.empty _ _ _ _ _ (Nat.le_refl _)
  clear hn hL
  go_enter Try.func22, Try.ntmps22
  go_wp2_with fail
  go_loopw [6, 7, 8] (fun v6 v7 vi wr => ∃ (k : Nat) (a6 : Option Addr) (c6 m : Nat) (b : Bool), k ≤ n ∧ vi = .int .i64 k ∧ v6 = .slice a6 m c6 ∧ v7 = .bool b ∧ Hid (m = (offL id (L.take k)).length ∧ b = hasL id (L.take k)) ∧ Hid (OwR 45 2 encD w.heap.size wr (.slice a6 m c6) (offL id (L.take k))) ∧ Hid (Below w.heap.size w wr)) (fun _ _ vi _ => n - (intOf vi).toNat)
  case atStart => exact ⟨0, _, _, 0, false, Nat.zero_le _, rfl, rfl, rfl, ⟨rfl, rfl⟩, O0, (Below.refl _ _).alloc (Nat.le_refl _) _⟩
  case round =>
    clear O0
    obtain ⟨k, a6, c6, m, b, hk, rfl, rfl, rfl, HM, HO, HB⟩ := hrel
    by_cases hlt : k < n
    · have hfw := HF.out wr HB.out
      obtain ⟨p, hp⟩ : ∃ p, L[k]? = some p := ⟨L[k]'(by rw [HNN.out]; exact hlt), List.getElem?_eq_getElem _⟩
      obtain ⟨g, off, rfl, hg, hc⟩ := hfw.at hp
      obtain ⟨d0, d1⟩ := hfw.d hp
      have m1 : (0 : Int) ≤ k := by omega
      have m2 : (k : Int) < n := by omega
      have HT := hidE (takeP_snoc hp)
      by_cases he : p.1 = id
      · have HO2 : Hid (OwR 45 2 encD w.heap.size wr (.slice a6 m c6) (offL id (L.take (k + 1)))) := by rw [Hid, HT.out, off_snoc_eq he]; exact HO.out
        have HM2 : Hid (m = (offL id (L.take (k + 1))).length ∧ true = hasL id (L.take (k + 1))) := by
          rw [Hid, HT.out, off_snoc_eq he, has_snoc, he]
          exact ⟨HM.out.1, by simp⟩
        have e0 : (p.1 == id) = true := by simp [he]
        clear hc hfw hp he HT HO HM hg
        obtain ⟨x, y⟩ := p
        simp only at d0 d1 e0
        go_wp2
        go_roundw
        case rel => exact ⟨k + 1, _, _, m, true, by omega, by go_num, rfl, rfl, HM2, HO2, HB⟩
        case measure => simp [intOf]; omega
      · have e0 : (p.1 == id) = false := by simp [he]
        have hm20 : (offL id (L.take k)).length ≤ 1000000 := Nat.le_trans (off_len _ _) (by rw [List.length_take]; omega)
        have BA : Below wr.heap.size wr (wr.alloc (.cells (encD p) 45)) := (Below.refl _ _).alloc (Nat.le_refl _) _
        obtain ⟨v7, w7, r7, O7, B7, _⟩ := owr_append ED Try.underlying26 infoD rfl (by decide) HO.out HB.out.size p (by omega)
        obtain ⟨a7, c7, rfl, _, _⟩ := O7.rd ED
        have hlen : (offL id (L.take k) ++ [p]).length = m + 1 := by rw [List.length_append, HM.out.1]; rfl
        rw [hlen] at r7 O7
        have HO7 : Hid (OwR 45 2 encD w.heap.size w7 (.slice a7 (m + 1) c7) (offL id (L.take (k + 1)))) := by rw [Hid, HT.out, off_snoc_ne he]; exact O7
        have HM7 : Hid (m + 1 = (offL id (L.take (k + 1))).length ∧ b = hasL id (L.take (k + 1))) := by
          rw [Hid, HT.out, off_snoc_ne he, has_snoc, e0, Bool.or_false]
          exact ⟨hlen.symm, HM.out.2⟩
        have HB7 := hidE (HB.out.trans B7)
        clear hc hfw hp he HT HO HM hg O7 B7 BA HB hlen hm20
        obtain ⟨x, y⟩ := p
        simp only [encD] at d0 d1 e0 r7
        go_wp2_with (at_builtin; refine wpList_append_run2 rfl _ _ 26 26 rfl _ _ _ w7 rfl rfl r7 ?_; clear r7)
        go_roundw
        case rel => exact ⟨k + 1, _, _, m + 1, b, by omega, by go_num, rfl, rfl, HM7, HO7, HB7⟩
        case measure => simp [intOf]; omega
    · obtain rfl : k = n := by omega
      have HE : Hid (L.take k = L) := by rw [Hid, ← HNN.out]; exact List.take_length
      obtain ⟨h1, h2⟩ := HM.out
      subst h1 h2
      have HF1 : Hid (OwR 45 2 encD w.heap.size wr (.slice a6 (offL id L).length c6) (offL id L)) := by have := HO.out; rw [HE.out] at this; exact this
      rw [HE.out]
      clear HO HM hlt
      go_wp2
      go_ret2
      exact ⟨a6, c6, rfl, HF1.out, HB.out⟩
set_option maxRecDepth 100000 in
set_option maxHeartbeats 1000000 in
theorem ahead15_any (p q : Pr) (w : World) : Calls Try.prog 23 #[.agg #[.int .i64 p.1, .int .i64 p.2], .agg #[.int .i64 q.1, .int .i64 q.2]] w fun e w' => e = .returned (.bool (decide (klt p q))) ∧ Below w.heap.size w w' := by
  have HB : Hid (Below w.heap.size w ((w.alloc (.cells #[.int .i64 p.1, .int .i64 p.2] 45)).alloc (.cells #[.int .i64 q.1, .int .i64 q.2] 45))) := ((Below.refl _ _).alloc (Nat.le_refl _) _).alloc (by simp) _
  obtain ⟨a, b⟩ := p
  obtain ⟨c, d⟩ := q
  simp only at HB ⊢
  by_cases h1 : b < d
  · have e : decide (klt (a, b) (c, d)) = true := decide_eq_true (.inl h1)
    have d1 : decide (b < d) = true := decide_eq_true h1
    rw [e]
    clear e h1
    go_enter Try.func23, Try.ntmps23
    go_wp2
    go_ret
    exact ⟨rfl, HB.out⟩
  · have d1 : decide (b < d) = false := decide_eq_false h1
    by_cases h2 : b = d
    · have e : decide (klt (a, b) (c, d)) = decide (a < c) := by
        by_cases h3 : a < c
        · rw [decide_eq_true h3]; exact decide_eq_true (.inr ⟨h2, h3⟩)
        · rw [decide_eq_false h3]; exact decide_eq_false (fun k => Or.elim k h1 (fun k => h3 k.2))
      have d2 : (b == d) = true := by simp [h2]
      rw [e]
      clear e h1 h2
      go_enter Try.func23, Try.ntmps23
      go_wp2
      go_ret
      exact ⟨rfl, HB.out⟩
    · have e : decide (klt (a, b) (c, d)) = false := decide_eq_false (fun k => Or.elim k h1 (fun k => h2 k.1))
      have d2 : (b == d) = false := by simp [h2]
      rw [e]
      clear e h1 h2
      go_enter Try.func23, Try.ntmps23
      go_wp2
      go_ret
      exact ⟨rfl, HB.out⟩
end Go.Proofs.Ytofnnphpogpcdaa
