/- slices.DeleteFunc of flows: those that want nothing. -/
import Derived.Test.YtnfpbkllpkbdiaaRbF
namespace Go.Proofs.Ytnfpbkllpkbdiaa
open Go.RowKit
set_option linter.unusedVariables false

def wants (f : Fl) : Bool := !decide (f.2 ≤ 0)
/-- Where the first one is that wants nothing. -/
def IdxR (s : List Fl) (r : Int) : Prop := (r = -1 ∧ ∀ j, j < s.length → wants (s.getD j (0, 0)) = true) ∨ ∃ k, k < s.length ∧ r = (k : Int) ∧ wants (s.getD k (0, 0)) = false ∧ ∀ j, j < k → wants (s.getD j (0, 0)) = true
set_option maxRecDepth 100000 in
set_option maxHeartbeats 2000000 in
theorem rbindex_any (s : List Fl) (g off c : Nat) (w : World) (hl : s.length ≤ 1000000) (hF : FO w g off c s) :
    Calls Try.prog 21 #[.slice (some ⟨g, off, none⟩) s.length c, .func (.func 18) #[] #[]] w fun e w' => ∃ r, e = .returned (.int .i64 r) ∧ IdxR s r ∧ Below w.heap.size w w' := by
  have HQ : Hid (∀ (x : Fl) (W : World), Calls Try.prog 18 #[.agg #[.int .i64 x.1, .int .i64 x.2]] W fun e w' => e = .returned (.bool (decide (x.2 ≤ 0))) ∧ Below W.heap.size W w') := fun x W => rbnone_any _ _ W
  have HS0 : Hid (FO w g off c s) := hF
  obtain ⟨n, hn⟩ : ∃ n, n = s.length := ⟨_, rfl⟩
  have HN : Hid (s.length = n) := hn.symm
  rw [← hn] at hl ⊢
  clear hn hF
  go_enter Try.func21, Try.ntmps21
  go_wp2_with fail
  go_loopw [8] (fun vi wr => ∃ k : Nat, k ≤ n ∧ vi = .int .i64 k ∧ Hid (∀ j, j < k → wants (s.getD j (0, 0)) = true) ∧ Hid (Below w.heap.size w wr)) (fun vi _ => n - (intOf vi).toNat)
  case atStart => exact ⟨0, Nat.zero_le _, rfl, fun j hj => absurd hj (Nat.not_lt_zero _), Below.refl _ _⟩
  case round =>
    obtain ⟨k, hk, rfl, hA, hB⟩ := hrel
    by_cases hlt : k < n
    · have hS := HS0.out.below hB.out HS0.out.lt
      have c0 := hS.c0 k (by rw [HN.out]; exact hlt)
      have c1 := hS.c1 k (by rw [HN.out]; exact hlt)
      have m1 : (0 : Int) ≤ k := by omega
      have m2 : (k : Int) < n := by omega
      have HA : Hid (Calls Try.prog 18 #[.agg #[.int .i64 (s.getD k (0, 0)).1, .int .i64 (s.getD k (0, 0)).2]] wr fun e w' => e = .returned (.bool (decide ((s.getD k (0, 0)).2 ≤ 0))) ∧ Below wr.heap.size wr w') := HQ.out _ wr
      have hY : Hid (decide ((s.getD k (0, 0)).2 ≤ 0) = true → wants (s.getD k (0, 0)) = false) := fun q => by unfold wants; rw [q]; rfl
      have hN : Hid (decide ((s.getD k (0, 0)).2 ≤ 0) = false → wants (s.getD k (0, 0)) = true) := fun q => by unfold wants; rw [q]; rfl
      generalize hb : decide ((s.getD k (0, 0)).2 ≤ 0) = b at *
      generalize hx : s.getD k (0, 0) = x at *
      have HX : Hid (s.getD k (0, 0) = x) := hx
      obtain ⟨x0, x1⟩ := x
      simp only at c0 c1 HA
      clear hS hb hx
      go_wp2_with fail
      refine HA.out.mono ?_
      rintro e w2 ⟨rfl, B2⟩
      have hB2 : Hid (Below w.heap.size w w2) := hB.out.trans (B2.mono hB.out.size)
      clear HA hB B2 c0 c1
      cases b
      · have hN2 : Hid (∀ j, j < k + 1 → wants (s.getD j (0, 0)) = true) := fun j hj => by
          by_cases e : j = k
          · rw [e, HX.out]; exact hN.out rfl
          · exact hA.out j (by omega)
        clear hN hY
        go_wp2
        go_roundw
        case rel => exact ⟨k + 1, by omega, by go_num, hN2, hB2⟩
        case measure => simp [intOf]; omega
      · have hY2 := hidE (hY.out rfl)
        clear hN hY
        go_wp2
        go_ret
        exact ⟨k, rfl, .inr ⟨k, by rw [HN.out]; exact hlt, rfl, by rw [HX.out]; exact hY2.out, hA.out⟩, hB2.out⟩
    · go_wp2
      go_ret
      exact ⟨-1, rfl, .inl ⟨rfl, fun j hj => hA.out j (by rw [HN.out] at hj; omega)⟩, hB.out⟩
theorem filter_all {s : List Fl} (h : ∀ j, j < s.length → wants (s.getD j (0, 0)) = true) : s.filter wants = s := by
  rw [List.filter_eq_self]
  intro x hx
  obtain ⟨j, hj, rfl⟩ := List.mem_iff_getElem.1 hx
  have := h j hj
  rwa [List.getD_eq_getElem?_getD, List.getElem?_eq_getElem hj] at this
theorem take_all {s : List Fl} {k : Nat} (hk : k ≤ s.length) (h : ∀ j, j < k → wants (s.getD j (0, 0)) = true) : (s.take k).filter wants = s.take k := by
  refine filter_all fun j hj => ?_
  rw [List.length_take] at hj
  have e : (s.take k).getD j (0, 0) = s.getD j (0, 0) := by
    have : j < k := by omega
    simp [List.getD_eq_getElem?_getD, this]
  rw [e]
  exact h j (by omega)
theorem filter_yes {s : List Fl} {k : Nat} (hk : k < s.length) (h : wants (s.getD k (0, 0)) = true) : (s.take (k + 1)).filter wants = (s.take k).filter wants ++ [s.getD k (0, 0)] := by
  rw [take_snoc s k hk, List.filter_append, List.filter_cons, if_pos h]; rfl
theorem filter_no {s : List Fl} {k : Nat} (hk : k < s.length) (h : wants (s.getD k (0, 0)) = false) : (s.take (k + 1)).filter wants = (s.take k).filter wants := by
  rw [take_snoc s k hk, List.filter_append, List.filter_cons, if_neg (by rw [h]; decide), List.filter_nil, List.append_nil]
set_option maxRecDepth 100000 in
set_option maxHeartbeats 4000000 in
theorem rbdelete_any (s : List Fl) (B g off c : Nat) (w : World) (hl : s.length ≤ 1000000) (hF : FO w g off c s) (hg : B ≤ g) (hc : c ≤ 9223372036854775807) (hBs : B ≤ w.heap.size) :
    Calls Try.prog 17 #[.slice (some ⟨g, off, none⟩) s.length c, .func (.func 18) #[] #[]] w fun e w' => e = .returned (.slice (some ⟨g, off, none⟩) (s.filter wants).length c) ∧ FO w' g off c (s.filter wants) ∧ Below B w w' := by
  have HQ : Hid (∀ (x : Fl) (W : World), Calls Try.prog 18 #[.agg #[.int .i64 x.1, .int .i64 x.2]] W fun e w' => e = .returned (.bool (decide (x.2 ≤ 0))) ∧ Below W.heap.size W w') := fun x W => rbnone_any _ _ W
  have HI := hidE (rbindex_any s g off c w hl hF)
  have HS0 : Hid (FO w g off c s) := hF
  have hlc := hF.len
  obtain ⟨n, hn⟩ : ∃ n, n = s.length := ⟨_, rfl⟩
  have HN : Hid (s.length = n) := hn.symm
  rw [← hn] at hl hlc HI ⊢
  clear hn hF
  go_enter Try.func17, Try.ntmps17
  go_wp2_with fail
  refine HI.out.mono ?_
  rintro e w1 ⟨r, rfl, hr, B1⟩
  clear HI
  have HS1 : Hid (FO w1 g off c s) := HS0.out.below B1 HS0.out.lt
  have HB1 : Hid (Below B w w1) := B1.mono hBs
  rcases hr with ⟨rfl, hall⟩ | ⟨k, hk, rfl, hno, hall⟩
  · have HE1 : Hid (s.filter wants = s) := filter_all hall
    clear hall
    go_wp2
    go_ret
    exact ⟨by rw [HE1.out, HN.out]; rfl, by rw [HE1.out]; exact HS1.out, HB1.out⟩
  · have hkn : k < n := by rw [← HN.out]; exact hk
    have hk1 : ((k : Int) == -1) = false := by simp
    have HE0 : Hid ((s.take (k + 1)).filter wants = s.take k) := by rw [Hid, filter_no hk hno]; exact take_all (by omega) hall
    have HM0 : Hid (MvU s s (k + 1) ((s.take (k + 1)).filter wants)) := by
      have hl : (s.take k).length = k := by rw [List.length_take]; omega
      rw [HE0.out]
      exact ⟨rfl, by rw [hl], by rw [hl]; omega, fun _ _ => rfl⟩
    have HK0 : Hid (((s.take (k + 1)).filter wants).length = k) := by rw [HE0.out, Hid, List.length_take]; omega
    clear hno hall hk B1 HE0
    go_wp2_with fail
    go_loopw [5, 6] (fun vk v2 wr => ∃ (i kk : Nat) (M : List Fl), 1 ≤ i ∧ i ≤ n ∧ v2 = .int .i64 i ∧ vk = .int .i64 kk ∧ Hid (((s.take i).filter wants).length = kk) ∧ Hid (FO wr g off c M) ∧ Hid (MvU s M i ((s.take i).filter wants)) ∧ Hid (Below B w wr)) (fun _ v2 _ => n - (intOf v2).toNat)
    case atStart => exact ⟨k + 1, k, s, by omega, by omega, by go_num, rfl, HK0, HS1, HM0, HB1⟩
    case round =>
      clear HS1 HB1 HM0 HK0 hkn hk1
      obtain ⟨i, kk, M, hi1, hin, rfl, rfl, HKK, HS, HM, HB⟩ := hrel
      have hkk : kk < i := by have := HM.out.2.2.1; rw [HKK.out] at this; exact this
      have HML : Hid (M.length = n) := HM.out.1.trans HN.out
      by_cases hlt : i < n
      · have hil : i < M.length := by rw [HML.out]; exact hlt
        have c0 := HS.out.c0 i hil
        have c1 := HS.out.c1 i hil
        rw [HM.out.2.2.2 i (by omega)] at c0 c1
        have HY : Hid (decide ((s.getD i (0, 0)).2 ≤ 0) = true → (s.take (i + 1)).filter wants = (s.take i).filter wants) := fun q => filter_no (by rw [HN.out]; exact hlt) (by unfold wants; rw [q]; rfl)
        have HNO : Hid (decide ((s.getD i (0, 0)).2 ≤ 0) = false → (s.take (i + 1)).filter wants = (s.take i).filter wants ++ [s.getD i (0, 0)]) := fun q => filter_yes (by rw [HN.out]; exact hlt) (by unfold wants; rw [q]; rfl)
        have m1 : (0 : Int) ≤ i := by omega
        have m2 : (i : Int) < n := by omega
        have m6 : (0 : Int) ≤ kk := by omega
        have m7 : (kk : Int) < (n : Int) := by omega
        have HA : Hid (∀ W, Calls Try.prog 18 #[.agg #[.int .i64 (s.getD i (0, 0)).1, .int .i64 (s.getD i (0, 0)).2]] W fun e w' => e = .returned (.bool (decide ((s.getD i (0, 0)).2 ≤ 0))) ∧ Below W.heap.size W w') := HQ.out _
        generalize hb : decide ((s.getD i (0, 0)).2 ≤ 0) = b at *
        generalize hx : s.getD i (0, 0) = x at *
        have HX : Hid (s.getD i (0, 0) = x) := hx
        obtain ⟨x0, x1⟩ := x
        simp only at c0 c1 HA
        clear hb hx
        have BA : Below wr.heap.size wr (wr.alloc (.cells #[.int .i64 x0, .int .i64 x1] 31)) := (Below.refl _ _).alloc (Nat.le_refl _) _
        have HA2 : Hid (Calls Try.prog 18 #[.agg #[.int .i64 x0, .int .i64 x1]] (wr.alloc (.cells #[.int .i64 x0, .int .i64 x1] 31)) fun e w' => e = .returned (.bool b) ∧ Below wr.heap.size wr w' ∧ w'.heap[wr.heap.size]? = some (.cells #[.int .i64 x0, .int .i64 x1] 31)) := (HA.out _).mono fun e w' he => ⟨he.1, BA.trans (he.2.mono BA.size), (he.2.block _ (by simp)).trans (tblk_new _ _)⟩
        clear HA BA
        go_wp2_with fail
        refine HA2.out.mono ?_
        rintro e w' ⟨rfl, hB, hN⟩
        have HS' : Hid (FO w' g off c M) := HS.out.below hB HS.out.lt
        have HB' : Hid (Below B w w') := HB.out.trans (hB.mono (Nat.le_trans hBs HB.out.size))
        clear HS HB HA2 c0 c1
        cases b with
        | true =>
          have HE1 := HY.out rfl
          have HM' : Hid (MvU s M (i + 1) ((s.take (i + 1)).filter wants)) := by rw [HE1]; exact HM.out.skip
          have HK' : Hid (((s.take (i + 1)).filter wants).length = kk) := by rw [HE1]; exact HKK.out
          clear HY HNO HM HKK hN HE1 hB
          go_wp2
          go_roundw
          case rel => exact ⟨i + 1, kk, M, by omega, by omega, by go_num, rfl, HK', HS', HM', HB'⟩
          case measure => simp [intOf]; omega
        | false =>
          have HE1 := HNO.out rfl
          have HM' : Hid (MvU s (M.set kk (x0, x1)) (i + 1) ((s.take (i + 1)).filter wants)) := by
            have q := HM.out.move (by rw [HN.out]; exact hlt)
            rw [HX.out, HKK.out] at q
            rw [HE1]; exact q
          have HK' : Hid (((s.take (i + 1)).filter wants).length = kk + 1) := by rw [HE1, Hid, List.length_append, HKK.out]; rfl
          have hkl : kk < M.length := by rw [HML.out]; omega
          have c0 := HS'.out.c0 kk hkl
          have c1 := HS'.out.c1 kk hkl
          have z0 := HS'.out.z (off + kk * 2)
          have z1 := HS'.out.z (off + kk * 2 + 1)
          have n0 : w'.cell? ⟨wr.heap.size, 0, none⟩ = some (.int .i64 x0) := tblk_cell hN rfl
          have n1 : w'.cell? ⟨wr.heap.size, 1, none⟩ = some (.int .i64 x1) := tblk_cell hN rfl
          have HS2 : Hid (FO ((w'.setCell ⟨g, off + kk * 2, none⟩ (.int .i64 x0)).setCell ⟨g, off + kk * 2 + 1, none⟩ (.int .i64 x1)) g off c (M.set kk (x0, x1))) := HS'.out.set kk hkl x0 x1
          have HB2 : Hid (Below B w ((w'.setCell ⟨g, off + kk * 2, none⟩ (.int .i64 x0)).setCell ⟨g, off + kk * 2 + 1, none⟩ (.int .i64 x1))) := (HB'.out.setCell (p := ⟨g, off + kk * 2, none⟩) hg _).setCell (p := ⟨g, off + kk * 2 + 1, none⟩) hg _
          clear HY HNO HM HKK hkl HS' HB' hN HE1 hB
          go_wp2
          go_roundw
          case rel => exact ⟨i + 1, kk + 1, _, by omega, by omega, by go_num, by go_num, HK', HS2, HM', HB2⟩
          case measure => simp [intOf]; omega
      · obtain rfl : n = i := by omega
        have hkl : kk < M.length := by rw [HML.out]; omega
        have HE1 : Hid (s.take n = s) := by rw [Hid, ← HN.out]; exact List.take_length
        have HO : Hid (M.take kk = s.filter wants) := by have := HM.out.2.1; rw [HKK.out, HE1.out] at this; exact this
        have HKK2 : Hid ((s.filter wants).length = kk) := by have := HKK.out; rw [HE1.out] at this; exact this
        obtain ⟨w2, r2, F2, B2⟩ := clear_end HS.out hg HB.out kk hkl 0
        rw [HML.out] at r2
        have HF2 : Hid (FO w2 g off c (s.filter wants)) := by rw [← HO.out]; exact F2
        have hck2 : ¬ c = kk := by omega
        have m6 : (0 : Int) ≤ kk := by omega
        have m7 : (kk : Int) ≤ (n : Int) := by omega
        have m8 : (kk : Int) ≤ (c : Int) := by omega
        clear F2 HS HB HM hkl HO HKK HE1
        go_wp2_with (at_builtin; refine wpList_clear_run rfl _ 22 rfl _ _ w2 rfl r2 ?_)
        go_ret
        exact ⟨by rw [HKK2.out]; rfl, HF2.out, B2⟩
end Go.Proofs.Ytnfpbkllpkbdiaa
