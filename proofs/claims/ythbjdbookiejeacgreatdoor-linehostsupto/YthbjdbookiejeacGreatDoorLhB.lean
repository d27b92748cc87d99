/- The reference's Host. -/
import Derived.Test.YthbjdbookiejeacGreatDoorLhA
import Derived.Test.YthbjdbookiejeacGreatDoorRefB
import Derived.Test.YthbjdbookiejeacGreatDoorSgnE
namespace Go.Proofs.YthbjdbookiejeacGreatDoor
open Go.RowKit
set_option linter.unusedVariables false

theorem isD_span (b : UInt8) : isD b = spanP 48 57 (b.toNat : Int) := by
  have h : ∀ n : Fin 256, isD (UInt8.ofNat n.val) = spanP 48 57 ((UInt8.ofNat n.val).toNat : Int) := by decide +kernel
  have k := h ⟨b.toNat, b.toNat_lt⟩
  simpa using k
theorem col_of {b : UInt8} (h : (b.toNat : Int) = 58) : b = 58 := UInt8.toNat_inj.1 (by have e : (58 : UInt8).toNat = 58 := rfl; omega)
theorem ncol_of {b : UInt8} (h : ¬ (b.toNat : Int) = 58) : ¬ b = 58 := fun k => h (by rw [k]; rfl)
/-- All behind j are digits. -/
def DigF (s : ByteArray) (j : Nat) : Prop := ∀ i, j ≤ i → ∀ h : i < s.size, spanP 48 57 (s[i].toNat : Int) = true
theorem digF_drop {s : ByteArray} {j : Nat} (h : DigF s j) : ∀ b ∈ s.data.toList.drop j, isD b = true := by
  intro b hb
  obtain ⟨k, hk, e⟩ := List.mem_iff_getElem.1 hb
  rw [List.length_drop] at hk
  rw [List.getElem_drop] at e
  rw [isD_span, ← e]
  exact h (j + k) (Nat.le_add_right _ _) (show j + k < s.data.toList.length by omega)
theorem digF_pre {s : ByteArray} {i : Nat} (h : DigF s (i + 1)) (hi : i < s.size) (hd : spanP 48 57 (s[i].toNat : Int) = true) : DigF s i := by
  intro k hk h'
  by_cases e : k = i
  · subst e; exact hd
  · exact h k (by omega) h'
theorem end_none {s : ByteArray} (h : DigF s 0) : endL s.data.toList = s.data.toList := (end_at s.data.toList 0 (Nat.zero_le _) (digF_drop h) (Or.inl rfl)).1 rfl
theorem end_hit {s : ByteArray} {i : Nat} (hi : i < s.size) (h : DigF s (i + 1)) (hd : spanP 48 57 (s[i].toNat : Int) = false) (hc : (s[i].toNat : Int) = 58) : endL s.data.toList = s.data.toList.take i := by
  have k := (end_at s.data.toList (i + 1) hi (digF_drop h) (Or.inr ⟨i, hi, rfl, by rw [isD_span]; exact hd⟩)).2 i hi rfl
  rw [k]
  exact if_pos (col_of hc)
theorem end_miss {s : ByteArray} {i : Nat} (hi : i < s.size) (h : DigF s (i + 1)) (hd : spanP 48 57 (s[i].toNat : Int) = false) (hc : ¬ (s[i].toNat : Int) = 58) : endL s.data.toList = s.data.toList := by
  have k := (end_at s.data.toList (i + 1) hi (digF_drop h) (Or.inr ⟨i, hi, rfl, by rw [isD_span]; exact hd⟩)).2 i hi rfl
  rw [k]
  exact if_neg (ncol_of hc)
theorem fold_end {s : ByteArray} {i : Nat} (e : endL s.data.toList = s.data.toList.take i) : (⟨(foldL (endL s.data.toList)).toArray⟩ : ByteArray) = foldS (s.extract 0 i) := by
  unfold foldS
  rw [lext_data, e]; rfl
theorem fold_whole {s : ByteArray} (e : endL s.data.toList = s.data.toList) : (⟨(foldL (endL s.data.toList)).toArray⟩ : ByteArray) = foldS s := by
  unfold foldS
  rw [e]

set_option maxRecDepth 100000 in
set_option maxHeartbeats 4000000 in
theorem rhost_any (s : ByteArray) (w : World) (hs : s.size ≤ 4294967281) : Calls Tryz.prog 9 #[.string s] w fun e w' => e = .returned (.tuple #[.string (hostP s).1, .bool (hostP s).2]) ∧ Below w.heap.size w w' := by
  have D : Hid (∀ c W, Calls Tryz.prog 20 #[.int .u8 c] W fun e w' => e = .returned (.bool (spanP 48 57 c)) ∧ w' = W) := fun c W => rdig_any c W
  have HF : Hid (∀ n W, Calls Tryz.prog 25 #[.string (s.extract 0 n)] W fun e w' => e = .returned (.string (foldS (s.extract 0 n))) ∧ Below W.heap.size W w') := fun n W => rfold_any _ W (Nat.le_trans (extract_le _ _ _) hs)
  have HG : Hid (∀ W, Calls Tryz.prog 25 #[.string s] W fun e w' => e = .returned (.string (foldS s)) ∧ Below W.heap.size W w') := fun W => rfold_any _ W hs
  have HY : Hid ((foldS s).size ≤ 4294967281) := by rw [Hid, lfold_size]; exact hs
  have HZ : Hid (∀ n, (foldS (s.extract 0 n)).size ≤ 4294967281) := fun n => by rw [lfold_size]; exact Nat.le_trans (extract_le _ _ _) hs
  rw [host_ref]
  generalize hX : refO ⟨(foldL (endL s.data.toList)).toArray⟩ = X
  have HX : Hid (refO ⟨(foldL (endL s.data.toList)).toArray⟩ = X) := hX
  clear hX
  obtain ⟨X1, X2⟩ := X
  go_enter Tryz.func9, Tryz.ntmps9
  go_wp2_with fail
  go_loopw [5] (fun v wr => ∃ j : Nat, j ≤ s.size ∧ v = .int .i64 ((j : Int) - 1) ∧ Hid (DigF s j) ∧ Hid (wr = w)) (fun v _ => (intOf v + 1).toNat)
  case atStart => exact ⟨s.size, Nat.le_refl _, rfl, fun i h1 h2 => absurd h2 (by omega), rfl⟩
  case round =>
    obtain ⟨j, hj, rfl, hD, hW⟩ := hrel
    have ew := hW.out
    subst ew
    clear hW
    rcases Nat.eq_zero_or_pos j with rfl | hpos
    · have e0 : (((0 : Nat) : Int) - 1) = -1 := rfl
      rw [e0]
      clear e0
      have HE := fold_whole (end_none hD.out)
      rw [HE] at HX
      clear HE hD
      go_wp2_with fail
      refine (HG.out _).mono ?_
      rintro e w1 ⟨rfl, C1⟩
      have hz := HY.out
      generalize foldS s = o at *
      clear HF HZ HG HY
      go_wp2_with fail
      go_loopw [7] (fun v wr => ∃ k : Nat, k ≤ o.size ∧ v = .int .i64 k ∧ Hid (allB hsP (o.data.toList.take k) = true) ∧ Hid (wr = w1)) (fun v _ => o.size - (intOf v).toNat)
      case atStart => exact ⟨0, Nat.zero_le _, rfl, rfl, rfl⟩
      case round =>
        obtain ⟨k, hk, rfl, hA, hW⟩ := hrel
        have ew := hW.out
        subst ew
        clear hW
        by_cases hlt : k < o.size
        · have hF0 := allB_false (p := hsP) o k hlt
          have hT0 := allB_snoc (p := hsP) o k hlt hA.out
          have hF : Hid (hsP (o[k].toNat : Int) = false → allB hsP o.data.toList = false) := hF0
          have hT : Hid (hsP (o[k].toNat : Int) = true → allB hsP (o.data.toList.take (k + 1)) = true) := hT0
          clear hF0 hT0 hA
          have bd := o[k].toNat_lt
          by_cases h97 : 97 ≤ (o[k].toNat : Int)
          · by_cases h122 : (o[k].toNat : Int) ≤ 122
            · have hR := hT.out (by unfold hsP; simp; omega)
              go_wp2
              go_roundw
              case rel => exact ⟨k + 1, hlt, by go_num, hR, by first | exact rfl | exact True.intro⟩
              case measure => simp [intOf]; omega
            · have hR := hF.out (by unfold hsP; simp; omega)
              have hsp : spanP 48 57 (o[k].toNat : Int) = false := by unfold spanP; simp; omega
              have n45 : ((o[k].toNat : Int) != 45) = true := by simp; omega
              have n46 : ((o[k].toNat : Int) != 46) = true := by simp; omega
              go_wp2_with fail
              refine (D.out _ _).mono ?_
              rw [hsp]
              rintro e w2 ⟨rfl, rfl⟩
              go_wp2
              go_ret2
              have kk := HX.out
              unfold refO at kk
              rw [if_pos hR] at kk
              exact ⟨ret2_sb (congrArg Prod.fst kk) (congrArg Prod.snd kk), C1⟩
          · cases hsp : spanP 48 57 (o[k].toNat : Int)
            · by_cases h45 : (o[k].toNat : Int) = 45
              · have hR := hT.out (by unfold hsP; simp; omega)
                have n45 : ((o[k].toNat : Int) != 45) = false := by simp; omega
                clear h45
                go_wp2_with fail
                refine (D.out _ _).mono ?_
                rw [hsp]
                rintro e w2 ⟨rfl, rfl⟩
                go_wp2
                go_roundw
                case rel => exact ⟨k + 1, hlt, by go_num, hR, by first | exact rfl | exact True.intro⟩
                case measure => simp [intOf]; omega
              · by_cases h46 : (o[k].toNat : Int) = 46
                · have hR := hT.out (by unfold hsP; simp; omega)
                  have n45 : ((o[k].toNat : Int) != 45) = true := by simp; omega
                  have n46 : ((o[k].toNat : Int) != 46) = false := by simp; omega
                  clear h45 h46
                  go_wp2_with fail
                  refine (D.out _ _).mono ?_
                  rw [hsp]
                  rintro e w2 ⟨rfl, rfl⟩
                  go_wp2
                  go_roundw
                  case rel => exact ⟨k + 1, hlt, by go_num, hR, by first | exact rfl | exact True.intro⟩
                  case measure => simp [intOf]; omega
                · have hR := hF.out (by unfold spanP at hsp; unfold hsP; simp at hsp ⊢; omega)
                  have n45 : ((o[k].toNat : Int) != 45) = true := by simp; omega
                  have n46 : ((o[k].toNat : Int) != 46) = true := by simp; omega
                  clear h45 h46
                  go_wp2_with fail
                  refine (D.out _ _).mono ?_
                  rw [hsp]
                  rintro e w2 ⟨rfl, rfl⟩
                  go_wp2
                  go_ret2
                  have kk := HX.out
                  unfold refO at kk
                  rw [if_pos hR] at kk
                  exact ⟨ret2_sb (congrArg Prod.fst kk) (congrArg Prod.snd kk), C1⟩
            · have hR := hT.out (by unfold spanP at hsp; unfold hsP; simp at hsp ⊢; omega)
              go_wp2_with fail
              refine (D.out _ _).mono ?_
              rw [hsp]
              rintro e w2 ⟨rfl, rfl⟩
              go_wp2
              go_roundw
              case rel => exact ⟨k + 1, hlt, by go_num, hR, by first | exact rfl | exact True.intro⟩
              case measure => simp [intOf]; omega
        · have hke : k = o.size := by omega
          subst hke
          have hR : Hid (¬ allB hsP o.data.toList = false) := by
            have q := hA.out
            rw [List.take_of_length_le (show o.data.toList.length ≤ o.size from Nat.le_refl _)] at q
            rw [Hid, q]
            decide
          clear hA
          by_cases h0 : o.size = 0
          · have h0' : (o.size : Int) = 0 := by omega
            go_wp2
            go_ret2
            have kk := HX.out
            unfold refO at kk
            rw [if_neg hR.out, if_pos h0] at kk
            exact ⟨ret2_sb (congrArg Prod.fst kk) (congrArg Prod.snd kk), C1⟩
          · have h0' : ¬ (o.size : Int) = 0 := by omega
            by_cases h6 : 64 < o.size
            · have h6' : (64 : Int) < (o.size : Int) := by omega
              go_wp2
              go_ret2
              have kk := HX.out
              unfold refO at kk
              rw [if_neg hR.out, if_neg h0, if_pos h6] at kk
              exact ⟨ret2_sb (congrArg Prod.fst kk) (congrArg Prod.snd kk), C1⟩
            · have h6' : ¬ (64 : Int) < (o.size : Int) := by omega
              go_wp2
              go_ret2
              have kk := HX.out
              unfold refO at kk
              rw [if_neg hR.out, if_neg h0, if_neg h6] at kk
              exact ⟨ret2_sb (congrArg Prod.fst kk) (congrArg Prod.snd kk), C1⟩
    · obtain ⟨i, rfl⟩ : ∃ i, j = i + 1 := ⟨j - 1, by omega⟩
      have ei : (((i + 1 : Nat) : Int) - 1) = (i : Int) := by omega
      rw [ei]
      clear ei hpos
      have hi : i < s.size := hj
      cases hd : spanP 48 57 (s[i].toNat : Int)
      · by_cases hc : (s[i].toNat : Int) = 58
        · have HE := fold_end (end_hit hi hD.out hd hc)
          rw [HE] at HX
          have c58 : ((s[i].toNat : Int) == 58) = true := by simp; omega
          clear HE hD hc
          go_wp2_with fail
          refine (D.out _ _).mono ?_
          rw [hd]
          rintro e w2 ⟨rfl, rfl⟩
          go_wp2_with fail
          refine (HF.out _ _).mono ?_
          rintro e w1 ⟨rfl, C1⟩
          have hz := HZ.out i
          generalize foldS (s.extract 0 i) = o at *
          clear HF HZ HG HY
          go_wp2_with fail
          go_loopw [7] (fun v wr => ∃ k : Nat, k ≤ o.size ∧ v = .int .i64 k ∧ Hid (allB hsP (o.data.toList.take k) = true) ∧ Hid (wr = w1)) (fun v _ => o.size - (intOf v).toNat)
          case atStart => exact ⟨0, Nat.zero_le _, rfl, rfl, rfl⟩
          case round =>
            obtain ⟨k, hk, rfl, hA, hW⟩ := hrel
            have ew := hW.out
            subst ew
            clear hW
            by_cases hlt : k < o.size
            · have hF0 := allB_false (p := hsP) o k hlt
              have hT0 := allB_snoc (p := hsP) o k hlt hA.out
              have hF : Hid (hsP (o[k].toNat : Int) = false → allB hsP o.data.toList = false) := hF0
              have hT : Hid (hsP (o[k].toNat : Int) = true → allB hsP (o.data.toList.take (k + 1)) = true) := hT0
              clear hF0 hT0 hA
              have bd := o[k].toNat_lt
              by_cases h97 : 97 ≤ (o[k].toNat : Int)
              · by_cases h122 : (o[k].toNat : Int) ≤ 122
                · have hR := hT.out (by unfold hsP; simp; omega)
                  go_wp2
                  go_roundw
                  case rel => exact ⟨k + 1, hlt, by go_num, hR, by first | exact rfl | exact True.intro⟩
                  case measure => simp [intOf]; omega
                · have hR := hF.out (by unfold hsP; simp; omega)
                  have hsp : spanP 48 57 (o[k].toNat : Int) = false := by unfold spanP; simp; omega
                  have n45 : ((o[k].toNat : Int) != 45) = true := by simp; omega
                  have n46 : ((o[k].toNat : Int) != 46) = true := by simp; omega
                  go_wp2_with fail
                  refine (D.out _ _).mono ?_
                  rw [hsp]
                  rintro e w2 ⟨rfl, rfl⟩
                  go_wp2
                  go_ret2
                  have kk := HX.out
                  unfold refO at kk
                  rw [if_pos hR] at kk
                  exact ⟨ret2_sb (congrArg Prod.fst kk) (congrArg Prod.snd kk), C1⟩
              · cases hsp : spanP 48 57 (o[k].toNat : Int)
                · by_cases h45 : (o[k].toNat : Int) = 45
                  · have hR := hT.out (by unfold hsP; simp; omega)
                    have n45 : ((o[k].toNat : Int) != 45) = false := by simp; omega
                    clear h45
                    go_wp2_with fail
                    refine (D.out _ _).mono ?_
                    rw [hsp]
                    rintro e w2 ⟨rfl, rfl⟩
                    go_wp2
                    go_roundw
                    case rel => exact ⟨k + 1, hlt, by go_num, hR, by first | exact rfl | exact True.intro⟩
                    case measure => simp [intOf]; omega
                  · by_cases h46 : (o[k].toNat : Int) = 46
                    · have hR := hT.out (by unfold hsP; simp; omega)
                      have n45 : ((o[k].toNat : Int) != 45) = true := by simp; omega
                      have n46 : ((o[k].toNat : Int) != 46) = false := by simp; omega
                      clear h45 h46
                      go_wp2_with fail
                      refine (D.out _ _).mono ?_
                      rw [hsp]
                      rintro e w2 ⟨rfl, rfl⟩
                      go_wp2
                      go_roundw
                      case rel => exact ⟨k + 1, hlt, by go_num, hR, by first | exact rfl | exact True.intro⟩
                      case measure => simp [intOf]; omega
                    · have hR := hF.out (by unfold spanP at hsp; unfold hsP; simp at hsp ⊢; omega)
                      have n45 : ((o[k].toNat : Int) != 45) = true := by simp; omega
                      have n46 : ((o[k].toNat : Int) != 46) = true := by simp; omega
                      clear h45 h46
                      go_wp2_with fail
                      refine (D.out _ _).mono ?_
                      rw [hsp]
                      rintro e w2 ⟨rfl, rfl⟩
                      go_wp2
                      go_ret2
                      have kk := HX.out
                      unfold refO at kk
                      rw [if_pos hR] at kk
                      exact ⟨ret2_sb (congrArg Prod.fst kk) (congrArg Prod.snd kk), C1⟩
                · have hR := hT.out (by unfold spanP at hsp; unfold hsP; simp at hsp ⊢; omega)
                  go_wp2_with fail
                  refine (D.out _ _).mono ?_
                  rw [hsp]
                  rintro e w2 ⟨rfl, rfl⟩
                  go_wp2
                  go_roundw
                  case rel => exact ⟨k + 1, hlt, by go_num, hR, by first | exact rfl | exact True.intro⟩
                  case measure => simp [intOf]; omega
            · have hke : k = o.size := by omega
              subst hke
              have hR : Hid (¬ allB hsP o.data.toList = false) := by
                have q := hA.out
                rw [List.take_of_length_le (show o.data.toList.length ≤ o.size from Nat.le_refl _)] at q
                rw [Hid, q]
                decide
              clear hA
              by_cases h0 : o.size = 0
              · have h0' : (o.size : Int) = 0 := by omega
                go_wp2
                go_ret2
                have kk := HX.out
                unfold refO at kk
                rw [if_neg hR.out, if_pos h0] at kk
                exact ⟨ret2_sb (congrArg Prod.fst kk) (congrArg Prod.snd kk), C1⟩
              · have h0' : ¬ (o.size : Int) = 0 := by omega
                by_cases h6 : 64 < o.size
                · have h6' : (64 : Int) < (o.size : Int) := by omega
                  go_wp2
                  go_ret2
                  have kk := HX.out
                  unfold refO at kk
                  rw [if_neg hR.out, if_neg h0, if_pos h6] at kk
                  exact ⟨ret2_sb (congrArg Prod.fst kk) (congrArg Prod.snd kk), C1⟩
                · have h6' : ¬ (64 : Int) < (o.size : Int) := by omega
                  go_wp2
                  go_ret2
                  have kk := HX.out
                  unfold refO at kk
                  rw [if_neg hR.out, if_neg h0, if_neg h6] at kk
                  exact ⟨ret2_sb (congrArg Prod.fst kk) (congrArg Prod.snd kk), C1⟩
        · have HE := fold_whole (end_miss hi hD.out hd hc)
          rw [HE] at HX
          have c58 : ((s[i].toNat : Int) == 58) = false := by simp; omega
          clear HE hD hc
          go_wp2_with fail
          refine (D.out _ _).mono ?_
          rw [hd]
          rintro e w2 ⟨rfl, rfl⟩
          go_wp2_with fail
          refine (HG.out _).mono ?_
          rintro e w1 ⟨rfl, C1⟩
          have hz := HY.out
          generalize foldS s = o at *
          clear HF HZ HG HY
          go_wp2_with fail
          go_loopw [7] (fun v wr => ∃ k : Nat, k ≤ o.size ∧ v = .int .i64 k ∧ Hid (allB hsP (o.data.toList.take k) = true) ∧ Hid (wr = w1)) (fun v _ => o.size - (intOf v).toNat)
          case atStart => exact ⟨0, Nat.zero_le _, rfl, rfl, rfl⟩
          case round =>
            obtain ⟨k, hk, rfl, hA, hW⟩ := hrel
            have ew := hW.out
            subst ew
            clear hW
            by_cases hlt : k < o.size
            · have hF0 := allB_false (p := hsP) o k hlt
              have hT0 := allB_snoc (p := hsP) o k hlt hA.out
              have hF : Hid (hsP (o[k].toNat : Int) = false → allB hsP o.data.toList = false) := hF0
              have hT : Hid (hsP (o[k].toNat : Int) = true → allB hsP (o.data.toList.take (k + 1)) = true) := hT0
              clear hF0 hT0 hA
              have bd := o[k].toNat_lt
              by_cases h97 : 97 ≤ (o[k].toNat : Int)
              · by_cases h122 : (o[k].toNat : Int) ≤ 122
                · have hR := hT.out (by unfold hsP; simp; omega)
                  go_wp2
                  go_roundw
                  case rel => exact ⟨k + 1, hlt, by go_num, hR, by first | exact rfl | exact True.intro⟩
                  case measure => simp [intOf]; omega
                · have hR := hF.out (by unfold hsP; simp; omega)
                  have hsp : spanP 48 57 (o[k].toNat : Int) = false := by unfold spanP; simp; omega
                  have n45 : ((o[k].toNat : Int) != 45) = true := by simp; omega
                  have n46 : ((o[k].toNat : Int) != 46) = true := by simp; omega
                  go_wp2_with fail
                  refine (D.out _ _).mono ?_
                  rw [hsp]
                  rintro e w2 ⟨rfl, rfl⟩
                  go_wp2
                  go_ret2
                  have kk := HX.out
                  unfold refO at kk
                  rw [if_pos hR] at kk
                  exact ⟨ret2_sb (congrArg Prod.fst kk) (congrArg Prod.snd kk), C1⟩
              · cases hsp : spanP 48 57 (o[k].toNat : Int)
                · by_cases h45 : (o[k].toNat : Int) = 45
                  · have hR := hT.out (by unfold hsP; simp; omega)
                    have n45 : ((o[k].toNat : Int) != 45) = false := by simp; omega
                    clear h45
                    go_wp2_with fail
                    refine (D.out _ _).mono ?_
                    rw [hsp]
                    rintro e w2 ⟨rfl, rfl⟩
                    go_wp2
                    go_roundw
                    case rel => exact ⟨k + 1, hlt, by go_num, hR, by first | exact rfl | exact True.intro⟩
                    case measure => simp [intOf]; omega
                  · by_cases h46 : (o[k].toNat : Int) = 46
                    · have hR := hT.out (by unfold hsP; simp; omega)
                      have n45 : ((o[k].toNat : Int) != 45) = true := by simp; omega
                      have n46 : ((o[k].toNat : Int) != 46) = false := by simp; omega
                      clear h45 h46
                      go_wp2_with fail
                      refine (D.out _ _).mono ?_
                      rw [hsp]
                      rintro e w2 ⟨rfl, rfl⟩
                      go_wp2
                      go_roundw
                      case rel => exact ⟨k + 1, hlt, by go_num, hR, by first | exact rfl | exact True.intro⟩
                      case measure => simp [intOf]; omega
                    · have hR := hF.out (by unfold spanP at hsp; unfold hsP; simp at hsp ⊢; omega)
                      have n45 : ((o[k].toNat : Int) != 45) = true := by simp; omega
                      have n46 : ((o[k].toNat : Int) != 46) = true := by simp; omega
                      clear h45 h46
                      go_wp2_with fail
                      refine (D.out _ _).mono ?_
                      rw [hsp]
                      rintro e w2 ⟨rfl, rfl⟩
                      go_wp2
                      go_ret2
                      have kk := HX.out
                      unfold refO at kk
                      rw [if_pos hR] at kk
                      exact ⟨ret2_sb (congrArg Prod.fst kk) (congrArg Prod.snd kk), C1⟩
                · have hR := hT.out (by unfold spanP at hsp; unfold hsP; simp at hsp ⊢; omega)
                  go_wp2_with fail
                  refine (D.out _ _).mono ?_
                  rw [hsp]
                  rintro e w2 ⟨rfl, rfl⟩
                  go_wp2
                  go_roundw
                  case rel => exact ⟨k + 1, hlt, by go_num, hR, by first | exact rfl | exact True.intro⟩
                  case measure => simp [intOf]; omega
            · have hke : k = o.size := by omega
              subst hke
              have hR : Hid (¬ allB hsP o.data.toList = false) := by
                have q := hA.out
                rw [List.take_of_length_le (show o.data.toList.length ≤ o.size from Nat.le_refl _)] at q
                rw [Hid, q]
                decide
              clear hA
              by_cases h0 : o.size = 0
              · have h0' : (o.size : Int) = 0 := by omega
                go_wp2
                go_ret2
                have kk := HX.out
                unfold refO at kk
                rw [if_neg hR.out, if_pos h0] at kk
                exact ⟨ret2_sb (congrArg Prod.fst kk) (congrArg Prod.snd kk), C1⟩
              · have h0' : ¬ (o.size : Int) = 0 := by omega
                by_cases h6 : 64 < o.size
                · have h6' : (64 : Int) < (o.size : Int) := by omega
                  go_wp2
                  go_ret2
                  have kk := HX.out
                  unfold refO at kk
                  rw [if_neg hR.out, if_neg h0, if_pos h6] at kk
                  exact ⟨ret2_sb (congrArg Prod.fst kk) (congrArg Prod.snd kk), C1⟩
                · have h6' : ¬ (64 : Int) < (o.size : Int) := by omega
                  go_wp2
                  go_ret2
                  have kk := HX.out
                  unfold refO at kk
                  rw [if_neg hR.out, if_neg h0, if_neg h6] at kk
                  exact ⟨ret2_sb (congrArg Prod.fst kk) (congrArg Prod.snd kk), C1⟩
      · have hN : Hid (DigF s i) := digF_pre hD.out hi hd
        go_wp2_with fail
        refine (D.out _ _).mono ?_
        rw [hd]
        rintro e w2 ⟨rfl, rfl⟩
        clear HF HZ HG HY HX D hD
        go_wp2
        go_roundw
        case rel => exact ⟨i, Nat.le_of_lt hi, rfl, hN, by first | exact rfl | exact True.intro⟩
        case measure => simp [intOf]
end Go.Proofs.YthbjdbookiejeacGreatDoor
