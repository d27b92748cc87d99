/- The reference's Fold. -/
import Derived.Test.YthbjdbookiejeacGreatDoorTxtF
import Derived.Test.YthbjdbookiejeacGreatDoorTxtK
namespace Go.Proofs.YthbjdbookiejeacGreatDoor
open Go.RowKit
set_option linter.unusedVariables false

theorem info5 : (Tryz.prog.info? 5).map (fun i => (i.zero, i.size, i.bytes)) = some (some (.int .u8 0), 1, 1) := by kernel_rfl
theorem owns_bytes {w : World} {base g cv : Nat} {l : List UInt8} (h : w.ownsRow base 5 1 (.slice (some ⟨g, 0, none⟩) l.length cv) l.length (l.map bvT)) :
    (convert 24 9 (.slice (some ⟨g, 0, none⟩) l.length cv)).run Tryz.prog w = .ok (.string ⟨l.toArray⟩) w :=
  run_convert_bytes_back (P := Tryz.prog) w 24 9 5 ⟨g, 0, none⟩ cv l Tryz.underlying24 Tryz.underlying5 Tryz.underlying9 (fun j hj => by
    rw [Lib.add_plain, Nat.zero_add]
    have k := h.cellAt j (by omega)
    rw [k, List.getElem?_map, List.getElem?_eq_getElem hj]; rfl)
theorem lit0 (w : World) (e : TypeId) : (w.alloc (.cells #[] e)).ownsRow w.heap.size e 1 (.slice (some ⟨w.heap.size, 0, none⟩) 0 0) 0 [] :=
  ⟨rfl, .inr ⟨w.heap.size, 0, #[], rfl, Nat.le_refl _, tblk_new _ _, Nat.le_refl _, by decide, rfl, rfl⟩⟩
theorem foldL_snoc (l : List UInt8) (k : Nat) (h : k < l.length) : (foldL (l.take (k + 1))).map bvT = (foldL (l.take k)).map bvT ++ [bvT (foldB l[k])] := by
  unfold foldL
  rw [List.take_succ_eq_append_getElem h, List.map_append, List.map_append]; rfl
theorem foldL_length (l : List UInt8) (k : Nat) (h : k ≤ l.length) : (foldL (l.take k)).length = k := by simp [foldL]; omega

set_option maxRecDepth 100000 in
set_option maxHeartbeats 4000000 in
theorem rfold_any (s : ByteArray) (w : World) (hs : s.size ≤ 4294967281) : Calls Tryz.prog 25 #[.string s] w fun e w' => e = .returned (.string (foldS s)) ∧ Below w.heap.size w w' := by
  obtain ⟨i0, hi, hz0, hz1, hz2⟩ := info_parts info5
  have hlen : s.data.toList.length = s.size := rfl
  have HL : Hid (s.data.toList.length = s.size) := hlen
  clear hlen
  go_enter Tryz.func25, Tryz.ntmps25
  go_wp2_with fail
  go_loopw [3, 4] (fun v vi wr => ∃ k g cv : Nat, k ≤ s.size ∧ vi = .int .i64 k ∧ v = .slice (some ⟨g, 0, none⟩) k cv ∧ Hid (wr.ownsRow w.heap.size 5 1 v k ((foldL (s.data.toList.take k)).map bvT)) ∧ Below w.heap.size w wr) (fun _ vi _ => s.size - (intOf vi).toNat)
  case atStart => exact ⟨0, w.heap.size, 0, Nat.zero_le _, rfl, rfl, lit0 w 5, (Below.refl _ _).alloc (Nat.le_refl _) _⟩
  case round =>
    obtain ⟨k, g, cv, hk, rfl, rfl, hown, hB⟩ := hrel
    by_cases hlt : k < s.size
    · have hsn : Hid ((foldL (s.data.toList.take (k + 1))).map bvT = (foldL (s.data.toList.take k)).map bvT ++ [bvT (foldB s[k])]) := foldL_snoc _ k hlt
      have bd := s[k].toNat_lt
      by_cases h1 : 65 ≤ (s[k].toNat : Int)
      · by_cases h2 : (s[k].toNat : Int) ≤ 90
        · rw [foldB_yes h1 h2] at hsn
          generalize (foldL (s.data.toList.take k)).map bvT = K at *
          go_wp2_with (first
            | (at_builtin; refine wpList_append_own _ rfl _ _ 24 rfl w.heap.size 5 i0 (.int .u8 0) 1 1 Tryz.underlying24 hi hz0 hz1 hz2 rfl (by decide) _ _ _ rfl (hown.out.alloc _) ⟨wr.heap.size, 0, none⟩ 1 1 [.int .u8 ((s[k].toNat : Int) + 32)] rfl rfl (cell_one_new _ _ _) (fun x hx => by simp at hx; subst hx; rfl) (by unfold maxLen; omega) (by omega) (by have := hB.size; simp; omega) ?_; intro v' w3 hown' hgrow3 hnil3))
          go_roundw
          case rel =>
            obtain ⟨g3, cap3, hv3⟩ : ∃ g3 cap3, v' = .slice (some ⟨g3, 0, none⟩) (k + 1) cap3 := by
              rcases hown'.2 with ⟨_, h⟩ | ⟨g3, cap3, _, h, _⟩
              · omega
              · exact ⟨g3, cap3, h⟩
            have hb3 : Below w.heap.size wr w3 := ((Below.refl _ _).alloc hB.size _).grown hgrow3 (by have := hB.size; simp; omega) (fun q hq => (hown.out.lt q hq).1)
            exact ⟨k + 1, g3, cap3, by omega, by go_num, hv3, by rw [hsn.out]; exact hown', hB.trans hb3⟩
          case measure => simp [intOf]; omega
        · have hno : ¬ (65 ≤ (s[k].toNat : Int) ∧ (s[k].toNat : Int) ≤ 90) := fun h => h2 h.2
          rw [foldB_no hno] at hsn
          clear hno
          generalize (foldL (s.data.toList.take k)).map bvT = K at *
          go_wp2_with (first
            | (at_builtin; refine wpList_append_own _ rfl _ _ 24 rfl w.heap.size 5 i0 (.int .u8 0) 1 1 Tryz.underlying24 hi hz0 hz1 hz2 rfl (by decide) _ _ _ rfl (hown.out.alloc _) ⟨wr.heap.size, 0, none⟩ 1 1 [.int .u8 (s[k].toNat : Int)] rfl rfl (cell_one_new _ _ _) (fun x hx => by simp at hx; subst hx; rfl) (by unfold maxLen; omega) (by omega) (by have := hB.size; simp; omega) ?_; intro v' w3 hown' hgrow3 hnil3))
          go_roundw
          case rel =>
            obtain ⟨g3, cap3, hv3⟩ : ∃ g3 cap3, v' = .slice (some ⟨g3, 0, none⟩) (k + 1) cap3 := by
              rcases hown'.2 with ⟨_, h⟩ | ⟨g3, cap3, _, h, _⟩
              · omega
              · exact ⟨g3, cap3, h⟩
            have hb3 : Below w.heap.size wr w3 := ((Below.refl _ _).alloc hB.size _).grown hgrow3 (by have := hB.size; simp; omega) (fun q hq => (hown.out.lt q hq).1)
            exact ⟨k + 1, g3, cap3, by omega, by go_num, hv3, by rw [hsn.out]; exact hown', hB.trans hb3⟩
          case measure => simp [intOf]; omega
      · have hno : ¬ (65 ≤ (s[k].toNat : Int) ∧ (s[k].toNat : Int) ≤ 90) := fun h => h1 h.1
        rw [foldB_no hno] at hsn
        clear hno
        generalize (foldL (s.data.toList.take k)).map bvT = K at *
        go_wp2_with (first
          | (at_builtin; refine wpList_append_own _ rfl _ _ 24 rfl w.heap.size 5 i0 (.int .u8 0) 1 1 Tryz.underlying24 hi hz0 hz1 hz2 rfl (by decide) _ _ _ rfl (hown.out.alloc _) ⟨wr.heap.size, 0, none⟩ 1 1 [.int .u8 (s[k].toNat : Int)] rfl rfl (cell_one_new _ _ _) (fun x hx => by simp at hx; subst hx; rfl) (by unfold maxLen; omega) (by omega) (by have := hB.size; simp; omega) ?_; intro v' w3 hown' hgrow3 hnil3))
        go_roundw
        case rel =>
          obtain ⟨g3, cap3, hv3⟩ : ∃ g3 cap3, v' = .slice (some ⟨g3, 0, none⟩) (k + 1) cap3 := by
            rcases hown'.2 with ⟨_, h⟩ | ⟨g3, cap3, _, h, _⟩
            · omega
            · exact ⟨g3, cap3, h⟩
          have hb3 : Below w.heap.size wr w3 := ((Below.refl _ _).alloc hB.size _).grown hgrow3 (by have := hB.size; simp; omega) (fun q hq => (hown.out.lt q hq).1)
          exact ⟨k + 1, g3, cap3, by omega, by go_num, hv3, by rw [hsn.out]; exact hown', hB.trans hb3⟩
        case measure => simp [intOf]; omega
    · have hke : k = s.size := by omega
      subst hke
      have hcv := owns_bytes (l := foldL s.data.toList) (w := wr) (base := w.heap.size) (g := g) (cv := cv) (by
        have h := hown.out
        rw [← HL.out, List.take_length] at h
        unfold foldL at h ⊢
        rw [List.length_map]
        exact h)
      have hll : (foldL s.data.toList).length = s.size := by unfold foldL; rw [List.length_map]; exact HL.out
      rw [hll] at hcv
      clear hown hll
      go_wp2
      go_ret
      exact ⟨rfl, hB⟩

end Go.Proofs.YthbjdbookiejeacGreatDoor
