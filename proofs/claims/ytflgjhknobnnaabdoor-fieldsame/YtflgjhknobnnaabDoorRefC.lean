/- The reference's Split. -/
import Derived.Test.YtflgjhknobnnaabDoorRefB
namespace Go.Proofs.YtflgjhknobnnaabDoor
open Go.RowKit
set_option linter.unusedVariables false

set_option maxRecDepth 100000 in
set_option maxHeartbeats 4000000 in
theorem rsplit_any (s : ByteArray) (w : World) (hs : s.size ≤ 4294967281) :
    Calls Tryd.prog 31 #[.string s] w fun e w' => ∃ ao cv, e = .returned (.slice ao (keepT (pieces s)).length cv) ∧ w'.ownsRow w.heap.size 9 1 (.slice ao (keepT (pieces s)).length cv) (keepT (pieces s)).length ((keepT (pieces s)).map Value.string) ∧ Below w.heap.size w w' := by
  obtain ⟨i0, hi, hz0, hz1, hz2⟩ := info_parts info9
  go_enter Tryd.func31, Tryd.ntmps31
  go_wp2_with fail
  go_loopw [3, 4, 5] (fun v vf vi wr => ∃ (k f : Nat) (ps : List ByteArray) (ao : Option Addr) (cv : Nat), k ≤ s.size + 1 ∧ f ≤ k ∧ vi = .int .i64 k ∧ vf = .int .i64 f ∧ v = .slice ao (keepT ps).length cv ∧ (keepT ps).length ≤ k ∧ Hid (wr.ownsRow w.heap.size 9 1 v (keepT ps).length ((keepT ps).map Value.string)) ∧ Hid (k ≤ s.size → Scan s ps f k) ∧ Hid (k = s.size + 1 → ps = pieces s) ∧ Below w.heap.size w wr) (fun _ _ vi _ => s.size + 1 - (intOf vi).toNat)
  case atStart => exact ⟨0, 0, [], some ⟨w.heap.size, 0, none⟩, 0, Nat.zero_le _, Nat.le_refl _, rfl, rfl, rfl, Nat.le_refl _, lit0 w 9, fun _ => Scan.start s, (fun h => by omega), (Below.refl _ _).alloc (Nat.le_refl _) _⟩
  case round =>
    obtain ⟨k, f, ps, ao, cv, hk, hf, rfl, rfl, rfl, hkl, hown, hsc, hfi, hB⟩ := hrel
    by_cases hle : (k : Int) ≤ (s.size : Int)
    · have hex : (s.extract f k).size ≤ 140737488355328 := by rw [ByteArray.size_extract]; omega
      have HEX : Hid ((s.extract f k).size ≤ 140737488355328) := hex
      have hsn : Hid (keepT (ps ++ [s.extract f k]) = keepT ps ++ (if (trimT (s.extract f k)).size = 0 then [] else [trimT (s.extract f k)])) := keepT_snoc _ _
      clear hex
      by_cases hend : k = s.size
      · subst hend
        have HC : Hid (s.size + 1 ≤ s.size → Scan s (ps ++ [s.extract f s.size]) (s.size + 1) (s.size + 1)) := fun h => by omega
        have HF : Hid (ps ++ [s.extract f s.size] = pieces s) := by
          have h := hsc.out (by omega)
          exact h.fin
        go_wp2_with fail
        refine (rtrim_any (s.extract f s.size) _ HEX.out).mono ?_
        rintro e w2 ⟨rfl, hw2⟩
        have B2 : Below wr.heap.size wr w2 := by rw [hw2]; exact Below.refl _ _
        clear hw2
        have hown2 : Hid (w2.ownsRow w.heap.size 9 1 (.slice ao (keepT ps).length cv) (keepT ps).length ((keepT ps).map Value.string)) := owns_below hown.out B2
        have hB2 := hB.trans (B2.mono hB.size)
        clear hown B2 HEX hsc hfi
        generalize ps ++ [s.extract f s.size] = ps2 at *
        generalize trimT (s.extract f s.size) = x at *
        by_cases hz : x.size = 0
        · have hsn2 : Hid (keepT ps2 = keepT ps) := by rw [Hid, hsn.out, if_pos hz, List.append_nil]
          have he := empty_t hz
          clear hsn
          subst he
          go_wp2
          go_roundw
          case rel => exact ⟨s.size + 1, s.size + 1, ps2, ao, cv, by omega, by omega, by go_num, by go_num, by rw [hsn2.out], by rw [hsn2.out]; omega, by rw [hsn2.out]; exact hown2, HC, (fun _ => HF.out), hB2⟩
          case measure => simp [intOf]
        · have hsn2 : Hid (keepT ps2 = keepT ps ++ [x]) := by rw [Hid, hsn.out, if_neg hz]
          have hne := isEmpty_t hz
          clear hsn hz
          generalize keepT ps = K at *
          go_wp2_with (first
            | (at_builtin; refine wpList_append_own _ rfl _ _ 23 rfl w.heap.size 9 i0 (.string ByteArray.empty) 1 16 Tryd.underlying23 hi hz0 hz1 hz2 rfl (by decide) _ _ _ rfl (hown2.out.alloc _) ⟨w2.heap.size, 0, none⟩ 1 1 [.string x] rfl rfl (cell_one_new _ _ _) (fun x hx => by simp at hx; subst hx; rfl) (by unfold maxLen; omega) (by omega) (by have := hB2.size; simp; omega) ?_; intro v' w3 hown' hgrow3 hnil3))
          go_roundw
          case rel =>
            obtain ⟨g3, cap3, hv3⟩ : ∃ g3 cap3, v' = .slice (some ⟨g3, 0, none⟩) (K.length + 1) cap3 := by
              rcases hown'.2 with ⟨_, h⟩ | ⟨g3, cap3, _, h, _⟩
              · omega
              · exact ⟨g3, cap3, h⟩
            have hb3 : Below w.heap.size w2 w3 := ((Below.refl _ _).alloc hB2.size _).grown hgrow3 (by have := hB2.size; simp; omega) (fun q hq => (hown2.out.lt q hq).1)
            exact ⟨s.size + 1, s.size + 1, ps2, some ⟨g3, 0, none⟩, cap3, by omega, by omega, by go_num, by go_num, by rw [hv3, hsn2.out, List.length_append]; rfl, by rw [hsn2.out, List.length_append]; show _ + 1 ≤ _; omega, by rw [hsn2.out, List.map_append, List.length_append]; exact hown', HC, (fun _ => HF.out), hB2.trans hb3⟩
          case measure => simp [intOf]
      · have hlt : k < s.size := by omega
        have hbe : ((k : Int) == (s.size : Int)) = false := beq_eq_false_iff_ne.2 (by omega)
        by_cases hc : (s[k].toNat : Int) = 44
        · have hc2 : s[k] = 44 := UInt8.toNat_inj.1 (show s[k].toNat = 44 by omega)
          have HC : Hid (k + 1 ≤ s.size → Scan s (ps ++ [s.extract f k]) (k + 1) (k + 1)) := fun _ => (hsc.out (by omega)).cut hlt hc2
          have HF : Hid (k + 1 = s.size + 1 → ps ++ [s.extract f k] = pieces s) := fun h => by omega
          clear hc2
          go_wp2_with fail
          refine (rtrim_any (s.extract f k) _ HEX.out).mono ?_
          rintro e w2 ⟨rfl, hw2⟩
          have B2 : Below wr.heap.size wr w2 := by rw [hw2]; exact Below.refl _ _
          clear hw2
          have hown2 : Hid (w2.ownsRow w.heap.size 9 1 (.slice ao (keepT ps).length cv) (keepT ps).length ((keepT ps).map Value.string)) := owns_below hown.out B2
          have hB2 := hB.trans (B2.mono hB.size)
          clear hown B2 HEX hsc hfi
          generalize ps ++ [s.extract f k] = ps2 at *
          generalize trimT (s.extract f k) = x at *
          by_cases hz : x.size = 0
          · have hsn2 : Hid (keepT ps2 = keepT ps) := by rw [Hid, hsn.out, if_pos hz, List.append_nil]
            have he := empty_t hz
            clear hsn
            subst he
            go_wp2
            go_roundw
            case rel => exact ⟨k + 1, k + 1, ps2, ao, cv, by omega, by omega, by go_num, by go_num, by rw [hsn2.out], by rw [hsn2.out]; omega, by rw [hsn2.out]; exact hown2, HC, HF, hB2⟩
            case measure => simp [intOf]; omega
          · have hsn2 : Hid (keepT ps2 = keepT ps ++ [x]) := by rw [Hid, hsn.out, if_neg hz]
            have hne := isEmpty_t hz
            clear hsn hz
            generalize keepT ps = K at *
            go_wp2_with (first
              | (at_builtin; refine wpList_append_own _ rfl _ _ 23 rfl w.heap.size 9 i0 (.string ByteArray.empty) 1 16 Tryd.underlying23 hi hz0 hz1 hz2 rfl (by decide) _ _ _ rfl (hown2.out.alloc _) ⟨w2.heap.size, 0, none⟩ 1 1 [.string x] rfl rfl (cell_one_new _ _ _) (fun x hx => by simp at hx; subst hx; rfl) (by unfold maxLen; omega) (by omega) (by have := hB2.size; simp; omega) ?_; intro v' w3 hown' hgrow3 hnil3))
            go_roundw
            case rel =>
              obtain ⟨g3, cap3, hv3⟩ : ∃ g3 cap3, v' = .slice (some ⟨g3, 0, none⟩) (K.length + 1) cap3 := by
                rcases hown'.2 with ⟨_, h⟩ | ⟨g3, cap3, _, h, _⟩
                · omega
                · exact ⟨g3, cap3, h⟩
              have hb3 : Below w.heap.size w2 w3 := ((Below.refl _ _).alloc hB2.size _).grown hgrow3 (by have := hB2.size; simp; omega) (fun q hq => (hown2.out.lt q hq).1)
              exact ⟨k + 1, k + 1, ps2, some ⟨g3, 0, none⟩, cap3, by omega, by omega, by go_num, by go_num, by rw [hv3, hsn2.out, List.length_append]; rfl, by rw [hsn2.out, List.length_append]; show _ + 1 ≤ _; omega, by rw [hsn2.out, List.map_append, List.length_append]; exact hown', HC, HF, hB2.trans hb3⟩
            case measure => simp [intOf]; omega
        · have hc2 : s[k] ≠ 44 := fun e => hc (by rw [e]; rfl)
          have hcb : ((s[k].toNat : Int) == 44) = false := beq_eq_false_iff_ne.2 hc
          have HC : Hid (k + 1 ≤ s.size → Scan s ps f (k + 1)) := fun _ => (hsc.out (by omega)).go hlt hc2
          clear hc2
          go_wp2
          go_roundw
          case rel => exact ⟨k + 1, f, ps, ao, cv, by omega, by omega, by go_num, rfl, rfl, by omega, hown, HC, (fun h => by omega), hB⟩
          case measure => simp [intOf]; omega
    · have hke : k = s.size + 1 := by omega
      have HP := hfi.out hke
      subst HP
      go_wp2
      go_ret
      exact ⟨ao, cv, rfl, hown.out, hB⟩
end Go.Proofs.YtflgjhknobnnaabDoor
