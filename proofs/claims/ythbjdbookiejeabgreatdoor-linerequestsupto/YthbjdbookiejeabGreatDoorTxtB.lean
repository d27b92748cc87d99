/- Trim and Split: what each answers of every text. -/
import Derived.Test.YthbjdbookiejeabGreatDoorTxtA
import Derived.Test.YthbjdbookiejeabGreatDoorTxtT
import Derived.Test.YthbjdbookiejeabGreatDoorShSplit
namespace Go.Proofs.YthbjdbookiejeabGreatDoor
open Go.RowKit
set_option linter.unusedVariables false

/-- The parts of a list. -/
def comma : ByteArray := ⟨#[44]⟩
def pieces (s : ByteArray) : List ByteArray := Lib.splitB ⟨#[44]⟩ 0 (Lib.countB s ⟨#[44]⟩) s
def keepT (ps : List ByteArray) : List ByteArray := (ps.map trimT).filter fun p => !decide (p.size = 0)
theorem keepT_snoc (ps : List ByteArray) (p : ByteArray) : keepT (ps ++ [p]) = keepT ps ++ (if (trimT p).size = 0 then [] else [trimT p]) := by
  unfold keepT
  rw [List.map_append, List.filter_append]
  congr 1
  by_cases h : (trimT p).size = 0
  · rw [if_pos h]
    simp only [List.map_cons, List.map_nil, List.filter_cons, List.filter_nil, decide_eq_true h, Bool.not_true, Bool.false_eq_true, if_false]
  · rw [if_neg h]
    simp only [List.map_cons, List.map_nil, List.filter_cons, List.filter_nil, decide_eq_false h, Bool.not_false, if_true]
theorem keepT_len (ps : List ByteArray) : (keepT ps).length ≤ ps.length := by
  unfold keepT
  refine Nat.le_trans (List.length_filter_le _ _) ?_
  rw [List.length_map]; exact Nat.le_refl _

theorem info9 : (Tryz.prog.info? 9).map (fun i => (i.zero, i.size, i.bytes)) = some (some (.string ByteArray.empty), 1, 16) := by kernel_rfl
theorem pieces_len (s : ByteArray) : (pieces s).length ≤ s.size + 2 := by
  have h1 := Lib.splitB_length_le ⟨#[44]⟩ 0 (Lib.countB s ⟨#[44]⟩) s
  have h2 : Lib.countB s ⟨#[44]⟩ ≤ s.size + 1 := Lib.count_le s.data.toList [44]
  unfold pieces; omega

set_option maxRecDepth 100000 in
set_option maxHeartbeats 4000000 in
theorem split_core (s : ByteArray) (ps : List ByteArray) (hpe : pieces s = ps) (w : World) (hs : s.size < 4294967281) (hlen : ps.length = Lib.countB s ⟨#[44]⟩ + 1) (hps : ∀ p ∈ ps, p.size ≤ 140737488355328) (hM : MaxL w) :
    Calls Tryz.prog 129 #[.string s] w fun e w' => ∃ ao cv, e = .returned (.slice ao (keepT ps).length cv) ∧ w'.ownsRow (w.heap.size + 1) 9 1 (.slice ao (keepT ps).length cv) (keepT ps).length ((keepT ps).map Value.string) ∧ Below w.heap.size w w' := by
  obtain ⟨m, hm⟩ := hM
  obtain ⟨i0, hi, hz0, hz1, hz2⟩ := info_parts info9
  have HM : Hid (w.cell? ⟨0, 0, none⟩ = some (.int .i64 m)) := hm
  have HL := pieces_len s
  rw [hpe] at HL
  have HPE : Hid (pieces s = ps) := hpe
  clear hm hpe
  go_enter Tryz.func129, Tryz.ntmps129
  go_wp2_with fail
  refine (Tryz.strings_Split s ⟨#[44]⟩ m _ hs HM.out (by decide)).mono ?_
  rw [← hlen]
  rintro e w1 ⟨rfl, hw1⟩
  have hpc : w1.heap[w.heap.size]? = some (.cells (ps.map Value.string).toArray 9) := by rw [hw1, ← HPE.out]; exact tblk_new _ _
  have hB1 : Below w.heap.size w w1 := by rw [hw1]; exact (Below.refl _ _).alloc (Nat.le_refl _) _
  have hs1 : w.heap.size + 1 ≤ w1.heap.size := by rw [hw1]; simp
  clear hw1 HM hlen HPE
  go_wp2_with fail
  go_loopw [3, 9] (fun v vi wr => ∃ (k : Nat) (ao : Option Addr) (cv : Nat), k ≤ ps.length ∧ vi = .int .i64 k ∧ v = .slice ao (keepT (ps.take k)).length cv ∧ wr.ownsRow (w.heap.size + 1) 9 1 v (keepT (ps.take k)).length ((keepT (ps.take k)).map Value.string) ∧ wr.heap[w.heap.size]? = some (.cells (ps.map Value.string).toArray 9) ∧ w.heap.size + 1 ≤ wr.heap.size ∧ Below w.heap.size w wr) (fun _ vi _ => ps.length - (intOf vi).toNat)
  case atStart => exact ⟨0, none, 0, Nat.zero_le _, rfl, rfl, World.ownsRow_nil _ _ _ _, hpc, hs1, hB1⟩
  case round =>
    obtain ⟨k, ao, cv, hk, rfl, rfl, hown, hpr, hsr, hB⟩ := hrel
    clear hpc hs1 hB1
    by_cases hlt : k < ps.length
    · have hcell : wr.cell? ⟨w.heap.size, k, none⟩ = some (.string ps[k]) := tblk_cell hpr (by rw [List.getElem?_toArray, List.getElem?_map, List.getElem?_eq_getElem hlt]; rfl)
      have hp := hps ps[k] (List.getElem_mem hlt)
      have hsn : Hid (keepT (ps.take (k + 1)) = keepT (ps.take k) ++ (if (trimT ps[k]).size = 0 then [] else [trimT ps[k]])) := by
        rw [Hid, List.take_succ_eq_append_getElem hlt, keepT_snoc]
      have hkl : (keepT (ps.take k)).length ≤ k := Nat.le_trans (keepT_len _) (List.length_take_le _ _)
      generalize ps[k] = p at *
      go_wp2_with fail
      refine (trim_any p _ hp).mono ?_
      rintro e w2 ⟨rfl, B2⟩
      have hown2 := owns_below hown B2
      have hpr2 := tblk_below hpr B2
      have hB2 := hB.trans (B2.mono hB.size)
      have hs2 : w.heap.size + 1 ≤ w2.heap.size := Nat.le_trans hsr B2.size
      clear hown hpr hB B2 hcell
      generalize trimT p = x at *
      by_cases hz : x.size = 0
      · have hsn2 : Hid (keepT (ps.take (k + 1)) = keepT (ps.take k)) := by rw [Hid, hsn.out, if_pos hz, List.append_nil]
        have he := empty_t hz
        clear hsn
        subst he
        go_wp2
        go_roundw
        case rel => exact ⟨k + 1, ao, cv, by omega, by go_num, by rw [hsn2.out], by rw [hsn2.out]; exact hown2, hpr2, hs2, hB2⟩
        case measure => simp [intOf]; omega
      · have hsn2 : Hid (keepT (ps.take (k + 1)) = keepT (ps.take k) ++ [x]) := by rw [Hid, hsn.out, if_neg hz]
        have hne := isEmpty_t hz
        clear hsn hz
        have hkn : (keepT (ps.take k)).length ≤ 4294967283 := by omega
        generalize keepT (ps.take k) = K at *
        go_wp2_with (first
          | (at_builtin; refine wpList_append_own _ rfl _ _ 39 rfl (w.heap.size + 1) 9 i0 (.string ByteArray.empty) 1 16 Tryz.underlying39 hi hz0 hz1 hz2 rfl (by decide) _ _ _ rfl (hown2.alloc _) ⟨w2.heap.size, 0, none⟩ 1 1 [.string x] rfl rfl (cell_one_new _ _ _) (fun x hx => by simp at hx; subst hx; rfl) (by unfold maxLen; omega) (by omega) (by simp; omega) ?_; intro v' w3 hown' hgrow3 hnil3))
        go_roundw
        case rel =>
          obtain ⟨g3, cap3, hv3⟩ : ∃ g3 cap3, v' = .slice (some ⟨g3, 0, none⟩) (K.length + 1) cap3 := by
            rcases hown'.2 with ⟨_, h⟩ | ⟨g3, cap3, _, h, _⟩
            · omega
            · exact ⟨g3, cap3, h⟩
          have hb3 : Below (w.heap.size + 1) w2 w3 := ((Below.refl _ _).alloc hs2 _).grown hgrow3 (by simp; omega) (fun q hq => (hown2.lt q hq).1)
          exact ⟨k + 1, some ⟨g3, 0, none⟩, cap3, by omega, by go_num, by rw [hv3, hsn2.out, List.length_append]; rfl, by rw [hsn2.out, List.map_append, List.length_append]; exact hown', (hb3.block _ (Nat.lt_succ_self _)).trans hpr2, Nat.le_trans hs2 hb3.size, hB2.trans (hb3.mono (Nat.le_succ _))⟩
        case measure => simp [intOf]; omega
    · go_wp2
      go_ret
      have hk' : k = ps.length := by omega
      subst hk'
      rw [List.take_length] at *
      exact ⟨ao, cv, rfl, hown, hB⟩

theorem split_any (s : ByteArray) (w : World) (hs : s.size < 4294967281) (hlen : (pieces s).length = Lib.countB s ⟨#[44]⟩ + 1) (hps : ∀ p ∈ pieces s, p.size ≤ 140737488355328) (hM : MaxL w) :
    Calls Tryz.prog 129 #[.string s] w fun e w' => ∃ ao cv, e = .returned (.slice ao (keepT (pieces s)).length cv) ∧ w'.ownsRow (w.heap.size + 1) 9 1 (.slice ao (keepT (pieces s)).length cv) (keepT (pieces s)).length ((keepT (pieces s)).map Value.string) ∧ Below w.heap.size w w' :=
  split_core s (pieces s) rfl w hs hlen hps hM
end Go.Proofs.YthbjdbookiejeabGreatDoor
