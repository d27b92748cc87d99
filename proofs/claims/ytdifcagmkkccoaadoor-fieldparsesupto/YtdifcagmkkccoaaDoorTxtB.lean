/- Trim and Split: what each answers of every text. -/
import Derived.Test.YtdifcagmkkccoaaDoorTxtA
import Derived.Test.YtdifcagmkkccoaaDoorShelfT
namespace Go.Proofs.YtdifcagmkkccoaaDoor
open Go.RowKit
set_option linter.unusedVariables false

/-- A text without blanks at its ends. -/
def trimP (l : List UInt8) : List UInt8 := Lib.trimS l [32, 9]
def trimT (s : ByteArray) : ByteArray := ⟨(trimP s.data.toList).toArray⟩
theorem dropWhile_len (p : UInt8 → Bool) : ∀ l : List UInt8, (l.dropWhile p).length ≤ l.length
  | [] => Nat.le_refl _
  | b :: l => by
    rw [List.dropWhile_cons]
    split
    · have := dropWhile_len p l; rw [List.length_cons]; omega
    · exact Nat.le_refl _
theorem trimP_len (l : List UInt8) : (trimP l).length ≤ l.length := by
  unfold trimP Lib.trimS Lib.trimLeftS Lib.trimRightS
  refine Nat.le_trans (dropWhile_len _ _) ?_
  rw [List.length_reverse]
  refine Nat.le_trans (dropWhile_len _ _) ?_
  rw [List.length_reverse]; exact Nat.le_refl _
theorem trimT_size (s : ByteArray) : (trimT s).size ≤ s.size := trimP_len s.data.toList

theorem clone_any (s : ByteArray) (w : World) (hs : s.size ≤ 281474976710656) : Calls Tryd.prog 23 #[.string s] w fun e w' => e = .returned (.string s) ∧ Below w.heap.size w w' := by
  go_enter Tryd.func23, Tryd.ntmps23
  go_wp2_with fail
  refine (Tryd.stringslite_Clone s _ hs).mono ?_
  rintro e w1 ⟨rfl, B1⟩
  go_wp2
  go_ret
  exact ⟨rfl, B1⟩
theorem trim_any (s : ByteArray) (w : World) (hs : s.size ≤ 140737488355328) : Calls Tryd.prog 24 #[.string s] w fun e w' => e = .returned (.string (trimT s)) ∧ Below w.heap.size w w' := by
  have H1 : Hid (s.size ≤ 9223372036854775807) := by rw [Hid]; omega
  have H2 : Hid ((trimT s).size ≤ 281474976710656) := by rw [Hid]; have := trimT_size s; omega
  clear hs
  go_enter Tryd.func24, Tryd.ntmps24
  go_wp2_with fail
  refine (Tryd.strings_Trim_laid s ⟨#[32, 9]⟩ _ H1.out (by decide) (ascii_of_all (by decide))).mono ?_
  rintro e w1 ⟨rfl, B1⟩
  go_wp2_with fail
  refine (clone_any (trimT s) _ H2.out).mono ?_
  rintro e w2 ⟨rfl, B2⟩
  go_wp2
  go_ret
  exact ⟨rfl, B1.trans (B2.mono B1.size)⟩

/-- The parts of a list. -/
def comma : ByteArray := ⟨#[44]⟩
def pieces (s : ByteArray) : List ByteArray := Lib.splitB ⟨#[44]⟩ 0 (Lib.countB s ⟨#[44]⟩) s
def keepT (ps : List ByteArray) : List ByteArray := (ps.map trimT).filter fun p => !decide (p.size = 0)
theorem keepT_snoc (ps : List ByteArray) (p : ByteArray) : keepT (ps ++ [p]) = keepT ps ++ (if (trimT p).size = 0 then [] else [trimT p]) := by
  unfold keepT
  rw [List.map_append, List.filter_append]
  congr 1
  by_cases h : (trimT p).size = 0
  · rw [if_pos h]
    simp only [List.map_cons, List.map_nil, List.filter_cons, List.filter_nil, decide_eq_true h, Bool.not_true, Bool.false_eq_true, if_false]
  · rw [if_neg h]
    simp only [List.map_cons, List.map_nil, List.filter_cons, List.filter_nil, decide_eq_false h, Bool.not_false, if_true]
theorem keepT_len (ps : List ByteArray) : (keepT ps).length ≤ ps.length := by
  unfold keepT
  refine Nat.le_trans (List.length_filter_le _ _) ?_
  rw [List.length_map]; exact Nat.le_refl _

theorem owns_below {w w' : World} {base : Nat} {e : TypeId} {size : Nat} {v : Value} {n : Nat} {xs : List Value} (h : w.ownsRow base e size v n xs) (b : Below w.heap.size w w') : w'.ownsRow base e size v n xs := by
  obtain ⟨h1, h2⟩ := h
  refine ⟨h1, ?_⟩
  rcases h2 with h2 | ⟨g, cap, cur, hv, hg, hh, r⟩
  · exact .inl h2
  · exact .inr ⟨g, cap, cur, hv, hg, (b.block g (Array.getElem?_eq_some_iff.1 hh).1).trans hh, r⟩
theorem tblk_cell {w : World} {b i : Nat} {c : Array Value} {t : TypeId} {v : Value} (h : w.heap[b]? = some (.cells c t)) (hv : c[i]? = some v) : w.cell? ⟨b, i, none⟩ = some v := by
  simp [World.cell?, h, hv]
theorem tblk_new (w : World) (o : Obj) : (w.alloc o).heap[w.heap.size]? = some o := by
  show (w.heap.push o)[w.heap.size]? = _; simp
theorem tblk_below {w w' : World} {b : Nat} {o : Obj} (h : w.heap[b]? = some o) (k : Below w.heap.size w w') : w'.heap[b]? = some o := (k.block b (Array.getElem?_eq_some_iff.1 h).1).trans h
theorem isEmpty_t {s : ByteArray} (h : ¬ s.size = 0) : s.toList.isEmpty = false := by
  rw [ByteArray.toList_eq, List.isEmpty_eq_false_iff]
  intro e
  exact h (congrArg List.length e)
theorem empty_t {s : ByteArray} (h : s.size = 0) : s = ⟨#[]⟩ := by
  obtain ⟨⟨l⟩⟩ := s
  cases l with
  | nil => rfl
  | cons a l => exact absurd (show (a :: l).length = 0 from h) (by simp)

/-- The library's variable that a search may look at holds some number. -/
def MaxL (w : World) : Prop := ∃ m, w.cell? ⟨0, 0, none⟩ = some (.int .i64 m)
theorem MaxL.lt {w : World} (h : MaxL w) : 0 < w.heap.size := by
  obtain ⟨m, h⟩ := h
  unfold World.cell? at h
  rcases Nat.lt_or_ge 0 w.heap.size with c | c
  · exact c
  · simp [Array.getElem?_eq_none c] at h
theorem MaxL.below {w w' : World} (h : MaxL w) (b : Below w.heap.size w w') : MaxL w' := by
  have k := h.lt
  obtain ⟨m, h⟩ := h
  exact ⟨m, (b.cell (p := ⟨0, 0, none⟩) k).trans h⟩
theorem info9 : (Tryd.prog.info? 9).map (fun i => (i.zero, i.size, i.bytes)) = some (some (.string ByteArray.empty), 1, 16) := by kernel_rfl
theorem pieces_len (s : ByteArray) : (pieces s).length ≤ s.size + 2 := by
  have h1 := Lib.splitB_length_le ⟨#[44]⟩ 0 (Lib.countB s ⟨#[44]⟩) s
  have h2 : Lib.countB s ⟨#[44]⟩ ≤ s.size + 1 := Lib.count_le s.data.toList [44]
  unfold pieces; omega

set_option maxRecDepth 100000 in
set_option maxHeartbeats 4000000 in
theorem split_core (s : ByteArray) (ps : List ByteArray) (hpe : pieces s = ps) (w : World) (hs : s.size < 4294967281) (hlen : ps.length = Lib.countB s ⟨#[44]⟩ + 1) (hps : ∀ p ∈ ps, p.size ≤ 140737488355328) (hM : MaxL w) :
    Calls Tryd.prog 31 #[.string s] w fun e w' => ∃ ao cv, e = .returned (.slice ao (keepT ps).length cv) ∧ w'.ownsRow (w.heap.size + 1) 9 1 (.slice ao (keepT ps).length cv) (keepT ps).length ((keepT ps).map Value.string) ∧ Below w.heap.size w w' := by
  obtain ⟨m, hm⟩ := hM
  obtain ⟨i0, hi, hz0, hz1, hz2⟩ := info_parts info9
  have HM : Hid (w.cell? ⟨0, 0, none⟩ = some (.int .i64 m)) := hm
  have HL := pieces_len s
  rw [hpe] at HL
  have HPE : Hid (pieces s = ps) := hpe
  clear hm hpe
  go_enter Tryd.func31, Tryd.ntmps31
  go_wp2_with fail
  refine (Tryd.strings_Split s ⟨#[44]⟩ m _ hs HM.out (by decide)).mono ?_
  rw [← hlen]
  rintro e w1 ⟨rfl, hw1⟩
  have hpc : w1.heap[w.heap.size]? = some (.cells (ps.map Value.string).toArray 9) := by rw [hw1, ← HPE.out]; exact tblk_new _ _
  have hB1 : Below w.heap.size w w1 := by rw [hw1]; exact (Below.refl _ _).alloc (Nat.le_refl _) _
  have hs1 : w.heap.size + 1 ≤ w1.heap.size := by rw [hw1]; simp
  clear hw1 HM hlen HPE
  go_wp2_with fail
  go_loopw [3, 9] (fun v vi wr => ∃ (k : Nat) (ao : Option Addr) (cv : Nat), k ≤ ps.length ∧ vi = .int .i64 k ∧ v = .slice ao (keepT (ps.take k)).length cv ∧ wr.ownsRow (w.heap.size + 1) 9 1 v (keepT (ps.take k)).length ((keepT (ps.take k)).map Value.string) ∧ wr.heap[w.heap.size]? = some (.cells (ps.map Value.string).toArray 9) ∧ w.heap.size + 1 ≤ wr.heap.size ∧ Below w.heap.size w wr) (fun _ vi _ => ps.length - (intOf vi).toNat)
  case atStart => exact ⟨0, none, 0, Nat.zero_le _, rfl, rfl, World.ownsRow_nil _ _ _ _, hpc, hs1, hB1⟩
  case round =>
    obtain ⟨k, ao, cv, hk, rfl, rfl, hown, hpr, hsr, hB⟩ := hrel
    clear hpc hs1 hB1
    by_cases hlt : k < ps.length
    · have hcell : wr.cell? ⟨w.heap.size, k, none⟩ = some (.string ps[k]) := tblk_cell hpr (by rw [List.getElem?_toArray, List.getElem?_map, List.getElem?_eq_getElem hlt]; rfl)
      have hp := hps ps[k] (List.getElem_mem hlt)
      have hsn : Hid (keepT (ps.take (k + 1)) = keepT (ps.take k) ++ (if (trimT ps[k]).size = 0 then [] else [trimT ps[k]])) := by
        rw [Hid, List.take_succ_eq_append_getElem hlt, keepT_snoc]
      have hkl : (keepT (ps.take k)).length ≤ k := Nat.le_trans (keepT_len _) (List.length_take_le _ _)
      generalize ps[k] = p at *
      go_wp2_with fail
      refine (trim_any p _ hp).mono ?_
      rintro e w2 ⟨rfl, B2⟩
      have hown2 := owns_below hown B2
      have hpr2 := tblk_below hpr B2
      have hB2 := hB.trans (B2.mono hB.size)
      have hs2 : w.heap.size + 1 ≤ w2.heap.size := Nat.le_trans hsr B2.size
      clear hown hpr hB B2 hcell
      generalize trimT p = x at *
      by_cases hz : x.size = 0
      · have hsn2 : Hid (keepT (ps.take (k + 1)) = keepT (ps.take k)) := by rw [Hid, hsn.out, if_pos hz, List.append_nil]
        have he := empty_t hz
        clear hsn
        subst he
        go_wp2
        go_roundw
        case rel => exact ⟨k + 1, ao, cv, by omega, by go_num, by rw [hsn2.out], by rw [hsn2.out]; exact hown2, hpr2, hs2, hB2⟩
        case measure => simp [intOf]; omega
      · have hsn2 : Hid (keepT (ps.take (k + 1)) = keepT (ps.take k) ++ [x]) := by rw [Hid, hsn.out, if_neg hz]
        have hne := isEmpty_t hz
        clear hsn hz
        have hkn : (keepT (ps.take k)).length ≤ 4294967283 := by omega
        generalize keepT (ps.take k) = K at *
        go_wp2_with (first
          | (at_builtin; refine wpList_append_own _ rfl _ _ 32 rfl (w.heap.size + 1) 9 i0 (.string ByteArray.empty) 1 16 Tryd.underlying32 hi hz0 hz1 hz2 rfl (by decide) _ _ _ rfl (hown2.alloc _) ⟨w2.heap.size, 0, none⟩ 1 1 [.string x] rfl rfl (cell_one_new _ _ _) (fun x hx => by simp at hx; subst hx; rfl) (by unfold maxLen; omega) (by omega) (by simp; omega) ?_; intro v' w3 hown' hgrow3 hnil3))
        go_roundw
        case rel =>
          obtain ⟨g3, cap3, hv3⟩ : ∃ g3 cap3, v' = .slice (some ⟨g3, 0, none⟩) (K.length + 1) cap3 := by
            rcases hown'.2 with ⟨_, h⟩ | ⟨g3, cap3, _, h, _⟩
            · omega
            · exact ⟨g3, cap3, h⟩
          have hb3 : Below (w.heap.size + 1) w2 w3 := ((Below.refl _ _).alloc hs2 _).grown hgrow3 (by simp; omega) (fun q hq => (hown2.lt q hq).1)
          exact ⟨k + 1, some ⟨g3, 0, none⟩, cap3, by omega, by go_num, by rw [hv3, hsn2.out, List.length_append]; rfl, by rw [hsn2.out, List.map_append, List.length_append]; exact hown', (hb3.block _ (Nat.lt_succ_self _)).trans hpr2, Nat.le_trans hs2 hb3.size, hB2.trans (hb3.mono (Nat.le_succ _))⟩
        case measure => simp [intOf]; omega
    · go_wp2
      go_ret
      have hk' : k = ps.length := by omega
      subst hk'
      rw [List.take_length] at *
      exact ⟨ao, cv, rfl, hown, hB⟩

theorem split_any (s : ByteArray) (w : World) (hs : s.size < 4294967281) (hlen : (pieces s).length = Lib.countB s ⟨#[44]⟩ + 1) (hps : ∀ p ∈ pieces s, p.size ≤ 140737488355328) (hM : MaxL w) :
    Calls Tryd.prog 31 #[.string s] w fun e w' => ∃ ao cv, e = .returned (.slice ao (keepT (pieces s)).length cv) ∧ w'.ownsRow (w.heap.size + 1) 9 1 (.slice ao (keepT (pieces s)).length cv) (keepT (pieces s)).length ((keepT (pieces s)).map Value.string) ∧ Below w.heap.size w w' :=
  split_core s (pieces s) rfl w hs hlen hps hM
end Go.Proofs.YtdifcagmkkccoaaDoor
