/- Trim and Clone: what each answers of every text; the library's variable that a search may look at. -/
import Derived.Test.YtflgjhknobnnaabDoorBase
import Derived.Test.YtflgjhknobnnaabDoorShTrim
import Derived.Test.YtflgjhknobnnaabDoorShClone
import Derived.WalkSpells
import Derived.WalkLawsBesides
import Derived.Lib.Walk
import Derived.Lib.ItoaMem
import Derived.Laws.IdiomStrings
namespace Go.Proofs.YtflgjhknobnnaabDoor
open Go.RowKit
set_option linter.unusedVariables false

/-- A text without blanks at its ends. -/
def trimP (l : List UInt8) : List UInt8 := Lib.trimS l [32, 9]
def trimT (s : ByteArray) : ByteArray := ⟨(trimP s.data.toList).toArray⟩
theorem dropWhile_len (p : UInt8 → Bool) : ∀ l : List UInt8, (l.dropWhile p).length ≤ l.length
  | [] => Nat.le_refl _
  | b :: l => by
    rw [List.dropWhile_cons]
    split
    · have := dropWhile_len p l; rw [List.length_cons]; omega
    · exact Nat.le_refl _
theorem trimP_len (l : List UInt8) : (trimP l).length ≤ l.length := by
  unfold trimP Lib.trimS Lib.trimLeftS Lib.trimRightS
  refine Nat.le_trans (dropWhile_len _ _) ?_
  rw [List.length_reverse]
  refine Nat.le_trans (dropWhile_len _ _) ?_
  rw [List.length_reverse]; exact Nat.le_refl _
theorem trimT_size (s : ByteArray) : (trimT s).size ≤ s.size := trimP_len s.data.toList

theorem clone_any (s : ByteArray) (w : World) (hs : s.size ≤ 281474976710656) : Calls Tryd.prog 28 #[.string s] w fun e w' => e = .returned (.string s) ∧ Below w.heap.size w w' := by
  go_enter Tryd.func28, Tryd.ntmps28
  go_wp2_with fail
  refine (Tryd.stringslite_Clone s _ hs).mono ?_
  rintro e w1 ⟨rfl, B1⟩
  go_wp2
  go_ret
  exact ⟨rfl, B1⟩
theorem trim_any (s : ByteArray) (w : World) (hs : s.size ≤ 140737488355328) : Calls Tryd.prog 39 #[.string s] w fun e w' => e = .returned (.string (trimT s)) ∧ Below w.heap.size w w' := by
  have H1 : Hid (s.size ≤ 9223372036854775807) := by rw [Hid]; omega
  have H2 : Hid ((trimT s).size ≤ 281474976710656) := by rw [Hid]; have := trimT_size s; omega
  clear hs
  go_enter Tryd.func39, Tryd.ntmps39
  go_wp2_with fail
  refine (Tryd.strings_Trim_laid s ⟨#[32, 9]⟩ _ H1.out (by decide) (ascii_of_all (by decide))).mono ?_
  rintro e w1 ⟨rfl, B1⟩
  go_wp2_with fail
  refine (clone_any (trimT s) _ H2.out).mono ?_
  rintro e w2 ⟨rfl, B2⟩
  go_wp2
  go_ret
  exact ⟨rfl, B1.trans (B2.mono B1.size)⟩

theorem owns_below {w w' : World} {base : Nat} {e : TypeId} {size : Nat} {v : Value} {n : Nat} {xs : List Value} (h : w.ownsRow base e size v n xs) (b : Below w.heap.size w w') : w'.ownsRow base e size v n xs := by
  obtain ⟨h1, h2⟩ := h
  refine ⟨h1, ?_⟩
  rcases h2 with h2 | ⟨g, cap, cur, hv, hg, hh, r⟩
  · exact .inl h2
  · exact .inr ⟨g, cap, cur, hv, hg, (b.block g (Array.getElem?_eq_some_iff.1 hh).1).trans hh, r⟩
theorem tblk_cell {w : World} {b i : Nat} {c : Array Value} {t : TypeId} {v : Value} (h : w.heap[b]? = some (.cells c t)) (hv : c[i]? = some v) : w.cell? ⟨b, i, none⟩ = some v := by
  simp [World.cell?, h, hv]
theorem tblk_new (w : World) (o : Obj) : (w.alloc o).heap[w.heap.size]? = some o := by
  show (w.heap.push o)[w.heap.size]? = _; simp
theorem tblk_below {w w' : World} {b : Nat} {o : Obj} (h : w.heap[b]? = some o) (k : Below w.heap.size w w') : w'.heap[b]? = some o := (k.block b (Array.getElem?_eq_some_iff.1 h).1).trans h
theorem isEmpty_t {s : ByteArray} (h : ¬ s.size = 0) : s.toList.isEmpty = false := by
  rw [ByteArray.toList_eq, List.isEmpty_eq_false_iff]
  intro e
  exact h (congrArg List.length e)
theorem empty_t {s : ByteArray} (h : s.size = 0) : s = ⟨#[]⟩ := by
  obtain ⟨⟨l⟩⟩ := s
  cases l with
  | nil => rfl
  | cons a l => exact absurd (show (a :: l).length = 0 from h) (by simp)

/-- The library's variable that a search may look at holds some number. -/
def MaxL (w : World) : Prop := ∃ m, w.cell? ⟨0, 0, none⟩ = some (.int .i64 m)
theorem MaxL.lt {w : World} (h : MaxL w) : 0 < w.heap.size := by
  obtain ⟨m, h⟩ := h
  unfold World.cell? at h
  rcases Nat.lt_or_ge 0 w.heap.size with c | c
  · exact c
  · simp [Array.getElem?_eq_none c] at h
theorem MaxL.below {w w' : World} (h : MaxL w) (b : Below w.heap.size w w') : MaxL w' := by
  have k := h.lt
  obtain ⟨m, h⟩ := h
  exact ⟨m, (b.cell (p := ⟨0, 0, none⟩) k).trans h⟩
end Go.Proofs.YtflgjhknobnnaabDoor
