/- A line's words (plain); record. -/
import Derived.Test.YtdibldocfhpnkaaDoorEnF
import Derived.Test.YtdibldocfhpnkaaDoorDecR
import Derived.Test.YtdibldocfhpnkaaDoorNmB
import Derived.Test.YtdibldocfhpnkaaDoorShSplitN
import Derived.Lib.SplitLaws
namespace Go.Proofs.YtdibldocfhpnkaaDoor
open Go.RowKit
set_option linter.unusedVariables false

def p10 (s : ByteArray) : List ByteArray := Lib.splitB ⟨#[32]⟩ 0 (min 10 (s.size + 1) - 1) s
theorem splitB_sizes (sep : ByteArray) : ∀ (k : Nat) (s : ByteArray), ∀ x ∈ Lib.splitB sep 0 k s, x.size ≤ s.size
  | 0, s, x, hx => by
    unfold Lib.splitB at hx
    simp at hx
    rw [hx]; exact Nat.le_refl _
  | k + 1, s, x, hx => by
    unfold Lib.splitB at hx
    split at hx
    · simp at hx
      rw [hx]
      exact Nat.le_refl _
    · rcases List.mem_cons.1 hx with h | h
      · rw [h]; exact extract_le _ _ _
      · exact Nat.le_trans (splitB_sizes sep k _ x h) (extract_le _ _ _)
theorem p10_size (s : ByteArray) : ∀ x ∈ p10 s, x.size ≤ s.size := splitB_sizes _ _ s
theorem p10_any (s : ByteArray) (w : World) (hs : s.size < 4294967281) (hM : MaxL w) :
    Calls Tryd.prog 40 #[.string s, .string ⟨#[32]⟩, .int .i64 10] w fun e w' => e = .returned (.slice (some ⟨w.heap.size, 0, none⟩) (p10 s).length (min 10 (s.size + 1))) ∧ Below w.heap.size w w' ∧ w.heap.size < w'.heap.size ∧ (∀ i x, (p10 s)[i]? = some x → w'.cell? ⟨w.heap.size, i, none⟩ = some (.string x)) := by
  obtain ⟨m, hm⟩ := hM
  refine (Tryd.strings_SplitN s ⟨#[32]⟩ 10 m w hs hm (by decide) (by decide) (by decide)).mono ?_
  rintro e w' ⟨rfl, rfl⟩
  refine ⟨rfl, (Below.refl _ _).alloc (Nat.le_refl _) _, by simp, ?_⟩
  intro i x hx
  refine tblk_cell (tblk_new _ _) ?_
  unfold Lib.cellsOf
  have hi : i < (p10 s).length := (List.getElem?_eq_some_iff.1 hx).1
  unfold p10 at hx hi
  rw [List.getElem?_toArray, List.getElem?_append_left (by simpa using hi), List.getElem?_map, hx]
  rfl
theorem p10_len (s : ByteArray) : (p10 s).length ≤ min 10 (s.size + 1) := by
  unfold p10
  have : ∀ (k : Nat) (s : ByteArray), (Lib.splitB ⟨#[32]⟩ 0 k s).length ≤ k + 1 := by
    intro k
    induction k with
    | zero => intro s; unfold Lib.splitB; simp
    | succ k ih =>
      intro s
      unfold Lib.splitB
      split
      · simp
      · rw [List.length_cons]; exact Nat.succ_le_succ (ih _)
  have := this (min 10 (s.size + 1) - 1) s
  omega
/-- The words that are numbers; are all? The record of nine words. -/
def digW (ws : List ByteArray) : List ByteArray := ws.take 4 ++ ws.drop 6
def okW (ws : List ByteArray) : Bool := (digW ws).all (numB 10 18)
def entW (ws : List ByteArray) : EntP := ⟨numI 10 18 (ws.getD 0 ⟨#[]⟩), numI 10 18 (ws.getD 1 ⟨#[]⟩), numI 10 18 (ws.getD 2 ⟨#[]⟩), numI 10 18 (ws.getD 3 ⟨#[]⟩), ws.getD 4 ⟨#[]⟩, ws.getD 5 ⟨#[]⟩, numI 10 18 (ws.getD 6 ⟨#[]⟩), numI 10 18 (ws.getD 7 ⟨#[]⟩), numI 10 18 (ws.getD 8 ⟨#[]⟩)⟩
def zeroE : EntP := ⟨0, 0, 0, 0, ⟨#[]⟩, ⟨#[]⟩, 0, 0, 0⟩
theorem nine {α : Type} {l : List α} (h : l.length = 9) : ∃ a b c d e f g i j, l = [a, b, c, d, e, f, g, i, j] := by
  match l, h with
  | [a, b, c, d, e, f, g, i, j], _ => exact ⟨a, b, c, d, e, f, g, i, j, rfl⟩
/-- The numbers' block behind i words. -/
def nbC (D : List ByteArray) (i : Nat) : Array Value := (((D.take i).map (numI 10 18) ++ List.replicate (7 - i) 0).map (Value.int .i64)).toArray
theorem nbC_zero (D : List ByteArray) : nbC D 0 = #[.int .i64 0, .int .i64 0, .int .i64 0, .int .i64 0, .int .i64 0, .int .i64 0, .int .i64 0] := rfl
theorem nbC_set {D : List ByteArray} (hD : D.length = 7) {i : Nat} (hi : i < 7) : (nbC D i).setIfInBounds i (.int .i64 (numI 10 18 (D[i]'(by omega)))) = nbC D (i + 1) := by
  unfold nbC
  apply Array.toList_inj.1
  rw [Array.toList_setIfInBounds]
  simp only
  have h7 : 7 - i = (7 - (i + 1)) + 1 := by omega
  rw [h7, List.replicate_succ, List.take_succ_eq_append_getElem (by omega)]
  rw [List.map_append, List.map_append, List.map_append, List.map_append, List.map_cons]
  rw [List.set_append_right _ _ (by simp; omega)]
  have e : i - (((D.take i).map (numI 10 18)).map (Value.int .i64)).length = 0 := by simp; omega
  rw [e, List.set_cons_zero]
  simp
theorem nbC_end {p0 p1 p2 p3 p4 p5 p6 : ByteArray} : nbC [p0, p1, p2, p3, p4, p5, p6] 7 = #[.int .i64 (numI 10 18 p0), .int .i64 (numI 10 18 p1), .int .i64 (numI 10 18 p2), .int .i64 (numI 10 18 p3), .int .i64 (numI 10 18 p4), .int .i64 (numI 10 18 p5), .int .i64 (numI 10 18 p6)] := rfl
set_option maxHeartbeats 800000 in
theorem record_any (z0 z1 z2 z3 z4 z5 z6 : Int) (m t : ByteArray) (w : World) : Calls Tryd.prog 43 #[.agg #[.int .i64 z0, .int .i64 z1, .int .i64 z2, .int .i64 z3, .int .i64 z4, .int .i64 z5, .int .i64 z6], .string m, .string t] w fun r w' => r = .returned (.agg #[.int .i64 z0, .int .i64 z1, .int .i64 z2, .int .i64 z3, .string m, .string t, .int .i64 z4, .int .i64 z5, .int .i64 z6]) ∧ Below w.heap.size w w' := by
  go_enter Tryd.func43, Tryd.ntmps43
  go_wp2
  refine bodyPost_ret (v := .agg #[.int .i64 z0, .int .i64 z1, .int .i64 z2, .int .i64 z3, .string m, .string t, .int .i64 z4, .int .i64 z5, .int .i64 z6]) (by simp [results, Tryd.results43, go_sem]) rfl ⟨rfl, ?_⟩
  exact ((Below.refl _ _).alloc (Nat.le_refl _) _).alloc (by simp) _
end Go.Proofs.YtdibldocfhpnkaaDoor
