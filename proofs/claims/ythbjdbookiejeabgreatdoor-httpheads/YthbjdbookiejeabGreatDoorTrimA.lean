/- Plain lemmas on trimmed texts. -/
import Derived.Test.YthbjdbookiejeabGreatDoorTxtT
import Derived.Lib.SmallJoins
namespace Go.Proofs.YthbjdbookiejeabGreatDoor
open Go.RowKit
set_option linter.unusedVariables false

def blk (b : UInt8) : Bool := ([32, 9] : List UInt8).contains b
/-- No blank at the front; none at the end. -/
def NF (l : List UInt8) : Prop := ∀ b, l.head? = some b → blk b = false
def NL (l : List UInt8) : Prop := ∀ b, l.getLast? = some b → blk b = false
theorem trimP_eq (l : List UInt8) : trimP l = (l.reverse.dropWhile blk).reverse.dropWhile blk := rfl
theorem dw_front (l : List UInt8) : NF (l.dropWhile blk) := by
  intro b h
  induction l with
  | nil => simp at h
  | cons a l ih =>
    rw [List.dropWhile_cons] at h
    split at h
    · exact ih h
    · rename_i c
      have : a = b := by simpa using h
      subst this
      simpa using c
theorem dw_same (l : List UInt8) (h : NF l) : l.dropWhile blk = l := by
  cases l with
  | nil => rfl
  | cons a l => rw [List.dropWhile_cons, if_neg (by rw [h a rfl]; decide)]
theorem dw_app (a l : List UInt8) (h : ∀ b ∈ a, blk b = true) : (a ++ l).dropWhile blk = l.dropWhile blk := by
  induction a with
  | nil => rfl
  | cons x a ih =>
    rw [List.cons_append, List.dropWhile_cons, if_pos (h x (.head _))]
    exact ih fun b hb => h b (.tail _ hb)
theorem dw_all (a : List UInt8) (h : ∀ b ∈ a, blk b = true) : a.dropWhile blk = [] := by
  have := dw_app a [] h
  rwa [List.append_nil] at this
theorem dw_last (l : List UInt8) (h : NL l) : NL (l.dropWhile blk) := by
  induction l with
  | nil => exact h
  | cons a l ih =>
    rw [List.dropWhile_cons]
    split
    · refine ih fun b hb => h b ?_
      cases l with
      | nil => simp at hb
      | cons c l => rw [List.getLast?_cons_cons]; exact hb
    · exact h
theorem rev_front {l : List UInt8} (h : NL l) : NF l.reverse := by
  intro b hb
  rw [List.head?_reverse] at hb
  exact h b hb
theorem rev_last {l : List UInt8} (h : NF l) : NL l.reverse := by
  intro b hb
  rw [List.getLast?_reverse] at hb
  exact h b hb
theorem trim_front (l : List UInt8) : NF (trimP l) := by rw [trimP_eq]; exact dw_front _
theorem trim_last (l : List UInt8) : NL (trimP l) := by rw [trimP_eq]; exact dw_last _ (rev_last (dw_front _))
theorem trim_around (a t q : List UInt8) (ha : ∀ b ∈ a, blk b = true) (hq : ∀ b ∈ q, blk b = true) (h1 : NF t) (h2 : NL t) : trimP (a ++ t ++ q) = t := by
  rw [trimP_eq, List.reverse_append, dw_app _ _ (fun b hb => hq b (List.mem_reverse.1 hb)), List.reverse_append]
  by_cases ht : t = []
  · subst ht
    rw [List.reverse_nil, List.nil_append, dw_all _ (fun b hb => ha b (List.mem_reverse.1 hb))]
    rfl
  · rw [dw_same (t.reverse ++ a.reverse)]
    · rw [← List.reverse_append, List.reverse_reverse, dw_app _ _ ha, dw_same _ h1]
    · intro b hb
      refine rev_front h2 b ?_
      cases h : t.reverse with
      | nil => exact absurd (List.reverse_eq_nil_iff.1 h) ht
      | cons c r => rw [h] at hb; exact hb
theorem trim_same (t : List UInt8) (h1 : NF t) (h2 : NL t) : trimP t = t := by
  have h := trim_around [] t [] (fun _ h => by cases h) (fun _ h => by cases h) h1 h2
  rwa [List.nil_append, List.append_nil] at h
theorem trim_idem (l : List UInt8) : trimP (trimP l) = trimP l := trim_same _ (trim_front l) (trim_last l)
theorem trim_xy (t : List UInt8) : trimP ([120, 32] ++ t ++ [9, 121]) = [120, 32] ++ t ++ [9, 121] := by
  refine trim_same _ (fun b h => ?_) (fun b h => ?_)
  · have e : b = 120 := by simpa using h.symm
    subst e; decide
  · rw [List.getLast?_append] at h
    have e : b = 121 := by simpa using h.symm
    subst e; decide

theorem trimT_idem (s : ByteArray) : trimT (trimT s) = trimT s := by unfold trimT; simp [trim_idem]
theorem bytes_eq {a b : ByteArray} (h : a.data.toList = b.data.toList) : a = b := by
  obtain ⟨⟨l⟩⟩ := a
  obtain ⟨⟨l'⟩⟩ := b
  simp at h
  rw [h]
/-- A text with blanks around another. -/
def Around (t : ByteArray) (n : Nat) (x : ByteArray) : Prop := ∃ a q : List UInt8, (∀ b ∈ a, blk b = true) ∧ (∀ b ∈ q, blk b = true) ∧ x.data.toList = a ++ t.data.toList ++ q ∧ x.size = t.size + n
theorem Around.refl (t : ByteArray) : Around t 0 t := ⟨[], [], (fun _ h => by cases h), (fun _ h => by cases h), by simp, rfl⟩
theorem cat_size (a b : ByteArray) : (a ++ b).size = a.size + b.size := by
  show (a ++ b).data.toList.length = a.data.toList.length + b.data.toList.length
  rw [Joins.data_append, List.length_append]
theorem Around.ahead {t x : ByteArray} {n : Nat} (h : Around t n x) (b : UInt8) (hb : blk b = true) : Around t (n + 1) ((⟨#[b]⟩ : ByteArray) ++ x) := by
  obtain ⟨a, q, ha, hq, hx, hn⟩ := h
  refine ⟨b :: a, q, fun c hc => ?_, hq, ?_, ?_⟩
  · cases hc with
    | head => exact hb
    | tail _ hc => exact ha c hc
  · rw [Joins.data_append, hx]; simp
  · rw [cat_size, hn]; show 1 + _ = _; omega
theorem Around.behind {t x : ByteArray} {n : Nat} (h : Around t n x) (b : UInt8) (hb : blk b = true) : Around t (n + 1) (x ++ (⟨#[b]⟩ : ByteArray)) := by
  obtain ⟨a, q, ha, hq, hx, hn⟩ := h
  refine ⟨a, q ++ [b], ha, fun c hc => ?_, ?_, ?_⟩
  · rcases List.mem_append.1 hc with hc | hc
    · exact hq c hc
    · rw [List.mem_singleton.1 hc]; exact hb
  · rw [Joins.data_append, hx]; simp
  · rw [cat_size, hn]; rfl
theorem Around.trim {s x : ByteArray} {n : Nat} (h : Around (trimT s) n x) : trimT x = trimT s := by
  obtain ⟨a, q, ha, hq, hx, _⟩ := h
  unfold trimT at hx ⊢
  rw [hx]
  simp only
  rw [trim_around a _ q ha hq (by simpa using trim_front _) (by simpa using trim_last _)]
theorem trimT_xy (t : ByteArray) : trimT ((⟨#[120, 32]⟩ : ByteArray) ++ t ++ (⟨#[9, 121]⟩ : ByteArray)) = (⟨#[120, 32]⟩ : ByteArray) ++ t ++ (⟨#[9, 121]⟩ : ByteArray) := by
  refine bytes_eq ?_
  unfold trimT
  rw [Joins.data_append, Joins.data_append]
  exact trim_xy t.data.toList
theorem conv1T (W : World) (x : Int) (b : UInt8) (h : (b.toNat : Int) = x) : (convert 22 9 (.slice (some ⟨W.heap.size, 0, none⟩) 1 1)).run Tryz.prog (W.alloc (.cells #[.int .u8 x] 5)) = .ok (.string ⟨#[b]⟩) (W.alloc (.cells #[.int .u8 x] 5)) := by
  have k := run_convert_bytes_back (P := Tryz.prog) (W.alloc (.cells #[.int .u8 x] 5)) 22 9 5 ⟨W.heap.size, 0, none⟩ 1 [b] Tryz.underlying22 Tryz.underlying5 Tryz.underlying9 (fun j hj => by
    obtain rfl : j = 0 := by simpa using hj
    rw [Lib.add_plain]
    exact tblk_cell (tblk_new _ _) (by simp [h]))
  exact k
end Go.Proofs.YthbjdbookiejeabGreatDoor
