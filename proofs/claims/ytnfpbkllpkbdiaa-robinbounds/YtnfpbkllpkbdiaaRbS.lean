/- What grants are (plain); rows of flows that grow by rows; flows of unlike connections in two orders. -/
import Derived.Test.YtnfpbkllpkbdiaaRbW
namespace Go.Proofs.Ytnfpbkllpkbdiaa
open Go.RowKit
set_option linter.unusedVariables false

theorem nxt_conn {f : Fl} {t : List Fl} {x : Fl} (h : x ∈ nxt f t) : ∃ y ∈ f :: t, y.1 = x.1 := by
  unfold nxt at h
  split at h
  · rcases List.mem_append.1 h with q | q
    · exact ⟨x, List.mem_cons_of_mem _ q, rfl⟩
    · have : x = (f.1, f.2 - min f.2 64) := by simpa using q
      exact ⟨f, List.mem_cons_self .., by rw [this]⟩
  · exact ⟨x, List.mem_cons_of_mem _ h, rfl⟩
/-- Each grant is of 1 to 64 bytes, and of a connection that waits; there are no more than there is credit. -/
theorem loopQ_gs : ∀ (n : Nat) (qu : List Fl) (cr la : Int) (gs : List Fl), qsum qu ≤ n → Ask qu → 0 ≤ cr →
    (∀ f ∈ (loopQ qu cr la gs).2.2, f ∈ gs ∨ (1 ≤ f.2 ∧ f.2 ≤ 64 ∧ ∃ x ∈ qu, x.1 = f.1)) ∧ ((loopQ qu cr la gs).2.2.length : Int) ≤ gs.length + cr
  | n, [], cr, la, gs, _, _, h => by rw [loopQ_nil]; exact ⟨fun f hf => .inl hf, by show (gs.length : Int) ≤ _; omega⟩
  | n, f :: t, cr, la, gs, hn, ha, h => by
    have hf := ha f (List.mem_cons_self ..)
    by_cases c : cr < min f.2 64
    · rw [loopQ_stop hf.1 c]
      exact ⟨fun f hf => .inl hf, by show (gs.length : Int) ≤ _; omega⟩
    · rw [loopQ_go hf.1 c]
      have hl := nxt_less f t (by omega)
      cases n with
      | zero => omega
      | succ n =>
        obtain ⟨i1, i2⟩ := loopQ_gs n (nxt f t) (cr - min f.2 64) f.1 (gs ++ [(f.1, min f.2 64)]) (by omega) ha.nxt (by omega)
        refine ⟨fun x hx => ?_, ?_⟩
        · rcases i1 x hx with q | ⟨q1, q2, y, q3, q4⟩
          · rcases List.mem_append.1 q with q | q
            · exact .inl q
            · have : x = (f.1, min f.2 64) := by simpa using q
              rw [this]
              exact .inr ⟨by show 1 ≤ min f.2 64; omega, by show min f.2 64 ≤ 64; omega, f, List.mem_cons_self .., rfl⟩
          · obtain ⟨z, z1, z2⟩ := nxt_conn q3
            exact .inr ⟨q1, q2, z, z1, z2.trans q4⟩
        · rw [List.length_append] at i2
          have e : ([(f.1, min f.2 64)] : List Fl).length = 1 := rfl
          rw [e] at i2
          omega
theorem ow_app {B : Nat} {w : World} {v : Value} {l s : List Fl} {g off c c' : Nat} (h : OW B w v l) (hs : FO w g off c s) (hB : B ≤ w.heap.size) (hl : l.length + s.length ≤ 1000000) :
    ∃ v' w', (Builtin.append_ #[22, 22] 22 #[v, .slice (some ⟨g, off, none⟩) s.length c']).run Try.prog w = .ok v' w' ∧ OW B w' v' (l ++ s) ∧ Below B w w' := by
  obtain ⟨i, hi, hz0, hz1, hz2⟩ := info_parts infoW
  obtain ⟨v', w', hr, q1, q2, q3, q4⟩ := run_append_own_at (P := Try.prog) w B 22 22 31 i (.agg #[.int .i64 0, .int .i64 0]) 2 16 Try.underlying22 hi hz0 hz1 hz2 rfl (by decide) v l.length (rowW l) h ⟨g, off, none⟩ s.length c' (rowW s) (rowW_len s) (fun j u hj => by rw [addr_add]; exact hs.row j u hj) (rowW_one _) (by unfold maxLen; omega) (by omega) hB
  refine ⟨v', w', hr, ?_, (Below.refl _ _).grown q2 hB (fun q hq => (World.ownsRow.lt h q hq).1)⟩
  unfold OW
  rw [List.length_append, rowW_app]; exact q1
theorem ow_lit (w : World) (l : List Fl) (row : Array Value) (hr : (rowW l).toArray = row) (n : Nat) (hn : l.length = n) (hm : n ≤ maxLen) : OW w.heap.size (w.alloc (.cells row 31)) (.slice (some ⟨w.heap.size, 0, none⟩) n n) l := by
  subst hr hn
  exact ⟨rowW_len l, .inr ⟨w.heap.size, l.length, (rowW l).toArray, rfl, Nat.le_refl _, tblk_new _ _, Nat.le_refl _, hm, by simp [rowW_len], by rw [← rowW_len l]; exact List.take_length⟩⟩
/-- Flows of the connections 0, 3, 6 .., of wants not too small. -/
def Fsh (b : Int) (l : List Fl) : Prop := ∀ j, j < l.length → (l.getD j (0, 0)).1 = 3 * (j : Int) ∧ -b ≤ (l.getD j (0, 0)).2 ∧ (l.getD j (0, 0)).2 ≤ 1023
theorem Fsh.mono {b b' : Int} {l : List Fl} (h : Fsh b l) (hb : b ≤ b') : Fsh b' l := fun j hj => ⟨(h j hj).1, by have := (h j hj).2.1; omega, (h j hj).2.2⟩
theorem Fsh.snoc {l : List Fl} (h : Fsh 0 l) (m : Nat) (hm : m ≤ 1023) : Fsh 0 (l ++ [(3 * (l.length : Int), (m : Int))]) := by
  intro j hj
  rw [List.length_append] at hj
  have hj' : j < l.length + 1 := hj
  by_cases q : j = l.length
  · subst q
    have e : (l ++ [(3 * (l.length : Int), (m : Int))]).getD l.length (0, 0) = (3 * (l.length : Int), (m : Int)) := by simp [List.getD_eq_getElem?_getD]
    rw [e]
    exact ⟨rfl, by show -0 ≤ (m : Int); omega, by show (m : Int) ≤ 1023; omega⟩
  · have e : (l ++ [(3 * (l.length : Int), (m : Int))]).getD j (0, 0) = l.getD j (0, 0) := by simp [List.getD_eq_getElem?_getD, List.getElem?_append_left (show j < l.length by omega)]
    rw [e]
    exact h j (by omega)
theorem Fsh.sub {b : Int} {l : List Fl} (h : Fsh b l) (j : Nat) (hj : j < l.length) (n : Int) (h1 : 1 ≤ n) (h2 : n ≤ 64) : Fsh (b + 64) (l.set j (3 * (j : Int), (l.getD j (0, 0)).2 - n)) := by
  intro i hi
  rw [List.length_set] at hi
  rw [getD_set l j i _ hj]
  have := h j hj
  split
  · rename_i e
    subst e
    exact ⟨rfl, by show -(b + 64) ≤ _ - n; omega, by show _ - n ≤ 1023; omega⟩
  · have := h i hi
    exact ⟨this.1, by omega, this.2.2⟩
theorem Fsh.mem {b : Int} {l : List Fl} (h : Fsh b l) {f : Fl} (hf : f ∈ l) : ∃ j, j < l.length ∧ l.getD j (0, 0) = f ∧ f.1 = 3 * (j : Int) ∧ f.2 ≤ 1023 := by
  obtain ⟨j, hj, e⟩ := List.mem_iff_getElem.1 hf
  have e2 : l.getD j (0, 0) = f := by rw [List.getD_eq_getElem?_getD, List.getElem?_eq_getElem hj]; exact e
  have := h j hj
  rw [e2] at this
  exact ⟨j, hj, e2, this.1, this.2.2⟩
theorem Fsh.dist {b : Int} {l : List Fl} (h : Fsh b l) : l.Pairwise (fun a b => a.1 ≠ b.1) := by
  rw [List.pairwise_iff_getElem]
  intro i j hi hj hij
  have h1 := (h i hi).1
  have h2 := (h j hj).1
  rw [List.getD_eq_getElem?_getD, List.getElem?_eq_getElem hi] at h1
  rw [List.getD_eq_getElem?_getD, List.getElem?_eq_getElem hj] at h2
  have h1' : l[i].1 = 3 * (i : Int) := h1
  have h2' : l[j].1 = 3 * (j : Int) := h2
  omega
/-- The flows in the other order, with two that want nothing ahead. -/
def othL (l : List Fl) (k : Nat) : List Fl := [(1, 0), (-7, -5)] ++ l.drop k ++ l.take k
theorem oth_mem (l : List Fl) (k : Nat) (f : Fl) : f ∈ othL l k ↔ f = (1, 0) ∨ f = (-7, -5) ∨ f ∈ l := by
  unfold othL
  rw [List.mem_append, List.mem_append]
  have e : f ∈ l ↔ f ∈ l.drop k ∨ f ∈ l.take k := by
    rw [← List.mem_append]
    constructor
    · intro q
      have : f ∈ l.take k ++ l.drop k := by rw [List.take_append_drop]; exact q
      rcases List.mem_append.1 this with q | q
      · exact List.mem_append.2 (.inr q)
      · exact List.mem_append.2 (.inl q)
    · intro q
      rcases List.mem_append.1 q with q | q
      · exact List.mem_of_mem_drop q
      · exact List.mem_of_mem_take q
  rw [e]
  simp [or_assoc]
theorem perm_dist {l : List Fl} (h : l.Pairwise (fun a b => a.1 ≠ b.1)) (k : Nat) : (l.drop k ++ l.take k).Pairwise (fun a b => a.1 ≠ b.1) := by
  have h2 : (l.take k ++ l.drop k).Pairwise (fun a b => a.1 ≠ b.1) := by rw [List.take_append_drop]; exact h
  rw [List.pairwise_append] at h2 ⊢
  exact ⟨h2.2.1, h2.1, fun a ha b hb e => h2.2.2 b hb a ha e.symm⟩
theorem oth_dist {b : Int} {l : List Fl} (h : Fsh b l) (k : Nat) : (othL l k).Pairwise (fun a b => a.1 ≠ b.1) := by
  unfold othL
  rw [List.append_assoc, List.pairwise_append]
  refine ⟨by decide, perm_dist h.dist k, fun a ha c hc e => ?_⟩
  have hc' : c ∈ l := by
    rcases List.mem_append.1 hc with q | q
    · exact List.mem_of_mem_drop q
    · exact List.mem_of_mem_take q
  obtain ⟨j, _, _, hj, _⟩ := h.mem hc'
  rw [hj] at e
  rcases List.mem_cons.1 ha with q | q
  · rw [q] at e; have : (1 : Int) = 3 * (j : Int) := e; omega
  · have : a = (-7, -5) := by simpa using q
    rw [this] at e; have : (-7 : Int) = 3 * (j : Int) := e; omega
theorem oth_inr {b : Int} {l : List Fl} (h : Fsh b l) (hl : l.length ≤ 12) (k : Nat) : ∀ f ∈ othL l k, InR f.1 ∧ f.2 ≤ 9223372036854775807 := by
  intro f hf
  rcases (oth_mem l k f).1 hf with q | q | q
  · rw [q]; unfold InR; decide
  · rw [q]; unfold InR; decide
  · obtain ⟨j, hj, _, h1, h2⟩ := h.mem q
    unfold InR
    omega
theorem fsh_inr {b : Int} {l : List Fl} (h : Fsh b l) (hl : l.length ≤ 12) : ∀ f ∈ l, InR f.1 ∧ f.2 ≤ 9223372036854775807 := by
  intro f q
  obtain ⟨j, hj, _, h1, h2⟩ := h.mem q
  unfold InR
  omega
theorem oth_wait {b la : Int} {l W V : List Fl} (h : Fsh b l) (hl : l.length ≤ 12) (k : Nat) (h1 : WaitP la l W) (h2 : WaitP la (othL l k) V) : V = W := by
  obtain ⟨s1, s2⟩ := wait_spec h1 (fun f hf => (fsh_inr h hl f hf).1)
  refine wait_dist h2 (fun f hf => (oth_inr h hl k f hf).1) (oth_dist h k) s1 fun f => ?_
  rw [s2 f, head_distinct h.dist f, oth_mem l k f]
  constructor
  · exact fun q => ⟨q.1, .inr (.inr q.2)⟩
  · rintro ⟨q1, q | q | q⟩
    · rw [q] at q1; exact absurd q1 (by decide)
    · rw [q] at q1; exact absurd q1 (by decide)
    · exact ⟨q1, q⟩
theorem oth_len (l : List Fl) (k : Nat) : (othL l k).length = l.length + 2 := by
  unfold othL
  rw [List.length_append, List.length_append, List.length_drop, List.length_take]
  show 2 + (l.length - k) + min k l.length = _
  omega
end Go.Proofs.Ytnfpbkllpkbdiaa
