/- Whose turn it is, said by what it is (plain). -/
import Derived.Test.YtnfpbkllpkbdiaaRbL
namespace Go.Proofs.Ytnfpbkllpkbdiaa
open Go.RowKit
set_option linter.unusedVariables false

/-- A connection's number is one. -/
def InR (c : Int) : Prop := -9223372036854775808 ≤ c ∧ c ≤ 9223372036854775807
theorem awayK_inj {la c d : Int} (hc : InR c) (hd : InR d) (h : awayK la c = awayK la d) : c = d := by
  unfold awayK InR at *
  omega
/-- Each that isn't of the connection of the one ahead of it. -/
def ddA (p : Int) : List Fl → List Fl
  | [] => []
  | y :: t => if y.1 = p then ddA y.1 t else y :: ddA y.1 t
def dd : List Fl → List Fl
  | [] => []
  | x :: t => x :: ddA x.1 t
def lastC (p : Int) : List Fl → Int
  | [] => p
  | y :: t => lastC y.1 t
theorem ddA_snoc (z : Fl) : ∀ (l : List Fl) (p : Int), ddA p (l ++ [z]) = ddA p l ++ if z.1 = lastC p l then [] else [z]
  | [], p => by
    show (if z.1 = p then ddA z.1 [] else z :: ddA z.1 []) = [] ++ if z.1 = p then [] else [z]
    split <;> rfl
  | y :: t, p => by
    show (if y.1 = p then ddA y.1 (t ++ [z]) else y :: ddA y.1 (t ++ [z])) = (if y.1 = p then ddA y.1 t else y :: ddA y.1 t) ++ if z.1 = lastC y.1 t then [] else [z]
    rw [ddA_snoc z t y.1]
    split
    · rfl
    · rfl
theorem lastC_take (s : List Fl) : ∀ (k : Nat) (p : Int), k < s.length → lastC p (s.take (k + 1)) = (s.getD k (0, 0)).1 := by
  induction s with
  | nil => intro k p h; exact absurd h (Nat.not_lt_zero _)
  | cons y t ih =>
    intro k p h
    cases k with
    | zero => rfl
    | succ k =>
      show lastC y.1 (t.take (k + 1)) = _
      rw [ih k y.1 (by simpa using h)]
      simp
theorem cpt_dd (s : List Fl) : ∀ k, k ≤ s.length → cpt s k = dd (s.take k)
  | 0, _ => rfl
  | k + 1, hk => by
    have ih := cpt_dd s k (by omega)
    show cpt s k ++ _ = _
    rw [ih, take_snoc s k (by omega)]
    cases k with
    | zero => rfl
    | succ k =>
      cases s with
      | nil => exact absurd hk (by simp)
      | cons x t =>
        show dd (x :: t.take k) ++ _ = dd (x :: t.take k ++ [(x :: t).getD (k + 1) (0, 0)])
        show (x :: ddA x.1 (t.take k)) ++ _ = x :: ddA x.1 (t.take k ++ [(x :: t).getD (k + 1) (0, 0)])
        rw [ddA_snoc, List.cons_append]
        congr 1
        congr 1
        have e : lastC x.1 (t.take k) = ((x :: t).getD k (0, 0)).1 := by
          cases k with
          | zero => rfl
          | succ k =>
            rw [lastC_take t k x.1 (by simp at hk; omega)]
            simp
        rw [e]
        have e2 : k + 1 - 1 = k := rfl
        rw [e2]
        by_cases q : ((x :: t).getD (k + 1) (0, 0)).1 = ((x :: t).getD k (0, 0)).1
        · rw [if_pos q, if_neg (fun h => h.elim (fun e => by omega) (fun e => e q))]
        · rw [if_neg q, if_pos (.inr q)]
def Kle (la : Int) (a b : Fl) : Prop := awayK la a.1 ≤ awayK la b.1
def Klt (la : Int) (a b : Fl) : Prop := awayK la a.1 < awayK la b.1
theorem srt_pair {la : Int} {s : List Fl} (h : SrtTo la s s.length) : s.Pairwise (Kle la) := by
  rw [List.pairwise_iff_getElem]
  intro i j hi hj hij
  have := h i j hij hj
  unfold KA at this
  rw [List.getD_eq_getElem?_getD, List.getD_eq_getElem?_getD, List.getElem?_eq_getElem hi, List.getElem?_eq_getElem hj] at this
  exact this
theorem ddA_spec (la : Int) : ∀ (t : List Fl) (p : Int), InR p → (∀ f ∈ t, InR f.1 ∧ awayK la p ≤ awayK la f.1) → t.Pairwise (Kle la) →
    (∀ f, f ∈ ddA p t ↔ f.1 ≠ p ∧ (t.filter (fun x => x.1 == f.1)).head? = some f) ∧ (ddA p t).Pairwise (Klt la) ∧ ∀ f ∈ ddA p t, awayK la p < awayK la f.1
  | [], p, _, _, _ => ⟨fun f => ⟨fun h => (by cases h), fun h => by simp at h⟩, List.Pairwise.nil, fun f h => by cases h⟩
  | y :: t, p, hp, hf, hs => by
    have hy := hf y (List.mem_cons_self ..)
    obtain ⟨hs1, hs2⟩ := List.pairwise_cons.1 hs
    obtain ⟨i1, i2, i3⟩ := ddA_spec la t y.1 hy.1 (fun f h => ⟨(hf f (List.mem_cons_of_mem _ h)).1, hs1 f h⟩) hs2
    by_cases q : y.1 = p
    · have e : ddA p (y :: t) = ddA y.1 t := if_pos q
      rw [e]
      refine ⟨fun f => ?_, i2, fun f h => by rw [← q]; exact i3 f h⟩
      rw [i1 f, q]
      constructor
      · rintro ⟨h1, h2⟩
        refine ⟨h1, ?_⟩
        rw [List.filter_cons, if_neg (by rw [q]; simpa using fun e => h1 e.symm)]
        exact h2
      · rintro ⟨h1, h2⟩
        refine ⟨h1, ?_⟩
        rw [List.filter_cons, if_neg (by rw [q]; simpa using fun e => h1 e.symm)] at h2
        exact h2
    · have e : ddA p (y :: t) = y :: ddA y.1 t := if_neg q
      have hlt : awayK la p < awayK la y.1 := by
        rcases Int.lt_or_le (awayK la p) (awayK la y.1) with c | c
        · exact c
        · exact absurd (awayK_inj (la := la) hy.1 hp (by have := hy.2; omega)) q
      rw [e]
      refine ⟨fun f => ?_, List.pairwise_cons.2 ⟨fun f h => i3 f h, i2⟩, fun f h => ?_⟩
      · by_cases c : f.1 = y.1
        · rw [List.filter_cons, if_pos (by simpa using c.symm), List.head?_cons]
          constructor
          · intro h
            rcases List.mem_cons.1 h with h | h
            · exact ⟨by rw [c]; exact q, by rw [h]⟩
            · exact absurd c ((i1 f).1 h).1
          · rintro ⟨_, h⟩
            injection h with h
            rw [h]; exact List.mem_cons_self ..
        · rw [List.filter_cons, if_neg (by simpa using fun e => c e.symm)]
          constructor
          · intro h
            rcases List.mem_cons.1 h with h | h
            · exact absurd (by rw [h]) c
            · refine ⟨fun ep => ?_, ((i1 f).1 h).2⟩
              have := i3 f h
              rw [ep] at this
              omega
          · rintro ⟨_, h⟩
            exact List.mem_cons_of_mem _ ((i1 f).2 ⟨c, h⟩)
      · rcases List.mem_cons.1 h with h | h
        · rw [h]; exact hlt
        · have := i3 f h; omega
theorem dd_spec (la : Int) (s : List Fl) (hf : ∀ f ∈ s, InR f.1) (hs : s.Pairwise (Kle la)) : (∀ f, f ∈ dd s ↔ (s.filter (fun x => x.1 == f.1)).head? = some f) ∧ (dd s).Pairwise (Klt la) := by
  cases s with
  | nil => exact ⟨fun f => ⟨fun h => (by cases h), fun h => by simp at h⟩, List.Pairwise.nil⟩
  | cons x t =>
    obtain ⟨hs1, hs2⟩ := List.pairwise_cons.1 hs
    have hx := hf x (List.mem_cons_self ..)
    obtain ⟨i1, i2, i3⟩ := ddA_spec la t x.1 hx (fun f h => ⟨hf f (List.mem_cons_of_mem _ h), hs1 f h⟩) hs2
    refine ⟨fun f => ?_, List.pairwise_cons.2 ⟨fun f h => i3 f h, i2⟩⟩
    show f ∈ x :: ddA x.1 t ↔ _
    by_cases c : f.1 = x.1
    · rw [List.filter_cons, if_pos (by simpa using c.symm), List.head?_cons]
      constructor
      · intro h
        rcases List.mem_cons.1 h with h | h
        · rw [h]
        · exact absurd c ((i1 f).1 h).1
      · intro h
        injection h with h
        rw [h]; exact List.mem_cons_self ..
    · rw [List.filter_cons, if_neg (by simpa using fun e => c e.symm)]
      constructor
      · intro h
        rcases List.mem_cons.1 h with h | h
        · exact absurd (by rw [h]) c
        · exact ((i1 f).1 h).2
      · intro h
        exact List.mem_cons_of_mem _ ((i1 f).2 ⟨c, h⟩)
/-- The flows that wait: sorted by how far they are away; each is the first of its connection, and wants something. -/
theorem wait_spec {la : Int} {fs W : List Fl} (h : WaitP la fs W) (hf : ∀ f ∈ fs, InR f.1) : W.Pairwise (Klt la) ∧ ∀ f, f ∈ W ↔ 0 < f.2 ∧ (fs.filter (fun x => x.1 == f.1)).head? = some f := by
  obtain ⟨s, h1, h2, rfl⟩ := h
  rw [cpt_dd s s.length (Nat.le_refl _), List.take_length]
  obtain ⟨d1, d2⟩ := dd_spec la s (fun f q => hf f ((h1.mem f).1 q)) (srt_pair h2)
  refine ⟨d2.sublist List.filter_sublist, fun f => ?_⟩
  rw [List.mem_filter, d1 f, h1.2 f.1]
  unfold wants
  simp
  exact ⟨fun h => ⟨h.2, h.1⟩, fun h => ⟨h.2, h.1⟩⟩
theorem srt_uniq {la : Int} : ∀ (A B : List Fl), A.Pairwise (Klt la) → B.Pairwise (Klt la) → (∀ f, f ∈ A ↔ f ∈ B) → A = B
  | [], [], _, _, _ => rfl
  | [], b :: B, _, _, h => absurd ((h b).2 (List.mem_cons_self ..)) (by simp)
  | a :: A, [], _, _, h => absurd ((h a).1 (List.mem_cons_self ..)) (by simp)
  | a :: A, b :: B, hA, hB, h => by
    obtain ⟨a1, a2⟩ := List.pairwise_cons.1 hA
    obtain ⟨b1, b2⟩ := List.pairwise_cons.1 hB
    have hab : a = b := by
      rcases List.mem_cons.1 ((h a).1 (List.mem_cons_self ..)) with q | q
      · exact q
      · rcases List.mem_cons.1 ((h b).2 (List.mem_cons_self ..)) with r | r
        · exact r.symm
        · have x := b1 a q
          have y := a1 b r
          unfold Klt at x y
          omega
    subst hab
    congr 1
    refine srt_uniq A B a2 b2 fun f => ⟨fun q => ?_, fun q => ?_⟩
    · rcases List.mem_cons.1 ((h f).1 (List.mem_cons_of_mem _ q)) with r | r
      · have := a1 f q
        rw [r] at this
        unfold Klt at this
        omega
      · exact r
    · rcases List.mem_cons.1 ((h f).2 (List.mem_cons_of_mem _ q)) with r | r
      · have := b1 f q
        rw [r] at this
        unfold Klt at this
        omega
      · exact r
/-- What waits is what it is. -/
theorem wait_uniq {la : Int} {fs W X : List Fl} (h : WaitP la fs W) (hf : ∀ f ∈ fs, InR f.1) (hX : X.Pairwise (Klt la)) (hm : ∀ f, f ∈ X ↔ 0 < f.2 ∧ (fs.filter (fun x => x.1 == f.1)).head? = some f) : W = X := by
  obtain ⟨h1, h2⟩ := wait_spec h hf
  exact srt_uniq W X h1 hX fun f => (h2 f).trans (hm f).symm
/-- How much credit is left. -/
theorem loopQ_cr : ∀ (n : Nat) (qu : List Fl) (cr la : Int) (gs : List Fl), qsum qu ≤ n → Ask qu → 0 ≤ cr → 0 ≤ (loopQ qu cr la gs).1 ∧ (loopQ qu cr la gs).1 < 64
  | n, [], cr, la, gs, _, _, h => by rw [loopQ_nil]; exact ⟨Int.le_refl _, (by decide : (0 : Int) < 64)⟩
  | n, f :: t, cr, la, gs, hn, ha, h => by
    have hf := ha f (List.mem_cons_self ..)
    by_cases c : cr < min f.2 64
    · rw [loopQ_stop hf.1 c]
      exact ⟨h, by show cr < 64; omega⟩
    · rw [loopQ_go hf.1 c]
      have hl := nxt_less f t (by omega)
      cases n with
      | zero => omega
      | succ n => exact loopQ_cr n (nxt f t) _ _ _ (by omega) ha.nxt (by omega)
end Go.Proofs.Ytnfpbkllpkbdiaa
