/- Several rings of one meter: what each call turns. -/
import Derived.Test.YtenajbefknlalaaRgF
namespace Go.Proofs.Ytenajbefknlalaa
open Go.RowKit
set_option linter.unusedVariables false

/-- How many bytes there are in all rings. -/
def tot (Ls : List (List UInt8)) : Nat := (Ls.map List.length).sum
theorem tot_set : ∀ (Ls : List (List UInt8)) (i : Nat) (l x : List UInt8), Ls[i]? = some l → tot (Ls.set i x) + l.length = tot Ls + x.length
  | [], i, l, x, h => by simp at h
  | y :: Ls, 0, l, x, h => by
    have e : y = l := by simpa using h
    subst e
    simp only [List.set_cons_zero, tot, List.map_cons, List.sum_cons]; omega
  | y :: Ls, i + 1, l, x, h => by
    have k := tot_set Ls i l x (by simpa using h)
    simp only [List.set_cons_succ, tot, List.map_cons, List.sum_cons] at k ⊢; omega
theorem tot_ge : ∀ (Ls : List (List UInt8)) (i : Nat) (l : List UInt8), Ls[i]? = some l → l.length ≤ tot Ls
  | [], i, l, h => by simp at h
  | y :: Ls, 0, l, h => by
    have e : y = l := by simpa using h
    subst e
    simp only [tot, List.map_cons, List.sum_cons]; omega
  | y :: Ls, i + 1, l, h => by
    have k := tot_ge Ls i l (by simpa using h)
    simp only [tot, List.map_cons, List.sum_cons] at k ⊢; omega

/-- The rings rs over the meter mb have the bytes Ls; their blocks lie behind those of w0, and none of F is theirs. -/
structure ManyS (F : Nat → Prop) (w0 w : World) (mb : Nat) (rs : List Nat) (Ls : List (List UInt8)) (m p : Int) (S : Nat → Nat → Prop) : Prop where
  len : rs.length = Ls.length
  rg : ∀ i r l, rs[i]? = some r → Ls[i]? = some l → Rg w r mb (S i) l
  dis : ∀ i j, i < rs.length → j < rs.length → i ≠ j → ∀ k, S i k → ¬ S j k
  lo : ∀ i, i < rs.length → ∀ k, S i k → w0.heap.size ≤ k ∧ ¬ F k
  isM : IsM w mb m (tot Ls : Nat) p
  mb1 : w0.heap.size ≤ mb
  mb2 : ¬ F mb
  flt : ∀ k, F k → k < w.heap.size
  fit : (tot Ls : Int) ≤ m
  top : m ≤ 1099511627776
  bel : Below w0.heap.size w0 w
def Many (F : Nat → Prop) (w0 w : World) (mb : Nat) (rs : List Nat) (Ls : List (List UInt8)) (m p : Int) : Prop := ∃ S, ManyS F w0 w mb rs Ls m p S
section
variable {F : Nat → Prop} {w0 w : World} {mb : Nat} {rs : List Nat} {Ls : List (List UInt8)} {m p : Int}
theorem Many.step {w' : World} {T F' : Nat → Prop} (h : Many F w0 w mb rs Ls m p) (k : Kp T w w') (hT : ∀ i, T i → (F i ∨ w.heap.size ≤ i) ∧ w0.heap.size ≤ i) (hF : ∀ i, F' i → F i ∨ (w.heap.size ≤ i ∧ i < w'.heap.size)) : Many F' w0 w' mb rs Ls m p := by
  obtain ⟨S, h⟩ := h
  have hml := h.isM.lt
  refine ⟨S, h.len, fun i r l hr hl => ?_, h.dis, fun i hi q hq => ⟨(h.lo i hi q hq).1, fun c => ?_⟩, k.isM (fun c => ?_) h.isM, h.mb1, fun c => ?_, fun q hq => ?_, h.fit, h.top, ?_⟩
  · have hi : i < rs.length := (List.getElem?_eq_some_iff.1 hr).1
    refine (h.rg i r l hr hl).keep k (fun j hj c => ?_)
    rcases (hT j c).1 with d | d
    · exact (h.lo i hi j hj).2 d
    · have := (h.rg i r l hr hl).lt j hj
      omega
  · rcases hF q c with d | d
    · exact (h.lo i hi q hq).2 d
    · have hlr : ∃ r l, rs[i]? = some r ∧ Ls[i]? = some l := ⟨_, _, List.getElem?_eq_getElem hi, List.getElem?_eq_getElem (by rw [← h.len]; exact hi)⟩
      obtain ⟨r, l, e1, e2⟩ := hlr
      have := (h.rg i r l e1 e2).lt q hq
      omega
  · rcases (hT mb c).1 with d | d
    · exact h.mb2 d
    · omega
  · rcases hF mb c with d | d
    · exact h.mb2 d
    · omega
  · rcases hF q hq with d | d
    · exact Nat.lt_of_lt_of_le (h.flt q d) k.size
    · exact d.2
  · refine h.bel.trans (k.below h.bel.size (fun j hj c => ?_))
    have := (hT j c).2
    omega
theorem Many.weak {F' : Nat → Prop} (h : Many F w0 w mb rs Ls m p) (hF : ∀ i, F' i → F i) : Many F' w0 w mb rs Ls m p :=
  h.step (Kp.refl (fun _ => False) w) (fun _ c => c.elim) (fun i hi => .inl (hF i hi))
theorem Many.below {w' : World} (h : Many F w0 w mb rs Ls m p) (k : Below w.heap.size w w') : Many F w0 w' mb rs Ls m p :=
  h.step (Kp.ofBelow (T := fun _ => False) k) (fun _ c => c.elim) (fun i hi => .inl hi)
theorem Many.alloc (h : Many F w0 w mb rs Ls m p) (o : Obj) : Many (fun k => F k ∨ k = w.heap.size) w0 (w.alloc o) mb rs Ls m p :=
  h.step (Kp.alloc (fun _ => False) w o) (fun _ c => c.elim) (fun i hi => by
    rcases hi with c | c
    · exact .inl c
    · subst c; exact .inr ⟨Nat.le_refl _, by simp⟩)
theorem Many.drewN (h : Many F w0 w mb rs Ls m p) (n : Nat) : Many F w0 (w.drewN n) mb rs Ls m p := h.below ((But.drewN w.heap.size n w).below (Nat.le_refl _))
theorem Many.isM (h : Many F w0 w mb rs Ls m p) : IsM w mb m (tot Ls : Nat) p := by obtain ⟨S, h⟩ := h; exact h.isM
theorem Many.bel (h : Many F w0 w mb rs Ls m p) : Below w0.heap.size w0 w := by obtain ⟨S, h⟩ := h; exact h.bel
theorem Many.flt (h : Many F w0 w mb rs Ls m p) : ∀ k, F k → k < w.heap.size := by obtain ⟨S, h⟩ := h; exact h.flt
theorem Many.fit (h : Many F w0 w mb rs Ls m p) : (tot Ls : Int) ≤ m := by obtain ⟨S, h⟩ := h; exact h.fit
theorem Many.top (h : Many F w0 w mb rs Ls m p) : m ≤ 1099511627776 := by obtain ⟨S, h⟩ := h; exact h.top
/-- One ring has turned, and the meter. -/
theorem ManyS.turn {w' : World} {S : Nat → Nat → Prop} (h : ManyS F w0 w mb rs Ls m p S) (i r : Nat) (l l' : List UInt8) (S' : Nat → Prop) (p' : Int) (hr : rs[i]? = some r) (hl : Ls[i]? = some l)
    (hR : Rg w' r mb S' l') (hM : IsM w' mb m (tot (Ls.set i l') : Nat) p') (hS : ∀ k, S' k → S i k ∨ w.heap.size ≤ k) (hK : Kp (fun k => S i k ∨ k = mb) w w') (hf : (tot (Ls.set i l') : Int) ≤ m) :
    Many F w0 w' mb rs (Ls.set i l') m p' ∧ (∀ k, F k → w'.heap[k]? = w.heap[k]?) ∧ w.heap.size ≤ w'.heap.size := by
  have hi : i < rs.length := (List.getElem?_eq_some_iff.1 hr).1
  have hlt : ∀ j, j < rs.length → ∀ k, S j k → k < w.heap.size := fun j hj k hk =>
    (h.rg j _ _ (List.getElem?_eq_getElem hj) (List.getElem?_eq_getElem (by rw [← h.len]; exact hj))).lt k hk
  have hm1 := h.mb1
  have hbs := h.bel.size
  refine ⟨⟨fun j => if j = i then S' else S j, by rw [List.length_set]; exact h.len, fun j q x hq hx => ?_, fun a b ha hb hab k hk => ?_, fun j hj k hk => ?_, hM, h.mb1, h.mb2, fun k hk => Nat.lt_of_lt_of_le (h.flt k hk) hK.size, hf, h.top, ?_⟩, fun k hk => hK.block k (h.flt k hk) (fun c => ?_), hK.size⟩
  · by_cases e : j = i
    · subst e
      have e1 : q = r := Option.some.inj (hq.symm.trans hr)
      have hil : j < Ls.length := (List.getElem?_eq_some_iff.1 hl).1
      have e2 : x = l' := by rw [List.getElem?_set_self hil] at hx; exact (Option.some.inj hx).symm
      subst e1 e2
      simpa using hR
    · rw [List.getElem?_set_ne (fun c => e c.symm)] at hx
      simp only [if_neg e]
      have hj : j < rs.length := (List.getElem?_eq_some_iff.1 hq).1
      refine (h.rg j q x hq hx).keep hK (fun k hk c => ?_)
      rcases c with c | c
      · exact h.dis j i hj hi e k hk c
      · exact (h.rg j q x hq hx).nomb (c ▸ hk)
  · by_cases ea : a = i
    · have eb : b ≠ i := fun c => hab (ea.trans c.symm)
      simp only [if_pos ea] at hk
      simp only [if_neg eb]
      subst ea
      rcases hS k hk with c | c
      · exact h.dis a b ha hb hab k c
      · intro c2
        have := hlt b hb k c2
        omega
    · simp only [if_neg ea] at hk
      by_cases eb : b = i
      · simp only [if_pos eb]
        subst eb
        intro c
        rcases hS k c with c | c
        · exact h.dis a b ha hb hab k hk c
        · have := hlt a ha k hk
          omega
      · simp only [if_neg eb]
        exact h.dis a b ha hb hab k hk
  · by_cases e : j = i
    · simp only [if_pos e] at hk
      rcases hS k hk with c | c
      · subst e
        exact h.lo j hj k c
      · exact ⟨by omega, fun d => by have := h.flt k d; omega⟩
    · simp only [if_neg e] at hk
      exact h.lo j hj k hk
  · refine h.bel.trans (hK.below hbs (fun k hk c => ?_))
    rcases c with c | c
    · have := (h.lo i hi k c).1
      omega
    · omega
  · rcases c with c | c
    · exact (h.lo i hi k c).2 hk
    · exact h.mb2 (c ▸ hk)
theorem set_self (Ls : List (List UInt8)) (i : Nat) (l : List UInt8) (h : Ls[i]? = some l) : Ls.set i l = Ls := by
  obtain ⟨hi, rfl⟩ := List.getElem?_eq_some_iff.1 h
  exact List.set_getElem_self hi
theorem many_put (i r k : Nat) (l b : List UInt8) (v : Value) (h : Many F w0 w mb rs Ls m p) (hr : rs[i]? = some r) (hl : Ls[i]? = some l) (hv : Src w k v b) (hk : F k) :
    Calls Try.prog 9 #[.pointer (some ⟨r, 0, none⟩), v] w fun e w' => e = .returned (.bool (decide ((tot Ls : Int) + b.length ≤ m))) ∧ Many F w0 w' mb rs (if (tot Ls : Int) + b.length ≤ m then Ls.set i (l ++ b) else Ls) m p ∧ (∀ k, F k → w'.heap[k]? = w.heap[k]?) ∧ w.heap.size ≤ w'.heap.size := by
  obtain ⟨S, h⟩ := h
  have hi : i < rs.length := (List.getElem?_eq_some_iff.1 hr).1
  have hR := h.rg i r l hr hl
  have hge := tot_ge Ls i l hl
  refine (put_any r mb k (S i) l b v m (tot Ls : Nat) p w hR h.isM hv (h.flt k hk) (fun c => (h.lo i hi k c).2 hk) (fun c => h.mb2 (c ▸ hk)) (by omega) h.fit h.top (by omega)).mono ?_
  rintro e w' ⟨rfl, S', q1, q2, q3, q4⟩
  have ef : decide ((b.length : Int) ≤ m - (tot Ls : Nat)) = decide ((tot Ls : Int) + b.length ≤ m) := by
    apply decide_eq_decide.2; omega
  refine ⟨by rw [ef], ?_⟩
  have hset := tot_set Ls i l (l ++ b) hl
  rw [List.length_append] at hset
  by_cases hb : (b.length : Int) ≤ m - (tot Ls : Nat)
  · rw [if_pos hb] at q1
    rw [if_pos hb] at q2
    rw [if_pos (by omega)]
    exact h.turn i r l (l ++ b) S' p hr hl q1 (by rw [show ((tot (Ls.set i (l ++ b)) : Nat) : Int) = (tot Ls : Nat) + b.length by omega]; exact q2) q3 q4 (by omega)
  · rw [if_neg hb] at q1
    rw [if_neg hb] at q2
    rw [if_neg (by omega)]
    have := h.turn i r l l S' p hr hl q1 (by rw [set_self _ _ _ hl]; exact q2) q3 q4 (by rw [set_self _ _ _ hl]; exact h.fit)
    rwa [set_self _ _ _ hl] at this
theorem many_take (i r : Nat) (l : List UInt8) (n : Int) (h : Many F w0 w mb rs Ls m p) (hr : rs[i]? = some r) (hl : Ls[i]? = some l) :
    Calls Try.prog 11 #[.pointer (some ⟨r, 0, none⟩), .int .i64 n] w fun e w' => ∃ g, e = .returned (.slice (some ⟨g, 0, none⟩) (clp n l.length) (clp n l.length)) ∧ w.heap.size ≤ g ∧
      w'.heap[g]? = some (.cells (rowB (l.take (clp n l.length))).toArray 5) ∧ Many (fun k => F k ∨ k = g) w0 w' mb rs (Ls.set i (l.drop (clp n l.length))) m (gvP (tot Ls : Nat) p (clp n l.length)) ∧ (∀ k, F k → w'.heap[k]? = w.heap[k]?) ∧ w.heap.size ≤ w'.heap.size := by
  obtain ⟨S, h⟩ := h
  have hi : i < rs.length := (List.getElem?_eq_some_iff.1 hr).1
  have hR := h.rg i r l hr hl
  have hge := tot_ge Ls i l hl
  have hml := h.isM.lt
  refine (take_any3 r mb (S i) l n m (tot Ls : Nat) p w hR h.isM (by omega) h.fit h.top (by omega)).mono ?_
  rintro e w' ⟨rfl, q1, q2, q3, q4⟩
  have hN := clp_le n l.length
  have hset := tot_set Ls i l (l.drop (clp n l.length)) hl
  rw [List.length_drop] at hset
  generalize clp n l.length = N at *
  have hfit := h.fit
  obtain ⟨⟨S2, h2⟩, t2, t3⟩ := h.turn i r l (l.drop N) (S i) _ hr hl q2 (by rw [show ((tot (Ls.set i (l.drop N)) : Nat) : Int) = (tot Ls : Nat) - N by omega]; exact q3) (fun k hk => .inl hk) q4 (by omega)
  refine ⟨w.heap.size, rfl, Nat.le_refl _, q1, ⟨S, by rw [List.length_set]; exact h.len, fun j q x hq hx => ?_, h.dis, fun j hj k hk => ⟨(h.lo j hj k hk).1, fun c => ?_⟩, h2.isM, h2.mb1, fun c => ?_, fun k hk => ?_, h2.fit, h.top, h2.bel⟩, t2, t3⟩
  · by_cases e : j = i
    · subst e
      have e1 : q = r := Option.some.inj (hq.symm.trans hr)
      have hil : j < Ls.length := (List.getElem?_eq_some_iff.1 hl).1
      have e2 : x = l.drop N := by rw [List.getElem?_set_self hil] at hx; exact (Option.some.inj hx).symm
      subst e1 e2
      exact q2
    · rw [List.getElem?_set_ne (fun c => e c.symm)] at hx
      have hj : j < rs.length := (List.getElem?_eq_some_iff.1 hq).1
      refine (h.rg j q x hq hx).keep q4 (fun k hk c => ?_)
      rcases c with c | c
      · exact h.dis j i hj hi e k hk c
      · exact (h.rg j q x hq hx).nomb (c ▸ hk)
  · rcases c with c | c
    · exact (h.lo j hj k hk).2 c
    · have := (h.rg j _ _ (List.getElem?_eq_getElem hj) (List.getElem?_eq_getElem (by rw [← h.len]; exact hj))).lt k hk
      omega
  · rcases c with c | c
    · exact h.mb2 c
    · omega
  · rcases hk with hk | hk
    · exact Nat.lt_of_lt_of_le (h.flt k hk) t3
    · subst hk; exact heap_lt q1
theorem many_peek (i r : Nat) (l : List UInt8) (n : Int) (h : Many F w0 w mb rs Ls m p) (hr : rs[i]? = some r) (hl : Ls[i]? = some l) :
    Calls Try.prog 13 #[.pointer (some ⟨r, 0, none⟩), .int .i64 n] w fun e w' => ∃ g, e = .returned (.slice (some ⟨g, 0, none⟩) (clp n l.length) (clp n l.length)) ∧ w.heap.size ≤ g ∧
      w'.heap[g]? = some (.cells (rowB (l.take (clp n l.length))).toArray 5) ∧ Many (fun k => F k ∨ k = g) w0 w' mb rs Ls m p ∧ Below w.heap.size w w' := by
  have hf := h.fit
  have ht := h.top
  have hge := tot_ge Ls i l hl
  have hR : ∃ S, Rg w r mb S l := by obtain ⟨S, h⟩ := h; exact ⟨_, h.rg i r l hr hl⟩
  obtain ⟨S, hR⟩ := hR
  refine (peek_any r mb S l n w hR (by omega)).mono ?_
  rintro e w' ⟨rfl, q1, q2⟩
  exact ⟨_, rfl, Nat.le_refl _, q1, h.step (Kp.ofBelow (T := fun _ => False) q2) (fun _ c => c.elim) (fun i hi => by
    rcases hi with c | c
    · exact .inl c
    · subst c; exact .inr ⟨Nat.le_refl _, heap_lt q1⟩), q2⟩
theorem many_len (i r : Nat) (l : List UInt8) (h : Many F w0 w mb rs Ls m p) (hr : rs[i]? = some r) (hl : Ls[i]? = some l) :
    Calls Try.prog 17 #[.pointer (some ⟨r, 0, none⟩)] w fun e w' => e = .returned (.int .i64 l.length) ∧ w' = w := by
  obtain ⟨S, h⟩ := h
  exact len_any r mb _ l w (h.rg i r l hr hl)
theorem many_drop (i r : Nat) (l : List UInt8) (h : Many F w0 w mb rs Ls m p) (hr : rs[i]? = some r) (hl : Ls[i]? = some l) :
    Calls Try.prog 14 #[.pointer (some ⟨r, 0, none⟩)] w fun e w' => e = .returned (.int .i64 l.length) ∧ Many F w0 w' mb rs (Ls.set i []) m (gvP (tot Ls : Nat) p l.length) ∧ (∀ k, F k → w'.heap[k]? = w.heap[k]?) ∧ w.heap.size ≤ w'.heap.size := by
  obtain ⟨S, h⟩ := h
  have hge := tot_ge Ls i l hl
  refine (drop_any r mb (S i) l m (tot Ls : Nat) p w (h.rg i r l hr hl) h.isM (by omega) h.fit h.top (by omega)).mono ?_
  rintro e w' ⟨rfl, q2, q3, q4⟩
  have hset := tot_set Ls i l [] hl
  rw [List.length_nil] at hset
  have hfit := h.fit
  exact ⟨rfl, h.turn i r l [] (S i) _ hr hl q2 (by rw [show ((tot (Ls.set i []) : Nat) : Int) = (tot Ls : Nat) - l.length by omega]; exact q3) (fun k hk => .inl hk) q4 (by omega)⟩
end
theorem many_start {w0 w : World} {mb : Nat} {m : Int} (hM : IsM w mb m 0 0) (h0 : 0 ≤ m) (h2 : m ≤ 1099511627776) (hb : w0.heap.size ≤ mb) (hB : Below w0.heap.size w0 w) : Many (fun k => k < w0.heap.size) w0 w mb [] [] m 0 :=
  ⟨fun _ _ => False, rfl, (fun i r l h => by simp at h), (fun i j h => by simp at h), (fun i h => by simp at h), hM, hb, (fun c => by omega), (fun k hk => by have := hB.size; omega), h0, h2, hB⟩
theorem many_new {F : Nat → Prop} {w0 w : World} {mb : Nat} {rs : List Nat} {Ls : List (List UInt8)} {m p : Int} (h : Many F w0 w mb rs Ls m p) :
    Calls Try.prog 6 #[.pointer (some ⟨mb, 0, none⟩)] w fun e w' => ∃ r, e = .returned (.pointer (some ⟨r, 0, none⟩)) ∧ r = w.heap.size ∧ Many F w0 w' mb (rs ++ [r]) (Ls ++ [[]]) m p ∧ Below w.heap.size w w' := by
  have hm := h.isM.lt
  have hflt := h.flt
  refine (newr_any mb w h.isM.lt).mono ?_
  rintro e w' ⟨rfl, q1, q2⟩
  refine ⟨_, rfl, rfl, ?_, q2⟩
  obtain ⟨S0, h0⟩ := h
  have hlt : ∀ j, j < rs.length → ∀ k, S0 j k → k < w.heap.size := fun j hj k hk =>
    (h0.rg j _ _ (List.getElem?_eq_getElem hj) (List.getElem?_eq_getElem (by rw [← h0.len]; exact hj))).lt k hk
  have hwb := h0.bel.size
  have e : ∀ (i : Nat) {x : Nat}, (rs ++ [w.heap.size])[i]? = some x → (i < rs.length ∧ rs[i]? = some x) ∨ (i = rs.length ∧ x = w.heap.size) := fun i x hx => by
    rcases Nat.lt_or_ge i rs.length with c | c
    · rw [List.getElem?_append_left c] at hx; exact .inl ⟨c, hx⟩
    · rw [List.getElem?_append_right c] at hx
      have : i - rs.length = 0 := by
        rcases Nat.eq_zero_or_pos (i - rs.length) with d | d
        · exact d
        · rw [List.getElem?_eq_none (by simp; omega)] at hx; cases hx
      rw [this] at hx
      exact .inr ⟨by omega, by simpa using hx.symm⟩
  have et : tot (Ls ++ [[]]) = tot Ls := by simp [tot]
  refine ⟨fun i => if i = rs.length then (fun k => k = w.heap.size) else S0 i, by simp [h0.len], fun i r l hr hl => ?_, fun i j hi hj hij k hk => ?_, fun i hi k hk => ?_, by rw [et]; exact Below.isM q2 hm h0.isM, h0.mb1, h0.mb2, fun k hk => Nat.lt_of_lt_of_le (hflt k hk) q2.size, by rw [et]; exact h0.fit, h0.top, h0.bel.trans (q2.mono hwb)⟩
  · rcases e i hr with ⟨c, hr'⟩ | ⟨c, hr'⟩
    · simp only [if_neg (Nat.ne_of_lt c)]
      exact (h0.rg i r l hr' (by rwa [List.getElem?_append_left (by rw [← h0.len]; exact c)] at hl)).keep (Kp.ofBelow (T := fun _ => False) q2) (fun _ _ c => c)
    · simp only [if_pos c]
      subst hr'
      rw [c, h0.len, List.getElem?_append_right (Nat.le_refl _)] at hl
      have : l = [] := by simpa using hl.symm
      subst this
      exact q1
  · rw [List.length_append, List.length_singleton] at hi hj
    by_cases ei : i = rs.length
    · simp only [if_pos ei] at hk
      have ej : j ≠ rs.length := fun c => hij (ei.trans c.symm)
      simp only [if_neg ej]
      intro c
      have := hlt j (by omega) k c
      omega
    · simp only [if_neg ei] at hk
      by_cases ej : j = rs.length
      · simp only [if_pos ej]
        have := hlt i (by omega) k hk
        omega
      · simp only [if_neg ej]
        exact h0.dis i j (by omega) (by omega) hij k hk
  · rw [List.length_append, List.length_singleton] at hi
    by_cases ei : i = rs.length
    · simp only [if_pos ei] at hk
      subst hk
      exact ⟨hwb, fun c => by have := hflt _ c; omega⟩
    · simp only [if_neg ei] at hk
      exact h0.lo i (by omega) k hk
end Go.Proofs.Ytenajbefknlalaa
