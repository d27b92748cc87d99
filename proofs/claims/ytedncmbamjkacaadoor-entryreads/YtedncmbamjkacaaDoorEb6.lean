/- Texts that the proof leans on, one behind the other: EnS EaA Stp AccS EaB EaC Vh -/
import Derived.Test.YtedncmbamjkacaaDoorEa3
import Derived.Test.YtedncmbamjkacaaDoorEa2
import Derived.Deep.RegionHeld3
import Derived.Deep.AppendLies
import Derived.Test.YtedncmbamjkacaaDoorEb5
/- What every right record's line is like: one byte 10, eight blanks, a digit that isn't 0 ahead; what isn't so is no line (plain). -/
namespace Go.Proofs.YtedncmbamjkacaaDoor
open Go.RowKit
set_option linter.unusedVariables false

theorem count_none {z : UInt8} {l : List UInt8} (h : z ∉ l) : l.count z = 0 := List.count_eq_zero.2 h
theorem joinTail_count (z : UInt8) : ∀ ws : List (List UInt8), (∀ p ∈ ws, z ∉ p) → (Lib.joinTail [32] ws).count z = if z = 32 then ws.length else 0
  | [], _ => by unfold Lib.joinTail; split <;> rfl
  | x :: ws, h => by
    have e : Lib.joinTail [32] (x :: ws) = 32 :: (x ++ Lib.joinTail [32] ws) := by simp [Lib.joinTail]
    rw [e, List.count_cons, List.count_append, count_none (h x (List.mem_cons_self ..)), joinTail_count z ws fun p hp => h p (List.mem_cons_of_mem _ hp)]
    by_cases hz : z = 32
    · subst hz; simp
    · have : ¬ (32 : UInt8) = z := fun h => hz h.symm
      simp [hz, this]
theorem join_cons (x : List UInt8) (ws : List (List UInt8)) : Lib.join (x :: ws) [32] = x ++ Lib.joinTail [32] ws := by
  induction ws generalizing x with
  | nil => simp [Lib.join, Lib.joinTail, List.intercalate, List.intersperse]
  | cons y ws ih =>
    have k := ih y
    have e : Lib.joinTail [32] (y :: ws) = 32 :: (y ++ Lib.joinTail [32] ws) := by simp [Lib.joinTail]
    rw [e, ← k]
    simp [Lib.join, List.intercalate, List.intersperse]
theorem line_form (e : EntP) : lineL e = (itoaS e.q).data.toList ++ (Lib.joinTail [32] ((wordsE e).tail.map (·.data.toList)) ++ [10]) := by
  have h : (wordsE e).map (·.data.toList) = (itoaS e.q).data.toList :: (wordsE e).tail.map (·.data.toList) := rfl
  unfold lineL
  rw [h, join_cons, List.append_assoc]
theorem tail_clean {e : EntP} (h : rightE e = true) : ∀ p ∈ (wordsE e).tail.map (·.data.toList), (10 : UInt8) ∉ p ∧ (32 : UInt8) ∉ p := by
  intro p hp
  obtain ⟨q, hq, rfl⟩ := List.mem_map.1 hp
  exact words_clean h q (List.mem_of_mem_tail hq)
theorem q_pos {e : EntP} (h : rightE e = true) : 1 ≤ e.q := by
  unfold rightE withinP inB at h
  simp only [Bool.and_eq_true, decide_eq_true_eq] at h
  exact h.1.1.1
theorem line_c10 {e : EntP} (h : rightE e = true) : (lineL e).count 10 = 1 := by
  rw [line_form, List.count_append, List.count_append, count_none (itoa_clean _ (by have := q_pos h; omega)).1, joinTail_count 10 _ fun p hp => (tail_clean h p hp).1]
  rfl
theorem line_c32 {e : EntP} (h : rightE e = true) : (lineL e).count 32 = 8 := by
  rw [line_form, List.count_append, List.count_append, count_none (itoa_clean _ (by have := q_pos h; omega)).2, joinTail_count 32 _ fun p hp => (tail_clean h p hp).2]
  rfl
theorem dec_head (u : Nat) (h0 : 0 < u) : ∃ z r, Lib.decDigits u = z :: r ∧ 49 ≤ z.toNat ∧ z.toNat ≤ 57 := by
  induction u using Nat.strongRecOn with
  | ind u ih =>
    by_cases h : u < 10
    · rw [rx_dec_small h]
      exact ⟨_, _, rfl, by rw [UInt8.toNat_ofNat']; omega, by rw [UInt8.toNat_ofNat']; omega⟩
    · obtain ⟨z, r, e, h1, h2⟩ := ih (u / 10) (by omega) (by omega)
      rw [rx_dec_big h, e]
      exact ⟨z, _, rfl, h1, h2⟩
theorem line_head {e : EntP} (h : rightE e = true) : ∃ z r, lineL e = z :: r ∧ 49 ≤ z.toNat ∧ z.toNat ≤ 57 := by
  have hq := q_pos h
  obtain ⟨z, r, k, h1, h2⟩ := dec_head e.q.toNat (by omega)
  rw [line_form, itoa_dec _ (by omega), k]
  exact ⟨z, _, rfl, h1, h2⟩
theorem not_line {l : List UInt8} (h : l.count 10 ≠ 1 ∨ l.count 32 ≠ 8 ∨ (∃ z r, l = z :: r ∧ (z.toNat < 49 ∨ 57 < z.toNat))) : codR ⟨l.toArray⟩ = 20 := by
  unfold codR
  by_cases k : okR ⟨l.toArray⟩ = true
  · obtain ⟨h1, h2⟩ := read_line k
    have e : (ByteArray.mk l.toArray).data.toList = l := rfl
    rw [e] at h2
    rcases h with h | h | ⟨z, r, e1, h⟩
    · exact absurd (by rw [← h2]; exact line_c10 h1) h
    · exact absurd (by rw [← h2]; exact line_c32 h1) h
    · obtain ⟨z', r', e2, q1, q2⟩ := line_head h1
      rw [h2, e1] at e2
      obtain ⟨rfl, _⟩ := List.cons.inj e2
      omega
  · rw [if_neg k]
theorem line_end (e : EntP) : ∃ l, lineL e = l ++ [10] := ⟨_, rfl⟩
/-- Where the blanks are. -/
def blanksL (l : List UInt8) : List Nat := (List.range l.length).filter fun i => l.getD i 0 == 32
def blanksTo (l : List UInt8) (k : Nat) : List Nat := (List.range k).filter fun i => l.getD i 0 == 32
theorem blanksTo_succ (l : List UInt8) (k : Nat) : blanksTo l (k + 1) = blanksTo l k ++ (if l.getD k 0 == 32 then [k] else []) := by
  unfold blanksTo
  rw [List.range_succ, List.filter_append]
  congr 1
  rw [List.filter_cons, List.filter_nil]
theorem blanksTo_count (l : List UInt8) : ∀ k, k ≤ l.length → (blanksTo l k).length = (l.take k).count 32
  | 0, _ => rfl
  | k + 1, h => by
    rw [blanksTo_succ, List.length_append, blanksTo_count l k (by omega), List.take_succ_eq_append_getElem (by omega), List.count_append]
    congr 1
    have e : l.getD k 0 = l[k] := by simp [List.getD_eq_getElem?_getD, List.getElem?_eq_getElem (show k < l.length by omega)]
    rw [e]
    by_cases c : l[k] = 32
    · simp [c]
    · have : (l[k] == 32) = false := by simpa using c
      rw [this, List.count_singleton, this]; rfl
theorem blanks_len {e : EntP} (h : rightE e = true) : (blanksTo (lineL e) (lineL e).length).length = 8 := by
  rw [blanksTo_count _ _ (Nat.le_refl _), List.take_length, line_c32 h]
theorem blanksTo_at {l : List UInt8} {k i : Nat} (h : i ∈ blanksTo l k) : i < k ∧ l.getD i 0 = 32 := by
  unfold blanksTo at h
  obtain ⟨h1, h2⟩ := List.mem_filter.1 h
  exact ⟨List.mem_range.1 h1, by simpa using h2⟩
theorem words0 {e : EntP} (h : rightE e = true) (k : Nat) : codR ⟨(((lineL e).take k ++ [32]) ++ (lineL e).drop k).toArray⟩ = 20 := by
  refine not_line (.inr (.inl ?_))
  have := line_c32 h
  rw [← List.take_append_drop k (lineL e), List.count_append] at this
  rw [List.count_append, List.count_append]
  have e1 : ([32] : List UInt8).count 32 = 1 := rfl
  omega
theorem words1 {e : EntP} (h : rightE e = true) : codR ⟨([32] ++ lineL e).toArray⟩ = 20 := by
  refine not_line (.inr (.inl ?_))
  rw [List.count_append, line_c32 h]
  decide
theorem words2 (z : UInt8) (hz : z = 48 ∨ z = 45) (e : EntP) : codR ⟨([z] ++ lineL e).toArray⟩ = 20 :=
  not_line (.inr (.inr ⟨z, _, rfl, by rcases hz with rfl | rfl <;> decide⟩))
theorem words3 {e : EntP} (h : rightE e = true) : codR ⟨((lineL e).take ((lineL e).length - 1)).toArray⟩ = 20 := by
  refine not_line (.inl ?_)
  obtain ⟨l, hl⟩ := line_end e
  have k := line_c10 h
  rw [hl, List.count_append] at k
  have e1 : ([10] : List UInt8).count 10 = 1 := rfl
  rw [hl, List.length_append, List.length_singleton, Nat.add_sub_cancel, List.take_left']
  · omega
  · rfl
theorem words4 {e : EntP} (h : rightE e = true) : codR ⟨(lineL e ++ [10]).toArray⟩ = 20 := by
  refine not_line (.inl ?_)
  rw [List.count_append, line_c10 h]
  decide
theorem words5 {e : EntP} (h : rightE e = true) {k : Nat} (hk : k < (lineL e).length) (hb : (lineL e).getD k 0 = 32) : codR ⟨((lineL e).set k 9).toArray⟩ = 20 := by
  refine not_line (.inr (.inl ?_))
  have c := line_c32 h
  have e0 : (lineL e)[k] = 32 := by rw [← hb]; simp [List.getD_eq_getElem?_getD, List.getElem?_eq_getElem hk]
  have q := List.count_set (a := (9 : UInt8)) (b := 32) hk
  rw [q, e0, c]
  decide
theorem words6 {e : EntP} (h : rightE e = true) : codR ⟨(((lineL e).take ((lineL e).length - 1) ++ [32, 49]) ++ [10]).toArray⟩ = 20 := by
  refine not_line (.inr (.inl ?_))
  obtain ⟨l, hl⟩ := line_end e
  have k := line_c32 h
  rw [hl, List.count_append] at k
  have e1 : ([10] : List UInt8).count 32 = 0 := rfl
  have e2 : ([32, 49] : List UInt8).count 32 = 1 := rfl
  rw [hl, List.length_append, List.length_singleton, Nat.add_sub_cancel, List.take_left', List.count_append, List.count_append]
  · omega
  · rfl
end Go.Proofs.YtedncmbamjkacaaDoor

/- EntryAll, plain: lines one behind the other; records whose numbers go up. -/
namespace Go.Proofs.YtedncmbamjkacaaDoor
open Go.RowKit
set_option linter.unusedVariables false

theorem lnA_piece : ∀ (c acc l : List UInt8), (10 : UInt8) ∉ c → lnA acc (c ++ 10 :: l) = (acc ++ c ++ [10]) :: lnA [] l
  | [], acc, l, _ => by
    show (if (10 : UInt8) = 10 then (acc ++ [10]) :: lnA [] l else lnA (acc ++ [10]) l) = _
    rw [if_pos rfl, List.append_nil]
  | b :: c, acc, l, h => by
    have hb : b ≠ 10 := fun e => h (by rw [e]; exact List.mem_cons_self ..)
    show (if b = 10 then (acc ++ [b]) :: lnA [] (c ++ 10 :: l) else lnA (acc ++ [b]) (c ++ 10 :: l)) = _
    rw [if_neg hb, lnA_piece c (acc ++ [b]) l (fun q => h (List.mem_cons_of_mem _ q))]
    simp
theorem lnA_rest : ∀ (c acc : List UInt8), (10 : UInt8) ∉ c → acc ++ c ≠ [] → lnA acc c = [acc ++ c]
  | [], acc, _, hn => by
    rw [List.append_nil] at hn ⊢
    unfold lnA
    rw [if_neg hn]
  | b :: c, acc, h, hn => by
    have hb : b ≠ 10 := fun e => h (by rw [e]; exact List.mem_cons_self ..)
    unfold lnA
    rw [if_neg hb, lnA_rest c (acc ++ [b]) (fun q => h (List.mem_cons_of_mem _ q)) (by simp)]
    simp
theorem line_split {e : EntP} (h : rightE e = true) : ∃ c, lineL e = c ++ [10] ∧ (10 : UInt8) ∉ c ∧ c ≠ [] ∧ c = (lineL e).take ((lineL e).length - 1) := by
  obtain ⟨c, hc⟩ := line_end e
  have h1 := line_c10 h
  have h2 := line_c32 h
  rw [hc, List.count_append] at h1 h2
  refine ⟨c, hc, fun q => ?_, fun q => ?_, ?_⟩
  · have := List.count_pos_iff.2 q
    simp at h1
    omega
  · rw [q] at h2
    simp at h2
  · rw [hc]
    simp
/-- The lines of records. -/
def flatE (E : List EntP) : List UInt8 := (E.map lineL).flatten
theorem flat_snoc (E : List EntP) (e : EntP) : flatE (E ++ [e]) = flatE E ++ lineL e := by unfold flatE; simp
theorem lines_flat : ∀ (E : List EntP) (r : List UInt8), (∀ e ∈ E, rightE e = true) → lnA [] (flatE E ++ r) = E.map lineL ++ lnA [] r
  | [], r, _ => rfl
  | e :: E, r, h => by
    obtain ⟨c, hc, h10, _⟩ := line_split (h e (List.mem_cons_self ..))
    have e1 : flatE (e :: E) ++ r = c ++ 10 :: (flatE E ++ r) := by
      show (lineL e ++ flatE E) ++ r = _
      rw [hc]
      simp
    rw [e1, lnA_piece c [] _ h10, lines_flat E r (fun x hx => h x (List.mem_cons_of_mem _ hx)), List.map_cons, hc]
    rfl
theorem lines_all (E : List EntP) (h : ∀ e ∈ E, rightE e = true) : linesL (flatE E) = E.map lineL := by
  have := lines_flat E [] h
  rw [List.append_nil] at this
  show lnA [] _ = _
  rw [this]
  show _ ++ [] = _
  rw [List.append_nil]
theorem take_m1 (X : List UInt8) : (X ++ [10]).take ((X ++ [10]).length - 1) = X := by simp
theorem lines_cut (E : List EntP) (e : EntP) (h : ∀ x ∈ E, rightE x = true) (he : rightE e = true) : linesL ((flatE (E ++ [e])).take ((flatE (E ++ [e])).length - 1)) = E.map lineL ++ [(lineL e).take ((lineL e).length - 1)] := by
  obtain ⟨c, hc, h10, hne, hct⟩ := line_split he
  have e1 : (flatE (E ++ [e])).take ((flatE (E ++ [e])).length - 1) = flatE E ++ c := by
    rw [flat_snoc, hc, ← List.append_assoc]
    exact take_m1 _
  rw [e1, ← hct]
  show lnA [] _ = _
  rw [lines_flat E c h, lnA_rest c [] h10 (by simpa using hne)]
  rfl
theorem ok_line {e : EntP} (h : rightE e = true) : okL (lineL e) = true ∧ valL (lineL e) = e := read_back h
theorem vals_all : ∀ (E : List EntP), (∀ e ∈ E, rightE e = true) → (E.map lineL).map valL = E ∧ (E.map lineL).all okL = true
  | [], _ => ⟨rfl, rfl⟩
  | e :: E, h => by
    have ih := vals_all E (fun x hx => h x (List.mem_cons_of_mem _ hx))
    have k := ok_line (h e (List.mem_cons_self ..))
    refine ⟨?_, ?_⟩
    · rw [List.map_cons, List.map_cons, k.2, ih.1]
    · rw [List.map_cons, List.all_cons, k.1, ih.2]; rfl
theorem good_all (E : List EntP) (h : ∀ e ∈ E, rightE e = true) : goodB (E.map lineL) = linkB E := by
  obtain ⟨h1, h2⟩ := vals_all E h
  unfold goodB
  rw [h1, h2, Bool.true_and]
theorem good_pre : ∀ (n : Nat) (t xs : List (List UInt8)), t.length = n → goodB (xs ++ t) = true → goodB xs = true
  | 0, t, xs, hn, h => by
    rw [List.length_eq_zero_iff.1 hn, List.append_nil] at h; exact h
  | n + 1, t, xs, hn, h => by
    rcases List.eq_nil_or_concat t with q | ⟨t', z, q⟩
    · rw [q] at hn; cases hn
    · rw [q, List.concat_eq_append, ← List.append_assoc, good_snoc] at h
      refine good_pre n t' xs ?_ (by cases hg : goodB (xs ++ t'); · rw [hg] at h; cases h
                                     · rfl)
      rw [q, List.concat_eq_append, List.length_append] at hn
      simpa using hn
theorem all_good {w w' : World} {b : List UInt8} {r : Ending} (hg : goodB (linesL b) = true) (h : AllR w b r w') : Below w.heap.size w w' ∧ ∃ v, r = .returned (.tuple #[v, .int .i64 0]) ∧ OwnE w.heap.size w' v ((linesL b).map valL) := by
  obtain ⟨h0, ⟨_, h1⟩ | ⟨pre, x, ⟨t, ht⟩, _, h2, _⟩⟩ := h
  · exact ⟨h0, h1⟩
  · rw [← ht] at hg
    rw [good_pre _ t _ rfl hg] at h2
    cases h2
theorem all_bad {w w' : World} {b : List UInt8} {r : Ending} (hg : goodB (linesL b) = false) (ho : (linesL b).all okL = true) (h : AllR w b r w') : Below w.heap.size w w' ∧ r = .returned (.tuple #[.slice none 0 0, .int .i64 1]) := by
  obtain ⟨h0, ⟨h1, _⟩ | ⟨pre, x, ⟨t, ht⟩, _, h2, h3⟩⟩ := h
  · rw [hg] at h1; cases h1
  · refine ⟨h0, ?_⟩
    rw [← ht] at ho
    simp only [List.all_append, List.all_cons, Bool.and_eq_true] at ho
    rw [h3, if_pos ho.1.2.1]
theorem all_cut {w w' : World} {b c : List UInt8} {P : List (List UInt8)} {r : Ending} (hl : linesL b = P ++ [c]) (hp : goodB P = true) (hc : okL c = false) (h : AllR w b r w') : Below w.heap.size w w' ∧ r = .returned (.tuple #[.slice none 0 0, .int .i64 20]) := by
  obtain ⟨h0, ⟨h1, _⟩ | ⟨pre, x, ⟨t, ht⟩, _, h2, h3⟩⟩ := h
  · rw [hl, good_snoc, hc] at h1
    simp at h1
  · refine ⟨h0, ?_⟩
    rw [hl] at ht
    rcases List.eq_nil_or_concat t with q | ⟨t', z, q⟩
    · rw [q, List.append_nil] at ht
      have := List.append_inj_right' ht rfl
      injection this with e _
      rw [h3, e, if_neg (by rw [hc]; decide)]
    · rw [q, List.concat_eq_append, ← List.append_assoc] at ht
      have e := List.append_inj_left' ht rfl
      rw [← e] at hp
      rw [good_pre _ t' _ rfl hp] at h2
      cases h2
theorem cut_bad {e : EntP} (h : rightE e = true) : okL ((lineL e).take ((lineL e).length - 1)) = false := by
  have := words3 h
  unfold codR at this
  cases k : okL ((lineL e).take ((lineL e).length - 1))
  · rfl
  · unfold okL at k
    rw [if_pos k] at this
    cases this
/-- The records with numbers from f on. -/
def tagL : Int → List EntP → List EntP
  | _, [] => []
  | f, e :: r => { e with q := f } :: tagL (f + 1) r
theorem tag_len : ∀ (es : List EntP) (f : Int), (tagL f es).length = es.length
  | [], _ => rfl
  | e :: r, f => by show _ + 1 = _ + 1; rw [tag_len r]
theorem tag_at : ∀ (es : List EntP) (f : Int) (i : Nat) (h : i < es.length), (tagL f es)[i]'(by rw [tag_len]; exact h) = { es[i] with q := f + (i : Int) }
  | e :: r, f, 0, _ => by show ({ e with q := f } : EntP) = { e with q := f + 0 }; rw [Int.add_zero]
  | e :: r, f, i + 1, h => by
    have h' : i < r.length := by simpa using h
    show (tagL (f + 1) r)[i]'_ = { r[i] with q := f + ((i + 1 : Nat) : Int) }
    rw [tag_at r (f + 1) i h', show f + ((i + 1 : Nat) : Int) = f + 1 + (i : Int) by omega]
theorem link_tag : ∀ (es : List EntP) (f : Int), linkB (tagL f es) = true
  | [], _ => rfl
  | [e], _ => rfl
  | e :: e2 :: r, f => by
    show (decide (f + 1 = f + 1) && linkB (tagL (f + 1) (e2 :: r))) = true
    rw [link_tag (e2 :: r) (f + 1), decide_eq_true rfl]
    rfl
theorem link_less : ∀ (es : List EntP) (f : Int) (k : Nat), 1 ≤ k → k + 1 < es.length → linkB ((tagL f es).eraseIdx k) = false
  | [], _, _, _, h => by simp at h
  | [e], _, _, _, h => by simp at h
  | [e, e2], _, k, h1, h => by simp at h; omega
  | e :: e2 :: e3 :: r, f, 1, _, _ => by
    show (decide (f + 1 + 1 = f + 1) && linkB (tagL (f + 1 + 1) (e3 :: r))) = false
    rw [decide_eq_false (by omega)]
    rfl
  | e :: e2 :: e3 :: r, f, k + 2, _, h => by
    show (decide (f + 1 = f + 1) && linkB ((tagL (f + 1) (e2 :: e3 :: r)).eraseIdx (k + 1))) = false
    rw [link_less (e2 :: e3 :: r) (f + 1) (k + 1) (by omega) (by simp at h ⊢; omega), Bool.and_false]
theorem link_ends (es : List EntP) (f : Int) (k : Nat) (hk : k < es.length) (h : k = 0 ∨ k = es.length - 1) : linkB ((tagL f es).eraseIdx k) = true := by
  rcases h with rfl | rfl
  · cases es with
    | nil => rfl
    | cons e r => exact link_tag r (f + 1)
  · have key : ∀ (es : List EntP) (f : Int), (tagL f es).eraseIdx (es.length - 1) = tagL f es.dropLast := by
      intro es
      induction es with
      | nil => intro f; rfl
      | cons e r ih =>
        intro f
        cases r with
        | nil => rfl
        | cons e2 r =>
          show ({ e with q := f } : EntP) :: (tagL (f + 1) (e2 :: r)).eraseIdx ((e2 :: r).length - 1) = { e with q := f } :: tagL (f + 1) (e2 :: r).dropLast
          rw [ih]
    rw [key]
    exact link_tag _ _
theorem erase_snoc (A : List EntP) (e : EntP) (k : Nat) : (A ++ [e]).eraseIdx k = if k = A.length then A.eraseIdx k else A.eraseIdx k ++ [e] := by
  rcases Nat.lt_trichotomy k A.length with h | h | h
  · rw [if_neg (by omega), List.eraseIdx_append_of_lt_length h]
  · rw [if_pos h, List.eraseIdx_append_of_length_le (by omega), h, Nat.sub_self, List.eraseIdx_of_length_le (Nat.le_refl _)]
    show A ++ [] = A
    rw [List.append_nil]
  · rw [if_neg (by omega), List.eraseIdx_append_of_length_le (by omega), List.eraseIdx_of_length_le (l := A) (by omega), List.eraseIdx_of_length_le (by simp; omega)]
theorem itoa_len {z : Int} (h0 : 0 ≤ z) (h1 : z ≤ 1125899906842624) : (itoaS z).data.toList.length ≤ 16 := by
  rw [itoa_dec z h0]
  exact dec_len 15 z.toNat (by omega)
theorem right_parts {e : EntP} (h : rightE e = true) : (1 ≤ e.q ∧ e.q ≤ 1125899906842624) ∧ (0 ≤ e.a ∧ e.a ≤ 1125899906842624) ∧ (0 ≤ e.k ∧ e.k ≤ 1125899906842624) ∧ (1 ≤ e.n ∧ e.n ≤ 2147483647) ∧ (0 ≤ e.c ∧ e.c ≤ 999) ∧ (0 ≤ e.u ∧ e.u ≤ 1125899906842624) ∧ (0 ≤ e.d ∧ e.d ≤ 1125899906842624) ∧ e.m.size ≤ 20 ∧ e.t.size ≤ 512 := by
  unfold rightE withinP inB at h
  simp only [Bool.and_eq_true, decide_eq_true_eq] at h
  obtain ⟨⟨h1, h2, h3, h4, h5, h6, h7⟩, h8, _, h9, _⟩ := h
  exact ⟨h1, h2, h3, h4, h5, h6, h7, h8, h9⟩
theorem joinT_len : ∀ ws : List (List UInt8), (Lib.joinTail [32] ws).length = (ws.map (fun x => x.length + 1)).sum
  | [] => rfl
  | x :: ws => by
    rw [joinT_cons, List.length_cons, List.length_append, joinT_len ws, List.map_cons, List.sum_cons]
    omega
theorem line_len {e : EntP} (h : rightE e = true) : (lineL e).length ≤ 800 := by
  obtain ⟨h1, h2, h3, h4, h5, h6, h7, h8, h9⟩ := right_parts h
  have l1 := itoa_len (z := e.q) (by omega) h1.2
  have l2 := itoa_len h2.1 h2.2
  have l3 := itoa_len h3.1 h3.2
  have l4 := itoa_len (z := e.n) (by omega) (by omega)
  have l5 := itoa_len (z := e.c) h5.1 (by omega)
  have l6 := itoa_len h6.1 h6.2
  have l7 := itoa_len h7.1 h7.2
  have l8 : e.m.data.toList.length ≤ 20 := h8
  have l9 : e.t.data.toList.length ≤ 512 := h9
  rw [line_form, List.length_append, List.length_append, joinT_len]
  have e1 : ((wordsE e).tail.map (·.data.toList)).map (fun x => x.length + 1) = [(itoaS e.a).data.toList.length + 1, (itoaS e.k).data.toList.length + 1, (itoaS e.n).data.toList.length + 1, e.m.data.toList.length + 1, e.t.data.toList.length + 1, (itoaS e.c).data.toList.length + 1, (itoaS e.u).data.toList.length + 1, (itoaS e.d).data.toList.length + 1] := rfl
  rw [e1]
  simp only [List.sum_cons, List.sum_nil, List.length_cons, List.length_nil]
  omega
theorem flat_len : ∀ (E : List EntP), (∀ e ∈ E, rightE e = true) → (flatE E).length ≤ 800 * E.length
  | [], _ => Nat.le_refl _
  | e :: E, h => by
    have h1 := line_len (h e (List.mem_cons_self ..))
    have h2 := flat_len E (fun x hx => h x (List.mem_cons_of_mem _ hx))
    show (lineL e ++ flatE E).length ≤ 800 * (E.length + 1)
    rw [List.length_append]
    omega
end Go.Proofs.YtedncmbamjkacaaDoor

/- An append in a region that draws its order. -/
namespace Go.Proofs.YtedncmbamjkacaaDoor
open Go.RowKit
set_option linter.unusedVariables false

theorem step_own {ops : Array Oper} {o : Oper} {a : Act} {K : Act → World → Prop} {Q : Exit → Act → World → Prop} {E : Prop} {w : World} (hgd : o.guard = none) (s x : Operand)
    (ho : o.op = .call { callee := .builtin .append, args := #[s, x], argTypes := #[25, 25] }) (hty : o.type = 25)
    (B : Nat) (v : Value) (X : List UInt8) (hs : a.eval s = v) (hown : Own B w v X) (k : Nat) (ad : Option Addr) (n c : Nat) (Y : List UInt8) (hx : a.eval x = .slice ad n c) (hsrc : Src w k (.slice ad n c) Y) (hnil : ad = none → c = 0) (hmax : X.length + Y.length ≤ 140737488355328) (hB : B ≤ w.heap.size)
    (h : ∀ v' w', Own B w' v' (X ++ Y) → Below B w w' → K (a.put o.dst v') w') :
    if Region.wanted o (yielded ops a.tmps) = true then Oper.wp Tryd.prog o a w K Q else E := by
  have hw : Region.wanted o (yielded ops a.tmps) = true := by simp [Region.wanted, hgd]
  rw [if_pos hw]
  obtain ⟨v', w', hr, O, Bl⟩ := own_append hown hsrc hnil hmax hB
  unfold Oper.wp execOp
  simp only [ho, hty, resolve, invoke, builtin, Sem.run_bind, Sem.run_pure, Result.andThen_ok, List.map_toArray, List.map_cons, List.map_nil, hs, hx, hr]
  exact h v' w' O Bl
theorem Own.drewN {B : Nat} {w : World} {v : Value} {X : List UInt8} (h : Own B w v X) (n : Nat) : Own B (w.drewN n) v X := by
  obtain ⟨h1, h2⟩ := h
  refine ⟨h1, ?_⟩
  rcases h2 with h2 | ⟨g, cap, cur, hv, hg, hh, r⟩
  · exact .inl h2
  · exact .inr ⟨g, cap, cur, hv, hg, by simpa [World.drewN] using hh, r⟩
end Go.Proofs.YtedncmbamjkacaaDoor

/- Two rows of bytes that grow side by side. -/
namespace Go.Proofs.YtedncmbamjkacaaDoor
open Go.RowKit
set_option linter.unusedVariables false

theorem res_inj {α : Type} {v v' : α} {w w' : World} (h : (Result.ok v w : Result α) = .ok v' w') : v = v' := by cases h; rfl
set_option maxRecDepth 100000 in
theorem acc_append_str {w : World} {g : Nat} {v : Value} {X : List UInt8} {s : ByteArray} (h : Acc w g v X) (hmax : X.length + s.size ≤ 140737488355328) :
    ∃ v' w' g', (Builtin.append_ #[25, 9] 25 #[v, .string s]).run Tryd.prog w = .ok v' w' ∧ Acc w' g' v' (X ++ s.data.toList) ∧ (g' = g ∨ (w.heap.size ≤ g' ∧ g' < w'.heap.size)) ∧ Kp (fun k => k = g) w w' := by
  obtain ⟨i, hi, hz0, hz1, hz2⟩ := info_parts infoB3
  obtain ⟨v', w', hr, q1, q2, q3⟩ := Lib.run_append_own_string (P := Tryd.prog) w 0 25 9 25 5 i Tryd.underlying25 Tryd.underlying9 hi hz0 hz1 hz2 v X.length (rowB X) h.2 s (by unfold maxLen; omega) hmax (Nat.zero_le _)
  have hk : Kp (fun k => k = g) w w' := ⟨q2.os, q2.tape, q2.output, q2.size, fun j hj hn => q2.block j hj (fun c => hn (by rw [h.1] at c; exact Option.some.inj c))⟩
  have hrow : w'.ownsRow 0 5 1 v' (X ++ s.data.toList).length (rowB (X ++ s.data.toList)) := by rw [List.length_append, rowB_app]; exact q1
  have h0 := h
  obtain ⟨e1, e2, ⟨e3, _⟩ | ⟨g', c, cur, hv, hB, hg, hl, hm, hs, ht⟩⟩ := h
  · rw [e3] at e1; cases e1
  · have hgg : g' = g := by rw [hv] at e1; simpa [Value.ownBlock] using e1
    subst hgg
    by_cases hroom : X.length + s.size ≤ c
    · have hr2 := Lib.run_append_room_string (P := Tryd.prog) w 25 9 25 5 i Tryd.underlying25 Tryd.underlying9 hi hz1 g' X.length c cur hg s hroom (by omega)
      rw [hv, hr2] at hr
      have hb : v'.ownBlock = some g' := by rw [← res_inj hr]; rfl
      exact ⟨v', w', g', by rw [hv, hr2]; exact hr, ⟨hb, hrow⟩, .inl rfl, hk⟩
    · have hr2 := Lib.run_append_grow_string (P := Tryd.prog) w 25 9 25 5 i (.int .u8 0) Tryd.underlying25 Tryd.underlying9 hi hz0 ⟨g', 0, none⟩ X.length c (rowB X) (by rw [hz1, rowB_length]; omega) ((hv ▸ h0.2 : w.ownsRow 0 5 1 (.slice (some ⟨g', 0, none⟩) X.length c) X.length (rowB X)).cells (g := g') rfl) s (by omega) (by omega) (by rw [hz2]; exact growslice_fits (by omega) (by omega))
      rw [hv, hr2] at hr
      have hb : v'.ownBlock = some w.heap.size := by rw [← res_inj hr]; rfl
      exact ⟨v', w', w.heap.size, by rw [hv, hr2]; exact hr, ⟨hb, hrow⟩, .inr ⟨Nat.le_refl _, Acc.lt ⟨hb, hrow⟩⟩, hk⟩

/-- Two rows, x and y, in blocks of their own. -/
def Two (w wr : World) (vx vy : Value) (x y : List UInt8) : Prop := ∃ gx gy, Acc wr gx vx x ∧ Acc wr gy vy y ∧ gx ≠ gy ∧ w.heap.size ≤ gx ∧ w.heap.size ≤ gy ∧ Below w.heap.size w wr
theorem Two.bel {w wr : World} {vx vy : Value} {x y : List UInt8} (h : Two w wr vx vy x y) : Below w.heap.size w wr := by obtain ⟨_, _, _, _, _, _, _, b⟩ := h; exact b
theorem Two.swap {w wr : World} {vx vy : Value} {x y : List UInt8} (h : Two w wr vx vy x y) : Two w wr vy vx y x := by
  obtain ⟨gx, gy, h1, h2, h3, h4, h5, h6⟩ := h; exact ⟨gy, gx, h2, h1, Ne.symm h3, h5, h4, h6⟩
theorem Two.keep {w wr wr' : World} {vx vy : Value} {x y : List UInt8} (h : Two w wr vx vy x y) (b : Below wr.heap.size wr wr') : Two w wr' vx vy x y := by
  obtain ⟨gx, gy, h1, h2, h3, h4, h5, h6⟩ := h
  exact ⟨gx, gy, h1.frame (b.block gx h1.lt), h2.frame (b.block gy h2.lt), h3, h4, h5, h6.trans (b.mono h6.size)⟩
theorem Two.alloc {w wr : World} {vx vy : Value} {x y : List UInt8} (h : Two w wr vx vy x y) (o : Obj) : Two w (wr.alloc o) vx vy x y := h.keep ((Below.refl _ _).alloc (Nat.le_refl _) _)
theorem Two.drew {w wr : World} {vx vy : Value} {x y : List UInt8} (h : Two w wr vx vy x y) : Two w wr.drew vx vy x y := h.keep (Below.refl _ _).drew
theorem two_after {w wr w' : World} {vx vy v' : Value} {x y x' : List UInt8} {gx gy g' : Nat} (h2 : Acc wr gy vy y) (h3 : gx ≠ gy) (h4 : w.heap.size ≤ gx) (h5 : w.heap.size ≤ gy) (h6 : Below w.heap.size w wr) (ha : Acc w' g' v' x') (hg : g' = gx ∨ (wr.heap.size ≤ g' ∧ g' < w'.heap.size)) (hk : Kp (fun k => k = gx) wr w') : Two w w' v' vy x' y := by
  have hl := h2.lt
  have hs := h6.size
  exact ⟨g', gy, ha, h2.frame (hk.block gy hl (fun e => h3 e.symm)), by omega, by omega, h5, h6.trans (hk.below h6.size (fun k hk e => by omega))⟩
theorem Two.app {w wr : World} {vx vy : Value} {x y Y : List UInt8} {k : Nat} {a : Option Addr} {n c : Nat} (h : Two w wr vx vy x y) (hs : Src wr k (.slice a n c) Y) (hnil : a = none → c = 0) (hmax : x.length + Y.length ≤ 140737488355328) :
    ∃ v' w', (Builtin.append_ #[25, 25] 25 #[vx, .slice a n c]).run Tryd.prog wr = .ok v' w' ∧ Two w w' v' vy (x ++ Y) y := by
  obtain ⟨gx, gy, h1, h2, h3, h4, h5, h6⟩ := h
  obtain ⟨v', w', g', r, ha, hg, hk⟩ := acc_append h1 hs hnil hmax
  exact ⟨v', w', r, two_after (vx := vx) (x := x) h2 h3 h4 h5 h6 ha hg hk⟩
theorem Two.appS {w wr : World} {vx vy : Value} {x y : List UInt8} {s : ByteArray} (h : Two w wr vx vy x y) (hmax : x.length + s.size ≤ 140737488355328) :
    ∃ v' w', (Builtin.append_ #[25, 9] 25 #[vx, .string s]).run Tryd.prog wr = .ok v' w' ∧ Two w w' v' vy (x ++ s.data.toList) y := by
  obtain ⟨gx, gy, h1, h2, h3, h4, h5, h6⟩ := h
  obtain ⟨v', w', g', r, ha, hg, hk⟩ := acc_append_str h1 hmax
  exact ⟨v', w', r, two_after (vx := vx) (x := x) h2 h3 h4 h5 h6 ha hg hk⟩
theorem Two.app2 {w wr : World} {vx vy : Value} {x y Y : List UInt8} {k : Nat} {a : Option Addr} {n c : Nat} (h : Two w wr vx vy x y) (hs : Src wr k (.slice a n c) Y) (hnil : a = none → c = 0) (hmax : x.length + Y.length ≤ 140737488355328) :
    ∃ v' w', (Builtin.append_ #[25, 25] 25 #[vx, .slice a n c]).run Tryd.prog wr = .ok v' w' ∧ Two w w' v' vy (x ++ Y) y ∧ (∀ u, Two w u vx vy x y → ∀ k, u.heap.size ≤ k → k < wr.heap.size → w'.heap[k]? = wr.heap[k]?) := by
  obtain ⟨gx, gy, h1, h2, h3, h4, h5, h6⟩ := h
  obtain ⟨v', w', g', r, ha, hg, hk⟩ := acc_append h1 hs hnil hmax
  refine ⟨v', w', r, two_after (vx := vx) (x := x) h2 h3 h4 h5 h6 ha hg hk, ?_⟩
  rintro u ⟨gu, _, q1, _⟩ j hj hj2
  have e : gu = gx := by have := q1.1.symm.trans h1.1; exact Option.some.inj this
  have hl := q1.lt
  exact hk.block j hj2 (fun c => by omega)
theorem step_two2 {ops : Array Oper} {o : Oper} {a : Act} {K : Act → World → Prop} {Q : Exit → Act → World → Prop} {E : Prop} {W : World} (hgd : o.guard = none) (s x : Operand)
    (ho : o.op = .call { callee := .builtin .append, args := #[s, x], argTypes := #[25, 25] }) (hty : o.type = 25)
    (w : World) (vx vy : Value) (X Z : List UInt8) (hs : a.eval s = vx) (h : Two w W vx vy X Z) (k : Nat) (ad : Option Addr) (n c : Nat) (Y : List UInt8) (hx : a.eval x = .slice ad n c) (hsrc : Src W k (.slice ad n c) Y) (hnil : ad = none → c = 0) (hmax : X.length + Y.length ≤ 140737488355328)
    (hK : ∀ v' w', Two w w' v' vy (X ++ Y) Z → (∀ u, Two w u vx vy X Z → ∀ k, u.heap.size ≤ k → k < W.heap.size → w'.heap[k]? = W.heap[k]?) → K (a.put o.dst v') w') :
    if Region.wanted o (yielded ops a.tmps) = true then Oper.wp Tryd.prog o a W K Q else E := by
  have hw : Region.wanted o (yielded ops a.tmps) = true := by simp [Region.wanted, hgd]
  rw [if_pos hw]
  obtain ⟨v', w', hr, O, F⟩ := h.app2 hsrc hnil hmax
  unfold Oper.wp execOp
  simp only [ho, hty, resolve, invoke, builtin, Sem.run_bind, Sem.run_pure, Result.andThen_ok, List.map_toArray, List.map_cons, List.map_nil, hs, hx, hr]
  exact hK v' w' O F
theorem step_index {ops : Array Oper} {o : Oper} {a : Act} {K : Act → World → Prop} {Q : Exit → Act → World → Prop} {E : Prop} {W : World} (hgd : o.guard = none) (t : TypeId) (s x : Operand)
    (ho : o.op = .index t s x) (vs vx v : Value) (hs : a.eval s = vs) (hx : a.eval x = vx) (hr : (Instr.index t vs vx).run Tryd.prog W = .ok v W) (hK : K (a.put o.dst v) W) :
    if Region.wanted o (yielded ops a.tmps) = true then Oper.wp Tryd.prog o a W K Q else E := by
  have hw : Region.wanted o (yielded ops a.tmps) = true := by simp [Region.wanted, hgd]
  rw [if_pos hw]
  unfold Oper.wp execOp
  simp only [ho, Sem.run_bind, Sem.run_pure, Result.andThen_ok, hs, hx, hr]
  exact hK
theorem Two.new (w wr : World) (hB : Below w.heap.size w wr) : Two w ((wr.alloc (.cells #[] 5)).alloc (.cells #[] 5)) (.slice (some ⟨wr.heap.size, 0, none⟩) 0 0) (.slice (some ⟨wr.heap.size + 1, 0, none⟩) 0 0) [] [] := by
  have h1 := (Acc.empty wr).frame (w' := (wr.alloc (.cells #[] 5)).alloc (.cells #[] 5)) (((Below.refl _ _).alloc (Nat.le_refl _) _).block wr.heap.size (by simp))
  have h2 := Acc.empty (wr.alloc (.cells #[] 5))
  have e : (wr.alloc (.cells #[] 5)).heap.size = wr.heap.size + 1 := by simp
  rw [e] at h2
  exact ⟨wr.heap.size, wr.heap.size + 1, h1, h2, by omega, hB.size, by have := hB.size; omega, (hB.alloc hB.size _).alloc (by have := hB.size; simp; omega) _⟩
end Go.Proofs.YtedncmbamjkacaaDoor

/- EntryAll: records that came in; records compared in rows; three rows that grow side by side. -/
namespace Go.Proofs.YtedncmbamjkacaaDoor
open Go.ChangeShapes Go.WideShapes Go.ChangeAt Go.RowKit
set_option linter.unusedVariables false

/-- Records in memory that are only read. -/
def Ens (w : World) (a : Option Addr) (es : List EntP) : Prop := es.length ≤ maxLen ∧ (0 < es.length → ∃ g off, a = some ⟨g, off, none⟩ ∧ g < w.heap.size ∧ ∀ (i : Nat) (h : i < es.length) (j : Nat) (v : Value), (entV es[i])[j]? = some v → w.cell? ⟨g, off + i * 9 + j, none⟩ = some v)
theorem Ens.keep {w w' : World} {a : Option Addr} {es : List EntP} (h : Ens w a es) (b : Below w.heap.size w w') : Ens w' a es := ⟨h.1, fun hp => by
  obtain ⟨g, off, e, hg, hc⟩ := h.2 hp
  exact ⟨g, off, e, Nat.lt_of_lt_of_le hg b.size, fun i hi j v hv => (b.cell (p := ⟨g, off + i * 9 + j, none⟩) hg).trans (hc i hi j v hv)⟩⟩
theorem Ens.cells {w : World} {g off : Nat} {es : List EntP} (h : Ens w (some ⟨g, off, none⟩) es) (i : Nat) (hi : i < es.length) : w.cell? ⟨g, off + i * 9, none⟩ = some (.int .i64 es[i].q) ∧ w.cell? ⟨g, off + i * 9 + 1, none⟩ = some (.int .i64 es[i].a) ∧ w.cell? ⟨g, off + i * 9 + 2, none⟩ = some (.int .i64 es[i].k) ∧ w.cell? ⟨g, off + i * 9 + 3, none⟩ = some (.int .i64 es[i].n) ∧ w.cell? ⟨g, off + i * 9 + 4, none⟩ = some (.string es[i].m) ∧ w.cell? ⟨g, off + i * 9 + 5, none⟩ = some (.string es[i].t) ∧ w.cell? ⟨g, off + i * 9 + 6, none⟩ = some (.int .i64 es[i].c) ∧ w.cell? ⟨g, off + i * 9 + 7, none⟩ = some (.int .i64 es[i].u) ∧ w.cell? ⟨g, off + i * 9 + 8, none⟩ = some (.int .i64 es[i].d) := by
  obtain ⟨g', off', e, _, hc⟩ := h.2 (by omega)
  obtain ⟨rfl, rfl⟩ : g = g' ∧ off = off' := by
    have := Option.some.inj e
    exact ⟨congrArg Addr.block this, congrArg Addr.off this⟩
  exact ⟨hc i hi 0 _ rfl, hc i hi 1 _ rfl, hc i hi 2 _ rfl, hc i hi 3 _ rfl, hc i hi 4 _ rfl, hc i hi 5 _ rfl, hc i hi 6 _ rfl, hc i hi 7 _ rfl, hc i hi 8 _ rfl⟩
theorem OwnE.ens {N : Nat} {w : World} {a : Option Addr} {len c : Nat} {es : List EntP} (h : OwnE N w (.slice a len c) es) : Ens w a es ∧ len = es.length := by
  obtain ⟨h1, ⟨h2, h3⟩ | ⟨g, c', cur, hv, hB, hg, hl, hm, hs, ht⟩⟩ := h
  · obtain ⟨e1, e2, e3⟩ := slice_inj h2
    exact ⟨⟨by omega, fun q => by omega⟩, by omega⟩
  · obtain ⟨e1, e2, e3⟩ := slice_inj hv
    subst e1
    refine ⟨⟨by omega, fun _ => ⟨g, 0, rfl, (Array.getElem?_eq_some_iff.1 hg).1, fun i hi j v hj => ?_⟩⟩, e2⟩
    have hj9 : j < 9 := by
      have := (Array.getElem?_eq_some_iff.1 hj).1
      exact this
    rw [Nat.zero_add]
    refine ring_cell hg ?_
    have k : (cur.toList.take (es.length * 9))[i * 9 + j]? = (rowE es)[i * 9 + j]? := by rw [ht]
    rw [List.getElem?_take_of_lt (by omega), rowE_at es i hi j hj9] at k
    rw [← Array.getElem?_toList, k]; exact hj
theorem ent_neq (a : EntP) (W : World) : (binOp .neq 23 (.agg (entV a)) (.agg (entV a))).run Tryd.prog W = .ok (.bool false) W := by
  have h := ent_eql a a W
  rw [(sameE_iff a a).2 rfl, run_eql_struct] at h
  rw [run_neq_struct]
  cases hx : (Op.equalIn 10000 23 (.agg (entV a)) (.agg (entV a))).run Tryd.prog W with
  | ok b w' =>
    rw [hx] at h
    simp only [Result.andThen] at h ⊢
    cases h
    rfl
  | _ => rw [hx] at h; cases h
set_option maxRecDepth 100000 in
theorem open_entries {H : Type} {enc : TypeId × Value → H} {w : World} {base : Nat} {held : Bool} {a : Option Addr} {len cap : Nat} {x : DataW H × List MemPlace}
    (h : ∃ fuel, DataW.trod enc Tryd.prog w base (fun _ => true) held fuel 36 (Value.slice a len cap).cells.toList = some x) :
    ∃ es : List EntP, es.length = len ∧ Ens w a es ∧ ∀ e ∈ es, e.m.size ≤ maxLen ∧ e.t.size ≤ maxLen := by
  have k2 : Tryd.prog.cellsOf 2 = 1 := by kernel_rfl
  have k3 : Tryd.prog.cellsOf 3 = 1 := by kernel_rfl
  have k9 : Tryd.prog.cellsOf 9 = 1 := by kernel_rfl
  have kE : Tryd.prog.cellsOf 23 = 9 := by kernel_rfl
  obtain ⟨fuel, hf⟩ := h
  rcases Go.Deep.open_slice Tryd.underlying36 hf with ⟨hcs, hx⟩ | ⟨ad, l, c, m, n, D, Pl, hcs, hb, hl, hm, hmm, hx, hc⟩
  · simp [Value.cells] at hcs
    obtain ⟨rfl, rfl, rfl⟩ := hcs
    exact ⟨[], rfl, ⟨Nat.zero_le _, fun h => absurd h (Nat.lt_irrefl _)⟩, fun e he => by cases he⟩
  · simp [Value.cells] at hcs
    obtain ⟨rfl, rfl, rfl⟩ := hcs
    have hmm' : m = cap := by simpa using hmm
    subst hmm'
    have each : ∀ i, i < len → ∃ e : EntP, (∀ (j : Nat) (v : Value), (entV e)[j]? = some v → w.cell? (ad.add (i * 9 + j)) = some v) ∧ e.m.size ≤ maxLen ∧ e.t.size ≤ maxLen := by
      intro i hi
      obtain ⟨cs', h1, h2⟩ := hc i (by omega)
      rw [kE] at h1
      obtain ⟨_, hlen, hcell⟩ := World.cells?_some h1
      obtain ⟨xs, k, hk, hxy, _, hxl, hg⟩ := DataW.trod_struct Tryd.underlying23 h2
      match xs, hxl, cs', hlen with
      | [y0, y1, y2, y3, y4, y5, y6, y7, y8], _, [v0, v1, v2, v3, v4, v5, v6, v7, v8], _ =>
        have g0 := hg 0 _ rfl
        have g1 := hg 1 _ rfl
        have g2 := hg 2 _ rfl
        have g3 := hg 3 _ rfl
        have g4 := hg 4 _ rfl
        have g5 := hg 5 _ rfl
        have g6 := hg 6 _ rfl
        have g7 := hg 7 _ rfl
        have g8 := hg 8 _ rfl
        simp [k2, k3, k9] at g0 g1 g2 g3 g4 g5 g6 g7 g8
        have e0 := hcell 0 (by omega)
        have e1 := hcell 1 (by omega)
        have e2 := hcell 2 (by omega)
        have e3 := hcell 3 (by omega)
        have e4 := hcell 4 (by omega)
        have e5 := hcell 5 (by omega)
        have e6 := hcell 6 (by omega)
        have e7 := hcell 7 (by omega)
        have e8 := hcell 8 (by omega)
        rw [Go.Deep.add_add] at e0 e1 e2 e3 e4 e5 e6 e7 e8
        obtain ⟨s0, a0, _⟩ := DataW.trod_int Tryd.underlying2 g0
        obtain ⟨s1, a1, _⟩ := DataW.trod_int Tryd.underlying2 g1
        obtain ⟨s2, a2, _⟩ := DataW.trod_int Tryd.underlying2 g2
        obtain ⟨s3, a3, _⟩ := DataW.trod_int Tryd.underlying3 g3
        obtain ⟨s4, a4, _, z4⟩ := DataW.trod_string Tryd.underlying9 g4
        obtain ⟨s5, a5, _, z5⟩ := DataW.trod_string Tryd.underlying9 g5
        obtain ⟨s6, a6, _⟩ := DataW.trod_int Tryd.underlying3 g6
        obtain ⟨s7, a7, _⟩ := DataW.trod_int Tryd.underlying3 g7
        obtain ⟨s8, a8, _⟩ := DataW.trod_int Tryd.underlying3 g8
        have a0' : v0 = .int .i64 s0 := by simpa using a0
        have a1' : v1 = .int .i64 s1 := by simpa using a1
        have a2' : v2 = .int .i64 s2 := by simpa using a2
        have a3' : v3 = .int .i64 s3 := by simpa using a3
        have a4' : v4 = .string s4 := by simpa using a4
        have a5' : v5 = .string s5 := by simpa using a5
        have a6' : v6 = .int .i64 s6 := by simpa using a6
        have a7' : v7 = .int .i64 s7 := by simpa using a7
        have a8' : v8 = .int .i64 s8 := by simpa using a8
        subst a0' a1' a2' a3' a4' a5' a6' a7' a8'
        refine ⟨⟨s0, s1, s2, s3, s4, s5, s6, s7, s8⟩, fun j v hj => ?_, z4, z5⟩
        match j, hj with
        | 0, hj => rw [← hj]; exact e0
        | 1, hj => rw [← hj]; exact e1
        | 2, hj => rw [← hj]; exact e2
        | 3, hj => rw [← hj]; exact e3
        | 4, hj => rw [← hj]; exact e4
        | 5, hj => rw [← hj]; exact e5
        | 6, hj => rw [← hj]; exact e6
        | 7, hj => rw [← hj]; exact e7
        | 8, hj => rw [← hj]; exact e8
        | j + 9, hj => exact absurd (Array.getElem?_eq_some_iff.1 hj).1 (by show ¬ j + 9 < 9; omega)
    haveI : Inhabited EntP := ⟨zeroE⟩
    obtain ⟨q, hq⟩ := Go.Deep.choose_lt each
    have hql : ((List.range len).map q).length = len := by simp
    refine ⟨(List.range len).map q, hql, ⟨by rw [hql]; omega, fun hp => ?_⟩, fun e he => ?_⟩
    · rw [hql] at hp
      obtain ⟨b, off, spot⟩ := ad
      have hc0 := (hq 0 hp).1 0 _ rfl
      have hspot : spot = none := by simpa [Addr.add] using World.cell?_spot hc0
      subst hspot
      refine ⟨b, off, rfl, ?_, fun i hi j v hj => ?_⟩
      · have hb0 : (⟨b, off, none⟩ : Addr).block < w.heap.size := by
          have : w.cell? ((⟨b, off, none⟩ : Addr).add (0 * 9 + 0)) = _ := hc0
          unfold World.cell? at this
          rcases Nat.lt_or_ge b w.heap.size with c | c
          · exact c
          · simp [Addr.add, Array.getElem?_eq_none c] at this
        exact hb0
      · have hi' : i < len := by rw [hql] at hi; exact hi
        have e : ((List.range len).map q)[i] = q i := by simp
        rw [e] at hj
        have k := (hq i hi').1 j v hj
        rw [addr_add] at k
        rw [Nat.add_assoc]; exact k
    · obtain ⟨i, hi, rfl⟩ := List.mem_map.1 he
      exact (hq i (List.mem_range.1 hi)).2
end Go.Proofs.YtedncmbamjkacaaDoor

/- EntryAll: Same of equal rows; three rows that grow side by side. -/
namespace Go.Proofs.YtedncmbamjkacaaDoor
open Go.RowKit
set_option linter.unusedVariables false

theorem hidE {p : Prop} (h : p) : Hid p := h
set_option maxRecDepth 100000 in
set_option maxHeartbeats 4000000 in
theorem r13same_eq (es : List EntP) (a b : Option Addr) (c d : Nat) (w : World) (ha : Ens w a es) (hb : Ens w b es) (hl : es.length ≤ 100000) :
    Calls Tryd.prog 15 #[.slice a es.length c, .slice b es.length d] w fun e w' => e = .returned (.bool true) ∧ Below w.heap.size w w' := by
  obtain ⟨n, hn⟩ : ∃ n, n = es.length := ⟨_, rfl⟩
  have HN : Hid (es.length = n) := hn.symm
  have HA := hidE (fun W (b : Below w.heap.size w W) => ha.keep b)
  have HB := hidE (fun W (b : Below w.heap.size w W) => hb.keep b)
  rw [← hn] at hl ⊢
  clear ha hb hn
  go_enter Tryd.func15, Tryd.ntmps15
  go_wp2_with fail
  go_loopw [5] (fun vi wr => ∃ i : Nat, i ≤ n ∧ vi = .int .i64 i ∧ Hid (Below w.heap.size w wr)) (fun vi _ => n - (intOf vi).toNat)
  case atStart => exact ⟨0, Nat.zero_le _, rfl, Below.refl _ _⟩
  case round =>
    obtain ⟨i, hi, rfl, HBE⟩ := hrel
    by_cases hlt : i < n
    · have ka := HA.out _ HBE.out
      have kb := HB.out _ HBE.out
      obtain ⟨g, off, rfl, _, _⟩ := ka.2 (by rw [HN.out]; omega)
      obtain ⟨g2, off2, rfl, _, _⟩ := kb.2 (by rw [HN.out]; omega)
      obtain ⟨p0, p1, p2, p3, p4, p5, p6, p7, p8⟩ := ka.cells i (by rw [HN.out]; exact hlt)
      obtain ⟨q0, q1, q2, q3, q4, q5, q6, q7, q8⟩ := kb.cells i (by rw [HN.out]; exact hlt)
      have hne := ent_neq (es[i]'(by rw [HN.out]; exact hlt))
      generalize es[i]'(by rw [HN.out]; exact hlt) = e at *
      unfold entV at hne
      have m1 : (0 : Int) ≤ i := by omega
      have m2 : (i : Int) < n := by omega
      have HB2 : Hid (Below w.heap.size w wr.drew) := HBE.out.drew
      have hne2 := hne wr.drew
      clear ka kb HBE hne
      go_wp2_with fail
      go_region_held3 (fun W => W.cell? ⟨g, off + i * 9, none⟩ = some (.int .i64 e.q) ∧ W.cell? ⟨g, off + i * 9 + 1, none⟩ = some (.int .i64 e.a) ∧ W.cell? ⟨g, off + i * 9 + 2, none⟩ = some (.int .i64 e.k) ∧ W.cell? ⟨g, off + i * 9 + 3, none⟩ = some (.int .i64 e.n) ∧ W.cell? ⟨g, off + i * 9 + 4, none⟩ = some (.string e.m) ∧ W.cell? ⟨g, off + i * 9 + 5, none⟩ = some (.string e.t) ∧ W.cell? ⟨g, off + i * 9 + 6, none⟩ = some (.int .i64 e.c) ∧ W.cell? ⟨g, off + i * 9 + 7, none⟩ = some (.int .i64 e.u) ∧ W.cell? ⟨g, off + i * 9 + 8, none⟩ = some (.int .i64 e.d) ∧ W.cell? ⟨g2, off2 + i * 9, none⟩ = some (.int .i64 e.q) ∧ W.cell? ⟨g2, off2 + i * 9 + 1, none⟩ = some (.int .i64 e.a) ∧ W.cell? ⟨g2, off2 + i * 9 + 2, none⟩ = some (.int .i64 e.k) ∧ W.cell? ⟨g2, off2 + i * 9 + 3, none⟩ = some (.int .i64 e.n) ∧ W.cell? ⟨g2, off2 + i * 9 + 4, none⟩ = some (.string e.m) ∧ W.cell? ⟨g2, off2 + i * 9 + 5, none⟩ = some (.string e.t) ∧ W.cell? ⟨g2, off2 + i * 9 + 6, none⟩ = some (.int .i64 e.c) ∧ W.cell? ⟨g2, off2 + i * 9 + 7, none⟩ = some (.int .i64 e.u) ∧ W.cell? ⟨g2, off2 + i * 9 + 8, none⟩ = some (.int .i64 e.d)) (go_keep) (first | fail)
      clear p0 p1 p2 p3 p4 p5 p6 p7 p8 q0 q1 q2 q3 q4 q5 q6 q7 q8
      go_wp2
      go_roundw
      case rel => exact ⟨i + 1, by omega, by go_num, HB2⟩
      case measure => simp [intOf]; omega
    · obtain rfl : i = n := by omega
      go_wp2
      go_ret
      exact ⟨rfl, HBE.out⟩
theorem acc_blk {w : World} {g : Nat} {v : Value} {X : List UInt8} (h : Acc w g v X) : ∃ cur, w.heap[g]? = some (.cells cur 5) := by
  obtain ⟨h1, h2, h3 | ⟨g', c, cur, hv, _, hg, _⟩⟩ := h
  · rw [h3.1] at h1; cases h1
  · rw [hv] at h1
    obtain rfl : g' = g := by simpa [Value.ownBlock] using h1
    exact ⟨cur, hg⟩
theorem OwnE.blk {N : Nat} {w : World} {v : Value} {es : List EntP} (h : OwnE N w v es) : ∀ k, v.ownBlock = some k → ∃ cur, w.heap[k]? = some (.cells cur 23) := by
  obtain ⟨_, ⟨h2, h3⟩ | ⟨g, c, cur, hv, hB, hg, _⟩⟩ := h
  · subst h2; intro k hk; cases hk
  · subst hv; intro k hk
    obtain rfl : g = k := by simpa [Value.ownBlock] using hk
    exact ⟨cur, hg⟩
theorem OwnE.move {N : Nat} {w w' : World} {v : Value} {es : List EntP} (h : OwnE N w v es) (hk : ∀ (k : Nat) (cur : Array Value), w.heap[k]? = some (Obj.cells cur 23) → w'.heap[k]? = w.heap[k]?) : OwnE N w' v es := by
  obtain ⟨h1, h2⟩ := h
  refine ⟨h1, ?_⟩
  rcases h2 with h2 | ⟨g, c, cur, hv, hB, hg, r⟩
  · exact .inl h2
  · exact .inr ⟨g, c, cur, hv, hB, (hk g cur hg).trans hg, r⟩
/-- The three rows. -/
structure Tri (w wr : World) (vb vl ve : Value) (x y : List UInt8) (E : List EntP) : Prop where
  two : Two w wr vb vl x y
  row : OwnE w.heap.size wr ve E
theorem Tri.keep {w wr wr' : World} {vb vl ve : Value} {x y : List UInt8} {E : List EntP} (h : Tri w wr vb vl ve x y E) (b : Below wr.heap.size wr wr') : Tri w wr' vb vl ve x y E :=
  ⟨h.two.keep b, h.row.move fun k cur hk => b.block k (Array.getElem?_eq_some_iff.1 hk).1⟩
/-- Bytes appended to the first row. -/
theorem Tri.app {w wr : World} {vb vl ve : Value} {x y Y : List UInt8} {E : List EntP} {k : Nat} {a : Option Addr} {n c : Nat} (h : Tri w wr vb vl ve x y E) (hs : Src wr k (.slice a n c) Y) (hnil : a = none → c = 0) (hmax : x.length + Y.length ≤ 140737488355328) :
    ∃ v' w', (Builtin.append_ #[25, 25] 25 #[vb, .slice a n c]).run Tryd.prog wr = .ok v' w' ∧ Tri w w' v' vl ve (x ++ Y) y E ∧ wr.heap.size ≤ w'.heap.size ∧ ∀ k, k < wr.heap.size → vb.ownBlock ≠ some k → w'.heap[k]? = wr.heap[k]? := by
  obtain ⟨gx, gy, h1, h2, h3, h4, h5, h6⟩ := h.two
  obtain ⟨v', w', g', r, ha, hg, hk⟩ := acc_append h1 hs hnil hmax
  obtain ⟨cu, hcu⟩ := acc_blk h1
  refine ⟨v', w', r, ⟨two_after (vx := vb) (x := x) h2 h3 h4 h5 h6 ha hg hk, h.row.move fun j cur hj => hk.block j (Array.getElem?_eq_some_iff.1 hj).1 (fun e => by
    subst e
    rw [hcu] at hj
    injection hj with hj
    injection hj with _ e _
    exact absurd e (by decide))⟩, hk.size, fun j hj hn => hk.block j hj (fun e => hn (by rw [e]; exact h1.1))⟩
theorem Tri.swap {w wr : World} {vb vl ve : Value} {x y : List UInt8} {E : List EntP} (h : Tri w wr vb vl ve x y E) : Tri w wr vl vb ve y x E := ⟨h.two.swap, h.row⟩
theorem Tri.own {w wr : World} {vb vl ve : Value} {x y : List UInt8} {E : List EntP} (h : Tri w wr vb vl ve x y E) : ∃ g, vb.ownBlock = some g ∧ g < wr.heap.size ∧ w.heap.size ≤ g ∧ (∃ c, vb = .slice (some ⟨g, 0, none⟩) x.length c) ∧ Src wr g vb x := by
  obtain ⟨gx, gy, h1, h2, h3, h4, h5, h6⟩ := h.two
  exact ⟨gx, h1.1, h1.lt, h4, h1.form, h1.src⟩
/-- A record appended. -/
theorem Tri.push {w wr : World} {vb vl ve : Value} {x y : List UInt8} {E : List EntP} (h : Tri w wr vb vl ve x y E) (e : EntP) (ad : Addr) (hc : ∀ i u, (entV e)[i]? = some u → wr.cell? (ad.add i) = some u) (hmax : E.length ≤ 1000) :
    ∃ g' c' w', (Builtin.append_ #[36, 36] 36 #[ve, .slice (some ad) 1 1]).run Tryd.prog wr = .ok (.slice (some ⟨g', 0, none⟩) (E.length + 1) c') w' ∧ Tri w w' vb vl (.slice (some ⟨g', 0, none⟩) (E.length + 1) c') x y (E ++ [e]) := by
  obtain ⟨gx, gy, h1, h2, h3, h4, h5, h6⟩ := h.two
  obtain ⟨g', c', w', r, O, G, _⟩ := ownE_append h.row e ad hc (by omega) h6.size
  have key : ∀ {k : Nat} {cur : Array Value}, wr.heap[k]? = some (.cells cur 5) → w'.heap[k]? = wr.heap[k]? := fun {k cur} hk => G.block k (Array.getElem?_eq_some_iff.1 hk).1 (fun q => by
    obtain ⟨cur2, hc2⟩ := h.row.blk k q.symm
    rw [hk] at hc2
    injection hc2 with hc2
    injection hc2 with _ e _
    exact absurd e (by decide))
  obtain ⟨c1, hc1⟩ := acc_blk h1
  obtain ⟨c2, hc2⟩ := acc_blk h2
  exact ⟨g', c', w', r, ⟨⟨gx, gy, h1.frame (key hc1), h2.frame (key hc2), h3, h4, h5, h6.grown G h6.size (fun k q => (World.ownsRow.lt h.row k q).1)⟩, O⟩⟩
end Go.Proofs.YtedncmbamjkacaaDoor

/- EntryReads: its walk. -/
namespace Go.Proofs.YtedncmbamjkacaaDoor
open Go.RowKit
set_option linter.unusedVariables false

/-- Two readings of the same bytes: both rows are of the same records, or both have the same error. -/
theorem first_bad {L : List (List UInt8)} : ∀ {p q : List (List UInt8)} {x y : List UInt8}, p ++ [x] <+: L → goodB p = true → goodB (p ++ [x]) = false → q ++ [y] <+: L → goodB q = true → goodB (q ++ [y]) = false → x = y := by
  have key : ∀ {p q : List (List UInt8)} {x y : List UInt8}, p ++ [x] <+: L → goodB (p ++ [x]) = false → q ++ [y] <+: L → goodB q = true → ¬ p.length < q.length := by
    intro p q x y h1 h2 h3 h4 hl
    have h5 : p ++ [x] <+: q ++ [y] := List.prefix_of_prefix_length_le h1 h3 (by rw [List.length_append, List.length_append]; simp; omega)
    obtain ⟨t, ht⟩ := List.prefix_of_prefix_length_le h5 (List.prefix_append q [y]) (by rw [List.length_append]; simp; omega)
    rw [← ht] at h4
    rw [good_pre _ t _ rfl h4] at h2
    cases h2
  intro p q x y h1 h2 h3 h4 h5 h6
  have a := key h1 h3 h4 h5
  have b := key h4 h6 h1 h2
  have e : p ++ [x] = q ++ [y] := (List.prefix_of_prefix_length_le h1 h4 (by rw [List.length_append, List.length_append]; simp; omega)).eq_of_length (by rw [List.length_append, List.length_append]; simp; omega)
  have := (List.append_inj e (by omega)).2
  exact (List.cons.inj this).1
/-- The two records in their blocks. -/
structure RdK (w : World) (i j : Nat) (x : EntP) (W : World) : Prop where
  bel : Below w.heap.size w W
  bx : W.heap[i]? = some (.cells (entV x) 23)
  by' : W.heap[j]? = some (.cells (entV x) 23)
theorem RdK.next {w W V : World} {i j : Nat} {x : EntP} (h : RdK w i j x W) (b : Below W.heap.size W V) : RdK w i j x V := ⟨h.bel.trans (b.mono h.bel.size), tblk_below h.bx b, tblk_below h.by' b⟩
theorem RdK.cells {w W : World} {i j : Nat} {x : EntP} (h : RdK w i j x W) : W.cell? ⟨i, 0, none⟩ = some (.int .i64 x.q) ∧ W.cell? ⟨i, 1, none⟩ = some (.int .i64 x.a) ∧ W.cell? ⟨i, 2, none⟩ = some (.int .i64 x.k) ∧ W.cell? ⟨i, 3, none⟩ = some (.int .i64 x.n) ∧ W.cell? ⟨i, 4, none⟩ = some (.string x.m) ∧ W.cell? ⟨i, 5, none⟩ = some (.string x.t) ∧ W.cell? ⟨i, 6, none⟩ = some (.int .i64 x.c) ∧ W.cell? ⟨i, 7, none⟩ = some (.int .i64 x.u) ∧ W.cell? ⟨i, 8, none⟩ = some (.int .i64 x.d) ∧ W.cell? ⟨j, 0, none⟩ = some (.int .i64 x.q) ∧ W.cell? ⟨j, 1, none⟩ = some (.int .i64 x.a) ∧ W.cell? ⟨j, 2, none⟩ = some (.int .i64 x.k) ∧ W.cell? ⟨j, 3, none⟩ = some (.int .i64 x.n) ∧ W.cell? ⟨j, 4, none⟩ = some (.string x.m) ∧ W.cell? ⟨j, 5, none⟩ = some (.string x.t) ∧ W.cell? ⟨j, 6, none⟩ = some (.int .i64 x.c) ∧ W.cell? ⟨j, 7, none⟩ = some (.int .i64 x.u) ∧ W.cell? ⟨j, 8, none⟩ = some (.int .i64 x.d) :=
  ⟨tblk_cell h.bx rfl, tblk_cell h.bx rfl, tblk_cell h.bx rfl, tblk_cell h.bx rfl, tblk_cell h.bx rfl, tblk_cell h.bx rfl, tblk_cell h.bx rfl, tblk_cell h.bx rfl, tblk_cell h.bx rfl, tblk_cell h.by' rfl, tblk_cell h.by' rfl, tblk_cell h.by' rfl, tblk_cell h.by' rfl, tblk_cell h.by' rfl, tblk_cell h.by' rfl, tblk_cell h.by' rfl, tblk_cell h.by' rfl, tblk_cell h.by' rfl⟩
/-- What one reading answers, and what another one then has: the same error, and a row of the same records. -/
theorem one_all {w w1 : World} {b : List UInt8} {r : Ending} (h1 : AllR w b r w1) (hb : b.length ≤ 20000) :
    ∃ (x : Option Addr) (m c : Nat) (z : Int), r = .returned (.tuple #[.slice x m c, .int .i64 z]) ∧ Hid (∀ (s : Ending) (V : World), AllR w1 b s V → ∃ (y : Option Addr) (d : Nat), s = .returned (.tuple #[.slice y m d, .int .i64 z]) ∧ Hid (∀ W, Below V.heap.size V W → Calls Tryd.prog 15 #[.slice x m c, .slice y m d] W fun e w' => e = .returned (.bool true) ∧ Below W.heap.size W w')) := by
  obtain ⟨_, ⟨g1, x, e1, o1⟩ | ⟨p, x, p1, p2, p3, p4⟩⟩ := h1
  · obtain ⟨a, c, hx⟩ := o1.form
    subst hx
    refine ⟨a, _, c, 0, e1, fun s V h2 => ?_⟩
    obtain ⟨B2, y, e2, o2⟩ := all_good g1 h2
    obtain ⟨a', d, hy⟩ := o2.form
    subst hy
    refine ⟨a', d, e2, fun W B => ?_⟩
    exact r13same_eq _ a a' c d W ((o1.ens.1.keep B2).keep B) (o2.ens.1.keep B) (by rw [List.length_map]; have := (lines_len b).1; omega)
  · refine ⟨none, 0, 0, _, p4, fun s V h2 => ⟨none, 0, ?_, fun W B => ?_⟩⟩
    · obtain ⟨_, ⟨g2, y, e2, o2⟩ | ⟨q, y, q1, q2, q3, q4⟩⟩ := h2
      · obtain ⟨t, ht⟩ := p1
        rw [← ht] at g2
        rw [good_pre _ t _ rfl g2] at p3
        cases p3
      · rw [first_bad p1 p2 p3 q1 q2 q3]
        exact q4
    · exact r13same_eq [] none none 0 0 W ⟨Nat.zero_le _, fun h => absurd h (Nat.lt_irrefl _)⟩ ⟨Nat.zero_le _, fun h => absurd h (Nat.lt_irrefl _)⟩ (by simp)
set_option maxRecDepth 100000 in
set_option maxHeartbeats 4000000 in
theorem reads13_walk (b : List UInt8) (k0 : Nat) (a : Option Addr) (n c : Nat) (w : World) (hS : Src w k0 (.slice a n c) b) (hk0 : 0 < b.length → k0 < w.heap.size) (h : AlE w) : Calls Tryd.prog 4 #[.slice a n c] w fun r w' => r = .returned (.bool true) ∧ Below w.heap.size w w' := by
  obtain ⟨k, hS, hk⟩ : ∃ k, Src w k (.slice a n c) b ∧ k < w.heap.size := by
    by_cases hb : 0 < b.length
    · exact ⟨k0, hS, hk0 hb⟩
    · obtain ⟨m, hm⟩ := h.m
      obtain ⟨a', c', e, h1, h2, _⟩ := hS
      exact ⟨_, ⟨a', c', e, h1, h2, fun q => absurd q hb⟩, cell_ltV hm⟩
  have HAV := hidV (alive13_any w h)
  have hnb : n = b.length := hS.len.1.symm
  by_cases hn : 20000 < n
  · have d1 : decide (20000 < n) = true := decide_eq_true hn
    have d2 : decide ((20000 : Int) < (n : Int)) = true := decide_eq_true (by omega)
    clear hnb hS hk hk0 h hn
    go_enter Tryd.func4, Tryd.ntmps4
    go_wp2_with fail
    refine HAV.out.mono ?_
    rintro r w1 ⟨rfl, B1⟩
    have HB1 := hidV B1
    clear HAV B1
    go_wp2
    go_ret
    exact ⟨rfl, HB1.out⟩
  have d1 : decide (20000 < n) = false := decide_eq_false hn
  have d2 : decide ((20000 : Int) < (n : Int)) = false := decide_eq_false (by omega)
  have hbl : b.length ≤ 20000 := by omega
  have HBL := hidV hbl
  have HSR : Hid (∀ W, Below w.heap.size w W → Src W k (.slice a n c) b ∧ k < W.heap.size ∧ AlE W) := fun W B => ⟨hS.keep (fun _ => hk) B, Nat.lt_of_lt_of_le hk B.size, h.below B⟩
  have HV : Hid (valR ⟨b.toArray⟩ = valL b ∧ codR ⟨b.toArray⟩ = if okL b = true then 0 else 20) := ⟨rfl, rfl⟩
  have HR1 : Hid (∀ W, Below w.heap.size w W → Calls Tryd.prog 9 #[.slice a n c] W fun r w' => r = .returned (.tuple #[.agg (entV (valL b)), .int .i64 (if okL b = true then 0 else 20)]) ∧ Below W.heap.size W w') := fun W B => by
    obtain ⟨s, l, A⟩ := HSR.out W B
    exact enread_any b k a n c W s (fun _ => l) (by omega) A.m A.l A.p
  have HR2 : Hid (∀ W, Below w.heap.size w W → Calls Tryd.prog 12 #[.slice a n c] W fun r w' => r = .returned (.tuple #[.agg (entV (valL b)), .bool (okL b)]) ∧ Below W.heap.size W w') := fun W B => by
    obtain ⟨s, l, A⟩ := HSR.out W B
    exact r13read_any b k a n c W s (fun _ => l) (by omega)
  have HA1 : Hid (∀ W, Below w.heap.size w W → Calls Tryd.prog 13 #[.slice a n c] W (AllR W b)) := fun W B => by
    obtain ⟨s, l, A⟩ := HSR.out W B
    exact enall_any b k a n c W s l (by omega) A.m A.l A.p
  have HA2 : Hid (∀ W, Below w.heap.size w W → Calls Tryd.prog 14 #[.slice a n c] W (AllR W b)) := fun W B => by
    obtain ⟨s, l, A⟩ := HSR.out W B
    exact r13all_any b k a n c W s (fun _ => l) (by omega)
  have HEQ : Hid (∀ W, (binOp .eql 23 (.agg (entV (valL b))) (.agg (entV (valL b)))).run Tryd.prog W = .ok (.bool true) W) := fun W => by rw [ent_eql, (sameE_iff _ _).2 rfl]
  clear hnb hS hk hk0 h hn hbl HV
  generalize valL b = E at *
  cases hok : okL b with
  | false =>
    rw [hok] at HR1 HR2
    simp only [Bool.false_eq_true, if_false] at HR1
    clear hok
    obtain ⟨eq, ea, ek, en, em, et, ec, eu, ed⟩ := E
    unfold entV at HR1 HR2 HEQ
    simp only at HR1 HR2 HEQ
    go_enter Tryd.func4, Tryd.ntmps4
    go_wp2_with fail
    refine HAV.out.mono ?_
    rintro r w1 ⟨rfl, B1⟩
    have HB1 := hidV B1
    clear HAV B1
    go_wp2_with fail
    refine (HR1.out _ HB1.out).mono ?_
    rintro r w2 ⟨rfl, B2⟩
    have HB2 : Hid (Below w.heap.size w w2) := HB1.out.trans (B2.mono HB1.out.size)
    have BN : Below w2.heap.size w2 (w2.alloc (.cells #[.int .i64 eq, .int .i64 ea, .int .i64 ek, .int .i64 en, .string em, .string et, .int .i64 ec, .int .i64 eu, .int .i64 ed] 23)) := (Below.refl _ _).alloc (Nat.le_refl _) _
    have HB3 : Hid (Below w.heap.size w (w2.alloc (.cells #[.int .i64 eq, .int .i64 ea, .int .i64 ek, .int .i64 en, .string em, .string et, .int .i64 ec, .int .i64 eu, .int .i64 ed] 23))) := HB2.out.trans (BN.mono HB2.out.size)
    have HN3 := hidV (tblk_new w2 (.cells #[.int .i64 eq, .int .i64 ea, .int .i64 ek, .int .i64 en, .string em, .string et, .int .i64 ec, .int .i64 eu, .int .i64 ed] 23))
    clear HR1 B2 BN HB1 HB2
    go_wp2_with fail
    refine (HR2.out _ HB3.out).mono ?_
    rintro r w4 ⟨rfl, B4⟩
    have HB4 : Hid (Below w.heap.size w w4) := HB3.out.trans (B4.mono HB3.out.size)
    have N4 := tblk_below HN3.out B4
    have hlt4 : w2.heap.size < w4.heap.size := (Array.getElem?_eq_some_iff.1 N4).1
    have HK5 : Hid (RdK w w2.heap.size w4.heap.size ⟨eq, ea, ek, en, em, et, ec, eu, ed⟩ (w4.alloc (.cells #[.int .i64 eq, .int .i64 ea, .int .i64 ek, .int .i64 en, .string em, .string et, .int .i64 ec, .int .i64 eu, .int .i64 ed] 23))) := ⟨HB4.out.alloc HB4.out.size _, tblk_below N4 ((Below.refl _ _).alloc (Nat.le_refl _) _), tblk_new _ _⟩
    clear HR2 B4 HN3 N4 HB3 HB4
    go_wp2_with fail
    refine (HA1.out _ HK5.out.bel).mono ?_
    rintro r w6 h6
    have HK6 := hidV (HK5.out.next h6.1)
    obtain ⟨xa, xm, xc, z, rfl, HG⟩ := one_all h6 HBL.out
    clear HA1 HK5 h6
    go_wp2_with fail
    refine (HA2.out _ HK6.out.bel).mono ?_
    rintro r w7 h7
    have HK7 := hidV (HK6.out.next h7.1)
    obtain ⟨ya, yd, rfl, HSM⟩ := HG.out _ _ h7
    have S0 := HK7.out.cells
    obtain ⟨p0, p1, p2, p3, p4, p5, p6, p7, p8, q0, q1, q2, q3, q4, q5, q6, q7, q8⟩ := S0
    have heq := HEQ.out w7
    have hne1 : ¬ w2.heap.size = w4.heap.size := by omega
    have hne2 : ¬ w4.heap.size = w2.heap.size := by omega
    clear HA2 HG h7 HK6 HSR HBL d1 d2 hlt4 HEQ
    go_wp2_with fail
    refine (HSM.out _ (Below.refl _ _)).mono ?_
    rintro r w8 ⟨rfl, B8⟩
    have HB8 : Hid (Below w.heap.size w w8) := HK7.out.bel.trans (B8.mono HK7.out.bel.size)
    clear HSM HK7 B8 p0 p1 p2 p3 p4 p5 p6 p7 p8 q0 q1 q2 q3 q4 q5 q6 q7 q8 heq
    go_wp2
    go_ret
    exact ⟨rfl, HB8.out⟩
  | true =>
    rw [hok] at HR1 HR2
    simp only [if_true] at HR1
    clear hok
    obtain ⟨eq, ea, ek, en, em, et, ec, eu, ed⟩ := E
    unfold entV at HR1 HR2 HEQ
    simp only at HR1 HR2 HEQ
    go_enter Tryd.func4, Tryd.ntmps4
    go_wp2_with fail
    refine HAV.out.mono ?_
    rintro r w1 ⟨rfl, B1⟩
    have HB1 := hidV B1
    clear HAV B1
    go_wp2_with fail
    refine (HR1.out _ HB1.out).mono ?_
    rintro r w2 ⟨rfl, B2⟩
    have HB2 : Hid (Below w.heap.size w w2) := HB1.out.trans (B2.mono HB1.out.size)
    have BN : Below w2.heap.size w2 (w2.alloc (.cells #[.int .i64 eq, .int .i64 ea, .int .i64 ek, .int .i64 en, .string em, .string et, .int .i64 ec, .int .i64 eu, .int .i64 ed] 23)) := (Below.refl _ _).alloc (Nat.le_refl _) _
    have HB3 : Hid (Below w.heap.size w (w2.alloc (.cells #[.int .i64 eq, .int .i64 ea, .int .i64 ek, .int .i64 en, .string em, .string et, .int .i64 ec, .int .i64 eu, .int .i64 ed] 23))) := HB2.out.trans (BN.mono HB2.out.size)
    have HN3 := hidV (tblk_new w2 (.cells #[.int .i64 eq, .int .i64 ea, .int .i64 ek, .int .i64 en, .string em, .string et, .int .i64 ec, .int .i64 eu, .int .i64 ed] 23))
    clear HR1 B2 BN HB1 HB2
    go_wp2_with fail
    refine (HR2.out _ HB3.out).mono ?_
    rintro r w4 ⟨rfl, B4⟩
    have HB4 : Hid (Below w.heap.size w w4) := HB3.out.trans (B4.mono HB3.out.size)
    have N4 := tblk_below HN3.out B4
    have hlt4 : w2.heap.size < w4.heap.size := (Array.getElem?_eq_some_iff.1 N4).1
    have HK5 : Hid (RdK w w2.heap.size w4.heap.size ⟨eq, ea, ek, en, em, et, ec, eu, ed⟩ (w4.alloc (.cells #[.int .i64 eq, .int .i64 ea, .int .i64 ek, .int .i64 en, .string em, .string et, .int .i64 ec, .int .i64 eu, .int .i64 ed] 23))) := ⟨HB4.out.alloc HB4.out.size _, tblk_below N4 ((Below.refl _ _).alloc (Nat.le_refl _) _), tblk_new _ _⟩
    clear HR2 B4 HN3 N4 HB3 HB4
    go_wp2_with fail
    refine (HA1.out _ HK5.out.bel).mono ?_
    rintro r w6 h6
    have HK6 := hidV (HK5.out.next h6.1)
    obtain ⟨xa, xm, xc, z, rfl, HG⟩ := one_all h6 HBL.out
    clear HA1 HK5 h6
    go_wp2_with fail
    refine (HA2.out _ HK6.out.bel).mono ?_
    rintro r w7 h7
    have HK7 := hidV (HK6.out.next h7.1)
    obtain ⟨ya, yd, rfl, HSM⟩ := HG.out _ _ h7
    have S0 := HK7.out.cells
    obtain ⟨p0, p1, p2, p3, p4, p5, p6, p7, p8, q0, q1, q2, q3, q4, q5, q6, q7, q8⟩ := S0
    have heq := HEQ.out w7
    have hne1 : ¬ w2.heap.size = w4.heap.size := by omega
    have hne2 : ¬ w4.heap.size = w2.heap.size := by omega
    clear HA2 HG h7 HK6 HSR HBL d1 d2 hlt4 HEQ
    go_wp2_with fail
    refine (HSM.out _ (Below.refl _ _)).mono ?_
    rintro r w8 ⟨rfl, B8⟩
    have HB8 : Hid (Below w.heap.size w w8) := HK7.out.bel.trans (B8.mono HK7.out.bel.size)
    clear HSM HK7 B8 p0 p1 p2 p3 p4 p5 p6 p7 p8 q0 q1 q2 q3 q4 q5 q6 q7 q8 heq
    go_wp2
    go_ret
    exact ⟨rfl, HB8.out⟩
end Go.Proofs.YtedncmbamjkacaaDoor
