/- Whatever the records and the two numbers, EntryAll answers true: records whose numbers go up by 1 are read from their lines; with one left out between, or the last byte, they are not. -/
import Derived.Test.YtefbfcbnehhmeaaDoorEa3
import Derived.Test.YtefbfcbnehhmeaaDoorEa2
import Derived.Deep.RegionHeld3
import Derived.Deep.AppendLies
import Derived.Test.YtefbfcbnehhmeaaDoorRows
import Derived.Test.YtefbfcbnehhmeaaDoorCards
import Derived.Test.YtefbfcbnehhmeaaDoorTie
import Derived.WalkKit
import Derived.ProofKit
import Derived.OpenShut
import Derived.ShutString
import Derived.ChangeOld
import Derived.Below
import Derived.LaidMore
import Derived.Lay
import Derived.Stop.Joined
import Derived.SevenTiedAt
import Derived.Shelf.Vars
import Derived.Deep.DeepHandedRow
import Derived.Deep.DeepWitnessRowRef
/- EntryAll, plain: lines one behind the other; records whose numbers go up. -/
namespace Go.Proofs.YtefbfcbnehhmeaaDoor
open Go.RowKit
set_option linter.unusedVariables false

theorem lnA_piece : ∀ (c acc l : List UInt8), (10 : UInt8) ∉ c → lnA acc (c ++ 10 :: l) = (acc ++ c ++ [10]) :: lnA [] l
  | [], acc, l, _ => by
    show (if (10 : UInt8) = 10 then (acc ++ [10]) :: lnA [] l else lnA (acc ++ [10]) l) = _
    rw [if_pos rfl, List.append_nil]
  | b :: c, acc, l, h => by
    have hb : b ≠ 10 := fun e => h (by rw [e]; exact List.mem_cons_self ..)
    show (if b = 10 then (acc ++ [b]) :: lnA [] (c ++ 10 :: l) else lnA (acc ++ [b]) (c ++ 10 :: l)) = _
    rw [if_neg hb, lnA_piece c (acc ++ [b]) l (fun q => h (List.mem_cons_of_mem _ q))]
    simp
theorem lnA_rest : ∀ (c acc : List UInt8), (10 : UInt8) ∉ c → acc ++ c ≠ [] → lnA acc c = [acc ++ c]
  | [], acc, _, hn => by
    rw [List.append_nil] at hn ⊢
    unfold lnA
    rw [if_neg hn]
  | b :: c, acc, h, hn => by
    have hb : b ≠ 10 := fun e => h (by rw [e]; exact List.mem_cons_self ..)
    unfold lnA
    rw [if_neg hb, lnA_rest c (acc ++ [b]) (fun q => h (List.mem_cons_of_mem _ q)) (by simp)]
    simp
theorem line_split {e : EntP} (h : rightE e = true) : ∃ c, lineL e = c ++ [10] ∧ (10 : UInt8) ∉ c ∧ c ≠ [] ∧ c = (lineL e).take ((lineL e).length - 1) := by
  obtain ⟨c, hc⟩ := line_end e
  have h1 := line_c10 h
  have h2 := line_c32 h
  rw [hc, List.count_append] at h1 h2
  refine ⟨c, hc, fun q => ?_, fun q => ?_, ?_⟩
  · have := List.count_pos_iff.2 q
    simp at h1
    omega
  · rw [q] at h2
    simp at h2
  · rw [hc]
    simp
/-- The lines of records. -/
def flatE (E : List EntP) : List UInt8 := (E.map lineL).flatten
theorem flat_snoc (E : List EntP) (e : EntP) : flatE (E ++ [e]) = flatE E ++ lineL e := by unfold flatE; simp
theorem lines_flat : ∀ (E : List EntP) (r : List UInt8), (∀ e ∈ E, rightE e = true) → lnA [] (flatE E ++ r) = E.map lineL ++ lnA [] r
  | [], r, _ => rfl
  | e :: E, r, h => by
    obtain ⟨c, hc, h10, _⟩ := line_split (h e (List.mem_cons_self ..))
    have e1 : flatE (e :: E) ++ r = c ++ 10 :: (flatE E ++ r) := by
      show (lineL e ++ flatE E) ++ r = _
      rw [hc]
      simp
    rw [e1, lnA_piece c [] _ h10, lines_flat E r (fun x hx => h x (List.mem_cons_of_mem _ hx)), List.map_cons, hc]
    rfl
theorem lines_all (E : List EntP) (h : ∀ e ∈ E, rightE e = true) : linesL (flatE E) = E.map lineL := by
  have := lines_flat E [] h
  rw [List.append_nil] at this
  show lnA [] _ = _
  rw [this]
  show _ ++ [] = _
  rw [List.append_nil]
theorem take_m1 (X : List UInt8) : (X ++ [10]).take ((X ++ [10]).length - 1) = X := by simp
theorem lines_cut (E : List EntP) (e : EntP) (h : ∀ x ∈ E, rightE x = true) (he : rightE e = true) : linesL ((flatE (E ++ [e])).take ((flatE (E ++ [e])).length - 1)) = E.map lineL ++ [(lineL e).take ((lineL e).length - 1)] := by
  obtain ⟨c, hc, h10, hne, hct⟩ := line_split he
  have e1 : (flatE (E ++ [e])).take ((flatE (E ++ [e])).length - 1) = flatE E ++ c := by
    rw [flat_snoc, hc, ← List.append_assoc]
    exact take_m1 _
  rw [e1, ← hct]
  show lnA [] _ = _
  rw [lines_flat E c h, lnA_rest c [] h10 (by simpa using hne)]
  rfl
theorem ok_line {e : EntP} (h : rightE e = true) : okL (lineL e) = true ∧ valL (lineL e) = e := read_back h
theorem vals_all : ∀ (E : List EntP), (∀ e ∈ E, rightE e = true) → (E.map lineL).map valL = E ∧ (E.map lineL).all okL = true
  | [], _ => ⟨rfl, rfl⟩
  | e :: E, h => by
    have ih := vals_all E (fun x hx => h x (List.mem_cons_of_mem _ hx))
    have k := ok_line (h e (List.mem_cons_self ..))
    refine ⟨?_, ?_⟩
    · rw [List.map_cons, List.map_cons, k.2, ih.1]
    · rw [List.map_cons, List.all_cons, k.1, ih.2]; rfl
theorem good_all (E : List EntP) (h : ∀ e ∈ E, rightE e = true) : goodB (E.map lineL) = linkB E := by
  obtain ⟨h1, h2⟩ := vals_all E h
  unfold goodB
  rw [h1, h2, Bool.true_and]
theorem good_pre : ∀ (n : Nat) (t xs : List (List UInt8)), t.length = n → goodB (xs ++ t) = true → goodB xs = true
  | 0, t, xs, hn, h => by
    rw [List.length_eq_zero_iff.1 hn, List.append_nil] at h; exact h
  | n + 1, t, xs, hn, h => by
    rcases List.eq_nil_or_concat t with q | ⟨t', z, q⟩
    · rw [q] at hn; cases hn
    · rw [q, List.concat_eq_append, ← List.append_assoc, good_snoc] at h
      refine good_pre n t' xs ?_ (by cases hg : goodB (xs ++ t'); · rw [hg] at h; cases h
                                     · rfl)
      rw [q, List.concat_eq_append, List.length_append] at hn
      simpa using hn
theorem all_good {w w' : World} {b : List UInt8} {r : Ending} (hg : goodB (linesL b) = true) (h : AllR w b r w') : Below w.heap.size w w' ∧ ∃ v, r = .returned (.tuple #[v, .int .i64 0]) ∧ OwnE w.heap.size w' v ((linesL b).map valL) := by
  obtain ⟨h0, ⟨_, h1⟩ | ⟨pre, x, ⟨t, ht⟩, _, h2, _⟩⟩ := h
  · exact ⟨h0, h1⟩
  · rw [← ht] at hg
    rw [good_pre _ t _ rfl hg] at h2
    cases h2
theorem all_bad {w w' : World} {b : List UInt8} {r : Ending} (hg : goodB (linesL b) = false) (ho : (linesL b).all okL = true) (h : AllR w b r w') : Below w.heap.size w w' ∧ r = .returned (.tuple #[.slice none 0 0, .int .i64 1]) := by
  obtain ⟨h0, ⟨h1, _⟩ | ⟨pre, x, ⟨t, ht⟩, _, h2, h3⟩⟩ := h
  · rw [hg] at h1; cases h1
  · refine ⟨h0, ?_⟩
    rw [← ht] at ho
    simp only [List.all_append, List.all_cons, Bool.and_eq_true] at ho
    rw [h3, if_pos ho.1.2.1]
theorem all_cut {w w' : World} {b c : List UInt8} {P : List (List UInt8)} {r : Ending} (hl : linesL b = P ++ [c]) (hp : goodB P = true) (hc : okL c = false) (h : AllR w b r w') : Below w.heap.size w w' ∧ r = .returned (.tuple #[.slice none 0 0, .int .i64 20]) := by
  obtain ⟨h0, ⟨h1, _⟩ | ⟨pre, x, ⟨t, ht⟩, _, h2, h3⟩⟩ := h
  · rw [hl, good_snoc, hc] at h1
    simp at h1
  · refine ⟨h0, ?_⟩
    rw [hl] at ht
    rcases List.eq_nil_or_concat t with q | ⟨t', z, q⟩
    · rw [q, List.append_nil] at ht
      have := List.append_inj_right' ht rfl
      injection this with e _
      rw [h3, e, if_neg (by rw [hc]; decide)]
    · rw [q, List.concat_eq_append, ← List.append_assoc] at ht
      have e := List.append_inj_left' ht rfl
      rw [← e] at hp
      rw [good_pre _ t' _ rfl hp] at h2
      cases h2
theorem cut_bad {e : EntP} (h : rightE e = true) : okL ((lineL e).take ((lineL e).length - 1)) = false := by
  have := words3 h
  unfold codR at this
  cases k : okL ((lineL e).take ((lineL e).length - 1))
  · rfl
  · unfold okL at k
    rw [if_pos k] at this
    cases this
/-- The records with numbers from f on. -/
def tagL : Int → List EntP → List EntP
  | _, [] => []
  | f, e :: r => { e with q := f } :: tagL (f + 1) r
theorem tag_len : ∀ (es : List EntP) (f : Int), (tagL f es).length = es.length
  | [], _ => rfl
  | e :: r, f => by show _ + 1 = _ + 1; rw [tag_len r]
theorem tag_at : ∀ (es : List EntP) (f : Int) (i : Nat) (h : i < es.length), (tagL f es)[i]'(by rw [tag_len]; exact h) = { es[i] with q := f + (i : Int) }
  | e :: r, f, 0, _ => by show ({ e with q := f } : EntP) = { e with q := f + 0 }; rw [Int.add_zero]
  | e :: r, f, i + 1, h => by
    have h' : i < r.length := by simpa using h
    show (tagL (f + 1) r)[i]'_ = { r[i] with q := f + ((i + 1 : Nat) : Int) }
    rw [tag_at r (f + 1) i h', show f + ((i + 1 : Nat) : Int) = f + 1 + (i : Int) by omega]
theorem link_tag : ∀ (es : List EntP) (f : Int), linkB (tagL f es) = true
  | [], _ => rfl
  | [e], _ => rfl
  | e :: e2 :: r, f => by
    show (decide (f + 1 = f + 1) && linkB (tagL (f + 1) (e2 :: r))) = true
    rw [link_tag (e2 :: r) (f + 1), decide_eq_true rfl]
    rfl
theorem link_less : ∀ (es : List EntP) (f : Int) (k : Nat), 1 ≤ k → k + 1 < es.length → linkB ((tagL f es).eraseIdx k) = false
  | [], _, _, _, h => by simp at h
  | [e], _, _, _, h => by simp at h
  | [e, e2], _, k, h1, h => by simp at h; omega
  | e :: e2 :: e3 :: r, f, 1, _, _ => by
    show (decide (f + 1 + 1 = f + 1) && linkB (tagL (f + 1 + 1) (e3 :: r))) = false
    rw [decide_eq_false (by omega)]
    rfl
  | e :: e2 :: e3 :: r, f, k + 2, _, h => by
    show (decide (f + 1 = f + 1) && linkB ((tagL (f + 1) (e2 :: e3 :: r)).eraseIdx (k + 1))) = false
    rw [link_less (e2 :: e3 :: r) (f + 1) (k + 1) (by omega) (by simp at h ⊢; omega), Bool.and_false]
theorem link_ends (es : List EntP) (f : Int) (k : Nat) (hk : k < es.length) (h : k = 0 ∨ k = es.length - 1) : linkB ((tagL f es).eraseIdx k) = true := by
  rcases h with rfl | rfl
  · cases es with
    | nil => rfl
    | cons e r => exact link_tag r (f + 1)
  · have key : ∀ (es : List EntP) (f : Int), (tagL f es).eraseIdx (es.length - 1) = tagL f es.dropLast := by
      intro es
      induction es with
      | nil => intro f; rfl
      | cons e r ih =>
        intro f
        cases r with
        | nil => rfl
        | cons e2 r =>
          show ({ e with q := f } : EntP) :: (tagL (f + 1) (e2 :: r)).eraseIdx ((e2 :: r).length - 1) = { e with q := f } :: tagL (f + 1) (e2 :: r).dropLast
          rw [ih]
    rw [key]
    exact link_tag _ _
theorem erase_snoc (A : List EntP) (e : EntP) (k : Nat) : (A ++ [e]).eraseIdx k = if k = A.length then A.eraseIdx k else A.eraseIdx k ++ [e] := by
  rcases Nat.lt_trichotomy k A.length with h | h | h
  · rw [if_neg (by omega), List.eraseIdx_append_of_lt_length h]
  · rw [if_pos h, List.eraseIdx_append_of_length_le (by omega), h, Nat.sub_self, List.eraseIdx_of_length_le (Nat.le_refl _)]
    show A ++ [] = A
    rw [List.append_nil]
  · rw [if_neg (by omega), List.eraseIdx_append_of_length_le (by omega), List.eraseIdx_of_length_le (l := A) (by omega), List.eraseIdx_of_length_le (by simp; omega)]
theorem itoa_len {z : Int} (h0 : 0 ≤ z) (h1 : z ≤ 1125899906842624) : (itoaS z).data.toList.length ≤ 16 := by
  rw [itoa_dec z h0]
  exact dec_len 15 z.toNat (by omega)
theorem right_parts {e : EntP} (h : rightE e = true) : (1 ≤ e.q ∧ e.q ≤ 1125899906842624) ∧ (0 ≤ e.a ∧ e.a ≤ 1125899906842624) ∧ (0 ≤ e.k ∧ e.k ≤ 1125899906842624) ∧ (1 ≤ e.n ∧ e.n ≤ 2147483647) ∧ (0 ≤ e.c ∧ e.c ≤ 999) ∧ (0 ≤ e.u ∧ e.u ≤ 1125899906842624) ∧ (0 ≤ e.d ∧ e.d ≤ 1125899906842624) ∧ e.m.size ≤ 20 ∧ e.t.size ≤ 512 := by
  unfold rightE withinP inB at h
  simp only [Bool.and_eq_true, decide_eq_true_eq] at h
  obtain ⟨⟨h1, h2, h3, h4, h5, h6, h7⟩, h8, _, h9, _⟩ := h
  exact ⟨h1, h2, h3, h4, h5, h6, h7, h8, h9⟩
theorem joinT_len : ∀ ws : List (List UInt8), (Lib.joinTail [32] ws).length = (ws.map (fun x => x.length + 1)).sum
  | [] => rfl
  | x :: ws => by
    rw [joinT_cons, List.length_cons, List.length_append, joinT_len ws, List.map_cons, List.sum_cons]
    omega
theorem line_len {e : EntP} (h : rightE e = true) : (lineL e).length ≤ 800 := by
  obtain ⟨h1, h2, h3, h4, h5, h6, h7, h8, h9⟩ := right_parts h
  have l1 := itoa_len (z := e.q) (by omega) h1.2
  have l2 := itoa_len h2.1 h2.2
  have l3 := itoa_len h3.1 h3.2
  have l4 := itoa_len (z := e.n) (by omega) (by omega)
  have l5 := itoa_len (z := e.c) h5.1 (by omega)
  have l6 := itoa_len h6.1 h6.2
  have l7 := itoa_len h7.1 h7.2
  have l8 : e.m.data.toList.length ≤ 20 := h8
  have l9 : e.t.data.toList.length ≤ 512 := h9
  rw [line_form, List.length_append, List.length_append, joinT_len]
  have e1 : ((wordsE e).tail.map (·.data.toList)).map (fun x => x.length + 1) = [(itoaS e.a).data.toList.length + 1, (itoaS e.k).data.toList.length + 1, (itoaS e.n).data.toList.length + 1, e.m.data.toList.length + 1, e.t.data.toList.length + 1, (itoaS e.c).data.toList.length + 1, (itoaS e.u).data.toList.length + 1, (itoaS e.d).data.toList.length + 1] := rfl
  rw [e1]
  simp only [List.sum_cons, List.sum_nil, List.length_cons, List.length_nil]
  omega
theorem flat_len : ∀ (E : List EntP), (∀ e ∈ E, rightE e = true) → (flatE E).length ≤ 800 * E.length
  | [], _ => Nat.le_refl _
  | e :: E, h => by
    have h1 := line_len (h e (List.mem_cons_self ..))
    have h2 := flat_len E (fun x hx => h x (List.mem_cons_of_mem _ hx))
    show (lineL e ++ flatE E).length ≤ 800 * (E.length + 1)
    rw [List.length_append]
    omega
end Go.Proofs.YtefbfcbnehhmeaaDoor

/- An append in a region that draws its order. -/
namespace Go.Proofs.YtefbfcbnehhmeaaDoor
open Go.RowKit
set_option linter.unusedVariables false

theorem step_own {ops : Array Oper} {o : Oper} {a : Act} {K : Act → World → Prop} {Q : Exit → Act → World → Prop} {E : Prop} {w : World} (hgd : o.guard = none) (s x : Operand)
    (ho : o.op = .call { callee := .builtin .append, args := #[s, x], argTypes := #[25, 25] }) (hty : o.type = 25)
    (B : Nat) (v : Value) (X : List UInt8) (hs : a.eval s = v) (hown : Own B w v X) (k : Nat) (ad : Option Addr) (n c : Nat) (Y : List UInt8) (hx : a.eval x = .slice ad n c) (hsrc : Src w k (.slice ad n c) Y) (hnil : ad = none → c = 0) (hmax : X.length + Y.length ≤ 140737488355328) (hB : B ≤ w.heap.size)
    (h : ∀ v' w', Own B w' v' (X ++ Y) → Below B w w' → K (a.put o.dst v') w') :
    if Region.wanted o (yielded ops a.tmps) = true then Oper.wp Tryd.prog o a w K Q else E := by
  have hw : Region.wanted o (yielded ops a.tmps) = true := by simp [Region.wanted, hgd]
  rw [if_pos hw]
  obtain ⟨v', w', hr, O, Bl⟩ := own_append hown hsrc hnil hmax hB
  unfold Oper.wp execOp
  simp only [ho, hty, resolve, invoke, builtin, Sem.run_bind, Sem.run_pure, Result.andThen_ok, List.map_toArray, List.map_cons, List.map_nil, hs, hx, hr]
  exact h v' w' O Bl
theorem Own.drewN {B : Nat} {w : World} {v : Value} {X : List UInt8} (h : Own B w v X) (n : Nat) : Own B (w.drewN n) v X := by
  obtain ⟨h1, h2⟩ := h
  refine ⟨h1, ?_⟩
  rcases h2 with h2 | ⟨g, cap, cur, hv, hg, hh, r⟩
  · exact .inl h2
  · exact .inr ⟨g, cap, cur, hv, hg, by simpa [World.drewN] using hh, r⟩
end Go.Proofs.YtefbfcbnehhmeaaDoor

/- Two rows of bytes that grow side by side. -/
namespace Go.Proofs.YtefbfcbnehhmeaaDoor
open Go.RowKit
set_option linter.unusedVariables false

theorem res_inj {α : Type} {v v' : α} {w w' : World} (h : (Result.ok v w : Result α) = .ok v' w') : v = v' := by cases h; rfl
set_option maxRecDepth 100000 in
theorem acc_append_str {w : World} {g : Nat} {v : Value} {X : List UInt8} {s : ByteArray} (h : Acc w g v X) (hmax : X.length + s.size ≤ 140737488355328) :
    ∃ v' w' g', (Builtin.append_ #[25, 9] 25 #[v, .string s]).run Tryd.prog w = .ok v' w' ∧ Acc w' g' v' (X ++ s.data.toList) ∧ (g' = g ∨ (w.heap.size ≤ g' ∧ g' < w'.heap.size)) ∧ Kp (fun k => k = g) w w' := by
  obtain ⟨i, hi, hz0, hz1, hz2⟩ := info_parts infoB3
  obtain ⟨v', w', hr, q1, q2, q3⟩ := Lib.run_append_own_string (P := Tryd.prog) w 0 25 9 25 5 i Tryd.underlying25 Tryd.underlying9 hi hz0 hz1 hz2 v X.length (rowB X) h.2 s (by unfold maxLen; omega) hmax (Nat.zero_le _)
  have hk : Kp (fun k => k = g) w w' := ⟨q2.os, q2.tape, q2.output, q2.size, fun j hj hn => q2.block j hj (fun c => hn (by rw [h.1] at c; exact Option.some.inj c))⟩
  have hrow : w'.ownsRow 0 5 1 v' (X ++ s.data.toList).length (rowB (X ++ s.data.toList)) := by rw [List.length_append, rowB_app]; exact q1
  have h0 := h
  obtain ⟨e1, e2, ⟨e3, _⟩ | ⟨g', c, cur, hv, hB, hg, hl, hm, hs, ht⟩⟩ := h
  · rw [e3] at e1; cases e1
  · have hgg : g' = g := by rw [hv] at e1; simpa [Value.ownBlock] using e1
    subst hgg
    by_cases hroom : X.length + s.size ≤ c
    · have hr2 := Lib.run_append_room_string (P := Tryd.prog) w 25 9 25 5 i Tryd.underlying25 Tryd.underlying9 hi hz1 g' X.length c cur hg s hroom (by omega)
      rw [hv, hr2] at hr
      have hb : v'.ownBlock = some g' := by rw [← res_inj hr]; rfl
      exact ⟨v', w', g', by rw [hv, hr2]; exact hr, ⟨hb, hrow⟩, .inl rfl, hk⟩
    · have hr2 := Lib.run_append_grow_string (P := Tryd.prog) w 25 9 25 5 i (.int .u8 0) Tryd.underlying25 Tryd.underlying9 hi hz0 ⟨g', 0, none⟩ X.length c (rowB X) (by rw [hz1, rowB_length]; omega) ((hv ▸ h0.2 : w.ownsRow 0 5 1 (.slice (some ⟨g', 0, none⟩) X.length c) X.length (rowB X)).cells (g := g') rfl) s (by omega) (by omega) (by rw [hz2]; exact growslice_fits (by omega) (by omega))
      rw [hv, hr2] at hr
      have hb : v'.ownBlock = some w.heap.size := by rw [← res_inj hr]; rfl
      exact ⟨v', w', w.heap.size, by rw [hv, hr2]; exact hr, ⟨hb, hrow⟩, .inr ⟨Nat.le_refl _, Acc.lt ⟨hb, hrow⟩⟩, hk⟩

/-- Two rows, x and y, in blocks of their own. -/
def Two (w wr : World) (vx vy : Value) (x y : List UInt8) : Prop := ∃ gx gy, Acc wr gx vx x ∧ Acc wr gy vy y ∧ gx ≠ gy ∧ w.heap.size ≤ gx ∧ w.heap.size ≤ gy ∧ Below w.heap.size w wr
theorem Two.bel {w wr : World} {vx vy : Value} {x y : List UInt8} (h : Two w wr vx vy x y) : Below w.heap.size w wr := by obtain ⟨_, _, _, _, _, _, _, b⟩ := h; exact b
theorem Two.swap {w wr : World} {vx vy : Value} {x y : List UInt8} (h : Two w wr vx vy x y) : Two w wr vy vx y x := by
  obtain ⟨gx, gy, h1, h2, h3, h4, h5, h6⟩ := h; exact ⟨gy, gx, h2, h1, Ne.symm h3, h5, h4, h6⟩
theorem Two.keep {w wr wr' : World} {vx vy : Value} {x y : List UInt8} (h : Two w wr vx vy x y) (b : Below wr.heap.size wr wr') : Two w wr' vx vy x y := by
  obtain ⟨gx, gy, h1, h2, h3, h4, h5, h6⟩ := h
  exact ⟨gx, gy, h1.frame (b.block gx h1.lt), h2.frame (b.block gy h2.lt), h3, h4, h5, h6.trans (b.mono h6.size)⟩
theorem Two.alloc {w wr : World} {vx vy : Value} {x y : List UInt8} (h : Two w wr vx vy x y) (o : Obj) : Two w (wr.alloc o) vx vy x y := h.keep ((Below.refl _ _).alloc (Nat.le_refl _) _)
theorem Two.drew {w wr : World} {vx vy : Value} {x y : List UInt8} (h : Two w wr vx vy x y) : Two w wr.drew vx vy x y := h.keep (Below.refl _ _).drew
theorem two_after {w wr w' : World} {vx vy v' : Value} {x y x' : List UInt8} {gx gy g' : Nat} (h2 : Acc wr gy vy y) (h3 : gx ≠ gy) (h4 : w.heap.size ≤ gx) (h5 : w.heap.size ≤ gy) (h6 : Below w.heap.size w wr) (ha : Acc w' g' v' x') (hg : g' = gx ∨ (wr.heap.size ≤ g' ∧ g' < w'.heap.size)) (hk : Kp (fun k => k = gx) wr w') : Two w w' v' vy x' y := by
  have hl := h2.lt
  have hs := h6.size
  exact ⟨g', gy, ha, h2.frame (hk.block gy hl (fun e => h3 e.symm)), by omega, by omega, h5, h6.trans (hk.below h6.size (fun k hk e => by omega))⟩
theorem Two.app {w wr : World} {vx vy : Value} {x y Y : List UInt8} {k : Nat} {a : Option Addr} {n c : Nat} (h : Two w wr vx vy x y) (hs : Src wr k (.slice a n c) Y) (hnil : a = none → c = 0) (hmax : x.length + Y.length ≤ 140737488355328) :
    ∃ v' w', (Builtin.append_ #[25, 25] 25 #[vx, .slice a n c]).run Tryd.prog wr = .ok v' w' ∧ Two w w' v' vy (x ++ Y) y := by
  obtain ⟨gx, gy, h1, h2, h3, h4, h5, h6⟩ := h
  obtain ⟨v', w', g', r, ha, hg, hk⟩ := acc_append h1 hs hnil hmax
  exact ⟨v', w', r, two_after (vx := vx) (x := x) h2 h3 h4 h5 h6 ha hg hk⟩
theorem Two.appS {w wr : World} {vx vy : Value} {x y : List UInt8} {s : ByteArray} (h : Two w wr vx vy x y) (hmax : x.length + s.size ≤ 140737488355328) :
    ∃ v' w', (Builtin.append_ #[25, 9] 25 #[vx, .string s]).run Tryd.prog wr = .ok v' w' ∧ Two w w' v' vy (x ++ s.data.toList) y := by
  obtain ⟨gx, gy, h1, h2, h3, h4, h5, h6⟩ := h
  obtain ⟨v', w', g', r, ha, hg, hk⟩ := acc_append_str h1 hmax
  exact ⟨v', w', r, two_after (vx := vx) (x := x) h2 h3 h4 h5 h6 ha hg hk⟩
theorem Two.app2 {w wr : World} {vx vy : Value} {x y Y : List UInt8} {k : Nat} {a : Option Addr} {n c : Nat} (h : Two w wr vx vy x y) (hs : Src wr k (.slice a n c) Y) (hnil : a = none → c = 0) (hmax : x.length + Y.length ≤ 140737488355328) :
    ∃ v' w', (Builtin.append_ #[25, 25] 25 #[vx, .slice a n c]).run Tryd.prog wr = .ok v' w' ∧ Two w w' v' vy (x ++ Y) y ∧ (∀ u, Two w u vx vy x y → ∀ k, u.heap.size ≤ k → k < wr.heap.size → w'.heap[k]? = wr.heap[k]?) := by
  obtain ⟨gx, gy, h1, h2, h3, h4, h5, h6⟩ := h
  obtain ⟨v', w', g', r, ha, hg, hk⟩ := acc_append h1 hs hnil hmax
  refine ⟨v', w', r, two_after (vx := vx) (x := x) h2 h3 h4 h5 h6 ha hg hk, ?_⟩
  rintro u ⟨gu, _, q1, _⟩ j hj hj2
  have e : gu = gx := by have := q1.1.symm.trans h1.1; exact Option.some.inj this
  have hl := q1.lt
  exact hk.block j hj2 (fun c => by omega)
theorem step_two2 {ops : Array Oper} {o : Oper} {a : Act} {K : Act → World → Prop} {Q : Exit → Act → World → Prop} {E : Prop} {W : World} (hgd : o.guard = none) (s x : Operand)
    (ho : o.op = .call { callee := .builtin .append, args := #[s, x], argTypes := #[25, 25] }) (hty : o.type = 25)
    (w : World) (vx vy : Value) (X Z : List UInt8) (hs : a.eval s = vx) (h : Two w W vx vy X Z) (k : Nat) (ad : Option Addr) (n c : Nat) (Y : List UInt8) (hx : a.eval x = .slice ad n c) (hsrc : Src W k (.slice ad n c) Y) (hnil : ad = none → c = 0) (hmax : X.length + Y.length ≤ 140737488355328)
    (hK : ∀ v' w', Two w w' v' vy (X ++ Y) Z → (∀ u, Two w u vx vy X Z → ∀ k, u.heap.size ≤ k → k < W.heap.size → w'.heap[k]? = W.heap[k]?) → K (a.put o.dst v') w') :
    if Region.wanted o (yielded ops a.tmps) = true then Oper.wp Tryd.prog o a W K Q else E := by
  have hw : Region.wanted o (yielded ops a.tmps) = true := by simp [Region.wanted, hgd]
  rw [if_pos hw]
  obtain ⟨v', w', hr, O, F⟩ := h.app2 hsrc hnil hmax
  unfold Oper.wp execOp
  simp only [ho, hty, resolve, invoke, builtin, Sem.run_bind, Sem.run_pure, Result.andThen_ok, List.map_toArray, List.map_cons, List.map_nil, hs, hx, hr]
  exact hK v' w' O F
theorem step_index {ops : Array Oper} {o : Oper} {a : Act} {K : Act → World → Prop} {Q : Exit → Act → World → Prop} {E : Prop} {W : World} (hgd : o.guard = none) (t : TypeId) (s x : Operand)
    (ho : o.op = .index t s x) (vs vx v : Value) (hs : a.eval s = vs) (hx : a.eval x = vx) (hr : (Instr.index t vs vx).run Tryd.prog W = .ok v W) (hK : K (a.put o.dst v) W) :
    if Region.wanted o (yielded ops a.tmps) = true then Oper.wp Tryd.prog o a W K Q else E := by
  have hw : Region.wanted o (yielded ops a.tmps) = true := by simp [Region.wanted, hgd]
  rw [if_pos hw]
  unfold Oper.wp execOp
  simp only [ho, Sem.run_bind, Sem.run_pure, Result.andThen_ok, hs, hx, hr]
  exact hK
theorem Two.new (w wr : World) (hB : Below w.heap.size w wr) : Two w ((wr.alloc (.cells #[] 5)).alloc (.cells #[] 5)) (.slice (some ⟨wr.heap.size, 0, none⟩) 0 0) (.slice (some ⟨wr.heap.size + 1, 0, none⟩) 0 0) [] [] := by
  have h1 := (Acc.empty wr).frame (w' := (wr.alloc (.cells #[] 5)).alloc (.cells #[] 5)) (((Below.refl _ _).alloc (Nat.le_refl _) _).block wr.heap.size (by simp))
  have h2 := Acc.empty (wr.alloc (.cells #[] 5))
  have e : (wr.alloc (.cells #[] 5)).heap.size = wr.heap.size + 1 := by simp
  rw [e] at h2
  exact ⟨wr.heap.size, wr.heap.size + 1, h1, h2, by omega, hB.size, by have := hB.size; omega, (hB.alloc hB.size _).alloc (by have := hB.size; simp; omega) _⟩
end Go.Proofs.YtefbfcbnehhmeaaDoor

/- EntryAll: records that came in; records compared in rows; three rows that grow side by side. -/
namespace Go.Proofs.YtefbfcbnehhmeaaDoor
open Go.ChangeShapes Go.WideShapes Go.ChangeAt Go.RowKit
set_option linter.unusedVariables false

/-- Records in memory that are only read. -/
def Ens (w : World) (a : Option Addr) (es : List EntP) : Prop := es.length ≤ maxLen ∧ (0 < es.length → ∃ g off, a = some ⟨g, off, none⟩ ∧ g < w.heap.size ∧ ∀ (i : Nat) (h : i < es.length) (j : Nat) (v : Value), (entV es[i])[j]? = some v → w.cell? ⟨g, off + i * 9 + j, none⟩ = some v)
theorem Ens.keep {w w' : World} {a : Option Addr} {es : List EntP} (h : Ens w a es) (b : Below w.heap.size w w') : Ens w' a es := ⟨h.1, fun hp => by
  obtain ⟨g, off, e, hg, hc⟩ := h.2 hp
  exact ⟨g, off, e, Nat.lt_of_lt_of_le hg b.size, fun i hi j v hv => (b.cell (p := ⟨g, off + i * 9 + j, none⟩) hg).trans (hc i hi j v hv)⟩⟩
theorem Ens.cells {w : World} {g off : Nat} {es : List EntP} (h : Ens w (some ⟨g, off, none⟩) es) (i : Nat) (hi : i < es.length) : w.cell? ⟨g, off + i * 9, none⟩ = some (.int .i64 es[i].q) ∧ w.cell? ⟨g, off + i * 9 + 1, none⟩ = some (.int .i64 es[i].a) ∧ w.cell? ⟨g, off + i * 9 + 2, none⟩ = some (.int .i64 es[i].k) ∧ w.cell? ⟨g, off + i * 9 + 3, none⟩ = some (.int .i64 es[i].n) ∧ w.cell? ⟨g, off + i * 9 + 4, none⟩ = some (.string es[i].m) ∧ w.cell? ⟨g, off + i * 9 + 5, none⟩ = some (.string es[i].t) ∧ w.cell? ⟨g, off + i * 9 + 6, none⟩ = some (.int .i64 es[i].c) ∧ w.cell? ⟨g, off + i * 9 + 7, none⟩ = some (.int .i64 es[i].u) ∧ w.cell? ⟨g, off + i * 9 + 8, none⟩ = some (.int .i64 es[i].d) := by
  obtain ⟨g', off', e, _, hc⟩ := h.2 (by omega)
  obtain ⟨rfl, rfl⟩ : g = g' ∧ off = off' := by
    have := Option.some.inj e
    exact ⟨congrArg Addr.block this, congrArg Addr.off this⟩
  exact ⟨hc i hi 0 _ rfl, hc i hi 1 _ rfl, hc i hi 2 _ rfl, hc i hi 3 _ rfl, hc i hi 4 _ rfl, hc i hi 5 _ rfl, hc i hi 6 _ rfl, hc i hi 7 _ rfl, hc i hi 8 _ rfl⟩
theorem OwnE.ens {N : Nat} {w : World} {a : Option Addr} {len c : Nat} {es : List EntP} (h : OwnE N w (.slice a len c) es) : Ens w a es ∧ len = es.length := by
  obtain ⟨h1, ⟨h2, h3⟩ | ⟨g, c', cur, hv, hB, hg, hl, hm, hs, ht⟩⟩ := h
  · obtain ⟨e1, e2, e3⟩ := slice_inj h2
    exact ⟨⟨by omega, fun q => by omega⟩, by omega⟩
  · obtain ⟨e1, e2, e3⟩ := slice_inj hv
    subst e1
    refine ⟨⟨by omega, fun _ => ⟨g, 0, rfl, (Array.getElem?_eq_some_iff.1 hg).1, fun i hi j v hj => ?_⟩⟩, e2⟩
    have hj9 : j < 9 := by
      have := (Array.getElem?_eq_some_iff.1 hj).1
      exact this
    rw [Nat.zero_add]
    refine ring_cell hg ?_
    have k : (cur.toList.take (es.length * 9))[i * 9 + j]? = (rowE es)[i * 9 + j]? := by rw [ht]
    rw [List.getElem?_take_of_lt (by omega), rowE_at es i hi j hj9] at k
    rw [← Array.getElem?_toList, k]; exact hj
theorem ent_neq (a : EntP) (W : World) : (binOp .neq 23 (.agg (entV a)) (.agg (entV a))).run Tryd.prog W = .ok (.bool false) W := by
  have h := ent_eql a a W
  rw [(sameE_iff a a).2 rfl, run_eql_struct] at h
  rw [run_neq_struct]
  cases hx : (Op.equalIn 10000 23 (.agg (entV a)) (.agg (entV a))).run Tryd.prog W with
  | ok b w' =>
    rw [hx] at h
    simp only [Result.andThen] at h ⊢
    cases h
    rfl
  | _ => rw [hx] at h; cases h
set_option maxRecDepth 100000 in
theorem open_entries {H : Type} {enc : TypeId × Value → H} {w : World} {base : Nat} {held : Bool} {a : Option Addr} {len cap : Nat} {x : DataW H × List MemPlace}
    (h : ∃ fuel, DataW.trod enc Tryd.prog w base (fun _ => true) held fuel 36 (Value.slice a len cap).cells.toList = some x) :
    ∃ es : List EntP, es.length = len ∧ Ens w a es ∧ ∀ e ∈ es, e.m.size ≤ maxLen ∧ e.t.size ≤ maxLen := by
  have k2 : Tryd.prog.cellsOf 2 = 1 := by kernel_rfl
  have k3 : Tryd.prog.cellsOf 3 = 1 := by kernel_rfl
  have k9 : Tryd.prog.cellsOf 9 = 1 := by kernel_rfl
  have kE : Tryd.prog.cellsOf 23 = 9 := by kernel_rfl
  obtain ⟨fuel, hf⟩ := h
  rcases Go.Deep.open_slice Tryd.underlying36 hf with ⟨hcs, hx⟩ | ⟨ad, l, c, m, n, D, Pl, hcs, hb, hl, hm, hmm, hx, hc⟩
  · simp [Value.cells] at hcs
    obtain ⟨rfl, rfl, rfl⟩ := hcs
    exact ⟨[], rfl, ⟨Nat.zero_le _, fun h => absurd h (Nat.lt_irrefl _)⟩, fun e he => by cases he⟩
  · simp [Value.cells] at hcs
    obtain ⟨rfl, rfl, rfl⟩ := hcs
    have hmm' : m = cap := by simpa using hmm
    subst hmm'
    have each : ∀ i, i < len → ∃ e : EntP, (∀ (j : Nat) (v : Value), (entV e)[j]? = some v → w.cell? (ad.add (i * 9 + j)) = some v) ∧ e.m.size ≤ maxLen ∧ e.t.size ≤ maxLen := by
      intro i hi
      obtain ⟨cs', h1, h2⟩ := hc i (by omega)
      rw [kE] at h1
      obtain ⟨_, hlen, hcell⟩ := World.cells?_some h1
      obtain ⟨xs, k, hk, hxy, _, hxl, hg⟩ := DataW.trod_struct Tryd.underlying23 h2
      match xs, hxl, cs', hlen with
      | [y0, y1, y2, y3, y4, y5, y6, y7, y8], _, [v0, v1, v2, v3, v4, v5, v6, v7, v8], _ =>
        have g0 := hg 0 _ rfl
        have g1 := hg 1 _ rfl
        have g2 := hg 2 _ rfl
        have g3 := hg 3 _ rfl
        have g4 := hg 4 _ rfl
        have g5 := hg 5 _ rfl
        have g6 := hg 6 _ rfl
        have g7 := hg 7 _ rfl
        have g8 := hg 8 _ rfl
        simp [k2, k3, k9] at g0 g1 g2 g3 g4 g5 g6 g7 g8
        have e0 := hcell 0 (by omega)
        have e1 := hcell 1 (by omega)
        have e2 := hcell 2 (by omega)
        have e3 := hcell 3 (by omega)
        have e4 := hcell 4 (by omega)
        have e5 := hcell 5 (by omega)
        have e6 := hcell 6 (by omega)
        have e7 := hcell 7 (by omega)
        have e8 := hcell 8 (by omega)
        rw [Go.Deep.add_add] at e0 e1 e2 e3 e4 e5 e6 e7 e8
        obtain ⟨s0, a0, _⟩ := DataW.trod_int Tryd.underlying2 g0
        obtain ⟨s1, a1, _⟩ := DataW.trod_int Tryd.underlying2 g1
        obtain ⟨s2, a2, _⟩ := DataW.trod_int Tryd.underlying2 g2
        obtain ⟨s3, a3, _⟩ := DataW.trod_int Tryd.underlying3 g3
        obtain ⟨s4, a4, _, z4⟩ := DataW.trod_string Tryd.underlying9 g4
        obtain ⟨s5, a5, _, z5⟩ := DataW.trod_string Tryd.underlying9 g5
        obtain ⟨s6, a6, _⟩ := DataW.trod_int Tryd.underlying3 g6
        obtain ⟨s7, a7, _⟩ := DataW.trod_int Tryd.underlying3 g7
        obtain ⟨s8, a8, _⟩ := DataW.trod_int Tryd.underlying3 g8
        have a0' : v0 = .int .i64 s0 := by simpa using a0
        have a1' : v1 = .int .i64 s1 := by simpa using a1
        have a2' : v2 = .int .i64 s2 := by simpa using a2
        have a3' : v3 = .int .i64 s3 := by simpa using a3
        have a4' : v4 = .string s4 := by simpa using a4
        have a5' : v5 = .string s5 := by simpa using a5
        have a6' : v6 = .int .i64 s6 := by simpa using a6
        have a7' : v7 = .int .i64 s7 := by simpa using a7
        have a8' : v8 = .int .i64 s8 := by simpa using a8
        subst a0' a1' a2' a3' a4' a5' a6' a7' a8'
        refine ⟨⟨s0, s1, s2, s3, s4, s5, s6, s7, s8⟩, fun j v hj => ?_, z4, z5⟩
        match j, hj with
        | 0, hj => rw [← hj]; exact e0
        | 1, hj => rw [← hj]; exact e1
        | 2, hj => rw [← hj]; exact e2
        | 3, hj => rw [← hj]; exact e3
        | 4, hj => rw [← hj]; exact e4
        | 5, hj => rw [← hj]; exact e5
        | 6, hj => rw [← hj]; exact e6
        | 7, hj => rw [← hj]; exact e7
        | 8, hj => rw [← hj]; exact e8
        | j + 9, hj => exact absurd (Array.getElem?_eq_some_iff.1 hj).1 (by show ¬ j + 9 < 9; omega)
    haveI : Inhabited EntP := ⟨zeroE⟩
    obtain ⟨q, hq⟩ := Go.Deep.choose_lt each
    have hql : ((List.range len).map q).length = len := by simp
    refine ⟨(List.range len).map q, hql, ⟨by rw [hql]; omega, fun hp => ?_⟩, fun e he => ?_⟩
    · rw [hql] at hp
      obtain ⟨b, off, spot⟩ := ad
      have hc0 := (hq 0 hp).1 0 _ rfl
      have hspot : spot = none := by simpa [Addr.add] using World.cell?_spot hc0
      subst hspot
      refine ⟨b, off, rfl, ?_, fun i hi j v hj => ?_⟩
      · have hb0 : (⟨b, off, none⟩ : Addr).block < w.heap.size := by
          have : w.cell? ((⟨b, off, none⟩ : Addr).add (0 * 9 + 0)) = _ := hc0
          unfold World.cell? at this
          rcases Nat.lt_or_ge b w.heap.size with c | c
          · exact c
          · simp [Addr.add, Array.getElem?_eq_none c] at this
        exact hb0
      · have hi' : i < len := by rw [hql] at hi; exact hi
        have e : ((List.range len).map q)[i] = q i := by simp
        rw [e] at hj
        have k := (hq i hi').1 j v hj
        rw [addr_add] at k
        rw [Nat.add_assoc]; exact k
    · obtain ⟨i, hi, rfl⟩ := List.mem_map.1 he
      exact (hq i (List.mem_range.1 hi)).2
end Go.Proofs.YtefbfcbnehhmeaaDoor

/- EntryAll: Same of equal rows; three rows that grow side by side. -/
namespace Go.Proofs.YtefbfcbnehhmeaaDoor
open Go.RowKit
set_option linter.unusedVariables false

theorem hidE {p : Prop} (h : p) : Hid p := h
set_option maxRecDepth 100000 in
set_option maxHeartbeats 4000000 in
theorem r13same_eq (es : List EntP) (a b : Option Addr) (c d : Nat) (w : World) (ha : Ens w a es) (hb : Ens w b es) (hl : es.length ≤ 1000) :
    Calls Tryd.prog 16 #[.slice a es.length c, .slice b es.length d] w fun e w' => e = .returned (.bool true) ∧ Below w.heap.size w w' := by
  obtain ⟨n, hn⟩ : ∃ n, n = es.length := ⟨_, rfl⟩
  have HN : Hid (es.length = n) := hn.symm
  have HA := hidE (fun W (b : Below w.heap.size w W) => ha.keep b)
  have HB := hidE (fun W (b : Below w.heap.size w W) => hb.keep b)
  rw [← hn] at hl ⊢
  clear ha hb hn
  go_enter Tryd.func16, Tryd.ntmps16
  go_wp2_with fail
  go_loopw [5] (fun vi wr => ∃ i : Nat, i ≤ n ∧ vi = .int .i64 i ∧ Hid (Below w.heap.size w wr)) (fun vi _ => n - (intOf vi).toNat)
  case atStart => exact ⟨0, Nat.zero_le _, rfl, Below.refl _ _⟩
  case round =>
    obtain ⟨i, hi, rfl, HBE⟩ := hrel
    by_cases hlt : i < n
    · have ka := HA.out _ HBE.out
      have kb := HB.out _ HBE.out
      obtain ⟨g, off, rfl, _, _⟩ := ka.2 (by rw [HN.out]; omega)
      obtain ⟨g2, off2, rfl, _, _⟩ := kb.2 (by rw [HN.out]; omega)
      obtain ⟨p0, p1, p2, p3, p4, p5, p6, p7, p8⟩ := ka.cells i (by rw [HN.out]; exact hlt)
      obtain ⟨q0, q1, q2, q3, q4, q5, q6, q7, q8⟩ := kb.cells i (by rw [HN.out]; exact hlt)
      have hne := ent_neq (es[i]'(by rw [HN.out]; exact hlt))
      generalize es[i]'(by rw [HN.out]; exact hlt) = e at *
      unfold entV at hne
      have m1 : (0 : Int) ≤ i := by omega
      have m2 : (i : Int) < n := by omega
      have HB2 : Hid (Below w.heap.size w wr.drew) := HBE.out.drew
      have hne2 := hne wr.drew
      clear ka kb HBE hne
      go_wp2_with fail
      go_region_held3 (fun W => W.cell? ⟨g, off + i * 9, none⟩ = some (.int .i64 e.q) ∧ W.cell? ⟨g, off + i * 9 + 1, none⟩ = some (.int .i64 e.a) ∧ W.cell? ⟨g, off + i * 9 + 2, none⟩ = some (.int .i64 e.k) ∧ W.cell? ⟨g, off + i * 9 + 3, none⟩ = some (.int .i64 e.n) ∧ W.cell? ⟨g, off + i * 9 + 4, none⟩ = some (.string e.m) ∧ W.cell? ⟨g, off + i * 9 + 5, none⟩ = some (.string e.t) ∧ W.cell? ⟨g, off + i * 9 + 6, none⟩ = some (.int .i64 e.c) ∧ W.cell? ⟨g, off + i * 9 + 7, none⟩ = some (.int .i64 e.u) ∧ W.cell? ⟨g, off + i * 9 + 8, none⟩ = some (.int .i64 e.d) ∧ W.cell? ⟨g2, off2 + i * 9, none⟩ = some (.int .i64 e.q) ∧ W.cell? ⟨g2, off2 + i * 9 + 1, none⟩ = some (.int .i64 e.a) ∧ W.cell? ⟨g2, off2 + i * 9 + 2, none⟩ = some (.int .i64 e.k) ∧ W.cell? ⟨g2, off2 + i * 9 + 3, none⟩ = some (.int .i64 e.n) ∧ W.cell? ⟨g2, off2 + i * 9 + 4, none⟩ = some (.string e.m) ∧ W.cell? ⟨g2, off2 + i * 9 + 5, none⟩ = some (.string e.t) ∧ W.cell? ⟨g2, off2 + i * 9 + 6, none⟩ = some (.int .i64 e.c) ∧ W.cell? ⟨g2, off2 + i * 9 + 7, none⟩ = some (.int .i64 e.u) ∧ W.cell? ⟨g2, off2 + i * 9 + 8, none⟩ = some (.int .i64 e.d)) (go_keep) (first | fail)
      clear p0 p1 p2 p3 p4 p5 p6 p7 p8 q0 q1 q2 q3 q4 q5 q6 q7 q8
      go_wp2
      go_roundw
      case rel => exact ⟨i + 1, by omega, by go_num, HB2⟩
      case measure => simp [intOf]; omega
    · obtain rfl : i = n := by omega
      go_wp2
      go_ret
      exact ⟨rfl, HBE.out⟩
theorem acc_blk {w : World} {g : Nat} {v : Value} {X : List UInt8} (h : Acc w g v X) : ∃ cur, w.heap[g]? = some (.cells cur 5) := by
  obtain ⟨h1, h2, h3 | ⟨g', c, cur, hv, _, hg, _⟩⟩ := h
  · rw [h3.1] at h1; cases h1
  · rw [hv] at h1
    obtain rfl : g' = g := by simpa [Value.ownBlock] using h1
    exact ⟨cur, hg⟩
theorem OwnE.blk {N : Nat} {w : World} {v : Value} {es : List EntP} (h : OwnE N w v es) : ∀ k, v.ownBlock = some k → ∃ cur, w.heap[k]? = some (.cells cur 23) := by
  obtain ⟨_, ⟨h2, h3⟩ | ⟨g, c, cur, hv, hB, hg, _⟩⟩ := h
  · subst h2; intro k hk; cases hk
  · subst hv; intro k hk
    obtain rfl : g = k := by simpa [Value.ownBlock] using hk
    exact ⟨cur, hg⟩
theorem OwnE.move {N : Nat} {w w' : World} {v : Value} {es : List EntP} (h : OwnE N w v es) (hk : ∀ (k : Nat) (cur : Array Value), w.heap[k]? = some (Obj.cells cur 23) → w'.heap[k]? = w.heap[k]?) : OwnE N w' v es := by
  obtain ⟨h1, h2⟩ := h
  refine ⟨h1, ?_⟩
  rcases h2 with h2 | ⟨g, c, cur, hv, hB, hg, r⟩
  · exact .inl h2
  · exact .inr ⟨g, c, cur, hv, hB, (hk g cur hg).trans hg, r⟩
/-- The three rows. -/
structure Tri (w wr : World) (vb vl ve : Value) (x y : List UInt8) (E : List EntP) : Prop where
  two : Two w wr vb vl x y
  row : OwnE w.heap.size wr ve E
theorem Tri.keep {w wr wr' : World} {vb vl ve : Value} {x y : List UInt8} {E : List EntP} (h : Tri w wr vb vl ve x y E) (b : Below wr.heap.size wr wr') : Tri w wr' vb vl ve x y E :=
  ⟨h.two.keep b, h.row.move fun k cur hk => b.block k (Array.getElem?_eq_some_iff.1 hk).1⟩
/-- Bytes appended to the first row. -/
theorem Tri.app {w wr : World} {vb vl ve : Value} {x y Y : List UInt8} {E : List EntP} {k : Nat} {a : Option Addr} {n c : Nat} (h : Tri w wr vb vl ve x y E) (hs : Src wr k (.slice a n c) Y) (hnil : a = none → c = 0) (hmax : x.length + Y.length ≤ 140737488355328) :
    ∃ v' w', (Builtin.append_ #[25, 25] 25 #[vb, .slice a n c]).run Tryd.prog wr = .ok v' w' ∧ Tri w w' v' vl ve (x ++ Y) y E ∧ wr.heap.size ≤ w'.heap.size ∧ ∀ k, k < wr.heap.size → vb.ownBlock ≠ some k → w'.heap[k]? = wr.heap[k]? := by
  obtain ⟨gx, gy, h1, h2, h3, h4, h5, h6⟩ := h.two
  obtain ⟨v', w', g', r, ha, hg, hk⟩ := acc_append h1 hs hnil hmax
  obtain ⟨cu, hcu⟩ := acc_blk h1
  refine ⟨v', w', r, ⟨two_after (vx := vb) (x := x) h2 h3 h4 h5 h6 ha hg hk, h.row.move fun j cur hj => hk.block j (Array.getElem?_eq_some_iff.1 hj).1 (fun e => by
    subst e
    rw [hcu] at hj
    injection hj with hj
    injection hj with _ e _
    exact absurd e (by decide))⟩, hk.size, fun j hj hn => hk.block j hj (fun e => hn (by rw [e]; exact h1.1))⟩
theorem Tri.swap {w wr : World} {vb vl ve : Value} {x y : List UInt8} {E : List EntP} (h : Tri w wr vb vl ve x y E) : Tri w wr vl vb ve y x E := ⟨h.two.swap, h.row⟩
theorem Tri.own {w wr : World} {vb vl ve : Value} {x y : List UInt8} {E : List EntP} (h : Tri w wr vb vl ve x y E) : ∃ g, vb.ownBlock = some g ∧ g < wr.heap.size ∧ w.heap.size ≤ g ∧ (∃ c, vb = .slice (some ⟨g, 0, none⟩) x.length c) ∧ Src wr g vb x := by
  obtain ⟨gx, gy, h1, h2, h3, h4, h5, h6⟩ := h.two
  exact ⟨gx, h1.1, h1.lt, h4, h1.form, h1.src⟩
/-- A record appended. -/
theorem Tri.push {w wr : World} {vb vl ve : Value} {x y : List UInt8} {E : List EntP} (h : Tri w wr vb vl ve x y E) (e : EntP) (ad : Addr) (hc : ∀ i u, (entV e)[i]? = some u → wr.cell? (ad.add i) = some u) (hmax : E.length ≤ 1000) :
    ∃ g' c' w', (Builtin.append_ #[36, 36] 36 #[ve, .slice (some ad) 1 1]).run Tryd.prog wr = .ok (.slice (some ⟨g', 0, none⟩) (E.length + 1) c') w' ∧ Tri w w' vb vl (.slice (some ⟨g', 0, none⟩) (E.length + 1) c') x y (E ++ [e]) := by
  obtain ⟨gx, gy, h1, h2, h3, h4, h5, h6⟩ := h.two
  obtain ⟨g', c', w', r, O, G, _⟩ := ownE_append h.row e ad hc (by omega) h6.size
  have key : ∀ {k : Nat} {cur : Array Value}, wr.heap[k]? = some (.cells cur 5) → w'.heap[k]? = wr.heap[k]? := fun {k cur} hk => G.block k (Array.getElem?_eq_some_iff.1 hk).1 (fun q => by
    obtain ⟨cur2, hc2⟩ := h.row.blk k q.symm
    rw [hk] at hc2
    injection hc2 with hc2
    injection hc2 with _ e _
    exact absurd e (by decide))
  obtain ⟨c1, hc1⟩ := acc_blk h1
  obtain ⟨c2, hc2⟩ := acc_blk h2
  exact ⟨g', c', w', r, ⟨⟨gx, gy, h1.frame (key hc1), h2.frame (key hc2), h3, h4, h5, h6.grown G h6.size (fun k q => (World.ownsRow.lt h.row k q).1)⟩, O⟩⟩
end Go.Proofs.YtefbfcbnehhmeaaDoor

/- EntryAll, walked. -/
namespace Go.Proofs.YtefbfcbnehhmeaaDoor
open Go.RowKit
set_option linter.unusedVariables false

theorem and_maskE (n : Int) (m : Nat) (hm : m < 9223372036854775808) : ∃ k : Nat, k ≤ m ∧ bits .and .i64 n (m : Int) = (k : Int) := by
  have h2 : (BitVec.ofInt 64 (m : Int)).toNat = m := by
    rw [BitVec.ofInt_natCast, BitVec.toNat_ofNat]; exact Nat.mod_eq_of_lt (by omega)
  have hk : (BitVec.ofInt 64 n &&& BitVec.ofInt 64 (m : Int)).toNat ≤ m := by
    rw [BitVec.toNat_and, h2]; exact Nat.and_le_right
  refine ⟨(BitVec.ofInt 64 n &&& BitVec.ofInt 64 (m : Int)).toNat, hk, ?_⟩
  show IntKind.i64.wrap ((BitVec.ofInt 64 n &&& BitVec.ofInt 64 (m : Int)).toNat : Int) = _
  rw [IntKind.wrap_i64]
  generalize (BitVec.ofInt 64 n &&& BitVec.ofInt 64 (m : Int)).toNat = k at *
  omega
theorem tri_new (w w1 : World) (B : Below w.heap.size w w1) : Tri w (((w1.alloc (.cells #[] 5)).alloc (.cells #[] 5)).alloc (.cells #[] 23)) (.slice (some ⟨w1.heap.size, 0, none⟩) 0 0) (.slice (some ⟨w1.heap.size + 1, 0, none⟩) 0 0) (.slice (some ⟨w1.heap.size + 2, 0, none⟩) 0 0) [] [] [] := by
  have s1 : (w1.alloc (.cells #[] 5)).heap.size = w1.heap.size + 1 := by simp
  have s2 : ((w1.alloc (.cells #[] 5)).alloc (.cells #[] 5)).heap.size = w1.heap.size + 2 := by simp
  have B1 : Below w1.heap.size w1 (w1.alloc (.cells #[] 5)) := (Below.refl _ _).alloc (Nat.le_refl _) _
  have B2 : Below (w1.heap.size + 1) (w1.alloc (.cells #[] 5)) ((w1.alloc (.cells #[] 5)).alloc (.cells #[] 5)) := by rw [← s1]; exact (Below.refl _ _).alloc (Nat.le_refl _) _
  have B3 : Below (w1.heap.size + 2) ((w1.alloc (.cells #[] 5)).alloc (.cells #[] 5)) (((w1.alloc (.cells #[] 5)).alloc (.cells #[] 5)).alloc (.cells #[] 23)) := by rw [← s2]; exact (Below.refl _ _).alloc (Nat.le_refl _) _
  have A1 := Acc.empty w1
  have A2 := Acc.empty (w1.alloc (.cells #[] 5))
  rw [s1] at A2
  have hs := B.size
  have b1 := B.trans (B1.mono hs)
  have b2 := b1.trans (B2.mono (by omega))
  have b3 := b2.trans (B3.mono (by omega))
  have tb := tblk_new ((w1.alloc (.cells #[] 5)).alloc (.cells #[] 5)) (.cells #[] 23)
  rw [s2] at tb
  exact ⟨⟨w1.heap.size, w1.heap.size + 1, (A1.frame (B2.block _ (by omega))).frame (B3.block _ (by omega)), A2.frame (B3.block _ (by omega)), by omega, by omega, by omega, b3⟩, ⟨rfl, .inr ⟨w1.heap.size + 2, 0, #[], rfl, by omega, tb, Nat.le_refl _, by decide, rfl, rfl⟩⟩⟩
set_option maxRecDepth 100000 in
set_option maxHeartbeats 4000000 in
theorem all_walk (es : List EntP) (a0 : Option Addr) (c0 : Nat) (first x2 : Int) (w : World) (he : Ens w a0 es) (hsz : ∀ e ∈ es, e.m.size ≤ maxLen ∧ e.t.size ≤ maxLen) (hA : AlE w) :
    Calls Tryd.prog 5 #[.slice a0 es.length c0, .int .i64 first, .int .i64 x2] w fun r w' => r = .returned (.bool true) ∧ Below w.heap.size w w' := by
  have HAL := hidE (alive13_any w hA)
  have HE := hidE he
  have HSZ := hidE hsz
  have HAE := hidE hA
  have hmx : es.length ≤ 9223372036854775807 := by have h2 := he.1; unfold maxLen at h2; omega
  obtain ⟨n, hn⟩ : ∃ n, n = es.length := ⟨_, rfl⟩
  have HN : Hid (es.length = n) := hn.symm
  rw [← hn] at hmx ⊢
  obtain ⟨kk, hk1, hb1⟩ := and_maskE x2 1023 (by decide)
  have hb1' : bits BinOp.and IntKind.i64 x2 1023 = (kk : Int) := hb1
  clear he hsz hA hn hb1
  go_enter Tryd.func5, Tryd.ntmps5
  go_wp2_with fail
  refine HAL.out.mono ?_
  rintro e w1 ⟨rfl, B1⟩
  have HB1 := hidE B1
  clear HAL B1
  by_cases h1 : 50 < n
  · have d1 : decide (50 < n) = true := decide_eq_true h1
    go_wp2
    go_ret
    exact ⟨rfl, HB1.out⟩
  have d1 : decide (50 < n) = false := decide_eq_false h1
  by_cases h2 : n = 0
  · subst h2
    go_wp2
    go_ret
    exact ⟨rfl, HB1.out⟩
  have d2 : ((n : Int) == 0) = false := by simp; omega
  by_cases h3 : first < 1
  · have d3 : decide (first < 1) = true := decide_eq_true h3
    go_wp2
    go_ret
    exact ⟨rfl, HB1.out⟩
  have d3 : decide (first < 1) = false := decide_eq_false h3
  by_cases h4 : 1099511627776 < first
  · have d4 : decide (1099511627776 < first) = true := decide_eq_true h4
    go_wp2
    go_ret
    exact ⟨rfl, HB1.out⟩
  have d4 : decide (1099511627776 < first) = false := decide_eq_false h4
  have HT0 := hidE (tri_new w w1 HB1.out)
  obtain ⟨K, hK⟩ : ∃ K, K = kk % n := ⟨_, rfl⟩
  have hKn : K < n := by rw [hK]; exact Nat.mod_lt _ (by omega)
  have f1 : (kk : Int) % (n : Int) = (K : Int) := by rw [hK]; rfl
  have f6 : (kk : Int).tmod (n : Int) = (K : Int) := by rw [hK]; rfl
  have hn50 : n ≤ 50 := by omega
  have hn1 : 1 ≤ n := by omega
  have hf1 : 1 ≤ first := by omega
  have hf2 : first ≤ 1099511627776 := by omega
  clear hK h1 h2 h3 h4 hmx HB1
  go_wp2_with fail
  generalize (((w1.alloc (.cells #[] 5)).alloc (.cells #[] 5)).alloc (.cells #[] 23)) = w2 at *
  go_loopw [7, 8, 9, 49] (fun v7 v8 v9 vi wr => ∃ (i gb cb gl cl ge ce lb ll : Nat), i ≤ n ∧ vi = .int .i64 i ∧ v7 = .slice (some ⟨gb, 0, none⟩) lb cb ∧ v8 = .slice (some ⟨gl, 0, none⟩) ll cl ∧ v9 = .slice (some ⟨ge, 0, none⟩) i ce ∧ Hid (Tri w wr (.slice (some ⟨gb, 0, none⟩) lb cb) (.slice (some ⟨gl, 0, none⟩) ll cl) (.slice (some ⟨ge, 0, none⟩) i ce) (flatE ((tagL first es).take i)) (flatE (((tagL first es).take i).eraseIdx K)) ((tagL first es).take i)) ∧ Hid (∀ e ∈ (tagL first es).take i, rightE e = true)) (fun _ _ _ vi _ => n - (intOf vi).toNat)
  case atStart => exact ⟨0, _, _, _, _, _, _, _, _, Nat.zero_le _, rfl, rfl, rfl, rfl, HT0, fun e he => by cases he⟩
  case round =>
    clear HT0
    obtain ⟨i, gb, cb, gl, cl, ge, ce, lb, ll, hi, rfl, rfl, rfl, rfl, HT, HR⟩ := hrel
    by_cases hlt : i < n
    · have hb := HT.out.two.bel
      have hen := HE.out.keep hb
      obtain ⟨g, off, rfl, _, _⟩ := hen.2 (by rw [HN.out]; omega)
      have hil : i < es.length := by rw [HN.out]; exact hlt
      obtain ⟨p0, p1, p2, p3, p4, p5, p6, p7, p8⟩ := hen.cells i hil
      have htg := tag_at es first i hil
      have hsi := HSZ.out es[i] (List.getElem_mem hil)
      generalize hei : es[i] = e at *
      have m1 : (0 : Int) ≤ i := by omega
      have m2 : (i : Int) < n := by omega
      have f7 : IntKind.i64.wrap (first + (i : Int)) = first + (i : Int) := by rw [IntKind.wrap_i64]; omega
      clear hei
      obtain ⟨eT, heT⟩ : ∃ eT : EntP, eT = { e with q := first + (i : Int) } := ⟨_, rfl⟩
      have ht0 : entV eT = #[.int .i64 (first + (i : Int)), .int .i64 e.a, .int .i64 e.k, .int .i64 e.n, .string e.m, .string e.t, .int .i64 e.c, .int .i64 e.u, .int .i64 e.d] := by rw [heT]; rfl
      have hst : eT.m.size ≤ maxLen ∧ eT.t.size ≤ maxLen := by rw [heT]; exact hsi
      have HTK : Hid ((tagL first es).take (i + 1) = (tagL first es).take i ++ [eT]) := by
        have hl : i < (tagL first es).length := by rw [tag_len]; exact hil
        show _ = _
        rw [List.take_succ_eq_append_getElem hl, htg, heT]
      have hlen : ((tagL first es).take i).length = i := by rw [List.length_take, tag_len]; omega
      have B8 : Below wr.heap.size wr (wr.alloc (.cells (entV eT) 23)) := (Below.refl _ _).alloc (Nat.le_refl _) _
      have b8 : Below w.heap.size w (wr.alloc (.cells (entV eT) 23)) := hb.trans (B8.mono hb.size)
      have HW := hidE (enwrite_any eT (wr.alloc (.cells (entV eT) 23)) hst.1 hst.2 (HAE.out.below b8).l (HAE.out.below b8).p)
      have HT8 := hidE (HT.out.keep B8)
      have HTB := hidE (tblk_new wr (.cells (entV eT) 23))
      have HB8 := hidE b8
      have HZ8 : Hid ((wr.alloc (.cells (entV eT) 23)).heap.size = wr.heap.size + 1) := by show _ = _; simp
      have HST := hidE hst
      have HLN := hidE hlen
      clear heT htg hsi hen hb B8 b8 hst hlen
      cases hr : rightE eT
      · have HRT : Hid (∀ W, Below w.heap.size w W → Calls Tryd.prog 8 #[.agg (entV eT)] W fun r w' => r = .returned (.bool (rightE eT)) ∧ Below W.heap.size W w') := fun W bW => enright_any eT W HST.out.1 HST.out.2 (HAE.out.below bW).l
        rw [hr] at HRT
        have HWW : Hid (Calls Tryd.prog 7 #[.agg (entV eT)] (wr.alloc (.cells (entV eT) 23)) fun r w' => r = .returned (.tuple #[.slice none 0 0, .int .i64 1]) ∧ Below w.heap.size w w' ∧ w'.heap[wr.heap.size]? = some (.cells (entV eT) 23)) := HW.out.mono fun r w' hq => by
          unfold WrR at hq
          rw [if_neg (by rw [hr]; decide)] at hq
          exact ⟨hq.1, HB8.out.trans (hq.2.mono HB8.out.size), (hq.2.block _ (by rw [HZ8.out]; omega)).trans HTB.out⟩
        clear HW HT8 HTB HB8 HZ8 HST
        rw [ht0] at HWW HRT
        go_wp2_with fail
        refine HWW.out.mono ?_
        rintro r w9 ⟨rfl, B9, T9⟩
        have HB9 := hidE B9
        have q0 : w9.cell? ⟨wr.heap.size, 0, none⟩ = some (.int .i64 (first + (i : Int))) := tblk_cell T9 rfl
        have q1 : w9.cell? ⟨wr.heap.size, 1, none⟩ = some (.int .i64 e.a) := tblk_cell T9 rfl
        have q2 : w9.cell? ⟨wr.heap.size, 2, none⟩ = some (.int .i64 e.k) := tblk_cell T9 rfl
        have q3 : w9.cell? ⟨wr.heap.size, 3, none⟩ = some (.int .i64 e.n) := tblk_cell T9 rfl
        have q4 : w9.cell? ⟨wr.heap.size, 4, none⟩ = some (.string e.m) := tblk_cell T9 rfl
        have q5 : w9.cell? ⟨wr.heap.size, 5, none⟩ = some (.string e.t) := tblk_cell T9 rfl
        have q6 : w9.cell? ⟨wr.heap.size, 6, none⟩ = some (.int .i64 e.c) := tblk_cell T9 rfl
        have q7 : w9.cell? ⟨wr.heap.size, 7, none⟩ = some (.int .i64 e.u) := tblk_cell T9 rfl
        have q8 : w9.cell? ⟨wr.heap.size, 8, none⟩ = some (.int .i64 e.d) := tblk_cell T9 rfl
        clear HWW T9 B9 p0 p1 p2 p3 p4 p5 p6 p7 p8 ht0
        go_wp2_with fail
        refine (HRT.out _ HB9.out).mono ?_
        rintro r w10 ⟨rfl, B10⟩
        have HB10 : Hid (Below w.heap.size w w10) := HB9.out.trans (B10.mono HB9.out.size)
        clear HRT B10
        go_wp2
        go_ret
        exact ⟨by simp, HB10.out⟩
      · have HWW : Hid (Calls Tryd.prog 7 #[.agg (entV eT)] (wr.alloc (.cells (entV eT) 23)) fun r w' => ∃ (off k c : Nat), r = .returned (.tuple #[.slice (some ⟨k, off, none⟩) (lineL eT).length c, .int .i64 0]) ∧ Hid (Src w' k (.slice (some ⟨k, off, none⟩) (lineL eT).length c) (lineL eT) ∧ wr.heap.size < k ∧ k < w'.heap.size ∧ Below wr.heap.size wr w' ∧ w'.heap[wr.heap.size]? = some (.cells (entV eT) 23))) := HW.out.mono fun r w' hq => by
          unfold WrR at hq
          rw [if_pos hr] at hq
          obtain ⟨a, c, k, e1, hS, h1, h2, hB⟩ := hq
          obtain ⟨cc, hcc, _, hcn, _⟩ := line_split hr
          obtain ⟨a', c', e2, _, _, h3⟩ := id hS
          obtain ⟨off, ha, _⟩ := h3 (by rw [hcc]; simp)
          obtain ⟨r1, _, _⟩ := slice_inj e2
          subst r1
          subst ha
          rw [HZ8.out] at h1 hB
          exact ⟨off, k, c, e1, hS, by omega, h2, ((Below.refl _ _).alloc (Nat.le_refl _) _).trans (hB.mono (by omega)), (hB.block _ (by omega)).trans HTB.out⟩
        have hfl := flat_len _ HR.out
        rw [HLN.out] at hfl
        have hll := line_len hr
        have hER : ∀ x ∈ (tagL first es).take (i + 1), rightE x = true := fun x hx => by
          rw [HTK.out] at hx
          rcases List.mem_append.1 hx with q | q
          · exact HR.out x q
          · rw [List.mem_singleton.1 q]; exact hr
        have HER := hidE hER
        have hfe : (flatE (((tagL first es).take i).eraseIdx K)).length ≤ 800 * i := by
          have h1 := flat_len (((tagL first es).take i).eraseIdx K) (fun x hx => HR.out x (List.mem_of_mem_eraseIdx hx))
          have h2 := List.length_eraseIdx_le ((tagL first es).take i) K
          rw [HLN.out] at h2
          omega
        have HFL : Hid ((flatE ((tagL first es).take i)).length ≤ 40000 ∧ (flatE (((tagL first es).take i).eraseIdx K)).length ≤ 40000 ∧ (lineL eT).length ≤ 800) := ⟨by omega, by omega, hll⟩
        have HTR : Hid (∀ W, Below wr.heap.size wr W → Tri w W (.slice (some ⟨gb, 0, none⟩) lb cb) (.slice (some ⟨gl, 0, none⟩) ll cl) (.slice (some ⟨ge, 0, none⟩) i ce) (flatE ((tagL first es).take i)) (flatE (((tagL first es).take i).eraseIdx K)) ((tagL first es).take i)) := fun W bW => HT.out.keep bW
        clear HW HT8 HTB HB8 HZ8 HST hfl hll hER hfe
        rw [ht0] at HWW
        go_wp2_with fail
        refine HWW.out.mono ?_
        rintro r w9 ⟨off9, k9, c9, rfl, H9⟩
        obtain ⟨hS, hk91, hk92, hB9, hT9⟩ := H9.out
        rw [← ht0] at hT9
        have T9 := HTR.out w9 hB9
        have hgb : gb < wr.heap.size := by
          obtain ⟨g1, o1, l1, _⟩ := HT.out.own
          obtain rfl : gb = g1 := by simpa [Value.ownBlock] using o1
          exact l1
        have hgl : gl < wr.heap.size := by
          obtain ⟨g1, o1, l1, _⟩ := HT.out.swap.own
          obtain rfl : gl = g1 := by simpa [Value.ownBlock] using o1
          exact l1
        obtain ⟨v7, w10, r10, T10, s10, K10⟩ := T9.app hS (fun q => by cases q) (by have := HFL.out; omega)
        obtain ⟨gb', _, _, _, ⟨cb', hv7⟩, _⟩ := T10.own
        subst hv7
        have S10 := hS.frame (K10 k9 hk92 (by simp [Value.ownBlock]; omega))
        have N10 : w10.heap[wr.heap.size]? = some (.cells (entV eT) 23) := (K10 wr.heap.size (by omega) (by simp [Value.ownBlock]; omega)).trans hT9
        have hsz10 : k9 < w10.heap.size := Nat.lt_of_lt_of_le hk92 s10
        rw [← flat_snoc, ← HTK.out] at T10
        have e10 : (flatE ((tagL first es).take i) ++ lineL eT).length = (flatE ((tagL first es).take (i + 1))).length := by rw [HTK.out, flat_snoc]
        rw [e10] at r10
        by_cases hiK : i = K
        · have hek : ((tagL first es).take (i + 1)).eraseIdx K = ((tagL first es).take i).eraseIdx K := by rw [HTK.out, erase_snoc, if_pos (by rw [HLN.out]; exact hiK.symm)]
          rw [← hek] at T10
          have B12 : Below w10.heap.size w10 (w10.alloc (.cells (entV eT) 23)) := (Below.refl _ _).alloc (Nat.le_refl _) _
          obtain ⟨ge', ce', w13, r13, T13⟩ := (T10.keep B12).push eT ⟨w10.heap.size, 0, none⟩ (fun j u hj => by rw [addr_add]; exact tblk_cell (tblk_new _ _) (by rw [Nat.zero_add]; exact hj)) (by rw [HLN.out]; omega)
          rw [HLN.out] at r13 T13
          rw [← HTK.out] at T13
          have HT13 := hidE T13
          rw [ht0] at r13 N10
          have q0 : w10.cell? ⟨wr.heap.size, 0, none⟩ = some (.int .i64 (first + (i : Int))) := tblk_cell N10 rfl
          have q1 : w10.cell? ⟨wr.heap.size, 1, none⟩ = some (.int .i64 e.a) := tblk_cell N10 rfl
          have q2 : w10.cell? ⟨wr.heap.size, 2, none⟩ = some (.int .i64 e.k) := tblk_cell N10 rfl
          have q3 : w10.cell? ⟨wr.heap.size, 3, none⟩ = some (.int .i64 e.n) := tblk_cell N10 rfl
          have q4 : w10.cell? ⟨wr.heap.size, 4, none⟩ = some (.string e.m) := tblk_cell N10 rfl
          have q5 : w10.cell? ⟨wr.heap.size, 5, none⟩ = some (.string e.t) := tblk_cell N10 rfl
          have q6 : w10.cell? ⟨wr.heap.size, 6, none⟩ = some (.int .i64 e.c) := tblk_cell N10 rfl
          have q7 : w10.cell? ⟨wr.heap.size, 7, none⟩ = some (.int .i64 e.u) := tblk_cell N10 rfl
          have q8 : w10.cell? ⟨wr.heap.size, 8, none⟩ = some (.int .i64 e.d) := tblk_cell N10 rfl
          have f8 : ((i : Int) == (K : Int)) = true := by rw [hiK]; simp
          clear T9 T10 S10 N10 B12 T13 HTR HT hS hB9 hT9 H9 HWW hek e10 K10 p0 p1 p2 p3 p4 p5 p6 p7 p8 ht0 hgb hgl hiK
          generalize (flatE ((tagL first es).take (i + 1))).length = lb' at *
          generalize (lineL eT).length = ln9 at *
          go_wp2_with (first | (at_builtin; refine wpList_append_run2 rfl _ _ 25 25 rfl _ _ _ w10 rfl rfl r10 ?_; clear r10) | (at_builtin; refine wpList_append_run2 rfl _ _ 36 36 rfl _ _ _ w13 rfl rfl r13 ?_))
          go_roundw
          case rel => exact ⟨i + 1, gb', cb', gl, cl, ge', ce', lb', ll, by omega, by go_num, rfl, rfl, rfl, HT13, HER⟩
          case measure => simp [intOf]; omega
        · have hek : ((tagL first es).take (i + 1)).eraseIdx K = ((tagL first es).take i).eraseIdx K ++ [eT] := by rw [HTK.out, erase_snoc, if_neg (by rw [HLN.out]; exact fun q => hiK q.symm)]
          obtain ⟨v8, w11, r11, T11, s11, K11⟩ := T10.swap.app S10 (fun q => by cases q) (by have := HFL.out; omega)
          obtain ⟨gl', _, _, _, ⟨cl', hv8⟩, _⟩ := T11.own
          subst hv8
          have N11 : w11.heap[wr.heap.size]? = some (.cells (entV eT) 23) := (K11 wr.heap.size (by omega) (by simp [Value.ownBlock]; omega)).trans N10
          rw [← flat_snoc, ← hek] at T11
          have e11 : (flatE (((tagL first es).take i).eraseIdx K) ++ lineL eT).length = (flatE (((tagL first es).take (i + 1)).eraseIdx K)).length := by rw [hek, flat_snoc]
          rw [e11] at r11
          have B12 : Below w11.heap.size w11 (w11.alloc (.cells (entV eT) 23)) := (Below.refl _ _).alloc (Nat.le_refl _) _
          obtain ⟨ge', ce', w13, r13, T13⟩ := (T11.swap.keep B12).push eT ⟨w11.heap.size, 0, none⟩ (fun j u hj => by rw [addr_add]; exact tblk_cell (tblk_new _ _) (by rw [Nat.zero_add]; exact hj)) (by rw [HLN.out]; omega)
          rw [HLN.out] at r13 T13
          rw [← HTK.out] at T13
          have HT13 := hidE T13
          rw [ht0] at r13 N11
          have q0 : w11.cell? ⟨wr.heap.size, 0, none⟩ = some (.int .i64 (first + (i : Int))) := tblk_cell N11 rfl
          have q1 : w11.cell? ⟨wr.heap.size, 1, none⟩ = some (.int .i64 e.a) := tblk_cell N11 rfl
          have q2 : w11.cell? ⟨wr.heap.size, 2, none⟩ = some (.int .i64 e.k) := tblk_cell N11 rfl
          have q3 : w11.cell? ⟨wr.heap.size, 3, none⟩ = some (.int .i64 e.n) := tblk_cell N11 rfl
          have q4 : w11.cell? ⟨wr.heap.size, 4, none⟩ = some (.string e.m) := tblk_cell N11 rfl
          have q5 : w11.cell? ⟨wr.heap.size, 5, none⟩ = some (.string e.t) := tblk_cell N11 rfl
          have q6 : w11.cell? ⟨wr.heap.size, 6, none⟩ = some (.int .i64 e.c) := tblk_cell N11 rfl
          have q7 : w11.cell? ⟨wr.heap.size, 7, none⟩ = some (.int .i64 e.u) := tblk_cell N11 rfl
          have q8 : w11.cell? ⟨wr.heap.size, 8, none⟩ = some (.int .i64 e.d) := tblk_cell N11 rfl
          have f8 : ((i : Int) == (K : Int)) = false := by simp; omega
          clear T9 T10 T11 S10 N10 N11 B12 T13 HTR HT hS hB9 hT9 H9 HWW hek e10 e11 K10 K11 p0 p1 p2 p3 p4 p5 p6 p7 p8 ht0 hgb hgl hiK
          generalize (flatE ((tagL first es).take (i + 1))).length = lb' at *
          generalize (flatE (((tagL first es).take (i + 1)).eraseIdx K)).length = ll' at *
          generalize (lineL eT).length = ln9 at *
          go_wp2_with (first | (at_builtin; refine wpList_append_run2 rfl _ _ 25 25 rfl _ _ _ w10 rfl rfl r10 ?_; clear r10) | (at_builtin; refine wpList_append_run2 rfl _ _ 25 25 rfl _ _ _ w11 rfl rfl r11 ?_; clear r11) | (at_builtin; refine wpList_append_run2 rfl _ _ 36 36 rfl _ _ _ w13 rfl rfl r13 ?_))
          go_roundw
          case rel => exact ⟨i + 1, gb', cb', gl', cl', ge', ce', lb', ll', by omega, by go_num, rfl, rfl, rfl, HT13, HER⟩
          case measure => simp [intOf]; omega
    · obtain rfl : i = n := by omega
      have htl : (tagL first es).length = i := by rw [tag_len, HN.out]
      have hte : (tagL first es).take i = tagL first es := List.take_of_length_le (by omega)
      rw [hte] at HT HR
      obtain ⟨E, hE⟩ : ∃ E, E = tagL first es := ⟨_, rfl⟩
      have hlink : linkB E = true := by rw [hE]; exact link_tag es first
      have hends : (K = 0 ∨ K = i - 1) → linkB (E.eraseIdx K) = true := fun q => by rw [hE]; exact link_ends es first K (by rw [HN.out]; exact hKn) (by rw [HN.out]; exact q)
      have hmid : 1 ≤ K → K + 1 < i → linkB (E.eraseIdx K) = false := fun q1 q2 => by rw [hE]; exact link_less es first K q1 (by rw [HN.out]; exact q2)
      rw [← hE] at htl HT HR
      clear hte hE
      have hRE : ∀ e ∈ E.eraseIdx K, rightE e = true := fun e h => HR.out e (List.mem_of_mem_eraseIdx h)
      have hel : (E.eraseIdx K).length = i - 1 := by rw [List.length_eraseIdx_of_lt (by omega), htl]
      obtain ⟨gb1, o1, l1, b1, ⟨c1, v1⟩, S1⟩ := HT.out.own
      obtain ⟨gl1, o2, l2, b2, ⟨c2, v2⟩, S2⟩ := HT.out.swap.own
      obtain rfl : gb = gb1 := by simpa [Value.ownBlock] using o1
      obtain rfl : gl = gl1 := by simpa [Value.ownBlock] using o2
      obtain ⟨z1, hlb, z2⟩ := slice_inj v1
      obtain ⟨z3, hll, z4⟩ := slice_inj v2
      clear z1 z2 z3 z4
      have hfl := flat_len E HR.out
      have hfe := flat_len (E.eraseIdx K) hRE
      obtain ⟨E0, eL, hEE⟩ : ∃ E0 eL, E = E0 ++ [eL] := by
        rcases List.eq_nil_or_concat E with q | ⟨t, z, q⟩
        · rw [q] at htl; simp at htl; omega
        · exact ⟨t, z, by rw [q, List.concat_eq_append]⟩
      have hrL : rightE eL = true := HR.out eL (by rw [hEE]; simp)
      have hr0 : ∀ e ∈ E0, rightE e = true := fun e h => HR.out e (by rw [hEE]; simp [h])
      have hpos : 0 < (flatE E).length := by
        rw [hEE, flat_snoc, List.length_append]
        obtain ⟨cc, hcc, _⟩ := line_split hrL
        rw [hcc]
        simp
        omega
      have hg0 : goodB (E0.map lineL) = true := by
        have k := good_all E HR.out
        rw [hlink, hEE, List.map_append] at k
        exact good_pre _ _ _ rfl k
      have hb := HT.out.two.bel
      have HBW := hidE hb
      have A1 := HAE.out.below hb
      have X1 : Hid (Calls Tryd.prog 14 #[.slice (some ⟨gb, 0, none⟩) lb cb] wr fun r w' => ∃ a c, r = .returned (.tuple #[.slice a i c, .int .i64 0]) ∧ Hid (Below wr.heap.size wr w' ∧ Ens w' a E)) := (enall_any (flatE E) gb _ lb cb wr S1 l1 (by omega) A1.m A1.l A1.p).mono fun r w' hq => by
        obtain ⟨hB, v, hr, hO⟩ := all_good (by rw [lines_all E HR.out, good_all E HR.out]; exact hlink) hq
        rw [lines_all E HR.out, (vals_all E HR.out).1] at hO
        obtain ⟨a, c, hv⟩ := hO.form
        rw [htl] at hv
        subst hv
        exact ⟨a, c, hr, hB, hO.ens.1⟩
      have X2 : Hid (∀ W, Below wr.heap.size wr W → Calls Tryd.prog 14 #[.slice (some ⟨gl, 0, none⟩) ll cl] W fun r w' => Hid (Below W.heap.size W w') ∧ (((K = 0 ∨ K = i - 1) ∧ ∃ a c, r = .returned (.tuple #[.slice a (i - 1) c, .int .i64 0])) ∨ (¬ (K = 0 ∨ K = i - 1) ∧ r = .returned (.tuple #[.slice none 0 0, .int .i64 1])))) := fun W bW => by
        have AW := A1.below bW
        refine (enall_any (flatE (E.eraseIdx K)) gl _ ll cl W (S2.below l2 bW) (Nat.lt_of_lt_of_le l2 bW.size) (by omega) AW.m AW.l AW.p).mono fun r w' hq => ?_
        by_cases hc : K = 0 ∨ K = i - 1
        · obtain ⟨hB, v, hr, hO⟩ := all_good (by rw [lines_all _ hRE, good_all _ hRE]; exact hends hc) hq
          rw [lines_all _ hRE, (vals_all _ hRE).1] at hO
          obtain ⟨a, c, hv⟩ := hO.form
          rw [hel] at hv
          subst hv
          exact ⟨hB, .inl ⟨hc, a, c, hr⟩⟩
        · obtain ⟨hB, hr⟩ := all_bad (by rw [lines_all _ hRE, good_all _ hRE]; exact hmid (by omega) (by omega)) (by rw [lines_all _ hRE]; exact (vals_all _ hRE).2) hq
          exact ⟨hB, .inr ⟨hc, hr⟩⟩
      obtain ⟨lm, hlm⟩ : ∃ lm, lb = lm + 1 := ⟨lb - 1, by omega⟩
      subst hlm
      have X3 : Hid (∀ W, Below wr.heap.size wr W → Calls Tryd.prog 14 #[.slice (some ⟨gb, 0, none⟩) lm cb] W fun r w' => r = .returned (.tuple #[.slice none 0 0, .int .i64 20]) ∧ Hid (Below W.heap.size W w')) := fun W bW => by
        have AW := A1.below bW
        have S3 := (S1.below l1 bW).take (m := lm) (by omega)
        have e3 : (flatE E).take lm = (flatE (E0 ++ [eL])).take ((flatE (E0 ++ [eL])).length - 1) := by rw [← hEE]; congr 1; omega
        refine (enall_any ((flatE E).take lm) gb _ lm cb W S3 (Nat.lt_of_lt_of_le l1 bW.size) (by rw [List.length_take]; omega) AW.m AW.l AW.p).mono fun r w' hq => ?_
        obtain ⟨hB, hr⟩ := all_cut (by rw [e3]; exact lines_cut E0 eL hr0 hrL) hg0 (cut_bad hrL) hq
        exact ⟨hr, hB⟩
      have HRW : Hid (∀ W, Below wr.heap.size wr W → Ens W (some ⟨ge, 0, none⟩) E) := fun W bW => HT.out.row.ens.1.keep bW
      have HSM : Hid (∀ W a c, Ens W a E → Ens W (some ⟨ge, 0, none⟩) E → Calls Tryd.prog 16 #[.slice a i c, .slice (some ⟨ge, 0, none⟩) i ce] W fun e w' => e = .returned (.bool true) ∧ Below W.heap.size W w') := fun W a c h1 h2 => by
        have k := r13same_eq E a (some ⟨ge, 0, none⟩) c ce W h1 h2 (by omega)
        rw [htl] at k
        exact k
      have f2 : IntKind.i64.wrap (((lm + 1 : Nat) : Int) - 1) = (lm : Int) := by rw [IntKind.wrap_i64]; omega
      have f3 : IntKind.i64.wrap ((i : Int) - 1) = (i : Int) - 1 := by rw [IntKind.wrap_i64]; omega
      have hcb : lm + 1 ≤ cb := (S1.len).2.1
      have f4 : IntKind.i64.wrap (lm : Int) = (lm : Int) := by rw [IntKind.wrap_i64]; omega
      have f5 : (0 : Int) ≤ lm := by omega
      have f7 : (lm : Int) ≤ cb := by omega
      clear htl hlink hends hmid HT HR hRE hel o1 l1 b1 v1 S1 o2 l2 b2 v2 S2 hlb hll hfl hfe hEE hrL hr0 hpos hg0 hb A1
      go_wp2_with fail
      refine X1.out.mono ?_
      rintro r w6 ⟨a15, c15, rfl, H6⟩
      have HB6 := hidE H6.out.1
      clear X1
      go_wp2_with fail
      refine (X2.out _ HB6.out).mono ?_
      rintro r w7 ⟨HB7, hcase⟩
      have HB7' : Hid (Below wr.heap.size wr w7) := HB6.out.trans (HB7.out.mono HB6.out.size)
      clear X2
      rcases hcase with ⟨hc, a17, c17, rfl⟩ | ⟨hc, rfl⟩
      · obtain ⟨im, him⟩ : ∃ im, im = i - 1 := ⟨_, rfl⟩
        have e27 : ((im : Int) == (i : Int) - 1) = true := by rw [him]; simp; omega
        rw [← him]
        by_cases hk0 : K = 0
        · have e1 : ((K : Int) == 0) = true := by rw [hk0]; rfl
          clear him hc hk0
          go_wp2_with fail
          refine (X3.out _ HB7'.out).mono ?_
          rintro r w8 ⟨rfl, HB8⟩
          have HB8' : Hid (Below wr.heap.size wr w8) := HB7'.out.trans (HB8.out.mono HB7'.out.size)
          have HS := hidE (HSM.out w8 a15 c15 ((H6.out.2.keep HB7.out).keep HB8.out) (HRW.out _ HB8'.out))
          clear X3 HSM HRW HB7 HB8
          go_wp2_with fail
          refine HS.out.mono ?_
          rintro r w9 ⟨rfl, B9⟩
          have HB9 : Hid (Below w.heap.size w w9) := (HBW.out.trans (HB8'.out.mono HBW.out.size)).trans (B9.mono (Nat.le_trans HBW.out.size HB8'.out.size))
          clear HS B9 H6
          go_wp2
          go_ret
          exact ⟨by simp, HB9.out⟩
        · have e1 : ((K : Int) == 0) = false := by simp; omega
          have e2 : ((K : Int) == (i : Int) - 1) = true := by simp; omega
          clear him hc hk0
          go_wp2_with fail
          refine (X3.out _ HB7'.out).mono ?_
          rintro r w8 ⟨rfl, HB8⟩
          have HB8' : Hid (Below wr.heap.size wr w8) := HB7'.out.trans (HB8.out.mono HB7'.out.size)
          have HS := hidE (HSM.out w8 a15 c15 ((H6.out.2.keep HB7.out).keep HB8.out) (HRW.out _ HB8'.out))
          clear X3 HSM HRW HB7 HB8
          go_wp2_with fail
          refine HS.out.mono ?_
          rintro r w9 ⟨rfl, B9⟩
          have HB9 : Hid (Below w.heap.size w w9) := (HBW.out.trans (HB8'.out.mono HBW.out.size)).trans (B9.mono (Nat.le_trans HBW.out.size HB8'.out.size))
          clear HS B9 H6
          go_wp2
          go_ret
          exact ⟨by simp, HB9.out⟩
      · have e1 : ((K : Int) == 0) = false := by simp; omega
        have e2 : ((K : Int) == (i : Int) - 1) = false := by simp; omega
        clear hc
        go_wp2_with fail
        refine (X3.out _ HB7'.out).mono ?_
        rintro r w8 ⟨rfl, HB8⟩
        have HB8' : Hid (Below wr.heap.size wr w8) := HB7'.out.trans (HB8.out.mono HB7'.out.size)
        have HS := hidE (HSM.out w8 a15 c15 ((H6.out.2.keep HB7.out).keep HB8.out) (HRW.out _ HB8'.out))
        clear X3 HSM HRW HB7 HB8
        go_wp2_with fail
        refine HS.out.mono ?_
        rintro r w9 ⟨rfl, B9⟩
        have HB9 : Hid (Below w.heap.size w w9) := (HBW.out.trans (HB8'.out.mono HBW.out.size)).trans (B9.mono (Nat.le_trans HBW.out.size HB8'.out.size))
        clear HS B9 H6
        go_wp2
        go_ret
        exact ⟨by simp, HB9.out⟩
end Go.Proofs.YtefbfcbnehhmeaaDoor

/- Whatever the records and the two numbers, EntryAll answers true: records whose numbers go up by 1 are read from their lines; with one left out between, or the last byte, they are not. -/
namespace Go.Proofs.YtefbfcbnehhmeaaDoor.entryAll
open Go.ChangeShapes Go.WideShapes Go.ChangeAt Go.RowKit
open Go.ChangeMaps (open_string shut_string)
set_option linter.unusedVariables false

theorem own : ownKnob Tryd.prog.godebug = none := by kernel_rfl
theorem laidOut : laidOutB Tryd.prog = true := by kernel_rfl
theorem maxL_of {W : World} (hsh : W.ShapedOpen Tryd.prog) : MaxL W :=
  cell_of_shapedOpen_int (P := Tryd.prog) (g := 2) (t := 3) (zero := #[.int .i64 0]) hsh (of_decide_eq_true (by kernel_rfl)) (by kernel_rfl) rfl (by kernel_rfl) (by kernel_rfl) Tryd.underlying3
noncomputable def laidWorld (os : Os) : World := World.laidAll Tryd.prog os Rows.entryAllRow.laid
theorem laid_met (os : Os) : laidMetH Tryd.prog Rows.entryAllRow.laid ((laidWorld os).forCall (fun _ _ => 0) ⟨#[], #[.slice none 0 0, .int .i64 0, .int .i64 0], []⟩).memory := by
  rw [MakeChecks.laidMetH_plain _ _ _ (by kernel_rfl)]
  exact laidMet_laidAll _ (by kernel_rfl) (by kernel_rfl)
set_option maxRecDepth 100000 in
theorem lifted (os : Os) (started : os.Started) (H : Type) (enc : TypeId × Value → H) (F : Stop.Interp) :
    ReturnsInHanded {} Tryd.checked os 5 .any ((OpenSpec.ofChange Rows.entryAllSpec).preRow enc Tryd.prog Tryd.f5 Rows.entryAllRow.domain false Rows.entryAllRow.laid) (((OpenSpec.ofChange Rows.entryAllSpec).at F).post enc Tryd.prog Tryd.f5 false true false false) := by
  obtain ⟨places, hx⟩ := (⟨[], by kernel_rfl⟩ : ∃ places, DataW.whole enc Tryd.prog ((laidWorld os).forCall (fun _ _ => 0) ⟨#[], #[.slice none 0 0, .int .i64 0, .int .i64 0], []⟩).memory Tryd.f5.params.toList Rows.entryAllSpec.vars false (#[.slice none 0 0, .int .i64 0, .int .i64 0] : Array Value).toList 8 = some ([.nil, .lit (.int .i64 0), .lit (.int .i64 0)], [], places))
  refine returnsInHanded_of_row (C := Tryd.checked) (s := OpenSpec.ofChange Rows.entryAllSpec) own started (by kernel_rfl) Tryd.func5
    (witness_row_atRef (enc := enc) (C := Tryd.checked) false (laidWorld os) #[.slice none 0 0, .int .i64 0, .int .i64 0] rfl (by kernel_rfl) (by kernel_rfl) (by kernel_rfl)
      (OpenSpec.preRow_of_cond 8 hx (by kernel_rfl) (fun k hk => by cases hk) (by kernel_rfl) (laid_met os))) ?_
  intro W base args ds gs before hval0 hW _ hcond hsz hlaid hsh _
  have hM := maxL_of hsh
  clear hsh
  have hval : ∀ (j : Nat) t v, Tryd.f5.params[j]? = some t → args[j]? = some v → Value.okWide Tryd.prog W .any base t v := hval0
  have hW' := hW
  obtain ⟨p, q, hA0, hV, rfl, hfz, hnd⟩ := hW
  have hA : DataW.TrodAll enc Tryd.prog W 0 (fun _ => true) true Tryd.f5.params.toList args.toList ds p := hA0
  rw [Tryd.params5] at hA hval
  obtain ⟨v0, vs0, d0, ds0, p0, q0, hargs, rfl, rfl, h0, r0⟩ := trodAll_cons hA
  obtain ⟨v1, vs1, d1, ds1, p1, q1, rfl, rfl, rfl, h1, r1⟩ := trodAll_cons r0
  obtain ⟨v2, vs2, d2, ds2, p2, q2, rfl, rfl, rfl, h2, r2⟩ := trodAll_cons r1
  obtain ⟨rfl, rfl, rfl⟩ := trodAll_nil r2
  obtain rfl : args = #[v0, v1, v2] := by cases args; simp_all
  obtain ⟨rfl, rfl⟩ := trodVars_none hV
  obtain ⟨a0, len0, cap0, rfl⟩ := okWide_slice Tryd.underlying36 (hval 0 36 v0 rfl rfl)
  have k0 := h0
  have lt0 : ∀ x ∈ p0, x.block < W.heap.size := by obtain ⟨m, hm⟩ := k0; exact DataW.trod_lt m _ _ _ hm
  obtain ⟨es0, hl0, w0, x0⟩ := open_entries h0
  obtain ⟨a1, rfl, rfl, rfl, w1⟩ := open_int Tryd.underlying2 (hval 1 2 v1 rfl rfl) h1
  obtain ⟨a2, rfl, rfl, rfl, w2⟩ := open_int Tryd.underlying3 (hval 2 3 v2 rfl rfl) h2
  clear hA0 hval0
  have hP := tpow_of (l := Rows.entryAllRow.laid) (by kernel_rfl) hlaid
  have hL := lm_of (l := Rows.entryAllRow.laid) (by kernel_rfl) (by kernel_rfl) hlaid
  refine ((hl0 ▸ all_walk es0 a0 cap0 a1 a2 W w0 x0 ⟨hM, hL, hP⟩ : Calls Tryd.prog 5 #[.slice a0 len0 cap0, .int .i64 a1, .int .i64 a2] W fun e w' => e = .returned (.bool true) ∧ Below W.heap.size W w')).mono fun e W' ⟨he, bel⟩ => ?_
  subst he
  exact ⟨_, rfl, _, _, _, [], _, [], hW', trodAll_mk1 (shut_bool Tryd.underlying4 _), (trodAll_cons_mk (Below.trod laidOut (by kernel_rfl) (of_decide_eq_true (by kernel_rfl)) k0 bel lt0) (trodAll_cons_mk (shut_int Tryd.underlying2 w1) (trodAll_cons_mk (shut_int Tryd.underlying3 w2) trodAll_mk0))), rfl, bel.frame _, fun h => by cases h⟩

theorem over : Rows.EntryAllSaid :=
  OpenClaim.holds_of_cond 5 Tryd.f5 rfl rfl rfl rfl rfl rfl rfl ⟨rfl, rfl, rfl, rfl, rfl⟩ rfl rfl rfl rfl rfl (by kernel_rfl) Tryd.func5 (by kernel_rfl)
    (of_decide_eq_true (by kernel_rfl)) (by unfold Func.isWrapper; first | (rw [if_pos (by decide +kernel)]; kernel_rfl) | (rw [if_neg (by decide +kernel)]; exact ⟨rfl, rfl⟩))
    (fun os started H enc _ F => by rw [OpenClaim.pre_eq_preRow]; exact lifted os started H enc F)

end Go.Proofs.YtefbfcbnehhmeaaDoor.entryAll
namespace Go.Proofs.YtefbfcbnehhmeaaDoor
/-- The statement: the tied card. -/
theorem entryAll_holds : Rows.EntryAllCardSaid :=
  Claim7.holds_tied_plain_at .later [] _ _ _ _
    entryAll.over (fun _ h => by cases h) (by kernel_rfl) (fun _ h => by cases h) entryAll_row_tie rfl ⟨rfl, rfl⟩ (by kernel_rfl) rfl
    (fun f fn hf hfn => by
      obtain rfl : f = 5 := Option.some.inj ((show Tryd.prog.funcNamed "tollbar/tollbarlaw13.EntryAll" = some 5 by kernel_rfl).symm.trans hf) |>.symm
      obtain rfl : fn = Tryd.f5 := (Option.some.inj (Tryd.func5.symm.trans hfn)).symm
      exact ⟨by kernel_rfl, fun j t ht => by
        rw [Tryd.params5] at ht
        have hm : t ∈ [36, 2, 3] := by simpa using Array.mem_of_getElem? ht
        have hall : ([36, 2, 3].all fun u => !Tryd.prog.wantsStandIn u) = true := by kernel_rfl
        exact (show Tryd.prog.wantsStandIn t = false by simpa using List.all_eq_true.1 hall t hm)⟩)
    (by kernel_rfl)
#print axioms entryAll_holds
end Go.Proofs.YtefbfcbnehhmeaaDoor
