/- Routes: plain facts of which prefix fits, and of what is put together. -/
import Derived.Test.YtjfcoihfjjcooaaPrfA
import Derived.Test.YtjfcoihfjjcooaaSufA
import Derived.Lib.IndexMore
import Derived.Lib.Walk
namespace Go.Proofs.Ytjfcoihfjjcooaa
open Go.RowKit
set_option linter.unusedVariables false

theorem rt_ext (x : ByteArray) (i j : Nat) : (x.extract i j).data.toList = (x.data.toList.take j).drop i := by
  obtain ⟨⟨l⟩⟩ := x
  simp [ByteArray.data_extract, List.drop_take]
theorem rt_eq {a b : ByteArray} (h : a.data.toList = b.data.toList) : a = b := by
  obtain ⟨⟨x⟩⟩ := a
  obtain ⟨⟨y⟩⟩ := b
  have : x = y := h
  rw [this]
theorem rt_len (s : ByteArray) : s.data.toList.length = s.size := rfl
/-- What stands ahead of the first question mark. -/
def pathL (l : List UInt8) : List UInt8 := l.takeWhile (fun b => b != 63)
theorem idxq_miss : ∀ (l : List UInt8), (∀ b ∈ l, b ≠ 63) → Lib.index l [63] = -1
  | [], _ => by rw [Lib.index]; simp
  | b :: l, h => by
    rw [Lib.index]
    have hp : ([63] : List UInt8).isPrefixOf (b :: l) = false := by simp [List.isPrefixOf, Ne.symm (h b (.head _))]
    rw [hp, idxq_miss l (fun x hx => h x (.tail _ hx))]
    simp
theorem idxq_hit : ∀ (p q : List UInt8), (∀ b ∈ p, b ≠ 63) → Lib.index (p ++ 63 :: q) [63] = p.length
  | [], q, _ => by rw [List.nil_append, Lib.index]; simp [List.isPrefixOf]
  | b :: p, q, h => by
    rw [List.cons_append, Lib.index]
    have hp : ([63] : List UInt8).isPrefixOf (b :: (p ++ 63 :: q)) = false := by simp [List.isPrefixOf, Ne.symm (h b (.head _))]
    rw [hp, idxq_hit p q (fun x hx => h x (.tail _ hx))]
    have : ¬ ((p.length : Int) = -1) := by omega
    simp [this]
theorem pathL_all : ∀ (l : List UInt8), (∀ b ∈ l, b ≠ 63) → pathL l = l
  | [], _ => rfl
  | b :: l, h => by
    unfold pathL
    rw [List.takeWhile_cons, if_pos (by simpa using h b (.head _))]
    exact congrArg _ (pathL_all l (fun x hx => h x (.tail _ hx)))
theorem pathL_app : ∀ (p q : List UInt8), (∀ b ∈ p, b ≠ 63) → pathL (p ++ q) = p ++ pathL q
  | [], q, _ => rfl
  | b :: p, q, h => by
    rw [List.cons_append, List.cons_append]
    unfold pathL
    rw [List.takeWhile_cons, if_pos (by simpa using h b (.head _))]
    exact congrArg _ (pathL_app p q (fun x hx => h x (.tail _ hx)))
theorem pathL_q (q : List UInt8) : pathL (63 :: q) = [] := rfl
theorem pathL_c {c : UInt8} (h : c ≠ 63) (q : List UInt8) : pathL (c :: q) = c :: pathL q := by
  unfold pathL
  rw [List.takeWhile_cons, if_pos (by simpa using h)]
theorem pathL_parts : ∀ l : List UInt8, (∀ b ∈ pathL l, b ≠ 63) ∧ (l = pathL l ∨ ∃ q, l = pathL l ++ 63 :: q)
  | [] => ⟨(fun b h => by cases h), .inl rfl⟩
  | b :: l => by
    have ih := pathL_parts l
    by_cases hb : b = 63
    · subst hb
      exact ⟨(fun x h => by cases h), .inr ⟨l, rfl⟩⟩
    · rw [pathL_c hb]
      refine ⟨fun x hx => ?_, ?_⟩
      · cases hx with
        | head => exact hb
        | tail _ hx => exact ih.1 x hx
      · rcases ih.2 with e | ⟨q, e⟩
        · exact .inl (congrArg _ e)
        · exact .inr ⟨q, by rw [List.cons_append, ← e]⟩
theorem pathL_le (l : List UInt8) : (pathL l).length ≤ l.length := by
  rcases (pathL_parts l).2 with e | ⟨q, e⟩
  · rw [← e]; exact Nat.le_refl _
  · have k := congrArg List.length e
    rw [List.length_append] at k
    omega
theorem cut_path (l : List UInt8) : (Lib.cut l [63]).1 = pathL l := by
  obtain ⟨h1, h2⟩ := pathL_parts l
  generalize pathL l = p at *
  rcases h2 with rfl | ⟨q, rfl⟩
  · unfold Lib.cut; rw [idxq_miss _ h1, if_neg (by decide)]
  · unfold Lib.cut; rw [idxq_hit _ q h1, if_pos (by omega)]
    simp
/-- A path is where it stands in the target. -/
theorem path_pre (l : List UInt8) : ∃ q, l = pathL l ++ q := by
  rcases (pathL_parts l).2 with e | ⟨q, e⟩
  · exact ⟨[], by rw [List.append_nil]; exact e⟩
  · exact ⟨_, e⟩

theorem hasP_pre (s p : ByteArray) : hasP s p = p.data.toList.isPrefixOf s.data.toList := by
  unfold hasP
  rw [ByteArray.toList_eq, ByteArray.toList_eq, Bool.eq_iff_iff, Bool.and_eq_true, List.isPrefixOf_iff_prefix, List.prefix_iff_eq_take]
  constructor
  · rintro ⟨_, h⟩
    have k := eq_of_beq h
    have e := rt_ext s 0 p.size
    rw [List.drop_zero] at e
    exact (k.symm.trans e)
  · intro h
    have e := rt_ext s 0 p.size
    rw [List.drop_zero] at e
    refine ⟨decide_eq_true ?_, ?_⟩
    · have k := congrArg List.length h
      rw [List.length_take] at k
      have a := rt_len s
      have b := rt_len p
      omega
    · have : (s.extract 0 p.size).data.toList = p.data.toList := e.trans h.symm
      rw [beq_iff_eq]
      exact this
theorem cutP_yes {s p : ByteArray} (h : hasP s p = true) : (cutP s p).data.toList = s.data.toList.drop p.size := by
  unfold cutP
  rw [if_pos h, rt_ext, ← rt_len s, List.take_length]
theorem hasP_one (s : ByteArray) (c : UInt8) : hasP s ⟨#[c]⟩ = (s.data.toList.head? == some c) := by
  rw [hasP_pre]
  show ([c] : List UInt8).isPrefixOf _ = _
  cases s.data.toList with
  | nil => rfl
  | cons b l =>
    show (c == b && ([] : List UInt8).isPrefixOf l) = (some b == some c)
    rw [Bool.eq_iff_iff]
    simp
    exact eq_comm
theorem hasS_one (s : ByteArray) (c : UInt8) : hasS s ⟨#[c]⟩ = (s.data.toList.getLast? == some c) := by
  unfold hasS
  have e1 : (⟨#[c]⟩ : ByteArray).size = 1 := rfl
  have e2 : (⟨#[c]⟩ : ByteArray).data.toList = [c] := rfl
  rw [e1, ByteArray.toList_eq, ByteArray.toList_eq, e2]
  have e := rt_ext s (s.size - 1) s.size
  rw [← rt_len s, List.take_length] at e
  show (_ && ((s.extract (s.data.toList.length - 1) s.data.toList.length).data.toList == [c])) = _
  rw [e]
  rw [← rt_len s]
  generalize s.data.toList = l
  rcases List.eq_nil_or_concat l with rfl | ⟨x, b, rfl⟩
  · rfl
  · simp
/-- Does a prefix fit a target? -/
def fitL (p t : List UInt8) : Bool := p.isPrefixOf (pathL t) && (decide ((pathL t).length = p.length) || ((p.getLast? == some 47) || (((pathL t).drop p.length).head? == some 47)))
def fitT (p t : ByteArray) : Bool := fitL p.data.toList t.data.toList
def pathB (t : ByteArray) : ByteArray := ⟨(Lib.cut t.data.toList [63]).1.toArray⟩
theorem pathB_data (t : ByteArray) : (pathB t).data.toList = pathL t.data.toList := by
  unfold pathB; exact cut_path _
theorem fit_no {p t : ByteArray} (h : hasP (pathB t) p = false) : fitT p t = false := by
  unfold fitT fitL
  rw [hasP_pre, pathB_data] at h
  rw [h, Bool.false_and]
theorem fit_yes {p t : ByteArray} (h : hasP (pathB t) p = true) : fitT p t = ((cutP (pathB t) p).toList.isEmpty || (hasS p ⟨#[47]⟩ || hasP (cutP (pathB t) p) ⟨#[47]⟩)) := by
  rw [hasS_one, hasP_one, ByteArray.toList_eq]
  show _ = ((cutP (pathB t) p).data.toList.isEmpty || _)
  rw [cutP_yes h]
  rw [hasP_pre] at h
  rw [pathB_data] at h ⊢
  unfold fitT fitL
  rw [h, Bool.true_and]
  congr 1
  have e := rt_len p
  have k := (List.isPrefixOf_iff_prefix.1 h).length_le
  rw [Bool.eq_iff_iff, decide_eq_true_iff, List.isEmpty_iff, List.drop_eq_nil_iff]
  omega

theorem fitL_path {p t : List UInt8} (h : fitL p t = true) : p <+: pathL t := by
  unfold fitL at h
  rw [Bool.and_eq_true] at h
  exact List.isPrefixOf_iff_prefix.1 h.1
theorem fitL_pre {p t : List UInt8} (h : fitL p t = true) : p <+: t := by
  obtain ⟨q, e⟩ := path_pre t
  exact (fitL_path h).trans ⟨q, e.symm⟩
theorem fitL_len {p t : List UInt8} (h : fitL p t = true) : p.length ≤ t.length := (fitL_pre h).length_le
/-- Two that fit, of one length, are the same. -/
theorem fitL_same {p q t : List UInt8} (hp : fitL p t = true) (hq : fitL q t = true) (h : p.length = q.length) : p = q := by
  have a := List.prefix_iff_eq_take.1 (fitL_pre hp)
  have b := List.prefix_iff_eq_take.1 (fitL_pre hq)
  rw [a, b, h]

/-- What is put together of a swap and a rest. -/
def joinR (s r : List UInt8) : List UInt8 :=
  if s.getLast? = some 47 then (if r.head? = some 47 then s ++ r.drop 1 else s ++ r)
  else if r.head? ≠ none ∧ r.head? ≠ some 47 ∧ r.head? ≠ some 63 then s ++ 47 :: r else s ++ r
theorem joinR_len (s r : List UInt8) : (joinR s r).length ≤ s.length + r.length + 1 := by
  unfold joinR
  split
  · split
    · rw [List.length_append, List.length_drop]; omega
    · rw [List.length_append]; omega
  · split
    · rw [List.length_append, List.length_cons]; omega
    · rw [List.length_append]; omega
/-- What comes of a route and a target. -/
def rewL (p s t : List UInt8) : List UInt8 × Bool :=
  if fitL p t = true ∧ (joinR s (t.drop p.length)).length ≤ 512 then (joinR s (t.drop p.length), true) else ([], false)
end Go.Proofs.Ytjfcoihfjjcooaa
