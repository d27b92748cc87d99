/- Bare ends: plain lemmas. -/
import Derived.Test.YtbmpfjmnedlahacDoorChkR
namespace Go.Proofs.YtbmpfjmnedlahacDoor
open Go.RowKit
set_option linter.unusedVariables false

/-- Refused: no body, and an error of form or of size. -/
def Refd (r : List UInt8 × Nat × Int) : Prop := r.2.1 = 0 ∧ (r.2.2 = 20 ∨ r.2.2 = 30)
/-- At i an end stands in x; without its 13, or with an x for its 10, x is refused. -/
def Bare (x : List UInt8) (i : Nat) : Prop := i + 1 < x.length ∧ Refd (decR 500 (x.take i ++ x.drop (i + 1))) ∧ Refd (decR 500 (x.set (i + 1) 120))
theorem cut13 (A T : List UInt8) : (A ++ 13 :: 10 :: T).take A.length ++ (A ++ 13 :: 10 :: T).drop (A.length + 1) = A ++ 10 :: T := by
  rw [List.take_left' rfl, show A ++ 13 :: 10 :: T = (A ++ [13]) ++ 10 :: T by simp, List.drop_left' (by simp)]
theorem set10 (A T : List UInt8) : (A ++ 13 :: 10 :: T).set (A.length + 1) 120 = A ++ 13 :: 120 :: T := by
  rw [List.set_append_right _ _ (by omega), show A.length + 1 - A.length = 1 by omega]
  rfl
theorem plain_cons {c : UInt8} {s : List UInt8} (h : plain (c :: s) = true) : c ≠ 13 ∧ c ≠ 10 ∧ plain s = true := by
  unfold plain at h ⊢
  rw [List.all_cons, Bool.and_eq_true] at h
  obtain ⟨h1, h2⟩ := h
  rw [Bool.and_eq_true] at h1
  exact ⟨by simpa using h1.1, by simpa using h1.2, h2⟩
theorem cutAt_bare (m : Nat) (rest : List UInt8) (hr : ∀ i, cutAt m i rest = (none, 20)) : ∀ (s : List UInt8) (i : Nat), i + s.length ≤ m → plain s = true → cutAt m i (s ++ rest) = (none, 20)
  | [], i, _, _ => hr i
  | c :: s, i, h, hp => by
    obtain ⟨h1, h2, h3⟩ := plain_cons hp
    rw [List.length_cons] at h
    rw [List.cons_append, cutAt, if_neg h2, if_neg h1, if_neg (by omega)]
    exact cutAt_bare m rest hr s (i + 1) (by omega) h3
theorem cut_ten (m i : Nat) (T : List UInt8) : cutAt m i (10 :: T) = (none, 20) := by rw [cutAt, if_pos rfl]
theorem cut_x (m i : Nat) (T : List UInt8) : cutAt m i (13 :: 120 :: T) = (none, 20) := by
  rw [cutAt, if_neg (by decide), if_pos rfl, List.head?_cons, if_neg (by simp), if_neg (by decide)]
theorem refuse {pre want : List UInt8} {k : Nat} (h : Chs pre want k) (hk : k ≤ pre.length) (hw : want.length ≤ 500) {y : List UInt8} (ho : oneP (500 - want.length) y = (20, 0, 0, 0)) : Refd (decR 500 (pre ++ y)) := by
  obtain ⟨g, hg⟩ : ∃ g, (pre ++ y).length + 1 = (g + 1) + k := ⟨(pre ++ y).length - k, by rw [List.length_append]; omega⟩
  have e : decR 500 (pre ++ y) = ([], 0, 20) := by
    unfold decR
    rw [hg, h (g + 1) 500 y hw, decL_miss ho]
    rfl
  rw [e]
  exact ⟨rfl, .inl rfl⟩
theorem bare_line {pre want : List UInt8} {k : Nat} (h : Chs pre want k) (hk : k ≤ pre.length) (hw : want.length ≤ 500) (s T : List UInt8) (hp : plain s = true) (hl : s.length ≤ 256) : Bare (pre ++ (s ++ 13 :: 10 :: T)) (pre.length + s.length) := by
  have e : pre ++ (s ++ 13 :: 10 :: T) = (pre ++ s) ++ 13 :: 10 :: T := by simp
  have el : pre.length + s.length = (pre ++ s).length := by rw [List.length_append]
  refine ⟨by simp only [List.length_append, List.length_cons]; omega, ?_, ?_⟩
  · rw [e, el, cut13, List.append_assoc]
    exact refuse h hk hw (oneP_miss (cutAt_bare 256 _ (fun i => cut_ten _ _ _) s 0 (by omega) hp))
  · rw [e, el, set10, List.append_assoc]
    exact refuse h hk hw (oneP_miss (cutAt_bare 256 _ (fun i => cut_x _ _ _) s 0 (by omega) hp))
theorem oneP_torn (m k : Nat) (s d rest : List UInt8) (hp : plain s = true) (hl : s.length ≤ 256) (hz : szO s = some k) (hk : d.length = k) (h0 : 0 < k) (hm : k ≤ m) (he : endsP rest = (false, 20)) :
    oneP m (s ++ 13 :: 10 :: (d ++ rest)) = (20, 0, 0, 0) := by
  have hc := cutAt_plain 256 (d ++ rest) s 0 (by decide) hp
  rw [Nat.zero_add, if_neg (by omega)] at hc
  have hlen : (s ++ 13 :: 10 :: (d ++ rest)).length = s.length + 2 + k + rest.length := by
    simp only [List.length_append, List.length_cons, hk]; omega
  have hdr : (s ++ 13 :: 10 :: (d ++ rest)).drop (s.length + 2 + k) = rest := by
    rw [show s ++ 13 :: 10 :: (d ++ rest) = (s ++ [13, 10] ++ d) ++ rest by simp]
    exact List.drop_left' (by simp only [List.length_append, List.length_cons, List.length_nil, hk])
  rw [oneP_hit hc, List.take_left' rfl, hz, oneK_some, if_neg (by omega), if_neg (by omega), if_neg (by rw [hlen]; omega), hdr, he]
  rfl
theorem ends_ten (T : List UInt8) : endsP (10 :: T) = (false, 20) := by unfold endsP; exact if_neg (by decide)
theorem ends_x (T : List UInt8) : endsP (13 :: 120 :: T) = (false, 20) := by
  unfold endsP
  simp only [if_true]
  rw [if_neg (by decide)]
theorem bare_data {pre want : List UInt8} {k : Nat} (h : Chs pre want k) (hk : k ≤ pre.length) (s d T : List UInt8) (hp : plain s = true) (hl : s.length ≤ 256) (hz : szO s = some d.length) (h0 : 0 < d.length) (hw : want.length + d.length ≤ 500) :
    Bare (pre ++ (s ++ 13 :: 10 :: (d ++ 13 :: 10 :: T))) (pre.length + s.length + 2 + d.length) := by
  have e : pre ++ (s ++ 13 :: 10 :: (d ++ 13 :: 10 :: T)) = (pre ++ (s ++ 13 :: 10 :: d)) ++ 13 :: 10 :: T := by simp
  have el : pre.length + s.length + 2 + d.length = (pre ++ (s ++ 13 :: 10 :: d)).length := by simp only [List.length_append, List.length_cons]; omega
  have ea : ∀ R : List UInt8, pre ++ (s ++ 13 :: 10 :: d) ++ R = pre ++ (s ++ 13 :: 10 :: (d ++ R)) := fun R => by simp
  refine ⟨by simp only [List.length_append, List.length_cons]; omega, ?_, ?_⟩
  · rw [e, el, cut13, ea]
    exact refuse h hk (by omega) (oneP_torn _ d.length s d _ hp hl hz rfl h0 (by omega) (ends_ten T))
  · rw [e, el, set10, ea]
    exact refuse h hk (by omega) (oneP_torn _ d.length s d _ hp hl hz rfl h0 (by omega) (ends_x T))
/-- The chunk at the head of what is left to code. -/
theorem enc_head (f sz : Nat) (l : List UInt8) (h : ¬ l.length = 0) (tail : List UInt8) : encC (f + 1) sz l ++ tail = hexT (min sz l.length) ++ 13 :: 10 :: (l.take (min sz l.length) ++ 13 :: 10 :: (encC f sz (l.drop (min sz l.length)) ++ tail)) := by
  rw [encC_next f sz l h]
  simp
/-- How far the chunks have been gone through: k of them, pre, are behind; rest is to come; es are the ends so far. -/
def BInv (X : List UInt8) (sz len k f : Nat) (pre want rest : List UInt8) (es : List Nat) : Prop :=
  X = pre ++ (encC f sz rest ++ [48, 13, 10, 13, 10]) ∧ rest.length < f ∧ Chs pre want k ∧ k ≤ pre.length ∧ want.length + rest.length ≤ len ∧ (∀ e ∈ es, Bare X e) ∧ es.length + 2 * rest.length ≤ 2 * len ∧ (rest.length < len → 0 < es.length)
theorem BInv.start (X : List UInt8) (sz : Nat) (b : List UInt8) (h : X = encC (b.length + 1) sz b ++ [48, 13, 10, 13, 10]) : BInv X sz b.length 0 (b.length + 1) [] [] b [] :=
  ⟨by rw [List.nil_append]; exact h, Nat.lt_succ_self _, Chs.nil, Nat.zero_le _, by simp, (fun e h => by cases h), by simp, (fun h => by omega)⟩
theorem BInv.step {X : List UInt8} {sz len k f : Nat} {pre want rest : List UInt8} {es : List Nat} (h : BInv X sz len k f pre want rest es) (h0 : 0 < rest.length) (hs : 1 ≤ sz) (hs2 : sz ≤ 32) (hl : len ≤ 200) (n : Nat) (hn : n = min sz rest.length) :
    ∃ f' T, X = pre ++ (hexT n ++ 13 :: 10 :: T) ∧ pre.length + (hexT n).length + 2 + n + 2 ≤ X.length ∧
      BInv X sz len (k + 1) f' (pre ++ (hexT n ++ [13, 10] ++ rest.take n ++ [13, 10])) (want ++ rest.take n) (rest.drop n) (es ++ [pre.length + (hexT n).length, pre.length + (hexT n).length + 2 + n]) := by
  obtain ⟨h1, h2, h3, h4, h5, h6, h7, h8⟩ := h
  obtain ⟨f', rfl⟩ : ∃ f', f = f' + 1 := ⟨f - 1, by omega⟩
  have hN : (rest.take n).length = n := by rw [List.length_take]; omega
  have hdl : (rest.drop n).length = rest.length - n := List.length_drop
  rw [enc_head f' sz rest (by omega), ← hn] at h1
  have hpl := plain_dig _ (hexT_all n)
  have hhl := hexT_len n
  have hz := szO_hex n (by omega)
  have b1 := bare_line h3 h4 (by omega) (hexT n) (rest.take n ++ 13 :: 10 :: (encC f' sz (rest.drop n) ++ [48, 13, 10, 13, 10])) hpl (by omega)
  have b2 := bare_data h3 h4 (hexT n) (rest.take n) (encC f' sz (rest.drop n) ++ [48, 13, 10, 13, 10]) hpl (by omega) (by rw [hN]; exact hz) (by omega) (by omega)
  rw [← h1] at b1 b2
  rw [hN] at b2
  have hle : pre.length + (hexT n).length + 2 + n + 2 ≤ X.length := by
    rw [h1]
    simp only [List.length_append, List.length_cons, hN]
    omega
  refine ⟨f', _, h1, hle, ?_, by omega, h3.snoc _ _ hpl (by omega) (by rw [hN]; exact hz) (by omega), ?_, ?_, ?_, ?_, ?_⟩
  · rw [h1]; simp
  · simp only [List.length_append, List.length_cons, List.length_nil]; omega
  · rw [List.length_append]; omega
  · intro e he
    rcases List.mem_append.1 he with c | c
    · exact h6 e c
    · rcases List.mem_cons.1 c with rfl | c
      · exact b1
      · rcases List.mem_cons.1 c with rfl | c
        · exact b2
        · cases c
  · rw [List.length_append]; show _ + 2 + _ ≤ _; omega
  · intro _; rw [List.length_append]; show 0 < _ + 2; omega
/-- The bytes of a size's line, and its end. -/
theorem line_bytes {X pre h T : List UInt8} (e : X = pre ++ (h ++ 13 :: 10 :: T)) (hp : plain h = true) (j : Nat) (hj : j ≤ h.length) (q : Nat) (hq : q = pre.length + j) (hX : q < X.length) : (j < h.length → X[q] ≠ 13) ∧ (j = h.length → X[q] = 13) := by
  subst e hq
  refine ⟨fun hlt => ?_, fun he => ?_⟩
  · rw [List.getElem_append_right (by omega)]
    simp only [Nat.add_sub_cancel_left]
    rw [List.getElem_append_left hlt]
    unfold plain at hp
    have := List.all_eq_true.1 hp h[j] (List.getElem_mem hlt)
    rw [Bool.and_eq_true] at this
    simpa using this.1
  · rw [List.getElem_append_right (by omega)]
    simp only [Nat.add_sub_cancel_left]
    rw [List.getElem_append_right (by omega)]
    simp [he]
end Go.Proofs.YtbmpfjmnedlahacDoor
