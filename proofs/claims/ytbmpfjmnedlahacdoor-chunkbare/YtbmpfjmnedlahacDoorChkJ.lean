/- What is encoded is decoded: plain lemmas. -/
import Derived.Test.YtbmpfjmnedlahacDoorChkH
import Derived.Test.YtbmpfjmnedlahacDoorChkF
namespace Go.Proofs.YtbmpfjmnedlahacDoor
open Go.RowKit
set_option linter.unusedVariables false

theorem dgN_hex (d : Nat) (h : d < 16) : dgN (hexD d) = d := by
  have h10 : d = 0 ∨ d = 1 ∨ d = 2 ∨ d = 3 ∨ d = 4 ∨ d = 5 ∨ d = 6 ∨ d = 7 ∨ d = 8 ∨ d = 9 ∨ d = 10 ∨ d = 11 ∨ d = 12 ∨ d = 13 ∨ d = 14 ∨ d = 15 := by omega
  rcases h10 with rfl | rfl | rfl | rfl | rfl | rfl | rfl | rfl | rfl | rfl | rfl | rfl | rfl | rfl | rfl | rfl <;> decide
theorem hexGo_fold : ∀ (f u : Nat) (acc : List UInt8), u < 16 ^ (f + 1) → (hexGo (f + 1) u acc).foldl (stepV 16) (some 0) = acc.foldl (stepV 16) (some u)
  | 0, u, acc, h => by
    have c : u < 16 := by simpa using h
    rw [hexGo_end _ _ _ c, List.foldl_cons]
    simp [stepV, dgN_hex u c, c]
  | f + 1, u, acc, h => by
    by_cases c : u < 16
    · rw [hexGo_end _ _ _ c, List.foldl_cons]
      simp [stepV, dgN_hex u c, c]
    · rw [hexGo_step _ _ _ c, hexGo_fold f (u / 16) _ (by rw [Nat.pow_succ, Nat.mul_comm] at h; exact Nat.div_lt_of_lt_mul h), List.foldl_cons]
      have d := dgN_hex (u % 16) (by omega)
      simp only [stepV, Option.bind_some, d]
      rw [if_pos (by omega)]
      congr 2; omega
theorem vN_hex (n : Nat) (h : n < 16 ^ 17) : vN 16 (hexT n) = some n := by
  unfold vN hexT; rw [hexGo_fold 16 n [] h]; rfl
theorem hexGo_len2 : ∀ (k f u : Nat) (acc : List UInt8), u < 16 ^ (k + 1) → k ≤ f → (hexGo (f + 1) u acc).length ≤ acc.length + (k + 1)
  | 0, f, u, acc, h, _ => by
    rw [hexGo_end _ _ _ (by simpa using h)]; simp
  | k + 1, f, u, acc, h, hf => by
    by_cases c : u < 16
    · rw [hexGo_end _ _ _ c]; simp
    · obtain ⟨f', rfl⟩ : ∃ f', f = f' + 1 := ⟨f - 1, by omega⟩
      rw [hexGo_step _ _ _ c]
      have := hexGo_len2 k f' (u / 16) (hexD (u % 16) :: acc) (by rw [Nat.pow_succ, Nat.mul_comm] at h; exact Nat.div_lt_of_lt_mul h) (by omega)
      rw [List.length_cons] at this
      omega
theorem hexGo_ge : ∀ (f u : Nat) (acc : List UInt8), acc.length ≤ (hexGo f u acc).length
  | 0, u, acc => Nat.le_refl _
  | f + 1, u, acc => by
    by_cases c : u < 16
    · rw [hexGo_end _ _ _ c]; simp
    · rw [hexGo_step _ _ _ c]
      have := hexGo_ge f (u / 16) (hexD (u % 16) :: acc)
      rw [List.length_cons] at this
      omega
theorem hexT_pos (n : Nat) : 1 ≤ (hexT n).length := by
  unfold hexT
  by_cases c : n < 16
  · rw [hexGo_end _ _ _ c]; simp
  · rw [hexGo_step _ _ _ c]
    have := hexGo_ge 16 (n / 16) [hexD (n % 16)]
    simpa using this
theorem hexGo_all : ∀ (f u : Nat) (acc : List UInt8), (∀ b ∈ acc, dgN b < 16) → ∀ b ∈ hexGo f u acc, dgN b < 16
  | 0, u, acc, h => h
  | f + 1, u, acc, h => by
    by_cases c : u < 16
    · rw [hexGo_end _ _ _ c]
      intro b hb
      cases hb with
      | head => rw [dgN_hex u c]; exact c
      | tail _ hb => exact h b hb
    · rw [hexGo_step _ _ _ c]
      refine hexGo_all f _ _ ?_
      intro b hb
      cases hb with
      | head => rw [dgN_hex _ (by omega)]; omega
      | tail _ hb => exact h b hb
theorem hexT_all (n : Nat) : ∀ b ∈ hexT n, dgN b < 16 := hexGo_all 17 n [] (fun _ h => by cases h)
theorem dig_ne {b : UInt8} (h : dgN b < 16) (c : UInt8) (hc : dgN c = 16) : b ≠ c := fun e => by rw [e, hc] at h; omega

/-- No such byte. -/
theorem index_miss (c : UInt8) : ∀ (l : List UInt8), (∀ b ∈ l, b ≠ c) → Lib.index l [c] = -1
  | [], _ => by rw [Lib.index]; simp
  | b :: l, h => by
    rw [Lib.index]
    have hp : ([c] : List UInt8).isPrefixOf (b :: l) = false := by simp [List.isPrefixOf, Ne.symm (h b (.head _))]
    rw [hp, index_miss c l (fun x hx => h x (.tail _ hx))]
    simp
theorem index_hit (c : UInt8) : ∀ (p q : List UInt8), (∀ b ∈ p, b ≠ c) → Lib.index (p ++ c :: q) [c] = p.length
  | [], q, _ => by rw [List.nil_append, Lib.index]; simp [List.isPrefixOf]
  | b :: p, q, h => by
    rw [List.cons_append, Lib.index]
    have hp : ([c] : List UInt8).isPrefixOf (b :: (p ++ c :: q)) = false := by simp [List.isPrefixOf, Ne.symm (h b (.head _))]
    rw [hp, index_hit c p q (fun x hx => h x (.tail _ hx))]
    have : ¬ ((p.length : Int) = -1) := by omega
    simp [this]
theorem cut_none (c : UInt8) (l : List UInt8) (h : ∀ b ∈ l, b ≠ c) : Lib.cut l [c] = (l, [], false) := by
  unfold Lib.cut; rw [index_miss c l h, if_neg (by decide)]
theorem cut_some (c : UInt8) (p q : List UInt8) (h : ∀ b ∈ p, b ≠ c) : Lib.cut (p ++ c :: q) [c] = (p, q, true) := by
  unfold Lib.cut; rw [index_hit c p q h, if_pos (by omega)]
  simp
/-- No blank at the end of digits. -/
theorem trimR_dig (d bl : List UInt8) (hd : ∀ b ∈ d, dgN b < 16) (hb : ∀ b ∈ bl, ([32, 9] : List UInt8).contains b = true) : Lib.trimRightS (d ++ bl) [32, 9] = d := by
  unfold Lib.trimRightS
  rw [List.reverse_append]
  have h1 : ∀ (x y : List UInt8), (∀ b ∈ x, ([32, 9] : List UInt8).contains b = true) → (x ++ y).dropWhile (([32, 9] : List UInt8).contains ·) = y.dropWhile (([32, 9] : List UInt8).contains ·) := by
    intro x
    induction x with
    | nil => intro y _; rfl
    | cons a x ih => intro y h; rw [List.cons_append, List.dropWhile_cons, if_pos (h a (.head _))]; exact ih y (fun b hb => h b (.tail _ hb))
  rw [h1 _ _ (fun b h => hb b (List.mem_reverse.1 h))]
  cases hr : d.reverse with
  | nil => rw [List.reverse_eq_nil_iff.1 hr]; rfl
  | cons a r =>
    have ha : dgN a < 16 := hd a (List.mem_reverse.1 (by rw [hr]; exact .head _))
    have hn : ([32, 9] : List UInt8).contains a = false := by
      have e1 := dig_ne ha 32 (by decide)
      have e2 := dig_ne ha 9 (by decide)
      simp [e1, e2]
    rw [List.dropWhile_cons, if_neg (by rw [hn]; decide), ← hr, List.reverse_reverse]
theorem numV_dig (d : List UInt8) (n : Nat) (h1 : 1 ≤ d.length) (h2 : d.length ≤ 15) (hv : vN 16 d = some n) : numV 16 15 (tx d) = some n := by
  unfold numV; rw [if_neg (by rw [tx_size]; omega)]; exact hv
theorem szO_plain (d : List UInt8) (n : Nat) (hd : ∀ b ∈ d, dgN b < 16) (h1 : 1 ≤ d.length) (h2 : d.length ≤ 15) (hv : vN 16 d = some n) : szO d = some n := by
  have hc := cut_none 59 d (fun b hb => dig_ne (hd b hb) 59 (by decide))
  have ht := trimR_dig d [] hd (fun _ h => by cases h)
  rw [List.append_nil] at ht
  unfold szO
  rw [hc]
  simp only
  rw [if_pos (by rfl), ht]
  exact numV_dig d n h1 h2 hv
theorem szO_ext (d w : List UInt8) (n : Nat) (hd : ∀ b ∈ d, dgN b < 16) (h1 : 1 ≤ d.length) (h2 : d.length ≤ 15) (hv : vN 16 d = some n) (hw : allB valP w = true) : szO (d ++ [32] ++ 59 :: w) = some n := by
  have hc := cut_some 59 (d ++ [32]) w (fun b hb => by
    rcases List.mem_append.1 hb with hb | hb
    · exact dig_ne (hd b hb) 59 (by decide)
    · rw [List.mem_singleton.1 hb]; decide)
  have ht := trimR_dig d [32] hd (fun b h => by rw [List.mem_singleton.1 h]; decide)
  unfold szO
  rw [hc]
  simp only
  rw [if_pos hw, ht]
  exact numV_dig d n h1 h2 hv
theorem szO_hex (n : Nat) (h : n ≤ 1048576) : szO (hexT n) = some n := by
  have hl := hexGo_len2 14 16 n [] (Nat.lt_of_le_of_lt h (by decide)) (by decide)
  refine szO_plain (hexT n) n (hexT_all n) (hexT_pos n) ?_ (vN_hex n (Nat.lt_of_le_of_lt h (by decide)))
  unfold hexT; simpa using hl
theorem plain_dig (d : List UInt8) (hd : ∀ b ∈ d, dgN b < 16) : plain d = true := by
  unfold plain
  rw [List.all_eq_true]
  intro b hb
  have e1 := dig_ne (hd b hb) 13 (by decide)
  have e2 := dig_ne (hd b hb) 10 (by decide)
  simp [e1, e2]
/-- A chunk whose line is s, and tells k. -/
theorem oneP_chunk (m k : Nat) (s d rest : List UInt8) (hp : plain s = true) (hl : s.length ≤ 256) (hz : szO s = some k) (hk : d.length = k) (h0 : 0 < k) (hm : k ≤ m) :
    oneP m (s ++ 13 :: 10 :: (d ++ 13 :: 10 :: rest)) = (0, s.length + 2 + k + 2, s.length + 2, k) := by
  have hc := cutAt_plain 256 (d ++ 13 :: 10 :: rest) s 0 (by decide) hp
  rw [Nat.zero_add, if_neg (by omega)] at hc
  have hlen : (s ++ 13 :: 10 :: (d ++ 13 :: 10 :: rest)).length = s.length + 2 + k + 2 + rest.length := by
    simp only [List.length_append, List.length_cons, hk]; omega
  have hdr : (s ++ 13 :: 10 :: (d ++ 13 :: 10 :: rest)).drop (s.length + 2 + k) = 13 :: 10 :: rest := by
    rw [show s ++ 13 :: 10 :: (d ++ 13 :: 10 :: rest) = (s ++ [13, 10] ++ d) ++ 13 :: 10 :: rest by simp]
    exact List.drop_left' (by simp only [List.length_append, List.length_cons, List.length_nil, hk])
  rw [oneP_hit hc, List.take_left' rfl, hz, oneK_some, if_neg (by omega), if_neg (by omega), if_neg (by rw [hlen]; omega), hdr]
  rfl
theorem oneP_toolong (m k : Nat) (s rest : List UInt8) (hp : plain s = true) (hl : s.length ≤ 256) (hz : szO s = some k) (hm : m < k) :
    oneP m (s ++ 13 :: 10 :: rest) = (2, 0, 0, 0) := by
  have hc := cutAt_plain 256 rest s 0 (by decide) hp
  rw [Nat.zero_add, if_neg (by omega)] at hc
  rw [oneP_hit hc, List.take_left' rfl, hz, oneK_some, if_pos hm]
theorem szO_zero : szO [48] = some 0 := by decide +kernel
theorem oneP_zero (m : Nat) (tail : List UInt8) : oneP m (48 :: 13 :: 10 :: tail) = (0, 3, 0, 0) := by
  have hc := cutAt_plain 256 tail [48] 0 (by decide) (by decide)
  rw [Nat.zero_add, if_neg (by decide)] at hc
  have hc' : cutAt 256 0 (48 :: 13 :: 10 :: tail) = (some 1, 0) := hc
  rw [oneP_hit hc', show (48 :: 13 :: 10 :: tail).take 1 = [48] from rfl, szO_zero, oneK_some, if_neg (by omega), if_pos rfl]
/-- The chunks alone. -/
def encC : Nat → Nat → List UInt8 → List UInt8
  | 0, _, _ => []
  | f + 1, sz, l => if l.length = 0 then [] else hexT (min sz l.length) ++ [13, 10] ++ l.take (min sz l.length) ++ [13, 10] ++ encC f sz (l.drop (min sz l.length))
theorem encC_end (f sz : Nat) (l : List UInt8) (h : l.length = 0) : encC (f + 1) sz l = [] := by rw [encC, if_pos h]
theorem encC_next (f sz : Nat) (l : List UInt8) (h : ¬ l.length = 0) : encC (f + 1) sz l = hexT (min sz l.length) ++ [13, 10] ++ l.take (min sz l.length) ++ [13, 10] ++ encC f sz (l.drop (min sz l.length)) := by rw [encC, if_neg h]
theorem encL_encC (sz : Nat) (hs : 1 ≤ sz) : ∀ (f : Nat) (l : List UInt8), l.length < f → encL f sz l = encC f sz l ++ [48, 13, 10, 13, 10]
  | 0, l, h => by omega
  | f + 1, l, h => by
    by_cases h0 : l.length = 0
    · rw [encL_end f sz l h0, encC_end f sz l h0]; rfl
    · rw [encL_next f sz l h0, encC_next f sz l h0, encL_encC sz hs f _ (by rw [List.length_drop]; omega)]
      simp [List.append_assoc]
theorem encC_len (sz : Nat) (hs : 1 ≤ sz) : ∀ (f : Nat) (l : List UInt8), l.length < f → l.length ≤ (encC f sz l).length
  | 0, l, h => by omega
  | f + 1, l, h => by
    by_cases h0 : l.length = 0
    · omega
    · have hN : (l.take (min sz l.length)).length = min sz l.length := by rw [List.length_take]; omega
      have ih := encC_len sz hs f (l.drop (min sz l.length)) (by rw [List.length_drop]; omega)
      rw [List.length_drop] at ih
      rw [encC_next f sz l h0]
      simp only [List.length_append, List.length_cons, List.length_nil, hN]
      omega
theorem dec_enc (sz : Nat) (hs : 1 ≤ sz) (tail : List UInt8) : ∀ (f g m : Nat) (l : List UInt8), l.length < f → l.length < g → l.length ≤ m → l.length ≤ 1048576 →
    decL g m (encC f sz l ++ 48 :: 13 :: 10 :: tail) = plusD l ((encC f sz l).length + 3) ([], trailL 40 tail)
  | 0, g, m, l, hf, _, _, _ => by omega
  | f + 1, g, m, l, hf, hg, hm, hb => by
    obtain ⟨g, rfl⟩ : ∃ g', g = g' + 1 := ⟨g - 1, by omega⟩
    by_cases h0 : l.length = 0
    · rw [encC_end f sz l h0, List.nil_append, decL_last (oneP_zero m tail) (by decide), List.eq_nil_of_length_eq_zero h0]
      rfl
    · have hN : (l.take (min sz l.length)).length = min sz l.length := by rw [List.length_take]; omega
      have hone := oneP_chunk m (min sz l.length) (hexT (min sz l.length)) (l.take (min sz l.length)) (encC f sz (l.drop (min sz l.length)) ++ 48 :: 13 :: 10 :: tail) (plain_dig _ (hexT_all _)) (by have := hexT_len (min sz l.length); omega) (szO_hex _ (by omega)) hN (by omega) (by omega)
      have hdl : (l.drop (min sz l.length)).length = l.length - min sz l.length := List.length_drop
      have ih := dec_enc sz hs tail f g (m - min sz l.length) (l.drop (min sz l.length)) (by omega) (by omega) (by omega) (by omega)
      rw [encC_next f sz l h0]
      generalize hXX : encC f sz (l.drop (min sz l.length)) = E at *
      have hx : hexT (min sz l.length) ++ [13, 10] ++ l.take (min sz l.length) ++ [13, 10] ++ E ++ 48 :: 13 :: 10 :: tail = hexT (min sz l.length) ++ 13 :: 10 :: (l.take (min sz l.length) ++ 13 :: 10 :: (E ++ 48 :: 13 :: 10 :: tail)) := by simp
      rw [hx, decL_next hone (by omega) (by omega)]
      have hd1 : (hexT (min sz l.length) ++ 13 :: 10 :: (l.take (min sz l.length) ++ 13 :: 10 :: (E ++ 48 :: 13 :: 10 :: tail))).drop ((hexT (min sz l.length)).length + 2) = l.take (min sz l.length) ++ 13 :: 10 :: (E ++ 48 :: 13 :: 10 :: tail) := by
        rw [show hexT (min sz l.length) ++ 13 :: 10 :: (l.take (min sz l.length) ++ 13 :: 10 :: (E ++ 48 :: 13 :: 10 :: tail)) = (hexT (min sz l.length) ++ [13, 10]) ++ (l.take (min sz l.length) ++ 13 :: 10 :: (E ++ 48 :: 13 :: 10 :: tail)) by simp]
        exact List.drop_left' (by simp)
      have hd2 : (hexT (min sz l.length) ++ 13 :: 10 :: (l.take (min sz l.length) ++ 13 :: 10 :: (E ++ 48 :: 13 :: 10 :: tail))).drop ((hexT (min sz l.length)).length + 2 + min sz l.length + 2) = E ++ 48 :: 13 :: 10 :: tail := by
        rw [← hx, List.append_assoc]
        exact List.drop_left' (by simp only [List.length_append, List.length_cons, List.length_nil, hN])
      rw [hd1, hd2, List.take_left' hN, ih, plusD_plusD _ _ _ _ _ (by omega), List.take_append_drop]
      congr 1
      simp only [List.length_append, List.length_cons, List.length_nil, hN]
      omega
theorem dec_long (sz : Nat) (hs : 1 ≤ sz) (tail : List UInt8) : ∀ (f g m : Nat) (l : List UInt8), l.length < f → l.length < g → m < l.length → l.length ≤ 1048576 →
    decL g m (encC f sz l ++ 48 :: 13 :: 10 :: tail) = ([], 0, 2)
  | 0, g, m, l, hf, _, _, _ => by omega
  | f + 1, g, m, l, hf, hg, hm, hb => by
    obtain ⟨g, rfl⟩ : ∃ g', g = g' + 1 := ⟨g - 1, by omega⟩
    have h0 : ¬ l.length = 0 := by omega
    have hN : (l.take (min sz l.length)).length = min sz l.length := by rw [List.length_take]; omega
    have hdl : (l.drop (min sz l.length)).length = l.length - min sz l.length := List.length_drop
    rw [encC_next f sz l h0]
    by_cases hc : m < min sz l.length
    · have hone := oneP_toolong m (min sz l.length) (hexT (min sz l.length)) (l.take (min sz l.length) ++ 13 :: 10 :: (encC f sz (l.drop (min sz l.length)) ++ 48 :: 13 :: 10 :: tail)) (plain_dig _ (hexT_all _)) (by have := hexT_len (min sz l.length); omega) (szO_hex _ (by omega)) hc
      rw [← decL_miss (f := g) hone]
      congr 1
      simp
    · have hone := oneP_chunk m (min sz l.length) (hexT (min sz l.length)) (l.take (min sz l.length)) (encC f sz (l.drop (min sz l.length)) ++ 48 :: 13 :: 10 :: tail) (plain_dig _ (hexT_all _)) (by have := hexT_len (min sz l.length); omega) (szO_hex _ (by omega)) hN (by omega) (by omega)
      have ih := dec_long sz hs tail f g (m - min sz l.length) (l.drop (min sz l.length)) (by omega) (by omega) (by omega) (by omega)
      generalize hXX : encC f sz (l.drop (min sz l.length)) = E at *
      have hx : hexT (min sz l.length) ++ [13, 10] ++ l.take (min sz l.length) ++ [13, 10] ++ E ++ 48 :: 13 :: 10 :: tail = hexT (min sz l.length) ++ 13 :: 10 :: (l.take (min sz l.length) ++ 13 :: 10 :: (E ++ 48 :: 13 :: 10 :: tail)) := by simp
      have hd2 : (hexT (min sz l.length) ++ 13 :: 10 :: (l.take (min sz l.length) ++ 13 :: 10 :: (E ++ 48 :: 13 :: 10 :: tail))).drop ((hexT (min sz l.length)).length + 2 + min sz l.length + 2) = E ++ 48 :: 13 :: 10 :: tail := by
        rw [← hx, List.append_assoc]
        exact List.drop_left' (by simp only [List.length_append, List.length_cons, List.length_nil, hN])
      rw [hx, decL_next hone (by omega) (by omega), hd2, ih]
      rfl
theorem plusD_le {a : List UInt8} {i n : Nat} {r : List UInt8 × Nat × Int} (h : r.2.1 ≤ n) : (plusD a i r).2.1 ≤ i + n := by
  unfold plusD
  split
  · exact Nat.zero_le _
  · show i + r.2.1 ≤ i + n; omega
theorem decL_le : ∀ (f m : Nat) (l : List UInt8), (decL f m l).2.1 ≤ l.length := by
  intro f
  induction f with
  | zero => intro m l; exact Nat.zero_le _
  | succ f ih =>
    intro m l
    rcases oneP_cases m l with ⟨e, ho⟩ | ⟨i, ho, hi, _⟩ | ⟨i, k, ho, hk, _, hi, _⟩
    · rw [decL_miss ho]; exact Nat.zero_le _
    · rw [decL_last ho (by omega)]
      have h := trailL_le 40 (l.drop (i + 2))
      rw [List.length_drop] at h
      have := plusD_le (a := []) (i := i + 2) (r := ([], trailL 40 (l.drop (i + 2)))) h
      omega
    · rw [decL_next ho (by omega) (by omega)]
      have h := ih (m - k) (l.drop (i + 2 + k + 2))
      rw [List.length_drop] at h
      have := plusD_le (a := (l.drop (i + 2)).take k) (i := i + 2 + k + 2) h
      omega
theorem encR_eq (size : Int) (l : List UInt8) : encR size l = encC (l.length + 1) (max size 1).toNat l ++ 48 :: 13 :: 10 :: [13, 10] := by
  unfold encR; rw [encL_encC _ (by omega) _ _ (by omega)]
theorem enc_back (size : Int) (l more : List UInt8) (m : Nat) (hl : l.length ≤ 1048576) (hm : l.length ≤ m) : decR m (encR size l ++ more) = (l, (encR size l).length, 0) := by
  have h1 : trailL 40 (13 :: 10 :: more) = (2, 0) := by
    have hc := cutAt_plain 256 more [] 0 (by decide) rfl
    exact trailL_end hc
  unfold decR
  rw [encR_eq, List.append_assoc]
  show decL _ m (encC (l.length + 1) (max size 1).toNat l ++ 48 :: 13 :: 10 :: (13 :: 10 :: more)) = _
  rw [dec_enc (max size 1).toNat (by omega) (13 :: 10 :: more) (l.length + 1) _ m l (by omega) ?_ hm hl, h1]
  · unfold plusD
    rw [if_neg (by decide), List.append_nil]
    simp only [List.length_append, List.length_cons, List.length_nil]
  · have h2 : l.length ≤ (encC (l.length + 1) (max size 1).toNat l).length := encC_len _ (by omega) _ _ (by omega)
    simp only [List.length_append, List.length_cons]
    omega
theorem encC_max (sz : Nat) (hs : 1 ≤ sz) : ∀ (f : Nat) (l : List UInt8), l.length < f → (encC f sz l).length ≤ 22 * l.length
  | 0, l, h => by omega
  | f + 1, l, h => by
    by_cases h0 : l.length = 0
    · rw [encC_end f sz l h0]; exact Nat.zero_le _
    · have hN : (l.take (min sz l.length)).length = min sz l.length := by rw [List.length_take]; omega
      have ih := encC_max sz hs f (l.drop (min sz l.length)) (by rw [List.length_drop]; omega)
      rw [List.length_drop] at ih
      have hx := hexT_len (min sz l.length)
      rw [encC_next f sz l h0]
      simp only [List.length_append, List.length_cons, List.length_nil, hN]
      omega
theorem encR_len (size : Int) (l : List UInt8) : 5 ≤ (encR size l).length ∧ (encR size l).length ≤ 22 * l.length + 5 := by
  have h := encC_max (max size 1).toNat (by omega) (l.length + 1) l (by omega)
  rw [encR_eq, List.length_append]
  simp only [List.length_cons, List.length_nil]
  omega
/-- A proper beginning isn't whole. -/
theorem dec_prefix (m : Nat) (x b : List UInt8) (h : decR m x = (b, x.length, 0)) (j : Nat) (hj : j < x.length) : decR m (x.take j) = ([], 0, 0) := by
  have hnd : ¬ Done (decR m (x.take j)) := by
    intro hd
    have k := decR_app m (x.take j) (x.drop j) hd
    rw [List.take_append_drop, h] at k
    have hle : (decR m (x.take j)).2.1 ≤ (x.take j).length := decL_le _ _ _
    rw [← k, List.length_take] at hle
    simp only at hle
    omega
  have hok := decR_ok m (x.take j)
  generalize decR m (x.take j) = r at *
  obtain ⟨a, n, e⟩ := r
  have hn : n = 0 := by
    rcases Nat.eq_zero_or_pos n with q | q
    · exact q
    · exact absurd (.inl (by show n ≠ 0; omega)) hnd
  have he : e = 0 := by
    by_cases q : e = 0
    · exact q
    · exact absurd (.inr q) hnd
  subst hn he
  have := hok.1 rfl
  simp only at this
  rw [this]
theorem enc_long (size : Int) (l : List UInt8) (m : Nat) (hl : l.length ≤ 1048576) (hm : m < l.length) : decR m (encR size l) = ([], 0, 2) := by
  unfold decR
  rw [encR_eq]
  refine dec_long (max size 1).toNat (by omega) [13, 10] (l.length + 1) _ m l (by omega) ?_ hm hl
  have h2 : l.length ≤ (encC (l.length + 1) (max size 1).toNat l).length := encC_len _ (by omega) _ _ (by omega)
  simp only [List.length_append, List.length_cons]
  omega
theorem enc_back0 (size : Int) (l : List UInt8) (m : Nat) (hl : l.length ≤ 1048576) (hm : l.length ≤ m) : decR m (encR size l) = (l, (encR size l).length, 0) := by
  have h := enc_back size l [] m hl hm
  rw [List.append_nil] at h
  exact h
end Go.Proofs.YtbmpfjmnedlahacDoor
