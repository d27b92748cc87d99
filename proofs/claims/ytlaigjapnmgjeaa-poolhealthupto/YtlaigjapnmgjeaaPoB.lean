/- A row of numbers that may be written; slices.IndexFunc and DeleteFunc of one number. -/
import Derived.Test.YtlaigjapnmgjeaaPoA
import Derived.Laws.IdiomCopy
namespace Go.Proofs.Ytlaigjapnmgjeaa
open Go.RowKit
set_option linter.unusedVariables false

/-- In block g c places: numbers. -/
def NI (w : World) (g c : Nat) (l : List Int) : Prop := ∃ cur : Array Value, w.heap[g]? = some (.cells cur 3) ∧ cur.size = c ∧ l.length ≤ c ∧ ∀ (j : Nat), j < l.length → cur[j]? = some (.int .i64 (l.getD j 0))
theorem NI.lt {w : World} {g c : Nat} {l : List Int} (h : NI w g c l) : g < w.heap.size := by obtain ⟨cur, h1, _⟩ := h; exact (Array.getElem?_eq_some_iff.1 h1).1
theorem NI.len {w : World} {g c : Nat} {l : List Int} (h : NI w g c l) : l.length ≤ c := by obtain ⟨cur, h1, h2, h3, _⟩ := h; exact h3
theorem NI.at {w : World} {g c : Nat} {l : List Int} (h : NI w g c l) (j : Nat) (hj : j < l.length) : w.cell? ⟨g, j, none⟩ = some (.int .i64 (l.getD j 0)) := by
  obtain ⟨cur, h1, h2, h3, h4⟩ := h
  exact tblk_cell h1 (h4 j hj)
theorem NI.z {w : World} {g c : Nat} {l : List Int} (h : NI w g c l) (o : Nat) : w.frozen? ⟨g, o, none⟩ = false := by
  obtain ⟨cur, h1, _⟩ := h
  simp [World.frozen?, h1]
theorem NI.move {w w' : World} {g c : Nat} {l : List Int} (h : NI w g c l) (e : w'.heap[g]? = w.heap[g]?) : NI w' g c l := by
  obtain ⟨cur, h1, r⟩ := h
  exact ⟨cur, e.trans h1, r⟩
theorem NI.below {B : Nat} {w w' : World} {g c : Nat} {l : List Int} (h : NI w g c l) (b : Below B w w') (hg : g < B) : NI w' g c l := h.move (b.block g hg)
theorem ni_set {w : World} {g o : Nat} {cur : Array Value} {t : TypeId} {v : Value} (h : w.heap[g]? = some (.cells cur t)) (ho : o < cur.size) : (w.setCell ⟨g, o, none⟩ v).heap[g]? = some (.cells (cur.setIfInBounds o v) t) := by
  simp [World.setCell, Array.getElem?_modify, h]
theorem getDI_set (l : List Int) (i j : Nat) (x : Int) (hi : i < l.length) : (l.set i x).getD j 0 = if i = j then x else l.getD j 0 := by
  simp only [List.getD_eq_getElem?_getD, List.getElem?_set]
  by_cases q : i = j
  · subst q; simp [hi]
  · simp [q]
theorem NI.set {w : World} {g c : Nat} {l : List Int} (h : NI w g c l) (j : Nat) (hj : j < l.length) (a : Int) : NI (w.setCell ⟨g, j, none⟩ (.int .i64 a)) g c (l.set j a) := by
  obtain ⟨cur, h1, h2, h3, h4⟩ := h
  refine ⟨_, ni_set (v := .int .i64 a) h1 (by omega), by simp [h2], by simpa using h3, fun i hi => ?_⟩
  have hi' : i < l.length := by simpa using hi
  rw [getDI_set l j i _ hj, Array.getElem?_setIfInBounds]
  by_cases q : j = i
  · subst q
    rw [if_pos rfl, if_pos (by omega), if_pos rfl]
  · rw [if_neg q, if_neg q]
    exact h4 i hi'
theorem takeI_snoc (s : List Int) (k : Nat) (h : k < s.length) : s.take (k + 1) = s.take k ++ [s.getD k 0] := by
  rw [List.take_add_one]
  simp [h]
/-- What lies in memory while later ones are moved up. -/
def MvI (s M : List Int) (m : Nat) (O : List Int) : Prop := M.length = s.length ∧ M.take O.length = O ∧ O.length < m ∧ ∀ x, m ≤ x + 1 → M.getD x 0 = s.getD x 0
theorem MvI.skip {s M O : List Int} {m : Nat} (h : MvI s M m O) : MvI s M (m + 1) O := ⟨h.1, h.2.1, by have := h.2.2.1; omega, fun x hx => h.2.2.2 x (by omega)⟩
theorem MvI.move {s M O : List Int} {m : Nat} (h : MvI s M m O) (hm : m < s.length) : MvI s (M.set O.length (s.getD m 0)) (m + 1) (O ++ [s.getD m 0]) := by
  obtain ⟨h1, h2, h3, h4⟩ := h
  refine ⟨by rw [List.length_set]; exact h1, ?_, by rw [List.length_append]; show O.length + 1 < m + 1; omega, fun x hx => ?_⟩
  · rw [List.length_append]
    show (M.set O.length _).take (O.length + 1) = _
    rw [takeI_snoc _ _ (by rw [List.length_set]; omega), getDI_set _ _ _ _ (by omega), if_pos rfl, List.take_set_of_le (Nat.le_refl _), h2]
  · rw [getDI_set _ _ _ _ (by omega), if_neg (by omega)]
    exact h4 x (by omega)
/-- All but h. -/
def butH (h x : Int) : Bool := !(x == h)
def IdxI (h : Int) (s : List Int) (r : Int) : Prop := (r = -1 ∧ ∀ j, j < s.length → butH h (s.getD j 0) = true) ∨ ∃ k, k < s.length ∧ r = (k : Int) ∧ butH h (s.getD k 0) = false ∧ ∀ j, j < k → butH h (s.getD j 0) = true
theorem filterI_all {h : Int} {s : List Int} (k : ∀ j, j < s.length → butH h (s.getD j 0) = true) : s.filter (butH h) = s := by
  rw [List.filter_eq_self]
  intro x hx
  obtain ⟨j, hj, rfl⟩ := List.mem_iff_getElem.1 hx
  have := k j hj
  rwa [List.getD_eq_getElem?_getD, List.getElem?_eq_getElem hj] at this
theorem takeI_all {h : Int} {s : List Int} {k : Nat} (hk : k ≤ s.length) (q : ∀ j, j < k → butH h (s.getD j 0) = true) : (s.take k).filter (butH h) = s.take k := by
  refine filterI_all fun j hj => ?_
  rw [List.length_take] at hj
  have e : (s.take k).getD j 0 = s.getD j 0 := by
    have : j < k := by omega
    simp [List.getD_eq_getElem?_getD, this]
  rw [e]
  exact q j (by omega)
theorem filterI_yes {h : Int} {s : List Int} {k : Nat} (hk : k < s.length) (q : butH h (s.getD k 0) = true) : (s.take (k + 1)).filter (butH h) = (s.take k).filter (butH h) ++ [s.getD k 0] := by
  rw [takeI_snoc s k hk, List.filter_append, List.filter_cons, if_pos q]; rfl
theorem filterI_no {h : Int} {s : List Int} {k : Nat} (hk : k < s.length) (q : butH h (s.getD k 0) = false) : (s.take (k + 1)).filter (butH h) = (s.take k).filter (butH h) := by
  rw [takeI_snoc s k hk, List.filter_append, List.filter_cons, if_neg (by rw [q]; decide), List.filter_nil, List.append_nil]
set_option maxHeartbeats 400000 in
theorem forget1_any (x h : Int) (p : Nat) (w : World) (hp : w.cell? ⟨p, 0, none⟩ = some (.int .i64 h)) : Calls Try.prog 45 #[.int .i64 x, .pointer (some ⟨p, 0, none⟩)] w fun e w' => e = .returned (.bool (x == h)) ∧ w = w' := by
  go_enter Try.func45, Try.ntmps45
  go_wp2
  go_ret
  exact ⟨rfl, rfl⟩
set_option maxRecDepth 100000 in
set_option maxHeartbeats 2000000 in
theorem idxints_any (h : Int) (p : Nat) (s : List Int) (g c : Nat) (w : World) (hl : s.length ≤ 1000000) (hF : NI w g c s) (hp : w.cell? ⟨p, 0, none⟩ = some (.int .i64 h)) :
    Calls Try.prog 47 #[.slice (some ⟨g, 0, none⟩) s.length c, .func (.func 45) #[] #[.pointer (some ⟨p, 0, none⟩)]] w fun e w' => ∃ r, e = .returned (.int .i64 r) ∧ IdxI h s r ∧ w = w' := by
  have HQ := hidE (fun x => forget1_any x h p w hp)
  have HS0 := hidE hF
  obtain ⟨n, hn⟩ : ∃ n, n = s.length := ⟨_, rfl⟩
  have HN : Hid (s.length = n) := hn.symm
  rw [← hn] at hl ⊢
  clear hn hF
  go_enter Try.func47, Try.ntmps47
  go_wp2_with fail
  go_loopw [8] (fun vi wr => ∃ k : Nat, k ≤ n ∧ vi = .int .i64 k ∧ Hid (∀ j, j < k → butH h (s.getD j 0) = true) ∧ Hid (w = wr)) (fun vi _ => n - (intOf vi).toNat)
  case atStart => exact ⟨0, Nat.zero_le _, rfl, fun j hj => absurd hj (Nat.not_lt_zero _), (by first | exact rfl | exact True.intro)⟩
  case round =>
    obtain ⟨k, hk, rfl, hA, hW⟩ := hrel
    obtain rfl := hW.out
    by_cases hlt : k < n
    · have c0 := HS0.out.at k (by rw [HN.out]; exact hlt)
      have m1 : (0 : Int) ≤ k := by omega
      have m2 : (k : Int) < n := by omega
      have HA := hidE (HQ.out (s.getD k 0))
      have hY : Hid ((s.getD k 0 == h) = true → butH h (s.getD k 0) = false) := fun q => by unfold butH; rw [q]; rfl
      have hN : Hid ((s.getD k 0 == h) = false → butH h (s.getD k 0) = true) := fun q => by unfold butH; rw [q]; rfl
      generalize hb : (s.getD k 0 == h) = b at *
      generalize hx : s.getD k 0 = x at *
      have HX := hidE hx
      clear hb hx
      go_wp2_with fail
      refine HA.out.mono ?_
      rintro e w2 ⟨rfl, rfl⟩
      clear HA c0
      cases b
      · have hN2 : Hid (∀ j, j < k + 1 → butH h (s.getD j 0) = true) := fun j hj => by
          by_cases e : j = k
          · rw [e, HX.out]; exact hN.out rfl
          · exact hA.out j (by omega)
        clear hN hY
        go_wp2
        go_roundw
        case rel => exact ⟨k + 1, by omega, by go_num, hN2, (by first | exact rfl | exact True.intro)⟩
        case measure => simp [intOf]; omega
      · have hY2 := hidE (hY.out rfl)
        clear hN hY
        go_wp2
        go_ret
        exact ⟨k, rfl, .inr ⟨k, by rw [HN.out]; exact hlt, rfl, by rw [HX.out]; exact hY2.out, hA.out⟩, rfl⟩
    · go_wp2
      go_ret
      exact ⟨-1, rfl, .inl ⟨rfl, fun j hj => hA.out j (by rw [HN.out] at hj; omega)⟩, rfl⟩
end Go.Proofs.Ytlaigjapnmgjeaa
