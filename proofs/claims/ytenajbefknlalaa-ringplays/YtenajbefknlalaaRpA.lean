/- Rows of rows of bytes in memory; the reference's with and New. -/
import Derived.Test.YtenajbefknlalaaRgG
import Derived.Test.YtenajbefknlalaaJoinA
import Derived.Test.YtenajbefknlalaaStp
namespace Go.Proofs.Ytenajbefknlalaa
open Go.RowKit
set_option linter.unusedVariables false

/-- A row of slices of the walk's own. -/
def OwnV (B : Nat) (w : World) (v : Value) (xs : List Value) : Prop := w.ownsRow B 35 1 v xs.length xs
theorem infoBs : (Try.prog.info? 35).map (fun i => (i.zero, i.size, i.bytes)) = some (some (.slice none 0 0), 1, 24) := by kernel_rfl
theorem OwnV.empty (B : Nat) (w : World) (hB : B ≤ w.heap.size) : OwnV B (w.alloc (.cells #[] 35)) (.slice (some ⟨w.heap.size, 0, none⟩) 0 0) [] :=
  ⟨rfl, .inr ⟨w.heap.size, 0, #[], rfl, hB, new_at _ _, Nat.le_refl _, by decide, rfl, rfl⟩⟩
theorem OwnV.nil (B : Nat) (w : World) : OwnV B w (.slice none 0 0) [] := World.ownsRow_nil _ _ _ _
theorem OwnV.keep {B : Nat} {w w' : World} {v : Value} {xs : List Value} (h : OwnV B w v xs) (b : Below w.heap.size w w') : OwnV B w' v xs := by
  obtain ⟨h1, h2⟩ := h
  refine ⟨h1, ?_⟩
  rcases h2 with h2 | ⟨g, cap, cur, hv, hg, hh, r⟩
  · exact .inl h2
  · exact .inr ⟨g, cap, cur, hv, hg, (b.block g (Array.getElem?_eq_some_iff.1 hh).1).trans hh, r⟩
theorem OwnV.form {B : Nat} {w : World} {v : Value} {xs : List Value} (h : OwnV B w v xs) (hp : 0 < xs.length) : ∃ g c, v = .slice (some ⟨g, 0, none⟩) xs.length c ∧ B ≤ g ∧ g < w.heap.size ∧ xs.length ≤ c ∧ c ≤ maxLen ∧ ∀ (j : Nat) (hj : j < xs.length), w.cell? ⟨g, j, none⟩ = some xs[j] := by
  have h0 := h
  obtain ⟨h1, ⟨h2, h3⟩ | ⟨g, c, cur, hv, hB, hg, hl, hm, hs, ht⟩⟩ := h
  · omega
  · refine ⟨g, c, hv, hB, heap_lt hg, hl, hm, fun j hj => ?_⟩
    have k := (hv ▸ h0 : w.ownsRow B 35 1 (.slice (some ⟨g, 0, none⟩) xs.length c) xs.length xs).cellAt j (by omega)
    rw [k, List.getElem?_eq_getElem hj]
theorem OwnV.shape {B : Nat} {w : World} {v : Value} {xs : List Value} (h : OwnV B w v xs) : ∃ a c, v = .slice a xs.length c := by
  obtain ⟨h1, ⟨h2, h3⟩ | ⟨g, c, cur, hv, _⟩⟩ := h
  · exact ⟨none, 0, by rw [h2, h3]⟩
  · exact ⟨_, c, hv⟩
theorem ownV_one {B g : Nat} {w : World} {v sv : Value} {X : List Value} (h : OwnV B w v X) (hone : sv.oneCell' = true) (hg : w.cell? ⟨g, 0, none⟩ = some sv) (hmax : X.length + 1 ≤ 4294967296) (hB : B ≤ w.heap.size) :
    ∃ v' w', (Builtin.append_ #[31, 31] 31 #[v, .slice (some ⟨g, 0, none⟩) 1 1]).run Try.prog w = .ok v' w' ∧ OwnV B w' v' (X ++ [sv]) ∧ Below B w w' := by
  obtain ⟨i, hi, hz0, hz1, hz2⟩ := info_parts infoBs
  have hmx : X.length + 1 ≤ maxLen := by unfold maxLen; omega
  obtain ⟨v', w', hr, q1, q2, q3, q4⟩ := run_append_own_at (P := Try.prog) w B 31 31 35 i (.slice none 0 0) 1 24 Try.underlying31 hi hz0 hz1 hz2 rfl (by decide) v X.length X h ⟨g, 0, none⟩ 1 1 [sv] rfl
      (fun j u hj => by
        cases j with
        | zero => rw [addr_add]; simp at hj; rw [← hj]; exact hg
        | succ j => simp at hj) (fun x hx => by rw [List.mem_singleton.1 hx]; exact hone) hmx (by omega) hB
  refine ⟨v', w', hr, ?_, (Below.refl _ _).grown q2 hB (fun q hq => (h.lt q hq).1)⟩
  unfold OwnV
  rw [List.length_append]; exact q1

/-- A slice without a block has no room. -/
def Nn (v : Value) : Prop := ∀ n c, v = .slice none n c → c = 0
/-- Rows of bytes, in blocks of F. -/
def Mat (F : Nat → Prop) (w : World) (v : Value) (Ls : List (List UInt8)) : Prop :=
  ∃ (b c : Nat) (Vs : List Value), v = .slice (some ⟨b, 0, none⟩) Ls.length c ∧ F b ∧ Ls.length ≤ c ∧ c ≤ maxLen ∧ Vs.length = Ls.length ∧ (∀ (j : Nat) (hj : j < Vs.length), w.cell? ⟨b, j, none⟩ = some Vs[j]) ∧ (∀ (j : Nat) sv L, Vs[j]? = some sv → Ls[j]? = some L → ∃ k, F k ∧ Src w k sv L ∧ Nn sv)
theorem Mat.frame {F F' : Nat → Prop} {w w' : World} {v : Value} {Ls : List (List UInt8)} (h : Mat F w v Ls) (hw : ∀ k, F k → w'.heap[k]? = w.heap[k]?) (hF : ∀ k, F k → F' k) : Mat F' w' v Ls := by
  obtain ⟨b, c, Vs, e, hb, h1, h2, h3, h4, h5⟩ := h
  refine ⟨b, c, Vs, e, hF b hb, h1, h2, h3, fun j hj => ?_, fun j sv L hs hL => ?_⟩
  · rw [← h4 j hj]; simp [World.cell?, hw b hb]
  · obtain ⟨k, hk, hS, hN⟩ := h5 j sv L hs hL
    exact ⟨k, hF k hk, hS.frame (hw k hk), hN⟩
/-- One row of them. -/
theorem Mat.at {F : Nat → Prop} {w : World} {v : Value} {Ls : List (List UInt8)} (h : Mat F w v Ls) (i : Nat) (hi : i < Ls.length) :
    ∃ b c k sa sc, v = .slice (some ⟨b, 0, none⟩) Ls.length c ∧ F b ∧ w.cell? ⟨b, i, none⟩ = some (.slice sa Ls[i].length sc) ∧ F k ∧ Src w k (.slice sa Ls[i].length sc) Ls[i] ∧ (sa = none → sc = 0) := by
  obtain ⟨b, c, Vs, e, hb, h1, h2, h3, h4, h5⟩ := h
  have hiV : i < Vs.length := by omega
  obtain ⟨k, hk, hS, hN⟩ := h5 i _ _ (List.getElem?_eq_getElem hiV) (List.getElem?_eq_getElem hi)
  obtain ⟨sa, sc, he, r⟩ := hS
  have hc := h4 i hiV
  rw [he] at hc
  exact ⟨b, c, k, sa, sc, e, hb, hc, hk, ⟨sa, sc, rfl, r⟩, fun z => hN _ _ (by rw [he, z])⟩

set_option maxRecDepth 100000 in
set_option maxHeartbeats 4000000 in
theorem with_any (F : Nat → Prop) (w : World) (v vb : Value) (Ls : List (List UInt8)) (k kb : Nat) (b : List UInt8) (hM : Mat F w v Ls) (hF : ∀ i, F i → i < w.heap.size) (hk : k < Ls.length) (hb : Src w kb vb b) (hbn : Nn vb) (hkb : F kb) (hn : Ls.length ≤ 1000) :
    Calls Try.prog 20 #[v, .int .i64 k, vb] w fun e w' => ∃ v', e = .returned v' ∧ Mat (fun i => F i ∨ (w.heap.size ≤ i ∧ i < w'.heap.size)) w' v' (Ls.set k b) ∧ Below w.heap.size w w' := by
  obtain ⟨g, c, Vs, rfl, hg, h1, h2, h3, h4, h5⟩ := hM
  have HB : Hid (Src w kb vb b) := hb
  obtain ⟨ba, bc, rfl, hbq⟩ := hb
  clear hbq
  have hgl := hF g hg
  have FIN : Hid (∀ v' w', OwnV w.heap.size w' v' (Vs.set k (.slice ba b.length bc)) → Below w.heap.size w w' → Mat (fun i => F i ∨ (w.heap.size ≤ i ∧ i < w'.heap.size)) w' v' (Ls.set k b)) := by
    intro v' w' O B
    obtain ⟨g', c', e, q1, q2, q3, q4, q5⟩ := O.form (by rw [List.length_set]; omega)
    rw [List.length_set] at e q3
    refine ⟨g', c', Vs.set k (.slice ba b.length bc), by rw [List.length_set, ← h3]; exact e, .inr ⟨q1, q2⟩, by rw [List.length_set]; omega, q4, by rw [List.length_set, List.length_set]; exact h3, q5, fun j sv L hs hL => ?_⟩
    by_cases e : j = k
    · subst e
      rw [List.getElem?_set_self (by omega)] at hs hL
      obtain rfl := Option.some.inj hs
      obtain rfl := Option.some.inj hL
      exact ⟨kb, .inl hkb, HB.out.frame (B.block kb (hF kb hkb)), hbn⟩
    · rw [List.getElem?_set_ne (fun c => e c.symm)] at hs hL
      obtain ⟨k', hk', hS, hN⟩ := h5 j sv L hs hL
      exact ⟨k', .inl hk', hS.frame (B.block k' (hF k' hk')), hN⟩
  have hsh : ∀ j (hj : j < Vs.length), ∃ sa sl sc, Vs[j] = .slice sa sl sc := fun j hj => by
    obtain ⟨_, _, ⟨sa, sc, e, _⟩, _⟩ := h5 j _ _ (List.getElem?_eq_getElem hj) (List.getElem?_eq_getElem (by omega))
    exact ⟨sa, _, sc, e⟩
  clear h5 HB
  obtain ⟨n, hN⟩ : ∃ n, n = Ls.length := ⟨_, rfl⟩
  unfold maxLen at h2
  rw [← hN] at h1 h3 hk hn ⊢
  have HN : Hid (Vs.length = n) := h3
  have O0 := OwnV.empty w.heap.size w (Nat.le_refl _)
  have B0 : Below w.heap.size w (w.alloc (.cells #[] 35)) := (Below.refl _ _).alloc (Nat.le_refl _) _
  clear h3 hN
  go_enter Try.func20, Try.ntmps20
  go_wp2_with fail
  go_loopw [7, 8] (fun v7 vi wr => ∃ i : Nat, i ≤ n ∧ vi = .int .i64 i ∧ Hid (OwnV w.heap.size wr v7 ((Vs.set k (.slice ba b.length bc)).take i)) ∧ Below w.heap.size w wr) (fun _ vi _ => n - (intOf vi).toNat)
  case atStart => exact ⟨0, Nat.zero_le _, rfl, (by rw [List.take_zero]; exact O0), B0⟩
  case round =>
    obtain ⟨i, hi, rfl, hO, hB⟩ := hrel
    clear O0 B0
    by_cases hlt : i < n
    · have hiV : i < Vs.length := by have := HN.out; omega
      obtain ⟨sa, sl, sc, hsl⟩ := hsh i hiV
      have hcell := (hB.cell (p := ⟨g, i, none⟩) hgl).trans (h4 i hiV)
      rw [hsl] at hcell
      by_cases hik : i = k
      · have BA : Below wr.heap.size wr (wr.alloc (.cells #[.slice ba b.length bc] 35)) := (Below.refl _ _).alloc (Nat.le_refl _) _
        have hsn : (Vs.set k (.slice ba b.length bc)).take (i + 1) = (Vs.set k (.slice ba b.length bc)).take i ++ [.slice ba b.length bc] := by
          subst hik
          rw [List.take_succ_eq_append_getElem (by rw [List.length_set]; exact hiV), List.getElem_set_self]
        obtain ⟨v3, w3, r3, O3, B3⟩ := ownV_one (sv := .slice ba b.length bc) (g := wr.heap.size) (hO.out.keep BA) rfl (ring_cell (new_at wr (.cells #[.slice ba b.length bc] 35)) rfl) (by rw [List.length_take]; omega) (Nat.le_trans hB.size BA.size)
        rw [← hsn] at O3
        have HO3 : Hid (OwnV w.heap.size w3 v3 ((Vs.set k (.slice ba b.length bc)).take (i + 1))) := O3
        have C3 := (hB.trans (BA.mono hB.size)).trans B3
        obtain ⟨oa, oc, rfl⟩ := hO.out.shape
        have hikI : (i : Int) = (k : Int) := by omega
        clear O3 B3 BA hsn hO hcell hsl
        generalize b.length = bl at *
        generalize (List.take i (Vs.set k (Value.slice ba bl bc))).length = ol at *
        go_wp2_with (at_builtin; refine wpList_append_run2 rfl _ _ 31 31 rfl _ _ _ w3 rfl rfl r3 ?_)
        go_roundw
        case rel => exact ⟨i + 1, by omega, by go_num, HO3, C3⟩
        case measure => simp [intOf]; omega
      · have BA : Below wr.heap.size wr (wr.alloc (.cells #[.slice sa sl sc] 35)) := (Below.refl _ _).alloc (Nat.le_refl _) _
        have hsn : (Vs.set k (.slice ba b.length bc)).take (i + 1) = (Vs.set k (.slice ba b.length bc)).take i ++ [.slice sa sl sc] := by
          rw [List.take_succ_eq_append_getElem (by rw [List.length_set]; exact hiV), List.getElem_set_ne (fun c => hik c.symm), hsl]
        obtain ⟨v3, w3, r3, O3, B3⟩ := ownV_one (sv := .slice sa sl sc) (g := wr.heap.size) (hO.out.keep BA) rfl (ring_cell (new_at wr (.cells #[.slice sa sl sc] 35)) rfl) (by rw [List.length_take]; omega) (Nat.le_trans hB.size BA.size)
        rw [← hsn] at O3
        have HO3 : Hid (OwnV w.heap.size w3 v3 ((Vs.set k (.slice ba b.length bc)).take (i + 1))) := O3
        have C3 := (hB.trans (BA.mono hB.size)).trans B3
        obtain ⟨oa, oc, rfl⟩ := hO.out.shape
        have hikI : ¬ (i : Int) = (k : Int) := by omega
        clear O3 B3 BA hsn hO hsl
        generalize b.length = bl at *
        generalize (List.take i (Vs.set k (Value.slice ba bl bc))).length = ol at *
        go_wp2_with (at_builtin; refine wpList_append_run2 rfl _ _ 31 31 rfl _ _ _ w3 rfl rfl r3 ?_)
        go_roundw
        case rel => exact ⟨i + 1, by omega, by go_num, HO3, C3⟩
        case measure => simp [intOf]; omega
    · have hO2 := hO.out
      rw [List.take_of_length_le (by rw [List.length_set]; have := HN.out; omega)] at hO2
      clear hO
      go_wp2
      go_ret
      exact ⟨_, rfl, FIN.out _ _ hO2 hB, hB⟩
end Go.Proofs.Ytenajbefknlalaa
