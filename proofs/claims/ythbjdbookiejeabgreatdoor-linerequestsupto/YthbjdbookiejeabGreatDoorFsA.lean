/- Rows of texts and of fields in memory. -/
import Derived.Test.YthbjdbookiejeabGreatDoorRow
import Derived.Test.YthbjdbookiejeabGreatDoorTxtB
import Derived.Deep.SlicePairs
namespace Go.Proofs.YthbjdbookiejeabGreatDoor
open Go.ChangeShapes Go.WideShapes Go.ChangeAt Go.RowKit
set_option linter.unusedVariables false

abbrev Fs := List (ByteArray × ByteArray)
theorem bcell {W w1 : World} (hb : Below W.heap.size W w1) : (∀ b o, b < W.heap.size → w1.cell? ⟨b, o, none⟩ = W.cell? ⟨b, o, none⟩) ∧ (∀ b o, b < W.heap.size → w1.frozen? ⟨b, o, none⟩ = W.frozen? ⟨b, o, none⟩) :=
  ⟨fun b o h => hb.cell (p := ⟨b, o, none⟩) h, fun b o h => hb.frozen (p := ⟨b, o, none⟩) h⟩
/-- A slice of texts, lying in a block below B if it has any. -/
def Txs (B : Nat) (w : World) (v : Value) (xs : List ByteArray) : Prop := ∃ a c, v = .slice a xs.length c ∧ (a = none → c = 0) ∧ xs.length ≤ c ∧ c ≤ maxLen ∧ (0 < xs.length → ∃ g off, a = some ⟨g, off, none⟩ ∧ g < B ∧ ∀ (j : Nat) (hj : j < xs.length), w.cell? ⟨g, off + j, none⟩ = some (.string xs[j]))
/-- A slice of fields. -/
def Fds (B : Nat) (w : World) (v : Value) (fs : Fs) : Prop := ∃ a c, v = .slice a fs.length c ∧ (a = none → c = 0) ∧ fs.length ≤ c ∧ c ≤ maxLen ∧ (0 < fs.length → ∃ g off, a = some ⟨g, off, none⟩ ∧ g < B ∧ ∀ (j : Nat) (hj : j < fs.length), w.cell? ⟨g, off + j * 2, none⟩ = some (.string fs[j].1) ∧ w.cell? ⟨g, off + j * 2 + 1, none⟩ = some (.string fs[j].2))
theorem Txs.keep {B : Nat} {w w' : World} {v : Value} {xs : List ByteArray} (h : Txs B w v xs) (b : Below B w w') : Txs B w' v xs := by
  obtain ⟨a, c, e, h1, h2, h3, h4⟩ := h
  refine ⟨a, c, e, h1, h2, h3, fun hp => ?_⟩
  obtain ⟨g, off, ea, hg, hc⟩ := h4 hp
  exact ⟨g, off, ea, hg, fun j hj => (b.cell (p := ⟨g, off + j, none⟩) hg).trans (hc j hj)⟩
theorem Fds.keep {B : Nat} {w w' : World} {v : Value} {fs : Fs} (h : Fds B w v fs) (b : Below B w w') : Fds B w' v fs := by
  obtain ⟨a, c, e, h1, h2, h3, h4⟩ := h
  refine ⟨a, c, e, h1, h2, h3, fun hp => ?_⟩
  obtain ⟨g, off, ea, hg, hc⟩ := h4 hp
  exact ⟨g, off, ea, hg, fun j hj => ⟨(b.cell (p := ⟨g, off + j * 2, none⟩) hg).trans (hc j hj).1, (b.cell (p := ⟨g, off + j * 2 + 1, none⟩) hg).trans (hc j hj).2⟩⟩
theorem Txs.mono {B C : Nat} {w : World} {v : Value} {xs : List ByteArray} (h : Txs B w v xs) (b : B ≤ C) : Txs C w v xs := by
  obtain ⟨a, c, e, h1, h2, h3, h4⟩ := h
  refine ⟨a, c, e, h1, h2, h3, fun hp => ?_⟩
  obtain ⟨g, off, ea, hg, hc⟩ := h4 hp
  exact ⟨g, off, ea, Nat.lt_of_lt_of_le hg b, hc⟩
theorem Fds.mono {B C : Nat} {w : World} {v : Value} {fs : Fs} (h : Fds B w v fs) (b : B ≤ C) : Fds C w v fs := by
  obtain ⟨a, c, e, h1, h2, h3, h4⟩ := h
  refine ⟨a, c, e, h1, h2, h3, fun hp => ?_⟩
  obtain ⟨g, off, ea, hg, hc⟩ := h4 hp
  exact ⟨g, off, ea, Nat.lt_of_lt_of_le hg b, hc⟩
theorem Fds.len {B : Nat} {w : World} {a : Option Addr} {n c : Nat} {fs : Fs} (h : Fds B w (.slice a n c) fs) : fs.length = n ∧ n ≤ c ∧ c ≤ maxLen := by
  obtain ⟨a', c', e, h1, h2, h3, _⟩ := h
  obtain ⟨rfl, rfl, rfl⟩ := slice_inj e
  exact ⟨rfl, h2, h3⟩
theorem Txs.len {B : Nat} {w : World} {a : Option Addr} {n c : Nat} {xs : List ByteArray} (h : Txs B w (.slice a n c) xs) : xs.length = n ∧ n ≤ c ∧ c ≤ maxLen := by
  obtain ⟨a', c', e, h1, h2, h3, _⟩ := h
  obtain ⟨rfl, rfl, rfl⟩ := slice_inj e
  exact ⟨rfl, h2, h3⟩

/-- A row of texts, and one of fields, of the walk's own, in a block from B on. -/
def OwnT (B : Nat) (w : World) (v : Value) (xs : List ByteArray) : Prop := w.ownsRow B 9 1 v xs.length (xs.map Value.string)
def rowF (fs : Fs) : List Value := fs.flatMap fun f => [.string f.1, .string f.2]
def OwnF (B : Nat) (w : World) (v : Value) (fs : Fs) : Prop := w.ownsRow B 53 2 v fs.length (rowF fs)
theorem rowF_len (fs : Fs) : (rowF fs).length = fs.length * 2 := by
  induction fs with
  | nil => rfl
  | cons f l ih =>
    show ([Value.string f.1, .string f.2] ++ rowF l).length = _
    have e : (f :: l).length = l.length + 1 := rfl
    have e2 : ([Value.string f.1, .string f.2] : List Value).length = 2 := rfl
    rw [List.length_append, ih, e, e2]; omega
theorem rowF_app (x y : Fs) : rowF (x ++ y) = rowF x ++ rowF y := by unfold rowF; rw [List.flatMap_append]
theorem rowF_at : ∀ (fs : Fs) (j : Nat) (hj : j < fs.length), (rowF fs)[j * 2]? = some (.string fs[j].1) ∧ (rowF fs)[j * 2 + 1]? = some (.string fs[j].2)
  | f :: l, 0, _ => ⟨rfl, rfl⟩
  | f :: l, j + 1, h => by
    have k := rowF_at l j (by simpa using h)
    have e1 : (j + 1) * 2 = j * 2 + 1 + 1 := by omega
    rw [e1]
    exact k
theorem rowF_one (fs : Fs) : ∀ v ∈ rowF fs, v.oneCell' = true := by
  intro v hv
  unfold rowF at hv
  obtain ⟨f, _, hf⟩ := List.mem_flatMap.1 hv
  simp at hf
  rcases hf with rfl | rfl <;> rfl
theorem rowT_one (xs : List ByteArray) : ∀ v ∈ xs.map Value.string, v.oneCell' = true := by
  intro v hv
  obtain ⟨b, _, rfl⟩ := List.mem_map.1 hv
  rfl
theorem OwnT.form {B : Nat} {w : World} {v : Value} {xs : List ByteArray} (h : OwnT B w v xs) : ∃ a c, v = .slice a xs.length c ∧ (a = none → c = 0) := by
  obtain ⟨h1, ⟨h2, h3⟩ | ⟨g, c, cur, hv, _⟩⟩ := h
  · exact ⟨none, 0, by rw [h2, h3], fun _ => rfl⟩
  · exact ⟨_, c, hv, fun e => by cases e⟩
theorem OwnF.form {B : Nat} {w : World} {v : Value} {fs : Fs} (h : OwnF B w v fs) : ∃ a c, v = .slice a fs.length c ∧ (a = none → c = 0) := by
  obtain ⟨h1, ⟨h2, h3⟩ | ⟨g, c, cur, hv, _⟩⟩ := h
  · exact ⟨none, 0, by rw [h2, h3], fun _ => rfl⟩
  · exact ⟨_, c, hv, fun e => by cases e⟩
theorem OwnT.txs {B : Nat} {w : World} {v : Value} {xs : List ByteArray} (h : OwnT B w v xs) : Txs w.heap.size w v xs := by
  have h0 := h
  obtain ⟨h1, ⟨h2, h3⟩ | ⟨g, c, cur, hv, hB, hg, hl, hm, hs, ht⟩⟩ := h
  · exact ⟨none, 0, by rw [h2, h3], fun _ => rfl, by omega, Nat.zero_le _, fun q => by omega⟩
  · refine ⟨_, c, hv, (fun e => by cases e), hl, hm, fun _ => ⟨g, 0, rfl, heap_lt hg, fun j hj => ?_⟩⟩
    have k := (hv ▸ h0 : w.ownsRow B 9 1 (.slice (some ⟨g, 0, none⟩) xs.length c) xs.length (xs.map Value.string)).cellAt j (by omega)
    rw [Nat.zero_add, k, List.getElem?_map, List.getElem?_eq_getElem hj]; rfl
theorem OwnF.fds {B : Nat} {w : World} {v : Value} {fs : Fs} (h : OwnF B w v fs) : Fds w.heap.size w v fs := by
  have h0 := h
  obtain ⟨h1, ⟨h2, h3⟩ | ⟨g, c, cur, hv, hB, hg, hl, hm, hs, ht⟩⟩ := h
  · exact ⟨none, 0, by rw [h2, h3], fun _ => rfl, by omega, Nat.zero_le _, fun q => by omega⟩
  · refine ⟨_, c, hv, (fun e => by cases e), hl, hm, fun _ => ⟨g, 0, rfl, heap_lt hg, fun j hj => ?_⟩⟩
    have k := (hv ▸ h0 : w.ownsRow B 53 2 (.slice (some ⟨g, 0, none⟩) fs.length c) fs.length (rowF fs))
    have r := rowF_at fs j hj
    rw [Nat.zero_add]
    exact ⟨(k.cellAt (j * 2) (by omega)).trans r.1, (k.cellAt (j * 2 + 1) (by omega)).trans r.2⟩
theorem OwnT.keep {B : Nat} {w w' : World} {v : Value} {xs : List ByteArray} (h : OwnT B w v xs) (b : Below w.heap.size w w') : OwnT B w' v xs := owns_below h b
theorem OwnF.keep {B : Nat} {w w' : World} {v : Value} {fs : Fs} (h : OwnF B w v fs) (b : Below w.heap.size w w') : OwnF B w' v fs := owns_below h b
theorem owns_mono {B C : Nat} {w : World} {e : TypeId} {size : Nat} {v : Value} {n : Nat} {xs : List Value} (h : w.ownsRow B e size v n xs) (hC : C ≤ B) : w.ownsRow C e size v n xs := by
  obtain ⟨h1, h2⟩ := h
  refine ⟨h1, ?_⟩
  rcases h2 with h2 | ⟨g, cap, cur, hv, hg, r⟩
  · exact .inl h2
  · exact .inr ⟨g, cap, cur, hv, Nat.le_trans hC hg, r⟩
theorem OwnT.mono {B C : Nat} {w : World} {v : Value} {xs : List ByteArray} (h : OwnT B w v xs) (hC : C ≤ B) : OwnT C w v xs := owns_mono h hC
theorem OwnF.mono {B C : Nat} {w : World} {v : Value} {fs : Fs} (h : OwnF B w v fs) (hC : C ≤ B) : OwnF C w v fs := owns_mono h hC
theorem OwnT.nil (B : Nat) (w : World) : OwnT B w (.slice none 0 0) [] := World.ownsRow_nil _ _ _ _
theorem OwnF.nil (B : Nat) (w : World) : OwnF B w (.slice none 0 0) [] := World.ownsRow_nil _ _ _ _
theorem OwnT.empty (B : Nat) (w : World) (hB : B ≤ w.heap.size) : OwnT B (w.alloc (.cells #[] 9)) (.slice (some ⟨w.heap.size, 0, none⟩) 0 0) [] :=
  ⟨rfl, .inr ⟨w.heap.size, 0, #[], rfl, hB, new_at _ _, Nat.le_refl _, by decide, rfl, rfl⟩⟩
theorem OwnF.empty (B : Nat) (w : World) (hB : B ≤ w.heap.size) : OwnF B (w.alloc (.cells #[] 53)) (.slice (some ⟨w.heap.size, 0, none⟩) 0 0) [] :=
  ⟨rfl, .inr ⟨w.heap.size, 0, #[], rfl, hB, new_at _ _, Nat.le_refl _, by decide, rfl, rfl⟩⟩
theorem infoF : (Tryz.prog.info? 53).map (fun i => (i.zero, i.size, i.bytes)) = some (some (.agg #[.string ByteArray.empty, .string ByteArray.empty]), 2, 32) := by kernel_rfl
/-- Texts appended. -/
theorem ownT_append {B C : Nat} {w : World} {v : Value} {X Y : List ByteArray} {a : Option Addr} {n c : Nat} (h : OwnT B w v X) (hs : Txs C w (.slice a n c) Y) (hmax : X.length + Y.length ≤ 4294967296) (hB : B ≤ w.heap.size) :
    ∃ v' w', (Builtin.append_ #[39, 39] 39 #[v, .slice a n c]).run Tryz.prog w = .ok v' w' ∧ OwnT B w' v' (X ++ Y) ∧ Below B w w' := by
  obtain ⟨i, hi, hz0, hz1, hz2⟩ := info_parts info9
  obtain ⟨a', c', e, hnil, h1, h2, h3⟩ := hs
  obtain ⟨e1, e2, e3⟩ := slice_inj e
  subst e1 e2 e3
  have hmx : X.length + Y.length ≤ maxLen := by unfold maxLen; omega
  cases a with
  | none =>
    have hc := hnil rfl
    have hy : Y = [] := by
      rcases Nat.eq_zero_or_pos Y.length with q | q
      · exact List.eq_nil_of_length_eq_zero q
      · obtain ⟨_, _, q, _⟩ := h3 q; cases q
    subst hy hc
    exact ⟨v, w, run_append_owned_none w B 39 39 9 i 1 Tryz.underlying39 hi v _ _ h, by rw [List.append_nil]; exact h, Below.refl _ _⟩
  | some ad =>
    obtain ⟨v', w', hr, q1, q2, q3, q4⟩ := run_append_own_at (P := Tryz.prog) w B 39 39 9 i (.string ByteArray.empty) 1 16 Tryz.underlying39 hi hz0 hz1 hz2 rfl (by decide) v X.length (X.map Value.string) h ad Y.length c (Y.map Value.string) (by rw [List.length_map]; omega)
      (fun j u hj => by
        rw [List.getElem?_map] at hj
        obtain ⟨x, hx, rfl⟩ := Option.map_eq_some_iff.1 hj
        have hjl := (List.getElem?_eq_some_iff.1 hx).1
        obtain ⟨k, off, ha, _, hc⟩ := h3 (by omega)
        have : ad = ⟨k, off, none⟩ := by simpa using ha
        subst this
        rw [addr_add, hc j hjl, (List.getElem?_eq_some_iff.1 hx).2]) (rowT_one _) hmx (by omega) hB
    refine ⟨v', w', hr, ?_, (Below.refl _ _).grown q2 hB (fun q hq => (h.lt q hq).1)⟩
    unfold OwnT
    rw [List.length_append, List.map_append]; exact q1
/-- Fields appended. -/
theorem ownF_append {B C : Nat} {w : World} {v : Value} {X Y : Fs} {a : Option Addr} {n c : Nat} (h : OwnF B w v X) (hs : Fds C w (.slice a n c) Y) (hmax : X.length + Y.length ≤ 4294967296) (hB : B ≤ w.heap.size) :
    ∃ v' w', (Builtin.append_ #[24, 24] 24 #[v, .slice a n c]).run Tryz.prog w = .ok v' w' ∧ OwnF B w' v' (X ++ Y) ∧ Below B w w' := by
  obtain ⟨i, hi, hz0, hz1, hz2⟩ := info_parts infoF
  obtain ⟨a', c', e, hnil, h1, h2, h3⟩ := hs
  obtain ⟨e1, e2, e3⟩ := slice_inj e
  subst e1 e2 e3
  have hmx : X.length + Y.length ≤ maxLen := by unfold maxLen; omega
  cases a with
  | none =>
    have hc := hnil rfl
    have hy : Y = [] := by
      rcases Nat.eq_zero_or_pos Y.length with q | q
      · exact List.eq_nil_of_length_eq_zero q
      · obtain ⟨_, _, q, _⟩ := h3 q; cases q
    subst hy hc
    exact ⟨v, w, run_append_owned_none w B 24 24 53 i 2 Tryz.underlying24 hi v _ _ h, by rw [List.append_nil]; exact h, Below.refl _ _⟩
  | some ad =>
    obtain ⟨v', w', hr, q1, q2, q3, q4⟩ := run_append_own_at (P := Tryz.prog) w B 24 24 53 i (.agg #[.string ByteArray.empty, .string ByteArray.empty]) 2 32 Tryz.underlying24 hi hz0 hz1 hz2 rfl (by decide) v X.length (rowF X) h ad Y.length c (rowF Y) (rowF_len Y)
      (fun j u hj => by
        have hjl := (List.getElem?_eq_some_iff.1 hj).1
        rw [rowF_len] at hjl
        obtain ⟨k, off, ha, _, hc⟩ := h3 (by omega)
        have : ad = ⟨k, off, none⟩ := by simpa using ha
        subst this
        rw [addr_add]
        have r := rowF_at Y (j / 2) (by omega)
        have q := hc (j / 2) (by omega)
        rcases Nat.mod_two_eq_zero_or_one j with m | m
        · have e1 : j / 2 * 2 = j := by omega
          rw [e1] at r q
          rw [q.1, ← r.1, hj]
        · have e1 : j / 2 * 2 + 1 = j := by omega
          have e2 : off + j / 2 * 2 + 1 = off + j := by omega
          rw [e1] at r
          rw [e2] at q
          rw [q.2, ← r.2, hj]) (rowF_one _) hmx (by omega) hB
    refine ⟨v', w', hr, ?_, (Below.refl _ _).grown q2 hB (fun q hq => (h.lt q hq).1)⟩
    unfold OwnF
    rw [List.length_append, rowF_app]; exact q1
/-- Fields that came in. -/
def datF {H : Type} (f : ByteArray × ByteArray) : DataW H := .agg [.lit (.string f.1.data.toList), .lit (.string f.2.data.toList)]
theorem open_fields {H : Type} {enc : TypeId × Value → H} {w : World} {base : Nat} {held : Bool} {a : Option Addr} {len cap : Nat} {x : DataW H × List MemPlace}
    (h : ∃ fuel, DataW.trod enc Tryz.prog w base (fun _ => true) held fuel 24 (Value.slice a len cap).cells.toList = some x) :
    ∃ fs : Fs, Fds w.heap.size w (.slice a len cap) fs ∧ (∀ f ∈ fs, f.1.size ≤ maxLen ∧ f.2.size ≤ maxLen) ∧ ((x.1 = .nil ∧ fs = []) ∨ ∃ sp, x.1 = .slice (fs.map datF) sp) := by
  obtain ⟨fuel, hf⟩ := h
  rcases Go.Deep.open_slice_pairs Tryz.underlying24 Tryz.underlying53 (by kernel_rfl) rfl rfl (by kernel_rfl) (by kernel_rfl) hf with ⟨hcs, hx⟩ | ⟨ad, l, c, m, n, V0, V1, D0, D1, P0, P1, hcs, hb, hl, hm, hmm, hx, hc⟩
  · simp [Value.cells] at hcs
    obtain ⟨rfl, rfl, rfl⟩ := hcs
    exact ⟨[], ⟨none, 0, rfl, fun _ => rfl, Nat.le_refl _, Nat.zero_le _, fun h => absurd h (Nat.lt_irrefl _)⟩, (fun f hf => by cases hf), .inl ⟨by rw [hx], rfl⟩⟩
  · simp [Value.cells] at hcs
    obtain ⟨rfl, rfl, rfl⟩ := hcs
    have hmm' : m = cap := by simpa using hmm
    subst hmm'
    have each : ∀ i, i < m → ∃ q : ByteArray × ByteArray, V0 i = .string q.1 ∧ V1 i = .string q.2 ∧ D0 i = .lit (.string q.1.data.toList) ∧ D1 i = .lit (.string q.2.data.toList) ∧ q.1.size ≤ maxLen ∧ q.2.size ≤ maxLen := by
      intro i hi
      obtain ⟨_, _, g0, g1⟩ := hc i hi
      obtain ⟨s0, e0, f0, z0⟩ := DataW.trod_string Tryz.underlying9 g0
      obtain ⟨s1, e1, f1, z1⟩ := DataW.trod_string Tryz.underlying9 g1
      simp only [Prod.mk.injEq] at f0 f1
      exact ⟨(s0, s1), by simpa using e0, by simpa using e1, f0.1, f1.1, z0, z1⟩
    obtain ⟨q, hq⟩ := Go.Deep.choose_lt each
    have hln : ((List.range len).map q).length = len := by simp
    refine ⟨(List.range len).map q, ⟨_, _, by rw [hln], (fun e => by cases e), by rw [hln]; exact hl, hm, fun hp => ?_⟩, ?_, .inr ⟨(List.range (m - len)).map fun j => .agg [D0 (len + j), D1 (len + j)], ?_⟩⟩
    · rw [hln] at hp
      obtain ⟨b, off, spot⟩ := ad
      have hspot : spot = none := by simpa [Addr.add] using World.cell?_spot (hc 0 (by omega)).1
      subst hspot
      have hcc : ∀ i, i < m → World.cell? w ⟨b, off + i * 2, none⟩ = some (V0 i) ∧ World.cell? w ⟨b, off + i * 2 + 1, none⟩ = some (V1 i) := fun i hi => by
        have k := hc i hi
        rw [addr_add, addr_add] at k
        exact ⟨k.1, by rw [Nat.add_assoc]; exact k.2.1⟩
      refine ⟨b, off, rfl, ?_, fun j hj => ?_⟩
      · have k := (hcc 0 (by omega)).1
        unfold World.cell? at k
        rcases Nat.lt_or_ge b w.heap.size with g | g
        · exact g
        · simp [Array.getElem?_eq_none g] at k
      · rw [hln] at hj
        have e : ((List.range len).map q)[j]'(by rw [hln]; exact hj) = q j := by simp
        rw [e, ← (hq j (by omega)).1, ← (hq j (by omega)).2.1]
        exact hcc j (by omega)
    · intro f hf
      obtain ⟨i, hi, rfl⟩ := List.mem_map.1 hf
      have := List.mem_range.1 hi
      exact (hq i (by omega)).2.2.2.2
    · rw [hx]
      show DataW.slice _ _ = DataW.slice _ _
      congr 1
      rw [List.map_map]
      refine List.map_congr_left fun i hi => ?_
      have := List.mem_range.1 hi
      show _ = datF (q i)
      rw [(hq i (by omega)).2.2.1, (hq i (by omega)).2.2.2.1]; rfl
end Go.Proofs.YthbjdbookiejeabGreatDoor
