/- Texts that the proof leans on, one behind the other: TdA TdB TdE -/
import Derived.Test.YthmhaflkkigenaaGreatDoorTd
import Derived.Test.YthmhaflkkigenaaGreatDoorTf
/- Slots that came in, copied into a row of the walk's own; their hosts stay where they are. -/
namespace Go.Proofs.YthmhaflkkigenaaGreatDoor
open Go.ChangeShapes Go.WideShapes Go.ChangeAt Go.RowKit
set_option linter.unusedVariables false

/-- Slots with their hosts' slices, in blocks below N. -/
def SrcC (N : Nat) (w : World) (v : Value) (Y : List SlotX) : Prop := ∃ a c, v = .slice a Y.length c ∧ (a = none → c = 0) ∧ Y.length ≤ c ∧ c ≤ maxLen ∧ (0 < Y.length → ∃ g off, a = some ⟨g, off, none⟩ ∧ g < N ∧ ∀ (j : Nat) (hj : j < Y.length) (i : Nat), i < 8 → w.cell? ⟨g, off + j * 8 + i, none⟩ = (slotV Y[j].s Y[j].a Y[j].c)[i]?) ∧ ∀ y ∈ Y, Txs N w (.slice y.a y.s.h.length y.c) y.s.h
theorem SrcC.keep {N : Nat} {w w' : World} {v : Value} {Y : List SlotX} (h : SrcC N w v Y) (b : Below N w w') : SrcC N w' v Y := by
  obtain ⟨a, c, e, h1, h2, h3, h4, h5⟩ := h
  refine ⟨a, c, e, h1, h2, h3, fun hp => ?_, fun y hy => (h5 y hy).keep b⟩
  obtain ⟨g, off, ea, hg, hc⟩ := h4 hp
  exact ⟨g, off, ea, hg, fun j hj i hi => (b.cell (p := ⟨g, _, none⟩) hg).trans (hc j hj i hi)⟩
theorem SrcC.len {N : Nat} {w : World} {a : Option Addr} {n c : Nat} {Y : List SlotX} (h : SrcC N w (.slice a n c) Y) : Y.length = n ∧ n ≤ c ∧ c ≤ maxLen := by
  obtain ⟨a', c', e, h1, h2, h3, _⟩ := h
  obtain ⟨rfl, rfl, rfl⟩ := slice_inj e
  exact ⟨rfl, h2, h3⟩
theorem SrcC.sls {N : Nat} {w : World} {v : Value} {Y : List SlotX} (h : SrcC N w v Y) : Sls N w v (Y.map (·.s)) := by
  obtain ⟨a, c, e, h1, h2, h3, h4, h5⟩ := h
  have el : (Y.map (·.s)).length = Y.length := List.length_map _
  refine ⟨a, c, by rw [el]; exact e, h1, by omega, h3, fun hp => ?_⟩
  obtain ⟨g, off, ea, hg, hc⟩ := h4 (by omega)
  refine ⟨g, off, ea, hg, fun j hj => ?_⟩
  have hj' : j < Y.length := by omega
  rw [List.getElem_map]
  have q := hc j hj'
  exact ⟨Y[j].a, Y[j].c, q 0 (by decide), q 1 (by decide), q 2 (by decide), q 3 (by decide), q 4 (by decide), q 5 (by decide), q 6 (by decide), q 7 (by decide), h5 _ (List.getElem_mem hj')⟩
theorem srcC_of {N : Nat} {w : World} {a : Option Addr} {n c : Nat} {ts : List SlotP} (h : Sls N w (.slice a n c) ts) : ∃ Y : List SlotX, Y.map (·.s) = ts ∧ SrcC N w (.slice a n c) Y := by
  obtain ⟨a', c', e, h1, h2, h3, h4⟩ := h
  obtain ⟨rfl, rfl, rfl⟩ := slice_inj e
  rcases Nat.eq_zero_or_pos ts.length with h0 | hp
  · obtain rfl := List.eq_nil_of_length_eq_zero h0
    exact ⟨[], rfl, a, c, rfl, h1, h2, h3, fun q => absurd q (Nat.lt_irrefl _), fun y hy => by cases hy⟩
  · obtain ⟨g, off, rfl, hg, hc⟩ := h4 hp
    have each : ∀ j, j < ts.length → ∃ y : SlotX, (∀ hj : j < ts.length, y.s = ts[j]) ∧ (∀ i, i < 8 → w.cell? ⟨g, off + j * 8 + i, none⟩ = (slotV y.s y.a y.c)[i]?) ∧ Txs N w (.slice y.a y.s.h.length y.c) y.s.h := fun j hj => by
      obtain ⟨ha, hh, k0, k1, k2, k3, k4, k5, k6, k7, kt⟩ := hc j hj
      refine ⟨⟨ts[j], ha, hh⟩, fun _ => rfl, fun i hi => ?_, kt⟩
      match i, hi with
      | 0, _ => exact k0
      | 1, _ => exact k1
      | 2, _ => exact k2
      | 3, _ => exact k3
      | 4, _ => exact k4
      | 5, _ => exact k5
      | 6, _ => exact k6
      | 7, _ => exact k7
    haveI : Inhabited SlotX := ⟨⟨⟨⟨#[]⟩, [], 0, 0, 0, 0, 0, 0⟩, none, 0⟩⟩
    obtain ⟨q, hq⟩ := Go.Deep.choose_lt each
    have hln : ((List.range ts.length).map q).length = ts.length := by simp
    refine ⟨(List.range ts.length).map q, ?_, some ⟨g, off, none⟩, c, by rw [hln], (fun e => by cases e), by rw [hln]; exact h2, h3, fun _ => ⟨g, off, rfl, hg, fun j hj i hi => ?_⟩, fun y hy => ?_⟩
    · apply List.ext_getElem
      · simp
      · intro j h1 h2
        rw [List.getElem_map, List.getElem_map, List.getElem_range]
        exact (hq j h2).1 h2
    · have hj' : j < ts.length := by rw [hln] at hj; exact hj
      have e : ((List.range ts.length).map q)[j]'hj = q j := by simp
      rw [e]
      exact (hq j hj').2.1 i hi
    · obtain ⟨j, hj, rfl⟩ := List.mem_map.1 hy
      exact (hq j (List.mem_range.1 hj)).2.2
/-- A part of the slots. -/
theorem SrcC.part {N : Nat} {w : World} {g off c : Nat} {Y : List SlotX} (h : SrcC N w (.slice (some ⟨g, off, none⟩) Y.length c) Y) (k n : Nat) (hk : k + n ≤ Y.length) (a : Option Addr) (c' : Nat) (ha : 0 < n → a = some ⟨g, off + k * 8, none⟩) (h0 : a = none → c' = 0) (hc : n ≤ c') (hm : c' ≤ maxLen) : SrcC N w (.slice a n c') ((Y.drop k).take n) := by
  obtain ⟨a', c0, e, h1, h2, h3, h4, h5⟩ := h
  obtain ⟨rfl, _, rfl⟩ := slice_inj e
  have hl : ((Y.drop k).take n).length = n := by rw [List.length_take, List.length_drop]; omega
  refine ⟨a, c', by rw [hl], h0, by rw [hl]; exact hc, hm, fun hp => ?_, fun y hy => h5 y (List.mem_of_mem_drop (List.mem_of_mem_take hy))⟩
  rw [hl] at hp
  obtain ⟨g', off', ea, hg, hcc⟩ := h4 (by omega)
  obtain ⟨rfl, rfl⟩ : g = g' ∧ off = off' := by simpa using ea
  refine ⟨g, off + k * 8, ha hp, hg, fun j hj i hi => ?_⟩
  rw [hl] at hj
  have e : ((Y.drop k).take n)[j]'(by rw [hl]; exact hj) = Y[k + j]'(by omega) := by simp
  rw [e, ← hcc (k + j) (by omega) i hi]
  congr 2
  omega
/-- The copy. -/
structure OwnC (N : Nat) (w : World) (v : Value) (xs : List SlotX) : Prop where
  row : w.ownsRow N 35 8 v xs.length (rowS xs)
  hosts : ∀ x ∈ xs, Txs N w (.slice x.a x.s.h.length x.c) x.s.h
theorem OwnC.keep {N : Nat} {w w' : World} {v : Value} {xs : List SlotX} (h : OwnC N w v xs) (hN : N ≤ w.heap.size) (b : Below w.heap.size w w') : OwnC N w' v xs :=
  ⟨owns_below h.row b, fun x hx => (h.hosts x hx).keep (b.mono hN)⟩
theorem OwnC.form {N : Nat} {w : World} {v : Value} {xs : List SlotX} (h : OwnC N w v xs) : ∃ a c, v = .slice a xs.length c ∧ (a = none → c = 0) := by
  obtain ⟨h1, ⟨h2, h3⟩ | ⟨g, c, cur, hv, _⟩⟩ := h.row
  · exact ⟨none, 0, by rw [h2, h3], fun _ => rfl⟩
  · exact ⟨_, c, hv, fun e => by cases e⟩
theorem OwnC.block {N : Nat} {w : World} {v : Value} {xs : List SlotX} (h : OwnC N w v xs) (h0 : 0 < xs.length) : ∃ g c, v = .slice (some ⟨g, 0, none⟩) xs.length c ∧ N ≤ g ∧ g < w.heap.size ∧ xs.length ≤ c ∧ c ≤ maxLen ∧ ∀ (j : Nat) (hj : j < xs.length) (i : Nat), i < 8 → w.cell? ⟨g, j * 8 + i, none⟩ = (slotV xs[j].s xs[j].a xs[j].c)[i]? := by
  have hR := h.row
  obtain ⟨h1, ⟨h2, h3⟩ | ⟨g, c, cur, hv, hB, hg, hl, hm, hs, ht⟩⟩ := h.row
  · omega
  · refine ⟨g, c, hv, hB, heap_lt hg, hl, hm, fun j hj i hi => ?_⟩
    have k := (hv ▸ hR : w.ownsRow N 35 8 (.slice (some ⟨g, 0, none⟩) xs.length c) xs.length (rowS xs))
    exact (k.cellAt (j * 8 + i) (by omega)).trans (rowS_at xs j hj i hi)
theorem OwnC.sls {N : Nat} {w : World} {v : Value} {xs : List SlotX} (h : OwnC N w v xs) (hN : N ≤ w.heap.size) : Sls w.heap.size w v (xs.map (·.s)) := by
  have el : (xs.map (·.s)).length = xs.length := List.length_map _
  rcases Nat.eq_zero_or_pos xs.length with h0 | hp
  · obtain rfl := List.eq_nil_of_length_eq_zero h0
    obtain ⟨a, c, e, h1⟩ := h.form
    obtain ⟨h1', h2⟩ := h.row
    rcases h2 with ⟨h2, h3⟩ | ⟨g, c2, cur, hv, hB, hg, hl, hm, _⟩
    · exact ⟨none, 0, h2, fun _ => rfl, Nat.le_refl _, Nat.zero_le _, fun q => absurd q (Nat.lt_irrefl _)⟩
    · exact ⟨_, c2, hv, (fun e => by cases e), hl, hm, fun q => absurd q (Nat.lt_irrefl _)⟩
  · obtain ⟨g, c, hv, hB, hg, hl, hm, hc⟩ := h.block hp
    refine ⟨_, c, by rw [el]; exact hv, (fun e => by cases e), by omega, hm, fun _ => ⟨g, 0, rfl, hg, fun j hj => ?_⟩⟩
    have hj' : j < xs.length := by omega
    rw [List.getElem_map, Nat.zero_add]
    have q := hc j hj'
    exact ⟨xs[j].a, xs[j].c, q 0 (by decide), q 1 (by decide), q 2 (by decide), q 3 (by decide), q 4 (by decide), q 5 (by decide), q 6 (by decide), q 7 (by decide), (h.hosts _ (List.getElem_mem hj')).mono hN⟩
theorem OwnC.empty (N : Nat) (w : World) (hB : N ≤ w.heap.size) : OwnC N (w.alloc (.cells #[] 35)) (.slice (some ⟨w.heap.size, 0, none⟩) 0 0) [] :=
  ⟨⟨rfl, .inr ⟨w.heap.size, 0, #[], rfl, hB, new_at _ _, Nat.le_refl _, by decide, rfl, rfl⟩⟩, fun x hx => by cases hx⟩
theorem rowS_ones (xs : List SlotX) : ∀ v ∈ rowS xs, v.oneCell' = true := by
  intro v hv
  unfold rowS at hv
  obtain ⟨x, _, hx⟩ := List.mem_flatMap.1 hv
  exact rowS_one x v hx
/-- Slots appended. -/
theorem ownC_append {N : Nat} {w : World} {v : Value} {X Y : List SlotX} {a : Option Addr} {n c : Nat} (h : OwnC N w v X) (hs : SrcC N w (.slice a n c) Y) (hmax : X.length + Y.length ≤ 1048576) (hB : N ≤ w.heap.size) :
    ∃ v' w', (Builtin.append_ #[23, 23] 23 #[v, .slice a n c]).run Tryz.prog w = .ok v' w' ∧ OwnC N w' v' (X ++ Y) ∧ Below N w w' := by
  obtain ⟨i, hi, hz0, hz1, hz2⟩ := info_parts infoS
  obtain ⟨a', c', e, hnil, h1, h2, h3, h5⟩ := hs
  obtain ⟨e1, e2, e3⟩ := slice_inj e
  subst e1 e2 e3
  have hmx : X.length + Y.length ≤ maxLen := by unfold maxLen; omega
  cases a with
  | none =>
    have hc := hnil rfl
    have hy : Y = [] := by
      rcases Nat.eq_zero_or_pos Y.length with q | q
      · exact List.eq_nil_of_length_eq_zero q
      · obtain ⟨_, _, q, _⟩ := h3 q; cases q
    subst hy hc
    exact ⟨v, w, run_append_owned_none w N 23 23 35 i 8 Tryz.underlying23 hi v _ _ h.row, by rw [List.append_nil]; exact h, Below.refl _ _⟩
  | some ad =>
    obtain ⟨v', w', hr, q1, q2, q3, q4⟩ := run_append_own_at (P := Tryz.prog) w N 23 23 35 i _ 8 88 Tryz.underlying23 hi hz0 hz1 hz2 rfl (by decide) v X.length (rowS X) h.row ad Y.length c (rowS Y) (rowS_len Y)
      (fun j u hj => by
        have hjl := (List.getElem?_eq_some_iff.1 hj).1
        rw [rowS_len] at hjl
        obtain ⟨k, off, ha, _, hc⟩ := h3 (by omega)
        have : ad = ⟨k, off, none⟩ := by simpa using ha
        subst this
        rw [addr_add]
        have r := rowS_at Y (j / 8) (by omega) (j % 8) (by omega)
        have q := hc (j / 8) (by omega) (j % 8) (by omega)
        have e1 : j / 8 * 8 + j % 8 = j := by omega
        have e2 : off + j / 8 * 8 + j % 8 = off + j := by omega
        rw [e1] at r
        rw [e2] at q
        rw [q, ← r, hj]) (rowS_ones _) hmx (by omega) hB
    have bel : Below N w w' := (Below.refl _ _).grown q2 hB (fun q hq => (h.row.lt q hq).1)
    refine ⟨v', w', hr, ⟨?_, fun x hx => ?_⟩, bel⟩
    · rw [List.length_append, rowS_app]; exact q1
    · rcases List.mem_append.1 hx with hx | hx
      · exact (h.hosts x hx).keep bel
      · exact (h5 x hx).keep bel
end Go.Proofs.YthmhaflkkigenaaGreatDoor

/- Tables, plain: in a right table each host leads to one slot; with its slots in another order it is right just as well. -/
namespace Go.Proofs.YthmhaflkkigenaaGreatDoor
open Go.RowKit
set_option linter.unusedVariables false

theorem td_eq {a b : ByteArray} (h : a.data.toList = b.data.toList) : a = b := by
  obtain ⟨⟨x⟩⟩ := a
  obtain ⟨⟨y⟩⟩ := b
  have : x = y := h
  rw [this]
theorem td_beq (a b : ByteArray) : (a.toList == b.toList) = decide (a = b) := by
  rw [ByteArray.toList_eq, ByteArray.toList_eq, Bool.eq_iff_iff, beq_iff_eq, decide_eq_true_iff]
  exact ⟨fun h => td_eq h, fun h => by rw [h]⟩
theorem dst_iff (xs : List ByteArray) : dstB xs = true ↔ xs.Nodup := by
  unfold dstB keysL
  rw [decide_eq_true_iff]
  unfold List.Nodup
  rw [List.pairwise_map]
  constructor
  · exact fun h => h.imp fun hn e => hn (by rw [e])
  · exact fun h => h.imp fun hn e => hn (td_eq e)
structure RightT (ts : List SlotP) : Prop where
  lo : 1 ≤ ts.length
  hi : ts.length ≤ 16
  each : ∀ s ∈ ts, wrS s = false
  names : (namesP ts).Nodup
  hosts : (hostsP ts).Nodup
theorem right_iff (ts : List SlotP) : rightP ts = true ↔ RightT ts := by
  unfold rightP
  rw [Bool.and_eq_true, Bool.and_eq_true, Bool.and_eq_true, Bool.and_eq_true, decide_eq_true_iff, decide_eq_true_iff, dst_iff, dst_iff, Bool.not_eq_true', List.any_eq_false]
  constructor
  · rintro ⟨⟨⟨⟨h1, h2⟩, h3⟩, h4⟩, h5⟩
    exact ⟨h1, h2, fun s hs => by have := h3 s hs; simpa using this, h4, h5⟩
  · rintro ⟨h1, h2, h3, h4, h5⟩
    exact ⟨⟨⟨⟨h1, h2⟩, fun s hs => by rw [h3 s hs]; decide⟩, h4⟩, h5⟩
theorem right_false {ts : List SlotP} (h : ¬ RightT ts) : rightP ts = false := by
  cases e : rightP ts
  · rfl
  · exact absurd ((right_iff ts).1 e) h
theorem hosts_pos {s : SlotP} (h : wrS s = false) : 0 < s.h.length ∧ s.h.length ≤ 8 := by
  unfold wrS at h
  rw [Bool.not_eq_false'] at h
  simp only [Bool.and_eq_true] at h
  have k := h.2.1
  unfold rhB at k
  simp only [Bool.and_eq_true, decide_eq_true_eq] at k
  exact ⟨by omega, k.1.2⟩
theorem named_at {ts : List SlotP} (h : RightT ts) (n : Nat) (hn : n < ts.length) : idxP (fun s => s.n.toList == ts[n].n.toList) ts = n := by
  refine idxP_at _ ts n hn ?_ (by rw [td_beq]; exact decide_eq_true rfl)
  rw [List.any_eq_false]
  intro s hs
  obtain ⟨j, hj, rfl⟩ := List.mem_iff_getElem.1 hs
  rw [List.length_take] at hj
  rw [List.getElem_take, td_beq, decide_eq_true_iff]
  intro e
  have k := List.pairwise_iff_getElem.1 h.names j n (by unfold namesP; rw [List.length_map]; omega) (by unfold namesP; rw [List.length_map]; omega) (by omega)
  apply k
  unfold namesP
  rw [List.getElem_map, List.getElem_map]
  exact e
theorem hostsP_app (a b : List SlotP) : hostsP (a ++ b) = hostsP a ++ hostsP b := by unfold hostsP; rw [List.flatMap_append]
theorem namesP_app (a b : List SlotP) : namesP (a ++ b) = namesP a ++ namesP b := by unfold namesP; rw [List.map_append]
theorem hostsP_cons (s : SlotP) (b : List SlotP) : hostsP (s :: b) = s.h ++ hostsP b := by unfold hostsP; rw [List.flatMap_cons]
theorem mem_hosts {ts : List SlotP} {j : Nat} (hj : j < ts.length) {x : ByteArray} (hx : x ∈ ts[j].h) : x ∈ hostsP ts := by
  unfold hostsP
  exact List.mem_flatMap.2 ⟨_, List.getElem_mem hj, hx⟩
theorem cut_at {ts : List SlotP} (n : Nat) (hn : n < ts.length) : ts = ts.take n ++ ts[n] :: ts.drop (n + 1) := by
  rw [← List.drop_eq_getElem_cons hn, List.take_append_drop]
/-- A host of two slots stands there twice. -/
theorem hosts_two {ts : List SlotP} {j n : Nat} (hjn : j < n) (hn : n < ts.length) {x : ByteArray} (h1 : x ∈ (ts[j]'(by omega)).h) (h2 : x ∈ ts[n].h) : ¬ (hostsP ts).Nodup := by
  intro h
  have e := cut_at n hn
  rw [e, hostsP_app, hostsP_cons, List.nodup_append] at h
  refine h.2.2 x ?_ x (List.mem_append_left _ h2) rfl
  have hj : j < (ts.take n).length := by rw [List.length_take]; omega
  refine mem_hosts hj ?_
  rw [List.getElem_take]
  exact h1
theorem has_iff (x : ByteArray) (s : SlotP) : hasH x s = true ↔ x ∈ s.h := by
  unfold hasH
  rw [List.any_eq_true]
  constructor
  · rintro ⟨y, hy, e⟩
    rw [td_beq, decide_eq_true_iff] at e
    rw [e]; exact hy
  · intro h
    exact ⟨x, h, by rw [td_beq]; exact decide_eq_true rfl⟩
theorem find_at {ts : List SlotP} (h : RightT ts) (n : Nat) (hn : n < ts.length) (x : ByteArray) (hx : x ∈ ts[n].h) : idxP (hasH x) ts = n := by
  refine idxP_at _ ts n hn ?_ ((has_iff x _).2 hx)
  rw [List.any_eq_false]
  intro s hs
  obtain ⟨j, hj, rfl⟩ := List.mem_iff_getElem.1 hs
  rw [List.length_take] at hj
  rw [List.getElem_take, has_iff]
  intro e
  exact hosts_two (by omega) hn e hx h.hosts
/-- A host put in twice. -/
def withH (s : SlotP) (x : ByteArray) : SlotP := { s with h := s.h ++ [x] }
def withN (s : SlotP) (x : ByteArray) : SlotP := { s with n := x }
theorem twice_wrong (ts : List SlotP) (i k : Nat) (hi : i < ts.length) (hk : k < ts.length) (x : ByteArray) (hx : x ∈ ts[k].h) : rightP (ts.set i (withH ts[i] x)) = false := by
  apply right_false
  intro h
  have hl : (ts.set i (withH ts[i] x)).length = ts.length := List.length_set
  have h1 : x ∈ ((ts.set i (withH ts[i] x))[i]'(by omega)).h := by
    rw [List.getElem_set_self]
    exact List.mem_append_right _ (List.mem_singleton.2 rfl)
  by_cases e : i = k
  · subst e
    have c := cut_at i (show i < (ts.set i (withH ts[i] x)).length by omega)
    have hh := h.hosts
    rw [c, hostsP_app, hostsP_cons, List.nodup_append] at hh
    have h2 := (List.nodup_append.1 hh.2.1).1
    rw [List.getElem_set_self] at h2
    have h3 := List.nodup_append.1 (show (ts[i].h ++ [x]).Nodup from h2)
    exact h3.2.2 x hx x (List.mem_singleton.2 rfl) rfl
  · have h2 : x ∈ ((ts.set i (withH ts[i] x))[k]'(by omega)).h := by
      rw [List.getElem_set_ne e]
      exact hx
    rcases Nat.lt_or_gt_of_ne e with c | c
    · exact hosts_two c (by omega) h1 h2 h.hosts
    · exact hosts_two c (by omega) h2 h1 h.hosts
theorem named_set (ts : List SlotP) (h : RightT ts) (i k : Nat) (hi : i < ts.length) (hk : k < ts.length) : rightP (ts.set i (withN ts[i] ts[k].n)) = decide (i = k) := by
  by_cases e : i = k
  · subst e
    have : ts.set i (withN ts[i] ts[i].n) = ts := by
      show ts.set i ts[i] = ts
      exact List.set_getElem_self hi
    rw [this, decide_eq_true rfl]
    exact (right_iff ts).2 h
  · rw [decide_eq_false e]
    apply right_false
    intro h'
    have hl : (namesP (ts.set i (withN ts[i] ts[k].n))).length = ts.length := by unfold namesP; rw [List.length_map, List.length_set]
    have key : ∀ a b (ha : a < ts.length) (hb : b < ts.length), a < b → (a = i ∧ b = k ∨ a = k ∧ b = i) → False := by
      intro a b ha hb hab hor
      refine List.pairwise_iff_getElem.1 h'.names a b (by omega) (by omega) hab ?_
      unfold namesP
      rw [List.getElem_map, List.getElem_map]
      rcases hor with ⟨rfl, rfl⟩ | ⟨rfl, rfl⟩
      · rw [List.getElem_set_self, List.getElem_set_ne e]; rfl
      · rw [List.getElem_set_self, List.getElem_set_ne e]; rfl
    rcases Nat.lt_or_gt_of_ne e with c | c
    · exact key i k hi hk c (.inl ⟨rfl, rfl⟩)
    · exact key k i hk hi c (.inr ⟨rfl, rfl⟩)
theorem right_nil : rightP [] = false := by decide +kernel
/-- Another order. -/
theorem right_rot (a b : List SlotP) (h : RightT (a ++ b)) : RightT (b ++ a) := by
  refine ⟨by have := h.lo; rw [List.length_append] at *; omega, by have := h.hi; rw [List.length_append] at *; omega, fun s hs => h.each s ?_, ?_, ?_⟩
  · rcases List.mem_append.1 hs with q | q
    · exact List.mem_append_right _ q
    · exact List.mem_append_left _ q
  · have k := h.names
    rw [namesP_app] at k ⊢
    exact (List.perm_append_comm.nodup_iff).1 k
  · have k := h.hosts
    rw [hostsP_app] at k ⊢
    exact (List.perm_append_comm.nodup_iff).1 k
theorem rot_same (ts : List SlotP) (k : Nat) : rightP (ts.drop k ++ ts.take k) = rightP ts := by
  have e : ts = ts.take k ++ ts.drop k := (List.take_append_drop k ts).symm
  rw [Bool.eq_iff_iff, right_iff, right_iff]
  constructor
  · intro h; rw [e]; exact right_rot _ _ h
  · intro h; rw [e] at h; exact right_rot _ _ h
theorem right_left {a b : List SlotP} (h : RightT (a ++ b)) (ha : 1 ≤ a.length) : RightT a := by
  refine ⟨ha, by have := h.hi; rw [List.length_append] at this; omega, fun s hs => h.each s (List.mem_append_left _ hs), ?_, ?_⟩
  · have k := h.names; rw [namesP_app] at k; exact (List.nodup_append.1 k).1
  · have k := h.hosts; rw [hostsP_app] at k; exact (List.nodup_append.1 k).1
theorem right_less {a b : List SlotP} {s : SlotP} (h : RightT (a ++ s :: b)) (ha : 1 ≤ (a ++ b).length) : RightT (a ++ b) := by
  refine ⟨ha, by have := h.hi; simp only [List.length_append, List.length_cons] at this ⊢; omega, fun x hx => h.each x ?_, ?_, ?_⟩
  · rcases List.mem_append.1 hx with q | q
    · exact List.mem_append_left _ q
    · exact List.mem_append_right _ (List.mem_cons_of_mem _ q)
  · have k := h.names
    rw [namesP_app] at k ⊢
    exact k.sublist (List.Sublist.append (List.Sublist.refl _) (List.sublist_cons_self _ _))
  · have k := h.hosts
    rw [hostsP_app, hostsP_cons] at k
    rw [hostsP_app]
    exact k.sublist (List.Sublist.append (List.Sublist.refl _) (List.sublist_append_right _ _))
theorem less_named {a b : List SlotP} {s : SlotP} (h : RightT (a ++ s :: b)) : idxP (fun x => x.n.toList == s.n.toList) (a ++ b) = -1 := by
  apply idxP_none
  rw [List.any_eq_false]
  intro x hx
  rw [td_beq, decide_eq_true_iff]
  intro e
  have k := h.names
  rw [namesP_app] at k
  have k2 := List.nodup_append.1 k
  rcases List.mem_append.1 hx with q | q
  · exact k2.2.2 x.n (List.mem_map.2 ⟨x, q, rfl⟩) s.n (List.mem_cons_self) e
  · have k3 := k2.2.1
    have k4 : s.n ∉ b.map (·.n) := (List.nodup_cons.1 k3).1
    exact k4 (by rw [← e]; exact List.mem_map.2 ⟨x, q, rfl⟩)
theorem less_find {a b : List SlotP} {s : SlotP} (h : RightT (a ++ s :: b)) (y : ByteArray) (hy : y ∈ s.h) : idxP (hasH y) (a ++ b) = -1 := by
  apply idxP_none
  rw [List.any_eq_false]
  intro x hx
  rw [has_iff]
  intro e
  have k := h.hosts
  rw [hostsP_app, hostsP_cons] at k
  have k2 := List.nodup_append.1 k
  rcases List.mem_append.1 hx with q | q
  · exact k2.2.2 y (List.mem_flatMap.2 ⟨x, q, e⟩) y (List.mem_append_left _ hy) rfl
  · have k3 := List.nodup_append.1 k2.2.1
    exact k3.2.2 y hy y (List.mem_flatMap.2 ⟨x, q, e⟩) rfl
end Go.Proofs.YthmhaflkkigenaaGreatDoor

/- A right table's text is short. -/
namespace Go.Proofs.YthmhaflkkigenaaGreatDoor
open Go.RowKit
set_option linter.unusedVariables false

theorem host_short {s : ByteArray} (h : whB s = false) : s.size ≤ 64 ∧ (hostP s).2 = true ∧ (hostP s).1 = s := by
  unfold whB at h
  rw [Bool.or_eq_false_iff, Bool.not_eq_false', Bool.not_eq_false', td_beq, decide_eq_true_iff] at h
  refine ⟨?_, h.1, h.2⟩
  rw [← h.2]
  unfold hostP
  split
  · decide
  · split
    · decide
    · split
      · decide
      · show (portP (foldS s)).size ≤ 64; omega
structure SlotOk (s : SlotP) : Prop where
  name : nameP s.n = true
  lo : 1 ≤ s.h.length
  hi : s.h.length ≤ 8
  host : ∀ x ∈ s.h, whB x = false
  q : 256 ≤ s.q ∧ s.q ≤ 1048576
  c : 1 ≤ s.c ∧ s.c ≤ 64
  p : 1 ≤ s.p ∧ s.p ≤ 64
  r : 1 ≤ s.r ∧ s.r ≤ 1048576
  b : 1 ≤ s.b ∧ s.b ≤ 1048576
  u : 1 ≤ s.u ∧ s.u ≤ 1048576
theorem slot_ok {s : SlotP} (h : wrS s = false) : SlotOk s := by
  unfold wrS at h
  rw [Bool.not_eq_false'] at h
  unfold rhB wiB at h
  simp only [Bool.and_eq_true, decide_eq_true_eq, Bool.not_eq_true', List.any_eq_false, Bool.not_eq_true] at h
  obtain ⟨h1, ⟨⟨h2, h3⟩, h4⟩, h5, h6, h7, h8, h9, h10⟩ := h
  exact ⟨h1, h2, h3, h4, h5, h6, h7, h8, h9, h10⟩
theorem name_short {s : ByteArray} (h : nameP s = true) : s.size ≤ 30 := by
  unfold nameP at h
  simp only [Bool.and_eq_true, decide_eq_true_eq] at h
  exact h.1.1.2
theorem hosts_sm : ∀ l : List ByteArray, (∀ x ∈ l, x.size ≤ 64) → smL (l.map (·.data.toList)) ≤ l.length * 65
  | [], _ => by simp [smL]
  | x :: l, h => by
    have k := hosts_sm l (fun m hm => h m (List.mem_cons_of_mem _ hm))
    have q := h x List.mem_cons_self
    have e : smL ((x :: l).map (·.data.toList)) = x.size + 1 + smL (l.map (·.data.toList)) := by
      unfold smL
      rw [List.map_cons, List.map_cons, List.sum_cons]; rfl
    rw [e, List.length_cons]
    omega
theorem nums_ok {s : SlotP} (h : SlotOk s) : ∀ n ∈ numsP s, 0 ≤ n ∧ n < 1000000000000000000 := by
  intro n hn
  unfold numsP at hn
  simp only [List.mem_cons, List.not_mem_nil, or_false] at hn
  have := h.q
  have := h.c
  have := h.p
  have := h.r
  have := h.b
  have := h.u
  rcases hn with rfl | rfl | rfl | rfl | rfl | rfl <;> omega
theorem line_short {s : SlotP} (h : SlotOk s) : (lineP s).length ≤ 1000 := by
  have h4 := nums_sm (numsP s) (nums_ok h)
  have h5 : (numsP s).length = 6 := rfl
  have h6 := join_sm ((wordsP s).map (·.data.toList))
  have h8 := hosts_sm s.h (fun x hx => (host_short (h.host x hx)).1)
  have h9 := h.hi
  have h10 := name_short h.name
  have h7 : smL ((wordsP s).map (·.data.toList)) = 5 + (s.n.size + 1) + smL (((numsP s).map itoaS).map (·.data.toList)) + smL (s.h.map (·.data.toList)) := by
    unfold wordsP
    rw [List.map_append, List.map_append, smL_app, smL_app]
    have : smL (([⟨#[115, 108, 111, 116]⟩, s.n] : List ByteArray).map (·.data.toList)) = 5 + (s.n.size + 1) := by
      show (4 + 1) + ((s.n.data.toList.length + 1) + 0) = _
      rw [Array.length_toList]; rfl
    rw [this]
  unfold lineP
  rw [List.length_append]
  simp only [List.length_cons, List.length_nil]
  omega
theorem tell_short : ∀ ts : List SlotP, (∀ s ∈ ts, SlotOk s) → (tellP ts).length ≤ ts.length * 1000
  | [], _ => by simp [tellP]
  | x :: xs, h => by
    have k := tell_short xs (fun y hy => h y (List.mem_cons_of_mem _ hy))
    have z := line_short (h x List.mem_cons_self)
    have e : tellP (x :: xs) = lineP x ++ tellP xs := by unfold tellP; rw [List.flatMap_cons]
    rw [e, List.length_append, List.length_cons, Nat.add_mul, Nat.one_mul]
    omega
theorem right_bd {ts : List SlotP} (h : RightT ts) : (tellP ts).length ≤ 100000000 ∧ ∀ s ∈ ts, NBd s := by
  refine ⟨?_, fun s hs n hn => ?_⟩
  · have k := tell_short ts (fun s hs => slot_ok (h.each s hs))
    have := h.hi
    omega
  · have := nums_ok (slot_ok (h.each s hs)) n hn
    omega
theorem tellP_app (a b : List SlotP) : tellP (a ++ b) = tellP a ++ tellP b := by unfold tellP; rw [List.flatMap_append]
end Go.Proofs.YthmhaflkkigenaaGreatDoor
