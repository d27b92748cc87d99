/- Texts that the proof leans on, one behind the other: BldA TbG TbH CutW TbI -/
import Derived.Test.YthmhaflkkigenaaGreatDoorTb
import Derived.Test.YthmhaflkkigenaaGreatDoorTa
import Derived.Lib.Builder
import Derived.Test.YthmhaflkkigenaaGreatDoorTd
import Derived.BigRegion
import Derived.Lib.SplitLaws
/- A strings.Builder that a call has made: WriteString, String. -/
namespace Go.Proofs.YthmhaflkkigenaaGreatDoor
open Go.ChangeShapes Go.WideShapes Go.ChangeAt Go.RowKit
set_option linter.unusedVariables false

/-- In block b, one from B on, lies a builder that holds the bytes X. -/
def Bld (B : Nat) (w : World) (b : Nat) (X : List UInt8) : Prop := B ≤ b ∧ ∃ p v, w.heap[b]? = some (.cells #[p, v] 71) ∧ (p = .pointer none ∨ p = .pointer (some ⟨b, 0, none⟩)) ∧ Own B w v X ∧ v.ownBlock ≠ some b
theorem Bld.lt {B : Nat} {w : World} {b : Nat} {X : List UInt8} (h : Bld B w b X) : b < w.heap.size := by
  obtain ⟨_, p, v, h, _⟩ := h
  exact heap_lt h
theorem Bld.keep {B : Nat} {w w' : World} {b : Nat} {X : List UInt8} (h : Bld B w b X) (k : Below w.heap.size w w') : Bld B w' b X := by
  obtain ⟨h0, p, v, h1, h2, h3, h4⟩ := h
  exact ⟨h0, p, v, (k.block b (heap_lt h1)).trans h1, h2, h3.keep k, h4⟩
theorem Bld.new (w : World) (B : Nat) (hB : B ≤ w.heap.size) : Bld B (w.alloc (.cells #[.pointer none, .slice none 0 0] 71)) w.heap.size [] :=
  ⟨hB, _, _, new_at _ _, .inl rfl, Own.nil _ _, by simp [Value.ownBlock]⟩
theorem sizeBld : (Tryz.prog.info? 71).map (·.size) = some 2 := by kernel_rfl
set_option maxRecDepth 100000 in
set_option maxHeartbeats 1000000 in
theorem check_used (b : Nat) (w : World) (h0 : w.cell? ⟨b, 0, none⟩ = some (.pointer (some ⟨b, 0, none⟩))) :
    Calls Tryz.prog 58 #[.pointer (some ⟨b, 0, none⟩)] w fun e w' => e = .returned (.tuple #[]) ∧ w' = w := by
  obtain ⟨j, hj, _⟩ := Option.map_eq_some_iff.1 sizeBld
  go_enter Tryz.func58, Tryz.ntmps58
  go_wp2
  rw [Lib.run_neq_ptr_same w _ Tryz.underlying68 hj]
  go_wp2
  refine bodyPost_end (results_none rfl _ _ _) rfl ?_
  exact ⟨rfl, rfl⟩
set_option maxRecDepth 100000 in
set_option maxHeartbeats 1000000 in
theorem check_fresh (b : Nat) (v : Value) (w : World) (hb : w.heap[b]? = some (.cells #[.pointer none, v] 71)) :
    Calls Tryz.prog 58 #[.pointer (some ⟨b, 0, none⟩)] w fun e w' => e = .returned (.tuple #[]) ∧ w' = w.setCell ⟨b, 0, none⟩ (.pointer (some ⟨b, 0, none⟩)) := by
  obtain ⟨j, hj, hjs⟩ := Option.map_eq_some_iff.1 sizeBld
  have h0 : w.cell? ⟨b, 0, none⟩ = some (.pointer none) := ring_cell hb rfl
  have hfz : w.frozen? ⟨b, 0, none⟩ = false := ring_z hb
  have hsh : w.shape? b = some (71, 2) := by simp [World.shape?, hb]
  go_enter Tryz.func58, Tryz.ntmps58
  go_wp2
  rw [Lib.run_to_unsafe w ⟨b, 0, none⟩ Tryz.underlying68 Tryz.underlying95 hj (by rw [hjs]; decide) hsh (Nat.zero_lt_succ 1)]
  simp only [Result.andThen]
  rw [Oper.upon_value]
  go_wp2
  rw [run_callFunc_extern Tryz.func68 (by kernel_rfl) (by kernel_rfl) (by kernel_rfl) (e := Extern.AbiNoEscape.same) (by kernel_rfl)]
  rw [Lib.run_noEscape]
  simp only [Result.andThen]
  rw [Oper.upon_value]
  go_wp2
  rw [Lib.run_from_unsafe w ⟨b, 0, none⟩ Tryz.underlying95 Tryz.underlying68 hj hsh (by kernel_rfl)]
  simp only [Result.andThen]
  rw [Oper.upon_value]
  go_wp2
  refine bodyPost_end (results_none rfl _ _ _) rfl ?_
  exact ⟨rfl, rfl⟩
theorem bcheck_any (B b : Nat) (X : List UInt8) (w : World) (h : Bld B w b X) :
    Calls Tryz.prog 58 #[.pointer (some ⟨b, 0, none⟩)] w fun e w' => e = .returned (.tuple #[]) ∧ (∃ v, w'.heap[b]? = some (.cells #[.pointer (some ⟨b, 0, none⟩), v] 71) ∧ Own B w' v X ∧ v.ownBlock ≠ some b) ∧ Below B w w' := by
  obtain ⟨h0, p, v, h1, rfl | rfl, h3, h4⟩ := h
  · refine (check_fresh b v w h1).mono ?_
    rintro e w' ⟨rfl, rfl⟩
    refine ⟨rfl, ⟨v, by rw [ring_set h1]; rfl, ?_, h4⟩, (Below.refl _ _).setCell (p := ⟨b, 0, none⟩) h0 _⟩
    obtain ⟨q1, q2⟩ := h3
    refine ⟨q1, ?_⟩
    rcases q2 with q2 | ⟨g, cap, cur, hv, hg, hh, r⟩
    · exact .inl q2
    · refine .inr ⟨g, cap, cur, hv, hg, ?_, r⟩
      rw [Below.heap_setCell _ _ _ _ (fun e => h4 (by rw [hv]; simp [Value.ownBlock, e]))]
      exact hh
  · refine (check_used b w (ring_cell h1 rfl)).mono ?_
    rintro e w' ⟨rfl, rfl⟩
    exact ⟨rfl, ⟨v, h1, h3, h4⟩, Below.refl _ _⟩
set_option maxRecDepth 100000 in
set_option maxHeartbeats 1000000 in
theorem bwrite_any (B b : Nat) (X : List UInt8) (s : ByteArray) (w : World) (h : Bld B w b X) (hlen : X.length + s.size ≤ 140737488355328) (hB : B ≤ w.heap.size) :
    Calls Tryz.prog 46 #[.pointer (some ⟨b, 0, none⟩), .string s] w fun e w' => e = .returned (.tuple #[.int .i64 s.size, .nilIface]) ∧ Bld B w' b (X ++ s.data.toList) ∧ Below B w w' := by
  have hBb := h.1
  have HC : Hid (Calls Tryz.prog 58 #[.pointer (some ⟨b, 0, none⟩)] w fun e w' => e = .returned (.tuple #[]) ∧ (∃ v, w'.heap[b]? = some (.cells #[.pointer (some ⟨b, 0, none⟩), v] 71) ∧ Own B w' v X ∧ v.ownBlock ≠ some b) ∧ Below B w w') := bcheck_any B b X w h
  clear h
  go_enter Tryz.func46, Tryz.ntmps46
  go_wp2_with fail
  refine HC.out.mono ?_
  rintro e w1 ⟨rfl, ⟨v, hbk, hO, hne⟩, B1⟩
  have c0 : w1.cell? ⟨b, 0, none⟩ = some (.pointer (some ⟨b, 0, none⟩)) := ring_cell hbk rfl
  have c1 : w1.cell? ⟨b, 1, none⟩ = some v := ring_cell hbk rfl
  have hB1 : B ≤ w1.heap.size := Nat.le_trans hB B1.size
  obtain ⟨i, hi, hz0, hz1, hz2⟩ := info_parts infoB3
  obtain ⟨v', w2, hr, q1, q2, q3⟩ := Lib.run_append_own_string (P := Tryz.prog) w1 B 69 9 69 5 i Tryz.underlying69 Tryz.underlying9 hi hz0 hz1 hz2 v X.length (rowB X) hO s (by unfold maxLen; omega) hlen hB1
  have O2 : Own B w2 v' (X ++ s.data.toList) := by
    unfold Own
    rw [List.length_append, rowB_app]; exact q1
  have B2 : Below B w w2 := B1.trans ((Below.refl _ _).grown q2 hB1 (fun q hq => (hO.lt q hq).1))
  have hbk2 : w2.heap[b]? = some (.cells #[.pointer (some ⟨b, 0, none⟩), v] 71) := by
    rw [q2.block b (heap_lt hbk) (fun e => hne e.symm)]
    exact hbk
  have d0 : w2.cell? ⟨b, 0, none⟩ = some (.pointer (some ⟨b, 0, none⟩)) := ring_cell hbk2 rfl
  have d1 : w2.cell? ⟨b, 1, none⟩ = some v := ring_cell hbk2 rfl
  have f1 : w2.frozen? ⟨b, 1, none⟩ = false := ring_z hbk2
  have hne2 : v'.ownBlock ≠ some b := by
    rcases O2.2 with ⟨hv, _⟩ | ⟨g, cap, cur, hv, hg, hh, _⟩
    · rw [hv]; simp [Value.ownBlock]
    · rw [hv]
      intro e
      have e' : g = b := by simpa [Value.ownBlock] using e
      subst e'
      rw [hbk2] at hh
      have := Option.some.inj hh
      injection this with _ e2
      exact absurd e2 (by decide)
  have HF : Hid (∀ w3, w3 = w2.setCell ⟨b, 1, none⟩ v' → Bld B w3 b (X ++ s.data.toList) ∧ Below B w w3) := by
    rintro w3 rfl
    refine ⟨⟨hBb, _, v', by rw [ring_set hbk2]; rfl, .inr rfl, ?_, hne2⟩, B2.setCell (p := ⟨b, 1, none⟩) hBb _⟩
    obtain ⟨r1, r2⟩ := O2
    refine ⟨r1, ?_⟩
    rcases r2 with r2 | ⟨g, cap, cur, hv, hg, hh, r⟩
    · exact .inl r2
    · refine .inr ⟨g, cap, cur, hv, hg, ?_, r⟩
      rw [Below.heap_setCell _ _ _ _ (fun e => hne2 (by rw [hv]; simp [Value.ownBlock, e]))]
      exact hh
  obtain ⟨oa, on, oc, rfl⟩ : ∃ oa on oc, v' = .slice oa on oc := by
    rcases O2.2 with ⟨hv, _⟩ | ⟨g, cap, cur, hv, _⟩
    · exact ⟨_, _, _, hv⟩
    · exact ⟨_, _, _, hv⟩
  obtain ⟨pa, pn, pc, rfl⟩ : ∃ oa on oc, v = .slice oa on oc := by
    rcases hO.2 with ⟨hv, _⟩ | ⟨g, cap, cur, hv, _⟩
    · exact ⟨_, _, _, hv⟩
    · exact ⟨_, _, _, hv⟩
  clear HC hO O2 q1 q2 q3 hbk hbk2 B1 B2
  go_wp2_with (at_builtin; refine wpList_append_run2 rfl _ _ 69 9 rfl _ _ _ w2 rfl rfl hr ?_)
  go_ret2
  exact ⟨rfl, (HF.out _ rfl).1, (HF.out _ rfl).2⟩
theorem bstring_any (B b : Nat) (X : List UInt8) (w : World) (h : Bld B w b X) (hB : B ≤ w.heap.size) :
    Calls Tryz.prog 48 #[.pointer (some ⟨b, 0, none⟩)] w fun e w' => e = .returned (.string ⟨X.toArray⟩) ∧ Below B w w' := by
  refine Tryz.Builder_String_any B b X w ?_ hB
  obtain ⟨h0, p, v, h1, h2, h3, h4⟩ := h
  have k : w.ownsRow B 5 1 v (Lib.byteCells X).length (Lib.byteCells X) := by
    rw [Lib.byteCells_length]; exact h3
  rcases h2 with rfl | rfl
  · exact .inl ⟨h0, v, h1, k, h4⟩
  · exact .inr ⟨h0, v, h1, k, h4⟩
end Go.Proofs.YthmhaflkkigenaaGreatDoor

/- numbers: where a slot's numbers stand. -/
namespace Go.Proofs.YthmhaflkkigenaaGreatDoor
open Go.ChangeShapes Go.WideShapes Go.ChangeAt Go.RowKit
set_option linter.unusedVariables false

def numCells (b : Nat) : Array Value := #[.pointer (some ⟨b, 2, none⟩), .pointer (some ⟨b, 3, none⟩), .pointer (some ⟨b, 4, none⟩), .pointer (some ⟨b, 5, none⟩), .pointer (some ⟨b, 6, none⟩), .pointer (some ⟨b, 7, none⟩)]
set_option maxRecDepth 100000 in
set_option maxHeartbeats 2000000 in
theorem numbers_any (b : Nat) (w : World) :
    Calls Tryz.prog 44 #[.pointer (some ⟨b, 0, none⟩)] w fun e w' => ∃ g, e = .returned (.slice (some ⟨g, 0, none⟩) 6 6) ∧ w.heap.size ≤ g ∧ w'.heap[g]? = some (.cells (numCells b) 75) ∧ Below w.heap.size w w' := by
  have H : Hid (∀ W : World, Below w.heap.size w W → (W.alloc (.cells (numCells b) 75)).heap[W.heap.size]? = some (.cells (numCells b) 75) ∧ Below w.heap.size w (W.alloc (.cells (numCells b) 75)) ∧ w.heap.size ≤ W.heap.size) := fun W hW => ⟨new_at _ _, hW.alloc hW.size _, hW.size⟩
  go_enter Tryz.func44, Tryz.ntmps44
  go_wp2_with fail
  go_region
  go_wp2
  go_ret
  exact ⟨w.heap.size, rfl, Nat.le_refl _, (H.out w (Below.refl _ _)).1, (H.out w (Below.refl _ _)).2.1.drew⟩
/-- Texts appended: what turns, and where it lies then. -/
theorem ownT_app3 {B C : Nat} {w : World} {v : Value} {X Y : List ByteArray} {ad : Addr} {n c : Nat} (h : OwnT B w v X) (hs : Txs C w (.slice (some ad) n c) Y) (hp : 0 < Y.length) (hmax : X.length + Y.length ≤ 4294967296) (hB : B ≤ w.heap.size) :
    ∃ g' c' w', (Builtin.append_ #[33, 33] 33 #[v, .slice (some ad) n c]).run Tryz.prog w = .ok (.slice (some ⟨g', 0, none⟩) (X ++ Y).length c') w' ∧ OwnT B w' (.slice (some ⟨g', 0, none⟩) (X ++ Y).length c') (X ++ Y) ∧ Kp (fun k => v.ownBlock = some k) w w' ∧ (v.ownBlock = some g' ∨ g' = w.heap.size) := by
  obtain ⟨i, hi, hz0, hz1, hz2⟩ := info_parts info9
  obtain ⟨a', c', e, hnil, h1, h2, h3⟩ := hs
  obtain ⟨e1, e2, e3⟩ := slice_inj e
  subst e1 e2 e3
  have hmx : X.length + Y.length ≤ maxLen := by unfold maxLen; omega
  obtain ⟨v', w', hr, q1, q2, q3, q4⟩ := run_append_own_at (P := Tryz.prog) w B 33 33 9 i (.string ByteArray.empty) 1 16 Tryz.underlying33 hi hz0 hz1 hz2 rfl (by decide) v X.length (X.map Value.string) h ad Y.length c (Y.map Value.string) (by rw [List.length_map]; omega)
      (fun j u hj => by
        rw [List.getElem?_map] at hj
        obtain ⟨x, hx, rfl⟩ := Option.map_eq_some_iff.1 hj
        have hjl := (List.getElem?_eq_some_iff.1 hx).1
        obtain ⟨k, off, ha, _, hc⟩ := h3 (by omega)
        have : ad = ⟨k, off, none⟩ := by simpa using ha
        subst this
        rw [addr_add, hc j hjl, (List.getElem?_eq_some_iff.1 hx).2]) (rowT_one _) hmx (by omega) hB
  have hO : OwnT B w' v' (X ++ Y) := by
    unfold OwnT
    rw [List.length_append, List.map_append]; exact q1
  have hO2 := hO
  rcases hO2.2 with ⟨_, hz⟩ | ⟨g', d', cur, hv, _⟩
  · rw [List.length_append] at hz
    omega
  · subst hv
    refine ⟨g', d', w', hr, hO, ⟨q2.os, q2.tape, q2.output, q2.size, fun k hk hn => q2.block k hk (fun e => hn e.symm)⟩, ?_⟩
    rcases q4 with q4 | q4
    · left; rw [← q4]; rfl
    · right; simpa [Value.ownBlock] using q4
theorem OwnT.lit2 (w : World) (B : Nat) (x y : ByteArray) (hB : B ≤ w.heap.size) : OwnT B (w.alloc (.cells #[.string x, .string y] 9)) (.slice (some ⟨w.heap.size, 0, none⟩) 2 2) [x, y] :=
  ⟨rfl, .inr ⟨w.heap.size, 2, #[.string x, .string y], rfl, hB, new_at _ _, Nat.le_refl _, by decide, rfl, rfl⟩⟩
theorem OwnT.frame {B : Nat} {w w' : World} {g c : Nat} {X : List ByteArray} (h : OwnT B w (.slice (some ⟨g, 0, none⟩) X.length c) X) (hk : w'.heap[g]? = w.heap[g]?) : OwnT B w' (.slice (some ⟨g, 0, none⟩) X.length c) X := by
  obtain ⟨h1, h2⟩ := h
  refine ⟨h1, ?_⟩
  rcases h2 with h2 | ⟨g', cap, cur, hv, hg, hh, r⟩
  · exact .inl h2
  · have e : g' = g := by
      obtain ⟨e, _, _⟩ := slice_inj hv
      simpa using e.symm
    subst e
    exact .inr ⟨g', cap, cur, hv, hg, hk.trans hh, r⟩

/-- A slot's numbers, in the order of its line. -/
def numsP (s : SlotP) : List Int := [s.q, s.c, s.p, s.r, s.b, s.u]
def wordsP (s : SlotP) : List ByteArray := [⟨#[115, 108, 111, 116]⟩, s.n] ++ (numsP s).map itoaS ++ s.h
def lineP (s : SlotP) : List UInt8 := Lib.join ((wordsP s).map (·.data.toList)) [32] ++ [10]
def tellP (ts : List SlotP) : List UInt8 := ts.flatMap lineP
end Go.Proofs.YthmhaflkkigenaaGreatDoor

/- tell: the text of a table. -/
namespace Go.Proofs.YthmhaflkkigenaaGreatDoor
open Go.ChangeShapes Go.WideShapes Go.ChangeAt Go.RowKit
set_option linter.unusedVariables false

theorem tellP_snoc (ts : List SlotP) (k : Nat) (h : k < ts.length) : tellP (ts.take (k + 1)) = tellP (ts.take k) ++ lineP ts[k] := by
  rw [List.take_succ_eq_append_getElem h]; unfold tellP; rw [List.flatMap_append]; simp
theorem tellP_part (ts : List SlotP) (k : Nat) : (tellP (ts.take k)).length ≤ (tellP ts).length := by
  have e : tellP ts = tellP (ts.take k) ++ tellP (ts.drop k) := by unfold tellP; rw [← List.flatMap_append, List.take_append_drop]
  rw [e, List.length_append]; omega
theorem join_words : ∀ xs : List (List UInt8), xs.length ≤ (Lib.join xs [32]).length + 1
  | [] => by simp
  | x :: r => by
    rw [Lib.join_cons, List.length_append]
    unfold Lib.joinTail
    have : ∀ r : List (List UInt8), r.length ≤ ((r.map ([32] ++ ·)).flatten).length := fun r => by
      induction r with
      | nil => simp
      | cons y r ih => simp only [List.map_cons, List.flatten_cons, List.length_append, List.length_cons, List.length_nil] at *; omega
    have := this r
    simp only [List.length_cons]
    omega
theorem num_cell {w : World} {g b : Nat} (h : w.heap[g]? = some (.cells (numCells b) 75)) (i : Nat) (hi : i < 6) : w.cell? ⟨g, i, none⟩ = some (.pointer (some ⟨b, 2 + i, none⟩)) := by
  refine ring_cell h ?_
  match i, hi with
  | 0, _ => rfl
  | 1, _ => rfl
  | 2, _ => rfl
  | 3, _ => rfl
  | 4, _ => rfl
  | 5, _ => rfl
theorem slot_num {w : World} {b : Nat} {n : ByteArray} {v : Value} {s : SlotP} (h : w.heap[b]? = some (.cells #[.string n, v, .int .i64 s.q, .int .i64 s.c, .int .i64 s.p, .int .i64 s.r, .int .i64 s.b, .int .i64 s.u] 35)) (i : Nat) (hi : i < (numsP s).length) : w.cell? ⟨b, 2 + i, none⟩ = some (.int .i64 (numsP s)[i]) := by
  refine ring_cell h ?_
  match i, hi with
  | 0, _ => rfl
  | 1, _ => rfl
  | 2, _ => rfl
  | 3, _ => rfl
  | 4, _ => rfl
  | 5, _ => rfl
/-- Numbers that an int64 can be. -/
def NBd (s : SlotP) : Prop := ∀ n ∈ numsP s, -9223372036854775808 ≤ n ∧ n ≤ 9223372036854775807

set_option maxRecDepth 100000 in
set_option maxHeartbeats 4000000 in
theorem tell_any (ts : List SlotP) (a : Option Addr) (c : Nat) (w : World) (hf : Sls w.heap.size w (.slice a ts.length c) ts) (hT : (tellP ts).length ≤ 100000000) (hN : ∀ s ∈ ts, NBd s) (hP : PowT w) :
    Calls Tryz.prog 26 #[.slice a ts.length c] w fun e w' => e = .returned (.string ⟨(tellP ts).toArray⟩) ∧ Below w.heap.size w w' := by
  have hlm := hf.len
  unfold maxLen at hlm
  have HP : Hid (PowT w) := hP
  have D0 := Bld.new w w.heap.size (Nat.le_refl _)
  have B0 : Below w.heap.size w (w.alloc (.cells #[.pointer none, .slice none 0 0] 71)) := (Below.refl _ _).alloc (Nat.le_refl _) _
  have HST : Hid (∀ (W : World) (X : List UInt8), Bld w.heap.size W w.heap.size X → Below w.heap.size w W → Calls Tryz.prog 48 #[.pointer (some ⟨w.heap.size, 0, none⟩)] W fun e w' => e = .returned (.string ⟨X.toArray⟩) ∧ Below w.heap.size w w') := fun W X hX hW => (bstring_any _ _ X W hX hW.size).mono fun e w' ⟨h1, h2⟩ => ⟨h1, hW.trans h2⟩
  rcases Nat.eq_zero_or_pos ts.length with h0 | hp
  · have he : ts = [] := List.eq_nil_of_length_eq_zero h0
    subst he
    have HS0 := HST.out _ [] D0 B0
    have HS1 : Hid (Calls Tryz.prog 48 #[.pointer (some ⟨w.heap.size, 0, none⟩)] (w.alloc (.cells #[.pointer none, .slice none 0 0] 71)) fun e w' => e = .returned (.string ⟨#[]⟩) ∧ Below w.heap.size w w') := HS0
    clear hf h0 hlm hN hP hT D0 HST HS0
    go_enter Tryz.func26, Tryz.ntmps26
    go_wp2_with fail
    refine wp_loop_rounds 1 ?_
    rw [rounds_succ]
    go_wp2_with fail
    refine HS1.out.mono ?_
    rintro e w1 ⟨rfl, B1⟩
    go_wp2
    go_ret
    exact ⟨rfl, B1⟩
  · obtain ⟨a', c', e, hnil, q1, q2, q3⟩ := hf
    obtain ⟨rfl, _, rfl⟩ := slice_inj e
    obtain ⟨g, off, rfl, hg, hc⟩ := q3 hp
    have HC : Hid (∀ (j : Nat) (hj : j < ts.length), SlotAt w.heap.size w g (off + j * 8) ts[j]) := hc
    have HN : Hid (∀ s ∈ ts, NBd s) := hN
    have HT : Hid ((tellP ts).length ≤ 100000000) := hT
    have hln : ts.length ≤ 9223372036854775807 := by omega
    clear e hnil q1 q2 q3 hlm hc hN hP hT
    go_enter Tryz.func26, Tryz.ntmps26
    go_wp2_with fail
    go_loopw [11] (fun vi wr => ∃ k : Nat, k ≤ ts.length ∧ vi = .int .i64 k ∧ Hid (Bld w.heap.size wr w.heap.size (tellP (ts.take k))) ∧ Below w.heap.size w wr) (fun vi _ => ts.length - (intOf vi).toNat)
    case atStart => exact ⟨0, Nat.zero_le _, rfl, D0, B0⟩
    case round =>
      obtain ⟨k, hk, rfl, hD, hB⟩ := hrel
      rename World => wo
      clear D0 B0
      by_cases hlt : k < ts.length
      · obtain ⟨ha, hc, d0, d1, d2, d3, d4, d5, d6, d7, dt⟩ := (HC.out k hlt).keep hg hB
        have hsn : Hid (tellP (ts.take (k + 1)) = tellP (ts.take k) ++ lineP ts[k]) := tellP_snoc ts k hlt
        have hbl : Hid ((tellP (ts.take (k + 1))).length ≤ 100000000) := Nat.le_trans (tellP_part ts (k + 1)) HT.out
        have hnb := HN.out ts[k] (List.getElem_mem hlt)
        generalize ts[k] = x at *
        have HNB : Hid (NBd x) := hnb
        have hwl : Hid ((wordsP x).length ≤ 100000001 ∧ (lineP x).length ≤ 100000000 ∧ (tellP (ts.take k)).length + (lineP x).length ≤ 100000000) := by
          have q := hbl.out
          rw [hsn.out, List.length_append] at q
          have q2 := join_words ((wordsP x).map (·.data.toList))
          rw [List.length_map] at q2
          have q3 : (lineP x).length = (Lib.join ((wordsP x).map (·.data.toList)) [32]).length + 1 := by unfold lineP; rw [List.length_append]; rfl
          exact ⟨by omega, by omega, by omega⟩
        clear hnb
        have U : Below wo.heap.size wo (wo.alloc (.cells #[.string x.n, .slice ha x.h.length hc, .int .i64 x.q, .int .i64 x.c, .int .i64 x.p, .int .i64 x.r, .int .i64 x.b, .int .i64 x.u] 35)) := (Below.refl _ _).alloc (Nat.le_refl _) _
        have hs0 : (wo.alloc (.cells #[.string x.n, .slice ha x.h.length hc, .int .i64 x.q, .int .i64 x.c, .int .i64 x.p, .int .i64 x.r, .int .i64 x.b, .int .i64 x.u] 35)).heap.size = wo.heap.size + 1 := by simp
        have V : Below (wo.alloc (.cells #[.string x.n, .slice ha x.h.length hc, .int .i64 x.q, .int .i64 x.c, .int .i64 x.p, .int .i64 x.r, .int .i64 x.b, .int .i64 x.u] 35)).heap.size (wo.alloc (.cells #[.string x.n, .slice ha x.h.length hc, .int .i64 x.q, .int .i64 x.c, .int .i64 x.p, .int .i64 x.r, .int .i64 x.b, .int .i64 x.u] 35)) ((wo.alloc (.cells #[.string x.n, .slice ha x.h.length hc, .int .i64 x.q, .int .i64 x.c, .int .i64 x.p, .int .i64 x.r, .int .i64 x.b, .int .i64 x.u] 35)).alloc (.cells #[.string ⟨#[115, 108, 111, 116]⟩, .string x.n] 9)) := (Below.refl _ _).alloc (Nat.le_refl _) _
        have hs1 : ((wo.alloc (.cells #[.string x.n, .slice ha x.h.length hc, .int .i64 x.q, .int .i64 x.c, .int .i64 x.p, .int .i64 x.r, .int .i64 x.b, .int .i64 x.u] 35)).alloc (.cells #[.string ⟨#[115, 108, 111, 116]⟩, .string x.n] 9)).heap.size = wo.heap.size + 2 := by simp
        have OW := OwnT.lit2 (wo.alloc (.cells #[.string x.n, .slice ha x.h.length hc, .int .i64 x.q, .int .i64 x.c, .int .i64 x.p, .int .i64 x.r, .int .i64 x.b, .int .i64 x.u] 35)) (wo.heap.size + 1) ⟨#[115, 108, 111, 116]⟩ x.n (by omega)
        rw [hs0] at OW
        have NB := new_at wo (.cells #[.string x.n, .slice ha x.h.length hc, .int .i64 x.q, .int .i64 x.c, .int .i64 x.p, .int .i64 x.r, .int .i64 x.b, .int .i64 x.u] 35)
        have HNU : Hid (Calls Tryz.prog 44 #[.pointer (some ⟨wo.heap.size, 0, none⟩)] ((wo.alloc (.cells #[.string x.n, .slice ha x.h.length hc, .int .i64 x.q, .int .i64 x.c, .int .i64 x.p, .int .i64 x.r, .int .i64 x.b, .int .i64 x.u] 35)).alloc (.cells #[.string ⟨#[115, 108, 111, 116]⟩, .string x.n] 9)) fun e w' => ∃ g, e = .returned (.slice (some ⟨g, 0, none⟩) 6 6) ∧ wo.heap.size + 2 ≤ g ∧ w'.heap[g]? = some (.cells (numCells wo.heap.size) 75) ∧ Below (wo.heap.size + 2) ((wo.alloc (.cells #[.string x.n, .slice ha x.h.length hc, .int .i64 x.q, .int .i64 x.c, .int .i64 x.p, .int .i64 x.r, .int .i64 x.b, .int .i64 x.u] 35)).alloc (.cells #[.string ⟨#[115, 108, 111, 116]⟩, .string x.n] 9)) w') := by
          have q := numbers_any wo.heap.size ((wo.alloc (.cells #[.string x.n, .slice ha x.h.length hc, .int .i64 x.q, .int .i64 x.c, .int .i64 x.p, .int .i64 x.r, .int .i64 x.b, .int .i64 x.u] 35)).alloc (.cells #[.string ⟨#[115, 108, 111, 116]⟩, .string x.n] 9))
          rw [hs1] at q
          exact q
        have NB2 := (V.block wo.heap.size (by omega)).trans NB
        have HOW : Hid (OwnT (wo.heap.size + 1) ((wo.alloc (.cells #[.string x.n, .slice ha x.h.length hc, .int .i64 x.q, .int .i64 x.c, .int .i64 x.p, .int .i64 x.r, .int .i64 x.b, .int .i64 x.u] 35)).alloc (.cells #[.string ⟨#[115, 108, 111, 116]⟩, .string x.n] 9)) (.slice (some ⟨wo.heap.size + 1, 0, none⟩) 2 2) [⟨#[115, 108, 111, 116]⟩, x.n]) := OW
        have UV : Below (wo.heap.size + 1) (wo.alloc (.cells #[.string x.n, .slice ha x.h.length hc, .int .i64 x.q, .int .i64 x.c, .int .i64 x.p, .int .i64 x.r, .int .i64 x.b, .int .i64 x.u] 35)) ((wo.alloc (.cells #[.string x.n, .slice ha x.h.length hc, .int .i64 x.q, .int .i64 x.c, .int .i64 x.p, .int .i64 x.r, .int .i64 x.b, .int .i64 x.u] 35)).alloc (.cells #[.string ⟨#[115, 108, 111, 116]⟩, .string x.n] 9)) := by rw [hs0] at V; exact V
        have HDT : Hid (Txs w.heap.size wo (.slice ha x.h.length hc) x.h) := dt
        clear OW V NB dt
        generalize hxl : x.h.length = xl at *
        have HXL : Hid (x.h.length = xl) := hxl
        clear hxl
        go_wp2_with fail
        refine HNU.out.mono ?_
        rintro e w2 ⟨gn, rfl, hgn, NN, B2⟩
        have OW2 : OwnT (wo.heap.size + 1) w2 (.slice (some ⟨wo.heap.size + 1, 0, none⟩) 2 2) [⟨#[115, 108, 111, 116]⟩, x.n] := OwnT.frame (X := [⟨#[115, 108, 111, 116]⟩, x.n]) HOW.out (B2.block (wo.heap.size + 1) (by omega))
        have NB3 := (B2.block wo.heap.size (by omega)).trans NB2
        have K2 : Below (wo.heap.size + 1) (wo.alloc (.cells #[.string x.n, .slice ha xl hc, .int .i64 x.q, .int .i64 x.c, .int .i64 x.p, .int .i64 x.r, .int .i64 x.b, .int .i64 x.u] 35)) w2 := UV.trans (B2.mono (by omega))
        have HNB3 : Hid (∀ W, Below (wo.heap.size + 1) (wo.alloc (.cells #[.string x.n, .slice ha xl hc, .int .i64 x.q, .int .i64 x.c, .int .i64 x.p, .int .i64 x.r, .int .i64 x.b, .int .i64 x.u] 35)) W → W.heap[wo.heap.size]? = some (.cells #[.string x.n, .slice ha xl hc, .int .i64 x.q, .int .i64 x.c, .int .i64 x.p, .int .i64 x.r, .int .i64 x.b, .int .i64 x.u] 35)) := fun W hW => (hW.block wo.heap.size (by omega)).trans (new_at wo (.cells #[.string x.n, .slice ha xl hc, .int .i64 x.q, .int .i64 x.c, .int .i64 x.p, .int .i64 x.r, .int .i64 x.b, .int .i64 x.u] 35))
        have HWB : Hid (∀ W, Below (wo.heap.size + 1) (wo.alloc (.cells #[.string x.n, .slice ha xl hc, .int .i64 x.q, .int .i64 x.c, .int .i64 x.p, .int .i64 x.r, .int .i64 x.b, .int .i64 x.u] 35)) W → Below wo.heap.size wo W) := fun W hW => U.trans (hW.mono (by omega))
        have HK2 : Hid (Below (wo.heap.size + 1) (wo.alloc (.cells #[.string x.n, .slice ha xl hc, .int .i64 x.q, .int .i64 x.c, .int .i64 x.p, .int .i64 x.r, .int .i64 x.b, .int .i64 x.u] 35)) w2) := K2
        have HNN : Hid (w2.heap[gn]? = some (.cells (numCells wo.heap.size) 75)) := NN
        have hng : Hid (¬ wo.heap.size + 1 = gn) := by rw [Hid]; omega
        clear HNU HOW UV NB2 NB3 K2 NN B2
        go_wp2_with fail
        go_loopw [6, 20] (fun v6 vi wx => ∃ (i gw cw : Nat), i ≤ 6 ∧ vi = .int .i64 i ∧ v6 = .slice (some ⟨gw, 0, none⟩) (2 + i) cw ∧ Hid (wo.heap.size + 1 ≤ gw) ∧ Hid (OwnT (wo.heap.size + 1) wx v6 ([⟨#[115, 108, 111, 116]⟩, x.n] ++ ((numsP x).take i).map itoaS)) ∧ Hid (¬ gw = gn) ∧ Hid (wx.heap[gn]? = some (.cells (numCells wo.heap.size) 75)) ∧ Hid (Below (wo.heap.size + 1) (wo.alloc (.cells #[.string x.n, .slice ha xl hc, .int .i64 x.q, .int .i64 x.c, .int .i64 x.p, .int .i64 x.r, .int .i64 x.b, .int .i64 x.u] 35)) wx)) (fun _ vi _ => 6 - (intOf vi).toNat)
        case atStart => exact ⟨0, wo.heap.size + 1, 2, by omega, rfl, rfl, Nat.le_refl _, OW2, hng, HNN, HK2⟩
        case round =>
          obtain ⟨i, gw, cw, hi, rfl, rfl, hgw, hO, hne, hNN, hK⟩ := hrel
          rename World => wi
          clear OW2 HNN HK2 hng
          have hBi := hB.trans ((HWB.out wi hK.out).mono hB.size)
          by_cases hli : i < 6
          · have hcp := num_cell hNN.out i hli
            have hcn := slot_num (s := x) (HNB3.out wi hK.out) i hli
            have hnb := HNB.out (numsP x)[i] (List.getElem_mem (show i < (numsP x).length from hli))
            have HTX : Hid (Calls Tryz.prog 45 #[.int .i64 (numsP x)[i]] wi fun e w' => e = .returned (.string (itoaS (numsP x)[i])) ∧ Below wi.heap.size wi w') := text_any _ hnb.1 hnb.2 wi (HP.out.below hBi)
            have hsi : Hid ([⟨#[115, 108, 111, 116]⟩, x.n] ++ ((numsP x).take (i + 1)).map itoaS = ([⟨#[115, 108, 111, 116]⟩, x.n] ++ ((numsP x).take i).map itoaS) ++ [itoaS (numsP x)[i]]) := by
              rw [Hid, List.take_succ_eq_append_getElem (show i < (numsP x).length from hli), List.map_append, List.append_assoc]; rfl
            have hll : Hid (([⟨#[115, 108, 111, 116]⟩, x.n] ++ ((numsP x).take i).map itoaS).length = 2 + i) := by
              rw [Hid]
              have : (numsP x).length = 6 := rfl
              simp; omega
            have hw0 : IntKind.i64.wrap (numsP x)[i] = (numsP x)[i] := by
              have := hnb
              simp [IntKind.wrap, IntKind.bits, IntKind.signed]; omega
            clear hnb
            generalize itoaS (numsP x)[i] = tx at *
            generalize (numsP x)[i] = nx at *
            go_wp2_with fail
            refine HTX.out.mono ?_
            rintro e w3 ⟨rfl, B3⟩
            have A3 : Below w3.heap.size w3 (w3.alloc (.cells #[.string tx] 9)) := (Below.refl _ _).alloc (Nat.le_refl _) _
            have C3 := B3.trans (A3.mono B3.size)
            have O3 : OwnT (wo.heap.size + 1) (w3.alloc (.cells #[.string tx] 9)) (.slice (some ⟨gw, 0, none⟩) (2 + i) cw) ([⟨#[115, 108, 111, 116]⟩, x.n] ++ ((numsP x).take i).map itoaS) := hO.out.keep C3
            have hs3 : (w3.alloc (.cells #[.string tx] 9)).heap.size = w3.heap.size + 1 := by simp
            have hsK := hK.out.size
            have hs4 : (wo.alloc (.cells #[.string x.n, .slice ha xl hc, .int .i64 x.q, .int .i64 x.c, .int .i64 x.p, .int .i64 x.r, .int .i64 x.b, .int .i64 x.u] 35)).heap.size = wo.heap.size + 1 := by simp
            obtain ⟨g4, c4, w4, r4, O4, K4, G4⟩ := ownT_app3 O3 (one_txs w3 tx _ (Nat.lt_succ_self _)) (Nat.succ_pos _) (by rw [hll.out]; show _ + 1 ≤ _; omega) (by have := C3.size; omega)
            rw [← hsi.out] at r4 O4
            have hll2 : Hid (([⟨#[115, 108, 111, 116]⟩, x.n] ++ ((numsP x).take (i + 1)).map itoaS).length = 2 + (i + 1)) := by
              rw [Hid]
              have : (numsP x).length = 6 := rfl
              simp; omega
            rw [hll2.out] at r4 O4
            have hgnl := heap_lt hNN.out
            have hgwl : gw < wi.heap.size := by
              obtain ⟨_, ⟨q, _⟩ | ⟨g', c', cur, hv, _, hh, _⟩⟩ := hO.out
              · cases q
              · obtain ⟨e, _, _⟩ := slice_inj hv
                have : gw = g' := by simpa using e
                subst this
                exact heap_lt hh
            have HREL : Hid ((wo.heap.size + 1 ≤ g4) ∧ (¬ g4 = gn) ∧ (w4.heap[gn]? = some (.cells (numCells wo.heap.size) 75)) ∧ Below (wo.heap.size + 1) (wo.alloc (.cells #[.string x.n, .slice ha xl hc, .int .i64 x.q, .int .i64 x.c, .int .i64 x.p, .int .i64 x.r, .int .i64 x.b, .int .i64 x.u] 35)) w4) := by
              have hgx := hgw.out
              have hnx := hne.out
              have hb4 : ∀ k, (Value.slice (some ⟨gw, 0, none⟩) (2 + i) cw).ownBlock = some k → k = gw := fun k e => by simpa [Value.ownBlock] using e.symm
              have hs5 := C3.size
              have g4e : g4 = gw ∨ g4 = w3.heap.size + 1 := by
                rcases G4 with e | e
                · exact .inl (hb4 _ e)
                · exact .inr (by omega)
              refine ⟨by rcases g4e with e | e <;> omega, by rcases g4e with e | e <;> omega, ?_, ?_⟩
              · rw [K4.block gn (by omega) (fun e => hnx (hb4 _ e).symm), C3.block gn hgnl]
                exact hNN.out
              · have k1 : Below (wo.heap.size + 1) wi (w3.alloc (.cells #[.string tx] 9)) := C3.mono (by omega)
                exact (hK.out.trans k1).trans (K4.below (by omega) (fun k hk e => by have := hb4 k e; omega))
            have HO4 : Hid (OwnT (wo.heap.size + 1) w4 (.slice (some ⟨g4, 0, none⟩) (2 + (i + 1)) c4) ([⟨#[115, 108, 111, 116]⟩, x.n] ++ ((numsP x).take (i + 1)).map itoaS)) := O4
            clear O4 K4 G4 O3 A3 C3 HTX hcp hcn hO hne hNN hK hgw
            go_wp2_with (at_builtin; refine wpList_append_run2 rfl _ _ 33 33 rfl _ _ _ w4 rfl rfl r4 ?_)
            go_roundw
            case rel => exact ⟨i + 1, g4, c4, by omega, by go_num, rfl, HREL.out.1, HO4, HREL.out.2.1, HREL.out.2.2.1, HREL.out.2.2.2⟩
            case measure => simp [intOf]; omega
          · obtain rfl : i = 6 := by omega
            have hwd : Hid (([⟨#[115, 108, 111, 116]⟩, x.n] ++ ((numsP x).take 6).map itoaS) ++ x.h = wordsP x) := rfl
            have hcs : wi.cell? ⟨wo.heap.size, 1, none⟩ = some (.slice ha xl hc) := ring_cell (HNB3.out wi hK.out) rfl
            have hsK := hK.out.size
            have hs4 : (wo.alloc (.cells #[.string x.n, .slice ha xl hc, .int .i64 x.q, .int .i64 x.c, .int .i64 x.p, .int .i64 x.r, .int .i64 x.b, .int .i64 x.u] 35)).heap.size = wo.heap.size + 1 := by simp
            have hxl := HXL.out
            have DT := HDT.out.keep ((HWB.out wi hK.out).mono hB.size)
            have hwl2 := hwl.out.1
            have hwl3 : (wordsP x).length = 8 + xl := by
              rw [← hwd.out, List.length_append, hxl]; rfl
            obtain ⟨v7, w7, r7, O7, B7⟩ := ownT_append (hO.out) DT (by rw [hxl]; show 8 + xl ≤ _; omega) (by omega)
            rw [hwd.out] at O7
            obtain ⟨a7, c7, e7, hn7, q71, q72, q73⟩ := O7.txs
            subst e7
            obtain ⟨g7, o7, rfl, hg7, hc7⟩ := q73 (by omega)
            have C7 : Below wo.heap.size wo w7 := (HWB.out wi hK.out).trans (B7.mono (by omega))
            have HJ : Hid (Calls Tryz.prog 47 #[.slice (some ⟨g7, o7, none⟩) (wordsP x).length c7, .string ⟨#[32]⟩] w7 fun e w' => e = .returned (.string ⟨(Lib.join ((wordsP x).map (·.data.toList)) [32]).toArray⟩) ∧ Below w7.heap.size w7 w') :=
              Tryz.strings_Join g7 o7 c7 (wordsP x) ⟨#[32]⟩ w7 (fun j y hj => by
                obtain ⟨hjl, rfl⟩ := List.getElem?_eq_some_iff.1 hj
                exact hc7 j hjl) hg7 (by omega) q71 (by
                have q3 : (lineP x).length = (Lib.join ((wordsP x).map (·.data.toList)) [32]).length + 1 := by unfold lineP; rw [List.length_append]; rfl
                have := hwl.out.2.1
                show (Lib.join _ [32]).length ≤ _
                omega)
            have hcat : ∀ W : World, (Op.stringOp .add (⟨(Lib.join ((wordsP x).map (·.data.toList)) [32]).toArray⟩ : ByteArray) ⟨#[10]⟩).run Tryz.prog W = .ok (.string ⟨(lineP x).toArray⟩) W := fun W => by
              have q := sum_run W ⟨(Lib.join ((wordsP x).map (·.data.toList)) [32]).toArray⟩ ⟨#[10]⟩ (by
                have q3 : (lineP x).length = (Lib.join ((wordsP x).map (·.data.toList)) [32]).length + 1 := by unfold lineP; rw [List.length_append]; rfl
                have := hwl.out.2.1
                show (Lib.join _ [32]).toArray.size + 1 ≤ _
                rw [List.size_toArray]
                omega)
              rw [cat_data] at q
              exact q
            have HBW : Hid (∀ W, Below wo.heap.size wo W → Calls Tryz.prog 46 #[.pointer (some ⟨w.heap.size, 0, none⟩), .string ⟨(lineP x).toArray⟩] W fun e w' => ∃ z, e = .returned (.tuple #[.int .i64 z, .nilIface]) ∧ Hid (Bld w.heap.size w' w.heap.size (tellP (ts.take (k + 1)))) ∧ Below w.heap.size w w') := fun W hW => by
              refine (bwrite_any w.heap.size w.heap.size (tellP (ts.take k)) ⟨(lineP x).toArray⟩ W (hD.out.keep hW) (by have := hwl.out.2.2; show _ + (lineP x).toArray.size ≤ _; rw [List.size_toArray]; omega) (Nat.le_trans hB.size hW.size)).mono ?_
              rintro e w' ⟨rfl, b1, b2⟩
              refine ⟨_, rfl, ?_, (hB.trans (hW.mono hB.size)).trans b2⟩
              rw [hsn.out]
              exact b1
            have r7' : (Builtin.append_ #[33, 33] 33 #[.slice (some ⟨gw, 0, none⟩) (2 + 6) cw, .slice ha xl hc]).run Tryz.prog wi = .ok (.slice (some ⟨g7, o7, none⟩) (wordsP x).length c7) w7 := r7
            clear hxl hsK hs4 r7 O7 B7 hc7 q71 q72 q73 hn7 DT hO hne hNN hK hgw hwl hwl2 hD hsn hwd HNB3 HWB hwl3
            generalize (lineP x) = ln at *
            generalize (Lib.join ((wordsP x).map (·.data.toList)) [32]) = jn at *
            generalize (wordsP x).length = wn at *
            go_wp2_with (at_builtin; refine wpList_append_run2 rfl _ _ 33 33 rfl _ _ _ w7 rfl rfl r7' ?_)
            refine HJ.out.mono ?_
            rintro e w8 ⟨rfl, B8⟩
            have C8 := C7.trans (B8.mono C7.size)
            go_wp2_with fail
            refine (HBW.out _ C8).mono ?_
            rintro e w9 ⟨z, rfl, hD9, B9⟩
            go_wp2
            go_roundw
            case rel => exact ⟨k + 1, by omega, by go_num, hD9, B9⟩
            case measure => simp [intOf]; omega
      · have hk' : k = ts.length := by omega
        have HS : Hid (Calls Tryz.prog 48 #[.pointer (some ⟨w.heap.size, 0, none⟩)] wo fun e w' => e = .returned (.string ⟨(tellP ts).toArray⟩) ∧ Below w.heap.size w w') := by
          have q := HST.out wo _ hD.out hB
          rw [hk', List.take_length] at q
          exact q
        clear hD hk' HST
        go_wp2_with fail
        refine HS.out.mono ?_
        rintro e w1 ⟨rfl, B1⟩
        go_wp2
        go_ret
        exact ⟨rfl, B1⟩
end Go.Proofs.YthmhaflkkigenaaGreatDoor

/- The words of a line, byte by byte. -/
namespace Go.Proofs.YthmhaflkkigenaaGreatDoor
open Go.RowKit
set_option linter.unusedVariables false

theorem bytes_eqW {a b : ByteArray} (h : a.data.toList = b.data.toList) : a = b := by
  cases a; cases b; congr 1; exact Array.toList_inj.1 h
def piecew (s : ByteArray) : List ByteArray := Lib.splitB ⟨#[32]⟩ 0 (Lib.countB s ⟨#[32]⟩) s
def cutw : List UInt8 → List UInt8 → List (List UInt8)
  | acc, [] => [acc]
  | acc, b :: l => if b = 32 then acc :: cutw [] l else cutw (acc ++ [b]) l
theorem cutw_miss : ∀ (l acc : List UInt8), Lib.index l [32] = -1 → cutw acc l = [acc ++ l]
  | [], acc, _ => by simp [cutw]
  | b :: l, acc, h => by
    rw [Lib.index] at h
    by_cases hb : b = 32
    · subst hb; simp [List.isPrefixOf] at h
    · have hp : ([32] : List UInt8).isPrefixOf (b :: l) = false := by simp [List.isPrefixOf, Ne.symm hb]
      rw [hp] at h
      have hge := Lib.index_ge l [32]
      have hm : Lib.index l [32] = -1 := by
        by_cases e : Lib.index l [32] = -1
        · exact e
        · rw [if_neg (by decide), if_neg (fun q => e (beq_iff_eq.1 q))] at h; omega
      rw [cutw, if_neg hb, cutw_miss l _ hm]; simp
theorem cutw_hit : ∀ (l acc : List UInt8) (i : Nat), Lib.index l [32] = i → cutw acc l = (acc ++ l.take i) :: cutw [] (l.drop (i + 1))
  | [], acc, i, h => by simp [Lib.index] at h
  | b :: l, acc, i, h => by
    rw [Lib.index] at h
    by_cases hb : b = 32
    · subst hb
      have : i = 0 := by simp [List.isPrefixOf] at h; omega
      subst this
      simp [cutw]
    · have hp : ([32] : List UInt8).isPrefixOf (b :: l) = false := by simp [List.isPrefixOf, Ne.symm hb]
      rw [hp, if_neg (by decide)] at h
      have hge := Lib.index_ge l [32]
      by_cases e : Lib.index l [32] = -1
      · rw [if_pos (beq_iff_eq.2 e)] at h; omega
      · rw [if_neg (fun q => e (beq_iff_eq.1 q))] at h
        obtain ⟨j, rfl⟩ : ∃ j, i = j + 1 := ⟨i - 1, by omega⟩
        rw [cutw, if_neg hb, cutw_hit l _ j (by omega)]
        simp
theorem split_cutw : ∀ (k : Nat) (s : ByteArray), Lib.countB s ⟨#[32]⟩ = k → (Lib.splitB ⟨#[32]⟩ 0 k s).map (·.data.toList) = cutw [] s.data.toList
  | 0, s, hk => by
    rcases Lib.indexB_cases s ⟨#[32]⟩ with hix | ⟨i, hix, _⟩
    · rw [cutw_miss _ _ hix]; rfl
    · have := Lib.countB_hit s ⟨#[32]⟩ i (by decide) hix; omega
  | k + 1, s, hk => by
    rcases Lib.indexB_cases s ⟨#[32]⟩ with hix | ⟨i, hix, _⟩
    · rw [Lib.countB_miss s _ hix] at hk; omega
    · rw [Lib.splitB_hit _ 0 k s i hix, List.map_cons, split_cutw k _ (by have := Lib.countB_hit s ⟨#[32]⟩ i (by decide) hix; omega), cutw_hit _ _ i hix, Lib.extract_from_zero, Lib.extract_to_end]
      rfl
theorem piecew_cuts (s : ByteArray) : (piecew s).map (·.data.toList) = cutw [] s.data.toList := split_cutw _ s rfl
theorem piecew_length (s : ByteArray) : (piecew s).length = Lib.countB s ⟨#[32]⟩ + 1 := Lib.splitB_all ⟨#[32]⟩ (by decide) 0 _ s rfl
theorem cutw_len : ∀ (l acc : List UInt8), ∀ p ∈ cutw acc l, p.length ≤ acc.length + l.length
  | [], acc, p, h => by
    rw [cutw, List.mem_singleton] at h
    rw [h]; simp
  | b :: l, acc, p, h => by
    rw [cutw] at h
    split at h
    · cases h with
      | head => simp
      | tail _ h => have := cutw_len l [] p h; simp at this ⊢; omega
    · have := cutw_len l (acc ++ [b]) p h
      simp at this ⊢; omega
theorem piecew_size (s : ByteArray) : ∀ p ∈ piecew s, p.size ≤ s.size := by
  intro p hp
  have h : p.data.toList ∈ cutw [] s.data.toList := by rw [← piecew_cuts]; exact List.mem_map.2 ⟨p, hp, rfl⟩
  have k := cutw_len _ _ _ h
  have k2 : p.size = p.data.toList.length := rfl
  have k3 : s.size = s.data.toList.length := rfl
  simp at k k2 k3
  omega
theorem map_data_injW {a b : List ByteArray} (h : a.map (·.data.toList) = b.map (·.data.toList)) : a = b := by
  induction a generalizing b with
  | nil => cases b with
    | nil => rfl
    | cons _ _ => cases h
  | cons x a ih => cases b with
    | nil => cases h
    | cons y b =>
      rw [List.map_cons, List.map_cons] at h
      injection h with h1 h2
      rw [bytes_eqW h1, ih h2]

/-- How far the reference has come: the parts that it has cut, where the next begins, and where it stands. -/
def ScanW (s : ByteArray) (ps : List ByteArray) (f k : Nat) : Prop := f ≤ k ∧ k ≤ s.size ∧ ps.map (·.data.toList) ++ cutw ((s.data.toList.take k).drop f) (s.data.toList.drop k) = cutw [] s.data.toList
theorem ScanW.start (s : ByteArray) : ScanW s [] 0 0 := ⟨Nat.le_refl _, Nat.zero_le _, by simp⟩
theorem ScanW.go {s : ByteArray} {ps : List ByteArray} {f k : Nat} (h : ScanW s ps f k) (hk : k < s.size) (hb : s[k] ≠ 32) : ScanW s ps f (k + 1) := by
  obtain ⟨h1, _, h3⟩ := h
  have hk' : k < s.data.toList.length := hk
  refine ⟨by omega, hk, ?_⟩
  rw [List.drop_eq_getElem_cons hk', cutw, if_neg (show s.data.toList[k] ≠ 32 from hb)] at h3
  rw [← h3, List.take_succ_eq_append_getElem hk', List.drop_append_of_le_length (by rw [List.length_take]; omega)]
theorem ScanW.cut {s : ByteArray} {ps : List ByteArray} {f k : Nat} (h : ScanW s ps f k) (hk : k < s.size) (hb : s[k] = 32) : ScanW s (ps ++ [s.extract f k]) (k + 1) (k + 1) := by
  obtain ⟨h1, _, h3⟩ := h
  have hk' : k < s.data.toList.length := hk
  refine ⟨Nat.le_refl _, hk, ?_⟩
  rw [List.drop_eq_getElem_cons hk', cutw, if_pos (show s.data.toList[k] = 32 from hb)] at h3
  have hd : List.drop (k + 1) (List.take (k + 1) s.data.toList) = [] := List.drop_eq_nil_of_le (by rw [List.length_take]; omega)
  rw [← h3, hd, List.map_append, List.map_cons, List.map_nil, Lib.extract_data, ← List.drop_take, List.append_assoc, List.singleton_append]
theorem ScanW.fin {s : ByteArray} {ps : List ByteArray} {f : Nat} (h : ScanW s ps f s.size) : ps ++ [s.extract f s.size] = piecew s := by
  obtain ⟨h1, _, h3⟩ := h
  have hd : List.drop s.size s.data.toList = [] := List.drop_eq_nil_of_le (Nat.le_refl _)
  rw [hd, cutw] at h3
  refine map_data_injW ?_
  rw [piecew_cuts, ← h3, List.map_append, List.map_cons, List.map_nil, Lib.extract_data, List.drop_take]
end Go.Proofs.YthmhaflkkigenaaGreatDoor

/- slotOf: the slot of a line. -/
namespace Go.Proofs.YthmhaflkkigenaaGreatDoor
open Go.ChangeShapes Go.WideShapes Go.ChangeAt Go.RowKit
set_option linter.unusedVariables false

theorem splitW_any (s : ByteArray) (w : World) (hs : s.size < 4294967281) (hM : MaxL w) :
    Calls Tryz.prog 53 #[.string s, .string ⟨#[32]⟩] w fun e w' => e = .returned (.slice (some ⟨w.heap.size, 0, none⟩) (piecew s).length (piecew s).length) ∧ w' = w.alloc (.cells ((piecew s).map Value.string).toArray 9) := by
  obtain ⟨m, hm⟩ := hM
  have k := Tryz.strings_Split s ⟨#[32]⟩ m w hs hm (by decide)
  rw [← piecew_length s] at k
  exact k
theorem row_cell {w : World} {g : Nat} {xs : List ByteArray} (h : w.heap[g]? = some (.cells (xs.map Value.string).toArray 9)) (j : Nat) (hj : j < xs.length) : w.cell? ⟨g, j, none⟩ = some (.string xs[j]) := by
  refine ring_cell h ?_
  rw [List.getElem?_toArray, List.getElem?_map, List.getElem?_eq_getElem hj]; rfl
theorem row_txs {w : World} {g : Nat} {xs : List ByteArray} (h : w.heap[g]? = some (.cells (xs.map Value.string).toArray 9)) (hm : xs.length ≤ maxLen) (n : Nat) (hn : n ≤ xs.length) (a : Option Addr) (ha : n < xs.length → a = some ⟨g, n, none⟩) (hnil : a = none → xs.length - n = 0) : Txs w.heap.size w (.slice a (xs.length - n) (xs.length - n)) (xs.drop n) := by
  refine ⟨a, xs.length - n, by rw [List.length_drop], hnil, by rw [List.length_drop]; exact Nat.le_refl _, by omega, fun hp => ?_⟩
  rw [List.length_drop] at hp
  refine ⟨g, n, ha (by omega), heap_lt h, fun j hj => ?_⟩
  rw [List.length_drop] at hj
  rw [row_cell h (n + j) (by omega), List.getElem_drop]
/-- The cells of a slot whose numbers are L. -/
def slotC (n : ByteArray) (v : Value) (L : List Int) : Array Value := ([.string n, v] ++ L.map (Value.int .i64)).toArray
theorem slotC_set (n : ByteArray) (v : Value) (L : List Int) (i : Nat) (z : Int) : (slotC n v L).setIfInBounds (2 + i) (.int .i64 z) = slotC n v (L.set i z) := by
  unfold slotC
  rw [List.setIfInBounds_toArray, List.set_append_right _ _ (by simp), show 2 + i - [Value.string n, v].length = i by simp, List.map_set]
def zeros : List Int := [0, 0, 0, 0, 0, 0]
/-- What the numbers are behind i of them. -/
def upto (ds : List Int) (i : Nat) : List Int := ds.take i ++ List.replicate (6 - i) 0
theorem upto_set (ds : List Int) (i : Nat) (z : Int) (hd : ds.length = 6) (hi : i < 6) (hz : ds[i]? = some z) : (upto ds i).set i z = upto ds (i + 1) := by
  unfold upto
  obtain ⟨hl0, rfl⟩ := List.getElem?_eq_some_iff.1 hz
  have hl : (ds.take i).length = i := by rw [List.length_take]; omega
  rw [List.set_append_right _ _ (by omega), hl, Nat.sub_self, show 6 - i = (6 - (i + 1)) + 1 by omega, List.replicate_succ, List.set_cons_zero, List.take_succ_eq_append_getElem hl0, List.append_assoc]
  rfl
theorem kp_setT {T : Nat → Prop} (w : World) (b o : Nat) (v : Value) (hb : T b) : Kp T w (w.setCell ⟨b, o, none⟩ v) :=
  ⟨rfl, rfl, rfl, by simp [World.setCell], fun k hk hn => Below.heap_setCell _ _ _ _ (fun e => hn (e ▸ hb))⟩
/-- The numbers that words 2 to 7 are. -/
def decsP (ws : List ByteArray) : List Int := ((ws.drop 2).take 6).map (numI 10 18)
def okB (ws : List ByteArray) : Bool := ((ws.drop 2).take 6).all (numB 10 18)
def slotL : List UInt8 := [115, 108, 111, 116]
def formB (ws : List ByteArray) : Bool := (match ws with | [] => false | x :: _ => x.toList == slotL) && decide (8 ≤ ws.length) && okB ws
/-- The slot of a line's words. -/
def slotP (ws : List ByteArray) : SlotP := ⟨ws.getD 1 ⟨#[]⟩, ws.drop 8, (decsP ws).getD 0 0, (decsP ws).getD 1 0, (decsP ws).getD 2 0, (decsP ws).getD 3 0, (decsP ws).getD 4 0, (decsP ws).getD 5 0⟩
/-- What slotOf answers. -/
def SlotR (w : World) (ws : List ByteArray) (e : Ending) (w' : World) : Prop :=
  if formB ws = true then ∃ ha hc, e = .returned (.tuple #[.agg #[.string (slotP ws).n, .slice ha (slotP ws).h.length hc, .int .i64 (slotP ws).q, .int .i64 (slotP ws).c, .int .i64 (slotP ws).p, .int .i64 (slotP ws).r, .int .i64 (slotP ws).b, .int .i64 (slotP ws).u], .bool true]) ∧ Txs w'.heap.size w' (.slice ha (slotP ws).h.length hc) (slotP ws).h ∧ (∀ q, ha = some q → w.heap.size ≤ q.block ∧ q.block < w'.heap.size) ∧ Below w.heap.size w w'
  else e = .returned (.tuple #[.agg #[.string ⟨#[]⟩, .slice none 0 0, .int .i64 0, .int .i64 0, .int .i64 0, .int .i64 0, .int .i64 0, .int .i64 0], .bool false]) ∧ Below w.heap.size w w'
theorem slotNo {w w' : World} {ws : List ByteArray} (h : formB ws = false) (B : Below w.heap.size w w') : SlotR w ws (.returned (.tuple #[.agg #[.string ⟨#[]⟩, .slice none 0 0, .int .i64 0, .int .i64 0, .int .i64 0, .int .i64 0, .int .i64 0, .int .i64 0], .bool false])) w' := by
  unfold SlotR
  rw [if_neg (by rw [h]; decide)]
  exact ⟨rfl, B⟩
theorem set8_below {B b : Nat} {w W : World} (h : Below B w W) (hb : B ≤ b) (y0 y1 y2 y3 y4 y5 y6 y7 : Value) : Below B w ((((((((W.setCell ⟨b, 0, none⟩ y0).setCell ⟨b, 1, none⟩ y1).setCell ⟨b, 2, none⟩ y2).setCell ⟨b, 3, none⟩ y3).setCell ⟨b, 4, none⟩ y4).setCell ⟨b, 5, none⟩ y5).setCell ⟨b, 6, none⟩ y6).setCell ⟨b, 7, none⟩ y7) :=
  ((((((((h.setCell (p := ⟨b, 0, none⟩) hb y0).setCell (p := ⟨b, 1, none⟩) hb y1).setCell (p := ⟨b, 2, none⟩) hb y2).setCell (p := ⟨b, 3, none⟩) hb y3).setCell (p := ⟨b, 4, none⟩) hb y4).setCell (p := ⟨b, 5, none⟩) hb y5).setCell (p := ⟨b, 6, none⟩) hb y6).setCell (p := ⟨b, 7, none⟩) hb y7)
theorem form_cons (ws : List ByteArray) (h0 : 0 < ws.length) (hw : (ws[0].toList == slotL) = true) : formB ws = (decide (8 ≤ ws.length) && okB ws) := by
  cases ws with
  | nil => exact absurd h0 (by decide)
  | cons x l =>
    have hw' : (x.toList == slotL) = true := hw
    show ((x.toList == slotL) && _ && _) = _
    rw [hw', Bool.true_and]
theorem decs_at (ws : List ByteArray) (h8 : 8 ≤ ws.length) (i : Nat) (hi : i < 6) : (decsP ws)[i]? = some (numI 10 18 (ws[2 + i]'(by omega))) := by
  unfold decsP
  rw [List.getElem?_map, List.getElem?_take_of_lt hi, List.getElem?_drop, List.getElem?_eq_getElem (by omega)]; rfl
theorem decs_len (ws : List ByteArray) (h8 : 8 ≤ ws.length) : (decsP ws).length = 6 := by unfold decsP; rw [List.length_map, List.length_take, List.length_drop]; omega
theorem all_snoc (ws : List ByteArray) (h8 : 8 ≤ ws.length) (i : Nat) (hi : i < 6) : ((ws.drop 2).take (i + 1)).all (numB 10 18) = (((ws.drop 2).take i).all (numB 10 18) && numB 10 18 (ws[2 + i]'(by omega))) := by
  rw [List.take_succ_eq_append_getElem (by rw [List.length_drop]; omega), List.all_append, List.getElem_drop]
  simp
theorem all_no (ws : List ByteArray) (h8 : 8 ≤ ws.length) (i : Nat) (hi : i < 6) (h : numB 10 18 (ws[2 + i]'(by omega)) = false) : okB ws = false := by
  unfold okB
  rw [List.all_eq_false]
  refine ⟨ws[2 + i]'(by omega), ?_, by rw [h]; decide⟩
  have hl : i < ((ws.drop 2).take 6).length := by rw [List.length_take, List.length_drop]; omega
  have e : ((ws.drop 2).take 6)[i] = ws[2 + i]'(by omega) := by rw [List.getElem_take, List.getElem_drop]
  rw [← e]
  exact List.getElem_mem hl
theorem slotYes {w w' : World} {ws : List ByteArray} (h : formB ws = true) (h8 : 8 ≤ ws.length) {z0 z1 z2 z3 z4 z5 : Int} (hd : decsP ws = [z0, z1, z2, z3, z4, z5]) {ha : Option Addr} {hc : Nat} (ht : Txs w'.heap.size w' (.slice ha (ws.length - 8) hc) (ws.drop 8)) (hq : ∀ q, ha = some q → w.heap.size ≤ q.block ∧ q.block < w'.heap.size) (B : Below w.heap.size w w') :
    SlotR w ws (.returned (.tuple #[.agg #[.string (ws[1]'(by omega)), .slice ha (ws.length - 8) hc, .int .i64 z0, .int .i64 z1, .int .i64 z2, .int .i64 z3, .int .i64 z4, .int .i64 z5], .bool true])) w' := by
  unfold SlotR
  rw [if_pos h]
  have e1 : (slotP ws).n = ws[1]'(by omega) := by
    show ws.getD 1 _ = _
    rw [List.getD_eq_getElem?_getD, List.getElem?_eq_getElem (by omega)]; rfl
  have e2 : (slotP ws).h.length = ws.length - 8 := List.length_drop
  refine ⟨ha, hc, ?_, ?_, hq, B⟩
  · rw [e1, e2]
    unfold slotP
    rw [hd]
    rfl
  · rw [e2]; exact ht
theorem kp_belowT {b B : Nat} {u v : World} (h : Kp (fun k => k = b) u v) (hb : B ≤ b) (hB : B ≤ u.heap.size) : Below B u v := h.below hB (fun k hk c => by subst c; omega)
set_option maxRecDepth 100000 in
set_option maxHeartbeats 4000000 in
theorem slotof_any (s : ByteArray) (w : World) (hs : s.size ≤ 1048576) (hM : MaxL w) :
    Calls Tryz.prog 38 #[.string s] w (SlotR w (piecew s)) := by
  have hsz := piecew_size s
  have hwl := piecew_length s
  have HSP : Hid (∀ W, Below w.heap.size w W → Calls Tryz.prog 53 #[.string s, .string ⟨#[32]⟩] W fun e w' => e = .returned (.slice (some ⟨W.heap.size, 0, none⟩) (piecew s).length (piecew s).length) ∧ w' = W.alloc (.cells ((piecew s).map Value.string).toArray 9)) := fun W hW => splitW_any s W (by omega) (hM.below hW)
  have hcb : Lib.countB s ⟨#[32]⟩ ≤ s.size := Lib.countB_le ⟨#[32]⟩ (by decide) s.size s (Nat.le_refl _)
  have hw0 : 0 < (piecew s).length := by omega
  have hw1 : (piecew s).length ≤ 1048577 := by omega
  have HSZ : Hid (∀ p ∈ piecew s, p.size ≤ s.size) := hsz
  clear hM hwl hcb hsz
  generalize piecew s = ws at *
  have D2 : Below w.heap.size w ((w.alloc (.cells #[.string ⟨#[]⟩, .slice none 0 0, .int .i64 0, .int .i64 0, .int .i64 0, .int .i64 0, .int .i64 0, .int .i64 0] 35)).alloc (.cells #[.string ⟨#[]⟩, .slice none 0 0, .int .i64 0, .int .i64 0, .int .i64 0, .int .i64 0, .int .i64 0, .int .i64 0] 35)) := ((Below.refl _ _).alloc (Nat.le_refl _) _).alloc (by simp) _
  have hs2 : ((w.alloc (.cells #[.string ⟨#[]⟩, .slice none 0 0, .int .i64 0, .int .i64 0, .int .i64 0, .int .i64 0, .int .i64 0, .int .i64 0] 35)).alloc (.cells #[.string ⟨#[]⟩, .slice none 0 0, .int .i64 0, .int .i64 0, .int .i64 0, .int .i64 0, .int .i64 0, .int .i64 0] 35)).heap.size = w.heap.size + 2 := by simp
  have HSP2 : Hid (Calls Tryz.prog 53 #[.string s, .string ⟨#[32]⟩] ((w.alloc (.cells #[.string ⟨#[]⟩, .slice none 0 0, .int .i64 0, .int .i64 0, .int .i64 0, .int .i64 0, .int .i64 0, .int .i64 0] 35)).alloc (.cells #[.string ⟨#[]⟩, .slice none 0 0, .int .i64 0, .int .i64 0, .int .i64 0, .int .i64 0, .int .i64 0, .int .i64 0] 35)) fun e w' => e = .returned (.slice (some ⟨w.heap.size + 2, 0, none⟩) ws.length ws.length) ∧ Hid (w' = ((w.alloc (.cells #[.string ⟨#[]⟩, .slice none 0 0, .int .i64 0, .int .i64 0, .int .i64 0, .int .i64 0, .int .i64 0, .int .i64 0] 35)).alloc (.cells #[.string ⟨#[]⟩, .slice none 0 0, .int .i64 0, .int .i64 0, .int .i64 0, .int .i64 0, .int .i64 0, .int .i64 0] 35)).alloc (.cells (ws.map Value.string).toArray 9))) := by
    have k := HSP.out _ D2
    rw [hs2] at k
    exact k
  clear HSP
  go_enter Tryz.func38, Tryz.ntmps38
  go_wp2_with fail
  refine HSP2.out.mono ?_
  rintro e w2 ⟨rfl, hw2⟩
  have NR : w2.heap[w.heap.size + 2]? = some (.cells (ws.map Value.string).toArray 9) := by
    rw [hw2.out]
    have k := new_at ((w.alloc (.cells #[.string ⟨#[]⟩, .slice none 0 0, .int .i64 0, .int .i64 0, .int .i64 0, .int .i64 0, .int .i64 0, .int .i64 0] 35)).alloc (.cells #[.string ⟨#[]⟩, .slice none 0 0, .int .i64 0, .int .i64 0, .int .i64 0, .int .i64 0, .int .i64 0, .int .i64 0] 35)) (.cells (ws.map Value.string).toArray 9)
    rw [hs2] at k
    exact k
  have N0 : w2.heap[w.heap.size]? = some (.cells #[.string ⟨#[]⟩, .slice none 0 0, .int .i64 0, .int .i64 0, .int .i64 0, .int .i64 0, .int .i64 0, .int .i64 0] 35) := by
    rw [hw2.out, Below.heap_alloc _ _ _ (by omega), Below.heap_alloc _ _ _ (by simp)]
    exact new_at _ _
  have N1 : w2.heap[w.heap.size + 1]? = some (.cells #[.string ⟨#[]⟩, .slice none 0 0, .int .i64 0, .int .i64 0, .int .i64 0, .int .i64 0, .int .i64 0, .int .i64 0] 35) := by
    rw [hw2.out, Below.heap_alloc _ _ _ (by omega)]
    have k := new_at (w.alloc (.cells #[.string ⟨#[]⟩, .slice none 0 0, .int .i64 0, .int .i64 0, .int .i64 0, .int .i64 0, .int .i64 0, .int .i64 0] 35)) (.cells #[.string ⟨#[]⟩, .slice none 0 0, .int .i64 0, .int .i64 0, .int .i64 0, .int .i64 0, .int .i64 0, .int .i64 0] 35)
    rw [show (w.alloc (.cells #[.string ⟨#[]⟩, .slice none 0 0, .int .i64 0, .int .i64 0, .int .i64 0, .int .i64 0, .int .i64 0, .int .i64 0] 35)).heap.size = w.heap.size + 1 by simp] at k
    exact k
  have hs3 : w2.heap.size = w.heap.size + 3 := by rw [hw2.out]; simp
  have C2 : Below w.heap.size w w2 := by rw [hw2.out]; exact D2.alloc (by omega) _
  have HNU : Hid (Calls Tryz.prog 44 #[.pointer (some ⟨w.heap.size + 1, 0, none⟩)] w2 fun e w' => ∃ g, e = .returned (.slice (some ⟨g, 0, none⟩) 6 6) ∧ w2.heap.size ≤ g ∧ w'.heap[g]? = some (.cells (numCells (w.heap.size + 1)) 75) ∧ Below w2.heap.size w2 w') := numbers_any _ w2
  have HS3 : Hid (w2.heap.size = w.heap.size + 3) := hs3
  clear hw2 HSP2 D2 hs3 hs2
  go_wp2_with fail
  refine HNU.out.mono ?_
  rintro e w3 ⟨gn, rfl, hgn, NN, B3⟩
  have hs3 := HS3.out
  have NR3 := (B3.block _ (by omega)).trans NR
  have aB := (B3.block _ (by omega)).trans N0
  have bB := (B3.block _ (by omega)).trans N1
  have C3 := C2.trans (B3.mono (by omega))
  have hs4 := B3.size
  have hgn3 := heap_lt NN
  have hgn2 : w.heap.size + 3 ≤ gn := by omega
  have hs5 : w.heap.size + 3 ≤ w3.heap.size := by omega
  clear HNU NR N0 N1 B3 C2 hs3 hs4 hgn HS3
  have r0 := row_cell NR3 0 hw0
  have a0 : w3.cell? ⟨w.heap.size, 0, none⟩ = some (.string ⟨#[]⟩) := ring_cell aB rfl
  have a1 : w3.cell? ⟨w.heap.size, 1, none⟩ = some (.slice none 0 0) := ring_cell aB rfl
  have a2 : w3.cell? ⟨w.heap.size, 2, none⟩ = some (.int .i64 0) := ring_cell aB rfl
  have a3 : w3.cell? ⟨w.heap.size, 3, none⟩ = some (.int .i64 0) := ring_cell aB rfl
  have a4 : w3.cell? ⟨w.heap.size, 4, none⟩ = some (.int .i64 0) := ring_cell aB rfl
  have a5 : w3.cell? ⟨w.heap.size, 5, none⟩ = some (.int .i64 0) := ring_cell aB rfl
  have a6 : w3.cell? ⟨w.heap.size, 6, none⟩ = some (.int .i64 0) := ring_cell aB rfl
  have a7 : w3.cell? ⟨w.heap.size, 7, none⟩ = some (.int .i64 0) := ring_cell aB rfl
  have y0 : w3.frozen? ⟨w.heap.size, 0, none⟩ = false := ring_z aB
  have y1 : w3.frozen? ⟨w.heap.size, 1, none⟩ = false := ring_z aB
  have y2 : w3.frozen? ⟨w.heap.size, 2, none⟩ = false := ring_z aB
  have y3 : w3.frozen? ⟨w.heap.size, 3, none⟩ = false := ring_z aB
  have y4 : w3.frozen? ⟨w.heap.size, 4, none⟩ = false := ring_z aB
  have y5 : w3.frozen? ⟨w.heap.size, 5, none⟩ = false := ring_z aB
  have y6 : w3.frozen? ⟨w.heap.size, 6, none⟩ = false := ring_z aB
  have y7 : w3.frozen? ⟨w.heap.size, 7, none⟩ = false := ring_z aB
  cases hw : (ws[0].toList == slotL)
  · have HNO : Hid (formB ws = false) := by
      rw [Hid]
      unfold formB
      cases ws with
      | nil => exact absurd hw0 (by decide)
      | cons x l =>
        have hw' : (x.toList == slotL) = false := hw
        show ((x.toList == slotL) && _ && _) = false
        rw [hw']; rfl
    have hwr : (ws[0].toList == [115, 108, 111, 116]) = false := hw
    have hwq : ¬ ws[0].toList = [115, 108, 111, 116] := by simpa using hwr
    generalize ws[0] = x0 at *
    clear hw
    go_wp2
    refine bodyPost_ret (v := .tuple #[.agg #[.string ⟨#[]⟩, .slice none 0 0, .int .i64 0, .int .i64 0, .int .i64 0, .int .i64 0, .int .i64 0, .int .i64 0], .bool false]) (by simp [results, Tryz.results38, go_sem, *]) rfl (slotNo HNO.out ?_)
    exact set8_below C3 (Nat.le_refl _) _ _ _ _ _ _ _ _
  · have hfm := form_cons ws hw0 hw
    have hwr : (ws[0].toList == [115, 108, 111, 116]) = true := hw
    have hwq : ws[0].toList = [115, 108, 111, 116] := by simpa using hwr
    have hwb : (ws[0].toList != [115, 108, 111, 116]) = false := by rw [bne, hwr]; rfl
    clear hw
    by_cases h8 : 8 ≤ ws.length
    · rw [decide_eq_true h8, Bool.true_and] at hfm
      have HFM : Hid (formB ws = okB ws) := hfm
      clear hfm
      have h8I : (8 : Int) ≤ (ws.length : Int) := by omega
      have h8d : decide ((ws.length : Int) < 8) = false := decide_eq_false (by omega)
      have r1 := row_cell NR3 1 (by omega)
      have bc0 : w3.cell? ⟨w.heap.size + 1, 0, none⟩ = some (.string ⟨#[]⟩) := ring_cell bB rfl
      have bz0 : w3.frozen? ⟨w.heap.size + 1, 0, none⟩ = false := ring_z bB
      have S4 : Hid ((w3.setCell ⟨w.heap.size + 1, 0, none⟩ (.string ws[1])).heap[w.heap.size + 1]? = some (.cells (slotC ws[1] (.slice none 0 0) (upto (decsP ws) 0)) 35)) := by
        rw [Hid, ring_set bB]; unfold upto; rw [List.take_zero]; rfl
      have K4 : Hid (Kp (fun k => k = w.heap.size + 1) w3 (w3.setCell ⟨w.heap.size + 1, 0, none⟩ (.string ws[1]))) := kp_setT _ _ 0 _ rfl
      have HNR : Hid (w3.heap[w.heap.size + 2]? = some (.cells (ws.map Value.string).toArray 9)) := NR3
      have HNN : Hid (w3.heap[gn]? = some (.cells (numCells (w.heap.size + 1)) 75)) := NN
      have HAB : Hid (w3.heap[w.heap.size]? = some (.cells #[.string ⟨#[]⟩, .slice none 0 0, .int .i64 0, .int .i64 0, .int .i64 0, .int .i64 0, .int .i64 0, .int .i64 0] 35)) := aB
      have HC3 : Hid (Below w.heap.size w w3) := C3
      have HX1 : Hid (ws[1] = ws[1]) := rfl
      have hx0 : ∃ x0, x0 = ws[0] := ⟨_, rfl⟩
      obtain ⟨x1, hx1⟩ : ∃ x1, x1 = ws[1] := ⟨_, rfl⟩
      rw [← hx1] at r1 S4 K4
      have HXE : Hid (ws[1]? = some x1) := by rw [Hid, hx1, List.getElem?_eq_getElem]
      generalize ws[0] = x0 at *
      clear hx1 hx0 HX1 NR3 aB bB NN C3
      go_wp2_with fail
      clear a0 a1 a2 a3 a4 a5 a6 a7 y0 y1 y2 y3 y4 y5 y6 y7 r0 r1 bc0 bz0 hwr hwq hwb
      go_loopw [33] (fun vi wx => ∃ i : Nat, i ≤ 6 ∧ vi = .int .i64 i ∧ Hid (((ws.drop 2).take i).all (numB 10 18) = true) ∧ Hid (wx.heap[w.heap.size + 1]? = some (.cells (slotC x1 (.slice none 0 0) (upto (decsP ws) i)) 35)) ∧ Hid (Kp (fun k => k = w.heap.size + 1) w3 wx)) (fun vi _ => 6 - (intOf vi).toNat)
      case atStart => exact ⟨0, by omega, rfl, rfl, S4, K4⟩
      case round =>
        obtain ⟨i, hi, rfl, hA, hS, hK⟩ := hrel
        clear S4 K4
        have hsz3 := hK.out.size
        have aB : wr.heap[w.heap.size]? = some (.cells #[.string ⟨#[]⟩, .slice none 0 0, .int .i64 0, .int .i64 0, .int .i64 0, .int .i64 0, .int .i64 0, .int .i64 0] 35) := (hK.out.block _ (by omega) (by omega)).trans HAB.out
        have a0 : wr.cell? ⟨w.heap.size, 0, none⟩ = some (.string ⟨#[]⟩) := ring_cell aB rfl
        have a1 : wr.cell? ⟨w.heap.size, 1, none⟩ = some (.slice none 0 0) := ring_cell aB rfl
        have a2 : wr.cell? ⟨w.heap.size, 2, none⟩ = some (.int .i64 0) := ring_cell aB rfl
        have a3 : wr.cell? ⟨w.heap.size, 3, none⟩ = some (.int .i64 0) := ring_cell aB rfl
        have a4 : wr.cell? ⟨w.heap.size, 4, none⟩ = some (.int .i64 0) := ring_cell aB rfl
        have a5 : wr.cell? ⟨w.heap.size, 5, none⟩ = some (.int .i64 0) := ring_cell aB rfl
        have a6 : wr.cell? ⟨w.heap.size, 6, none⟩ = some (.int .i64 0) := ring_cell aB rfl
        have a7 : wr.cell? ⟨w.heap.size, 7, none⟩ = some (.int .i64 0) := ring_cell aB rfl
        have y0 : wr.frozen? ⟨w.heap.size, 0, none⟩ = false := ring_z aB
        have y1 : wr.frozen? ⟨w.heap.size, 1, none⟩ = false := ring_z aB
        have y2 : wr.frozen? ⟨w.heap.size, 2, none⟩ = false := ring_z aB
        have y3 : wr.frozen? ⟨w.heap.size, 3, none⟩ = false := ring_z aB
        have y4 : wr.frozen? ⟨w.heap.size, 4, none⟩ = false := ring_z aB
        have y5 : wr.frozen? ⟨w.heap.size, 5, none⟩ = false := ring_z aB
        have y6 : wr.frozen? ⟨w.heap.size, 6, none⟩ = false := ring_z aB
        have y7 : wr.frozen? ⟨w.heap.size, 7, none⟩ = false := ring_z aB
        have C4 : Below w.heap.size w wr := HC3.out.trans (kp_belowT hK.out (by omega) (by omega))
        by_cases hi6 : i < 6
        · have hcp := num_cell ((hK.out.block gn (by omega) (by omega)).trans HNN.out) i hi6
          have hcw := row_cell ((hK.out.block (w.heap.size + 2) (by omega) (by omega)).trans HNR.out) (2 + i) (by omega)
          have hde := decs_at ws h8 i hi6
          have hdn := decs_len ws h8
          have hul : (upto (decsP ws) i).length = 6 := by unfold upto; rw [List.length_append, List.length_take, List.length_replicate]; omega
          obtain ⟨z8, hz8⟩ : ∃ z, (upto (decsP ws) i)[i]? = some z := ⟨_, List.getElem?_eq_getElem (by omega)⟩
          have hcd : wr.cell? ⟨w.heap.size + 1, 2 + i, none⟩ = some (.int .i64 z8) := by
            refine ring_cell hS.out ?_
            unfold slotC
            rw [List.getElem?_toArray, List.getElem?_append_right (by simp), show 2 + i - [Value.string x1, Value.slice none 0 0].length = i by simp, List.getElem?_map, hz8]; rfl
          have hcz : wr.frozen? ⟨w.heap.size + 1, 2 + i, none⟩ = false := ring_z hS.out
          have HST : Hid ((wr.setCell ⟨w.heap.size + 1, 2 + i, none⟩ (.int .i64 (numI 10 18 (ws[2 + i]'(by omega))))).heap[w.heap.size + 1]? = some (.cells (slotC x1 (.slice none 0 0) (upto (decsP ws) (i + 1))) 35)) := by
            rw [Hid, ring_set hS.out, slotC_set, upto_set _ i _ hdn hi6 hde]
          have HKT : Hid (Kp (fun k => k = w.heap.size + 1) w3 (wr.setCell ⟨w.heap.size + 1, 2 + i, none⟩ (.int .i64 (numI 10 18 (ws[2 + i]'(by omega)))))) := hK.out.then (kp_setT _ _ _ _ rfl)
          have HAL : Hid (((ws.drop 2).take (i + 1)).all (numB 10 18) = numB 10 18 (ws[2 + i]'(by omega))) := by rw [Hid, all_snoc ws h8 i hi6, hA.out, Bool.true_and]
          have HNO0 : Hid (numB 10 18 (ws[2 + i]'(by omega)) = false → formB ws = false) := fun q => HFM.out.trans (all_no ws h8 i hi6 q)
          have hsz := HSZ.out (ws[2 + i]'(by omega)) (List.getElem_mem _)
          have HD : Hid (∀ W, Calls Tryz.prog 54 #[.string (ws[2 + i]'(by omega))] W fun e w' => e = .returned (.tuple #[.int .i64 (numI 10 18 (ws[2 + i]'(by omega))), .bool (numB 10 18 (ws[2 + i]'(by omega)))]) ∧ w' = W) := fun W => decimal_any _ W (by unfold maxLen; omega)
          clear hde hdn hul hz8 hsz hS hK hA aB
          generalize ws[2 + i]'(by omega) = x at *
          generalize numI 10 18 x = nz at *
          have hwrp : IntKind.i64.wrap nz = nz ∨ True := .inr trivial
          cases hb : numB 10 18 x
          · rw [hb] at HD
            have HNO : Hid (formB ws = false) := HNO0.out hb
            clear HAL HNO0 hb HST HKT hwrp
            go_wp2_with fail
            refine (HD.out _).mono ?_
            rintro e w5 ⟨rfl, rfl⟩
            go_wp2
            refine bodyPost_ret (v := .tuple #[.agg #[.string ⟨#[]⟩, .slice none 0 0, .int .i64 0, .int .i64 0, .int .i64 0, .int .i64 0, .int .i64 0, .int .i64 0], .bool false]) (by simp [results, Tryz.results38, go_sem, *]) rfl (slotNo HNO.out ?_)
            exact set8_below C4 (Nat.le_refl _) _ _ _ _ _ _ _ _
          · rw [hb] at HD HAL
            clear HNO0 hb hwrp a0 a1 a2 a3 a4 a5 a6 a7 y0 y1 y2 y3 y4 y5 y6 y7
            go_wp2_with fail
            refine (HD.out _).mono ?_
            rintro e w5 ⟨rfl, rfl⟩
            go_wp2
            go_roundw
            case rel => exact ⟨i + 1, by omega, by go_num, HAL, HST, HKT⟩
            case measure => simp [intOf]; omega
        · obtain rfl : i = 6 := by omega
          have HOK : Hid (formB ws = true) := by rw [Hid, HFM.out]; exact hA.out
          have hdn := decs_len ws h8
          obtain ⟨z0, z1, z2, z3, z4, z5, hds⟩ : ∃ z0 z1 z2 z3 z4 z5, decsP ws = [z0, z1, z2, z3, z4, z5] := by
            match decsP ws, hdn with
            | [z0, z1, z2, z3, z4, z5], _ => exact ⟨z0, z1, z2, z3, z4, z5, rfl⟩
          have HDS : Hid (decsP ws = [z0, z1, z2, z3, z4, z5]) := hds
          have bB : wr.heap[w.heap.size + 1]? = some (.cells #[.string x1, .slice none 0 0, .int .i64 z0, .int .i64 z1, .int .i64 z2, .int .i64 z3, .int .i64 z4, .int .i64 z5] 35) := by
            have q := hS.out
            rw [hds] at q
            exact q
          have b0 : wr.cell? ⟨w.heap.size + 1, 0, none⟩ = some (.string x1) := ring_cell bB rfl
          have b1 : wr.cell? ⟨w.heap.size + 1, 1, none⟩ = some (.slice none 0 0) := ring_cell bB rfl
          have b2 : wr.cell? ⟨w.heap.size + 1, 2, none⟩ = some (.int .i64 z0) := ring_cell bB rfl
          have b3 : wr.cell? ⟨w.heap.size + 1, 3, none⟩ = some (.int .i64 z1) := ring_cell bB rfl
          have b4 : wr.cell? ⟨w.heap.size + 1, 4, none⟩ = some (.int .i64 z2) := ring_cell bB rfl
          have b5 : wr.cell? ⟨w.heap.size + 1, 5, none⟩ = some (.int .i64 z3) := ring_cell bB rfl
          have b6 : wr.cell? ⟨w.heap.size + 1, 6, none⟩ = some (.int .i64 z4) := ring_cell bB rfl
          have b7 : wr.cell? ⟨w.heap.size + 1, 7, none⟩ = some (.int .i64 z5) := ring_cell bB rfl
          have bz1 : wr.frozen? ⟨w.heap.size + 1, 1, none⟩ = false := ring_z bB
          have H8 : Hid (8 ≤ ws.length) := h8
          have hmx : Hid (ws.length ≤ maxLen) := by rw [Hid]; unfold maxLen; omega
          clear hdn hds hS bB aB hA
          generalize hln : ws.length = n at *
          have HLN : Hid (ws.length = n) := hln
          clear hln h8 h8d
          by_cases hl8 : n = 8
          · subst hl8
            have HF : Hid (∀ y0 y1 y2 y3 y4 y5 y6 y7 : Value, SlotR w ws (.returned (.tuple #[.agg #[.string x1, .slice (some ⟨w.heap.size + 2, 0, none⟩) 0 0, .int .i64 z0, .int .i64 z1, .int .i64 z2, .int .i64 z3, .int .i64 z4, .int .i64 z5], .bool true])) (((((((((wr.setCell ⟨w.heap.size + 1, 1, none⟩ (.slice (some ⟨w.heap.size + 2, 0, none⟩) 0 0)).setCell ⟨w.heap.size, 0, none⟩ y0).setCell ⟨w.heap.size, 1, none⟩ y1).setCell ⟨w.heap.size, 2, none⟩ y2).setCell ⟨w.heap.size, 3, none⟩ y3).setCell ⟨w.heap.size, 4, none⟩ y4).setCell ⟨w.heap.size, 5, none⟩ y5).setCell ⟨w.heap.size, 6, none⟩ y6).setCell ⟨w.heap.size, 7, none⟩ y7)) := by
              intro y0 y1 y2 y3 y4 y5 y6 y7
              have K5 : Kp (fun k => k = w.heap.size + 1 ∨ k = w.heap.size) wr (((((((((wr.setCell ⟨w.heap.size + 1, 1, none⟩ (.slice (some ⟨w.heap.size + 2, 0, none⟩) 0 0)).setCell ⟨w.heap.size, 0, none⟩ y0).setCell ⟨w.heap.size, 1, none⟩ y1).setCell ⟨w.heap.size, 2, none⟩ y2).setCell ⟨w.heap.size, 3, none⟩ y3).setCell ⟨w.heap.size, 4, none⟩ y4).setCell ⟨w.heap.size, 5, none⟩ y5).setCell ⟨w.heap.size, 6, none⟩ y6).setCell ⟨w.heap.size, 7, none⟩ y7) := (kp_setT _ _ _ _ (.inl rfl)).then ((((((((kp_setT _ _ _ _ (.inr rfl)).then (kp_setT _ _ _ _ (.inr rfl))).then (kp_setT _ _ _ _ (.inr rfl))).then (kp_setT _ _ _ _ (.inr rfl))).then (kp_setT _ _ _ _ (.inr rfl))).then (kp_setT _ _ _ _ (.inr rfl))).then (kp_setT _ _ _ _ (.inr rfl))).then (kp_setT _ _ _ _ (.inr rfl)))
              have N5 := (K5.block (w.heap.size + 2) (by omega) (by omega)).trans ((hK.out.block (w.heap.size + 2) (by omega) (by omega)).trans HNR.out)
              have B5 : Below w.heap.size w _ := set8_below (C4.setCell (p := ⟨w.heap.size + 1, 1, none⟩) (by simp) (.slice (some ⟨w.heap.size + 2, 0, none⟩) 0 0)) (Nat.le_refl _) y0 y1 y2 y3 y4 y5 y6 y7
              have hn := HLN.out
              obtain ⟨hx1, hx2⟩ := List.getElem?_eq_some_iff.1 HXE.out
              have q := slotYes (w := w) HOK.out (by omega) HDS.out (ha := some ⟨w.heap.size + 2, 0, none⟩) (hc := ws.length - 8) (row_txs N5 (by rw [hn]; decide) 8 (by omega) _ (fun c => by omega) (fun c => by cases c)) (fun q e => by cases e; exact ⟨Nat.le_add_right _ _, (Array.getElem?_eq_some_iff.1 N5).1⟩) B5
              rw [hx2, show ws.length - 8 = 0 by omega] at q
              exact q
            clear hK HNR HNN HAB HC3 HFM HSZ C4
            go_wp2
            refine bodyPost_ret (v := .tuple #[.agg #[.string x1, .slice (some ⟨w.heap.size + 2, 0, none⟩) 0 0, .int .i64 z0, .int .i64 z1, .int .i64 z2, .int .i64 z3, .int .i64 z4, .int .i64 z5], .bool true]) (by simp [results, Tryz.results38, go_sem, *]) rfl ?_
            exact HF.out _ _ _ _ _ _ _ _
          · have hn8 : ¬ (8 : Int) = (n : Int) := by omega
            have hn8' : ¬ (n : Int) = 8 := by omega
            have HF : Hid (∀ y0 y1 y2 y3 y4 y5 y6 y7 : Value, SlotR w ws (.returned (.tuple #[.agg #[.string x1, .slice (some ⟨w.heap.size + 2, 8, none⟩) (n - 8) (n - 8), .int .i64 z0, .int .i64 z1, .int .i64 z2, .int .i64 z3, .int .i64 z4, .int .i64 z5], .bool true])) (((((((((wr.setCell ⟨w.heap.size + 1, 1, none⟩ (.slice (some ⟨w.heap.size + 2, 8, none⟩) (n - 8) (n - 8))).setCell ⟨w.heap.size, 0, none⟩ y0).setCell ⟨w.heap.size, 1, none⟩ y1).setCell ⟨w.heap.size, 2, none⟩ y2).setCell ⟨w.heap.size, 3, none⟩ y3).setCell ⟨w.heap.size, 4, none⟩ y4).setCell ⟨w.heap.size, 5, none⟩ y5).setCell ⟨w.heap.size, 6, none⟩ y6).setCell ⟨w.heap.size, 7, none⟩ y7)) := by
              intro y0 y1 y2 y3 y4 y5 y6 y7
              have K5 : Kp (fun k => k = w.heap.size + 1 ∨ k = w.heap.size) wr (((((((((wr.setCell ⟨w.heap.size + 1, 1, none⟩ (.slice (some ⟨w.heap.size + 2, 8, none⟩) (n - 8) (n - 8))).setCell ⟨w.heap.size, 0, none⟩ y0).setCell ⟨w.heap.size, 1, none⟩ y1).setCell ⟨w.heap.size, 2, none⟩ y2).setCell ⟨w.heap.size, 3, none⟩ y3).setCell ⟨w.heap.size, 4, none⟩ y4).setCell ⟨w.heap.size, 5, none⟩ y5).setCell ⟨w.heap.size, 6, none⟩ y6).setCell ⟨w.heap.size, 7, none⟩ y7) := (kp_setT _ _ _ _ (.inl rfl)).then ((((((((kp_setT _ _ _ _ (.inr rfl)).then (kp_setT _ _ _ _ (.inr rfl))).then (kp_setT _ _ _ _ (.inr rfl))).then (kp_setT _ _ _ _ (.inr rfl))).then (kp_setT _ _ _ _ (.inr rfl))).then (kp_setT _ _ _ _ (.inr rfl))).then (kp_setT _ _ _ _ (.inr rfl))).then (kp_setT _ _ _ _ (.inr rfl)))
              have N5 := (K5.block (w.heap.size + 2) (by omega) (by omega)).trans ((hK.out.block (w.heap.size + 2) (by omega) (by omega)).trans HNR.out)
              have B5 : Below w.heap.size w _ := set8_below (C4.setCell (p := ⟨w.heap.size + 1, 1, none⟩) (by simp) (.slice (some ⟨w.heap.size + 2, 8, none⟩) (n - 8) (n - 8))) (Nat.le_refl _) y0 y1 y2 y3 y4 y5 y6 y7
              have hn := HLN.out
              obtain ⟨hx1, hx2⟩ := List.getElem?_eq_some_iff.1 HXE.out
              have q := slotYes (w := w) HOK.out (by omega) HDS.out (ha := some ⟨w.heap.size + 2, 8, none⟩) (hc := ws.length - 8) (row_txs N5 (by rw [hn]; unfold maxLen; omega) 8 (by omega) _ (fun c => rfl) (fun c => by cases c)) (fun q e => by cases e; exact ⟨Nat.le_add_right _ _, (Array.getElem?_eq_some_iff.1 N5).1⟩) B5
              rw [hx2, hn] at q
              exact q
            clear hK HNR HNN HAB HC3 HFM HSZ C4
            go_wp2
            refine bodyPost_ret (v := .tuple #[.agg #[.string x1, .slice (some ⟨w.heap.size + 2, 8, none⟩) (n - 8) (n - 8), .int .i64 z0, .int .i64 z1, .int .i64 z2, .int .i64 z3, .int .i64 z4, .int .i64 z5], .bool true]) (by simp [results, Tryz.results38, go_sem, *]) rfl ?_
            exact HF.out _ _ _ _ _ _ _ _
    · rw [decide_eq_false h8, Bool.false_and] at hfm
      have HNO : Hid (formB ws = false) := hfm
      have h8d : decide ((ws.length : Int) < 8) = true := decide_eq_true (by omega)
      have h8I : (ws.length : Int) < 8 := by omega
      generalize ws[0] = x0 at *
      clear hfm h8 NR3 bB NN
      go_wp2
      refine bodyPost_ret (v := .tuple #[.agg #[.string ⟨#[]⟩, .slice none 0 0, .int .i64 0, .int .i64 0, .int .i64 0, .int .i64 0, .int .i64 0, .int .i64 0], .bool false]) (by simp [results, Tryz.results38, go_sem, *]) rfl (slotNo HNO.out ?_)
      exact set8_below C3 (Nat.le_refl _) _ _ _ _ _ _ _ _
end Go.Proofs.YthmhaflkkigenaaGreatDoor
