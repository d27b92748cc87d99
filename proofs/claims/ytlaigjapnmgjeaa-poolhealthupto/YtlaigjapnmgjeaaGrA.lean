/- Rows of structures of k cells each, told by a function; of one's own, and such as are only read. -/
import Derived.Test.YtlaigjapnmgjeaaRows
import Derived.WalkKit
import Derived.Below
import Derived.Maps.AppendAt
import Derived.Lib.SliceRun
namespace Go.Proofs.Ytlaigjapnmgjeaa
open Go.RowKit
set_option linter.unusedVariables false

/-- How the elements of a type lie: k cells each. -/
structure EncR (α : Type) (k : Nat) (enc : α → Array Value) : Prop where
  sz : ∀ x, (enc x).size = k
  one : ∀ x, ∀ v ∈ (enc x).toList, v.oneCell' = true
  pos : 0 < k
def enR {α : Type} (enc : α → Array Value) (l : List α) : List Value := l.flatMap fun x => (enc x).toList
theorem enR_app {α : Type} (enc : α → Array Value) (x y : List α) : enR enc (x ++ y) = enR enc x ++ enR enc y := by unfold enR; rw [List.flatMap_append]
theorem enR_len {α : Type} {k : Nat} {enc : α → Array Value} (E : EncR α k enc) (l : List α) : (enR enc l).length = l.length * k := by
  induction l with
  | nil => show 0 = 0 * k; omega
  | cons f l ih =>
    show ((enc f).toList ++ enR enc l).length = (l.length + 1) * k
    rw [List.length_append, ih, Array.length_toList, E.sz, Nat.add_mul]; omega
theorem enR_one {α : Type} {k : Nat} {enc : α → Array Value} (E : EncR α k enc) (l : List α) : ∀ v ∈ enR enc l, v.oneCell' = true := by
  intro v hv
  unfold enR at hv
  obtain ⟨f, _, hf⟩ := List.mem_flatMap.1 hv
  exact E.one f v hf
theorem enR_at {α : Type} {k : Nat} {enc : α → Array Value} (E : EncR α k enc) : ∀ (l : List α) (j : Nat) (x : α), l[j]? = some x → ∀ i, i < k → (enR enc l)[j * k + i]? = (enc x)[i]?
  | [], j, x, h => by simp at h
  | f :: l, 0, x, h => fun i hi => by
    obtain rfl : f = x := by simpa using h
    show ((enc f).toList ++ enR enc l)[0 * k + i]? = _
    rw [Nat.zero_mul, Nat.zero_add, List.getElem?_append_left (by rw [Array.length_toList, E.sz]; exact hi), Array.getElem?_toList]
  | f :: l, j + 1, x, h => fun i hi => by
    have r := enR_at E l j x (by simpa using h) i hi
    show ((enc f).toList ++ enR enc l)[(j + 1) * k + i]? = _
    have e : (j + 1) * k + i = j * k + i + k := by rw [Nat.add_mul]; omega
    rw [List.getElem?_append_right (by rw [Array.length_toList, E.sz, e]; omega), Array.length_toList, E.sz, e, Nat.add_sub_cancel]
    exact r
theorem gr_new (w : World) (o : Obj) : (w.alloc o).heap[w.heap.size]? = some o := by
  show (w.heap.push o)[w.heap.size]? = _; simp
theorem gr_cell {w : World} {b o : Nat} {cs : Array Value} {t : TypeId} {v : Value} (h : w.heap[b]? = some (.cells cs t)) (hv : cs[o]? = some v) : w.cell? ⟨b, o, none⟩ = some v := by
  simp [World.cell?, h, hv]
theorem gr_add (b o i : Nat) : (⟨b, o, none⟩ : Addr).add i = ⟨b, o + i, none⟩ := by unfold Addr.add; split <;> simp_all
theorem gr_info {P : Program} {t : TypeId} {z : Value} {s b : Nat} (h : (P.info? t).map (fun i => (i.zero, i.size, i.bytes)) = some (some z, s, b)) : ∃ i, P.info? t = some i ∧ i.zero = some z ∧ i.size = s ∧ i.bytes = b := by
  obtain ⟨i, hi, hz⟩ := Option.map_eq_some_iff.1 h
  injection hz with hz0 hz
  injection hz with hz1 hz2
  exact ⟨i, hi, hz0, hz1, hz2⟩
/-- A row that is only read. -/
def RdR {α : Type} (k : Nat) (enc : α → Array Value) (w : World) (a : Option Addr) (c : Nat) (l : List α) : Prop :=
  (a = none → c = 0) ∧ l.length ≤ c ∧ c ≤ maxLen ∧ (0 < l.length → ∃ g off, a = some ⟨g, off, none⟩ ∧ g < w.heap.size ∧ ∀ j x, l[j]? = some x → ∀ i, i < k → w.cell? ⟨g, off + j * k + i, none⟩ = (enc x)[i]?)
theorem RdR.emp {α : Type} (k : Nat) (enc : α → Array Value) (w : World) : RdR k enc w none 0 [] := ⟨fun _ => rfl, Nat.le_refl _, Nat.zero_le _, fun h => absurd h (Nat.lt_irrefl _)⟩
theorem RdR.move {α : Type} {k : Nat} {enc : α → Array Value} {w w' : World} {a : Option Addr} {c : Nat} {l : List α} (h : RdR k enc w a c l) (hm : ∀ g off, a = some ⟨g, off, none⟩ → g < w.heap.size → w'.heap[g]? = w.heap[g]?) : RdR k enc w' a c l := by
  obtain ⟨h1, h2, h3, h4⟩ := h
  refine ⟨h1, h2, h3, fun hp => ?_⟩
  obtain ⟨g, off, e, hg, hc⟩ := h4 hp
  have hb := hm g off e hg
  refine ⟨g, off, e, ?_, fun j x hj i hi => ?_⟩
  · rw [Array.getElem?_eq_getElem hg] at hb
    exact (Array.getElem?_eq_some_iff.1 hb).1
  · rw [World.cell?_of_block (w := w) (a := ⟨g, off + j * k + i, none⟩) hb]
    exact hc j x hj i hi
theorem RdR.keep {α : Type} {k : Nat} {enc : α → Array Value} {w w' : World} {a : Option Addr} {c : Nat} {l : List α} (h : RdR k enc w a c l) (b : Below w.heap.size w w') : RdR k enc w' a c l := h.move fun g off _ hg => b.block g hg
theorem RdR.bel {α : Type} {k B : Nat} {enc : α → Array Value} {w w' : World} {a : Option Addr} {c : Nat} {l : List α} (h : RdR k enc w a c l) (b : Below B w w') (hB : w.heap.size ≤ B) : RdR k enc w' a c l := h.keep (b.mono hB)
/-- Cells of the element at a place. -/
theorem RdR.at {α : Type} {k : Nat} {enc : α → Array Value} {w : World} {a : Option Addr} {c : Nat} {l : List α} (h : RdR k enc w a c l) {j : Nat} {x : α} (hj : l[j]? = some x) : ∃ g off, a = some ⟨g, off, none⟩ ∧ g < w.heap.size ∧ ∀ i, i < k → w.cell? ⟨g, off + j * k + i, none⟩ = (enc x)[i]? := by
  obtain ⟨g, off, e, hg, hc⟩ := h.2.2.2 (by have := (List.getElem?_eq_some_iff.1 hj).1; omega)
  exact ⟨g, off, e, hg, hc j x hj⟩
/-- A row of one's own, of the type T, from the block B on. -/
def OwR {α : Type} (T : TypeId) (k : Nat) (enc : α → Array Value) (B : Nat) (w : World) (v : Value) (l : List α) : Prop := w.ownsRow B T k v l.length (enR enc l)
theorem OwR.empty {α : Type} (T : TypeId) (k : Nat) (enc : α → Array Value) (B : Nat) (w : World) (hB : B ≤ w.heap.size) : OwR T k enc B (w.alloc (.cells #[] T)) (.slice (some ⟨w.heap.size, 0, none⟩) 0 0) [] :=
  ⟨by show 0 = 0 * k; omega, .inr ⟨w.heap.size, 0, #[], rfl, hB, gr_new _ _, Nat.le_refl _, by decide, by show 0 = 0 * k; omega, List.take_nil⟩⟩
theorem OwR.nil {α : Type} (T : TypeId) (k : Nat) (enc : α → Array Value) (B : Nat) (w : World) : OwR T k enc B w (.slice none 0 0) [] := ⟨by show 0 = 0 * k; omega, .inl ⟨rfl, rfl⟩⟩
theorem OwR.grow {α : Type} {T : TypeId} {k : Nat} {enc : α → Array Value} {B : Nat} {w w' : World} {v : Value} {l : List α} (h : OwR T k enc B w v l) (b : Below w.heap.size w w') : OwR T k enc B w' v l := by
  obtain ⟨h1, h2⟩ := h
  refine ⟨h1, ?_⟩
  rcases h2 with h2 | ⟨g, c, cur, hv, hB, hg, r⟩
  · exact .inl h2
  · exact .inr ⟨g, c, cur, hv, hB, (b.block g (Array.getElem?_eq_some_iff.1 hg).1).trans hg, r⟩
theorem OwR.move {α : Type} {T : TypeId} {k : Nat} {enc : α → Array Value} {B : Nat} {w w' : World} {v : Value} {l : List α} (h : OwR T k enc B w v l) (hm : ∀ g, v.ownBlock = some g → B ≤ g → g < w.heap.size → (∃ cur, w.heap[g]? = some (.cells cur T)) → w'.heap[g]? = w.heap[g]?) : OwR T k enc B w' v l := by
  obtain ⟨h1, h2⟩ := h
  refine ⟨h1, ?_⟩
  rcases h2 with h2 | ⟨g, c, cur, hv, hB, hg, r⟩
  · exact .inl h2
  · exact .inr ⟨g, c, cur, hv, hB, (hm g (by rw [hv]; rfl) hB (Array.getElem?_eq_some_iff.1 hg).1 ⟨cur, hg⟩).trans hg, r⟩
theorem OwR.mono {α : Type} {T : TypeId} {k : Nat} {enc : α → Array Value} {B C : Nat} {w : World} {v : Value} {l : List α} (h : OwR T k enc B w v l) (hC : C ≤ B) : OwR T k enc C w v l := by
  obtain ⟨h1, h2⟩ := h
  refine ⟨h1, ?_⟩
  rcases h2 with h2 | ⟨g, c, cur, hv, hB, r⟩
  · exact .inl h2
  · exact .inr ⟨g, c, cur, hv, Nat.le_trans hC hB, r⟩
/-- Where it lies, and that it can be read. -/
theorem OwR.rd {α : Type} {T : TypeId} {k : Nat} {enc : α → Array Value} (E : EncR α k enc) {B : Nat} {w : World} {v : Value} {l : List α} (h : OwR T k enc B w v l) : ∃ a c, v = .slice a l.length c ∧ RdR k enc w a c l ∧ ∀ g off, a = some ⟨g, off, none⟩ → B ≤ g ∧ g < w.heap.size ∧ v.ownBlock = some g := by
  obtain ⟨h1, ⟨h2, h3⟩ | ⟨g, c, cur, hv, hB, hg, hlc, hm, hs, ht⟩⟩ := h
  · exact ⟨none, 0, by rw [h2, h3], ⟨fun _ => rfl, by omega, Nat.zero_le _, fun q => by omega⟩, fun g off e => by cases e⟩
  · refine ⟨_, c, hv, ⟨(fun e => by cases e), hlc, hm, fun hl => ⟨g, 0, rfl, (Array.getElem?_eq_some_iff.1 hg).1, fun j x hj i hi => ?_⟩⟩, fun g' off e => by
      cases e
      exact ⟨hB, (Array.getElem?_eq_some_iff.1 hg).1, by rw [hv]; rfl⟩⟩
    have r := enR_at E l j x hj i hi
    have hjl := (List.getElem?_eq_some_iff.1 hj).1
    have hlt : j * k + i < l.length * k := by
      have : (j + 1) * k ≤ l.length * k := Nat.mul_le_mul_right k hjl
      rw [Nat.add_mul] at this; omega
    have e : cur[j * k + i]? = (enc x)[i]? := by
      rw [← r, ← ht, List.getElem?_take_of_lt hlt, Array.getElem?_toList]
    obtain ⟨u, hu⟩ : ∃ u, (enc x)[i]? = some u := ⟨(enc x)[i]'(by rw [E.sz]; exact hi), Array.getElem?_eq_getElem _⟩
    rw [hu] at e ⊢
    rw [Nat.zero_add]
    exact gr_cell hg e
theorem gr_news {α : Type} {k : Nat} {enc : α → Array Value} (E : EncR α k enc) (w : World) (x : α) (T : TypeId) : ∀ j u, (enR enc [x])[j]? = some u → (w.alloc (.cells (enc x) T)).cell? ((⟨w.heap.size, 0, none⟩ : Addr).add j) = some u := by
  intro j u hj
  have e : enR enc [x] = (enc x).toList := by unfold enR; simp
  rw [e, Array.getElem?_toList] at hj
  rw [gr_add, Nat.zero_add]
  exact gr_cell (gr_new _ _) hj
/-- An element, in a new block, put behind. -/
theorem owr_append {α : Type} {T S : TypeId} {k by8 : Nat} {z : Value} {enc : α → Array Value} (E : EncR α k enc) (hu : Try.prog.underlying S = some (.slice T)) (hin : (Try.prog.info? T).map (fun i => (i.zero, i.size, i.bytes)) = some (some z, k, by8)) (hz : z.cells.size = k) (hb8 : by8 ≤ 1024) {B : Nat} {w : World} {v : Value} {l : List α} (h : OwR T k enc B w v l) (hB : B ≤ w.heap.size) (x : α) (hl : l.length ≤ 4294967296) :
    ∃ v' w', (Builtin.append_ #[S, S] S #[v, .slice (some ⟨w.heap.size, 0, none⟩) 1 1]).run Try.prog (w.alloc (.cells (enc x) T)) = .ok v' w' ∧ OwR T k enc B w' v' (l ++ [x]) ∧ Below B w w' ∧ (v'.ownBlock = v.ownBlock ∨ ∃ g, v'.ownBlock = some g ∧ w.heap.size ≤ g) ∧ ∀ b, b < w.heap.size → v.ownBlock ≠ some b → w'.heap[b]? = w.heap[b]? := by
  obtain ⟨i, hi, hz0, hz1, hz2⟩ := gr_info hin
  have BA : Below w.heap.size w (w.alloc (.cells (enc x) T)) := (Below.refl _ _).alloc (Nat.le_refl _) _
  have hA := h.grow BA
  have hmul : (l.length + 1) * by8 ≤ (l.length + 1) * 1024 := Nat.mul_le_mul_left _ hb8
  obtain ⟨v', w', hr, q1, q2, q3, q4⟩ := run_append_own_at (P := Try.prog) _ B S S T i z k by8 hu hi hz0 hz1 hz2 hz E.pos v l.length (enR enc l) hA ⟨w.heap.size, 0, none⟩ 1 1 (enR enc [x]) (by rw [enR_len E]; rfl) (gr_news E w x T) (enR_one E _) (by unfold maxLen; omega) (by omega) (Nat.le_trans hB BA.size)
  refine ⟨v', w', hr, ?_, (BA.mono hB).trans ((Below.refl _ _).grown q2 (Nat.le_trans hB BA.size) (fun q hq => (World.ownsRow.lt hA q hq).1)), ?_, fun b hb hn => (q2.block b (by have := BA.size; omega) (fun e => hn e.symm)).trans (BA.block b hb)⟩
  · unfold OwR
    rw [List.length_append, enR_app]; exact q1
  · rcases q4 with q | q
    · exact .inl q
    · exact .inr ⟨_, q, BA.size⟩
end Go.Proofs.Ytlaigjapnmgjeaa
