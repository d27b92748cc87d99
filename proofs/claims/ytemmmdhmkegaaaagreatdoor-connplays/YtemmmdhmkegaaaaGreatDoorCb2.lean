/- Texts that the proof leans on, one behind the other: Base Byt RgA RgB LtcC RgC RgD RgE Row SamB RgG CnA CnB CnC -/
import Derived.Test.YtemmmdhmkegaaaaGreatDoorRows
import Derived.WalkKit
import Derived.WalkSpells
import Derived.WalkLawsBesides
import Derived.ProofKit
import Derived.OpenShut
import Derived.Below
import Derived.Laws.Pointers
import Derived.Laws.CopyOwn
import Derived.Laws.IdiomStrings
import Derived.Lib.SlBytesConst
import Derived.Lib.Walk
import Derived.Deep.QuietTactic
import Derived.BigQuiet
import Derived.Maps.AppendAt
import Derived.Laws.OwnMore
import Derived.Laws.Concat
import Derived.Test.YtemmmdhmkegaaaaGreatDoorCb0
import Derived.Lib.AppendStr
import Derived.Deep.Strs
/- Small lemmas that several texts share. -/
namespace Go.Proofs.YtemmmdhmkegaaaaGreatDoor
open Go.RowKit
set_option linter.unusedVariables false

theorem ret_b {x y : Bool} (h : x = y) : Ending.returned (.bool x) = .returned (.bool y) := by rw [h]
theorem take_snoc (s : ByteArray) (k : Nat) (h : k < s.size) : s.data.toList.take (k + 1) = s.data.toList.take k ++ [s[k]] := by
  rw [List.take_succ_eq_append_getElem (by simpa using h)]; rfl
theorem empty_of {s : ByteArray} (h : s.size = 0) : s = ⟨#[]⟩ := by
  obtain ⟨⟨l⟩⟩ := s
  cases l with
  | nil => rfl
  | cons a l => exact absurd (show (a :: l).length = 0 from h) (by simp)
theorem isEmpty_of {s : ByteArray} (h : ¬ s.size = 0) : s.toList.isEmpty = false := by
  rw [ByteArray.toList_eq, List.isEmpty_eq_false_iff]
  intro e
  exact h (congrArg List.length e)
theorem extract_le (s : ByteArray) (i j : Nat) : (s.extract i j).size ≤ s.size := by rw [ByteArray.size_extract]; omega
theorem byte_bd (b : UInt8) : (0 : Int) ≤ (b.toNat : Int) ∧ (b.toNat : Int) < 256 := by have := b.toNat_lt; omega
end Go.Proofs.YtemmmdhmkegaaaaGreatDoor

/- Bytes in memory: slices that are read, rows that grow, texts made of bytes; arguments that are lists of bytes. -/
namespace Go.Proofs.YtemmmdhmkegaaaaGreatDoor
open Go.ChangeShapes Go.WideShapes Go.ChangeAt Go.RowKit
set_option linter.unusedVariables false

structure Kp (T : Nat → Prop) (w w' : World) : Prop where
  os : w'.os = w.os
  tape : w'.tape = w.tape
  output : w'.output = w.output
  size : w.heap.size ≤ w'.heap.size
  block : ∀ k, k < w.heap.size → ¬ T k → w'.heap[k]? = w.heap[k]?
theorem Kp.refl (T : Nat → Prop) (w : World) : Kp T w w := ⟨rfl, rfl, rfl, Nat.le_refl _, fun _ _ _ => rfl⟩
theorem Kp.trans {T T' : Nat → Prop} {u v w : World} (h : Kp T u v) (k : Kp T' v w) (ht : ∀ i, T' i → T i ∨ u.heap.size ≤ i) : Kp T u w :=
  ⟨k.os.trans h.os, k.tape.trans h.tape, k.output.trans h.output, Nat.le_trans h.size k.size, fun i hi hn =>
    (k.block i (Nat.lt_of_lt_of_le hi h.size) (fun c => by rcases ht i c with c | c; exact hn c; omega)).trans (h.block i hi hn)⟩
theorem Kp.mono {T T' : Nat → Prop} {u v : World} (h : Kp T u v) (ht : ∀ i, T i → T' i) : Kp T' u v :=
  ⟨h.os, h.tape, h.output, h.size, fun i hi hn => h.block i hi (fun c => hn (ht i c))⟩
theorem Kp.then {T : Nat → Prop} {u v w : World} (h : Kp T u v) (k : Kp T v w) : Kp T u w := h.trans k (fun _ c => .inl c)
theorem Kp.ofBelow {T : Nat → Prop} {u v : World} (h : Below u.heap.size u v) : Kp T u v :=
  ⟨h.os, h.tape, h.output, h.size, fun i hi _ => h.block i hi⟩
theorem Kp.alloc (T : Nat → Prop) (w : World) (o : Obj) : Kp T w (w.alloc o) := Kp.ofBelow ((Below.refl _ _).alloc (Nat.le_refl _) _)
theorem Kp.below {T : Nat → Prop} {B : Nat} {u v : World} (h : Kp T u v) (hB : B ≤ u.heap.size) (ht : ∀ k, k < B → ¬ T k) : Below B u v :=
  ⟨h.os, h.tape, h.output, h.size, fun k hk => h.block k (Nat.lt_of_lt_of_le hk hB) (ht k hk)⟩
theorem slice_inj {a a' : Option Addr} {n n' c c' : Nat} (h : Value.slice a n c = Value.slice a' n' c') : a = a' ∧ n = n' ∧ c = c' := by cases h; exact ⟨rfl, rfl, rfl⟩
theorem heap_lt {w : World} {b : Nat} {o : Obj} (h : w.heap[b]? = some o) : b < w.heap.size := (Array.getElem?_eq_some_iff.1 h).1
theorem Kp.at {T : Nat → Prop} {c : Nat} {w w' : World} (h : Kp T w w') (hc : ¬ T c) {o : Obj} (k : w.heap[c]? = some o) : w'.heap[c]? = some o :=
  (h.block c (heap_lt k) hc).trans k

def bv (b : UInt8) : Value := .int .u8 (b.toNat : Int)
theorem ring_cell {w : World} {b i : Nat} {c : Array Value} {t : TypeId} {v : Value} (h : w.heap[b]? = some (.cells c t)) (hv : c[i]? = some v) : w.cell? ⟨b, i, none⟩ = some v := by
  simp [World.cell?, h, hv]
theorem ring_z {w : World} {b i : Nat} {c : Array Value} {t : TypeId} (h : w.heap[b]? = some (.cells c t)) : w.frozen? ⟨b, i, none⟩ = false := by
  simp [World.frozen?, h]
theorem ring_set {w : World} {b i : Nat} {c : Array Value} {t : TypeId} {v : Value} (h : w.heap[b]? = some (.cells c t)) : (w.setCell ⟨b, i, none⟩ v).heap[b]? = some (.cells (c.setIfInBounds i v) t) := by
  simp [World.setCell, Array.getElem?_modify, h]
theorem new_at (w : World) (o : Obj) : (w.alloc o).heap[w.heap.size]? = some o := by
  show (w.heap.push o)[w.heap.size]? = _; simp
theorem addr_add (b o i : Nat) : (⟨b, o, none⟩ : Addr).add i = ⟨b, o + i, none⟩ := by unfold Addr.add; split <;> simp_all
def Src (w : World) (k : Nat) (v : Value) (b : List UInt8) : Prop := ∃ a c, v = .slice a b.length c ∧ b.length ≤ c ∧ c ≤ maxLen ∧ (0 < b.length → ∃ off, a = some ⟨k, off, none⟩ ∧ ∀ (j : Nat) (hj : j < b.length), w.cell? ⟨k, off + j, none⟩ = some (bv b[j]))
theorem Src.frame {w w' : World} {k : Nat} {v : Value} {b : List UInt8} (h : Src w k v b) (hk : w'.heap[k]? = w.heap[k]?) : Src w' k v b := by
  obtain ⟨a, c, e, h1, h2, h3⟩ := h
  refine ⟨a, c, e, h1, h2, fun hp => ?_⟩
  obtain ⟨off, ea, hc⟩ := h3 hp
  refine ⟨off, ea, fun j hj => ?_⟩
  rw [← hc j hj]
  simp [World.cell?, hk]

theorem bvs_one (l : List UInt8) : ∀ v ∈ l.map bv, v.oneCell' = true := by
  intro v hv
  obtain ⟨b, _, rfl⟩ := List.mem_map.1 hv
  rfl
theorem infoB : (Tryz.prog.info? 5).map (·.size) = some 1 := by kernel_rfl
def lenOf (v : Value) : Nat := match v with | .slice _ n _ => n | _ => 0
theorem Src.rest {w : World} {k off c : Nat} {b : List UInt8} (n : Nat) (hn : n ≤ b.length) (h1 : b.length ≤ c) (h2 : c ≤ maxLen) (h3 : ∀ (j : Nat) (hj : j < b.length), w.cell? ⟨k, off + j, none⟩ = some (bv b[j])) (a : Option Addr) (ha : n < b.length → a = some ⟨k, off + n, none⟩) :
    Src w k (.slice a (b.length - n) (c - n)) (b.drop n) := by
  refine ⟨a, c - n, by rw [List.length_drop], by rw [List.length_drop]; omega, by omega, fun hp => ?_⟩
  rw [List.length_drop] at hp
  refine ⟨off + n, ha (by omega), fun j hj => ?_⟩
  rw [List.length_drop] at hj
  rw [List.getElem_drop, Nat.add_assoc]
  exact h3 (n + j) (by omega)

def rowB (l : List UInt8) : List Value := l.map bv
theorem infoB3 : (Tryz.prog.info? 5).map (fun i => (i.zero, i.size, i.bytes)) = some (some (.int .u8 0), 1, 1) := by kernel_rfl
theorem made_zero (n : Nat) : madeCells (Value.int .u8 0).cells n = (rowB (List.replicate n 0)).toArray := by
  unfold madeCells rowB
  apply Array.toList_inj.1
  apply List.ext_getElem?
  intro i
  rcases Nat.lt_or_ge i n with h | h
  · simp [h, Value.cells, bv, Nat.mod_one]
  · rw [List.getElem?_eq_none (by simpa using h), List.getElem?_eq_none (by simpa using h)]
theorem make_bytes (w : World) (n : Nat) (h : n ≤ 281474976710656) : (Instr.makeSlice 31 (.int .i64 (n : Int)) (.int .i64 (n : Int))).run Tryz.prog w = .ok (.slice (some ⟨w.heap.size, 0, none⟩) n n) (w.alloc (.cells (rowB (List.replicate n 0)).toArray 5)) := by
  obtain ⟨i, hi, hz0, hz1, hz2⟩ := info_parts infoB3
  have k := run_make (P := Tryz.prog) w 31 5 i (.int .u8 0) Tryz.underlying31 hi hz0 .i64 .i64 n n (by omega) (by omega) (by rw [hz2]; omega) (by omega)
  rw [Int.toNat_natCast, hz1, Nat.mul_one, made_zero] at k
  exact k
theorem rowB_length (l : List UInt8) : (rowB l).length = l.length := by simp [rowB]
theorem rowB_take (l : List UInt8) (k : Nat) : (rowB l).take k = rowB (l.take k) := by simp [rowB, List.map_take]
theorem rowB_drop (l : List UInt8) (k : Nat) : (rowB l).drop k = rowB (l.drop k) := by simp [rowB, List.map_drop]
theorem rowB_app (l k : List UInt8) : rowB (l ++ k) = rowB l ++ rowB k := by simp [rowB]

theorem src_row {w : World} {g n : Nat} {l : List UInt8} (h : w.heap[g]? = some (.cells (rowB l).toArray 5)) (hl : l.length = n) (hm : n ≤ maxLen) : Src w g (.slice (some ⟨g, 0, none⟩) n n) l := by
  subst hl
  refine ⟨_, _, rfl, Nat.le_refl _, hm, fun _ => ⟨0, rfl, fun j hj => ?_⟩⟩
  refine ring_cell h ?_
  rw [Nat.zero_add, List.getElem?_toArray]
  unfold rowB
  rw [List.getElem?_map, List.getElem?_eq_getElem hj]; rfl
theorem Src.below {w w' : World} {k : Nat} {v : Value} {b : List UInt8} (h : Src w k v b) (hk : k < w.heap.size) (hB : Below w.heap.size w w') : Src w' k v b := h.frame (hB.block k hk)
theorem conv_back {w : World} {k : Nat} {a : Option Addr} {n c : Nat} {b : List UInt8} (h : Src w k (.slice a n c) b) (hp : 0 < n) : (convert 31 9 (.slice a n c)).run Tryz.prog w = .ok (.string ⟨b.toArray⟩) w := by
  obtain ⟨a', c', e, h1, h2, h3⟩ := h
  obtain ⟨e1, e2, e3⟩ := slice_inj e
  subst e1 e2 e3
  obtain ⟨off, rfl, hc⟩ := h3 hp
  exact run_convert_bytes_back (P := Tryz.prog) w 31 9 5 ⟨k, off, none⟩ c b Tryz.underlying31 Tryz.underlying5 Tryz.underlying9 (fun j hj => by rw [addr_add]; exact hc j hj)

theorem conv_same (w : World) (C : Array Value) (n c : Nat) : (convert 31 31 (.slice (some ⟨w.heap.size, 0, none⟩) n c)).run Tryz.prog (w.alloc (.cells C 5)) = .ok (.slice (some ⟨w.heap.size, 0, none⟩) n c) (w.alloc (.cells C 5 (C.size, C.size + 1))) :=
  Lib.run_convert_bytes_const w 31 5 C n c Tryz.underlying31 Tryz.underlying5
theorem lit_src (w : World) (l : List UInt8) (n : Nat) (row : Array Value) (fz : Nat × Nat) (hl : l.length = n) (hm : n ≤ maxLen) (hr : (rowB l).toArray = row) : Src (w.alloc (.cells row 5 fz)) w.heap.size (.slice (some ⟨w.heap.size, 0, none⟩) n n) l := by
  subst hr hl
  refine ⟨_, _, rfl, Nat.le_refl _, hm, fun _ => ⟨0, rfl, fun j hj => ?_⟩⟩
  have h := new_at w (.cells (rowB l).toArray 5 fz)
  have e : (rowB l).toArray[0 + j]? = some (bv l[j]) := by
    rw [Nat.zero_add, List.getElem?_toArray]
    unfold rowB
    rw [List.getElem?_map, List.getElem?_eq_getElem hj]; rfl
  unfold World.cell?
  rw [h]
  exact e

def Acc (w : World) (g : Nat) (v : Value) (X : List UInt8) : Prop := v.ownBlock = some g ∧ w.ownsRow 0 5 1 v X.length (rowB X)
theorem Acc.form {w : World} {g : Nat} {v : Value} {X : List UInt8} (h : Acc w g v X) : ∃ c, v = .slice (some ⟨g, 0, none⟩) X.length c := by
  obtain ⟨h1, h2, h3 | ⟨g', c, cur, hv, _⟩⟩ := h
  · rw [h3.1] at h1; cases h1
  · rw [hv] at h1
    have : g' = g := by simpa [Value.ownBlock] using h1
    subst this
    exact ⟨c, hv⟩
theorem Acc.src {w : World} {g : Nat} {v : Value} {X : List UInt8} (h : Acc w g v X) : Src w g v X := by
  obtain ⟨c, hv⟩ := h.form
  obtain ⟨h1, h2⟩ := h
  have h3 := h2
  obtain ⟨h4, h5 | ⟨g', c', cur, hv', _, hg, hl, hm, hs, ht⟩⟩ := h2
  · rw [hv] at h5; cases h5.1
  · rw [hv] at hv'
    obtain ⟨e1, e2, e3⟩ := slice_inj hv'
    have eg : g = g' := by simpa using e1
    subst e3
    refine ⟨_, _, hv, hl, hm, fun _ => ⟨0, rfl, fun j hj => ?_⟩⟩
    have k := (hv ▸ h3 : w.ownsRow 0 5 1 (.slice (some ⟨g, 0, none⟩) X.length c) X.length (rowB X)).cellAt j (by omega)
    rw [Nat.zero_add, k]
    unfold rowB
    rw [List.getElem?_map, List.getElem?_eq_getElem hj]; rfl
theorem Acc.lt {w : World} {g : Nat} {v : Value} {X : List UInt8} (h : Acc w g v X) : g < w.heap.size := by
  obtain ⟨h1, h2, h3 | ⟨g', c, cur, hv, _, hg, _⟩⟩ := h
  · rw [h3.1] at h1; cases h1
  · rw [hv] at h1
    have : g' = g := by simpa [Value.ownBlock] using h1
    subst this
    exact heap_lt hg
theorem Acc.frame {w w' : World} {g : Nat} {v : Value} {X : List UInt8} (h : Acc w g v X) (hk : w'.heap[g]? = w.heap[g]?) : Acc w' g v X := by
  obtain ⟨h1, h2, h3 | ⟨g', c, cur, hv, hb, hg, r⟩⟩ := h
  · rw [h3.1] at h1; cases h1
  · have hg' := h1
    rw [hv] at hg'
    have : g' = g := by simpa [Value.ownBlock] using hg'
    subst this
    exact ⟨h1, h2, .inr ⟨g', c, cur, hv, hb, hk.trans hg, r⟩⟩
theorem Acc.empty (w : World) : Acc (w.alloc (.cells #[] 5)) w.heap.size (.slice (some ⟨w.heap.size, 0, none⟩) 0 0) [] :=
  ⟨rfl, rfl, .inr ⟨w.heap.size, 0, #[], rfl, Nat.zero_le _, new_at _ _, Nat.le_refl _, by decide, rfl, rfl⟩⟩
theorem Src.take {w : World} {k n m c : Nat} {a : Option Addr} {b : List UInt8} (h : Src w k (.slice a n c) b) (hm : m ≤ b.length) : Src w k (.slice a m c) (b.take m) := by
  obtain ⟨a', c', e, h1, h2, h3⟩ := h
  obtain ⟨e1, e2, e3⟩ := slice_inj e
  subst e1 e2 e3
  have hl : (b.take m).length = m := by rw [List.length_take]; omega
  refine ⟨a, c, by rw [hl], by omega, h2, fun hp => ?_⟩
  obtain ⟨off, ha, hc⟩ := h3 (by omega)
  exact ⟨off, ha, fun j hj => by rw [List.getElem_take]; exact hc j (by omega)⟩
theorem Src.cut {w : World} {k n m c : Nat} {a a' : Option Addr} {b : List UInt8} (h : Src w k (.slice a n c) b) (hm : m ≤ b.length) (ha' : m < c → a' = a.map (fun x => x.add m)) : Src w k (.slice a' (n - m) (c - m)) (b.drop m) := by
  obtain ⟨a0, c', e, h1, h2, h3⟩ := h
  obtain ⟨e1, e2, e3⟩ := slice_inj e
  subst e1 e2 e3
  refine ⟨a', c - m, by rw [List.length_drop], by rw [List.length_drop]; omega, by omega, fun hp => ?_⟩
  rw [List.length_drop] at hp
  obtain ⟨off, ha, hc⟩ := h3 (by omega)
  refine ⟨off + m, by rw [ha' (by omega), ha]; simp [addr_add], fun j hj => ?_⟩
  rw [List.length_drop] at hj
  rw [List.getElem_drop, Nat.add_assoc]
  exact hc (m + j) (by omega)
theorem Src.any {w : World} {k g B : Nat} {v : Value} {b : List UInt8} (h : Src w k v b) (hk : 0 < b.length → k < B) : ∃ k', (k' < B ∨ k' = g) ∧ Src w k' v b := by
  rcases Nat.eq_zero_or_pos b.length with c | c
  · obtain ⟨a, c', e, h1, h2, h3⟩ := h
    exact ⟨g, .inr rfl, a, c', e, h1, h2, fun q => by omega⟩
  · exact ⟨k, .inl (hk c), h⟩
theorem cell_lt {w : World} {x : Addr} {v : Value} (h : w.cell? x = some v) : x.block < w.heap.size := by
  unfold World.cell? at h
  rcases Nat.lt_or_ge x.block w.heap.size with c | c
  · exact c
  · simp [Array.getElem?_eq_none c] at h
theorem open_bytes {H : Type} {enc : TypeId × Value → H} {w : World} {base : Nat} {held : Bool} {a : Option Addr} {len cap : Nat} {x : DataW H × List MemPlace}
    (h : ∃ fuel, DataW.trod enc Tryz.prog w base (fun _ => true) held fuel 31 (Value.slice a len cap).cells.toList = some x) : ∃ kb b, Src w kb (.slice a len cap) b ∧ (0 < b.length → kb < w.heap.size) ∧ (a = none → cap = 0) := by
  obtain ⟨fuel, hf⟩ := h
  rcases open_ints Tryz.underlying31 Tryz.underlying5 (by kernel_rfl) hf with ⟨hcs, _⟩ | ⟨x, l, c, zs, hcs, _, hl, hm, hz, _, hcell, hwz⟩
  · simp [Value.cells] at hcs
    obtain ⟨rfl, rfl, rfl⟩ := hcs
    exact ⟨0, [], ⟨none, 0, rfl, Nat.le_refl _, Nat.zero_le _, fun h => absurd h (Nat.lt_irrefl _)⟩, fun h => absurd h (Nat.lt_irrefl _), fun _ => rfl⟩
  · simp [Value.cells] at hcs
    obtain ⟨rfl, rfl, rfl⟩ := hcs
    have hz' : zs.length = cap := by simpa using hz
    have hbl : ((zs.take len).map fun z => z.toNat.toUInt8).length = len := by rw [List.length_map, List.length_take]; omega
    rcases Nat.eq_zero_or_pos len with h0 | h0
    · subst h0
      exact ⟨0, [], ⟨some x, cap, rfl, Nat.zero_le _, hm, fun h => absurd h (Nat.lt_irrefl _)⟩, fun h => absurd h (Nat.lt_irrefl _), fun h => by cases h⟩
    · obtain ⟨b, off, rfl, hc⟩ := ints_at hcell (by omega)
      refine ⟨b, (zs.take len).map fun z => z.toNat.toUInt8, ⟨_, cap, by rw [hbl], by rw [hbl]; exact hl, hm, fun _ => ⟨off, rfl, fun j hj => ?_⟩⟩, fun _ => cell_lt (hc 0 (by omega)), fun h => by cases h⟩
      have hj' : j < len := by rw [hbl] at hj; exact hj
      rw [hc j (by omega)]
      have hg : zs.getD j 0 = zs[j]'(by omega) := by simp [List.getD, List.getElem?_eq_getElem (show j < zs.length by omega)]
      have hb := bounds_u8 (hwz _ (List.getElem_mem (show j < zs.length by omega)))
      rw [hg, List.getElem_map, List.getElem_take]
      unfold bv
      generalize zs[j]'(by omega) = z at hb
      have e : (z.toNat.toUInt8.toNat : Int) = z := by
        have : z.toNat.toUInt8.toNat = z.toNat := by simp; omega
        rw [this]; omega
      rw [e]
end Go.Proofs.YtemmmdhmkegaaaaGreatDoor

/- A ring in memory: its block, its chain of segments, and the bytes that are in it; what stays where something else turns. -/
namespace Go.Proofs.YtemmmdhmkegaaaaGreatDoor
open Go.RowKit
set_option linter.unusedVariables false

theorem Kp.ofBut {T : Nat → Prop} {b : Nat} {u v : World} (h : But b u v) (hb : T b) : Kp T u v :=
  ⟨h.os, h.tape, h.output, Nat.le_of_eq h.size.symm, fun i hi hn => h.block i (fun e => hn (e ▸ hb))⟩
theorem Kp.set {T : Nat → Prop} (w : World) (b o : Nat) (v : Value) (hb : T b) : Kp T w (w.setCell ⟨b, o, none⟩ v) := Kp.ofBut (But.set b o w v) hb
theorem Kp.setRow {T : Nat → Prop} (w : World) (g : Nat) (cs : Array Value) (hb : T g) : Kp T w (w.setRow g cs) :=
  ⟨rfl, rfl, rfl, by simp [World.setRow], fun k hk hn => setRow_other w g k cs (fun e => hn (e ▸ hb))⟩
theorem Kp.isM {T : Nat → Prop} {c : Nat} {w w' : World} (h : Kp T w w') (hc : ¬ T c) {m x p : Int} (k : IsM w c m x p) : IsM w' c m x p := by
  have hl := k.lt
  unfold IsM at *; rw [h.block c hl hc]; exact k
def pt (o : Option Nat) : Value := .pointer (o.map fun b => ⟨b, 0, none⟩)
def segV (bs : List UInt8) (nx : Option Nat) : List Value := bs.map bv ++ [pt nx]
def IsS (w : World) (s : Nat) (bs : List UInt8) (nx : Option Nat) : Prop := bs.length = 64 ∧ w.heap[s]? = some (.cells (segV bs nx).toArray 140 (0, 0))
abbrev Seg := Nat × List UInt8
def hd (r : List Seg) (nx : Option Nat) : Option Nat := match r with | [] => nx | x :: _ => some x.1
def Chain (w : World) : List Seg → Option Nat → Prop
  | [], _ => True
  | x :: r, nx => IsS w x.1 x.2 (hd r nx) ∧ Chain w r nx
def flat (r : List Seg) : List UInt8 := (r.map (·.2)).flatten
def lastB (r : List Seg) : Option Nat := r.getLast?.map (·.1)
theorem hd_append (a b : List Seg) (nx : Option Nat) : hd (a ++ b) nx = hd a (hd b nx) := by cases a <;> rfl
theorem chain_append {w : World} (a b : List Seg) (nx : Option Nat) : Chain w (a ++ b) nx ↔ Chain w a (hd b nx) ∧ Chain w b nx := by
  induction a with
  | nil => simp [Chain]
  | cons x a ih => rw [List.cons_append, Chain, Chain, ih, hd_append, and_assoc]
theorem chain_frame {w w' : World} (r : List Seg) (nx : Option Nat) (h : ∀ x ∈ r, w'.heap[x.1]? = w.heap[x.1]?) (c : Chain w r nx) : Chain w' r nx := by
  induction r with
  | nil => trivial
  | cons x r ih =>
    obtain ⟨⟨c1, c2⟩, c3⟩ := c
    exact ⟨⟨c1, (h x (.head _)).trans c2⟩, ih (fun y hy => h y (.tail _ hy)) c3⟩
theorem chain_lt {w : World} (r : List Seg) (nx : Option Nat) (c : Chain w r nx) : ∀ x ∈ r, x.1 < w.heap.size := by
  induction r with
  | nil => intro x hx; cases hx
  | cons y r ih =>
    intro x hx
    cases hx with
    | head => exact heap_lt c.1.2
    | tail _ hx => exact ih c.2 x hx
theorem flat_cons (x : Seg) (r : List Seg) : flat (x :: r) = x.2 ++ flat r := rfl
theorem flat_append (a b : List Seg) : flat (a ++ b) = flat a ++ flat b := by unfold flat; rw [List.map_append, List.flatten_append]
theorem flat_one (x : Seg) : flat [x] = x.2 := by simp [flat]
theorem flat_length {w : World} (r : List Seg) (nx : Option Nat) (c : Chain w r nx) : (flat r).length = 64 * r.length := by
  induction r with
  | nil => rfl
  | cons x r ih => rw [flat_cons, List.length_append, c.1.1, ih c.2, List.length_cons]; omega
theorem lastB_snoc (a : List Seg) (x : Seg) : lastB (a ++ [x]) = some x.1 := by simp [lastB]
structure RgX (w : World) (r mb : Nat) (segs : List Seg) (pad l junk : List UInt8) : Prop where
  blk : w.heap[r]? = some (.cells #[.pointer (some ⟨mb, 0, none⟩), pt (hd segs none), pt (lastB segs), .int .i64 pad.length, .int .i64 l.length] 111)
  chain : Chain w segs none
  nd : (segs.map (·.1)).Nodup
  nr : r ∉ segs.map (·.1)
  fl : flat segs = pad ++ l ++ junk
def Shut (segs : List Seg) (pad l junk : List UInt8) : Prop := (segs = [] ∧ pad = [] ∧ l = [] ∧ junk = []) ∨ (0 < l.length ∧ pad.length < 64 ∧ junk.length < 64)
structure Foot (w : World) (r mb : Nat) (S : Nat → Prop) (segs : List Seg) : Prop where
  r : S r
  segs : ∀ x ∈ segs, S x.1
  lt : ∀ k, S k → k < w.heap.size
  mb : ¬ S mb
def Rg (w : World) (r mb : Nat) (S : Nat → Prop) (l : List UInt8) : Prop := ∃ segs pad junk, RgX w r mb segs pad l junk ∧ Shut segs pad l junk ∧ Foot w r mb S segs

theorem IsS.next {w : World} {s : Nat} {bs : List UInt8} {nx : Option Nat} (h : IsS w s bs nx) : w.cell? ⟨s, 64, none⟩ = some (pt nx) := by
  refine ring_cell h.2 ?_
  rw [List.getElem?_toArray, segV, List.getElem?_append_right (by rw [List.length_map, h.1]; exact Nat.le_refl _), List.length_map, h.1]
  rfl
theorem IsS.byte {w : World} {s : Nat} {bs : List UInt8} {nx : Option Nat} (h : IsS w s bs nx) (j : Nat) (hj : j < bs.length) : w.cell? ⟨s, j, none⟩ = some (bv bs[j]) := by
  refine ring_cell h.2 ?_
  rw [List.getElem?_toArray, segV, List.getElem?_append_left (by rw [List.length_map]; exact hj), List.getElem?_map, List.getElem?_eq_getElem hj]
  rfl
theorem RgX.frame {w w' : World} {r mb : Nat} {segs : List Seg} {pad l junk : List UInt8} (h : RgX w r mb segs pad l junk) (hr : w'.heap[r]? = w.heap[r]?) (hs : ∀ x ∈ segs, w'.heap[x.1]? = w.heap[x.1]?) : RgX w' r mb segs pad l junk :=
  ⟨hr.trans h.blk, chain_frame _ _ hs h.chain, h.nd, h.nr, h.fl⟩
theorem Rg.keep {w w' : World} {r mb : Nat} {S T : Nat → Prop} {l : List UInt8} (h : Rg w r mb S l) (k : Kp T w w') (hd : ∀ i, S i → ¬ T i) : Rg w' r mb S l := by
  obtain ⟨segs, pad, junk, h1, h2, h3⟩ := h
  refine ⟨segs, pad, junk, h1.frame (k.block _ (h3.lt _ h3.r) (hd _ h3.r)) (fun x hx => k.block _ (h3.lt _ (h3.segs x hx)) (hd _ (h3.segs x hx))), h2, h3.r, h3.segs, fun i hi => Nat.lt_of_lt_of_le (h3.lt i hi) k.size, h3.mb⟩
theorem Rg.lt {w : World} {r mb : Nat} {S : Nat → Prop} {l : List UInt8} (h : Rg w r mb S l) : ∀ i, S i → i < w.heap.size := by
  obtain ⟨segs, pad, junk, h1, h2, h3⟩ := h; exact h3.lt
theorem Rg.nomb {w : World} {r mb : Nat} {S : Nat → Prop} {l : List UInt8} (h : Rg w r mb S l) : ¬ S mb := by
  obtain ⟨segs, pad, junk, h1, h2, h3⟩ := h; exact h3.mb
end Go.Proofs.YtemmmdhmkegaaaaGreatDoor

/- grow and behind. -/
namespace Go.Proofs.YtemmmdhmkegaaaaGreatDoor
open Go.RowKit
set_option linter.unusedVariables false

def zb : List UInt8 := List.replicate 64 0
def zseg : Array Value := (segV zb none).toArray
theorem infoSeg : (Tryz.prog.info? 140).map (fun i => (i.zero, i.size, i.bytes)) = some (some (.agg zseg), 65, 72) := by kernel_rfl
theorem zeroSeg (w : World) : (zeroValue 140).run Tryz.prog w = .ok (.agg zseg) w := by
  obtain ⟨i, hi, hz0, hz1, hz2⟩ := info_parts infoSeg
  simp [zeroValue, typeInfo, hi, hz0]
theorem IsS.setNext {w : World} {s : Nat} {bs : List UInt8} {nx : Option Nat} (h : IsS w s bs nx) (n : Nat) : IsS (w.setCell ⟨s, 64, none⟩ (.pointer (some ⟨n, 0, none⟩))) s bs (some n) := by
  refine ⟨h.1, ?_⟩
  rw [ring_set h.2]
  have e : (segV bs nx).toArray.setIfInBounds 64 (.pointer (some ⟨n, 0, none⟩)) = (segV bs (some n)).toArray := by
    unfold segV
    rw [List.setIfInBounds_toArray, List.set_append_right _ _ (by rw [List.length_map, h.1]; exact Nat.le_refl _), List.length_map, h.1]
    rfl
  rw [e]
theorem rgx_grow {w w' : World} {r mb s n : Nat} {b : List UInt8} {pre : List Seg} {pad l junk : List UInt8} (h : RgX w r mb (pre ++ [(s, b)]) pad l junk) (hn : w.heap.size ≤ n)
    (hr : w'.heap[r]? = some (.cells #[.pointer (some ⟨mb, 0, none⟩), pt (hd (pre ++ [(s, b)]) none), pt (some n), .int .i64 pad.length, .int .i64 l.length] 111))
    (hs : IsS w' s b (some n)) (hnew : w'.heap[n]? = some (.cells zseg 140)) (hpre : ∀ x ∈ pre, w'.heap[x.1]? = w.heap[x.1]?) :
    RgX w' r mb ((pre ++ [(s, b)]) ++ [(n, zb)]) pad l (junk ++ zb) := by
  have hlt := chain_lt _ _ h.chain
  refine ⟨?_, ?_, ?_, ?_, ?_⟩
  · rw [hr, lastB_snoc, hd_append, hd_append]
    cases pre <;> rfl
  · rw [chain_append, chain_append]
    have hc := h.chain
    rw [chain_append] at hc
    exact ⟨⟨chain_frame _ _ hpre hc.1, hs, trivial⟩, ⟨show zb.length = 64 by decide, hnew⟩, trivial⟩
  · rw [List.map_append, List.nodup_append]
    refine ⟨h.nd, by simp, fun a ha c hc => ?_⟩
    obtain ⟨x, hx, rfl⟩ := List.mem_map.1 ha
    have := hlt x hx
    have e : c = n := by simpa using hc
    omega
  · rw [List.map_append, List.mem_append]
    rintro (c | c)
    · exact h.nr c
    · have e : r = n := by simpa using c
      have := heap_lt h.blk
      omega
  · rw [flat_append, h.fl, flat_one]; simp
theorem rgx_grow0 {w w' : World} {r mb n : Nat} {pad l junk : List UInt8} (h : RgX w r mb [] pad l junk) (hn : w.heap.size ≤ n)
    (hr : w'.heap[r]? = some (.cells #[.pointer (some ⟨mb, 0, none⟩), pt (some n), pt (some n), .int .i64 pad.length, .int .i64 l.length] 111))
    (hnew : w'.heap[n]? = some (.cells zseg 140)) :
    RgX w' r mb ([] ++ [(n, zb)]) pad l (junk ++ zb) := by
  refine ⟨hr, ⟨⟨show zb.length = 64 by decide, hnew⟩, trivial⟩, by simp, ?_, ?_⟩
  · have := heap_lt h.blk
    simp; omega
  · have := h.fl
    rw [List.nil_append, flat_one, ← List.append_assoc, ← this]; rfl
def InR (r : Nat) (segs : List Seg) (k : Nat) : Prop := k = r ∨ k ∈ segs.map (·.1)

theorem slice_seg (s n : Nat) (w : World) (h : n < 64) : (Instr.sliceAt 138 (.pointer (some ⟨s, 0, none⟩)) (some (.int .i64 (n : Int))) none none).run Tryz.prog w = .ok (.slice (some ⟨s, n, none⟩) (64 - n) (64 - n)) w := by
  have hl : Tryz.prog.arrayLen 138 = 64 := by kernel_rfl
  have he : Tryz.prog.elem 138 = 5 := by kernel_rfl
  have hu : Tryz.prog.underlying 138 = some (.array (Tryz.prog.arrayLen 138) (Tryz.prog.elem 138)) := by rw [hl, he]; exact Tryz.underlying138
  rw [run_sliceAt_array_l w 138 ⟨s, 0, none⟩ hu .i64 (n : Int) (by omega) (by rw [hl]; omega), hl, he, Tryz.sizeOf5]
  simp only [Result.andThen_ok, slicedAt]
  rw [if_neg (by omega), Int.toNat_natCast, addr_add, Nat.mul_one, Nat.zero_add]
theorem RgX.drewN {w : World} {r mb : Nat} {segs : List Seg} {pad l junk : List UInt8} (h : RgX w r mb segs pad l junk) (n : Nat) : RgX (w.drewN n) r mb segs pad l junk :=
  h.frame (by simp [World.drewN]) (fun x hx => by simp [World.drewN])
theorem Kp.drewN (T : Nat → Prop) (w : World) (n : Nat) : Kp T w (w.drewN n) := Kp.ofBelow ((But.drewN w.heap.size n w).below (Nat.le_refl _))

set_option maxRecDepth 100000 in
set_option maxHeartbeats 2000000 in
theorem grow_any (r mb : Nat) (segs : List Seg) (pad l junk : List UInt8) (w : World) (h : RgX w r mb segs pad l junk) :
    Calls Tryz.prog 85 #[.pointer (some ⟨r, 0, none⟩)] w fun e w' => e = .returned (.tuple #[]) ∧ RgX w' r mb (segs ++ [(w.heap.size, zb)]) pad l (junk ++ zb) ∧ Kp (InR r segs) w w' := by
  have hb := h.blk
  have hlt := heap_lt hb
  have hzv := zeroSeg
  rcases List.eq_nil_or_concat segs with rfl | ⟨pre, ⟨s, b⟩, rfl⟩
  · have c1 : w.cell? ⟨r, 1, none⟩ = some (.pointer none) := ring_cell hb rfl
    have c2 : w.cell? ⟨r, 2, none⟩ = some (.pointer none) := ring_cell hb rfl
    have z1 : w.frozen? ⟨r, 1, none⟩ = false := ring_z hb
    have z2 : w.frozen? ⟨r, 2, none⟩ = false := ring_z hb
    have HR : Hid (RgX ((((w.setCell ⟨r, 1, none⟩ (.pointer (some ⟨w.heap.size, 0, none⟩))).setCell ⟨r, 2, none⟩ (.pointer (some ⟨w.heap.size, 0, none⟩))).alloc (.cells zseg 140))) r mb ([] ++ [(w.heap.size, zb)]) pad l (junk ++ zb)) := by
      refine rgx_grow0 h (Nat.le_refl _) ?_ ?_
      · rw [Below.heap_alloc _ _ _ (by simp [World.setCell]; exact hlt), ring_set (ring_set hb)]; rfl
      · have k := new_at ((w.setCell ⟨r, 1, none⟩ (.pointer (some ⟨w.heap.size, 0, none⟩))).setCell ⟨r, 2, none⟩ (.pointer (some ⟨w.heap.size, 0, none⟩))) (.cells zseg 140)
        rw [show ((w.setCell ⟨r, 1, none⟩ (.pointer (some ⟨w.heap.size, 0, none⟩))).setCell ⟨r, 2, none⟩ (.pointer (some ⟨w.heap.size, 0, none⟩))).heap.size = w.heap.size by simp [World.setCell]] at k
        exact k
    have HK : Kp (InR r []) w ((((w.setCell ⟨r, 1, none⟩ (.pointer (some ⟨w.heap.size, 0, none⟩))).setCell ⟨r, 2, none⟩ (.pointer (some ⟨w.heap.size, 0, none⟩))).alloc (.cells zseg 140))) := ((Kp.set w r 1 _ (.inl rfl)).then (Kp.set _ r 2 _ (.inl rfl))).then (Kp.alloc _ _ _)
    clear h hb
    go_enter Tryz.func85, Tryz.ntmps85
    go_wp2
    refine bodyPost_end (results_none rfl _ _ _) rfl ?_
    exact ⟨rfl, HR.out, HK⟩
  · rw [List.concat_eq_append] at *
    have hne : r ≠ s := fun e => h.nr (by rw [e]; simp)
    have hne2 : s ≠ r := fun e => hne e.symm
    have hS : IsS w s b none := by have hc := h.chain; rw [chain_append] at hc; exact hc.2.1
    rw [lastB_snoc] at hb
    have c2 : w.cell? ⟨r, 2, none⟩ = some (.pointer (some ⟨s, 0, none⟩)) := ring_cell hb rfl
    have c3 : w.cell? ⟨s, 64, none⟩ = some (.pointer none) := hS.next
    have z1 : w.frozen? ⟨s, 64, none⟩ = false := ring_z hS.2
    have z2 : w.frozen? ⟨r, 2, none⟩ = false := ring_z hb
    have hnd : ∀ x ∈ pre, x.1 ≠ s := fun x hx e => by
      have k := h.nd
      rw [List.map_append, List.nodup_append] at k
      exact k.2.2 x.1 (List.mem_map.2 ⟨x, hx, rfl⟩) s (by simp) e
    have hnr : ∀ x ∈ pre, x.1 ≠ r := fun x hx e => h.nr (by rw [← e, List.map_append, List.mem_append]; exact .inl (List.mem_map.2 ⟨x, hx, rfl⟩))
    have HR : Hid (RgX ((((w.setCell ⟨s, 64, none⟩ (.pointer (some ⟨w.heap.size, 0, none⟩))).setCell ⟨r, 2, none⟩ (.pointer (some ⟨w.heap.size, 0, none⟩))).alloc (.cells zseg 140))) r mb ((pre ++ [(s, b)]) ++ [(w.heap.size, zb)]) pad l (junk ++ zb)) := by
      have hls := heap_lt hS.2
      refine rgx_grow h (Nat.le_refl _) ?_ ?_ ?_ ?_
      · rw [Below.heap_alloc _ _ _ (by simp [World.setCell]; exact hlt), ring_set (show (w.setCell ⟨s, 64, none⟩ (.pointer (some ⟨w.heap.size, 0, none⟩))).heap[r]? = _ from ((But.set s 64 w _).block r hne).trans hb)]
        cases pre <;> rfl
      · have k := hS.setNext w.heap.size
        exact ⟨k.1, by rw [Below.heap_alloc _ _ _ (by simp [World.setCell]; exact hls), (But.set r 2 _ _).block s hne2]; exact k.2⟩
      · have k := new_at ((w.setCell ⟨s, 64, none⟩ (.pointer (some ⟨w.heap.size, 0, none⟩))).setCell ⟨r, 2, none⟩ (.pointer (some ⟨w.heap.size, 0, none⟩))) (.cells zseg 140)
        rw [show ((w.setCell ⟨s, 64, none⟩ (.pointer (some ⟨w.heap.size, 0, none⟩))).setCell ⟨r, 2, none⟩ (.pointer (some ⟨w.heap.size, 0, none⟩))).heap.size = w.heap.size by simp [World.setCell]] at k
        exact k
      · intro x hx
        have hxl := chain_lt _ _ h.chain x (List.mem_append.2 (.inl hx))
        rw [Below.heap_alloc _ _ _ (by simp [World.setCell]; exact hxl), (But.set r 2 _ _).block _ (hnr x hx), (But.set s 64 _ _).block _ (hnd x hx)]
    have HK : Kp (InR r (pre ++ [(s, b)])) w ((((w.setCell ⟨s, 64, none⟩ (.pointer (some ⟨w.heap.size, 0, none⟩))).setCell ⟨r, 2, none⟩ (.pointer (some ⟨w.heap.size, 0, none⟩))).alloc (.cells zseg 140))) := ((Kp.set w s 64 _ (.inr (by simp))).then (Kp.set _ r 2 _ (.inl rfl))).then (Kp.alloc _ _ _)
    have hls := heap_lt hS.2
    clear h hb hS hnd hnr
    go_enter Tryz.func85, Tryz.ntmps85
    go_wp2
    refine bodyPost_end (results_none rfl _ _ _) rfl ?_
    exact ⟨rfl, HR.out, HK⟩

theorem open_at {w : World} {r mb : Nat} {segs : List Seg} {pad l junk : List UInt8} (h : RgX w r mb segs pad l junk) (hj : 0 < junk.length) (hj2 : junk.length ≤ 64) :
    ∃ pre s t, segs = pre ++ [(s, t ++ junk)] ∧ t.length + junk.length = 64 ∧ pad.length + l.length = 64 * pre.length + t.length := by
  rcases List.eq_nil_or_concat segs with rfl | ⟨pre, ⟨s, b⟩, rfl⟩
  · have := congrArg List.length h.fl
    simp [flat] at this; omega
  · rw [List.concat_eq_append] at *
    have hc := h.chain
    rw [chain_append] at hc
    have hb : b.length = 64 := hc.2.1.1
    have hp := flat_length _ _ hc.1
    have hf := h.fl
    rw [flat_append, flat_one] at hf
    have hl := congrArg List.length hf
    simp only [List.length_append] at hl
    rcases List.append_eq_append_iff.1 hf with ⟨t, e1, e2⟩ | ⟨t, e1, e2⟩
    · have e3 := congrArg List.length e1
      simp only [List.length_append] at e3
      refine ⟨pre, s, t, by rw [show b = t ++ junk from e2], ?_, ?_⟩
      · have := congrArg List.length e2
        simp only [List.length_append] at this
        omega
      · omega
    · have e3 := congrArg List.length e1
      have e4 := congrArg List.length e2
      simp only [List.length_append] at e3 e4
      have : t = [] := List.eq_nil_of_length_eq_zero (by omega)
      subst this
      simp only [List.append_nil, List.nil_append] at e1 e2
      refine ⟨pre, s, [], by rw [List.nil_append, e2], by simp; omega, ?_⟩
      simp only [List.length_nil] at *
      omega

set_option maxRecDepth 100000 in
set_option maxHeartbeats 2000000 in
theorem behind_any (r mb : Nat) (segs : List Seg) (pad l junk : List UInt8) (w : World) (h : RgX w r mb segs pad l junk) (hs : Shut segs pad l junk) (hl : l.length ≤ 1099511627776) :
    Calls Tryz.prog 64 #[.pointer (some ⟨r, 0, none⟩)] w fun e w' => ∃ pre s t junk', e = .returned (.slice (some ⟨s, t.length, none⟩) (64 - t.length) (64 - t.length)) ∧ RgX w' r mb (pre ++ [(s, t ++ junk')]) pad l junk' ∧ t.length < 64 ∧
      (∀ x ∈ pre ++ [(s, t ++ junk')], x.1 ∈ segs.map (·.1) ∨ w.heap.size ≤ x.1) ∧ (∀ x ∈ pre ++ [(s, t ++ junk')], x.1 < w'.heap.size) ∧ Kp (InR r segs) w w' := by
  have hb := h.blk
  have c3 : w.cell? ⟨r, 3, none⟩ = some (.int .i64 pad.length) := ring_cell hb rfl
  have c4 : w.cell? ⟨r, 4, none⟩ = some (.int .i64 l.length) := ring_cell hb rfl
  have hfl := flat_length _ _ h.chain
  rw [h.fl] at hfl
  simp only [List.length_append] at hfl
  have hp64 : pad.length < 64 := by rcases hs with ⟨_, rfl, _, _⟩ | ⟨_, h1, _⟩; exact (by decide); exact h1
  have hj64 : junk.length < 64 := by rcases hs with ⟨_, _, _, rfl⟩ | ⟨_, _, h1⟩; exact (by decide); exact h1
  by_cases hj : junk.length = 0
  · have hm : ((pad.length : Int) + (l.length : Int)).tmod 64 = 0 := by
      rw [← Int.natCast_add, show pad.length + l.length = 64 * segs.length by omega, Int.natCast_mul]
      exact Int.mul_tmod_right _ _
    obtain rfl : junk = [] := List.eq_nil_of_length_eq_zero hj
    clear hs hfl hj hj64 hb
    go_enter Tryz.func64, Tryz.ntmps64
    go_wp2
    go_quiet (fail)
    go_wp2_with fail
    refine (grow_any r mb segs pad l [] _ (h.drewN _)).mono ?_
    rintro e w1 ⟨rfl, h1, k1⟩
    have hb1 := h1.blk
    rw [lastB_snoc] at hb1
    have hsz : (w.drewN nq).heap.size = w.heap.size := by simp [World.drewN]
    rw [hsz] at h1 hb1
    have c2 : w1.cell? ⟨r, 2, none⟩ = some (.pointer (some ⟨w.heap.size, 0, none⟩)) := ring_cell hb1 rfl
    have hx := chain_lt _ _ h1.chain
    have hsl := slice_seg w.heap.size 0 w1 (by decide)
    have HR : Hid (RgX w1 r mb (segs ++ [(w.heap.size, [] ++ zb)]) pad l zb) := h1
    clear hb1 h1 c3 c4 h
    go_wp2
    go_ret
    exact ⟨segs, w.heap.size, [], zb, rfl, HR.out, by decide, fun x hx => by
      rcases List.mem_append.1 hx with hx | hx
      · exact .inl (List.mem_map.2 ⟨x, hx, rfl⟩)
      · rw [List.mem_singleton.1 hx]; exact .inr (Nat.le_refl _), hx, (Kp.drewN _ _ _).then k1⟩
  · obtain ⟨pre, s, t, rfl, ht, hsum⟩ := open_at h (by omega) (by omega)
    have hm : ((pad.length : Int) + (l.length : Int)).tmod 64 = (t.length : Int) := by
      rw [← Int.natCast_add, hsum, Int.tmod_eq_emod_of_nonneg (by omega)]
      omega
    have ht0 : t.length < 64 := by omega
    have ht1 : ¬ (t.length : Int) = 0 := by omega
    rw [lastB_snoc] at hb
    have c2 : w.cell? ⟨r, 2, none⟩ = some (.pointer (some ⟨s, 0, none⟩)) := ring_cell hb rfl
    have HR : Hid (RgX w r mb (pre ++ [(s, t ++ junk)]) pad l junk) := h
    have hx := chain_lt _ _ h.chain
    have hsl := fun w => slice_seg s t.length w ht0
    clear hs hfl hj hj64 hb h hsum
    go_enter Tryz.func64, Tryz.ntmps64
    go_wp2
    go_quiet (fail)
    go_wp2
    go_ret
    exact ⟨pre, s, t, junk, rfl, HR.out.drewN _, ht0, fun x hx => .inl (List.mem_map.2 ⟨x, hx, rfl⟩), fun x h => by simpa [World.drewN] using hx x h, Kp.drewN _ _ _⟩
end Go.Proofs.YtemmmdhmkegaaaaGreatDoor

/- Conn: Close of an open latch that is told to call dropIn. -/
namespace Go.Proofs.YtemmmdhmkegaaaaGreatDoor
open Go.RowKit
set_option linter.unusedVariables false

theorem blkL_set {w : World} {b i : Nat} {c : Array Value} {t : TypeId} (h : w.heap[b]? = some (.cells c t)) (v : Value) : (w.setCell ⟨b, i, none⟩ v).heap[b]? = some (.cells (c.setIfInBounds i v) t) := by
  simp [World.setCell, Array.getElem?_modify, h]
theorem blkL_other {w : World} {b k i : Nat} (hne : b ≠ k) (v : Value) : (w.setCell ⟨k, i, none⟩ v).heap[b]? = w.heap[b]? := Below.heap_setCell _ _ _ _ hne
theorem blkL_z {w : World} {b : Nat} {c : Array Value} {t : TypeId} (h : w.heap[b]? = some (.cells c t)) (i : Nat) : w.frozen? ⟨b, i, none⟩ = false := by
  simp [World.frozen?, h]
set_option maxRecDepth 100000 in
set_option maxHeartbeats 1600000 in
theorem close_openL (b : Nat) (v0 v1 v2 v3 v4 v7 : Value) (w : World) (Q : World → World → Prop) (hb : w.heap[b]? = some (.cells #[v0, v1, v2, v3, v4, .int .u32 0, .int .i32 0, v7, .int .u32 0] 95))
    (HF : ∀ W, Kp (fun k => k = b) w W → W.heap[b]? = some (.cells #[v0, v1, v2, v3, v4, .int .u32 0, .int .i32 1, v7, .int .u32 0] 95) → Calls Tryz.prog 70 #[.pointer (some ⟨b, 0, none⟩)] W fun e w' => e = .returned (.tuple #[]) ∧ Q W w')
    (hQ : ∀ W W', Q W W' → W'.heap[b]? = W.heap[b]? ∧ ∀ k, w.heap.size ≤ k → k < W.heap.size → W'.heap[k]? = W.heap[k]?) :
    Calls Tryz.prog 69 #[.pointer (some ⟨b, 5, none⟩), .func (.func 70) #[.pointer (some ⟨b, 0, none⟩)] #[]] w fun e w' => e = .returned (.bool true) ∧ ∃ W W', Kp (fun k => k = b) w W ∧ Q W W' ∧ Kp (fun k => k = b) W' w' ∧ w'.heap[b]? = some (.cells #[v0, v1, v2, v3, v4, .int .u32 1, .int .i32 0, v7, .int .u32 1] 95) := by
  have hlt : b < w.heap.size := (Array.getElem?_eq_some_iff.1 hb).1
  have hb0 : (W0L w b (.func (.func 70) #[.pointer (some ⟨b, 0, none⟩)] #[])).heap[b]? = _ := W0L_old hb
  have hb1 := blkL_set (i := 6) hb0 (.int .i32 1)
  have q0 := (blkL_other (w := W0L w b (.func (.func 70) #[.pointer (some ⟨b, 0, none⟩)] #[])) (b := w.heap.size) (k := b) (i := 6) (by omega) (.int .i32 1)).trans (W0L_l w b (.func (.func 70) #[.pointer (some ⟨b, 0, none⟩)] #[]))
  have q1 := (blkL_other (w := W0L w b (.func (.func 70) #[.pointer (some ⟨b, 0, none⟩)] #[])) (b := w.heap.size + 1) (k := b) (i := 6) (by omega) (.int .i32 1)).trans (W0L_f w b (.func (.func 70) #[.pointer (some ⟨b, 0, none⟩)] #[]))
  have q2 := (blkL_other (w := W0L w b (.func (.func 70) #[.pointer (some ⟨b, 0, none⟩)] #[])) (b := w.heap.size + 1 + 1) (k := b) (i := 6) (by omega) (.int .i32 1)).trans (W0L_b w b (.func (.func 70) #[.pointer (some ⟨b, 0, none⟩)] #[]))
  have hs1 : ((W0L w b (.func (.func 70) #[.pointer (some ⟨b, 0, none⟩)] #[])).setCell ⟨b, 6, none⟩ (.int .i32 1)).heap.size = w.heap.size + 3 := by simp [World.setCell, W0L_size]
  have K1 : Kp (fun k => k = b) w ((W0L w b (.func (.func 70) #[.pointer (some ⟨b, 0, none⟩)] #[])).setCell ⟨b, 6, none⟩ (.int .i32 1)) := (Kp.ofBelow (W0L_below w b _)).then (Kp.set _ b 6 _ rfl)
  obtain ⟨W1, hW1⟩ : ∃ W1, W1 = (W0L w b (.func (.func 70) #[.pointer (some ⟨b, 0, none⟩)] #[])).setCell ⟨b, 6, none⟩ (.int .i32 1) := ⟨_, rfl⟩
  rw [← hW1] at hb1 q0 q1 q2 hs1 K1
  have q3 := blkL_set (i := 0) q2 (.bool true)
  have hb2 := (blkL_other (w := W1) (b := b) (k := w.heap.size + 1 + 1) (i := 0) (by omega) (.bool true)).trans hb1
  have K2 : Kp (fun k => k = b) w (W1.setCell ⟨w.heap.size + 1 + 1, 0, none⟩ (.bool true)) := K1.trans (Kp.set (T := fun k => k = w.heap.size + 1 + 1) W1 (w.heap.size + 1 + 1) 0 _ rfl) (fun i c => .inr (by omega))
  have hs2 : (W1.setCell ⟨w.heap.size + 1 + 1, 0, none⟩ (.bool true)).heap.size = w.heap.size + 3 := by rw [← hs1]; simp [World.setCell]
  have hf := HF _ K2 hb2
  have hbW : ∀ W', Q (W1.setCell ⟨w.heap.size + 1 + 1, 0, none⟩ (.bool true)) W' → W'.heap[b]? = _ := fun W' hq => (hQ _ _ hq).1.trans hb2
  have hpW : ∀ W', Q (W1.setCell ⟨w.heap.size + 1 + 1, 0, none⟩ (.bool true)) W' → W'.heap[w.heap.size + 1 + 1]? = _ := fun W' hq => ((hQ _ _ hq).2 _ (by omega) (by omega)).trans q3
  have HB := body_drop b w.heap.size (w.heap.size + 1 + 1) (w.heap.size + 1) (.bool false) W1 (Q (W1.setCell ⟨w.heap.size + 1 + 1, 0, none⟩ (.bool true)))
    (fun W2 => ∃ W', Q (W1.setCell ⟨w.heap.size + 1 + 1, 0, none⟩ (.bool true)) W' ∧ W2 = W'.drew.setCell ⟨b, 8, none⟩ (.int .u32 1))
    (blkL_cell q0 rfl) (blkL_cell q2 rfl) (blkL_z q2 0) (blkL_cell q1 rfl) (by omega) (by omega) hf (fun W' hq => ⟨⟨_, blkL_cell (hbW W' hq) rfl⟩, blkL_z (hbW W' hq) 8, W', hq, rfl⟩)
  have HB2 : Calls Tryz.prog 94 (capsL w) ((W0L w b (.func (.func 70) #[.pointer (some ⟨b, 0, none⟩)] #[])).setCell ⟨b, 6, none⟩ (.int .i32 1)) fun e w' => e = .returned (.tuple #[]) ∧ ∃ W', Q (W1.setCell ⟨w.heap.size + 1 + 1, 0, none⟩ (.bool true)) W' ∧ w' = W'.drew.setCell ⟨b, 8, none⟩ (.int .u32 1) := by rw [← hW1]; exact HB
  have HD := do_gen b (capsL w) (W0L w b (.func (.func 70) #[.pointer (some ⟨b, 0, none⟩)] #[])) _
    (fun w' => ∃ W', Q (W1.setCell ⟨w.heap.size + 1 + 1, 0, none⟩ (.bool true)) W' ∧ w' = ((W'.drew.setCell ⟨b, 8, none⟩ (.int .u32 1)).drew.setCell ⟨b, 5, none⟩ (.int .u32 1)).setCell ⟨b, 6, none⟩ (.int .i32 0))
    (blkL_cell hb0 rfl) (blkL_cell hb0 rfl) (blkL_z hb0 5) (blkL_z hb0 6) HB2 (fun W2 h => by
      obtain ⟨W', hq, e⟩ := h
      have h3 := blkL_set (w := W'.drew) (i := 8) (hbW W' hq) (.int .u32 1)
      rw [e]
      exact ⟨blkL_cell h3 rfl, blkL_cell h3 rfl, blkL_z h3 5, blkL_z h3 6, W', hq, rfl⟩)
  refine (close_genL b _ _ _ w _ true hlt HD ?_).mono ?_
  · rintro W ⟨W', hq, rfl⟩
    refine blkL_cell (c := #[.bool true]) (t := 4) ?_ rfl
    rw [blkL_other (by omega), blkL_other (by omega)]
    show ((W'.drew.setCell ⟨b, 8, none⟩ (.int .u32 1)).heap[w.heap.size + 1 + 1]?) = _
    rw [blkL_other (by omega)]
    exact hpW W' hq
  · rintro e w' ⟨rfl, W', hq, rfl⟩
    refine ⟨rfl, _, W', K2, hq, ?_, ?_⟩
    · exact ((((Kp.drewN (fun k => k = b) W' 1).then (Kp.set _ b 8 _ rfl)).then (Kp.drewN _ _ 1)).then (Kp.set _ b 5 _ rfl)).then (Kp.set _ b 6 _ rfl)
    · have h3 := blkL_set (w := W'.drew) (i := 8) (hbW W' hq) (.int .u32 1)
      exact blkL_set (i := 6) (blkL_set (w := (W'.drew.setCell ⟨b, 8, none⟩ (.int .u32 1)).drew) (i := 5) h3 (.int .u32 1)) (.int .i32 0)
end Go.Proofs.YtemmmdhmkegaaaaGreatDoor

/- Put. -/
namespace Go.Proofs.YtemmmdhmkegaaaaGreatDoor
open Go.RowKit
set_option linter.unusedVariables false

theorem copy_in {w w' : World} {r mb s : Nat} {pre : List Seg} {t cs junk pad l : List UInt8} (h : RgX w r mb (pre ++ [(s, t ++ junk)]) pad l junk) (hc : cs.length ≤ junk.length)
    (hr : w'.heap[r]? = some (.cells #[.pointer (some ⟨mb, 0, none⟩), pt (hd (pre ++ [(s, t ++ junk)]) none), pt (some s), .int .i64 pad.length, .int .i64 (l.length + cs.length : Nat)] 111))
    (hs : w'.heap[s]? = some (.cells ((segV (t ++ junk) none).take t.length ++ (cs.map bv ++ (segV (t ++ junk) none).drop (t.length + cs.length))).toArray 140 (0, 0)))
    (hpre : ∀ x ∈ pre, w'.heap[x.1]? = w.heap[x.1]?) : RgX w' r mb (pre ++ [(s, t ++ cs ++ junk.drop cs.length)]) pad (l ++ cs) (junk.drop cs.length) := by
  have hch := h.chain
  rw [chain_append] at hch
  have h64 : (t ++ junk).length = 64 := hch.2.1.1
  rw [List.length_append] at h64
  have e : (segV (t ++ junk) none).take t.length ++ (cs.map bv ++ (segV (t ++ junk) none).drop (t.length + cs.length)) = segV (t ++ cs ++ junk.drop cs.length) none := by
    unfold segV
    rw [List.map_append, List.append_assoc, List.take_append_of_le_length (by simp), List.take_of_length_le (by simp), List.drop_append, List.length_map]
    rw [List.drop_eq_nil_of_le (by simp), show t.length + cs.length - t.length = cs.length by omega, List.drop_append_of_le_length (by simpa using hc)]
    simp [List.map_append, List.map_drop]
  rw [e] at hs
  refine ⟨?_, ?_, ?_, ?_, ?_⟩
  · rw [hr, lastB_snoc, hd_append, hd_append, List.length_append]
    cases pre <;> rfl
  · rw [chain_append]
    exact ⟨chain_frame _ _ hpre hch.1, ⟨by simp; omega, hs⟩, trivial⟩
  · have := h.nd
    rw [List.map_append] at this ⊢
    exact this
  · have := h.nr
    rw [List.map_append] at this ⊢
    exact this
  · have hf := h.fl
    rw [flat_append, flat_one] at hf ⊢
    have : flat pre ++ t = pad ++ l := by
      have h2 : (flat pre ++ t) ++ junk = (pad ++ l) ++ junk := by rw [List.append_assoc]; exact hf
      exact List.append_cancel_right h2
    show flat pre ++ (t ++ cs ++ List.drop cs.length junk) = _
    rw [List.append_assoc, ← List.append_assoc, this]
    simp

theorem copy_to (w : World) (g off dLen dCap : Nat) (ad : Addr) (sLen sCap : Nat) (cur : List Value) (t : TypeId) (hg : w.heap[g]? = some (.cells cur.toArray t (0, 0))) (cs : List Value) (n : Nat) (hcn : cs.length = n) (hn : n = Nat.min sLen dLen)
    (hsrc : ∀ j v, cs[j]? = some v → w.cell? (ad.add j) = some v) (hfit : off + n ≤ cur.length) (h1 : ∀ v ∈ cs, v.oneCell' = true) (hsz : (Tryz.prog.info? 5).map (·.size) = some 1) :
    ∃ w', (Builtin.copy_ #[31, 31] 3 #[.slice (some ⟨g, off, none⟩) dLen dCap, .slice (some ad) sLen sCap]).run Tryz.prog w = .ok (.int .i64 (n : Int)) w' ∧
      w'.heap[g]? = some (.cells (cur.take off ++ (cs ++ cur.drop (off + n))).toArray t (0, 0)) ∧ But g w w' := by
  subst hcn
  have hrun := run_copy_row (P := Tryz.prog) w 31 31 3 5 g off dLen dCap ad sLen sCap cur.toArray t cs Tryz.underlying31 hsz hg hn hsrc (by simpa using hfit) h1
  refine ⟨_, hrun, ?_, ⟨rfl, rfl, rfl, by simp [World.setRow], fun k hk => setRow_other w g k _ hk⟩⟩
  simpa using setRow_heap w g _ _ t _ hg
set_option maxRecDepth 100000 in
set_option maxHeartbeats 4000000 in
theorem put_yes (r mb k : Nat) (S : Nat → Prop) (l b : List UInt8) (v : Value) (m h p : Int) (w : World) (hR : Rg w r mb S l) (hM : IsM w mb m h p) (hv : Src w k v b) (hk : k < w.heap.size) (hkS : ¬ S k) (hkm : k ≠ mb)
    (h0 : 0 ≤ h) (h2 : m ≤ 1099511627776) (hlh : (l.length : Int) ≤ h) (hb : (b.length : Int) ≤ m - h) :
    Calls Tryz.prog 45 #[.pointer (some ⟨r, 0, none⟩), v] w fun e w' => e = .returned (.bool true) ∧ ∃ S' : Nat → Prop, Rg w' r mb S' (l ++ b) ∧ IsM w' mb m (h + b.length) p ∧ (∀ i, S' i → S i ∨ w.heap.size ≤ i) ∧ Kp (fun i => S i ∨ i = mb) w w' := by
  have HT := take_any mb m h p (b.length : Int) w hM h0 (by omega) h2
  rw [(tk_yes (m := m) (h := h) (n := (b.length : Int)) (by omega) hb).1, (tk_yes (m := m) (h := h) (n := (b.length : Int)) (by omega) hb).2] at HT
  have HH : Hid (Calls Tryz.prog 63 #[.pointer (some ⟨mb, 0, none⟩), .int .i64 (b.length : Int)] w fun e w' => e = .returned (.bool true) ∧ IsM w' mb m (h + b.length) p ∧ But mb w w') := HT
  clear HT
  have hmS := hR.nomb
  have hml := hM.lt
  have hSl := hR.lt
  have c0 : w.cell? ⟨r, 0, none⟩ = some (.pointer (some ⟨mb, 0, none⟩)) := by obtain ⟨_, _, _, hX, _, _⟩ := hR; exact ring_cell hX.blk rfl
  have hv0 := hv
  obtain ⟨a, c, rfl, hc1, hc2, hc3⟩ := hv
  clear hc3
  unfold maxLen at hc2
  have HB : Hid ((l.length : Int) + b.length ≤ 1099511627776) := by rw [Hid]; omega
  go_enter Tryz.func45, Tryz.ntmps45
  go_wp2_with fail
  refine HH.out.mono ?_
  rintro e w1 ⟨rfl, M1, B1⟩
  have K1 : Kp (fun i => S i ∨ i = mb) w w1 := Kp.ofBut B1 (.inr rfl)
  have hv1 : Src w1 k (.slice a b.length c) b := hv0.frame (B1.block k hkm)
  have hR1 : Rg w1 r mb S l := hR.keep (Kp.ofBut (T := fun i => i = mb) B1 rfl) (fun i hi e => hmS (e ▸ hi))
  clear hR hM B1 hv0 c0 HH
  go_wp2_with fail
  go_loopw [1] (fun vb wr => ∃ (done rest : List UInt8) (S' : Nat → Prop), b = done ++ rest ∧ Src wr k vb rest ∧ Rg wr r mb S' (l ++ done) ∧ IsM wr mb m (h + b.length) p ∧ (∀ i, S' i → S i ∨ w.heap.size ≤ i) ∧ Kp (fun i => S i ∨ i = mb) w wr) (fun vb _ => lenOf vb)
  case atStart => exact ⟨[], b, S, rfl, hv1, by rw [List.append_nil]; exact hR1, M1, fun i hi => .inl hi, K1⟩
  case round =>
    obtain ⟨done, rest, S', hbe, hsrc, hRr, hMr, hSr, hKr⟩ := hrel
    clear hv1 hR1 M1 K1 hc1 hc2
    obtain ⟨a', c', rfl, hc1, hc2, hc3⟩ := hsrc
    unfold maxLen at hc2
    by_cases hz : rest.length = 0
    · obtain rfl : rest = [] := List.eq_nil_of_length_eq_zero hz
      rw [List.append_nil] at hbe
      go_wp2
      go_ret
      exact ⟨rfl, S', by rw [hbe]; exact hRr, hMr, hSr, hKr⟩
    · obtain ⟨off, rfl, hcell⟩ := hc3 (by omega)
      have hp : (0 : Int) < (rest.length : Int) := by omega
      obtain ⟨segs, pad, junk, hX, hS, hF⟩ := hRr
      have hbl : b.length = done.length + rest.length := by rw [hbe, List.length_append]
      have hll : (l ++ done).length + rest.length ≤ 1099511627776 := by rw [List.length_append]; have := HB.out; omega
      have HBE : Hid (b = done ++ rest) := hbe
      obtain ⟨L, hL⟩ : ∃ L, L = l ++ done := ⟨_, rfl⟩
      rw [← hL] at hll hX hS
      have HL : Hid (L = l ++ done) := hL
      clear hL hbl hbe
      have hkS' : ¬ S' k := fun c => by rcases hSr k c with c | c; exact hkS c; omega
      clear hz
      go_wp2_with fail
      refine (behind_any r mb segs pad L junk _ hX hS (by omega)).mono ?_
      rintro e w2 ⟨pre, s, t, junk', rfl, hX2, ht, hin, hlt2, K2⟩
      have hch := hX2.chain
      rw [chain_append] at hch
      have hSg : IsS w2 s (t ++ junk') none := hch.2.1
      have hj64 : t.length + junk'.length = 64 := by have := hSg.1; rwa [List.length_append] at this
      have hk2 : w2.heap[k]? = wr.heap[k]? := K2.block k (Nat.lt_of_lt_of_le hk hKr.size) (fun c => by
        rcases c with c | c
        · exact hkS' (c ▸ hF.r)
        · obtain ⟨x, hx, rfl⟩ := List.mem_map.1 c
          exact hkS' (hF.segs x hx))
      obtain ⟨n, hn⟩ : ∃ n, n = Nat.min rest.length (64 - t.length) := ⟨_, rfl⟩
      have hn1 : n ≤ rest.length := by rw [hn]; exact Nat.min_le_left _ _
      have hn2 : n ≤ 64 - t.length := by rw [hn]; exact Nat.min_le_right _ _
      have hn3 : 0 < n := by rw [hn]; exact Nat.lt_min.2 ⟨by omega, by omega⟩
      obtain ⟨w3, hcopy, hs3, B3⟩ := copy_to w2 s t.length (64 - t.length) (64 - t.length) ⟨k, off, none⟩ rest.length c' (segV (t ++ junk') none) 140 hSg.2 ((rest.take n).map bv) n (by simp; omega) hn
        (fun j v hj => by
          rw [List.getElem?_map] at hj
          obtain ⟨x, hx, rfl⟩ := Option.map_eq_some_iff.1 hj
          have hjn : j < n := by
            have := (List.getElem?_eq_some_iff.1 hx).1
            rw [List.length_take] at this; omega
          rw [List.getElem?_take_of_lt hjn, List.getElem?_eq_getElem (by omega)] at hx
          rw [addr_add, ← Option.some.inj hx, ← hcell j (by omega)]
          simp [World.cell?, hk2]) (by simp [segV]; omega) (bvs_one _) infoB
      have hnr : r ≠ s := fun e => hX2.nr (by rw [e]; simp)
      have hb3 : w3.heap[r]? = some (.cells #[.pointer (some ⟨mb, 0, none⟩), pt (hd (pre ++ [(s, t ++ junk')]) none), pt (some s), .int .i64 pad.length, .int .i64 L.length] 111) := by
        rw [B3.block r hnr, hX2.blk, lastB_snoc]
      have c4 : w3.cell? ⟨r, 4, none⟩ = some (.int .i64 L.length) := ring_cell hb3 rfl
      have z4 : w3.frozen? ⟨r, 4, none⟩ = false := ring_z hb3
      have HN : Hid (n = Nat.min rest.length (64 - t.length)) := hn
      have hnl : (L.length : Int) + n ≤ 1099511627776 := by omega
      have HR : Hid (RgX (w3.setCell ⟨r, 4, none⟩ (.int .i64 ((L.length : Int) + (n : Int)))) r mb (pre ++ [(s, t ++ rest.take n ++ junk'.drop n)]) pad (L ++ rest.take n) (junk'.drop n)) := by
        have hcl : (rest.take n).length = n := by rw [List.length_take]; omega
        have := copy_in (w' := w3.setCell ⟨r, 4, none⟩ (.int .i64 ((L.length : Int) + (n : Int)))) (cs := rest.take n) hX2 (by omega) (by
          rw [ring_set hb3, hcl]; rfl) (by
          rw [(But.set r 4 w3 _).block s (fun e => hnr e.symm), hs3, hcl]) (fun x hx => by
          have h1 : x.1 ≠ r := fun e => hX2.nr (by rw [← e, List.map_append, List.mem_append]; exact .inl (List.mem_map.2 ⟨x, hx, rfl⟩))
          have h2 : x.1 ≠ s := fun e => by
            have k := hX2.nd
            rw [List.map_append, List.nodup_append] at k
            exact k.2.2 x.1 (List.mem_map.2 ⟨x, hx, rfl⟩) s (by simp) e
          rw [(But.set r 4 w3 _).block _ h1, B3.block _ h2])
        rwa [hcl] at this
      have HK : Hid (Kp (fun i => S i ∨ i = mb) w (w3.setCell ⟨r, 4, none⟩ (.int .i64 ((L.length : Int) + (n : Int))))) := by
        have k1 : Kp (fun i => S i ∨ i = mb) w w2 := hKr.trans K2 (fun i hi => by
          have hi' : S' i := by
            rcases hi with rfl | hi
            · exact hF.r
            · obtain ⟨x, hx, rfl⟩ := List.mem_map.1 hi
              exact hF.segs x hx
          rcases hSr i hi' with c | c
          · exact .inl (.inl c)
          · exact .inr c)
        have hss : S s ∨ w.heap.size ≤ s := by
          rcases hin (s, t ++ junk') (by simp) with c | c
          · obtain ⟨x, hx, he⟩ := List.mem_map.1 c
            have := hF.segs x hx
            rw [he] at this
            exact hSr s this
          · exact .inr (Nat.le_trans hKr.size c)
        have k2 : Kp (fun i => S i ∨ i = mb) w w3 := k1.trans (Kp.ofBut (T := fun i => i = s) B3 rfl) (fun i hi => by
          subst hi
          rcases hss with c | c
          · exact .inl (.inl c)
          · exact .inr c)
        exact k2.trans (Kp.set (T := fun i => i = r) w3 r 4 _ rfl) (fun i hi => by
          subst hi
          rcases hSr i hF.r with c | c
          · exact .inl (.inl c)
          · exact .inr c)
      have HG : Hid (Rg (w3.setCell ⟨r, 4, none⟩ (.int .i64 ((L.length : Int) + (n : Int)))) r mb (fun i => S' i ∨ i ∈ (pre ++ [(s, t ++ junk')]).map (·.1)) (L ++ rest.take n)) := by
        refine ⟨_, _, _, HR.out, ?_, ?_⟩
        · refine .inr ⟨by simp; omega, ?_, by simp; omega⟩
          rcases hS with ⟨_, rfl, _, _⟩ | ⟨_, h1, _⟩
          · decide
          · exact h1
        · have hsz : (w3.setCell ⟨r, 4, none⟩ (.int .i64 ((L.length : Int) + (n : Int)))).heap.size = w2.heap.size := by
            rw [(But.set r 4 w3 _).size, B3.size]
          refine ⟨.inl hF.r, fun x hx => .inr ?_, fun i hi => ?_, ?_⟩
          · rw [List.map_append, List.mem_append]
            rcases List.mem_append.1 hx with hx | hx
            · exact .inl (List.mem_map.2 ⟨x, hx, rfl⟩)
            · rw [List.mem_singleton.1 hx]; exact .inr (by simp)
          · rw [hsz]
            rcases hi with hi | hi
            · exact Nat.lt_of_lt_of_le (hF.lt i hi) K2.size
            · obtain ⟨x, hx, rfl⟩ := List.mem_map.1 hi
              exact hlt2 x hx
          · rintro (c | c)
            · exact hF.mb c
            · obtain ⟨x, hx, he⟩ := List.mem_map.1 c
              rcases hin x hx with q | q
              · obtain ⟨y, hy, hye⟩ := List.mem_map.1 q
                have := hF.segs y hy
                rw [hye, he] at this
                exact hF.mb this
              · have := hKr.size
                omega
      have HM3 : Hid (IsM (w3.setCell ⟨r, 4, none⟩ (.int .i64 ((L.length : Int) + (n : Int)))) mb m (h + b.length) p) := by
        have hmr : mb ≠ r := fun e => hF.mb (e ▸ hF.r)
        have hms : mb ≠ s := fun e => by
          rcases hin (s, t ++ junk') (by simp) with q | q
          · obtain ⟨y, hy, hye⟩ := List.mem_map.1 q
            have := hF.segs y hy
            rw [hye] at this
            exact hF.mb (e ▸ this)
          · have := hKr.size
            have q' : wr.heap.size ≤ s := q
            omega
        have q1 : IsM w2 mb m (h + b.length) p := Kp.isM K2 (fun c => by
          rcases c with c | c
          · exact hmr c
          · obtain ⟨y, hy, hye⟩ := List.mem_map.1 c
            have := hF.segs y hy
            rw [hye] at this
            exact hF.mb this) hMr
        exact (But.set r 4 w3 _).isM hmr (B3.isM hms q1)
      have HC : Hid (∀ (j : Nat) (hj : j < rest.length), (w3.setCell ⟨r, 4, none⟩ (.int .i64 ((L.length : Int) + (n : Int)))).cell? ⟨k, off + j, none⟩ = some (bv rest[j])) := by
        intro j hj
        have hkr : k ≠ r := fun e => hkS' (e ▸ hF.r)
        have hks : k ≠ s := fun e => by
          rcases hin (s, t ++ junk') (by simp) with q | q
          · obtain ⟨y, hy, hye⟩ := List.mem_map.1 q
            have := hF.segs y hy
            rw [hye] at this
            exact hkS' (e ▸ this)
          · have := hKr.size
            have q' : wr.heap.size ≤ s := q
            omega
        rw [← hcell j hj]
        simp only [World.cell?]
        rw [(But.set r 4 w3 _).block k hkr, B3.block k hks, hk2]
      have HSS : Hid (∀ i, (S' i ∨ i ∈ (pre ++ [(s, t ++ junk')]).map (·.1)) → S i ∨ w.heap.size ≤ i) := by
        rintro i (hi | hi)
        · exact hSr i hi
        · obtain ⟨x, hx, rfl⟩ := List.mem_map.1 hi
          rcases hin x hx with q | q
          · obtain ⟨y, hy, hye⟩ := List.mem_map.1 q
            have := hF.segs y hy
            rw [hye] at this
            exact hSr _ this
          · exact .inr (Nat.le_trans hKr.size q)
      clear hin hlt2 K2 hF hS hKr hMr hSr hk2 HR hkS'
      clear hch hSg hs3 B3 hb3 hn hcell hX2 hX
      by_cases hcc : n = c'
      · go_wp2
        go_roundw
        case rel =>
          subst hcc
          refine ⟨done ++ rest.take n, rest.drop n, _, by rw [HBE.out, List.append_assoc, List.take_append_drop], ?_, ?_, HM3.out, HSS.out, HK.out⟩
          · rw [List.drop_eq_nil_of_le hc1]
            exact ⟨_, 0, rfl, Nat.le_refl _, Nat.zero_le _, fun h => absurd h (by decide)⟩
          · rw [← List.append_assoc, ← HL.out]; exact HG.out
        case measure => simp only [lenOf]; omega
      · go_wp2
        go_roundw
        case rel =>
          refine ⟨done ++ rest.take n, rest.drop n, _, by rw [HBE.out, List.append_assoc, List.take_append_drop], ?_, ?_, HM3.out, HSS.out, HK.out⟩
          · exact Src.rest n hn1 hc1 hc2 HC.out _ (fun h => rfl)
          · rw [← List.append_assoc, ← HL.out]; exact HG.out
        case measure => simp only [lenOf]; omega

set_option maxHeartbeats 1000000 in
theorem put_no (r mb : Nat) (S : Nat → Prop) (l : List UInt8) (a : Option Addr) (n c : Nat) (m h p : Int) (w : World) (hR : Rg w r mb S l) (hM : IsM w mb m h p)
    (h0 : 0 ≤ h) (h1 : h ≤ m) (h2 : m ≤ 1099511627776) (hb : m - h < (n : Int)) :
    Calls Tryz.prog 45 #[.pointer (some ⟨r, 0, none⟩), .slice a n c] w fun e w' => e = .returned (.bool false) ∧ IsM w' mb m h p ∧ But mb w w' := by
  have HH : Hid (Calls Tryz.prog 63 #[.pointer (some ⟨mb, 0, none⟩), .int .i64 (n : Int)] w fun e w' => e = .returned (.bool false) ∧ IsM w' mb m h p ∧ But mb w w') := take_nok mb m h p n w hM h0 h1 h2 (.inr hb)
  have c0 : w.cell? ⟨r, 0, none⟩ = some (.pointer (some ⟨mb, 0, none⟩)) := by obtain ⟨_, _, _, hX, _, _⟩ := hR; exact ring_cell hX.blk rfl
  clear hb
  go_enter Tryz.func45, Tryz.ntmps45
  go_wp2_with fail
  refine HH.out.mono ?_
  rintro e w1 ⟨rfl, M1, B1⟩
  go_wp2
  go_ret
  exact ⟨rfl, M1, B1⟩

theorem put_any (r mb k : Nat) (S : Nat → Prop) (l b : List UInt8) (v : Value) (m h p : Int) (w : World) (hR : Rg w r mb S l) (hM : IsM w mb m h p) (hv : Src w k v b) (hk : k < w.heap.size) (hkS : ¬ S k) (hkm : k ≠ mb)
    (h0 : 0 ≤ h) (h1 : h ≤ m) (h2 : m ≤ 1099511627776) (hlh : (l.length : Int) ≤ h) :
    Calls Tryz.prog 45 #[.pointer (some ⟨r, 0, none⟩), v] w fun e w' => e = .returned (.bool (decide ((b.length : Int) ≤ m - h))) ∧ ∃ S' : Nat → Prop, Rg w' r mb S' (if (b.length : Int) ≤ m - h then l ++ b else l) ∧ IsM w' mb m (if (b.length : Int) ≤ m - h then h + b.length else h) p ∧ (∀ i, S' i → S i ∨ w.heap.size ≤ i) ∧ Kp (fun i => S i ∨ i = mb) w w' := by
  by_cases hb : (b.length : Int) ≤ m - h
  · rw [if_pos hb, if_pos hb, decide_eq_true hb]
    exact put_yes r mb k S l b v m h p w hR hM hv hk hkS hkm h0 h2 hlh hb
  · rw [if_neg hb, if_neg hb, decide_eq_false hb]
    obtain ⟨a, c, rfl, _⟩ := hv
    refine (put_no r mb S l a b.length c m h p w hR hM h0 h1 h2 (by omega)).mono ?_
    rintro e w1 ⟨rfl, M1, B1⟩
    have hmS := hR.nomb
    exact ⟨rfl, S, hR.keep (Kp.ofBut (T := fun i => i = mb) B1 rfl) (fun i hi e => hmS (e ▸ hi)), M1, fun i hi => .inl hi, Kp.ofBut B1 (.inr rfl)⟩
end Go.Proofs.YtemmmdhmkegaaaaGreatDoor

/- Peek. -/
namespace Go.Proofs.YtemmmdhmkegaaaaGreatDoor
open Go.RowKit
set_option linter.unusedVariables false

def clp (n : Int) (len : Nat) : Nat := if n < 0 then 0 else if (len : Int) < n then len else n.toNat
theorem clp_le (n : Int) (len : Nat) : clp n len ≤ len := by unfold clp; split; omega; split <;> omega

theorem clp_min (n : Int) (len : Nat) : min (max n 0) (len : Int) = (clp n len : Int) := by unfold clp; split; omega; split <;> omega
def Left (w : World) (l junk : List UInt8) (j : Nat) (vf vs : Value) : Prop := ∃ (cur : List Seg) (pd : List UInt8), vf = .int .i64 pd.length ∧ pd.length < 64 ∧ vs = pt (hd cur none) ∧ Chain w cur none ∧ flat cur = pd ++ (l.drop j ++ junk)
theorem Left.first {w : World} {l junk : List UInt8} {j : Nat} {vf vs : Value} (h : Left w l junk j vf vs) (hj : j < l.length) :
    ∃ (s : Nat) (pd b' : List UInt8) (nx : Option Nat) (cur : List Seg), vf = .int .i64 pd.length ∧ vs = .pointer (some ⟨s, 0, none⟩) ∧ pd.length < 64 ∧ IsS w s (pd ++ b') nx ∧ nx = hd cur none ∧ Chain w cur none ∧ b' ++ flat cur = l.drop j ++ junk := by
  obtain ⟨cur, pd, rfl, hp, rfl, hc, hf⟩ := h
  cases cur with
  | nil =>
    have := congrArg List.length hf
    simp [flat] at this
    omega
  | cons x cur =>
    obtain ⟨s, b⟩ := x
    rw [flat_cons] at hf
    have h64 : b.length = 64 := hc.1.1
    rcases List.append_eq_append_iff.1 hf with ⟨t, e1, e2⟩ | ⟨t, e1, e2⟩
    · have := congrArg List.length e1
      simp only [List.length_append] at this
      have h64' : b.length = 64 := h64
      omega
    · have e1' : b = pd ++ t := e1
      exact ⟨s, pd, t, hd cur none, cur, rfl, rfl, hp, e1' ▸ hc.1, rfl, hc.2, e2.symm⟩

set_option maxRecDepth 100000 in
set_option maxHeartbeats 4000000 in
theorem peek_any (r mb : Nat) (S : Nat → Prop) (l : List UInt8) (n : Int) (w : World) (hR : Rg w r mb S l) (hll : l.length ≤ 1099511627776) :
    Calls Tryz.prog 68 #[.pointer (some ⟨r, 0, none⟩), .int .i64 n] w fun e w' => e = .returned (.slice (some ⟨w.heap.size, 0, none⟩) (clp n l.length) (clp n l.length)) ∧
      w'.heap[w.heap.size]? = some (.cells (rowB (l.take (clp n l.length))).toArray 5) ∧ Below w.heap.size w w' := by
  obtain ⟨segs, pad, junk, hX, hS, hF⟩ := hR
  have c1 : w.cell? ⟨r, 1, none⟩ = some (pt (hd segs none)) := ring_cell hX.blk rfl
  have c3 : w.cell? ⟨r, 3, none⟩ = some (.int .i64 pad.length) := ring_cell hX.blk rfl
  have c4 : w.cell? ⟨r, 4, none⟩ = some (.int .i64 l.length) := ring_cell hX.blk rfl
  have hrl := heap_lt hX.blk
  have hmin := clp_min n l.length
  have hNl := clp_le n l.length
  have HL : Hid (Left w l junk 0 (.int .i64 pad.length) (pt (hd segs none))) := ⟨segs, pad, rfl, by rcases hS with ⟨_, rfl, _, _⟩ | ⟨_, h1, _⟩; exact (by decide); exact h1, rfl, hX.chain, by rw [hX.fl, List.append_assoc]; rfl⟩
  clear hX hS hF
  generalize clp n l.length = N at *
  have hmk := make_bytes w N (by omega)
  generalize pt (hd segs none) = vs0 at *
  have h0 := new_at w (.cells (rowB (List.replicate N 0)).toArray 5)
  have hB0 : Below w.heap.size w (w.alloc (.cells (rowB (List.replicate N 0)).toArray 5)) := (Below.refl _ _).alloc (Nat.le_refl _) _
  go_enter Tryz.func68, Tryz.ntmps68
  go_wp2_with fail
  clear hmk
  go_loopw [6, 7, 8] (fun vf vs vr wr => ∃ (j : Nat) (a : Option Addr), j ≤ N ∧ vr = .slice a (N - j) (N - j) ∧ (j < N → a = some ⟨w.heap.size, j, none⟩) ∧ (j < N → Hid (Left w l junk j vf vs)) ∧ wr.heap[w.heap.size]? = some (.cells (rowB (l.take j ++ List.replicate (N - j) 0)).toArray 5) ∧ Below w.heap.size w wr) (fun vf vs vr _ => lenOf vr)
  case atStart => exact ⟨0, some ⟨w.heap.size, 0, none⟩, Nat.zero_le _, rfl, fun _ => rfl, fun _ => HL, h0, hB0⟩
  case round =>
    obtain ⟨j, a, hj, rfl, ha, hleft, hrow, hB⟩ := hrel
    clear h0 hB0 HL c1 c3 c4
    by_cases hz : j < N
    · obtain rfl := ha hz
      obtain ⟨s, pd, b', nx, cur, rfl, rfl, hp, hIs, hnx, hch, hfl⟩ := (hleft hz).out.first (by omega)
      have hp0 : (0 : Int) < ((N - j : Nat) : Int) := by omega
      have hsl := fun w => slice_seg s pd.length w hp
      have hsw := heap_lt hIs.2
      have hIs2 : IsS wr s (pd ++ b') nx := ⟨hIs.1, (hB.block s hsw).trans hIs.2⟩
      have hb64 : pd.length + b'.length = 64 := by have := hIs.1; rwa [List.length_append] at this
      obtain ⟨k, hk⟩ : ∃ k, k = Nat.min (64 - pd.length) (N - j) := ⟨_, rfl⟩
      have hk1 : k ≤ 64 - pd.length := by rw [hk]; exact Nat.min_le_left _ _
      have hk2 : k ≤ N - j := by rw [hk]; exact Nat.min_le_right _ _
      have hk3 : 0 < k := by rw [hk]; exact Nat.lt_min.2 ⟨by omega, by omega⟩
      obtain ⟨w3, hcopy, hs3, B3⟩ := copy_to wr w.heap.size j (N - j) (N - j) ⟨s, pd.length, none⟩ (64 - pd.length) (64 - pd.length) (rowB (l.take j ++ List.replicate (N - j) 0)) 5 hrow (rowB (b'.take k)) k (by rw [rowB_length, List.length_take]; omega) hk
        (fun i v hi => by
          unfold rowB at hi
          rw [List.getElem?_map] at hi
          obtain ⟨x, hx, rfl⟩ := Option.map_eq_some_iff.1 hi
          have hik : i < k := by
            have := (List.getElem?_eq_some_iff.1 hx).1
            rw [List.length_take] at this; omega
          rw [List.getElem?_take_of_lt hik, List.getElem?_eq_getElem (by omega)] at hx
          rw [addr_add, hIs2.byte (pd.length + i) (by rw [List.length_append]; omega), List.getElem_append_right (by omega), ← Option.some.inj hx]
          simp) (by rw [rowB_length]; simp; omega) (bvs_one _) infoB
      have hne : s ≠ w.heap.size := by omega
      have c64 : w3.cell? ⟨s, 64, none⟩ = some (pt nx) := by
        have hIs3 : IsS w3 s (pd ++ b') nx := ⟨hIs2.1, (B3.block s hne).trans hIs2.2⟩
        exact hIs3.next
      have HK : Hid (k = Nat.min (64 - pd.length) (N - j)) := hk
      have hbt : b'.take k = (l.drop j).take k := by
        have e := congrArg (List.take k) hfl
        rwa [List.take_append_of_le_length (by omega), List.take_append_of_le_length (by rw [List.length_drop]; omega)] at e
      have HROW : Hid (w3.heap[w.heap.size]? = some (.cells (rowB (l.take (j + k) ++ List.replicate (N - (j + k)) 0)).toArray 5)) := by
        rw [Hid, hs3, rowB_take, rowB_drop, ← rowB_app, ← rowB_app]
        have e1 : (l.take j ++ List.replicate (N - j) (0 : UInt8)).take j = l.take j := by
          rw [List.take_append_of_le_length (by rw [List.length_take]; omega), List.take_take, Nat.min_self]
        have e2 : (l.take j ++ List.replicate (N - j) (0 : UInt8)).drop (j + k) = List.replicate (N - (j + k)) 0 := by
          have hlt : (l.take j).length = j := by rw [List.length_take]; omega
          rw [List.drop_append, hlt, List.drop_eq_nil_of_le (by rw [hlt]; omega), List.nil_append, Nat.add_sub_cancel_left, List.drop_replicate, Nat.sub_sub]
        rw [e1, e2, hbt, List.take_add, List.append_assoc]
      have HLEFT : Hid (j + k < N → Hid (Left w l junk (j + k) (.int .i64 0) (pt nx))) := by
        intro hjk
        have hkb : k = b'.length := by
          have h1 : k = Nat.min (64 - pd.length) (N - j) := hk
          have h2 : Nat.min (64 - pd.length) (N - j) = 64 - pd.length ∨ Nat.min (64 - pd.length) (N - j) = N - j := by
            rcases Nat.le_total (64 - pd.length) (N - j) with c | c
            · exact .inl (Nat.min_eq_left c)
            · exact .inr (Nat.min_eq_right c)
          omega
        refine ⟨cur, [], rfl, by decide, by rw [hnx], hch, ?_⟩
        have e := congrArg (List.drop k) hfl
        rw [hkb, List.drop_left, ← hkb, List.drop_append_of_le_length (by rw [List.length_drop]; omega), List.drop_drop] at e
        rw [List.nil_append, e]
      have HB3 : Hid (Below w.heap.size w w3) := hB.trans (B3.below (Nat.le_refl _))
      clear hs3 B3 hIs2 hIs hrow hleft hB hfl hk hch hnx hbt
      generalize pt nx = vnx at *
      go_wp2
      go_roundw
      case rel => exact ⟨j + k, _, by omega, by rw [Nat.sub_sub], fun h => if_neg (by omega), HLEFT.out, HROW.out, HB3.out⟩
      case measure => simp only [lenOf]; omega
    · have hjN : j = N := by omega
      subst hjN
      rw [Nat.sub_self] at *
      go_wp2
      go_ret
      exact ⟨rfl, by rw [List.replicate_zero, List.append_nil] at hrow; exact hrow, hB⟩

theorem len_any (r mb : Nat) (S : Nat → Prop) (l : List UInt8) (w : World) (hR : Rg w r mb S l) :
    Calls Tryz.prog 56 #[.pointer (some ⟨r, 0, none⟩)] w fun e w' => e = .returned (.int .i64 l.length) ∧ w' = w := by
  have c4 : w.cell? ⟨r, 4, none⟩ = some (.int .i64 l.length) := by obtain ⟨_, _, _, hX, _, _⟩ := hR; exact ring_cell hX.blk rfl
  clear hR
  go_enter Tryz.func56, Tryz.ntmps56
  go_wp2
  go_ret
  exact ⟨rfl, rfl⟩
set_option maxHeartbeats 1000000 in
theorem drop_any (r mb : Nat) (S : Nat → Prop) (l : List UInt8) (m h p : Int) (w : World) (hR : Rg w r mb S l) (hM : IsM w mb m h p) (h0 : 0 ≤ h) (h1 : h ≤ m) (h2 : m ≤ 1099511627776) (hlh : (l.length : Int) ≤ h) :
    Calls Tryz.prog 55 #[.pointer (some ⟨r, 0, none⟩)] w fun e w' => e = .returned (.int .i64 l.length) ∧ Rg w' r mb S [] ∧ IsM w' mb m (h - l.length) (gvP h p l.length) ∧ Kp (fun i => S i ∨ i = mb) w w' := by
  have hmS := hR.nomb
  have HH := give_any mb m h p l.length w hM h0 h1 h2
  have e1 : gvL h l.length = l.length := by unfold gvL; split <;> (try split) <;> omega
  rw [e1] at HH
  obtain ⟨segs, pad, junk, hX, hS, hF⟩ := hR
  have c0 : w.cell? ⟨r, 0, none⟩ = some (.pointer (some ⟨mb, 0, none⟩)) := ring_cell hX.blk rfl
  have c4 : w.cell? ⟨r, 4, none⟩ = some (.int .i64 l.length) := ring_cell hX.blk rfl
  have HG : Hid (Calls Tryz.prog 74 #[.pointer (some ⟨mb, 0, none⟩), .int .i64 (l.length : Int)] w fun e w' => e = .returned (.int .i64 l.length) ∧ IsM w' mb m (h - l.length) (gvP h p l.length) ∧ But mb w w') := HH
  clear HH e1
  go_enter Tryz.func55, Tryz.ntmps55
  go_wp2_with fail
  refine HG.out.mono ?_
  rintro e w1 ⟨rfl, M1, B1⟩
  have hb1 : w1.heap[r]? = _ := (B1.block r (fun e => hmS (e ▸ hF.r))).trans hX.blk
  have d0 : w1.cell? ⟨r, 0, none⟩ = some (.pointer (some ⟨mb, 0, none⟩)) := ring_cell hb1 rfl
  have d1 : w1.cell? ⟨r, 1, none⟩ = some (pt (hd segs none)) := ring_cell hb1 rfl
  have d2 : w1.cell? ⟨r, 2, none⟩ = some (pt (lastB segs)) := ring_cell hb1 rfl
  have d3 : w1.cell? ⟨r, 3, none⟩ = some (.int .i64 pad.length) := ring_cell hb1 rfl
  have d4 : w1.cell? ⟨r, 4, none⟩ = some (.int .i64 l.length) := ring_cell hb1 rfl
  have z0 : w1.frozen? ⟨r, 0, none⟩ = false := ring_z hb1
  have z1 : w1.frozen? ⟨r, 1, none⟩ = false := ring_z hb1
  have z2 : w1.frozen? ⟨r, 2, none⟩ = false := ring_z hb1
  have z3 : w1.frozen? ⟨r, 3, none⟩ = false := ring_z hb1
  have z4 : w1.frozen? ⟨r, 4, none⟩ = false := ring_z hb1
  have hrm : mb ≠ r := fun e => hmS (e ▸ hF.r)
  have HF := hF.lt
  have hr1 := hF.r
  have HW : Hid (∀ w2, w2 = ((((w1.setCell ⟨r, 0, none⟩ (.pointer (some ⟨mb, 0, none⟩))).setCell ⟨r, 1, none⟩ (.pointer none)).setCell ⟨r, 2, none⟩ (.pointer none)).setCell ⟨r, 3, none⟩ (.int .i64 0)).setCell ⟨r, 4, none⟩ (.int .i64 0) →
      Rg w2 r mb S [] ∧ IsM w2 mb m (h - l.length) (gvP h p l.length) ∧ Kp (fun i => S i ∨ i = mb) w w2) := by
    rintro w2 rfl
    have hsz : (((((w1.setCell ⟨r, 0, none⟩ (.pointer (some ⟨mb, 0, none⟩))).setCell ⟨r, 1, none⟩ (.pointer none)).setCell ⟨r, 2, none⟩ (.pointer none)).setCell ⟨r, 3, none⟩ (.int .i64 0)).setCell ⟨r, 4, none⟩ (.int .i64 0)).heap.size = w1.heap.size := by simp [World.setCell]
    refine ⟨⟨[], [], [], ⟨?_, trivial, List.nodup_nil, by simp, rfl⟩, .inl ⟨rfl, rfl, rfl, rfl⟩, hr1, (fun x hx => by cases hx), fun k hk => by rw [hsz, B1.size]; exact HF k hk, hmS⟩, ?_, ?_⟩
    · rw [ring_set (ring_set (ring_set (ring_set (ring_set hb1))))]; rfl
    · exact (But.set r 4 _ _).isM hrm ((But.set r 3 _ _).isM hrm ((But.set r 2 _ _).isM hrm ((But.set r 1 _ _).isM hrm ((But.set r 0 _ _).isM hrm M1))))
    · exact ((((((Kp.ofBut B1 (.inr rfl)).then (Kp.set _ r 0 _ (.inl hr1))).then (Kp.set _ r 1 _ (.inl hr1))).then (Kp.set _ r 2 _ (.inl hr1))).then (Kp.set _ r 3 _ (.inl hr1))).then (Kp.set _ r 4 _ (.inl hr1)))
  clear c0 c4 HG hX hS hF hb1 hM M1 B1
  generalize pt (hd segs none) = x1 at *
  generalize pt (lastB segs) = x2 at *
  go_wp2
  go_ret
  exact ⟨rfl, HW.out _ rfl⟩
end Go.Proofs.YtemmmdhmkegaaaaGreatDoor

/- away and Take. -/
namespace Go.Proofs.YtemmmdhmkegaaaaGreatDoor
open Go.RowKit
set_option linter.unusedVariables false

def frmOf (r : Nat) (w : World) : Nat := match w.cell? ⟨r, 3, none⟩ with | some (.int _ x) => x.toNat | _ => 0
theorem next_seg {w : World} {r mb : Nat} {segs : List Seg} {pad l junk : List UInt8} (h : RgX w r mb segs pad l junk) (hp : 64 ≤ pad.length) (hl : 0 < l.length) :
    ∃ s b pad' cur, segs = (s, b) :: cur ∧ pad = b ++ pad' ∧ b.length = 64 ∧ cur ≠ [] ∧ flat cur = pad' ++ l ++ junk ∧ IsS w s b (hd cur none) ∧ Chain w cur none := by
  cases segs with
  | nil =>
    have := congrArg List.length h.fl
    simp [flat] at this
    omega
  | cons x cur =>
    obtain ⟨s, b⟩ := x
    have hb : b.length = 64 := h.chain.1.1
    have hf := h.fl
    rw [flat_cons, List.append_assoc] at hf
    rcases List.append_eq_append_iff.1 hf with ⟨t, e1, e2⟩ | ⟨t, e1, e2⟩
    · refine ⟨s, b, t, cur, rfl, e1, hb, ?_, by rw [List.append_assoc]; exact e2, h.chain.1, h.chain.2⟩
      rintro rfl
      have := congrArg List.length e2
      have h3 : (flat ([] : List Seg)).length = 0 := rfl
      simp only [List.length_append] at this
      omega
    · have e1' : b = pad ++ t := e1
      have := congrArg List.length e1'
      rw [List.length_append] at this
      have ht : t = [] := List.eq_nil_of_length_eq_zero (by omega)
      subst ht
      rw [List.append_nil] at e1'
      rw [List.nil_append] at e2
      refine ⟨s, b, [], cur, rfl, by rw [List.append_nil, e1'], hb, ?_, by rw [List.nil_append]; exact e2.symm, h.chain.1, h.chain.2⟩
      rintro rfl
      have := congrArg List.length e2
      have h3 : (flat ([] : List Seg)).length = 0 := rfl
      simp only [List.length_append] at this
      omega
theorem lastB_cons (x : Seg) (cur : List Seg) (h : cur ≠ []) : lastB (x :: cur) = lastB cur := by
  cases cur with
  | nil => exact absurd rfl h
  | cons y cur => simp [lastB]

set_option maxRecDepth 100000 in
set_option maxHeartbeats 4000000 in
theorem away_any (r mb n : Nat) (S : Nat → Prop) (l : List UInt8) (m h p : Int) (w : World) (hR : Rg w r mb S l) (hM : IsM w mb m h p) (h0 : 0 ≤ h) (h1 : h ≤ m) (h2 : m ≤ 1099511627776) (hlh : (l.length : Int) ≤ h) (hn : n ≤ l.length) :
    Calls Tryz.prog 71 #[.pointer (some ⟨r, 0, none⟩), .int .i64 n] w fun e w' => e = .returned (.tuple #[]) ∧ Rg w' r mb S (l.drop n) ∧ IsM w' mb m (h - n) (gvP h p n) ∧ Kp (fun i => S i ∨ i = mb) w w' := by
  have c4 : w.cell? ⟨r, 4, none⟩ = some (.int .i64 l.length) := by obtain ⟨_, _, _, hX, _, _⟩ := hR; exact ring_cell hX.blk rfl
  by_cases he : n = l.length
  · subst he
    have HD : Hid (Calls Tryz.prog 55 #[.pointer (some ⟨r, 0, none⟩)] w fun e w' => e = .returned (.int .i64 l.length) ∧ Rg w' r mb S [] ∧ IsM w' mb m (h - l.length) (gvP h p l.length) ∧ Kp (fun i => S i ∨ i = mb) w w') := drop_any r mb S l m h p w hR hM h0 h1 h2 hlh
    clear hR hM
    go_enter Tryz.func71, Tryz.ntmps71
    go_wp2_with fail
    refine HD.out.mono ?_
    rintro e w1 ⟨rfl, R1, M1, K1⟩
    go_wp2
    refine bodyPost_ret (results_none rfl _ _ _) rfl ?_
    exact ⟨rfl, by rw [List.drop_length]; exact R1, M1, K1⟩
  · have hmS := hR.nomb
    have HH := give_any mb m h p n w hM h0 h1 h2
    have e1 : gvL h n = n := by unfold gvL; split <;> (try split) <;> omega
    rw [e1] at HH
    obtain ⟨segs, pad, junk, hX, hS, hF⟩ := hR
    have c0 : w.cell? ⟨r, 0, none⟩ = some (.pointer (some ⟨mb, 0, none⟩)) := ring_cell hX.blk rfl
    have hne : ¬ (n : Int) = (l.length : Int) := by omega
    have HG : Hid (Calls Tryz.prog 74 #[.pointer (some ⟨mb, 0, none⟩), .int .i64 (n : Int)] w fun e w' => e = .returned (.int .i64 n) ∧ IsM w' mb m (h - n) (gvP h p n) ∧ But mb w w') := HH
    clear HH e1
    obtain ⟨hp64, hj64⟩ : pad.length < 64 ∧ junk.length < 64 := by
      rcases hS with ⟨_, rfl, rfl, rfl⟩ | ⟨_, h1, h2⟩
      · simp
      · exact ⟨h1, h2⟩
    have hl40 : (l.length : Int) ≤ 1099511627776 := by omega
    go_enter Tryz.func71, Tryz.ntmps71
    go_wp2_with fail
    refine HG.out.mono ?_
    rintro e w1 ⟨rfl, M1, B1⟩
    have hmr : mb ≠ r := fun e => hmS (e ▸ hF.r)
    have hb1 : w1.heap[r]? = _ := (B1.block r (fun e => hmr e.symm)).trans hX.blk
    have d3 : w1.cell? ⟨r, 3, none⟩ = some (.int .i64 pad.length) := ring_cell hb1 rfl
    have d4 : w1.cell? ⟨r, 4, none⟩ = some (.int .i64 l.length) := ring_cell hb1 rfl
    have z3 : w1.frozen? ⟨r, 3, none⟩ = false := ring_z hb1
    have z4 : w1.frozen? ⟨r, 4, none⟩ = false := ring_z hb1
    have HX1 : Hid (∀ w2, w2 = (w1.setCell ⟨r, 4, none⟩ (.int .i64 ((l.length : Int) - (n : Int)))).setCell ⟨r, 3, none⟩ (.int .i64 ((pad.length : Int) + (n : Int))) →
        RgX w2 r mb segs (pad ++ l.take n) (l.drop n) junk ∧ IsM w2 mb m (h - n) (gvP h p n) ∧ Kp (fun i => S i ∨ i = mb) w w2 ∧ (∀ k, S k → k < w2.heap.size)) := by
      rintro w2 rfl
      have hfr : ∀ x ∈ segs, ((w1.setCell ⟨r, 4, none⟩ (.int .i64 ((l.length : Int) - (n : Int)))).setCell ⟨r, 3, none⟩ (.int .i64 ((pad.length : Int) + (n : Int)))).heap[x.1]? = w.heap[x.1]? := fun x hx => by
        have q1 : x.1 ≠ r := fun e => hX.nr (by rw [← e]; exact List.mem_map.2 ⟨x, hx, rfl⟩)
        have q2 : x.1 ≠ mb := fun e => hmS (e ▸ hF.segs x hx)
        rw [(But.set r 3 _ _).block _ q1, (But.set r 4 _ _).block _ q1, B1.block _ q2]
      refine ⟨⟨?_, chain_frame _ _ hfr hX.chain, hX.nd, hX.nr, ?_⟩, ?_, ?_, fun k hk => ?_⟩
      · rw [ring_set (ring_set hb1)]
        have a1 : ((pad ++ l.take n).length : Int) = (pad.length : Int) + (n : Int) := by rw [List.length_append, List.length_take]; omega
        have a2 : ((l.drop n).length : Int) = (l.length : Int) - (n : Int) := by rw [List.length_drop]; omega
        rw [a1, a2]; rfl
      · rw [hX.fl, List.append_assoc, List.append_assoc, List.append_assoc, ← List.append_assoc (l.take n), List.take_append_drop]
      · exact (But.set r 3 _ _).isM hmr ((But.set r 4 _ _).isM hmr M1)
      · exact ((Kp.ofBut B1 (.inr rfl)).then (Kp.set _ r 4 _ (.inl hF.r))).then (Kp.set _ r 3 _ (.inl hF.r))
      · rw [(But.set r 3 _ _).size, (But.set r 4 _ _).size, B1.size]; exact hF.lt k hk
    have hFr := hF.r
    have hFs := hF.segs
    have hln : 0 < (l.drop n).length := by rw [List.length_drop]; omega
    have hpn : ((pad ++ l.take n).length : Int) ≤ 1099511627876 := by rw [List.length_append, List.length_take]; omega
    clear hX hS hF hb1 hM M1 B1 HG c0 c4
    go_wp2_with fail
    clear d3 d4 z3 z4
    obtain ⟨X1, X2, X3, X4⟩ := HX1.out _ rfl
    clear HX1
    generalize (w1.setCell ⟨r, 4, none⟩ (.int .i64 ((l.length : Int) - (n : Int)))).setCell ⟨r, 3, none⟩ (.int .i64 ((pad.length : Int) + (n : Int))) = w2 at *
    obtain ⟨L, hLe⟩ : ∃ L, L = l.drop n := ⟨_, rfl⟩
    rw [← hLe] at X1 hln
    have HLe : Hid (L = l.drop n) := hLe
    clear hLe
    generalize pad ++ l.take n = P0 at *
    go_loopw [] (fun wr => ∃ (sg : List Seg) (pd : List UInt8), RgX wr r mb sg pd L junk ∧ (pd.length : Int) ≤ 1099511627876 ∧ (∀ x ∈ sg, S x.1) ∧ IsM wr mb m (h - n) (gvP h p n) ∧ Kp (fun i => S i ∨ i = mb) w wr ∧ (∀ k, S k → k < wr.heap.size)) (fun wr => frmOf r wr)
    case atStart => exact ⟨segs, P0, X1, hpn, hFs, X2, X3, X4⟩
    case round =>
      obtain ⟨sg, pd, Y1, hpd, hsg, Y2, Y3, Y4⟩ := hrel
      clear X1 X2 X3 X4
      have hb := Y1.blk
      have d3 : wr.cell? ⟨r, 3, none⟩ = some (.int .i64 pd.length) := ring_cell hb rfl
      by_cases hge : 64 ≤ pd.length
      · obtain ⟨s, b, pd', cur, rfl, rfl, hb64, hne, hfl, hIs, hch⟩ := next_seg Y1 hge hln
        have d1 : wr.cell? ⟨r, 1, none⟩ = some (.pointer (some ⟨s, 0, none⟩)) := ring_cell hb rfl
        have d64 := hIs.next
        have z1 : wr.frozen? ⟨r, 1, none⟩ = false := ring_z hb
        have z3 : wr.frozen? ⟨r, 3, none⟩ = false := ring_z hb
        have hsr : s ≠ r := fun e => Y1.nr (by rw [← e]; simp)
        have HW : Hid (∀ w2, w2 = (wr.setCell ⟨r, 1, none⟩ (pt (hd cur none))).setCell ⟨r, 3, none⟩ (.int .i64 (((b ++ pd').length : Int) - 64)) →
            RgX w2 r mb cur pd' L junk ∧ IsM w2 mb m (h - n) (gvP h p n) ∧ Kp (fun i => S i ∨ i = mb) w w2 ∧ (∀ k, S k → k < w2.heap.size) ∧ frmOf r w2 < frmOf r wr) := by
          rintro w2 rfl
          have a1 : ((b ++ pd').length : Int) - 64 = pd'.length := by rw [List.length_append]; omega
          have hbk : ((wr.setCell ⟨r, 1, none⟩ (pt (hd cur none))).setCell ⟨r, 3, none⟩ (.int .i64 (((b ++ pd').length : Int) - 64))).heap[r]? = some (.cells #[.pointer (some ⟨mb, 0, none⟩), pt (hd cur none), pt (lastB cur), .int .i64 pd'.length, .int .i64 L.length] 111) := by
            rw [ring_set (ring_set hb), a1, lastB_cons _ _ hne]; rfl
          refine ⟨⟨hbk, ?_, ?_, ?_, hfl⟩, ?_, ?_, fun k hk => ?_, ?_⟩
          · refine chain_frame _ _ (fun x hx => ?_) hch
            have q1 : x.1 ≠ r := fun e => Y1.nr (by rw [← e]; exact List.mem_map.2 ⟨x, .tail _ hx, rfl⟩)
            rw [(But.set r 3 _ _).block _ q1, (But.set r 1 _ _).block _ q1]
          · exact (List.nodup_cons.1 Y1.nd).2
          · exact fun c => Y1.nr (.tail _ c)
          · exact (But.set r 3 _ _).isM hmr ((But.set r 1 _ _).isM hmr Y2)
          · exact (Y3.then (Kp.set _ r 1 _ (.inl hFr))).then (Kp.set _ r 3 _ (.inl hFr))
          · rw [(But.set r 3 _ _).size, (But.set r 1 _ _).size]; exact Y4 k hk
          · have q1 : frmOf r wr = (b ++ pd').length := by unfold frmOf; rw [d3]; rfl
            have q2 : frmOf r ((wr.setCell ⟨r, 1, none⟩ (pt (hd cur none))).setCell ⟨r, 3, none⟩ (.int .i64 (((b ++ pd').length : Int) - 64))) = pd'.length := by unfold frmOf; rw [ring_cell hbk rfl]; rfl
            rw [q1, q2, List.length_append]
            omega
        have hs2 : ∀ x ∈ cur, S x.1 := fun x hx => hsg x (.tail _ hx)
        have hpd2 : (pd'.length : Int) ≤ 1099511627876 := by rw [List.length_append] at hpd; omega
        clear hb Y1 Y2 Y3 Y4 hIs hch hfl hsg
        obtain ⟨o, ho⟩ : ∃ o, pt (hd cur none) = .pointer o := ⟨_, rfl⟩
        rw [ho] at d64 HW
        clear ho
        have HP2 : Hid ((pd'.length : Int) ≤ 1099511627876) := hpd2
        clear hpd2
        have hge2 : (64 : Int) ≤ ((b ++ pd').length : Int) := by omega
        generalize (b ++ pd').length = bp at *
        go_wp2
        go_roundw
        case rel => exact ⟨cur, pd', (HW.out _ rfl).1, HP2.out, hs2, (HW.out _ rfl).2.1, (HW.out _ rfl).2.2.1, (HW.out _ rfl).2.2.2.1⟩
        case measure => exact (HW.out _ rfl).2.2.2.2
      · have hlt : ¬ (64 : Int) ≤ (pd.length : Int) := by omega
        have hRg : Hid (Rg wr r mb S L) := ⟨sg, pd, junk, Y1, .inr ⟨hln, by omega, hj64⟩, hFr, hsg, Y4, hmS⟩
        clear hb Y1
        go_wp2
        refine bodyPost_end (results_none rfl _ _ _) rfl ?_
        exact ⟨rfl, HLe.out ▸ hRg.out, Y2, Y3⟩

set_option maxHeartbeats 2000000 in
theorem take_any3 (r mb : Nat) (S : Nat → Prop) (l : List UInt8) (n m h p : Int) (w : World) (hR : Rg w r mb S l) (hM : IsM w mb m h p) (h0 : 0 ≤ h) (h1 : h ≤ m) (h2 : m ≤ 1099511627776) (hlh : (l.length : Int) ≤ h) :
    Calls Tryz.prog 51 #[.pointer (some ⟨r, 0, none⟩), .int .i64 n] w fun e w' => e = .returned (.slice (some ⟨w.heap.size, 0, none⟩) (clp n l.length) (clp n l.length)) ∧
      w'.heap[w.heap.size]? = some (.cells (rowB (l.take (clp n l.length))).toArray 5) ∧ Rg w' r mb S (l.drop (clp n l.length)) ∧ IsM w' mb m (h - clp n l.length) (gvP h p (clp n l.length)) ∧ Kp (fun i => S i ∨ i = mb) w w' := by
  have hN := clp_le n l.length
  have HP : Hid (Calls Tryz.prog 68 #[.pointer (some ⟨r, 0, none⟩), .int .i64 n] w fun e w' => e = .returned (.slice (some ⟨w.heap.size, 0, none⟩) (clp n l.length) (clp n l.length)) ∧
      w'.heap[w.heap.size]? = some (.cells (rowB (l.take (clp n l.length))).toArray 5) ∧ Below w.heap.size w w') := peek_any r mb S l n w hR (by omega)
  have hSl := hR.lt
  have hmS := hR.nomb
  have hml := hM.lt
  have HA := fun (w1 : World) hR1 hM1 => away_any r mb (clp n l.length) S l m h p w1 hR1 hM1 h0 h1 h2 hlh hN
  generalize clp n l.length = N at *
  go_enter Tryz.func51, Tryz.ntmps51
  go_wp2_with fail
  refine HP.out.mono ?_
  rintro e w1 ⟨rfl, hg1, B1⟩
  have hR1 : Rg w1 r mb S l := hR.keep (Kp.ofBelow (T := fun _ => False) B1) (fun _ _ c => c)
  have hM1 : IsM w1 mb m h p := Below.isM B1 hml hM
  have HA2 : Hid (Calls Tryz.prog 71 #[.pointer (some ⟨r, 0, none⟩), .int .i64 N] w1 fun e w' => e = .returned (.tuple #[]) ∧ Rg w' r mb S (l.drop N) ∧ IsM w' mb m (h - N) (gvP h p N) ∧ Kp (fun i => S i ∨ i = mb) w1 w') := HA w1 hR1 hM1
  clear HA HP hR hM hR1 hM1
  go_wp2_with fail
  refine HA2.out.mono ?_
  rintro e w2 ⟨rfl, R2, M2, K2⟩
  go_wp2
  go_ret
  refine ⟨rfl, (K2.block _ (heap_lt hg1) (fun c => ?_)).trans hg1, R2, M2, (Kp.ofBelow B1).then K2⟩
  rcases c with c | c
  · exact absurd (hSl _ c) (Nat.lt_irrefl _)
  · omega

theorem newr_any (mb : Nat) (w : World) (hmb : mb < w.heap.size) :
    Calls Tryz.prog 41 #[.pointer (some ⟨mb, 0, none⟩)] w fun e w' => e = .returned (.pointer (some ⟨w.heap.size, 0, none⟩)) ∧ Rg w' w.heap.size mb (fun i => i = w.heap.size) [] ∧ Below w.heap.size w w' := by
  have HW : Hid (Rg (w.alloc (.cells #[.pointer (some ⟨mb, 0, none⟩), .pointer none, .pointer none, .int .i64 0, .int .i64 0] 111)) w.heap.size mb (fun i => i = w.heap.size) []) :=
    ⟨[], [], [], ⟨new_at _ _, trivial, List.nodup_nil, by simp, rfl⟩, .inl ⟨rfl, rfl, rfl, rfl⟩, rfl, (fun x hx => by cases hx), (fun k hk => by subst hk; simp), fun e => by omega⟩
  go_enter Tryz.func41, Tryz.ntmps41
  go_wp2
  go_ret
  exact ⟨rfl, HW.out, (Below.refl _ _).alloc (Nat.le_refl _) _⟩
end Go.Proofs.YtemmmdhmkegaaaaGreatDoor

/- A row of bytes that grows in memory of the walk's own. -/
namespace Go.Proofs.YtemmmdhmkegaaaaGreatDoor
open Go.ChangeShapes Go.WideShapes Go.ChangeAt Go.RowKit
set_option linter.unusedVariables false

def Own (B : Nat) (w : World) (v : Value) (X : List UInt8) : Prop := w.ownsRow B 5 1 v X.length (rowB X)
theorem Own.form {B : Nat} {w : World} {v : Value} {X : List UInt8} (h : Own B w v X) : ∃ a c, v = .slice a X.length c ∧ (a = none → c = 0) := by
  obtain ⟨h1, ⟨h2, h3⟩ | ⟨g, c, cur, hv, _⟩⟩ := h
  · exact ⟨none, 0, by rw [h2, h3], fun _ => rfl⟩
  · exact ⟨_, c, hv, fun e => by cases e⟩
theorem Own.src {B : Nat} {w : World} {v : Value} {X : List UInt8} (h : Own B w v X) : ∃ k, Src w k v X ∧ (0 < X.length → B ≤ k ∧ k < w.heap.size) := by
  have h0 := h
  obtain ⟨h1, ⟨h2, h3⟩ | ⟨g, c, cur, hv, hB, hg, hl, hm, hs, ht⟩⟩ := h
  · refine ⟨0, ⟨none, 0, by rw [h2, h3], by omega, Nat.zero_le _, fun q => by omega⟩, fun q => by omega⟩
  · refine ⟨g, ⟨_, c, hv, hl, hm, fun _ => ⟨0, rfl, fun j hj => ?_⟩⟩, fun _ => ⟨hB, heap_lt hg⟩⟩
    have k := (hv ▸ h0 : w.ownsRow B 5 1 (.slice (some ⟨g, 0, none⟩) X.length c) X.length (rowB X)).cellAt j (by omega)
    rw [Nat.zero_add, k]
    unfold rowB
    rw [List.getElem?_map, List.getElem?_eq_getElem hj]; rfl
theorem Own.keep {B : Nat} {w w' : World} {v : Value} {X : List UInt8} (h : Own B w v X) (b : Below w.heap.size w w') : Own B w' v X := by
  obtain ⟨h1, h2⟩ := h
  refine ⟨h1, ?_⟩
  rcases h2 with h2 | ⟨g, cap, cur, hv, hg, hh, r⟩
  · exact .inl h2
  · exact .inr ⟨g, cap, cur, hv, hg, (b.block g (Array.getElem?_eq_some_iff.1 hh).1).trans hh, r⟩
theorem Own.mono {B C : Nat} {w : World} {v : Value} {X : List UInt8} (h : Own B w v X) (hC : C ≤ B) : Own C w v X := by
  obtain ⟨h1, h2⟩ := h
  refine ⟨h1, ?_⟩
  rcases h2 with h2 | ⟨g, cap, cur, hv, hg, r⟩
  · exact .inl h2
  · exact .inr ⟨g, cap, cur, hv, Nat.le_trans hC hg, r⟩
theorem Own.empty (B : Nat) (w : World) (hB : B ≤ w.heap.size) : Own B (w.alloc (.cells #[] 5)) (.slice (some ⟨w.heap.size, 0, none⟩) 0 0) [] :=
  ⟨rfl, .inr ⟨w.heap.size, 0, #[], rfl, hB, new_at _ _, Nat.le_refl _, by decide, rfl, rfl⟩⟩
theorem Own.nil (B : Nat) (w : World) : Own B w (.slice none 0 0) [] := World.ownsRow_nil _ _ _ _
theorem own_append {B : Nat} {w : World} {k : Nat} {v : Value} {X Y : List UInt8} {a : Option Addr} {n c : Nat} (h : Own B w v X) (hs : Src w k (.slice a n c) Y) (hnil : a = none → c = 0) (hmax : X.length + Y.length ≤ 140737488355328) (hB : B ≤ w.heap.size) :
    ∃ v' w', (Builtin.append_ #[31, 31] 31 #[v, .slice a n c]).run Tryz.prog w = .ok v' w' ∧ Own B w' v' (X ++ Y) ∧ Below B w w' := by
  obtain ⟨i, hi, hz0, hz1, hz2⟩ := info_parts infoB3
  obtain ⟨a', c', e, h1, h2, h3⟩ := hs
  obtain ⟨e1, e2, e3⟩ := slice_inj e
  subst e1 e2 e3
  have hmx : X.length + Y.length ≤ maxLen := by unfold maxLen; omega
  cases a with
  | none =>
    have hc := hnil rfl
    have hy : Y = [] := by
      rcases Nat.eq_zero_or_pos Y.length with q | q
      · exact List.eq_nil_of_length_eq_zero q
      · obtain ⟨_, q, _⟩ := h3 q; cases q
    subst hy hc
    exact ⟨v, w, run_append_owned_none w B 31 31 5 i 1 Tryz.underlying31 hi v _ _ h, by rw [List.append_nil]; exact h, Below.refl _ _⟩
  | some ad =>
    obtain ⟨v', w', hr, q1, q2, q3, q4⟩ := run_append_own_at (P := Tryz.prog) w B 31 31 5 i (.int .u8 0) 1 1 Tryz.underlying31 hi hz0 hz1 hz2 rfl (by decide) v X.length (rowB X) h ad Y.length c (rowB Y) (by rw [rowB_length]; omega)
      (fun j u hj => by
        unfold rowB at hj
        rw [List.getElem?_map] at hj
        obtain ⟨x, hx, rfl⟩ := Option.map_eq_some_iff.1 hj
        have hjl := (List.getElem?_eq_some_iff.1 hx).1
        obtain ⟨off, ha, hc⟩ := h3 (by omega)
        have : ad = ⟨k, off, none⟩ := by simpa using ha
        subst this
        rw [addr_add, hc j hjl, (List.getElem?_eq_some_iff.1 hx).2]) (bvs_one _) hmx (by omega) hB
    refine ⟨v', w', hr, ?_, (Below.refl _ _).grown q2 hB (fun q hq => (h.lt q hq).1)⟩
    unfold Own
    rw [List.length_append, rowB_app]; exact q1
theorem wpList_append_run2 {P : Program} {w : World} {ops : Array Oper} {rest : List Oper} {o : Oper} {a : Act} {Q : Exit → Act → World → Prop} (hgd : o.guard = none) (s x : Operand) (t u : TypeId)
    (ho : o.op = .call { callee := .builtin .append, args := #[s, x], argTypes := #[t, u] }) (vs vx v' : Value) (w' : World) (hs : a.eval s = vs) (hx : a.eval x = vx) (hr : (Builtin.append_ #[t, u] o.type #[vs, vx]).run P w = .ok v' w')
    (h : wpList P ops Q rest (a.put o.dst v') w') : wpList P ops Q (o :: rest) a w := by
  refine wpList_plain hgd fun K hK => ?_
  unfold Oper.wp execOp
  simp only [ho, resolve, invoke, builtin, Sem.run_bind, Sem.run_pure, Result.andThen_ok, List.map_toArray, List.map_cons, List.map_nil, hs, hx, hr]
  exact hK _ _ h
theorem Src.len {w : World} {k : Nat} {a : Option Addr} {n c : Nat} {b : List UInt8} (h : Src w k (.slice a n c) b) : b.length = n ∧ n ≤ c ∧ c ≤ maxLen := by
  obtain ⟨a', c', e, h1, h2, h3⟩ := h
  obtain ⟨e1, e2, e3⟩ := slice_inj e
  subst e1 e2 e3
  exact ⟨rfl, h1, h2⟩
theorem Src.keep {w w' : World} {k : Nat} {v : Value} {b : List UInt8} (h : Src w k v b) (hk : 0 < b.length → k < w.heap.size) (hB : Below w.heap.size w w') : Src w' k v b := by
  rcases Nat.eq_zero_or_pos b.length with c | c
  · obtain ⟨x, y, e, q1, q2, q3⟩ := h
    exact ⟨x, y, e, q1, q2, fun q => by omega⟩
  · exact h.frame (hB.block k (hk c))
theorem ret_bool {x y : Bool} (h : x = y) : Ending.returned (.bool x) = .returned (.bool y) := by rw [h]
end Go.Proofs.YtemmmdhmkegaaaaGreatDoor

/- SameBytes of equal lists. -/
namespace Go.Proofs.YtemmmdhmkegaaaaGreatDoor
open Go.RowKit
set_option linter.unusedVariables false

set_option maxHeartbeats 1000000 in
theorem sameBytes_eq (xs : List UInt8) (k1 k2 : Nat) (v1 v2 : Value) (w : World) (h1 : Src w k1 v1 xs) (h2 : Src w k2 v2 xs) :
    Calls Tryz.prog 27 #[v1, v2] w fun e w' => e = .returned (.bool true) ∧ Below w.heap.size w w' := by
  obtain ⟨a1, c1, rfl, l1, m1, f1⟩ := h1
  obtain ⟨a2, c2, rfl, l2, m2, f2⟩ := h2
  unfold maxLen at m1 m2
  rcases Nat.eq_zero_or_pos xs.length with h0 | hp
  · rw [h0]
    clear f1 f2
    go_enter Tryz.func27, Tryz.ntmps27
    go_wp2_with fail
    refine wp_loop_rounds 1 ?_
    rw [rounds_succ]
    go_wp2
    go_ret
    exact ⟨rfl, Below.refl _ _⟩
  · obtain ⟨o1, rfl, g1⟩ := f1 hp
    obtain ⟨o2, rfl, g2⟩ := f2 hp
    clear f1 f2
    have hn : xs.length ≤ 9223372036854775807 := by omega
    clear m1 m2
    go_enter Tryz.func27, Tryz.ntmps27
    go_wp2_with fail
    go_loopw [5] (fun vi wr => ∃ k d : Nat, k ≤ xs.length ∧ vi = .int .i64 k ∧ wr = w.drewN d) (fun vi _ => xs.length - (intOf vi).toNat)
    case atStart => exact ⟨0, 0, Nat.zero_le _, rfl, by simp [World.drewN_zero]⟩
    case round =>
      obtain ⟨k, d, hk, rfl, rfl⟩ := hrel
      by_cases hlt : k < xs.length
      · have q1 : w.cell? ⟨k1, o1 + k, none⟩ = some (.int .u8 (xs[k].toNat : Int)) := g1 k hlt
        have q2 : w.cell? ⟨k2, o2 + k, none⟩ = some (.int .u8 (xs[k].toNat : Int)) := g2 k hlt
        generalize (xs[k].toNat : Int) = x at *
        clear g1 g2
        go_wp2
        go_quiet (fail)
        go_wp2
        go_roundw
        case rel => exact ⟨k + 1, _, by omega, by go_num, rfl⟩
        case measure => simp [intOf]; omega
      · go_wp2
        go_ret
        exact ⟨rfl, by refine ⟨?_, ?_, ?_, ?_, ?_⟩ <;> simp [World.drewN]⟩

end Go.Proofs.YtemmmdhmkegaaaaGreatDoor

/- Several rings of one meter: what each call turns. -/
namespace Go.Proofs.YtemmmdhmkegaaaaGreatDoor
open Go.RowKit
set_option linter.unusedVariables false

def tot (Ls : List (List UInt8)) : Nat := (Ls.map List.length).sum
theorem tot_set : ∀ (Ls : List (List UInt8)) (i : Nat) (l x : List UInt8), Ls[i]? = some l → tot (Ls.set i x) + l.length = tot Ls + x.length
  | [], i, l, x, h => by simp at h
  | y :: Ls, 0, l, x, h => by
    have e : y = l := by simpa using h
    subst e
    simp only [List.set_cons_zero, tot, List.map_cons, List.sum_cons]; omega
  | y :: Ls, i + 1, l, x, h => by
    have k := tot_set Ls i l x (by simpa using h)
    simp only [List.set_cons_succ, tot, List.map_cons, List.sum_cons] at k ⊢; omega
theorem tot_ge : ∀ (Ls : List (List UInt8)) (i : Nat) (l : List UInt8), Ls[i]? = some l → l.length ≤ tot Ls
  | [], i, l, h => by simp at h
  | y :: Ls, 0, l, h => by
    have e : y = l := by simpa using h
    subst e
    simp only [tot, List.map_cons, List.sum_cons]; omega
  | y :: Ls, i + 1, l, h => by
    have k := tot_ge Ls i l (by simpa using h)
    simp only [tot, List.map_cons, List.sum_cons] at k ⊢; omega

structure ManyS (F : Nat → Prop) (w0 w : World) (mb : Nat) (rs : List Nat) (Ls : List (List UInt8)) (m p : Int) (S : Nat → Nat → Prop) : Prop where
  len : rs.length = Ls.length
  rg : ∀ i r l, rs[i]? = some r → Ls[i]? = some l → Rg w r mb (S i) l
  dis : ∀ i j, i < rs.length → j < rs.length → i ≠ j → ∀ k, S i k → ¬ S j k
  lo : ∀ i, i < rs.length → ∀ k, S i k → w0.heap.size ≤ k ∧ ¬ F k
  isM : IsM w mb m (tot Ls : Nat) p
  mb1 : w0.heap.size ≤ mb
  mb2 : ¬ F mb
  flt : ∀ k, F k → k < w.heap.size
  fit : (tot Ls : Int) ≤ m
  top : m ≤ 1099511627776
  bel : Below w0.heap.size w0 w
def Many (F : Nat → Prop) (w0 w : World) (mb : Nat) (rs : List Nat) (Ls : List (List UInt8)) (m p : Int) : Prop := ∃ S, ManyS F w0 w mb rs Ls m p S
section
variable {F : Nat → Prop} {w0 w : World} {mb : Nat} {rs : List Nat} {Ls : List (List UInt8)} {m p : Int}
theorem Many.step {w' : World} {T F' : Nat → Prop} (h : Many F w0 w mb rs Ls m p) (k : Kp T w w') (hT : ∀ i, T i → (F i ∨ w.heap.size ≤ i) ∧ w0.heap.size ≤ i) (hF : ∀ i, F' i → F i ∨ (w.heap.size ≤ i ∧ i < w'.heap.size)) : Many F' w0 w' mb rs Ls m p := by
  obtain ⟨S, h⟩ := h
  have hml := h.isM.lt
  refine ⟨S, h.len, fun i r l hr hl => ?_, h.dis, fun i hi q hq => ⟨(h.lo i hi q hq).1, fun c => ?_⟩, k.isM (fun c => ?_) h.isM, h.mb1, fun c => ?_, fun q hq => ?_, h.fit, h.top, ?_⟩
  · have hi : i < rs.length := (List.getElem?_eq_some_iff.1 hr).1
    refine (h.rg i r l hr hl).keep k (fun j hj c => ?_)
    rcases (hT j c).1 with d | d
    · exact (h.lo i hi j hj).2 d
    · have := (h.rg i r l hr hl).lt j hj
      omega
  · rcases hF q c with d | d
    · exact (h.lo i hi q hq).2 d
    · have hlr : ∃ r l, rs[i]? = some r ∧ Ls[i]? = some l := ⟨_, _, List.getElem?_eq_getElem hi, List.getElem?_eq_getElem (by rw [← h.len]; exact hi)⟩
      obtain ⟨r, l, e1, e2⟩ := hlr
      have := (h.rg i r l e1 e2).lt q hq
      omega
  · rcases (hT mb c).1 with d | d
    · exact h.mb2 d
    · omega
  · rcases hF mb c with d | d
    · exact h.mb2 d
    · omega
  · rcases hF q hq with d | d
    · exact Nat.lt_of_lt_of_le (h.flt q d) k.size
    · exact d.2
  · refine h.bel.trans (k.below h.bel.size (fun j hj c => ?_))
    have := (hT j c).2
    omega
theorem Many.weak {F' : Nat → Prop} (h : Many F w0 w mb rs Ls m p) (hF : ∀ i, F' i → F i) : Many F' w0 w mb rs Ls m p :=
  h.step (Kp.refl (fun _ => False) w) (fun _ c => c.elim) (fun i hi => .inl (hF i hi))
theorem Many.below {w' : World} (h : Many F w0 w mb rs Ls m p) (k : Below w.heap.size w w') : Many F w0 w' mb rs Ls m p :=
  h.step (Kp.ofBelow (T := fun _ => False) k) (fun _ c => c.elim) (fun i hi => .inl hi)
theorem Many.alloc (h : Many F w0 w mb rs Ls m p) (o : Obj) : Many (fun k => F k ∨ k = w.heap.size) w0 (w.alloc o) mb rs Ls m p :=
  h.step (Kp.alloc (fun _ => False) w o) (fun _ c => c.elim) (fun i hi => by
    rcases hi with c | c
    · exact .inl c
    · subst c; exact .inr ⟨Nat.le_refl _, by simp⟩)
theorem Many.drewN (h : Many F w0 w mb rs Ls m p) (n : Nat) : Many F w0 (w.drewN n) mb rs Ls m p := h.below ((But.drewN w.heap.size n w).below (Nat.le_refl _))
theorem Many.isM (h : Many F w0 w mb rs Ls m p) : IsM w mb m (tot Ls : Nat) p := by obtain ⟨S, h⟩ := h; exact h.isM
theorem Many.bel (h : Many F w0 w mb rs Ls m p) : Below w0.heap.size w0 w := by obtain ⟨S, h⟩ := h; exact h.bel
theorem Many.flt (h : Many F w0 w mb rs Ls m p) : ∀ k, F k → k < w.heap.size := by obtain ⟨S, h⟩ := h; exact h.flt
theorem Many.fit (h : Many F w0 w mb rs Ls m p) : (tot Ls : Int) ≤ m := by obtain ⟨S, h⟩ := h; exact h.fit
theorem Many.top (h : Many F w0 w mb rs Ls m p) : m ≤ 1099511627776 := by obtain ⟨S, h⟩ := h; exact h.top
theorem ManyS.turn {w' : World} {S : Nat → Nat → Prop} (h : ManyS F w0 w mb rs Ls m p S) (i r : Nat) (l l' : List UInt8) (S' : Nat → Prop) (p' : Int) (hr : rs[i]? = some r) (hl : Ls[i]? = some l)
    (hR : Rg w' r mb S' l') (hM : IsM w' mb m (tot (Ls.set i l') : Nat) p') (hS : ∀ k, S' k → S i k ∨ w.heap.size ≤ k) (hK : Kp (fun k => S i k ∨ k = mb) w w') (hf : (tot (Ls.set i l') : Int) ≤ m) :
    Many F w0 w' mb rs (Ls.set i l') m p' ∧ (∀ k, F k → w'.heap[k]? = w.heap[k]?) ∧ w.heap.size ≤ w'.heap.size := by
  have hi : i < rs.length := (List.getElem?_eq_some_iff.1 hr).1
  have hlt : ∀ j, j < rs.length → ∀ k, S j k → k < w.heap.size := fun j hj k hk =>
    (h.rg j _ _ (List.getElem?_eq_getElem hj) (List.getElem?_eq_getElem (by rw [← h.len]; exact hj))).lt k hk
  have hm1 := h.mb1
  have hbs := h.bel.size
  refine ⟨⟨fun j => if j = i then S' else S j, by rw [List.length_set]; exact h.len, fun j q x hq hx => ?_, fun a b ha hb hab k hk => ?_, fun j hj k hk => ?_, hM, h.mb1, h.mb2, fun k hk => Nat.lt_of_lt_of_le (h.flt k hk) hK.size, hf, h.top, ?_⟩, fun k hk => hK.block k (h.flt k hk) (fun c => ?_), hK.size⟩
  · by_cases e : j = i
    · subst e
      have e1 : q = r := Option.some.inj (hq.symm.trans hr)
      have hil : j < Ls.length := (List.getElem?_eq_some_iff.1 hl).1
      have e2 : x = l' := by rw [List.getElem?_set_self hil] at hx; exact (Option.some.inj hx).symm
      subst e1 e2
      simpa using hR
    · rw [List.getElem?_set_ne (fun c => e c.symm)] at hx
      simp only [if_neg e]
      have hj : j < rs.length := (List.getElem?_eq_some_iff.1 hq).1
      refine (h.rg j q x hq hx).keep hK (fun k hk c => ?_)
      rcases c with c | c
      · exact h.dis j i hj hi e k hk c
      · exact (h.rg j q x hq hx).nomb (c ▸ hk)
  · by_cases ea : a = i
    · have eb : b ≠ i := fun c => hab (ea.trans c.symm)
      simp only [if_pos ea] at hk
      simp only [if_neg eb]
      subst ea
      rcases hS k hk with c | c
      · exact h.dis a b ha hb hab k c
      · intro c2
        have := hlt b hb k c2
        omega
    · simp only [if_neg ea] at hk
      by_cases eb : b = i
      · simp only [if_pos eb]
        subst eb
        intro c
        rcases hS k c with c | c
        · exact h.dis a b ha hb hab k hk c
        · have := hlt a ha k hk
          omega
      · simp only [if_neg eb]
        exact h.dis a b ha hb hab k hk
  · by_cases e : j = i
    · simp only [if_pos e] at hk
      rcases hS k hk with c | c
      · subst e
        exact h.lo j hj k c
      · exact ⟨by omega, fun d => by have := h.flt k d; omega⟩
    · simp only [if_neg e] at hk
      exact h.lo j hj k hk
  · refine h.bel.trans (hK.below hbs (fun k hk c => ?_))
    rcases c with c | c
    · have := (h.lo i hi k c).1
      omega
    · omega
  · rcases c with c | c
    · exact (h.lo i hi k c).2 hk
    · exact h.mb2 (c ▸ hk)
theorem set_self (Ls : List (List UInt8)) (i : Nat) (l : List UInt8) (h : Ls[i]? = some l) : Ls.set i l = Ls := by
  obtain ⟨hi, rfl⟩ := List.getElem?_eq_some_iff.1 h
  exact List.set_getElem_self hi
theorem many_put (i r k : Nat) (l b : List UInt8) (v : Value) (h : Many F w0 w mb rs Ls m p) (hr : rs[i]? = some r) (hl : Ls[i]? = some l) (hv : Src w k v b) (hk : F k) :
    Calls Tryz.prog 45 #[.pointer (some ⟨r, 0, none⟩), v] w fun e w' => e = .returned (.bool (decide ((tot Ls : Int) + b.length ≤ m))) ∧ Many F w0 w' mb rs (if (tot Ls : Int) + b.length ≤ m then Ls.set i (l ++ b) else Ls) m p ∧ (∀ k, F k → w'.heap[k]? = w.heap[k]?) ∧ w.heap.size ≤ w'.heap.size := by
  obtain ⟨S, h⟩ := h
  have hi : i < rs.length := (List.getElem?_eq_some_iff.1 hr).1
  have hR := h.rg i r l hr hl
  have hge := tot_ge Ls i l hl
  refine (put_any r mb k (S i) l b v m (tot Ls : Nat) p w hR h.isM hv (h.flt k hk) (fun c => (h.lo i hi k c).2 hk) (fun c => h.mb2 (c ▸ hk)) (by omega) h.fit h.top (by omega)).mono ?_
  rintro e w' ⟨rfl, S', q1, q2, q3, q4⟩
  have ef : decide ((b.length : Int) ≤ m - (tot Ls : Nat)) = decide ((tot Ls : Int) + b.length ≤ m) := by
    apply decide_eq_decide.2; omega
  refine ⟨by rw [ef], ?_⟩
  have hset := tot_set Ls i l (l ++ b) hl
  rw [List.length_append] at hset
  by_cases hb : (b.length : Int) ≤ m - (tot Ls : Nat)
  · rw [if_pos hb] at q1
    rw [if_pos hb] at q2
    rw [if_pos (by omega)]
    exact h.turn i r l (l ++ b) S' p hr hl q1 (by rw [show ((tot (Ls.set i (l ++ b)) : Nat) : Int) = (tot Ls : Nat) + b.length by omega]; exact q2) q3 q4 (by omega)
  · rw [if_neg hb] at q1
    rw [if_neg hb] at q2
    rw [if_neg (by omega)]
    have := h.turn i r l l S' p hr hl q1 (by rw [set_self _ _ _ hl]; exact q2) q3 q4 (by rw [set_self _ _ _ hl]; exact h.fit)
    rwa [set_self _ _ _ hl] at this
theorem many_take (i r : Nat) (l : List UInt8) (n : Int) (h : Many F w0 w mb rs Ls m p) (hr : rs[i]? = some r) (hl : Ls[i]? = some l) :
    Calls Tryz.prog 51 #[.pointer (some ⟨r, 0, none⟩), .int .i64 n] w fun e w' => ∃ g, e = .returned (.slice (some ⟨g, 0, none⟩) (clp n l.length) (clp n l.length)) ∧ w.heap.size ≤ g ∧
      w'.heap[g]? = some (.cells (rowB (l.take (clp n l.length))).toArray 5) ∧ Many (fun k => F k ∨ k = g) w0 w' mb rs (Ls.set i (l.drop (clp n l.length))) m (gvP (tot Ls : Nat) p (clp n l.length)) ∧ (∀ k, F k → w'.heap[k]? = w.heap[k]?) ∧ w.heap.size ≤ w'.heap.size := by
  obtain ⟨S, h⟩ := h
  have hi : i < rs.length := (List.getElem?_eq_some_iff.1 hr).1
  have hR := h.rg i r l hr hl
  have hge := tot_ge Ls i l hl
  have hml := h.isM.lt
  refine (take_any3 r mb (S i) l n m (tot Ls : Nat) p w hR h.isM (by omega) h.fit h.top (by omega)).mono ?_
  rintro e w' ⟨rfl, q1, q2, q3, q4⟩
  have hN := clp_le n l.length
  have hset := tot_set Ls i l (l.drop (clp n l.length)) hl
  rw [List.length_drop] at hset
  generalize clp n l.length = N at *
  have hfit := h.fit
  obtain ⟨⟨S2, h2⟩, t2, t3⟩ := h.turn i r l (l.drop N) (S i) _ hr hl q2 (by rw [show ((tot (Ls.set i (l.drop N)) : Nat) : Int) = (tot Ls : Nat) - N by omega]; exact q3) (fun k hk => .inl hk) q4 (by omega)
  refine ⟨w.heap.size, rfl, Nat.le_refl _, q1, ⟨S, by rw [List.length_set]; exact h.len, fun j q x hq hx => ?_, h.dis, fun j hj k hk => ⟨(h.lo j hj k hk).1, fun c => ?_⟩, h2.isM, h2.mb1, fun c => ?_, fun k hk => ?_, h2.fit, h.top, h2.bel⟩, t2, t3⟩
  · by_cases e : j = i
    · subst e
      have e1 : q = r := Option.some.inj (hq.symm.trans hr)
      have hil : j < Ls.length := (List.getElem?_eq_some_iff.1 hl).1
      have e2 : x = l.drop N := by rw [List.getElem?_set_self hil] at hx; exact (Option.some.inj hx).symm
      subst e1 e2
      exact q2
    · rw [List.getElem?_set_ne (fun c => e c.symm)] at hx
      have hj : j < rs.length := (List.getElem?_eq_some_iff.1 hq).1
      refine (h.rg j q x hq hx).keep q4 (fun k hk c => ?_)
      rcases c with c | c
      · exact h.dis j i hj hi e k hk c
      · exact (h.rg j q x hq hx).nomb (c ▸ hk)
  · rcases c with c | c
    · exact (h.lo j hj k hk).2 c
    · have := (h.rg j _ _ (List.getElem?_eq_getElem hj) (List.getElem?_eq_getElem (by rw [← h.len]; exact hj))).lt k hk
      omega
  · rcases c with c | c
    · exact h.mb2 c
    · omega
  · rcases hk with hk | hk
    · exact Nat.lt_of_lt_of_le (h.flt k hk) t3
    · subst hk; exact heap_lt q1
theorem many_peek (i r : Nat) (l : List UInt8) (n : Int) (h : Many F w0 w mb rs Ls m p) (hr : rs[i]? = some r) (hl : Ls[i]? = some l) :
    Calls Tryz.prog 68 #[.pointer (some ⟨r, 0, none⟩), .int .i64 n] w fun e w' => ∃ g, e = .returned (.slice (some ⟨g, 0, none⟩) (clp n l.length) (clp n l.length)) ∧ w.heap.size ≤ g ∧
      w'.heap[g]? = some (.cells (rowB (l.take (clp n l.length))).toArray 5) ∧ Many (fun k => F k ∨ k = g) w0 w' mb rs Ls m p ∧ Below w.heap.size w w' := by
  have hf := h.fit
  have ht := h.top
  have hge := tot_ge Ls i l hl
  have hR : ∃ S, Rg w r mb S l := by obtain ⟨S, h⟩ := h; exact ⟨_, h.rg i r l hr hl⟩
  obtain ⟨S, hR⟩ := hR
  refine (peek_any r mb S l n w hR (by omega)).mono ?_
  rintro e w' ⟨rfl, q1, q2⟩
  exact ⟨_, rfl, Nat.le_refl _, q1, h.step (Kp.ofBelow (T := fun _ => False) q2) (fun _ c => c.elim) (fun i hi => by
    rcases hi with c | c
    · exact .inl c
    · subst c; exact .inr ⟨Nat.le_refl _, heap_lt q1⟩), q2⟩
theorem many_len (i r : Nat) (l : List UInt8) (h : Many F w0 w mb rs Ls m p) (hr : rs[i]? = some r) (hl : Ls[i]? = some l) :
    Calls Tryz.prog 56 #[.pointer (some ⟨r, 0, none⟩)] w fun e w' => e = .returned (.int .i64 l.length) ∧ w' = w := by
  obtain ⟨S, h⟩ := h
  exact len_any r mb _ l w (h.rg i r l hr hl)
theorem many_drop (i r : Nat) (l : List UInt8) (h : Many F w0 w mb rs Ls m p) (hr : rs[i]? = some r) (hl : Ls[i]? = some l) :
    Calls Tryz.prog 55 #[.pointer (some ⟨r, 0, none⟩)] w fun e w' => e = .returned (.int .i64 l.length) ∧ Many F w0 w' mb rs (Ls.set i []) m (gvP (tot Ls : Nat) p l.length) ∧ (∀ k, F k → w'.heap[k]? = w.heap[k]?) ∧ w.heap.size ≤ w'.heap.size := by
  obtain ⟨S, h⟩ := h
  have hge := tot_ge Ls i l hl
  refine (drop_any r mb (S i) l m (tot Ls : Nat) p w (h.rg i r l hr hl) h.isM (by omega) h.fit h.top (by omega)).mono ?_
  rintro e w' ⟨rfl, q2, q3, q4⟩
  have hset := tot_set Ls i l [] hl
  rw [List.length_nil] at hset
  have hfit := h.fit
  exact ⟨rfl, h.turn i r l [] (S i) _ hr hl q2 (by rw [show ((tot (Ls.set i []) : Nat) : Int) = (tot Ls : Nat) - l.length by omega]; exact q3) (fun k hk => .inl hk) q4 (by omega)⟩
end
theorem many_start {w0 w : World} {mb : Nat} {m : Int} (hM : IsM w mb m 0 0) (h0 : 0 ≤ m) (h2 : m ≤ 1099511627776) (hb : w0.heap.size ≤ mb) (hB : Below w0.heap.size w0 w) : Many (fun k => k < w0.heap.size) w0 w mb [] [] m 0 :=
  ⟨fun _ _ => False, rfl, (fun i r l h => by simp at h), (fun i j h => by simp at h), (fun i h => by simp at h), hM, hb, (fun c => by omega), (fun k hk => by have := hB.size; omega), h0, h2, hB⟩
theorem many_new {F : Nat → Prop} {w0 w : World} {mb : Nat} {rs : List Nat} {Ls : List (List UInt8)} {m p : Int} (h : Many F w0 w mb rs Ls m p) :
    Calls Tryz.prog 41 #[.pointer (some ⟨mb, 0, none⟩)] w fun e w' => ∃ r, e = .returned (.pointer (some ⟨r, 0, none⟩)) ∧ r = w.heap.size ∧ Many F w0 w' mb (rs ++ [r]) (Ls ++ [[]]) m p ∧ Below w.heap.size w w' := by
  have hm := h.isM.lt
  have hflt := h.flt
  refine (newr_any mb w h.isM.lt).mono ?_
  rintro e w' ⟨rfl, q1, q2⟩
  refine ⟨_, rfl, rfl, ?_, q2⟩
  obtain ⟨S0, h0⟩ := h
  have hlt : ∀ j, j < rs.length → ∀ k, S0 j k → k < w.heap.size := fun j hj k hk =>
    (h0.rg j _ _ (List.getElem?_eq_getElem hj) (List.getElem?_eq_getElem (by rw [← h0.len]; exact hj))).lt k hk
  have hwb := h0.bel.size
  have e : ∀ (i : Nat) {x : Nat}, (rs ++ [w.heap.size])[i]? = some x → (i < rs.length ∧ rs[i]? = some x) ∨ (i = rs.length ∧ x = w.heap.size) := fun i x hx => by
    rcases Nat.lt_or_ge i rs.length with c | c
    · rw [List.getElem?_append_left c] at hx; exact .inl ⟨c, hx⟩
    · rw [List.getElem?_append_right c] at hx
      have : i - rs.length = 0 := by
        rcases Nat.eq_zero_or_pos (i - rs.length) with d | d
        · exact d
        · rw [List.getElem?_eq_none (by simp; omega)] at hx; cases hx
      rw [this] at hx
      exact .inr ⟨by omega, by simpa using hx.symm⟩
  have et : tot (Ls ++ [[]]) = tot Ls := by simp [tot]
  refine ⟨fun i => if i = rs.length then (fun k => k = w.heap.size) else S0 i, by simp [h0.len], fun i r l hr hl => ?_, fun i j hi hj hij k hk => ?_, fun i hi k hk => ?_, by rw [et]; exact Below.isM q2 hm h0.isM, h0.mb1, h0.mb2, fun k hk => Nat.lt_of_lt_of_le (hflt k hk) q2.size, by rw [et]; exact h0.fit, h0.top, h0.bel.trans (q2.mono hwb)⟩
  · rcases e i hr with ⟨c, hr'⟩ | ⟨c, hr'⟩
    · simp only [if_neg (Nat.ne_of_lt c)]
      exact (h0.rg i r l hr' (by rwa [List.getElem?_append_left (by rw [← h0.len]; exact c)] at hl)).keep (Kp.ofBelow (T := fun _ => False) q2) (fun _ _ c => c)
    · simp only [if_pos c]
      subst hr'
      rw [c, h0.len, List.getElem?_append_right (Nat.le_refl _)] at hl
      have : l = [] := by simpa using hl.symm
      subst this
      exact q1
  · rw [List.length_append, List.length_singleton] at hi hj
    by_cases ei : i = rs.length
    · simp only [if_pos ei] at hk
      have ej : j ≠ rs.length := fun c => hij (ei.trans c.symm)
      simp only [if_neg ej]
      intro c
      have := hlt j (by omega) k c
      omega
    · simp only [if_neg ei] at hk
      by_cases ej : j = rs.length
      · simp only [if_pos ej]
        have := hlt i (by omega) k hk
        omega
      · simp only [if_neg ej]
        exact h0.dis i j (by omega) (by omega) hij k hk
  · rw [List.length_append, List.length_singleton] at hi
    by_cases ei : i = rs.length
    · simp only [if_pos ei] at hk
      subst hk
      exact ⟨hwb, fun c => by have := hflt _ c; omega⟩
    · simp only [if_neg ei] at hk
      exact h0.lo i (by omega) k hk
end Go.Proofs.YtemmmdhmkegaaaaGreatDoor

/- Conn: a connection's block beside the rings of its meter, and what each call makes of it. -/
namespace Go.Proofs.YtemmmdhmkegaaaaGreatDoor
open Go.RowKit
set_option linter.unusedVariables false

def bit (c : Bool) : Int := if c then 1 else 0
theorem bit_ne (c : Bool) : (bit c != 0) = c := by cases c <;> rfl
structure Cs where
  li : List UInt8
  lo : List UInt8
  win : Int
  bz : Bool
  wt : Bool
  cl : Bool
def cv (ri ro : Nat) (s : Cs) : Array Value := #[.pointer (some ⟨ri, 0, none⟩), .pointer (some ⟨ro, 0, none⟩), .int .i64 s.win, .bool s.bz, .bool s.wt, .int .u32 (bit s.cl), .int .i32 0, .int .u32 0, .int .u32 (bit s.cl)]
def two (Ls : List (List UInt8)) (i : Nat) (a c : List UInt8) : List (List UInt8) := (Ls.set i a).set (i + 1) c
theorem two_self {Ls : List (List UInt8)} {i : Nat} {a c : List UInt8} (h1 : Ls[i]? = some a) (h2 : Ls[i + 1]? = some c) : two Ls i a c = Ls := by
  unfold two
  rw [set_self Ls i a h1, set_self Ls (i + 1) c h2]
theorem two_in {Ls : List (List UInt8)} {i : Nat} (a c : List UInt8) (h : i < Ls.length) : (two Ls i a c)[i]? = some a := by
  unfold two
  rw [List.getElem?_set_ne (by omega), List.getElem?_set_self h]
theorem two_out {Ls : List (List UInt8)} {i : Nat} (a c : List UInt8) (h : i + 1 < Ls.length) : (two Ls i a c)[i + 1]? = some c := by
  unfold two
  rw [List.getElem?_set_self (by simpa using h)]
theorem two_two (Ls : List (List UInt8)) (i : Nat) (a c a' c' : List UInt8) : two (two Ls i a c) i a' c' = two Ls i a' c' := by
  unfold two
  rw [List.set_comm _ _ (show i + 1 ≠ i by omega), List.set_set, List.set_set]
theorem two_tot {Ls : List (List UInt8)} {i : Nat} {a c : List UInt8} (a' c' : List UInt8) (h1 : Ls[i]? = some a) (h2 : Ls[i + 1]? = some c) : tot (two Ls i a' c') + a.length + c.length = tot Ls + a'.length + c'.length := by
  have k1 := tot_set Ls i a a' h1
  have k2 := tot_set (Ls.set i a') (i + 1) c c' (by rw [List.getElem?_set_ne (by omega)]; exact h2)
  unfold two
  omega

structure Cn (F : Nat → Prop) (w0 w : World) (mb : Nat) (rs : List Nat) (Ls : List (List UInt8)) (m : Int) (b i : Nat) (s : Cs) : Prop where
  many : ∃ p, Many F w0 w mb rs Ls m p
  own : F b
  lo0 : w0.heap.size ≤ b
  blk : ∃ ri ro, rs[i]? = some ri ∧ rs[i + 1]? = some ro ∧ w.heap[b]? = some (.cells (cv ri ro s) 95)
  hi : Ls[i]? = some s.li
  ho : Ls[i + 1]? = some s.lo
  win : 0 ≤ s.win ∧ s.win ≤ 1073741824
def Aft (F F' : Nat → Prop) (w0 w w' : World) (mb : Nat) (rs : List Nat) (Ls : List (List UInt8)) (m : Int) (b i : Nat) (s' : Cs) : Prop :=
  Cn F' w0 w' mb rs (two Ls i s'.li s'.lo) m b i s' ∧ (∀ k, F k → k ≠ b → w'.heap[k]? = w.heap[k]?) ∧ w.heap.size ≤ w'.heap.size
section
variable {F : Nat → Prop} {w0 w : World} {mb : Nat} {rs : List Nat} {Ls : List (List UInt8)} {m : Int} {b i : Nat} {s : Cs}
theorem Cn.lt (h : Cn F w0 w mb rs Ls m b i s) : b < w.heap.size := by obtain ⟨_, _, _, _, k⟩ := h.blk; exact heap_lt k
theorem Cn.li1 (h : Cn F w0 w mb rs Ls m b i s) : i < Ls.length := (List.getElem?_eq_some_iff.1 h.hi).1
theorem Cn.lo1 (h : Cn F w0 w mb rs Ls m b i s) : i + 1 < Ls.length := (List.getElem?_eq_some_iff.1 h.ho).1
theorem Cn.fit (h : Cn F w0 w mb rs Ls m b i s) : (tot Ls : Int) ≤ m := by obtain ⟨p, k⟩ := h.many; exact k.fit
theorem Cn.top (h : Cn F w0 w mb rs Ls m b i s) : m ≤ 1099511627776 := by obtain ⟨p, k⟩ := h.many; exact k.top
theorem Cn.tl (h : Cn F w0 w mb rs Ls m b i s) : s.li.length + s.lo.length ≤ tot Ls := by
  have := two_tot [] [] h.hi h.ho
  simp only [List.length_nil] at this
  omega
theorem Cn.same (h : Cn F w0 w mb rs Ls m b i s) : Aft F F w0 w w mb rs Ls m b i s := by
  unfold Aft
  rw [two_self h.hi h.ho]
  exact ⟨h, fun _ _ _ => rfl, Nat.le_refl _⟩
theorem Cn.step {w' : World} {T F' : Nat → Prop} (h : Cn F w0 w mb rs Ls m b i s) (k : Kp T w w') (hT : ∀ j, T j → ((F j ∧ j ≠ b) ∨ w.heap.size ≤ j) ∧ w0.heap.size ≤ j) (hF : ∀ j, F' j → F j ∨ (w.heap.size ≤ j ∧ j < w'.heap.size)) (hb : F' b) : Cn F' w0 w' mb rs Ls m b i s := by
  have hlt := h.lt
  obtain ⟨p, hm⟩ := h.many
  obtain ⟨ri, ro, e1, e2, e3⟩ := h.blk
  refine ⟨⟨p, hm.step k (fun j hj => ⟨?_, (hT j hj).2⟩) hF⟩, hb, h.lo0, ⟨ri, ro, e1, e2, k.at (fun c => ?_) e3⟩, h.hi, h.ho, h.win⟩
  · rcases (hT j hj).1 with c | c
    · exact .inl c.1
    · exact .inr c
  · rcases (hT b c).1 with d | d
    · exact d.2 rfl
    · omega
theorem Cn.below {w' : World} (h : Cn F w0 w mb rs Ls m b i s) (k : Below w.heap.size w w') : Cn F w0 w' mb rs Ls m b i s :=
  h.step (Kp.ofBelow (T := fun _ => False) k) (fun _ c => c.elim) (fun j hj => .inl hj) h.own
theorem Cn.belowN {w' : World} (h : Cn F w0 w mb rs Ls m b i s) (k : Below w.heap.size w w') : Cn (fun j => F j ∨ (w.heap.size ≤ j ∧ j < w'.heap.size)) w0 w' mb rs Ls m b i s :=
  h.step (Kp.ofBelow (T := fun _ => False) k) (fun _ c => c.elim) (fun j hj => hj) (.inl h.own)
theorem Cn.weak {F' : Nat → Prop} (h : Cn F w0 w mb rs Ls m b i s) (hF : ∀ j, F' j → F j) (hb : F' b) : Cn F' w0 w mb rs Ls m b i s :=
  h.step (Kp.refl (fun _ => False) w) (fun _ c => c.elim) (fun j hj => .inl (hF j hj)) hb
theorem Cn.flt (h : Cn F w0 w mb rs Ls m b i s) : ∀ k, F k → k < w.heap.size := by obtain ⟨p, k⟩ := h.many; exact k.flt
theorem Cn.bel (h : Cn F w0 w mb rs Ls m b i s) : Below w0.heap.size w0 w := by obtain ⟨p, k⟩ := h.many; exact k.bel
theorem Aft.then {F' F'' : Nat → Prop} {w1 w2 : World} {s1 s2 : Cs} (h : Aft F F' w0 w w1 mb rs Ls m b i s1) (k : Aft F' F'' w0 w1 w2 mb rs (two Ls i s1.li s1.lo) m b i s2) (hF : ∀ j, F j → F' j) : Aft F F'' w0 w w2 mb rs Ls m b i s2 := by
  obtain ⟨h1, h2, h3⟩ := h
  obtain ⟨k1, k2, k3⟩ := k
  rw [two_two] at k1
  exact ⟨k1, fun j hj hne => (k2 j (hF j hj) hne).trans (h2 j hj hne), Nat.le_trans h3 k3⟩
theorem Aft.below {F' : Nat → Prop} {w1 w2 : World} {s1 : Cs} (h : Aft F F' w0 w w1 mb rs Ls m b i s1) (k : Below w1.heap.size w1 w2) (hF : ∀ j, F j → j < w.heap.size) : Aft F F' w0 w w2 mb rs Ls m b i s1 := by
  obtain ⟨h1, h2, h3⟩ := h
  exact ⟨h1.below k, fun j hj hne => (k.block j (Nat.lt_of_lt_of_le (hF j hj) h3)).trans (h2 j hj hne), Nat.le_trans h3 k.size⟩
theorem Cn.store (h : Cn F w0 w mb rs Ls m b i s) (q : Nat) (v : Value) (s' : Cs) (e1 : s'.li = s.li) (e2 : s'.lo = s.lo) (e3 : ∀ ri ro, (cv ri ro s).setIfInBounds q v = cv ri ro s') (e4 : 0 ≤ s'.win ∧ s'.win ≤ 1073741824) : Cn F w0 (w.setCell ⟨b, q, none⟩ v) mb rs Ls m b i s' := by
  obtain ⟨p, hm⟩ := h.many
  obtain ⟨ri, ro, f1, f2, f3⟩ := h.blk
  have hl := h.lo0
  exact ⟨⟨p, hm.step (Kp.set (T := fun k => k = b) w b q v rfl) (fun j hj => ⟨.inl (hj ▸ h.own), by subst hj; exact hl⟩) (fun j hj => .inl hj)⟩, h.own, hl, ⟨ri, ro, f1, f2, by rw [blkL_set f3, e3]⟩, e1 ▸ h.hi, e2 ▸ h.ho, e4⟩
theorem set_keeps {q : Nat} {v : Value} (F : Nat → Prop) (w : World) (b : Nat) : (∀ k, F k → k ≠ b → (w.setCell ⟨b, q, none⟩ v).heap[k]? = w.heap[k]?) ∧ w.heap.size ≤ (w.setCell ⟨b, q, none⟩ v).heap.size :=
  ⟨fun k _ hk => blkL_other hk v, Nat.le_of_eq (by simp [World.setCell])⟩

theorem cmax_run (x y z : Int) (h : max x y = z) (W : World) (ts : Array TypeId) (t : TypeId) : (Builtin.max_ ts t #[.int .i64 x, .int .i64 y]).run Tryz.prog W = .ok (.int .i64 z) W := by
  rw [run_max_int2, ← h]
  congr 2
  split <;> omega
theorem cmin_run (x y z : Int) (h : min x y = z) (W : World) (ts : Array TypeId) (t : TypeId) : (Builtin.min_ ts t #[.int .i64 x, .int .i64 y]).run Tryz.prog W = .ok (.int .i64 z) W := by
  rw [run_min_int2, ← h]
  congr 2
  split <;> omega
theorem coclosing_any (h : Cn F w0 w mb rs Ls m b i s) :
    Calls Tryz.prog 34 #[.pointer (some ⟨b, 0, none⟩)] w fun e w' => e = .returned (.bool s.cl) ∧ w' = w := by
  obtain ⟨ri, ro, e1, e2, hb⟩ := h.blk
  have hc : w.cell? ⟨b, 8, none⟩ = some (.int .u32 (bit s.cl)) := blkL_cell hb rfl
  clear h
  go_enter Tryz.func34, Tryz.ntmps34
  go_wp2_with (go_at_call 57; refine (closed_any b _ _ hc).mono ?_; rw [bit_ne]; rintro e w' ⟨rfl, rfl⟩)
  go_ret
  exact ⟨rfl, rfl⟩
theorem cobusy_any (h : Cn F w0 w mb rs Ls m b i s) :
    Calls Tryz.prog 33 #[.pointer (some ⟨b, 0, none⟩)] w fun e w' => e = .returned (.bool s.bz) ∧ w' = w := by
  obtain ⟨ri, ro, e1, e2, hb⟩ := h.blk
  have hc : w.cell? ⟨b, 3, none⟩ = some (.bool s.bz) := blkL_cell hb rfl
  clear h
  go_enter Tryz.func33, Tryz.ntmps33
  go_wp2
  go_ret
  exact ⟨rfl, rfl⟩
set_option maxRecDepth 100000 in
theorem coheld_any (h : Cn F w0 w mb rs Ls m b i s) :
    Calls Tryz.prog 37 #[.pointer (some ⟨b, 0, none⟩)] w fun e w' => e = .returned (.int .i64 ((s.li.length + s.lo.length : Nat) : Int)) ∧ Below w.heap.size w w' := by
  obtain ⟨ri, ro, e1, e2, hb⟩ := h.blk
  have hc : w.cell? ⟨b, 0, none⟩ = some (.pointer (some ⟨ri, 0, none⟩)) := blkL_cell hb rfl
  have hd : w.cell? ⟨b, 1, none⟩ = some (.pointer (some ⟨ro, 0, none⟩)) := blkL_cell hb rfl
  have hf := h.fit
  have ht := h.top
  have htl := h.tl
  obtain ⟨p, hm⟩ := h.many
  have H1 : Hid (∀ n, Calls Tryz.prog 56 #[.pointer (some ⟨ri, 0, none⟩)] (w.drewN n) fun e w' => e = .returned (.int .i64 s.li.length) ∧ w' = w.drewN n) := fun n => many_len i ri s.li (hm.drewN n) e1 h.hi
  have H2 : Hid (∀ n, Calls Tryz.prog 56 #[.pointer (some ⟨ro, 0, none⟩)] (w.drewN n) fun e w' => e = .returned (.int .i64 s.lo.length) ∧ w' = w.drewN n) := fun n => many_len (i + 1) ro s.lo (hm.drewN n) e2 h.ho
  have h1 : (s.li.length : Int) + s.lo.length ≤ 1099511627776 := by omega
  clear h hm hb hf ht htl
  go_enter Tryz.func37, Tryz.ntmps37
  go_wp2_with fail
  go_quiet (first | (go_at_call 56; exact Calls.quiet_of_same (H1.out _)) | (go_at_call 56; exact Calls.quiet_of_same (H2.out _)))
  clear H1 H2
  go_wp2
  go_ret
  exact ⟨by simp, (But.drewN w.heap.size _ w).below (Nat.le_refl _)⟩
def wantS (s : Cs) : Int := min (s.lo.length : Int) s.win
set_option maxRecDepth 100000 in
theorem cowant_any (h : Cn F w0 w mb rs Ls m b i s) :
    Calls Tryz.prog 31 #[.pointer (some ⟨b, 0, none⟩)] w fun e w' => e = .returned (.int .i64 (wantS s)) ∧ Below w.heap.size w w' := by
  obtain ⟨ri, ro, e1, e2, hb⟩ := h.blk
  have hc : w.cell? ⟨b, 2, none⟩ = some (.int .i64 s.win) := blkL_cell hb rfl
  have hd : w.cell? ⟨b, 1, none⟩ = some (.pointer (some ⟨ro, 0, none⟩)) := blkL_cell hb rfl
  obtain ⟨p, hm⟩ := h.many
  have H2 : Hid (∀ n, Calls Tryz.prog 56 #[.pointer (some ⟨ro, 0, none⟩)] (w.drewN n) fun e w' => e = .returned (.int .i64 s.lo.length) ∧ w' = w.drewN n) := fun n => many_len (i + 1) ro s.lo (hm.drewN n) e2 h.ho
  obtain ⟨x, hx⟩ : ∃ x, wantS s = x := ⟨_, rfl⟩
  have X := cmin_run s.lo.length s.win x hx
  rw [hx]
  clear h hm hb hx
  go_enter Tryz.func31, Tryz.ntmps31
  go_wp2_with fail
  go_region_with (go_at_call 56; refine (H2.out 1).mono ?_; rintro e w' ⟨rfl, rfl⟩)
  all_goals
    clear H2
    try go_wp2
    go_ret
    exact ⟨rfl, (But.drewN w.heap.size _ w).below (Nat.le_refl _)⟩
def doneS (s : Cs) : Bool := s.cl && !s.bz && decide (s.lo.length = 0)
theorem codone_any (h : Cn F w0 w mb rs Ls m b i s) :
    Calls Tryz.prog 35 #[.pointer (some ⟨b, 0, none⟩)] w fun e w' => e = .returned (.bool (doneS s)) ∧ w' = w := by
  obtain ⟨ri, ro, e1, e2, hb⟩ := h.blk
  have hc : w.cell? ⟨b, 3, none⟩ = some (.bool s.bz) := blkL_cell hb rfl
  have hd : w.cell? ⟨b, 1, none⟩ = some (.pointer (some ⟨ro, 0, none⟩)) := blkL_cell hb rfl
  have H0 := coclosing_any h
  obtain ⟨p, hm⟩ := h.many
  have H2 := many_len (i + 1) ro s.lo hm e2 h.ho
  clear h hm hb
  obtain ⟨li, lo, win, bz, wt, cl⟩ := s
  simp only at H0 H2 hc hd
  go_enter Tryz.func35, Tryz.ntmps35
  go_wp2_with fail
  refine H0.mono ?_
  rintro e w' ⟨rfl, rfl⟩
  clear H0
  cases cl with
  | false =>
    go_wp2
    go_ret
    exact ⟨rfl, rfl⟩
  | true =>
    cases bz with
    | true =>
      go_wp2
      go_ret
      exact ⟨rfl, rfl⟩
    | false =>
      go_wp2_with fail
      refine H2.mono ?_
      rintro e w' ⟨rfl, rfl⟩
      clear H2
      go_wp2
      go_ret
      exact ⟨by by_cases k : lo = [] <;> simp [doneS, k], rfl⟩
end
end Go.Proofs.YtemmmdhmkegaaaaGreatDoor

/- Conn: New, Feed, Note, Window. -/
namespace Go.Proofs.YtemmmdhmkegaaaaGreatDoor
open Go.RowKit
set_option linter.unusedVariables false

theorem two_l {Ls : List (List UInt8)} {i : Nat} {a c : List UInt8} (h : Ls[i + 1]? = some c) : two Ls i a c = Ls.set i a := by
  unfold two
  exact set_self _ _ _ (by rw [List.getElem?_set_ne (by omega)]; exact h)
theorem two_r {Ls : List (List UInt8)} {i : Nat} {a c : List UInt8} (h : Ls[i]? = some a) : two Ls i a c = Ls.set (i + 1) c := by
  unfold two
  rw [set_self _ _ _ h]
section
variable {F : Nat → Prop} {w0 w : World} {mb : Nat} {rs : List Nat} {Ls : List (List UInt8)} {m : Int} {b i : Nat} {s : Cs}
theorem Cn.ring {F' : Nat → Prop} {w' : World} (h : Cn F w0 w mb rs Ls m b i s) (p : Int) (s' : Cs) (e1 : s'.win = s.win) (e2 : s'.bz = s.bz) (e3 : s'.wt = s.wt) (e4 : s'.cl = s.cl)
    (hm : Many F' w0 w' mb rs (two Ls i s'.li s'.lo) m p) (hb : F' b) (hk : ∀ k, F k → w'.heap[k]? = w.heap[k]?) (hs : w.heap.size ≤ w'.heap.size) : Aft F F' w0 w w' mb rs Ls m b i s' := by
  obtain ⟨ri, ro, f1, f2, f3⟩ := h.blk
  refine ⟨⟨⟨p, hm⟩, hb, h.lo0, ⟨ri, ro, f1, f2, ?_⟩, two_in _ _ h.li1, two_out _ _ h.lo1, by rw [e1]; exact h.win⟩, fun k hk1 _ => hk k hk1, hs⟩
  rw [hk b h.own, f3]
  unfold cv
  rw [e1, e2, e3, e4]

def feedS (s : Cs) (T : Nat) (m : Int) (x : List UInt8) : Cs × Bool := if s.cl then (s, true) else if (T : Int) + x.length ≤ m then ({ s with li := s.li ++ x }, true) else (s, false)
def noteS (s : Cs) (T : Nat) (m : Int) (x : List UInt8) : Cs × Bool := if (T : Int) + x.length ≤ m then ({ s with lo := s.lo ++ x }, true) else (s, false)
theorem cofeed_any (h : Cn F w0 w mb rs Ls m b i s) (k : Nat) (x : List UInt8) (v : Value) (hv : Src w k v x) (hk : F k) :
    Calls Tryz.prog 14 #[.pointer (some ⟨b, 0, none⟩), v] w fun e w' => e = .returned (.bool (feedS s (tot Ls) m x).2) ∧ Aft F F w0 w w' mb rs Ls m b i (feedS s (tot Ls) m x).1 := by
  obtain ⟨ri, ro, e1, e2, hb⟩ := h.blk
  have hc : w.cell? ⟨b, 0, none⟩ = some (.pointer (some ⟨ri, 0, none⟩)) := blkL_cell hb rfl
  have H0 := coclosing_any h
  obtain ⟨p, hm⟩ := h.many
  have H2 := many_put i ri k s.li x v hm e1 h.hi hv hk
  have HH : Hid (Cn F w0 w mb rs Ls m b i s) := h
  clear h hb hm hv
  by_cases hcl : s.cl = true
  · rw [hcl] at H0
    go_enter Tryz.func14, Tryz.ntmps14
    go_wp2_with fail
    refine H0.mono ?_
    rintro e w' ⟨rfl, rfl⟩
    go_wp2
    go_ret
    unfold feedS
    rw [if_pos hcl]
    exact ⟨rfl, HH.out.same⟩
  · have hcl' : s.cl = false := by simpa using hcl
    rw [hcl'] at H0
    go_enter Tryz.func14, Tryz.ntmps14
    go_wp2_with fail
    refine H0.mono ?_
    rintro e w' ⟨rfl, rfl⟩
    go_wp2_with fail
    refine H2.mono ?_
    rintro e w1 ⟨rfl, M1, K1, S1⟩
    clear H0 H2
    go_wp2
    go_ret
    have h := HH.out
    unfold feedS
    rw [if_neg hcl]
    by_cases hT : (tot Ls : Int) + x.length ≤ m
    · rw [if_pos hT] at M1 ⊢
      exact ⟨by simp [hT], h.ring p _ rfl rfl rfl rfl (by rw [two_l h.ho]; exact M1) h.own K1 S1⟩
    · rw [if_neg hT] at M1 ⊢
      exact ⟨by simp [hT], h.ring p _ rfl rfl rfl rfl (by rw [two_self h.hi h.ho]; exact M1) h.own K1 S1⟩
theorem conote_any (h : Cn F w0 w mb rs Ls m b i s) (k : Nat) (x : List UInt8) (v : Value) (hv : Src w k v x) (hk : F k) :
    Calls Tryz.prog 23 #[.pointer (some ⟨b, 0, none⟩), v] w fun e w' => e = .returned (.bool (noteS s (tot Ls) m x).2) ∧ Aft F F w0 w w' mb rs Ls m b i (noteS s (tot Ls) m x).1 := by
  obtain ⟨ri, ro, e1, e2, hb⟩ := h.blk
  have hc : w.cell? ⟨b, 1, none⟩ = some (.pointer (some ⟨ro, 0, none⟩)) := blkL_cell hb rfl
  obtain ⟨p, hm⟩ := h.many
  have H2 := many_put (i + 1) ro k s.lo x v hm e2 h.ho hv hk
  have HH : Hid (Cn F w0 w mb rs Ls m b i s) := h
  clear h hb hm hv
  go_enter Tryz.func23, Tryz.ntmps23
  go_wp2_with fail
  refine H2.mono ?_
  rintro e w1 ⟨rfl, M1, K1, S1⟩
  clear H2
  go_wp2
  go_ret
  have h := HH.out
  unfold noteS
  by_cases hT : (tot Ls : Int) + x.length ≤ m
  · rw [if_pos hT] at M1 ⊢
    exact ⟨by simp [hT], h.ring p _ rfl rfl rfl rfl (by rw [two_r h.hi]; exact M1) h.own K1 S1⟩
  · rw [if_neg hT] at M1 ⊢
    exact ⟨by simp [hT], h.ring p _ rfl rfl rfl rfl (by rw [two_self h.hi h.ho]; exact M1) h.own K1 S1⟩
def windowS (s : Cs) (n : Int) : Cs := { s with win := s.win + min (max n 0) (1073741824 - s.win) }
theorem cowindow_any (h : Cn F w0 w mb rs Ls m b i s) (n : Int) :
    Calls Tryz.prog 25 #[.pointer (some ⟨b, 0, none⟩), .int .i64 n] w fun e w' => e = .returned (.tuple #[]) ∧ Aft F F w0 w w' mb rs Ls m b i (windowS s n) := by
  obtain ⟨ri, ro, e1, e2, hb⟩ := h.blk
  have hc : w.cell? ⟨b, 2, none⟩ = some (.int .i64 s.win) := blkL_cell hb rfl
  have hz : w.frozen? ⟨b, 2, none⟩ = false := blkL_z hb 2
  obtain ⟨hw0, hw1⟩ := h.win
  obtain ⟨x, hx⟩ : ∃ x, max n 0 = x := ⟨_, rfl⟩
  obtain ⟨d, hd⟩ : ∃ d, min x (1073741824 - s.win) = d := ⟨_, rfl⟩
  have X0 := cmax_run n 0 x hx
  have X1 := cmin_run x (1073741824 - s.win) d hd
  have hd0 : 0 ≤ d := by omega
  have hd1 : d ≤ 1073741824 - s.win := by omega
  have HD : Hid (windowS s n = { s with win := s.win + d }) := by unfold windowS Hid; rw [hx, hd]
  have HH : Hid (Cn F w0 w mb rs Ls m b i s) := h
  clear h hb hx hd
  go_enter Tryz.func25, Tryz.ntmps25
  go_wp2_with fail
  go_region
  go_wp2
  go_end0
  have h := HH.out
  refine ⟨rfl, ?_⟩
  rw [HD.out]
  have k := h.store 2 (.int .i64 (s.win + d)) { s with win := s.win + d } rfl rfl (fun _ _ => rfl) ⟨by show 0 ≤ s.win + d; omega, by show s.win + d ≤ _; omega⟩
  have e : two Ls i s.li s.lo = Ls := two_self h.hi h.ho
  exact Aft.below (w1 := w.setCell ⟨b, 2, none⟩ (.int .i64 (s.win + d))) ⟨by rw [e]; exact k, (set_keeps F w b).1, (set_keeps F w b).2⟩ ((Below.refl _ _).drew) h.flt
end
def newS : Cs := ⟨[], [], 0, false, false, false⟩
set_option maxHeartbeats 1000000 in
theorem conew_any {F : Nat → Prop} {w0 w : World} {mb : Nat} {rs : List Nat} {Ls : List (List UInt8)} {m p : Int} (h : Many F w0 w mb rs Ls m p) :
    Calls Tryz.prog 11 #[.pointer (some ⟨mb, 0, none⟩)] w fun e w' => ∃ b rs', e = .returned (.pointer (some ⟨b, 0, none⟩)) ∧ w.heap.size ≤ b ∧ Cn (fun k => F k ∨ k = b) w0 w' mb (rs ++ rs') (Ls ++ [[], []]) m b rs.length newS ∧ rs'.length = 2 ∧ Below w.heap.size w w' := by
  have hlen : rs.length = Ls.length := by obtain ⟨S, k⟩ := h; exact k.len
  have hb0 : w0.heap.size ≤ w.heap.size := h.bel.size
  have H1 := many_new h
  have HL : Hid (rs.length = Ls.length) := hlen
  have HB0 : Hid (w0.heap.size ≤ w.heap.size) := hb0
  clear h hlen hb0
  go_enter Tryz.func11, Tryz.ntmps11
  go_wp2_with fail
  refine H1.mono ?_
  rintro e w1 ⟨r1, rfl, e1, M1, B1⟩
  clear H1 e1
  have H2 := many_new M1
  have HM1 : Hid (Below w.heap.size w w1) := B1
  clear M1 B1
  go_wp2_with fail
  refine H2.mono ?_
  rintro e w2 ⟨r2, rfl, e2, M2, B2⟩
  clear H2 e2
  have M3 := M2.alloc (.cells (cv r1 r2 newS) 95)
  have HM3 : Hid (Many (fun k => F k ∨ k = w2.heap.size) w0 (w2.alloc (.cells (cv r1 r2 newS) 95)) mb (rs ++ [r1] ++ [r2]) (Ls ++ [[]] ++ [[]]) m p) := M3
  have HB2 : Hid (Below w.heap.size w w2) := HM1.out.trans (B2.mono HM1.out.size)
  clear M2 M3 B2 HM1
  go_wp2
  go_ret
  have hl := HL.out
  have hs := HB2.out.size
  have h0 := HB0.out
  have M3 := HM3.out
  rw [List.append_assoc, List.append_assoc] at M3
  refine ⟨w2.heap.size, [r1, r2], rfl, hs, ⟨⟨p, M3⟩, .inr rfl, by omega, ⟨r1, r2, ?_, ?_, blkL_new _ _⟩, ?_, ?_, by decide⟩, rfl, HB2.out.alloc hs _⟩
  · rw [List.getElem?_append_right (Nat.le_refl _), Nat.sub_self]; rfl
  · rw [List.getElem?_append_right (by omega), show rs.length + 1 - rs.length = 1 by omega]; rfl
  · rw [hl, List.getElem?_append_right (Nat.le_refl _), Nat.sub_self]; rfl
  · rw [hl, List.getElem?_append_right (by omega), show Ls.length + 1 - Ls.length = 1 by omega]; rfl
end Go.Proofs.YtemmmdhmkegaaaaGreatDoor

/- Conn: close, Say, Write, Drop. -/
namespace Go.Proofs.YtemmmdhmkegaaaaGreatDoor
open Go.RowKit
set_option linter.unusedVariables false

section
variable {F : Nat → Prop} {w0 w : World} {mb : Nat} {rs : List Nat} {Ls : List (List UInt8)} {m : Int} {b i : Nat} {s : Cs}
theorem codropin_any {p : Int} (ri : Nat) (li : List UInt8) (hm : Many F w0 w mb rs Ls m p) (e1 : rs[i]? = some ri) (hi : Ls[i]? = some li) (hc : w.cell? ⟨b, 0, none⟩ = some (.pointer (some ⟨ri, 0, none⟩))) :
    Calls Tryz.prog 70 #[.pointer (some ⟨b, 0, none⟩)] w fun e w' => e = .returned (.tuple #[]) ∧ (∃ p', Many F w0 w' mb rs (Ls.set i []) m p') ∧ (∀ k, F k → w'.heap[k]? = w.heap[k]?) ∧ w.heap.size ≤ w'.heap.size := by
  have H2 := many_drop i ri li hm e1 hi
  clear hm
  go_enter Tryz.func70, Tryz.ntmps70
  go_wp2_with fail
  refine H2.mono ?_
  rintro e w1 ⟨rfl, M1, K1, S1⟩
  clear H2
  go_wp2
  go_end0
  exact ⟨rfl, ⟨_, M1⟩, K1, S1⟩
def shutS (s : Cs) : Cs := if s.cl then s else { s with li := [], cl := true }
theorem coclose_any (h : Cn F w0 w mb rs Ls m b i s) :
    Calls Tryz.prog 50 #[.pointer (some ⟨b, 0, none⟩)] w fun e w' => e = .returned (.tuple #[]) ∧ Aft F F w0 w w' mb rs Ls m b i (shutS s) := by
  obtain ⟨ri, ro, e1, e2, hb⟩ := h.blk
  have hmf : ∀ (fn : Fn) (first cap : Array Value) (w : World), (Instr.makeFunc fn first cap).run Tryz.prog w = .ok (.func fn first cap) w := fun _ _ _ _ => rfl
  have hlt := h.lt
  obtain ⟨li, lo, win, bz, wt, cl⟩ := s
  cases cl with
  | true =>
    have H0 := close_closedL b (.func 70) #[.pointer (some ⟨b, 0, none⟩)] #[] w hlt (blkL_cell hb rfl)
    have HH : Hid (Cn F w0 w mb rs Ls m b i ⟨li, lo, win, bz, wt, true⟩) := h
    clear h hb
    go_enter Tryz.func50, Tryz.ntmps50
    go_wp2_with fail
    refine H0.mono ?_
    rintro e w' ⟨rfl, rfl⟩
    clear H0
    have B := W0L_below w b (.func (.func 70) #[.pointer (some ⟨b, 0, none⟩)] #[])
    generalize W0L w b (.func (.func 70) #[.pointer (some ⟨b, 0, none⟩)] #[]) = w1 at *
    go_wp2
    go_end0
    refine ⟨rfl, ?_⟩
    have k := (HH.out.below B).same
    exact ⟨k.1, fun j hj _ => B.block j (HH.out.flt j hj), B.size⟩
  | false =>
    obtain ⟨p, hm⟩ := h.many
    have hlo := h.lo0
    have H0 := close_openL b (.pointer (some ⟨ri, 0, none⟩)) (.pointer (some ⟨ro, 0, none⟩)) (.int .i64 win) (.bool bz) (.bool wt) (.int .u32 0) w
      (fun W W' => (∃ p', Many (fun k => F k ∨ (w.heap.size ≤ k ∧ k < W.heap.size)) w0 W' mb rs (Ls.set i []) m p') ∧ (∀ k, (F k ∨ (w.heap.size ≤ k ∧ k < W.heap.size)) → W'.heap[k]? = W.heap[k]?) ∧ W.heap.size ≤ W'.heap.size)
      hb (fun W hK hB => codropin_any ri li (hm.step hK (fun j hj => ⟨.inl (hj ▸ h.own), by subst hj; exact hlo⟩) (fun j hj => hj)) e1 h.hi (blkL_cell hB rfl))
      (fun W W' hQ => ⟨hQ.2.1 b (.inl h.own), fun k h1 h2 => hQ.2.1 k (.inr ⟨h1, h2⟩)⟩)
    have HH : Hid (Cn F w0 w mb rs Ls m b i ⟨li, lo, win, bz, wt, false⟩) := h
    clear h hb hm
    go_enter Tryz.func50, Tryz.ntmps50
    go_wp2_with fail
    refine H0.mono ?_
    rintro e w1 ⟨rfl, W, W', K1, ⟨⟨p', M1⟩, K2, S2⟩, K3, B3⟩
    clear H0
    go_wp2
    go_end0
    refine ⟨rfl, ?_⟩
    have h := HH.out
    have M2 : Many F w0 w1 mb rs (Ls.set i []) m p' := M1.step K3 (fun j hj => ⟨.inl (.inl (hj ▸ h.own)), by subst hj; exact hlo⟩) (fun j hj => .inl (.inl hj))
    refine ⟨⟨⟨p', by rw [show two Ls i (shutS ⟨li, lo, win, bz, wt, false⟩).li (shutS ⟨li, lo, win, bz, wt, false⟩).lo = Ls.set i [] from two_l h.ho]; exact M2⟩, h.own, hlo, ⟨ri, ro, e1, e2, B3⟩, two_in _ _ h.li1, two_out _ _ h.lo1, h.win⟩, fun k hk hne => ?_, ?_⟩
    · have hk1 := h.flt k hk
      rw [K3.block k (by have := K1.size; omega) hne, K2 k (.inl hk), K1.block k hk1 hne]
    · have := K1.size
      have := K3.size
      omega
def say2 (s : Cs) (last : Bool) : Cs := if last then shutS { s with bz := false } else { s with bz := false }
def sayS (s : Cs) (T : Nat) (m : Int) (x : List UInt8) (last : Bool) : Cs × Bool := noteS (say2 s last) (T - s.li.length + (say2 s last).li.length) m x
theorem say2_lo (s : Cs) (last : Bool) : (say2 s last).lo = s.lo := by unfold say2 shutS; cases last <;> (try rfl); cases s.cl <;> rfl
theorem say2_tot (h : Cn F w0 w mb rs Ls m b i s) (last : Bool) : tot (two Ls i (say2 s last).li (say2 s last).lo) = tot Ls - s.li.length + (say2 s last).li.length := by
  have k := two_tot (say2 s last).li (say2 s last).lo h.hi h.ho
  rw [say2_lo] at k ⊢
  have := h.tl
  omega
theorem cosay_any (h : Cn F w0 w mb rs Ls m b i s) (k : Nat) (x : List UInt8) (v : Value) (last : Bool) (hv : Src w k v x) (hk : F k) (hkb : k ≠ b) :
    Calls Tryz.prog 21 #[.pointer (some ⟨b, 0, none⟩), v, .bool last] w fun e w' => e = .returned (.bool (sayS s (tot Ls) m x last).2) ∧ Aft F F w0 w w' mb rs Ls m b i (sayS s (tot Ls) m x last).1 := by
  obtain ⟨ri, ro, e1, e2, hb⟩ := h.blk
  have hz : w.frozen? ⟨b, 3, none⟩ = false := blkL_z hb 3
  have h1 := h.store 3 (.bool false) { s with bz := false } rfl rfl (fun _ _ => rfl) h.win
  have e : two Ls i s.li s.lo = Ls := two_self h.hi h.ho
  have A1 : Aft F F w0 w (w.setCell ⟨b, 3, none⟩ (.bool false)) mb rs Ls m b i { s with bz := false } := ⟨by rw [e]; exact h1, (set_keeps F w b).1, (set_keeps F w b).2⟩
  have hc3 : w.cell? ⟨b, 3, none⟩ = some (.bool s.bz) := blkL_cell hb rfl
  -- the rest, whatever closing did
  have HN : ∀ w1, Aft F F w0 w w1 mb rs Ls m b i (say2 s last) → ∃ ro', w1.cell? ⟨b, 1, none⟩ = some (.pointer (some ⟨ro', 0, none⟩)) ∧ Calls Tryz.prog 45 #[.pointer (some ⟨ro', 0, none⟩), v] w1 fun e w' => e = .returned (.bool (sayS s (tot Ls) m x last).2) ∧ Aft F F w0 w w' mb rs Ls m b i (sayS s (tot Ls) m x last).1 := by
    intro w1 A
    obtain ⟨k1, k2, k3⟩ := A
    obtain ⟨ri', ro', f1, f2, f3⟩ := k1.blk
    obtain ⟨p, hm⟩ := k1.many
    refine ⟨ro', blkL_cell f3 rfl, (many_put (i + 1) ro' k _ x v hm f2 k1.ho (hv.frame (k2 k hk hkb)) hk).mono ?_⟩
    rintro e w2 ⟨rfl, M1, K1, S1⟩
    rw [say2_tot h last] at M1
    rw [say2_tot h last]
    unfold sayS noteS
    by_cases hT : ((tot Ls - s.li.length + (say2 s last).li.length : Nat) : Int) + x.length ≤ m
    · rw [if_pos hT] at M1 ⊢
      exact ⟨by simp only [hT]; rfl, Aft.then ⟨k1, k2, k3⟩ (k1.ring p { say2 s last with lo := (say2 s last).lo ++ x } rfl rfl rfl rfl (by rw [two_r k1.hi]; exact M1) k1.own K1 S1) (fun _ h => h)⟩
    · rw [if_neg hT] at M1 ⊢
      exact ⟨by simp only [hT]; rfl, Aft.then ⟨k1, k2, k3⟩ (k1.ring p (say2 s last) rfl rfl rfl rfl (by rw [two_self k1.hi k1.ho]; exact M1) k1.own K1 S1) (fun _ h => h)⟩
  have HNN : Hid (∀ w1, Aft F F w0 w w1 mb rs Ls m b i (say2 s last) → ∃ ro', w1.cell? ⟨b, 1, none⟩ = some (.pointer (some ⟨ro', 0, none⟩)) ∧ Calls Tryz.prog 45 #[.pointer (some ⟨ro', 0, none⟩), v] w1 fun e w' => e = .returned (.bool (sayS s (tot Ls) m x last).2) ∧ Aft F F w0 w w' mb rs Ls m b i (sayS s (tot Ls) m x last).1) := HN
  have h1' : Cn F w0 (w.setCell ⟨b, 3, none⟩ (.bool false)) mb rs (two Ls i s.li s.lo) m b i { s with bz := false } := by rw [e]; exact h1
  have H0 := coclose_any h1'
  have HA : Hid (Aft F F w0 w (w.setCell ⟨b, 3, none⟩ (.bool false)) mb rs Ls m b i { s with bz := false }) := A1
  clear HN h h1 h1' A1 hb hv e e1 e2
  cases last with
  | true =>
    go_enter Tryz.func21, Tryz.ntmps21
    go_wp2_with fail
    refine H0.mono ?_
    rintro e w1 ⟨rfl, A2⟩
    obtain ⟨ro', hc, HP⟩ := HNN.out w1 (HA.out.then A2 (fun _ h => h))
    clear H0 HNN
    go_wp2_with fail
    refine HP.mono ?_
    rintro e w2 ⟨rfl, A3⟩
    clear HP
    go_wp2
    go_ret
    exact ⟨rfl, A3⟩
  | false =>
    obtain ⟨ro', hc, HP⟩ := HNN.out _ HA.out
    clear H0 HNN
    go_enter Tryz.func21, Tryz.ntmps21
    go_wp2_with fail
    refine HP.mono ?_
    rintro e w2 ⟨rfl, A3⟩
    clear HP
    go_wp2
    go_ret
    exact ⟨rfl, A3⟩
def writeN (s : Cs) (n : Int) : Nat := (min (max n 0) (wantS s)).toNat
def writeS (s : Cs) (n : Int) : Cs := { s with lo := s.lo.drop (writeN s n), win := s.win - writeN s n }
theorem writeN_le (s : Cs) (n : Int) (h : 0 ≤ s.win) : writeN s n ≤ s.lo.length ∧ (writeN s n : Int) ≤ s.win := by
  unfold writeN wantS; omega
theorem cowrite_any (h : Cn F w0 w mb rs Ls m b i s) (n : Int) :
    Calls Tryz.prog 28 #[.pointer (some ⟨b, 0, none⟩), .int .i64 n] w fun e w' => ∃ g, e = .returned (.slice (some ⟨g, 0, none⟩) (writeN s n) (writeN s n)) ∧ w.heap.size ≤ g ∧
      w'.heap[g]? = some (.cells (rowB (s.lo.take (writeN s n))).toArray 5) ∧ Aft F (fun k => F k ∨ k = g) w0 w w' mb rs Ls m b i (writeS s n) := by
  have H0 := cowant_any h
  have hN := writeN_le s n h.win.1
  have HFL : Hid (∀ k, F k → k < w.heap.size) := h.flt
  obtain ⟨hw0, hw1⟩ := h.win
  obtain ⟨x, hx⟩ : ∃ x, max n 0 = x := ⟨_, rfl⟩
  have X0 := cmax_run n 0 x hx
  have hmn : min x (wantS s) = (writeN s n : Int) := by unfold writeN; rw [hx]; unfold wantS; omega
  have X1 := cmin_run x (wantS s) (writeN s n) hmn
  have HH : Hid (Cn F w0 w mb rs Ls m b i s) := h
  obtain ⟨N, hNe⟩ : ∃ N, N = writeN s n := ⟨_, rfl⟩
  have HNE : Hid (N = writeN s n) := hNe
  rw [← hNe] at X1 hN ⊢
  obtain ⟨WS, hWS⟩ : ∃ z, z = wantS s := ⟨_, rfl⟩
  rw [← hWS] at H0 X1
  clear h hx hmn hWS hNe
  go_enter Tryz.func28, Tryz.ntmps28
  go_wp2_with fail
  refine H0.mono ?_
  rintro e w1 ⟨rfl, B1⟩
  have h1 := HH.out.below B1
  obtain ⟨ri, ro, e1, e2, hb⟩ := h1.blk
  have hz : w1.frozen? ⟨b, 2, none⟩ = false := blkL_z hb 2
  have hc : w1.cell? ⟨b, 2, none⟩ = some (.int .i64 s.win) := blkL_cell hb rfl
  have hc1 : w1.cell? ⟨b, 1, none⟩ = some (.pointer (some ⟨ro, 0, none⟩)) := blkL_cell hb rfl
  have h2 := h1.store 2 (.int .i64 (s.win - N)) { s with win := s.win - N } rfl rfl (fun _ _ => rfl) ⟨by show 0 ≤ s.win - _; omega, by show s.win - _ ≤ _; omega⟩
  obtain ⟨p, hm⟩ := h2.many
  have hcp : clp (N : Int) s.lo.length = N := by unfold clp; rw [if_neg (by omega), if_neg (by omega)]; omega
  have H2 := many_take (i + 1) ro s.lo N hm e2 h2.ho
  rw [hcp] at H2
  have HH2 : Hid (Cn F w0 (w1.setCell ⟨b, 2, none⟩ (.int .i64 (s.win - N))) mb rs Ls m b i { s with win := s.win - N }) := h2
  have HK : Hid ((∀ k, F k → k ≠ b → (w1.setCell ⟨b, 2, none⟩ (.int .i64 (s.win - N))).heap[k]? = w.heap[k]?) ∧ w.heap.size ≤ (w1.setCell ⟨b, 2, none⟩ (.int .i64 (s.win - N))).heap.size) := by
    obtain ⟨q1, q2⟩ := set_keeps (q := 2) (v := .int .i64 (s.win - N)) F w1 b
    exact ⟨fun k hk hne => (q1 k hk hne).trans (B1.block k (HFL.out k hk)), Nat.le_trans B1.size q2⟩
  clear H0 h1 h2 hm hb hcp B1
  go_wp2_with fail
  refine H2.mono ?_
  rintro e w2 ⟨g, rfl, hg, hrow, M1, K1, S1⟩
  clear H2
  go_wp2
  go_ret
  have h1 := HH2.out
  have hNE := HNE.out
  obtain ⟨q1, q2⟩ := HK.out
  refine ⟨g, rfl, by omega, hrow, ?_⟩
  have A := h1.ring (F' := fun k => F k ∨ k = g) _ (writeS s n) (by show s.win - (writeN s n : Int) = s.win - (N : Int); rw [hNE]) rfl rfl rfl (by
    have e := two_r (i := i) (c := s.lo.drop N) h1.hi
    show Many _ w0 w2 mb rs (two Ls i s.li (s.lo.drop (writeN s n))) m _
    rw [← hNE, e]; exact M1) (.inl h1.own) K1 S1
  exact ⟨A.1, fun k hk hne => (A.2.1 k hk hne).trans (q1 k hk hne), Nat.le_trans q2 A.2.2⟩
def dropS (s : Cs) : Cs := { shutS s with lo := [] }
theorem codrop_any (h : Cn F w0 w mb rs Ls m b i s) :
    Calls Tryz.prog 30 #[.pointer (some ⟨b, 0, none⟩)] w fun e w' => e = .returned (.tuple #[]) ∧ Aft F F w0 w w' mb rs Ls m b i (dropS s) := by
  have H0 := coclose_any h
  clear h
  go_enter Tryz.func30, Tryz.ntmps30
  go_wp2_with fail
  refine H0.mono ?_
  rintro e w1 ⟨rfl, A⟩
  have h1 := A.1
  obtain ⟨ri, ro, e1, e2, hb⟩ := h1.blk
  have hc1 : w1.cell? ⟨b, 1, none⟩ = some (.pointer (some ⟨ro, 0, none⟩)) := blkL_cell hb rfl
  obtain ⟨p, hm⟩ := h1.many
  have H2 := many_drop (i + 1) ro _ hm e2 h1.ho
  have HA : Hid (Aft F F w0 w w1 mb rs Ls m b i (shutS s)) := A
  clear H0 A h1 hm hb
  go_wp2_with fail
  refine H2.mono ?_
  rintro e w2 ⟨rfl, M1, K1, S1⟩
  clear H2
  go_wp2
  go_end0
  have A := HA.out
  exact ⟨rfl, A.then (A.1.ring _ (dropS s) rfl rfl rfl rfl (by rw [show two (two Ls i (shutS s).li (shutS s).lo) i (dropS s).li (dropS s).lo = (two Ls i (shutS s).li (shutS s).lo).set (i + 1) [] from two_r A.1.hi]; exact M1) A.1.own K1 S1) (fun _ h => h)⟩
end
end Go.Proofs.YtemmmdhmkegaaaaGreatDoor
