/- Bytes in memory: slices that are read, rows that grow, texts made of bytes; arguments that are lists of bytes. -/
import Derived.Test.YtdibldocfhpnkaaDoorRows
import Derived.WalkKit
import Derived.WalkSpells
import Derived.WalkLawsBesides
import Derived.ProofKit
import Derived.OpenShut
import Derived.Below
import Derived.Laws.Pointers
import Derived.Laws.CopyOwn
import Derived.Laws.IdiomStrings
import Derived.Lib.SlBytesConst
import Derived.Lib.Walk
import Derived.Deep.QuietTactic
import Derived.BigQuiet
import Derived.Maps.AppendAt
import Derived.Laws.OwnMore
import Derived.Laws.Concat
namespace Go.Proofs.YtdibldocfhpnkaaDoor
open Go.ChangeShapes Go.WideShapes Go.ChangeAt Go.RowKit
set_option linter.unusedVariables false

/-- Blocks outside T stay; new ones may come. -/
structure Kp (T : Nat → Prop) (w w' : World) : Prop where
  os : w'.os = w.os
  tape : w'.tape = w.tape
  output : w'.output = w.output
  size : w.heap.size ≤ w'.heap.size
  block : ∀ k, k < w.heap.size → ¬ T k → w'.heap[k]? = w.heap[k]?
theorem Kp.refl (T : Nat → Prop) (w : World) : Kp T w w := ⟨rfl, rfl, rfl, Nat.le_refl _, fun _ _ _ => rfl⟩
theorem Kp.trans {T T' : Nat → Prop} {u v w : World} (h : Kp T u v) (k : Kp T' v w) (ht : ∀ i, T' i → T i ∨ u.heap.size ≤ i) : Kp T u w :=
  ⟨k.os.trans h.os, k.tape.trans h.tape, k.output.trans h.output, Nat.le_trans h.size k.size, fun i hi hn =>
    (k.block i (Nat.lt_of_lt_of_le hi h.size) (fun c => by rcases ht i c with c | c; exact hn c; omega)).trans (h.block i hi hn)⟩
theorem Kp.mono {T T' : Nat → Prop} {u v : World} (h : Kp T u v) (ht : ∀ i, T i → T' i) : Kp T' u v :=
  ⟨h.os, h.tape, h.output, h.size, fun i hi hn => h.block i hi (fun c => hn (ht i c))⟩
theorem Kp.then {T : Nat → Prop} {u v w : World} (h : Kp T u v) (k : Kp T v w) : Kp T u w := h.trans k (fun _ c => .inl c)
theorem Kp.ofBelow {T : Nat → Prop} {u v : World} (h : Below u.heap.size u v) : Kp T u v :=
  ⟨h.os, h.tape, h.output, h.size, fun i hi _ => h.block i hi⟩
theorem Kp.alloc (T : Nat → Prop) (w : World) (o : Obj) : Kp T w (w.alloc o) := Kp.ofBelow ((Below.refl _ _).alloc (Nat.le_refl _) _)
theorem Kp.below {T : Nat → Prop} {B : Nat} {u v : World} (h : Kp T u v) (hB : B ≤ u.heap.size) (ht : ∀ k, k < B → ¬ T k) : Below B u v :=
  ⟨h.os, h.tape, h.output, h.size, fun k hk => h.block k (Nat.lt_of_lt_of_le hk hB) (ht k hk)⟩
theorem slice_inj {a a' : Option Addr} {n n' c c' : Nat} (h : Value.slice a n c = Value.slice a' n' c') : a = a' ∧ n = n' ∧ c = c' := by cases h; exact ⟨rfl, rfl, rfl⟩
theorem heap_lt {w : World} {b : Nat} {o : Obj} (h : w.heap[b]? = some o) : b < w.heap.size := (Array.getElem?_eq_some_iff.1 h).1
theorem Kp.at {T : Nat → Prop} {c : Nat} {w w' : World} (h : Kp T w w') (hc : ¬ T c) {o : Obj} (k : w.heap[c]? = some o) : w'.heap[c]? = some o :=
  (h.block c (heap_lt k) hc).trans k

def bv (b : UInt8) : Value := .int .u8 (b.toNat : Int)
theorem ring_cell {w : World} {b i : Nat} {c : Array Value} {t : TypeId} {v : Value} (h : w.heap[b]? = some (.cells c t)) (hv : c[i]? = some v) : w.cell? ⟨b, i, none⟩ = some v := by
  simp [World.cell?, h, hv]
theorem ring_z {w : World} {b i : Nat} {c : Array Value} {t : TypeId} (h : w.heap[b]? = some (.cells c t)) : w.frozen? ⟨b, i, none⟩ = false := by
  simp [World.frozen?, h]
theorem ring_set {w : World} {b i : Nat} {c : Array Value} {t : TypeId} {v : Value} (h : w.heap[b]? = some (.cells c t)) : (w.setCell ⟨b, i, none⟩ v).heap[b]? = some (.cells (c.setIfInBounds i v) t) := by
  simp [World.setCell, Array.getElem?_modify, h]
theorem new_at (w : World) (o : Obj) : (w.alloc o).heap[w.heap.size]? = some o := by
  show (w.heap.push o)[w.heap.size]? = _; simp
theorem addr_add (b o i : Nat) : (⟨b, o, none⟩ : Addr).add i = ⟨b, o + i, none⟩ := by unfold Addr.add; split <;> simp_all
/-- A slice of bytes, lying in block k if it has any. -/
def Src (w : World) (k : Nat) (v : Value) (b : List UInt8) : Prop := ∃ a c, v = .slice a b.length c ∧ b.length ≤ c ∧ c ≤ maxLen ∧ (0 < b.length → ∃ off, a = some ⟨k, off, none⟩ ∧ ∀ (j : Nat) (hj : j < b.length), w.cell? ⟨k, off + j, none⟩ = some (bv b[j]))
theorem Src.frame {w w' : World} {k : Nat} {v : Value} {b : List UInt8} (h : Src w k v b) (hk : w'.heap[k]? = w.heap[k]?) : Src w' k v b := by
  obtain ⟨a, c, e, h1, h2, h3⟩ := h
  refine ⟨a, c, e, h1, h2, fun hp => ?_⟩
  obtain ⟨off, ea, hc⟩ := h3 hp
  refine ⟨off, ea, fun j hj => ?_⟩
  rw [← hc j hj]
  simp [World.cell?, hk]

theorem bvs_one (l : List UInt8) : ∀ v ∈ l.map bv, v.oneCell' = true := by
  intro v hv
  obtain ⟨b, _, rfl⟩ := List.mem_map.1 hv
  rfl
theorem infoB : (Tryd.prog.info? 5).map (·.size) = some 1 := by kernel_rfl
def lenOf (v : Value) : Nat := match v with | .slice _ n _ => n | _ => 0
theorem Src.rest {w : World} {k off c : Nat} {b : List UInt8} (n : Nat) (hn : n ≤ b.length) (h1 : b.length ≤ c) (h2 : c ≤ maxLen) (h3 : ∀ (j : Nat) (hj : j < b.length), w.cell? ⟨k, off + j, none⟩ = some (bv b[j])) (a : Option Addr) (ha : n < b.length → a = some ⟨k, off + n, none⟩) :
    Src w k (.slice a (b.length - n) (c - n)) (b.drop n) := by
  refine ⟨a, c - n, by rw [List.length_drop], by rw [List.length_drop]; omega, by omega, fun hp => ?_⟩
  rw [List.length_drop] at hp
  refine ⟨off + n, ha (by omega), fun j hj => ?_⟩
  rw [List.length_drop] at hj
  rw [List.getElem_drop, Nat.add_assoc]
  exact h3 (n + j) (by omega)

/-- A row of bytes. -/
def rowB (l : List UInt8) : List Value := l.map bv
theorem infoB3 : (Tryd.prog.info? 5).map (fun i => (i.zero, i.size, i.bytes)) = some (some (.int .u8 0), 1, 1) := by kernel_rfl
theorem made_zero (n : Nat) : madeCells (Value.int .u8 0).cells n = (rowB (List.replicate n 0)).toArray := by
  unfold madeCells rowB
  apply Array.toList_inj.1
  apply List.ext_getElem?
  intro i
  rcases Nat.lt_or_ge i n with h | h
  · simp [h, Value.cells, bv, Nat.mod_one]
  · rw [List.getElem?_eq_none (by simpa using h), List.getElem?_eq_none (by simpa using h)]
theorem make_bytes (w : World) (n : Nat) (h : n ≤ 281474976710656) : (Instr.makeSlice 25 (.int .i64 (n : Int)) (.int .i64 (n : Int))).run Tryd.prog w = .ok (.slice (some ⟨w.heap.size, 0, none⟩) n n) (w.alloc (.cells (rowB (List.replicate n 0)).toArray 5)) := by
  obtain ⟨i, hi, hz0, hz1, hz2⟩ := info_parts infoB3
  have k := run_make (P := Tryd.prog) w 25 5 i (.int .u8 0) Tryd.underlying25 hi hz0 .i64 .i64 n n (by omega) (by omega) (by rw [hz2]; omega) (by omega)
  rw [Int.toNat_natCast, hz1, Nat.mul_one, made_zero] at k
  exact k
theorem rowB_length (l : List UInt8) : (rowB l).length = l.length := by simp [rowB]
theorem rowB_take (l : List UInt8) (k : Nat) : (rowB l).take k = rowB (l.take k) := by simp [rowB, List.map_take]
theorem rowB_drop (l : List UInt8) (k : Nat) : (rowB l).drop k = rowB (l.drop k) := by simp [rowB, List.map_drop]
theorem rowB_app (l k : List UInt8) : rowB (l ++ k) = rowB l ++ rowB k := by simp [rowB]

/-- A row of bytes in a block of its own is a slice. -/
theorem src_row {w : World} {g n : Nat} {l : List UInt8} (h : w.heap[g]? = some (.cells (rowB l).toArray 5)) (hl : l.length = n) (hm : n ≤ maxLen) : Src w g (.slice (some ⟨g, 0, none⟩) n n) l := by
  subst hl
  refine ⟨_, _, rfl, Nat.le_refl _, hm, fun _ => ⟨0, rfl, fun j hj => ?_⟩⟩
  refine ring_cell h ?_
  rw [Nat.zero_add, List.getElem?_toArray]
  unfold rowB
  rw [List.getElem?_map, List.getElem?_eq_getElem hj]; rfl
theorem Src.below {w w' : World} {k : Nat} {v : Value} {b : List UInt8} (h : Src w k v b) (hk : k < w.heap.size) (hB : Below w.heap.size w w') : Src w' k v b := h.frame (hB.block k hk)
/-- Bytes made of a text. -/
theorem conv_src (w : World) (s : ByteArray) (hs : s.size ≤ maxLen) : ∃ v w1, (convert 9 25 (.string s)).run Tryd.prog w = .ok v w1 ∧ Src w1 w.heap.size v s.data.toList ∧ Below w.heap.size w w1 ∧ w.heap.size < w1.heap.size := by
  refine ⟨_, _, run_bytes_of_string w 9 25 5 s Tryd.underlying9 Tryd.underlying25 Tryd.underlying5, ?_, ?_, ?_⟩
  · refine ⟨_, _, rfl, grownCap_ge _ _ _ _, grownCap_le_maxLen _ _ _ _ hs, fun _ => ⟨0, rfl, fun j hj => ?_⟩⟩
    have hb := new_at w.drew (.cells (bytesRow s (grownCap w s.size 0 5)) 5 ((bytesRow s (grownCap w s.size 0 5)).size, (bytesRow s (grownCap w s.size 0 5)).size + 1))
    have hsz : w.drew.heap.size = w.heap.size := rfl
    rw [hsz] at hb
    have e : (bytesRow s (grownCap w s.size 0 5))[j]? = some (bv s.data.toList[j]) := by
      unfold bytesRow
      have hj' : j < s.data.size := by simpa using hj
      rw [Array.getElem?_append_left (by simpa using hj'), Array.getElem?_map, Array.getElem?_eq_getElem hj']
      rfl
    unfold World.cell?
    rw [hb]
    show (bytesRow s (grownCap w s.size 0 5))[0 + j]? = _
    rw [Nat.zero_add, e]
  · exact ((Below.refl _ _).drew).alloc (Nat.le_refl _) _
  · simp
theorem conv_back {w : World} {k : Nat} {a : Option Addr} {n c : Nat} {b : List UInt8} (h : Src w k (.slice a n c) b) (hp : 0 < n) : (convert 25 9 (.slice a n c)).run Tryd.prog w = .ok (.string ⟨b.toArray⟩) w := by
  obtain ⟨a', c', e, h1, h2, h3⟩ := h
  obtain ⟨e1, e2, e3⟩ := slice_inj e
  subst e1 e2 e3
  obtain ⟨off, rfl, hc⟩ := h3 hp
  exact run_convert_bytes_back (P := Tryd.prog) w 25 9 5 ⟨k, off, none⟩ c b Tryd.underlying25 Tryd.underlying5 Tryd.underlying9 (fun j hj => by rw [addr_add]; exact hc j hj)

theorem conv_same (w : World) (C : Array Value) (n c : Nat) : (convert 25 25 (.slice (some ⟨w.heap.size, 0, none⟩) n c)).run Tryd.prog (w.alloc (.cells C 5)) = .ok (.slice (some ⟨w.heap.size, 0, none⟩) n c) (w.alloc (.cells C 5 (C.size, C.size + 1))) :=
  Lib.run_convert_bytes_const w 25 5 C n c Tryd.underlying25 Tryd.underlying5
theorem lit_src (w : World) (l : List UInt8) (n : Nat) (row : Array Value) (fz : Nat × Nat) (hl : l.length = n) (hm : n ≤ maxLen) (hr : (rowB l).toArray = row) : Src (w.alloc (.cells row 5 fz)) w.heap.size (.slice (some ⟨w.heap.size, 0, none⟩) n n) l := by
  subst hr hl
  refine ⟨_, _, rfl, Nat.le_refl _, hm, fun _ => ⟨0, rfl, fun j hj => ?_⟩⟩
  have h := new_at w (.cells (rowB l).toArray 5 fz)
  have e : (rowB l).toArray[0 + j]? = some (bv l[j]) := by
    rw [Nat.zero_add, List.getElem?_toArray]
    unfold rowB
    rw [List.getElem?_map, List.getElem?_eq_getElem hj]; rfl
  unfold World.cell?
  rw [h]
  exact e

/-- The bytes X, in block g, which the walk itself has made. -/
def Acc (w : World) (g : Nat) (v : Value) (X : List UInt8) : Prop := v.ownBlock = some g ∧ w.ownsRow 0 5 1 v X.length (rowB X)
theorem Acc.form {w : World} {g : Nat} {v : Value} {X : List UInt8} (h : Acc w g v X) : ∃ c, v = .slice (some ⟨g, 0, none⟩) X.length c := by
  obtain ⟨h1, h2, h3 | ⟨g', c, cur, hv, _⟩⟩ := h
  · rw [h3.1] at h1; cases h1
  · rw [hv] at h1
    have : g' = g := by simpa [Value.ownBlock] using h1
    subst this
    exact ⟨c, hv⟩
theorem Acc.src {w : World} {g : Nat} {v : Value} {X : List UInt8} (h : Acc w g v X) : Src w g v X := by
  obtain ⟨c, hv⟩ := h.form
  obtain ⟨h1, h2⟩ := h
  have h3 := h2
  obtain ⟨h4, h5 | ⟨g', c', cur, hv', _, hg, hl, hm, hs, ht⟩⟩ := h2
  · rw [hv] at h5; cases h5.1
  · rw [hv] at hv'
    obtain ⟨e1, e2, e3⟩ := slice_inj hv'
    have eg : g = g' := by simpa using e1
    subst e3
    refine ⟨_, _, hv, hl, hm, fun _ => ⟨0, rfl, fun j hj => ?_⟩⟩
    have k := (hv ▸ h3 : w.ownsRow 0 5 1 (.slice (some ⟨g, 0, none⟩) X.length c) X.length (rowB X)).cellAt j (by omega)
    rw [Nat.zero_add, k]
    unfold rowB
    rw [List.getElem?_map, List.getElem?_eq_getElem hj]; rfl
theorem Acc.lt {w : World} {g : Nat} {v : Value} {X : List UInt8} (h : Acc w g v X) : g < w.heap.size := by
  obtain ⟨h1, h2, h3 | ⟨g', c, cur, hv, _, hg, _⟩⟩ := h
  · rw [h3.1] at h1; cases h1
  · rw [hv] at h1
    have : g' = g := by simpa [Value.ownBlock] using h1
    subst this
    exact heap_lt hg
theorem Acc.frame {w w' : World} {g : Nat} {v : Value} {X : List UInt8} (h : Acc w g v X) (hk : w'.heap[g]? = w.heap[g]?) : Acc w' g v X := by
  obtain ⟨h1, h2, h3 | ⟨g', c, cur, hv, hb, hg, r⟩⟩ := h
  · rw [h3.1] at h1; cases h1
  · have hg' := h1
    rw [hv] at hg'
    have : g' = g := by simpa [Value.ownBlock] using hg'
    subst this
    exact ⟨h1, h2, .inr ⟨g', c, cur, hv, hb, hk.trans hg, r⟩⟩
theorem Acc.empty (w : World) : Acc (w.alloc (.cells #[] 5)) w.heap.size (.slice (some ⟨w.heap.size, 0, none⟩) 0 0) [] :=
  ⟨rfl, rfl, .inr ⟨w.heap.size, 0, #[], rfl, Nat.zero_le _, new_at _ _, Nat.le_refl _, by decide, rfl, rfl⟩⟩
/-- Bytes appended. -/
theorem acc_append {w : World} {g k : Nat} {v : Value} {X Y : List UInt8} {a : Option Addr} {n c : Nat} (h : Acc w g v X) (hs : Src w k (.slice a n c) Y) (hnil : a = none → c = 0) (hmax : X.length + Y.length ≤ 140737488355328) :
    ∃ v' w' g', (Builtin.append_ #[25, 25] 25 #[v, .slice a n c]).run Tryd.prog w = .ok v' w' ∧ Acc w' g' v' (X ++ Y) ∧ (g' = g ∨ (w.heap.size ≤ g' ∧ g' < w'.heap.size)) ∧ Kp (fun k => k = g) w w' := by
  obtain ⟨i, hi, hz0, hz1, hz2⟩ := info_parts infoB3
  obtain ⟨a', c', e, h1, h2, h3⟩ := hs
  obtain ⟨e1, e2, e3⟩ := slice_inj e
  subst e1 e2 e3
  have hmx : X.length + Y.length ≤ maxLen := by unfold maxLen; omega
  cases a with
  | none =>
    have hc := hnil rfl
    have hy : Y = [] := by
      rcases Nat.eq_zero_or_pos Y.length with q | q
      · exact List.eq_nil_of_length_eq_zero q
      · obtain ⟨_, q, _⟩ := h3 q; cases q
    subst hy hc
    refine ⟨v, w, g, run_append_owned_none w 0 25 25 5 i 1 Tryd.underlying25 hi v _ _ h.2, by rw [List.append_nil]; exact h, .inl rfl, Kp.refl _ _⟩
  | some ad =>
    obtain ⟨v', w', hr, q1, q2, q3, q4⟩ := run_append_own_at (P := Tryd.prog) w 0 25 25 5 i (.int .u8 0) 1 1 Tryd.underlying25 hi hz0 hz1 hz2 rfl (by decide) v X.length (rowB X) h.2 ad Y.length c (rowB Y) (by rw [rowB_length]; omega)
      (fun j u hj => by
        unfold rowB at hj
        rw [List.getElem?_map] at hj
        obtain ⟨x, hx, rfl⟩ := Option.map_eq_some_iff.1 hj
        have hjl := (List.getElem?_eq_some_iff.1 hx).1
        obtain ⟨off, ha, hc⟩ := h3 (by omega)
        have : ad = ⟨k, off, none⟩ := by simpa using ha
        subst this
        rw [addr_add, hc j hjl, (List.getElem?_eq_some_iff.1 hx).2]) (bvs_one _) hmx (by omega) (Nat.zero_le _)
    have hk : Kp (fun k => k = g) w w' := ⟨q2.os, q2.tape, q2.output, q2.size, fun j hj hn => q2.block j hj (fun c => hn (by rw [h.1] at c; exact Option.some.inj c))⟩
    have hrow : w'.ownsRow 0 5 1 v' (X ++ Y).length (rowB (X ++ Y)) := by rw [List.length_append, rowB_app]; exact q1
    rcases q4 with q4 | q4
    · exact ⟨v', w', g, hr, ⟨q4.trans h.1, hrow⟩, .inl rfl, hk⟩
    · exact ⟨v', w', w.heap.size, hr, ⟨q4, hrow⟩, .inr ⟨Nat.le_refl _, Acc.lt ⟨q4, hrow⟩⟩, hk⟩
theorem Src.take {w : World} {k n m c : Nat} {a : Option Addr} {b : List UInt8} (h : Src w k (.slice a n c) b) (hm : m ≤ b.length) : Src w k (.slice a m c) (b.take m) := by
  obtain ⟨a', c', e, h1, h2, h3⟩ := h
  obtain ⟨e1, e2, e3⟩ := slice_inj e
  subst e1 e2 e3
  have hl : (b.take m).length = m := by rw [List.length_take]; omega
  refine ⟨a, c, by rw [hl], by omega, h2, fun hp => ?_⟩
  obtain ⟨off, ha, hc⟩ := h3 (by omega)
  exact ⟨off, ha, fun j hj => by rw [List.getElem_take]; exact hc j (by omega)⟩
theorem Src.cut {w : World} {k n m c : Nat} {a a' : Option Addr} {b : List UInt8} (h : Src w k (.slice a n c) b) (hm : m ≤ b.length) (ha' : m < c → a' = a.map (fun x => x.add m)) : Src w k (.slice a' (n - m) (c - m)) (b.drop m) := by
  obtain ⟨a0, c', e, h1, h2, h3⟩ := h
  obtain ⟨e1, e2, e3⟩ := slice_inj e
  subst e1 e2 e3
  refine ⟨a', c - m, by rw [List.length_drop], by rw [List.length_drop]; omega, by omega, fun hp => ?_⟩
  rw [List.length_drop] at hp
  obtain ⟨off, ha, hc⟩ := h3 (by omega)
  refine ⟨off + m, by rw [ha' (by omega), ha]; simp [addr_add], fun j hj => ?_⟩
  rw [List.length_drop] at hj
  rw [List.getElem_drop, Nat.add_assoc]
  exact hc (m + j) (by omega)
/-- An empty slice lies wherever one says. -/
theorem Src.any {w : World} {k g B : Nat} {v : Value} {b : List UInt8} (h : Src w k v b) (hk : 0 < b.length → k < B) : ∃ k', (k' < B ∨ k' = g) ∧ Src w k' v b := by
  rcases Nat.eq_zero_or_pos b.length with c | c
  · obtain ⟨a, c', e, h1, h2, h3⟩ := h
    exact ⟨g, .inr rfl, a, c', e, h1, h2, fun q => by omega⟩
  · exact ⟨k, .inl (hk c), h⟩
theorem wpList_append_run {P : Program} {w : World} {ops : Array Oper} {rest : List Oper} {o : Oper} {a : Act} {Q : Exit → Act → World → Prop} (hgd : o.guard = none) (s x : Operand) (t : TypeId)
    (ho : o.op = .call { callee := .builtin .append, args := #[s, x], argTypes := #[t, t] }) (vs vx v' : Value) (w' : World) (hs : a.eval s = vs) (hx : a.eval x = vx) (hr : (Builtin.append_ #[t, t] o.type #[vs, vx]).run P w = .ok v' w')
    (h : wpList P ops Q rest (a.put o.dst v') w') : wpList P ops Q (o :: rest) a w := by
  refine wpList_plain hgd fun K hK => ?_
  unfold Oper.wp execOp
  simp only [ho, resolve, invoke, builtin, Sem.run_bind, Sem.run_pure, Result.andThen_ok, List.map_toArray, List.map_cons, List.map_nil, hs, hx, hr]
  exact hK _ _ h
theorem and_mask (n : Int) (m : Nat) (hm : m < 9223372036854775808) : ∃ k : Nat, k ≤ m ∧ bits .and .i64 n (m : Int) = (k : Int) := by
  have h2 : (BitVec.ofInt 64 (m : Int)).toNat = m := by
    rw [BitVec.ofInt_natCast, BitVec.toNat_ofNat]; exact Nat.mod_eq_of_lt (by omega)
  have hk : (BitVec.ofInt 64 n &&& BitVec.ofInt 64 (m : Int)).toNat ≤ m := by
    rw [BitVec.toNat_and, h2]; exact Nat.and_le_right
  refine ⟨(BitVec.ofInt 64 n &&& BitVec.ofInt 64 (m : Int)).toNat, hk, ?_⟩
  show IntKind.i64.wrap ((BitVec.ofInt 64 n &&& BitVec.ofInt 64 (m : Int)).toNat : Int) = _
  rw [IntKind.wrap_i64]
  generalize (BitVec.ofInt 64 n &&& BitVec.ofInt 64 (m : Int)).toNat = k at *
  omega
theorem cell_lt {w : World} {x : Addr} {v : Value} (h : w.cell? x = some v) : x.block < w.heap.size := by
  unfold World.cell? at h
  rcases Nat.lt_or_ge x.block w.heap.size with c | c
  · exact c
  · simp [Array.getElem?_eq_none c] at h
theorem open_bytes {H : Type} {enc : TypeId × Value → H} {w : World} {base : Nat} {held : Bool} {a : Option Addr} {len cap : Nat} {x : DataW H × List MemPlace}
    (h : ∃ fuel, DataW.trod enc Tryd.prog w base (fun _ => true) held fuel 25 (Value.slice a len cap).cells.toList = some x) : ∃ kb b, Src w kb (.slice a len cap) b ∧ (0 < b.length → kb < w.heap.size) ∧ (a = none → cap = 0) := by
  obtain ⟨fuel, hf⟩ := h
  rcases open_ints Tryd.underlying25 Tryd.underlying5 (by kernel_rfl) hf with ⟨hcs, _⟩ | ⟨x, l, c, zs, hcs, _, hl, hm, hz, _, hcell, hwz⟩
  · simp [Value.cells] at hcs
    obtain ⟨rfl, rfl, rfl⟩ := hcs
    exact ⟨0, [], ⟨none, 0, rfl, Nat.le_refl _, Nat.zero_le _, fun h => absurd h (Nat.lt_irrefl _)⟩, fun h => absurd h (Nat.lt_irrefl _), fun _ => rfl⟩
  · simp [Value.cells] at hcs
    obtain ⟨rfl, rfl, rfl⟩ := hcs
    have hz' : zs.length = cap := by simpa using hz
    have hbl : ((zs.take len).map fun z => z.toNat.toUInt8).length = len := by rw [List.length_map, List.length_take]; omega
    rcases Nat.eq_zero_or_pos len with h0 | h0
    · subst h0
      exact ⟨0, [], ⟨some x, cap, rfl, Nat.zero_le _, hm, fun h => absurd h (Nat.lt_irrefl _)⟩, fun h => absurd h (Nat.lt_irrefl _), fun h => by cases h⟩
    · obtain ⟨b, off, rfl, hc⟩ := ints_at hcell (by omega)
      refine ⟨b, (zs.take len).map fun z => z.toNat.toUInt8, ⟨_, cap, by rw [hbl], by rw [hbl]; exact hl, hm, fun _ => ⟨off, rfl, fun j hj => ?_⟩⟩, fun _ => cell_lt (hc 0 (by omega)), fun h => by cases h⟩
      have hj' : j < len := by rw [hbl] at hj; exact hj
      rw [hc j (by omega)]
      have hg : zs.getD j 0 = zs[j]'(by omega) := by simp [List.getD, List.getElem?_eq_getElem (show j < zs.length by omega)]
      have hb := bounds_u8 (hwz _ (List.getElem_mem (show j < zs.length by omega)))
      rw [hg, List.getElem_map, List.getElem_take]
      unfold bv
      generalize zs[j]'(by omega) = z at hb
      have e : (z.toNat.toUInt8.toNat : Int) = z := by
        have : z.toNat.toUInt8.toNat = z.toNat := by simp; omega
        rw [this]; omega
      rw [e]
end Go.Proofs.YtdibldocfhpnkaaDoor
