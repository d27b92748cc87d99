/- Texts that the proof leans on, one behind the other: Base Byt Row NumM Dig DecR TxtK TsA IxA LtA SufA AllB TxtF LnG -/
import Derived.Test.YthmhaflkkigenaaGreatDoorRows
import Derived.WalkKit
import Derived.WalkSpells
import Derived.WalkLawsBesides
import Derived.ProofKit
import Derived.OpenShut
import Derived.Below
import Derived.Laws.Pointers
import Derived.Laws.CopyOwn
import Derived.Laws.IdiomStrings
import Derived.Lib.SlBytesConst
import Derived.Lib.Walk
import Derived.Deep.QuietTactic
import Derived.BigQuiet
import Derived.Maps.AppendAt
import Derived.Laws.OwnMore
import Derived.Laws.Concat
import Derived.Lib.AppendStr
import Derived.Deep.Strs
import Derived.Test.YthmhaflkkigenaaGreatDoorTa
import Derived.Lib.ItoaMem
import Derived.Lib.AppendIntMem
import Derived.Lib.LaidTab
import Derived.LaidSub
import Derived.MakeChecks
import Derived.Laws.RangeAny
import Derived.WalkSmall
/- Small lemmas that several texts share. -/
namespace Go.Proofs.YthmhaflkkigenaaGreatDoor
open Go.RowKit
set_option linter.unusedVariables false

theorem ret_b {x y : Bool} (h : x = y) : Ending.returned (.bool x) = .returned (.bool y) := by rw [h]
theorem take_snoc (s : ByteArray) (k : Nat) (h : k < s.size) : s.data.toList.take (k + 1) = s.data.toList.take k ++ [s[k]] := by
  rw [List.take_succ_eq_append_getElem (by simpa using h)]; rfl
theorem empty_of {s : ByteArray} (h : s.size = 0) : s = ⟨#[]⟩ := by
  obtain ⟨⟨l⟩⟩ := s
  cases l with
  | nil => rfl
  | cons a l => exact absurd (show (a :: l).length = 0 from h) (by simp)
theorem isEmpty_of {s : ByteArray} (h : ¬ s.size = 0) : s.toList.isEmpty = false := by
  rw [ByteArray.toList_eq, List.isEmpty_eq_false_iff]
  intro e
  exact h (congrArg List.length e)
theorem extract_le (s : ByteArray) (i j : Nat) : (s.extract i j).size ≤ s.size := by rw [ByteArray.size_extract]; omega
theorem byte_bd (b : UInt8) : (0 : Int) ≤ (b.toNat : Int) ∧ (b.toNat : Int) < 256 := by have := b.toNat_lt; omega
end Go.Proofs.YthmhaflkkigenaaGreatDoor

/- Bytes in memory: slices that are read, rows that grow, texts made of bytes; arguments that are lists of bytes. -/
namespace Go.Proofs.YthmhaflkkigenaaGreatDoor
open Go.ChangeShapes Go.WideShapes Go.ChangeAt Go.RowKit
set_option linter.unusedVariables false

/-- Blocks outside T stay; new ones may come. -/
structure Kp (T : Nat → Prop) (w w' : World) : Prop where
  os : w'.os = w.os
  tape : w'.tape = w.tape
  output : w'.output = w.output
  size : w.heap.size ≤ w'.heap.size
  block : ∀ k, k < w.heap.size → ¬ T k → w'.heap[k]? = w.heap[k]?
theorem Kp.refl (T : Nat → Prop) (w : World) : Kp T w w := ⟨rfl, rfl, rfl, Nat.le_refl _, fun _ _ _ => rfl⟩
theorem Kp.trans {T T' : Nat → Prop} {u v w : World} (h : Kp T u v) (k : Kp T' v w) (ht : ∀ i, T' i → T i ∨ u.heap.size ≤ i) : Kp T u w :=
  ⟨k.os.trans h.os, k.tape.trans h.tape, k.output.trans h.output, Nat.le_trans h.size k.size, fun i hi hn =>
    (k.block i (Nat.lt_of_lt_of_le hi h.size) (fun c => by rcases ht i c with c | c; exact hn c; omega)).trans (h.block i hi hn)⟩
theorem Kp.mono {T T' : Nat → Prop} {u v : World} (h : Kp T u v) (ht : ∀ i, T i → T' i) : Kp T' u v :=
  ⟨h.os, h.tape, h.output, h.size, fun i hi hn => h.block i hi (fun c => hn (ht i c))⟩
theorem Kp.then {T : Nat → Prop} {u v w : World} (h : Kp T u v) (k : Kp T v w) : Kp T u w := h.trans k (fun _ c => .inl c)
theorem Kp.ofBelow {T : Nat → Prop} {u v : World} (h : Below u.heap.size u v) : Kp T u v :=
  ⟨h.os, h.tape, h.output, h.size, fun i hi _ => h.block i hi⟩
theorem Kp.alloc (T : Nat → Prop) (w : World) (o : Obj) : Kp T w (w.alloc o) := Kp.ofBelow ((Below.refl _ _).alloc (Nat.le_refl _) _)
theorem Kp.below {T : Nat → Prop} {B : Nat} {u v : World} (h : Kp T u v) (hB : B ≤ u.heap.size) (ht : ∀ k, k < B → ¬ T k) : Below B u v :=
  ⟨h.os, h.tape, h.output, h.size, fun k hk => h.block k (Nat.lt_of_lt_of_le hk hB) (ht k hk)⟩
theorem slice_inj {a a' : Option Addr} {n n' c c' : Nat} (h : Value.slice a n c = Value.slice a' n' c') : a = a' ∧ n = n' ∧ c = c' := by cases h; exact ⟨rfl, rfl, rfl⟩
theorem heap_lt {w : World} {b : Nat} {o : Obj} (h : w.heap[b]? = some o) : b < w.heap.size := (Array.getElem?_eq_some_iff.1 h).1
theorem Kp.at {T : Nat → Prop} {c : Nat} {w w' : World} (h : Kp T w w') (hc : ¬ T c) {o : Obj} (k : w.heap[c]? = some o) : w'.heap[c]? = some o :=
  (h.block c (heap_lt k) hc).trans k

def bv (b : UInt8) : Value := .int .u8 (b.toNat : Int)
theorem ring_cell {w : World} {b i : Nat} {c : Array Value} {t : TypeId} {v : Value} (h : w.heap[b]? = some (.cells c t)) (hv : c[i]? = some v) : w.cell? ⟨b, i, none⟩ = some v := by
  simp [World.cell?, h, hv]
theorem ring_z {w : World} {b i : Nat} {c : Array Value} {t : TypeId} (h : w.heap[b]? = some (.cells c t)) : w.frozen? ⟨b, i, none⟩ = false := by
  simp [World.frozen?, h]
theorem ring_set {w : World} {b i : Nat} {c : Array Value} {t : TypeId} {v : Value} (h : w.heap[b]? = some (.cells c t)) : (w.setCell ⟨b, i, none⟩ v).heap[b]? = some (.cells (c.setIfInBounds i v) t) := by
  simp [World.setCell, Array.getElem?_modify, h]
theorem new_at (w : World) (o : Obj) : (w.alloc o).heap[w.heap.size]? = some o := by
  show (w.heap.push o)[w.heap.size]? = _; simp
theorem addr_add (b o i : Nat) : (⟨b, o, none⟩ : Addr).add i = ⟨b, o + i, none⟩ := by unfold Addr.add; split <;> simp_all
/-- A slice of bytes, lying in block k if it has any. -/
def Src (w : World) (k : Nat) (v : Value) (b : List UInt8) : Prop := ∃ a c, v = .slice a b.length c ∧ b.length ≤ c ∧ c ≤ maxLen ∧ (0 < b.length → ∃ off, a = some ⟨k, off, none⟩ ∧ ∀ (j : Nat) (hj : j < b.length), w.cell? ⟨k, off + j, none⟩ = some (bv b[j]))
theorem Src.frame {w w' : World} {k : Nat} {v : Value} {b : List UInt8} (h : Src w k v b) (hk : w'.heap[k]? = w.heap[k]?) : Src w' k v b := by
  obtain ⟨a, c, e, h1, h2, h3⟩ := h
  refine ⟨a, c, e, h1, h2, fun hp => ?_⟩
  obtain ⟨off, ea, hc⟩ := h3 hp
  refine ⟨off, ea, fun j hj => ?_⟩
  rw [← hc j hj]
  simp [World.cell?, hk]

theorem bvs_one (l : List UInt8) : ∀ v ∈ l.map bv, v.oneCell' = true := by
  intro v hv
  obtain ⟨b, _, rfl⟩ := List.mem_map.1 hv
  rfl
theorem infoB : (Tryz.prog.info? 5).map (·.size) = some 1 := by kernel_rfl
def lenOf (v : Value) : Nat := match v with | .slice _ n _ => n | _ => 0
theorem Src.rest {w : World} {k off c : Nat} {b : List UInt8} (n : Nat) (hn : n ≤ b.length) (h1 : b.length ≤ c) (h2 : c ≤ maxLen) (h3 : ∀ (j : Nat) (hj : j < b.length), w.cell? ⟨k, off + j, none⟩ = some (bv b[j])) (a : Option Addr) (ha : n < b.length → a = some ⟨k, off + n, none⟩) :
    Src w k (.slice a (b.length - n) (c - n)) (b.drop n) := by
  refine ⟨a, c - n, by rw [List.length_drop], by rw [List.length_drop]; omega, by omega, fun hp => ?_⟩
  rw [List.length_drop] at hp
  refine ⟨off + n, ha (by omega), fun j hj => ?_⟩
  rw [List.length_drop] at hj
  rw [List.getElem_drop, Nat.add_assoc]
  exact h3 (n + j) (by omega)

/-- A row of bytes. -/
def rowB (l : List UInt8) : List Value := l.map bv
theorem infoB3 : (Tryz.prog.info? 5).map (fun i => (i.zero, i.size, i.bytes)) = some (some (.int .u8 0), 1, 1) := by kernel_rfl
theorem made_zero (n : Nat) : madeCells (Value.int .u8 0).cells n = (rowB (List.replicate n 0)).toArray := by
  unfold madeCells rowB
  apply Array.toList_inj.1
  apply List.ext_getElem?
  intro i
  rcases Nat.lt_or_ge i n with h | h
  · simp [h, Value.cells, bv, Nat.mod_one]
  · rw [List.getElem?_eq_none (by simpa using h), List.getElem?_eq_none (by simpa using h)]
theorem make_bytes (w : World) (n : Nat) (h : n ≤ 281474976710656) : (Instr.makeSlice 69 (.int .i64 (n : Int)) (.int .i64 (n : Int))).run Tryz.prog w = .ok (.slice (some ⟨w.heap.size, 0, none⟩) n n) (w.alloc (.cells (rowB (List.replicate n 0)).toArray 5)) := by
  obtain ⟨i, hi, hz0, hz1, hz2⟩ := info_parts infoB3
  have k := run_make (P := Tryz.prog) w 69 5 i (.int .u8 0) Tryz.underlying69 hi hz0 .i64 .i64 n n (by omega) (by omega) (by rw [hz2]; omega) (by omega)
  rw [Int.toNat_natCast, hz1, Nat.mul_one, made_zero] at k
  exact k
theorem rowB_length (l : List UInt8) : (rowB l).length = l.length := by simp [rowB]
theorem rowB_take (l : List UInt8) (k : Nat) : (rowB l).take k = rowB (l.take k) := by simp [rowB, List.map_take]
theorem rowB_drop (l : List UInt8) (k : Nat) : (rowB l).drop k = rowB (l.drop k) := by simp [rowB, List.map_drop]
theorem rowB_app (l k : List UInt8) : rowB (l ++ k) = rowB l ++ rowB k := by simp [rowB]

/-- A row of bytes in a block of its own is a slice. -/
theorem src_row {w : World} {g n : Nat} {l : List UInt8} (h : w.heap[g]? = some (.cells (rowB l).toArray 5)) (hl : l.length = n) (hm : n ≤ maxLen) : Src w g (.slice (some ⟨g, 0, none⟩) n n) l := by
  subst hl
  refine ⟨_, _, rfl, Nat.le_refl _, hm, fun _ => ⟨0, rfl, fun j hj => ?_⟩⟩
  refine ring_cell h ?_
  rw [Nat.zero_add, List.getElem?_toArray]
  unfold rowB
  rw [List.getElem?_map, List.getElem?_eq_getElem hj]; rfl
theorem Src.below {w w' : World} {k : Nat} {v : Value} {b : List UInt8} (h : Src w k v b) (hk : k < w.heap.size) (hB : Below w.heap.size w w') : Src w' k v b := h.frame (hB.block k hk)
/-- Bytes made of a text. -/
theorem conv_src (w : World) (s : ByteArray) (hs : s.size ≤ maxLen) : ∃ v w1, (convert 9 69 (.string s)).run Tryz.prog w = .ok v w1 ∧ Src w1 w.heap.size v s.data.toList ∧ Below w.heap.size w w1 ∧ w.heap.size < w1.heap.size := by
  refine ⟨_, _, run_bytes_of_string w 9 69 5 s Tryz.underlying9 Tryz.underlying69 Tryz.underlying5, ?_, ?_, ?_⟩
  · refine ⟨_, _, rfl, grownCap_ge _ _ _ _, grownCap_le_maxLen _ _ _ _ hs, fun _ => ⟨0, rfl, fun j hj => ?_⟩⟩
    have hb := new_at w.drew (.cells (bytesRow s (grownCap w s.size 0 5)) 5 ((bytesRow s (grownCap w s.size 0 5)).size, (bytesRow s (grownCap w s.size 0 5)).size + 1))
    have hsz : w.drew.heap.size = w.heap.size := rfl
    rw [hsz] at hb
    have e : (bytesRow s (grownCap w s.size 0 5))[j]? = some (bv s.data.toList[j]) := by
      unfold bytesRow
      have hj' : j < s.data.size := by simpa using hj
      rw [Array.getElem?_append_left (by simpa using hj'), Array.getElem?_map, Array.getElem?_eq_getElem hj']
      rfl
    unfold World.cell?
    rw [hb]
    show (bytesRow s (grownCap w s.size 0 5))[0 + j]? = _
    rw [Nat.zero_add, e]
  · exact ((Below.refl _ _).drew).alloc (Nat.le_refl _) _
  · simp
theorem conv_back {w : World} {k : Nat} {a : Option Addr} {n c : Nat} {b : List UInt8} (h : Src w k (.slice a n c) b) (hp : 0 < n) : (convert 69 9 (.slice a n c)).run Tryz.prog w = .ok (.string ⟨b.toArray⟩) w := by
  obtain ⟨a', c', e, h1, h2, h3⟩ := h
  obtain ⟨e1, e2, e3⟩ := slice_inj e
  subst e1 e2 e3
  obtain ⟨off, rfl, hc⟩ := h3 hp
  exact run_convert_bytes_back (P := Tryz.prog) w 69 9 5 ⟨k, off, none⟩ c b Tryz.underlying69 Tryz.underlying5 Tryz.underlying9 (fun j hj => by rw [addr_add]; exact hc j hj)

theorem conv_same (w : World) (C : Array Value) (n c : Nat) : (convert 69 69 (.slice (some ⟨w.heap.size, 0, none⟩) n c)).run Tryz.prog (w.alloc (.cells C 5)) = .ok (.slice (some ⟨w.heap.size, 0, none⟩) n c) (w.alloc (.cells C 5 (C.size, C.size + 1))) :=
  Lib.run_convert_bytes_const w 69 5 C n c Tryz.underlying69 Tryz.underlying5
theorem lit_src (w : World) (l : List UInt8) (n : Nat) (row : Array Value) (fz : Nat × Nat) (hl : l.length = n) (hm : n ≤ maxLen) (hr : (rowB l).toArray = row) : Src (w.alloc (.cells row 5 fz)) w.heap.size (.slice (some ⟨w.heap.size, 0, none⟩) n n) l := by
  subst hr hl
  refine ⟨_, _, rfl, Nat.le_refl _, hm, fun _ => ⟨0, rfl, fun j hj => ?_⟩⟩
  have h := new_at w (.cells (rowB l).toArray 5 fz)
  have e : (rowB l).toArray[0 + j]? = some (bv l[j]) := by
    rw [Nat.zero_add, List.getElem?_toArray]
    unfold rowB
    rw [List.getElem?_map, List.getElem?_eq_getElem hj]; rfl
  unfold World.cell?
  rw [h]
  exact e

/-- The bytes X, in block g, which the walk itself has made. -/
def Acc (w : World) (g : Nat) (v : Value) (X : List UInt8) : Prop := v.ownBlock = some g ∧ w.ownsRow 0 5 1 v X.length (rowB X)
theorem Acc.form {w : World} {g : Nat} {v : Value} {X : List UInt8} (h : Acc w g v X) : ∃ c, v = .slice (some ⟨g, 0, none⟩) X.length c := by
  obtain ⟨h1, h2, h3 | ⟨g', c, cur, hv, _⟩⟩ := h
  · rw [h3.1] at h1; cases h1
  · rw [hv] at h1
    have : g' = g := by simpa [Value.ownBlock] using h1
    subst this
    exact ⟨c, hv⟩
theorem Acc.src {w : World} {g : Nat} {v : Value} {X : List UInt8} (h : Acc w g v X) : Src w g v X := by
  obtain ⟨c, hv⟩ := h.form
  obtain ⟨h1, h2⟩ := h
  have h3 := h2
  obtain ⟨h4, h5 | ⟨g', c', cur, hv', _, hg, hl, hm, hs, ht⟩⟩ := h2
  · rw [hv] at h5; cases h5.1
  · rw [hv] at hv'
    obtain ⟨e1, e2, e3⟩ := slice_inj hv'
    have eg : g = g' := by simpa using e1
    subst e3
    refine ⟨_, _, hv, hl, hm, fun _ => ⟨0, rfl, fun j hj => ?_⟩⟩
    have k := (hv ▸ h3 : w.ownsRow 0 5 1 (.slice (some ⟨g, 0, none⟩) X.length c) X.length (rowB X)).cellAt j (by omega)
    rw [Nat.zero_add, k]
    unfold rowB
    rw [List.getElem?_map, List.getElem?_eq_getElem hj]; rfl
theorem Acc.lt {w : World} {g : Nat} {v : Value} {X : List UInt8} (h : Acc w g v X) : g < w.heap.size := by
  obtain ⟨h1, h2, h3 | ⟨g', c, cur, hv, _, hg, _⟩⟩ := h
  · rw [h3.1] at h1; cases h1
  · rw [hv] at h1
    have : g' = g := by simpa [Value.ownBlock] using h1
    subst this
    exact heap_lt hg
theorem Acc.frame {w w' : World} {g : Nat} {v : Value} {X : List UInt8} (h : Acc w g v X) (hk : w'.heap[g]? = w.heap[g]?) : Acc w' g v X := by
  obtain ⟨h1, h2, h3 | ⟨g', c, cur, hv, hb, hg, r⟩⟩ := h
  · rw [h3.1] at h1; cases h1
  · have hg' := h1
    rw [hv] at hg'
    have : g' = g := by simpa [Value.ownBlock] using hg'
    subst this
    exact ⟨h1, h2, .inr ⟨g', c, cur, hv, hb, hk.trans hg, r⟩⟩
theorem Acc.empty (w : World) : Acc (w.alloc (.cells #[] 5)) w.heap.size (.slice (some ⟨w.heap.size, 0, none⟩) 0 0) [] :=
  ⟨rfl, rfl, .inr ⟨w.heap.size, 0, #[], rfl, Nat.zero_le _, new_at _ _, Nat.le_refl _, by decide, rfl, rfl⟩⟩
/-- Bytes appended. -/
theorem acc_append {w : World} {g k : Nat} {v : Value} {X Y : List UInt8} {a : Option Addr} {n c : Nat} (h : Acc w g v X) (hs : Src w k (.slice a n c) Y) (hnil : a = none → c = 0) (hmax : X.length + Y.length ≤ 140737488355328) :
    ∃ v' w' g', (Builtin.append_ #[69, 69] 69 #[v, .slice a n c]).run Tryz.prog w = .ok v' w' ∧ Acc w' g' v' (X ++ Y) ∧ (g' = g ∨ (w.heap.size ≤ g' ∧ g' < w'.heap.size)) ∧ Kp (fun k => k = g) w w' := by
  obtain ⟨i, hi, hz0, hz1, hz2⟩ := info_parts infoB3
  obtain ⟨a', c', e, h1, h2, h3⟩ := hs
  obtain ⟨e1, e2, e3⟩ := slice_inj e
  subst e1 e2 e3
  have hmx : X.length + Y.length ≤ maxLen := by unfold maxLen; omega
  cases a with
  | none =>
    have hc := hnil rfl
    have hy : Y = [] := by
      rcases Nat.eq_zero_or_pos Y.length with q | q
      · exact List.eq_nil_of_length_eq_zero q
      · obtain ⟨_, q, _⟩ := h3 q; cases q
    subst hy hc
    refine ⟨v, w, g, run_append_owned_none w 0 69 69 5 i 1 Tryz.underlying69 hi v _ _ h.2, by rw [List.append_nil]; exact h, .inl rfl, Kp.refl _ _⟩
  | some ad =>
    obtain ⟨v', w', hr, q1, q2, q3, q4⟩ := run_append_own_at (P := Tryz.prog) w 0 69 69 5 i (.int .u8 0) 1 1 Tryz.underlying69 hi hz0 hz1 hz2 rfl (by decide) v X.length (rowB X) h.2 ad Y.length c (rowB Y) (by rw [rowB_length]; omega)
      (fun j u hj => by
        unfold rowB at hj
        rw [List.getElem?_map] at hj
        obtain ⟨x, hx, rfl⟩ := Option.map_eq_some_iff.1 hj
        have hjl := (List.getElem?_eq_some_iff.1 hx).1
        obtain ⟨off, ha, hc⟩ := h3 (by omega)
        have : ad = ⟨k, off, none⟩ := by simpa using ha
        subst this
        rw [addr_add, hc j hjl, (List.getElem?_eq_some_iff.1 hx).2]) (bvs_one _) hmx (by omega) (Nat.zero_le _)
    have hk : Kp (fun k => k = g) w w' := ⟨q2.os, q2.tape, q2.output, q2.size, fun j hj hn => q2.block j hj (fun c => hn (by rw [h.1] at c; exact Option.some.inj c))⟩
    have hrow : w'.ownsRow 0 5 1 v' (X ++ Y).length (rowB (X ++ Y)) := by rw [List.length_append, rowB_app]; exact q1
    rcases q4 with q4 | q4
    · exact ⟨v', w', g, hr, ⟨q4.trans h.1, hrow⟩, .inl rfl, hk⟩
    · exact ⟨v', w', w.heap.size, hr, ⟨q4, hrow⟩, .inr ⟨Nat.le_refl _, Acc.lt ⟨q4, hrow⟩⟩, hk⟩
theorem Src.take {w : World} {k n m c : Nat} {a : Option Addr} {b : List UInt8} (h : Src w k (.slice a n c) b) (hm : m ≤ b.length) : Src w k (.slice a m c) (b.take m) := by
  obtain ⟨a', c', e, h1, h2, h3⟩ := h
  obtain ⟨e1, e2, e3⟩ := slice_inj e
  subst e1 e2 e3
  have hl : (b.take m).length = m := by rw [List.length_take]; omega
  refine ⟨a, c, by rw [hl], by omega, h2, fun hp => ?_⟩
  obtain ⟨off, ha, hc⟩ := h3 (by omega)
  exact ⟨off, ha, fun j hj => by rw [List.getElem_take]; exact hc j (by omega)⟩
theorem Src.cut {w : World} {k n m c : Nat} {a a' : Option Addr} {b : List UInt8} (h : Src w k (.slice a n c) b) (hm : m ≤ b.length) (ha' : m < c → a' = a.map (fun x => x.add m)) : Src w k (.slice a' (n - m) (c - m)) (b.drop m) := by
  obtain ⟨a0, c', e, h1, h2, h3⟩ := h
  obtain ⟨e1, e2, e3⟩ := slice_inj e
  subst e1 e2 e3
  refine ⟨a', c - m, by rw [List.length_drop], by rw [List.length_drop]; omega, by omega, fun hp => ?_⟩
  rw [List.length_drop] at hp
  obtain ⟨off, ha, hc⟩ := h3 (by omega)
  refine ⟨off + m, by rw [ha' (by omega), ha]; simp [addr_add], fun j hj => ?_⟩
  rw [List.length_drop] at hj
  rw [List.getElem_drop, Nat.add_assoc]
  exact hc (m + j) (by omega)
/-- An empty slice lies wherever one says. -/
theorem Src.any {w : World} {k g B : Nat} {v : Value} {b : List UInt8} (h : Src w k v b) (hk : 0 < b.length → k < B) : ∃ k', (k' < B ∨ k' = g) ∧ Src w k' v b := by
  rcases Nat.eq_zero_or_pos b.length with c | c
  · obtain ⟨a, c', e, h1, h2, h3⟩ := h
    exact ⟨g, .inr rfl, a, c', e, h1, h2, fun q => by omega⟩
  · exact ⟨k, .inl (hk c), h⟩
theorem wpList_append_run {P : Program} {w : World} {ops : Array Oper} {rest : List Oper} {o : Oper} {a : Act} {Q : Exit → Act → World → Prop} (hgd : o.guard = none) (s x : Operand) (t : TypeId)
    (ho : o.op = .call { callee := .builtin .append, args := #[s, x], argTypes := #[t, t] }) (vs vx v' : Value) (w' : World) (hs : a.eval s = vs) (hx : a.eval x = vx) (hr : (Builtin.append_ #[t, t] o.type #[vs, vx]).run P w = .ok v' w')
    (h : wpList P ops Q rest (a.put o.dst v') w') : wpList P ops Q (o :: rest) a w := by
  refine wpList_plain hgd fun K hK => ?_
  unfold Oper.wp execOp
  simp only [ho, resolve, invoke, builtin, Sem.run_bind, Sem.run_pure, Result.andThen_ok, List.map_toArray, List.map_cons, List.map_nil, hs, hx, hr]
  exact hK _ _ h
theorem and_mask (n : Int) (m : Nat) (hm : m < 9223372036854775808) : ∃ k : Nat, k ≤ m ∧ bits .and .i64 n (m : Int) = (k : Int) := by
  have h2 : (BitVec.ofInt 64 (m : Int)).toNat = m := by
    rw [BitVec.ofInt_natCast, BitVec.toNat_ofNat]; exact Nat.mod_eq_of_lt (by omega)
  have hk : (BitVec.ofInt 64 n &&& BitVec.ofInt 64 (m : Int)).toNat ≤ m := by
    rw [BitVec.toNat_and, h2]; exact Nat.and_le_right
  refine ⟨(BitVec.ofInt 64 n &&& BitVec.ofInt 64 (m : Int)).toNat, hk, ?_⟩
  show IntKind.i64.wrap ((BitVec.ofInt 64 n &&& BitVec.ofInt 64 (m : Int)).toNat : Int) = _
  rw [IntKind.wrap_i64]
  generalize (BitVec.ofInt 64 n &&& BitVec.ofInt 64 (m : Int)).toNat = k at *
  omega
theorem cell_lt {w : World} {x : Addr} {v : Value} (h : w.cell? x = some v) : x.block < w.heap.size := by
  unfold World.cell? at h
  rcases Nat.lt_or_ge x.block w.heap.size with c | c
  · exact c
  · simp [Array.getElem?_eq_none c] at h
theorem open_bytes {H : Type} {enc : TypeId × Value → H} {w : World} {base : Nat} {held : Bool} {a : Option Addr} {len cap : Nat} {x : DataW H × List MemPlace}
    (h : ∃ fuel, DataW.trod enc Tryz.prog w base (fun _ => true) held fuel 69 (Value.slice a len cap).cells.toList = some x) : ∃ kb b, Src w kb (.slice a len cap) b ∧ (0 < b.length → kb < w.heap.size) ∧ (a = none → cap = 0) := by
  obtain ⟨fuel, hf⟩ := h
  rcases open_ints Tryz.underlying69 Tryz.underlying5 (by kernel_rfl) hf with ⟨hcs, _⟩ | ⟨x, l, c, zs, hcs, _, hl, hm, hz, _, hcell, hwz⟩
  · simp [Value.cells] at hcs
    obtain ⟨rfl, rfl, rfl⟩ := hcs
    exact ⟨0, [], ⟨none, 0, rfl, Nat.le_refl _, Nat.zero_le _, fun h => absurd h (Nat.lt_irrefl _)⟩, fun h => absurd h (Nat.lt_irrefl _), fun _ => rfl⟩
  · simp [Value.cells] at hcs
    obtain ⟨rfl, rfl, rfl⟩ := hcs
    have hz' : zs.length = cap := by simpa using hz
    have hbl : ((zs.take len).map fun z => z.toNat.toUInt8).length = len := by rw [List.length_map, List.length_take]; omega
    rcases Nat.eq_zero_or_pos len with h0 | h0
    · subst h0
      exact ⟨0, [], ⟨some x, cap, rfl, Nat.zero_le _, hm, fun h => absurd h (Nat.lt_irrefl _)⟩, fun h => absurd h (Nat.lt_irrefl _), fun h => by cases h⟩
    · obtain ⟨b, off, rfl, hc⟩ := ints_at hcell (by omega)
      refine ⟨b, (zs.take len).map fun z => z.toNat.toUInt8, ⟨_, cap, by rw [hbl], by rw [hbl]; exact hl, hm, fun _ => ⟨off, rfl, fun j hj => ?_⟩⟩, fun _ => cell_lt (hc 0 (by omega)), fun h => by cases h⟩
      have hj' : j < len := by rw [hbl] at hj; exact hj
      rw [hc j (by omega)]
      have hg : zs.getD j 0 = zs[j]'(by omega) := by simp [List.getD, List.getElem?_eq_getElem (show j < zs.length by omega)]
      have hb := bounds_u8 (hwz _ (List.getElem_mem (show j < zs.length by omega)))
      rw [hg, List.getElem_map, List.getElem_take]
      unfold bv
      generalize zs[j]'(by omega) = z at hb
      have e : (z.toNat.toUInt8.toNat : Int) = z := by
        have : z.toNat.toUInt8.toNat = z.toNat := by simp; omega
        rw [this]; omega
      rw [e]
end Go.Proofs.YthmhaflkkigenaaGreatDoor

/- A row of bytes that grows in memory of the walk's own. -/
namespace Go.Proofs.YthmhaflkkigenaaGreatDoor
open Go.ChangeShapes Go.WideShapes Go.ChangeAt Go.RowKit
set_option linter.unusedVariables false

/-- The bytes X, in a block from B on. -/
def Own (B : Nat) (w : World) (v : Value) (X : List UInt8) : Prop := w.ownsRow B 5 1 v X.length (rowB X)
theorem Own.form {B : Nat} {w : World} {v : Value} {X : List UInt8} (h : Own B w v X) : ∃ a c, v = .slice a X.length c ∧ (a = none → c = 0) := by
  obtain ⟨h1, ⟨h2, h3⟩ | ⟨g, c, cur, hv, _⟩⟩ := h
  · exact ⟨none, 0, by rw [h2, h3], fun _ => rfl⟩
  · exact ⟨_, c, hv, fun e => by cases e⟩
theorem Own.src {B : Nat} {w : World} {v : Value} {X : List UInt8} (h : Own B w v X) : ∃ k, Src w k v X ∧ (0 < X.length → B ≤ k ∧ k < w.heap.size) := by
  have h0 := h
  obtain ⟨h1, ⟨h2, h3⟩ | ⟨g, c, cur, hv, hB, hg, hl, hm, hs, ht⟩⟩ := h
  · refine ⟨0, ⟨none, 0, by rw [h2, h3], by omega, Nat.zero_le _, fun q => by omega⟩, fun q => by omega⟩
  · refine ⟨g, ⟨_, c, hv, hl, hm, fun _ => ⟨0, rfl, fun j hj => ?_⟩⟩, fun _ => ⟨hB, heap_lt hg⟩⟩
    have k := (hv ▸ h0 : w.ownsRow B 5 1 (.slice (some ⟨g, 0, none⟩) X.length c) X.length (rowB X)).cellAt j (by omega)
    rw [Nat.zero_add, k]
    unfold rowB
    rw [List.getElem?_map, List.getElem?_eq_getElem hj]; rfl
theorem Own.keep {B : Nat} {w w' : World} {v : Value} {X : List UInt8} (h : Own B w v X) (b : Below w.heap.size w w') : Own B w' v X := by
  obtain ⟨h1, h2⟩ := h
  refine ⟨h1, ?_⟩
  rcases h2 with h2 | ⟨g, cap, cur, hv, hg, hh, r⟩
  · exact .inl h2
  · exact .inr ⟨g, cap, cur, hv, hg, (b.block g (Array.getElem?_eq_some_iff.1 hh).1).trans hh, r⟩
theorem Own.mono {B C : Nat} {w : World} {v : Value} {X : List UInt8} (h : Own B w v X) (hC : C ≤ B) : Own C w v X := by
  obtain ⟨h1, h2⟩ := h
  refine ⟨h1, ?_⟩
  rcases h2 with h2 | ⟨g, cap, cur, hv, hg, r⟩
  · exact .inl h2
  · exact .inr ⟨g, cap, cur, hv, Nat.le_trans hC hg, r⟩
theorem Own.empty (B : Nat) (w : World) (hB : B ≤ w.heap.size) : Own B (w.alloc (.cells #[] 5)) (.slice (some ⟨w.heap.size, 0, none⟩) 0 0) [] :=
  ⟨rfl, .inr ⟨w.heap.size, 0, #[], rfl, hB, new_at _ _, Nat.le_refl _, by decide, rfl, rfl⟩⟩
theorem Own.nil (B : Nat) (w : World) : Own B w (.slice none 0 0) [] := World.ownsRow_nil _ _ _ _
/-- Bytes appended. -/
theorem own_append {B : Nat} {w : World} {k : Nat} {v : Value} {X Y : List UInt8} {a : Option Addr} {n c : Nat} (h : Own B w v X) (hs : Src w k (.slice a n c) Y) (hnil : a = none → c = 0) (hmax : X.length + Y.length ≤ 140737488355328) (hB : B ≤ w.heap.size) :
    ∃ v' w', (Builtin.append_ #[69, 69] 69 #[v, .slice a n c]).run Tryz.prog w = .ok v' w' ∧ Own B w' v' (X ++ Y) ∧ Below B w w' := by
  obtain ⟨i, hi, hz0, hz1, hz2⟩ := info_parts infoB3
  obtain ⟨a', c', e, h1, h2, h3⟩ := hs
  obtain ⟨e1, e2, e3⟩ := slice_inj e
  subst e1 e2 e3
  have hmx : X.length + Y.length ≤ maxLen := by unfold maxLen; omega
  cases a with
  | none =>
    have hc := hnil rfl
    have hy : Y = [] := by
      rcases Nat.eq_zero_or_pos Y.length with q | q
      · exact List.eq_nil_of_length_eq_zero q
      · obtain ⟨_, q, _⟩ := h3 q; cases q
    subst hy hc
    exact ⟨v, w, run_append_owned_none w B 69 69 5 i 1 Tryz.underlying69 hi v _ _ h, by rw [List.append_nil]; exact h, Below.refl _ _⟩
  | some ad =>
    obtain ⟨v', w', hr, q1, q2, q3, q4⟩ := run_append_own_at (P := Tryz.prog) w B 69 69 5 i (.int .u8 0) 1 1 Tryz.underlying69 hi hz0 hz1 hz2 rfl (by decide) v X.length (rowB X) h ad Y.length c (rowB Y) (by rw [rowB_length]; omega)
      (fun j u hj => by
        unfold rowB at hj
        rw [List.getElem?_map] at hj
        obtain ⟨x, hx, rfl⟩ := Option.map_eq_some_iff.1 hj
        have hjl := (List.getElem?_eq_some_iff.1 hx).1
        obtain ⟨off, ha, hc⟩ := h3 (by omega)
        have : ad = ⟨k, off, none⟩ := by simpa using ha
        subst this
        rw [addr_add, hc j hjl, (List.getElem?_eq_some_iff.1 hx).2]) (bvs_one _) hmx (by omega) hB
    refine ⟨v', w', hr, ?_, (Below.refl _ _).grown q2 hB (fun q hq => (h.lt q hq).1)⟩
    unfold Own
    rw [List.length_append, rowB_app]; exact q1
/-- A text's bytes appended. -/
theorem own_append_str {B : Nat} {w : World} {v : Value} {X : List UInt8} {s : ByteArray} (h : Own B w v X) (hmax : X.length + s.size ≤ 140737488355328) (hB : B ≤ w.heap.size) :
    ∃ v' w', (Builtin.append_ #[69, 9] 69 #[v, .string s]).run Tryz.prog w = .ok v' w' ∧ Own B w' v' (X ++ s.data.toList) ∧ Below B w w' := by
  obtain ⟨i, hi, hz0, hz1, hz2⟩ := info_parts infoB3
  obtain ⟨v', w', hr, q1, q2, q3⟩ := Lib.run_append_own_string (P := Tryz.prog) w B 69 9 69 5 i Tryz.underlying69 Tryz.underlying9 hi hz0 hz1 hz2 v X.length (rowB X) h s (by unfold maxLen; omega) hmax hB
  refine ⟨v', w', hr, ?_, (Below.refl _ _).grown q2 hB (fun q hq => (h.lt q hq).1)⟩
  unfold Own
  rw [List.length_append, rowB_app]; exact q1
theorem wpList_append_run2 {P : Program} {w : World} {ops : Array Oper} {rest : List Oper} {o : Oper} {a : Act} {Q : Exit → Act → World → Prop} (hgd : o.guard = none) (s x : Operand) (t u : TypeId)
    (ho : o.op = .call { callee := .builtin .append, args := #[s, x], argTypes := #[t, u] }) (vs vx v' : Value) (w' : World) (hs : a.eval s = vs) (hx : a.eval x = vx) (hr : (Builtin.append_ #[t, u] o.type #[vs, vx]).run P w = .ok v' w')
    (h : wpList P ops Q rest (a.put o.dst v') w') : wpList P ops Q (o :: rest) a w := by
  refine wpList_plain hgd fun K hK => ?_
  unfold Oper.wp execOp
  simp only [ho, resolve, invoke, builtin, Sem.run_bind, Sem.run_pure, Result.andThen_ok, List.map_toArray, List.map_cons, List.map_nil, hs, hx, hr]
  exact hK _ _ h
theorem Src.len {w : World} {k : Nat} {a : Option Addr} {n c : Nat} {b : List UInt8} (h : Src w k (.slice a n c) b) : b.length = n ∧ n ≤ c ∧ c ≤ maxLen := by
  obtain ⟨a', c', e, h1, h2, h3⟩ := h
  obtain ⟨e1, e2, e3⟩ := slice_inj e
  subst e1 e2 e3
  exact ⟨rfl, h1, h2⟩
theorem Src.keep {w w' : World} {k : Nat} {v : Value} {b : List UInt8} (h : Src w k v b) (hk : 0 < b.length → k < w.heap.size) (hB : Below w.heap.size w w') : Src w' k v b := by
  rcases Nat.eq_zero_or_pos b.length with c | c
  · obtain ⟨x, y, e, q1, q2, q3⟩ := h
    exact ⟨x, y, e, q1, q2, fun q => by omega⟩
  · exact h.frame (hB.block k (hk c))
theorem Src.keepB {B : Nat} {w w' : World} {k : Nat} {v : Value} {b : List UInt8} (h : Src w k v b) (hk : 0 < b.length → k < B) (hB : Below B w w') : Src w' k v b := by
  rcases Nat.eq_zero_or_pos b.length with c | c
  · obtain ⟨x, y, e, q1, q2, q3⟩ := h
    exact ⟨x, y, e, q1, q2, fun q => by omega⟩
  · exact h.frame (hB.block k (hk c))
theorem cat_data (x : List UInt8) (y : Array UInt8) : (⟨x.toArray⟩ : ByteArray) ++ ⟨y⟩ = ⟨(x ++ y.toList).toArray⟩ := by
  apply ByteArray.ext
  show ((⟨x.toArray⟩ : ByteArray) ++ ⟨y⟩).data = _
  rw [ByteArray.data_append]
  apply Array.toList_inj.1
  simp
theorem sum_run (W : World) (a b : ByteArray) (h : a.size + b.size ≤ 281474976710656) : (Op.stringOp .add a b).run Tryz.prog W = .ok (.string (a ++ b)) W :=
  run_string_add_sum W a b (by omega)
theorem ret_bool {x y : Bool} (h : x = y) : Ending.returned (.bool x) = .returned (.bool y) := by rw [h]
end Go.Proofs.YthmhaflkkigenaaGreatDoor

/- Plain lemmas on the numbers that texts of digits are. -/
namespace Go.Proofs.YthmhaflkkigenaaGreatDoor
open Go.RowKit
set_option linter.unusedVariables false

/-- What a byte counts; 16 of a byte that is no digit. -/
def dgI (c : Int) : Int := if 48 ≤ c ∧ c ≤ 57 then c - 48 else if 97 ≤ c ∧ c ≤ 102 then c - 87 else if 65 ≤ c ∧ c ≤ 70 then c - 55 else 16
def dgN (b : UInt8) : Nat := (dgI (b.toNat : Int)).toNat
theorem dgI_bd (c : Int) : 0 ≤ dgI c ∧ dgI c ≤ 16 := by unfold dgI; split <;> (try split) <;> (try split) <;> omega
theorem dgN_cast (b : UInt8) : ((dgN b : Nat) : Int) = dgI (b.toNat : Int) := by unfold dgN; have := dgI_bd (b.toNat : Int); omega
theorem dgN_le (b : UInt8) : dgN b ≤ 16 := by have := dgN_cast b; have := dgI_bd (b.toNat : Int); omega

/-- The number of a text of digits of a base, if all are. -/
def stepV (base : Nat) (o : Option Nat) (b : UInt8) : Option Nat := o.bind fun n => if dgN b < base then some (n * base + dgN b) else none
def vN (base : Nat) (l : List UInt8) : Option Nat := l.foldl (stepV base) (some 0)
theorem vN_snoc (base : Nat) (l : List UInt8) (b : UInt8) : vN base (l ++ [b]) = stepV base (vN base l) b := by
  unfold vN; rw [List.foldl_append]; rfl
theorem fold_none (base : Nat) : ∀ l : List UInt8, l.foldl (stepV base) none = none
  | [] => rfl
  | b :: l => by rw [List.foldl_cons]; exact fold_none base l
theorem vN_bad (base : Nat) (l l' : List UInt8) (b : UInt8) (h : ¬ dgN b < base) : vN base (l ++ b :: l') = none := by
  unfold vN
  rw [List.foldl_append, List.foldl_cons]
  have e : stepV base (l.foldl (stepV base) (some 0)) b = none := by
    cases l.foldl (stepV base) (some 0) with
    | none => rfl
    | some n => simp [stepV, h]
  rw [e, fold_none]
theorem drop_at (s : ByteArray) (k : Nat) (h : k < s.size) : s.data.toList = s.data.toList.take k ++ s[k] :: s.data.toList.drop (k + 1) := by
  have e : s[k] :: s.data.toList.drop (k + 1) = s.data.toList.drop k := (List.drop_eq_getElem_cons (by simpa using h)).symm
  rw [e, List.take_append_drop]
theorem vN_bad_at (base : Nat) (s : ByteArray) (k : Nat) (h : k < s.size) (hb : ¬ dgN s[k] < base) : vN base s.data.toList = none := by
  rw [drop_at s k h]; exact vN_bad base _ _ _ hb
theorem vN_next (base : Nat) (s : ByteArray) (k : Nat) (h : k < s.size) (n : Nat) (hv : vN base (s.data.toList.take k) = some n) (hb : dgN s[k] < base) : vN base (s.data.toList.take (k + 1)) = some (n * base + dgN s[k]) := by
  rw [take_snoc s k h, vN_snoc, hv]; simp [stepV, hb]
theorem fold_lt (base : Nat) : ∀ (l : List UInt8) (a n : Nat), l.foldl (stepV base) (some a) = some n → n < (a + 1) * base ^ l.length
  | [], a, n, h => by simp at h; simp; omega
  | b :: l, a, n, h => by
    rw [List.foldl_cons] at h
    by_cases hd : dgN b < base
    · have e : stepV base (some a) b = some (a * base + dgN b) := by simp [stepV, hd]
      rw [e] at h
      have k := fold_lt base l _ n h
      rw [List.length_cons, Nat.pow_succ]
      refine Nat.lt_of_lt_of_le k ?_
      have e2 : (a + 1) * (base ^ l.length * base) = ((a + 1) * base) * base ^ l.length := by rw [Nat.mul_comm (base ^ l.length) base, Nat.mul_assoc]
      rw [e2]
      refine Nat.mul_le_mul_right _ ?_
      rw [Nat.add_mul, Nat.one_mul]
      omega
    · have e : stepV base (some a) b = none := by simp [stepV, hd]
      rw [e, fold_none] at h
      cases h
theorem vN_lt (base : Nat) (l : List UInt8) (n : Nat) (h : vN base l = some n) : n < base ^ l.length := by
  have k := fold_lt base l 0 n h
  simpa using k
theorem vN_take_lt (base most : Nat) (hb : 1 ≤ base) (s : ByteArray) (k : Nat) (hk : k ≤ most) (n : Nat) (hv : vN base (s.data.toList.take k) = some n) : n < base ^ most := by
  refine Nat.lt_of_lt_of_le (vN_lt base _ n hv) (Nat.pow_le_pow_right hb ?_)
  exact Nat.le_trans (List.length_take_le _ _) hk

/-- The number of a text of 1 to most digits, if it is one. -/
def numV (base most : Nat) (s : ByteArray) : Option Nat := if s.size = 0 ∨ most < s.size then none else vN base s.data.toList
def numI (base most : Nat) (s : ByteArray) : Int := ((numV base most s).getD 0 : Nat)
def numB (base most : Nat) (s : ByteArray) : Bool := (numV base most s).isSome
theorem num_out {base most : Nat} {s : ByteArray} (h : s.size = 0 ∨ most < s.size) : numI base most s = 0 ∧ numB base most s = false := by
  unfold numI numB numV; rw [if_pos h]; exact ⟨rfl, rfl⟩
theorem num_bad {base most : Nat} {s : ByteArray} (h : vN base s.data.toList = none) : numI base most s = 0 ∧ numB base most s = false := by
  unfold numI numB numV; rw [h]; split <;> exact ⟨rfl, rfl⟩
theorem num_ok {base most : Nat} {s : ByteArray} {n : Nat} (h : ¬ (s.size = 0 ∨ most < s.size)) (hv : vN base s.data.toList = some n) : numI base most s = n ∧ numB base most s = true := by
  unfold numI numB numV; rw [if_neg h, hv]; exact ⟨rfl, rfl⟩
theorem ret2_ib {x y : Int} {a b : Bool} (h : x = y) (k : a = b) : Ending.returned (.tuple #[.int .i64 x, .bool a]) = .returned (.tuple #[.int .i64 y, .bool b]) := by rw [h, k]
end Go.Proofs.YthmhaflkkigenaaGreatDoor

/- What a digit counts. -/
namespace Go.Proofs.YthmhaflkkigenaaGreatDoor
open Go.RowKit
set_option linter.unusedVariables false

theorem ret_i {k : IntKind} {a b : Int} (h : a = b) : Ending.returned (.int k a) = .returned (.int k b) := by rw [h]

set_option maxHeartbeats 1000000 in
theorem digit_any (c : Int) (w : World) (h0 : 0 ≤ c) (h1 : c < 256) : Calls Tryz.prog 76 #[.int .u8 c] w fun e w' => e = .returned (.int .i64 (dgI c)) ∧ w' = w := by
  by_cases a : 48 ≤ c
  · by_cases b : c ≤ 57
    · have E : Hid (c - 48 = dgI c) := by rw [Hid, dgI, if_pos ⟨a, b⟩]
      go_enter Tryz.func76, Tryz.ntmps76
      go_wp2
      go_ret
      exact ⟨ret_i (by rw [← E.out]), rfl⟩
    · by_cases d : 97 ≤ c
      · by_cases f : c ≤ 102
        · have E : Hid (c - 97 + 10 = dgI c) := by rw [Hid, dgI, if_neg (by omega), if_pos ⟨d, f⟩]; omega
          go_enter Tryz.func76, Tryz.ntmps76
          go_wp2
          go_ret
          exact ⟨ret_i (by rw [← E.out]), rfl⟩
        · have E : Hid (16 = dgI c) := by rw [Hid, dgI, if_neg (by omega), if_neg (by omega), if_neg (by omega)]
          have g : 65 ≤ c := by omega
          have g' : ¬ c ≤ 70 := by omega
          go_enter Tryz.func76, Tryz.ntmps76
          go_wp2
          go_ret
          exact ⟨ret_i E.out, rfl⟩
      · by_cases g : 65 ≤ c
        · by_cases g' : c ≤ 70
          · have E : Hid (c - 65 + 10 = dgI c) := by rw [Hid, dgI, if_neg (by omega), if_neg (by omega), if_pos ⟨g, g'⟩]; omega
            go_enter Tryz.func76, Tryz.ntmps76
            go_wp2
            go_ret
            exact ⟨ret_i (by rw [← E.out]), rfl⟩
          · have E : Hid (16 = dgI c) := by rw [Hid, dgI, if_neg (by omega), if_neg (by omega), if_neg (by omega)]
            go_enter Tryz.func76, Tryz.ntmps76
            go_wp2
            go_ret
            exact ⟨ret_i E.out, rfl⟩
        · have E : Hid (16 = dgI c) := by rw [Hid, dgI, if_neg (by omega), if_neg (by omega), if_neg (by omega)]
          go_enter Tryz.func76, Tryz.ntmps76
          go_wp2
          go_ret
          exact ⟨ret_i E.out, rfl⟩
  · have E : Hid (16 = dgI c) := by rw [Hid, dgI, if_neg (by omega), if_neg (by omega), if_neg (by omega)]
    have d : ¬ 97 ≤ c := by omega
    have g : ¬ 65 ≤ c := by omega
    go_enter Tryz.func76, Tryz.ntmps76
    go_wp2
    go_ret
    exact ⟨ret_i E.out, rfl⟩

end Go.Proofs.YthmhaflkkigenaaGreatDoor

/- Decimal: what it answers of every text. -/
namespace Go.Proofs.YthmhaflkkigenaaGreatDoor
open Go.RowKit
set_option linter.unusedVariables false

set_option maxHeartbeats 1000000 in
theorem number10 (s : ByteArray) (w : World) (hs : s.size ≤ maxLen) :
    Calls Tryz.prog 64 #[.string s, .int .i64 10, .int .i64 18] w fun e w' => e = .returned (.tuple #[.int .i64 (numI 10 18 s), .bool (numB 10 18 s)]) ∧ w' = w := by
  unfold maxLen at hs
  by_cases hz : s.size = 0
  · have he := empty_of hz
    subst he
    go_enter Tryz.func64, Tryz.ntmps64
    go_wp2
    go_ret2
    exact ⟨ret2_ib (num_out (.inl rfl)).1.symm (num_out (.inl rfl)).2.symm, rfl⟩
  · have hne := isEmpty_of hz
    by_cases hm : (18 : Int) < (s.size : Int)
    · have E : Hid (numI 10 18 s = 0 ∧ numB 10 18 s = false) := num_out (.inr (by omega))
      go_enter Tryz.func64, Tryz.ntmps64
      go_wp2
      go_ret2
      exact ⟨ret2_ib E.out.1.symm E.out.2.symm, rfl⟩
    · have hout : Hid (¬ (s.size = 0 ∨ 18 < s.size)) := by rw [Hid]; omega
      clear hz
      go_enter Tryz.func64, Tryz.ntmps64
      go_wp2
      go_loop [8, 21] (fun vn vi => ∃ k n : Nat, k ≤ s.size ∧ vi = .int .i64 k ∧ vn = .int .i64 n ∧ Hid (vN 10 (s.data.toList.take k) = some n)) (fun _ vi => s.size - (intOf vi).toNat)
      case atStart => exact ⟨0, 0, Nat.zero_le _, rfl, rfl, rfl⟩
      case round =>
        obtain ⟨k, n, hk, rfl, rfl, hv⟩ := hrel
        by_cases hlt : k < s.size
        · have bd := byte_bd s[k]
          have hn : n < 100000000000000000 := vN_take_lt 10 17 (by decide) s k (by omega) n hv.out
          have hd := dgI_bd (s[k].toNat : Int)
          have HD : Hid (((dgN s[k] : Nat) : Int) = dgI (s[k].toNat : Int)) := dgN_cast s[k]
          go_wp2_with fail
          refine (digit_any _ _ bd.1 bd.2).mono ?_
          rintro e w' ⟨rfl, rfl⟩
          by_cases hb : 10 ≤ dgI (s[k].toNat : Int)
          · have E : Hid (numI 10 18 s = 0 ∧ numB 10 18 s = false) := num_bad (vN_bad_at 10 s k hlt (by have := HD.out; omega))
            go_wp2
            go_ret2
            exact ⟨ret2_ib E.out.1.symm E.out.2.symm, rfl⟩
          · have E : Hid (vN 10 (s.data.toList.take (k + 1)) = some (n * 10 + dgN s[k])) := vN_next 10 s k hlt n hv.out (by have := HD.out; omega)
            go_wp2
            go_round
            case rel => exact ⟨k + 1, n * 10 + dgN s[k], by omega, by go_num, by have := HD.out; rw [Int.natCast_add, Int.natCast_mul, this]; rfl, E⟩
            case measure => simp [intOf]; omega
        · go_wp2
          go_ret2
          have hk' : k = s.size := by omega
          subst hk'
          have h := hv.out
          rw [List.take_of_length_le (by simp)] at h
          exact ⟨ret2_ib (num_ok hout.out h).1.symm (num_ok hout.out h).2.symm, rfl⟩

theorem decimal_any (s : ByteArray) (w : World) (hs : s.size ≤ maxLen) :
    Calls Tryz.prog 54 #[.string s] w fun e w' => e = .returned (.tuple #[.int .i64 (numI 10 18 s), .bool (numB 10 18 s)]) ∧ w' = w := by
  go_enter Tryz.func54, Tryz.ntmps54
  go_wp2_with fail
  refine (number10 s _ hs).mono ?_
  rintro e w' ⟨rfl, rfl⟩
  go_wp2
  go_ret2
  exact ⟨rfl, rfl⟩

end Go.Proofs.YthmhaflkkigenaaGreatDoor

/- Clone; small lemmas on blocks; the library's variable that a search may look at. -/
namespace Go.Proofs.YthmhaflkkigenaaGreatDoor
open Go.RowKit
set_option linter.unusedVariables false

theorem clone_any (s : ByteArray) (w : World) (hs : s.size ≤ 281474976710656) : Calls Tryz.prog 15 #[.string s] w fun e w' => e = .returned (.string s) ∧ Below w.heap.size w w' := by
  go_enter Tryz.func15, Tryz.ntmps15
  go_wp2_with fail
  refine (Tryz.stringslite_Clone s _ hs).mono ?_
  rintro e w1 ⟨rfl, B1⟩
  go_wp2
  go_ret
  exact ⟨rfl, B1⟩
theorem owns_below {w w' : World} {base : Nat} {e : TypeId} {size : Nat} {v : Value} {n : Nat} {xs : List Value} (h : w.ownsRow base e size v n xs) (b : Below w.heap.size w w') : w'.ownsRow base e size v n xs := by
  obtain ⟨h1, h2⟩ := h
  refine ⟨h1, ?_⟩
  rcases h2 with h2 | ⟨g, cap, cur, hv, hg, hh, r⟩
  · exact .inl h2
  · exact .inr ⟨g, cap, cur, hv, hg, (b.block g (Array.getElem?_eq_some_iff.1 hh).1).trans hh, r⟩
theorem tblk_cell {w : World} {b i : Nat} {c : Array Value} {t : TypeId} {v : Value} (h : w.heap[b]? = some (.cells c t)) (hv : c[i]? = some v) : w.cell? ⟨b, i, none⟩ = some v := by
  simp [World.cell?, h, hv]
theorem tblk_new (w : World) (o : Obj) : (w.alloc o).heap[w.heap.size]? = some o := by
  show (w.heap.push o)[w.heap.size]? = _; simp
theorem tblk_below {w w' : World} {b : Nat} {o : Obj} (h : w.heap[b]? = some o) (k : Below w.heap.size w w') : w'.heap[b]? = some o := (k.block b (Array.getElem?_eq_some_iff.1 h).1).trans h
theorem isEmpty_t {s : ByteArray} (h : ¬ s.size = 0) : s.toList.isEmpty = false := by
  rw [ByteArray.toList_eq, List.isEmpty_eq_false_iff]
  intro e
  exact h (congrArg List.length e)
theorem empty_t {s : ByteArray} (h : s.size = 0) : s = ⟨#[]⟩ := by
  obtain ⟨⟨l⟩⟩ := s
  cases l with
  | nil => rfl
  | cons a l => exact absurd (show (a :: l).length = 0 from h) (by simp)

/-- The library's variable that a search may look at holds some number. -/
def MaxL (w : World) : Prop := ∃ m, w.cell? ⟨0, 0, none⟩ = some (.int .i64 m)
theorem MaxL.lt {w : World} (h : MaxL w) : 0 < w.heap.size := by
  obtain ⟨m, h⟩ := h
  unfold World.cell? at h
  rcases Nat.lt_or_ge 0 w.heap.size with c | c
  · exact c
  · simp [Array.getElem?_eq_none c] at h
theorem MaxL.below {w w' : World} (h : MaxL w) (b : Below w.heap.size w w') : MaxL w' := by
  have k := h.lt
  obtain ⟨m, h⟩ := h
  exact ⟨m, (b.cell (p := ⟨0, 0, none⟩) k).trans h⟩
end Go.Proofs.YthmhaflkkigenaaGreatDoor

/- Rows of texts in memory. -/
namespace Go.Proofs.YthmhaflkkigenaaGreatDoor
open Go.ChangeShapes Go.WideShapes Go.ChangeAt Go.RowKit
set_option linter.unusedVariables false

/-- Texts are not too long. -/
def TBd (N : Nat) (xs : List ByteArray) : Prop := ∀ x ∈ xs, x.size ≤ N
theorem info9 : (Tryz.prog.info? 9).map (fun i => (i.zero, i.size, i.bytes)) = some (some (.string ByteArray.empty), 1, 16) := by kernel_rfl
theorem bcell {W w1 : World} (hb : Below W.heap.size W w1) : (∀ b o, b < W.heap.size → w1.cell? ⟨b, o, none⟩ = W.cell? ⟨b, o, none⟩) ∧ (∀ b o, b < W.heap.size → w1.frozen? ⟨b, o, none⟩ = W.frozen? ⟨b, o, none⟩) :=
  ⟨fun b o h => hb.cell (p := ⟨b, o, none⟩) h, fun b o h => hb.frozen (p := ⟨b, o, none⟩) h⟩
/-- A slice of texts, lying in a block below B if it has any. -/
def Txs (B : Nat) (w : World) (v : Value) (xs : List ByteArray) : Prop := ∃ a c, v = .slice a xs.length c ∧ (a = none → c = 0) ∧ xs.length ≤ c ∧ c ≤ maxLen ∧ (0 < xs.length → ∃ g off, a = some ⟨g, off, none⟩ ∧ g < B ∧ ∀ (j : Nat) (hj : j < xs.length), w.cell? ⟨g, off + j, none⟩ = some (.string xs[j]))
theorem Txs.keep {B : Nat} {w w' : World} {v : Value} {xs : List ByteArray} (h : Txs B w v xs) (b : Below B w w') : Txs B w' v xs := by
  obtain ⟨a, c, e, h1, h2, h3, h4⟩ := h
  refine ⟨a, c, e, h1, h2, h3, fun hp => ?_⟩
  obtain ⟨g, off, ea, hg, hc⟩ := h4 hp
  exact ⟨g, off, ea, hg, fun j hj => (b.cell (p := ⟨g, off + j, none⟩) hg).trans (hc j hj)⟩
theorem Txs.mono {B C : Nat} {w : World} {v : Value} {xs : List ByteArray} (h : Txs B w v xs) (b : B ≤ C) : Txs C w v xs := by
  obtain ⟨a, c, e, h1, h2, h3, h4⟩ := h
  refine ⟨a, c, e, h1, h2, h3, fun hp => ?_⟩
  obtain ⟨g, off, ea, hg, hc⟩ := h4 hp
  exact ⟨g, off, ea, Nat.lt_of_lt_of_le hg b, hc⟩
theorem Txs.len {B : Nat} {w : World} {a : Option Addr} {n c : Nat} {xs : List ByteArray} (h : Txs B w (.slice a n c) xs) : xs.length = n ∧ n ≤ c ∧ c ≤ maxLen := by
  obtain ⟨a', c', e, h1, h2, h3, _⟩ := h
  obtain ⟨rfl, rfl, rfl⟩ := slice_inj e
  exact ⟨rfl, h2, h3⟩

def OwnT (B : Nat) (w : World) (v : Value) (xs : List ByteArray) : Prop := w.ownsRow B 9 1 v xs.length (xs.map Value.string)
theorem rowT_one (xs : List ByteArray) : ∀ v ∈ xs.map Value.string, v.oneCell' = true := by
  intro v hv
  obtain ⟨b, _, rfl⟩ := List.mem_map.1 hv
  rfl
theorem OwnT.form {B : Nat} {w : World} {v : Value} {xs : List ByteArray} (h : OwnT B w v xs) : ∃ a c, v = .slice a xs.length c ∧ (a = none → c = 0) := by
  obtain ⟨h1, ⟨h2, h3⟩ | ⟨g, c, cur, hv, _⟩⟩ := h
  · exact ⟨none, 0, by rw [h2, h3], fun _ => rfl⟩
  · exact ⟨_, c, hv, fun e => by cases e⟩
theorem OwnT.txs {B : Nat} {w : World} {v : Value} {xs : List ByteArray} (h : OwnT B w v xs) : Txs w.heap.size w v xs := by
  have h0 := h
  obtain ⟨h1, ⟨h2, h3⟩ | ⟨g, c, cur, hv, hB, hg, hl, hm, hs, ht⟩⟩ := h
  · exact ⟨none, 0, by rw [h2, h3], fun _ => rfl, by omega, Nat.zero_le _, fun q => by omega⟩
  · refine ⟨_, c, hv, (fun e => by cases e), hl, hm, fun _ => ⟨g, 0, rfl, heap_lt hg, fun j hj => ?_⟩⟩
    have k := (hv ▸ h0 : w.ownsRow B 9 1 (.slice (some ⟨g, 0, none⟩) xs.length c) xs.length (xs.map Value.string)).cellAt j (by omega)
    rw [Nat.zero_add, k, List.getElem?_map, List.getElem?_eq_getElem hj]; rfl
theorem OwnT.keep {B : Nat} {w w' : World} {v : Value} {xs : List ByteArray} (h : OwnT B w v xs) (b : Below w.heap.size w w') : OwnT B w' v xs := owns_below h b
theorem owns_mono {B C : Nat} {w : World} {e : TypeId} {size : Nat} {v : Value} {n : Nat} {xs : List Value} (h : w.ownsRow B e size v n xs) (hC : C ≤ B) : w.ownsRow C e size v n xs := by
  obtain ⟨h1, h2⟩ := h
  refine ⟨h1, ?_⟩
  rcases h2 with h2 | ⟨g, cap, cur, hv, hg, r⟩
  · exact .inl h2
  · exact .inr ⟨g, cap, cur, hv, Nat.le_trans hC hg, r⟩
theorem OwnT.mono {B C : Nat} {w : World} {v : Value} {xs : List ByteArray} (h : OwnT B w v xs) (hC : C ≤ B) : OwnT C w v xs := owns_mono h hC
theorem OwnT.nil (B : Nat) (w : World) : OwnT B w (.slice none 0 0) [] := World.ownsRow_nil _ _ _ _
theorem OwnT.empty (B : Nat) (w : World) (hB : B ≤ w.heap.size) : OwnT B (w.alloc (.cells #[] 9)) (.slice (some ⟨w.heap.size, 0, none⟩) 0 0) [] :=
  ⟨rfl, .inr ⟨w.heap.size, 0, #[], rfl, hB, new_at _ _, Nat.le_refl _, by decide, rfl, rfl⟩⟩
/-- Texts appended. -/
theorem ownT_append {B C : Nat} {w : World} {v : Value} {X Y : List ByteArray} {a : Option Addr} {n c : Nat} (h : OwnT B w v X) (hs : Txs C w (.slice a n c) Y) (hmax : X.length + Y.length ≤ 4294967296) (hB : B ≤ w.heap.size) :
    ∃ v' w', (Builtin.append_ #[33, 33] 33 #[v, .slice a n c]).run Tryz.prog w = .ok v' w' ∧ OwnT B w' v' (X ++ Y) ∧ Below B w w' := by
  obtain ⟨i, hi, hz0, hz1, hz2⟩ := info_parts info9
  obtain ⟨a', c', e, hnil, h1, h2, h3⟩ := hs
  obtain ⟨e1, e2, e3⟩ := slice_inj e
  subst e1 e2 e3
  have hmx : X.length + Y.length ≤ maxLen := by unfold maxLen; omega
  cases a with
  | none =>
    have hc := hnil rfl
    have hy : Y = [] := by
      rcases Nat.eq_zero_or_pos Y.length with q | q
      · exact List.eq_nil_of_length_eq_zero q
      · obtain ⟨_, _, q, _⟩ := h3 q; cases q
    subst hy hc
    exact ⟨v, w, run_append_owned_none w B 33 33 9 i 1 Tryz.underlying33 hi v _ _ h, by rw [List.append_nil]; exact h, Below.refl _ _⟩
  | some ad =>
    obtain ⟨v', w', hr, q1, q2, q3, q4⟩ := run_append_own_at (P := Tryz.prog) w B 33 33 9 i (.string ByteArray.empty) 1 16 Tryz.underlying33 hi hz0 hz1 hz2 rfl (by decide) v X.length (X.map Value.string) h ad Y.length c (Y.map Value.string) (by rw [List.length_map]; omega)
      (fun j u hj => by
        rw [List.getElem?_map] at hj
        obtain ⟨x, hx, rfl⟩ := Option.map_eq_some_iff.1 hj
        have hjl := (List.getElem?_eq_some_iff.1 hx).1
        obtain ⟨k, off, ha, _, hc⟩ := h3 (by omega)
        have : ad = ⟨k, off, none⟩ := by simpa using ha
        subst this
        rw [addr_add, hc j hjl, (List.getElem?_eq_some_iff.1 hx).2]) (rowT_one _) hmx (by omega) hB
    refine ⟨v', w', hr, ?_, (Below.refl _ _).grown q2 hB (fun q hq => (h.lt q hq).1)⟩
    unfold OwnT
    rw [List.length_append, List.map_append]; exact q1
theorem one_txs (w : World) (x : ByteArray) (C : Nat) (h : w.heap.size < C) : Txs C (w.alloc (.cells #[.string x] 9)) (.slice (some ⟨w.heap.size, 0, none⟩) 1 1) [x] :=
  ⟨_, 1, rfl, (fun e => by cases e), Nat.le_refl _, by decide, fun _ => ⟨w.heap.size, 0, rfl, h, fun j hj => by
    have : j = 0 := by simpa using hj
    subst this
    exact tblk_cell (tblk_new _ _) rfl⟩⟩
end Go.Proofs.YthmhaflkkigenaaGreatDoor

/- The first of a list that a function lets by, plain. -/
namespace Go.Proofs.YthmhaflkkigenaaGreatDoor
open Go.RowKit
set_option linter.unusedVariables false

/-- Where the first is, -1 of none. -/
def idxP {α : Type} (p : α → Bool) : List α → Int
  | [] => -1
  | x :: l => if p x = true then 0 else if idxP p l < 0 then -1 else idxP p l + 1
theorem idxP_lo {α : Type} (p : α → Bool) : ∀ l : List α, -1 ≤ idxP p l
  | [] => Int.le_refl _
  | x :: l => by
    have := idxP_lo p l
    unfold idxP
    split
    · omega
    · split <;> omega
theorem idxP_none {α : Type} (p : α → Bool) : ∀ l : List α, l.any p = false → idxP p l = -1
  | [], _ => rfl
  | x :: l, h => by
    rw [List.any_cons, Bool.or_eq_false_iff] at h
    unfold idxP
    rw [if_neg (by rw [h.1]; decide), idxP_none p l h.2]
    rfl
theorem idxP_at {α : Type} (p : α → Bool) : ∀ (l : List α) (k : Nat) (hk : k < l.length), (l.take k).any p = false → p l[k] = true → idxP p l = k
  | x :: l, 0, _, _, h => by
    have h' : p x = true := h
    unfold idxP
    rw [if_pos h']; rfl
  | x :: l, k + 1, hk, ha, h => by
    rw [List.take_succ_cons, List.any_cons, Bool.or_eq_false_iff] at ha
    have e := idxP_at p l k (by simpa using hk) ha.2 h
    unfold idxP
    rw [if_neg (by rw [ha.1]; decide), e, if_neg (by omega)]
    omega
theorem idxP_any {α : Type} (p : α → Bool) : ∀ l : List α, decide (0 ≤ idxP p l) = l.any p
  | [] => rfl
  | x :: l => by
    have e := idxP_any p l
    rw [List.any_cons]
    unfold idxP
    cases hx : p x with
    | true => simp
    | false =>
      rw [if_neg (by decide), Bool.false_or, ← e]
      have := idxP_lo p l
      apply decide_eq_decide.2
      split <;> omega
theorem any_snoc {α : Type} {p : α → Bool} {l : List α} {k : Nat} (hk : k < l.length) (ha : (l.take k).any p = false) (h : p l[k] = false) : (l.take (k + 1)).any p = false := by
  rw [List.take_succ_eq_append_getElem hk, List.any_append, ha]
  simp [h]
theorem any_at {α : Type} {p : α → Bool} {l : List α} (k : Nat) (hk : k < l.length) (h : p l[k] = true) : l.any p = true := List.any_eq_true.2 ⟨l[k], List.getElem_mem hk, h⟩
end Go.Proofs.YthmhaflkkigenaaGreatDoor

/- sign.Text: what it tells of a number. -/
namespace Go.Proofs.YthmhaflkkigenaaGreatDoor
open Go.RowKit
set_option linter.unusedVariables false

/-- The table that the telling of a number reads. -/
structure PowT (w : World) : Prop where
  pow : Lib.TabIs Tryz.prog w "internal/strconv.uint64pow10" .u64 Lib.pow10Tab
  lt : 1 < w.heap.size
theorem gPow : Tryz.prog.globalNamed "internal/strconv.uint64pow10" = some 1 := by kernel_rfl
theorem PowT.below {w w' : World} (h : PowT w) (b : Below w.heap.size w w') : PowT w' := ⟨var?_below b gPow h.lt h.pow, Nat.lt_of_lt_of_le h.lt b.size⟩
def itoaS (n : Int) : ByteArray := ⟨(Lib.itoa n).toArray⟩
theorem text_any (n : Int) (h0 : -9223372036854775808 ≤ n) (h1 : n ≤ 9223372036854775807) (w : World) (ht : PowT w) :
    Calls Tryz.prog 45 #[.int .i64 n] w fun e w' => e = .returned (.string (itoaS n)) ∧ Below w.heap.size w w' := by
  have HP : Hid (Lib.TabIs Tryz.prog w "internal/strconv.uint64pow10" .u64 Lib.pow10Tab) := ht.pow
  clear ht
  go_enter Tryz.func45, Tryz.ntmps45
  go_wp2_with fail
  refine (Tryz.strconv_FormatInt_10 n h0 h1 _ HP.out).mono ?_
  rintro e w1 ⟨rfl, k, os, hw⟩
  have hB : Below w.heap.size w w1 := by rw [hw]; exact Lib.below_grow _ w (Nat.le_refl _) k os
  clear hw
  go_wp2
  go_ret
  exact ⟨rfl, hB⟩
theorem lcat_size (a b : ByteArray) : (a ++ b).size = a.size + b.size := by rw [ByteArray.size_append]
theorem lcat_run (W : World) (a b : ByteArray) (h : a.size + b.size ≤ 281474976710656) : (Op.stringOp .add a b).run Tryz.prog W = .ok (.string (a ++ b)) W :=
  run_string_add_sum W a b (by omega)
end Go.Proofs.YthmhaflkkigenaaGreatDoor

/- Texts that end with another. -/
namespace Go.Proofs.YthmhaflkkigenaaGreatDoor
open Go.RowKit
set_option linter.unusedVariables false

def hasS (s p : ByteArray) : Bool := decide (p.size ≤ s.size) && ((s.extract (s.size - p.size) s.size).toList == p.toList)
def cutX (s p : ByteArray) : ByteArray := if hasS s p = true then s.extract 0 (s.size - p.size) else s
theorem hassuffix_any (s p : ByteArray) (w : World) (hs : s.size ≤ maxLen) : Calls Tryz.prog 65 #[.string s, .string p] w fun e w' => e = .returned (.bool (hasS s p)) ∧ w' = w := by
  unfold hasS
  unfold maxLen at hs
  have hlo : p.size ≤ s.size → ((s.size : Int) - (p.size : Int) + 9223372036854775808) % 18446744073709551616 - 9223372036854775808 = ((s.size - p.size : Nat) : Int) := fun _ => by omega
  go_enter Tryz.func65, Tryz.ntmps65
  go_wp2
  · have h : p.size ≤ s.size := by assumption
    go_ret
    exact ⟨ret_b (by rw [decide_eq_true h, Bool.true_and]), rfl⟩
  · have h : ¬ p.size ≤ s.size := by assumption
    go_ret
    exact ⟨ret_b (by rw [decide_eq_false h, Bool.false_and]), rfl⟩
end Go.Proofs.YthmhaflkkigenaaGreatDoor

/- All bytes of a text. -/
namespace Go.Proofs.YthmhaflkkigenaaGreatDoor
open Go.RowKit
set_option linter.unusedVariables false

/-- All bytes of a text. -/
def allB (p : Int → Bool) (l : List UInt8) : Bool := l.all fun b => p (b.toNat : Int)

theorem allB_snoc {p : Int → Bool} (s : ByteArray) (k : Nat) (h : k < s.size) (ha : allB p (s.data.toList.take k) = true) (hc : p (s[k].toNat : Int) = true) : allB p (s.data.toList.take (k + 1)) = true := by
  rw [take_snoc s k h]; unfold allB at *; rw [List.all_append, ha]; simp [hc]
theorem allB_false {p : Int → Bool} (s : ByteArray) (k : Nat) (h : k < s.size) (hc : p (s[k].toNat : Int) = false) : allB p s.data.toList = false := by
  unfold allB
  rw [List.all_eq_false]
  exact ⟨s[k], by rw [show s[k] = s.data.toList[k]'(by simpa using h) from rfl]; exact List.getElem_mem _, by simp [hc]⟩

end Go.Proofs.YthmhaflkkigenaaGreatDoor

/- Fold: what it answers of every text. -/
namespace Go.Proofs.YthmhaflkkigenaaGreatDoor
open Go.RowKit
set_option linter.unusedVariables false

def bvT (b : UInt8) : Value := .int .u8 (b.toNat : Int)
def foldB (b : UInt8) : UInt8 := if 65 ≤ (b.toNat : Int) ∧ (b.toNat : Int) ≤ 90 then (b.toNat + 32).toUInt8 else b
def foldL (l : List UInt8) : List UInt8 := l.map foldB
def foldS (s : ByteArray) : ByteArray := ⟨(foldL s.data.toList).toArray⟩
theorem foldB_yes {b : UInt8} (h0 : 65 ≤ (b.toNat : Int)) (h1 : (b.toNat : Int) ≤ 90) : bvT (foldB b) = .int .u8 ((b.toNat : Int) + 32) := by
  unfold bvT foldB
  rw [if_pos ⟨h0, h1⟩]
  have : (b.toNat + 32).toUInt8.toNat = b.toNat + 32 := by simp; omega
  rw [this]; rfl
theorem foldB_no {b : UInt8} (h : ¬ (65 ≤ (b.toNat : Int) ∧ (b.toNat : Int) ≤ 90)) : foldB b = b := by unfold foldB; rw [if_neg h]

/-- A row of bytes with spare places behind. -/
def rowT (l : List UInt8) (z : List Value) : Array Value := (l.map bvT ++ z).toArray
def InRow (w : World) (b : Nat) (l : List UInt8) (z : List Value) : Prop := w.heap[b]? = some (.cells (rowT l z) 5 ((rowT l z).size, (rowT l z).size + 1))
theorem rowT_size (l : List UInt8) (z : List Value) : (rowT l z).size = l.length + z.length := by simp [rowT]
theorem rowT_at (l : List UInt8) (z : List Value) (j : Nat) (h : j < l.length) : (rowT l z)[j]? = some (bvT l[j]) := by
  unfold rowT
  rw [List.getElem?_toArray, List.getElem?_append_left (by simpa using h)]
  simp [h]
theorem InRow.cell {w : World} {b : Nat} {l : List UInt8} {z : List Value} (h : InRow w b l z) (j : Nat) (hj : j < l.length) : w.cell? ⟨b, j, none⟩ = some (.int .u8 (l[j].toNat : Int)) := by
  have k := rowT_at l z j hj
  unfold InRow at h
  simp [World.cell?, h, k]; rfl
theorem InRow.z {w : World} {b : Nat} {l : List UInt8} {z : List Value} (h : InRow w b l z) (j : Nat) (hj : j < l.length) : w.frozen? ⟨b, j, none⟩ = false := by
  unfold InRow at h
  have := rowT_size l z
  simp [World.frozen?, h]; omega
theorem InRow.set {w : World} {b : Nat} {l : List UInt8} {z : List Value} (h : InRow w b l z) (j : Nat) (hj : j < l.length) (x : UInt8) : InRow (w.setCell ⟨b, j, none⟩ (bvT x)) b (l.set j x) z := by
  have e : (rowT l z).setIfInBounds j (bvT x) = rowT (l.set j x) z := by
    unfold rowT
    rw [List.setIfInBounds_toArray, List.set_append_left _ _ (by simpa using hj), List.map_set]
  have es : (rowT (l.set j x) z).size = (rowT l z).size := by rw [rowT_size, rowT_size, List.length_set]
  unfold InRow at *
  rw [es, ← e]
  simp [World.setCell, Array.getElem?_modify, h]
theorem InRow.new (w : World) (s : ByteArray) (cap : Nat) : InRow (w.alloc (.cells (bytesRow s cap) 5 ((bytesRow s cap).size, (bytesRow s cap).size + 1))) w.heap.size s.data.toList (List.replicate (cap - s.size) (.int .u8 0)) := by
  have e : bytesRow s cap = rowT s.data.toList (List.replicate (cap - s.size) (.int .u8 0)) := by
    unfold bytesRow rowT
    apply Array.toList_inj.1
    simp [bvT]
    try rfl
  unfold InRow
  rw [← e]
  show (w.heap.push _)[w.heap.size]? = _
  simp

theorem foldL_take (l : List UInt8) (k : Nat) (h : k < l.length) : (foldL (l.take k) ++ l.drop k).set k (foldB l[k]) = foldL (l.take (k + 1)) ++ l.drop (k + 1) := by
  have hl : (foldL (l.take k)).length = k := by simp [foldL]; omega
  rw [List.drop_eq_getElem_cons h, List.set_append_right _ _ (by omega), hl, Nat.sub_self, List.set_cons_zero, List.take_succ_eq_append_getElem h]
  unfold foldL
  rw [List.map_append, List.append_assoc]; rfl
theorem foldL_at (l : List UInt8) (k : Nat) (h : k < l.length) : (foldL (l.take k) ++ l.drop k)[k]? = some l[k] := by
  have hl : (foldL (l.take k)).length = k := by simp [foldL]; omega
  rw [List.getElem?_append_right (by omega), hl, Nat.sub_self, List.drop_eq_getElem_cons h]; rfl
theorem foldL_len (l : List UInt8) (k : Nat) (h : k ≤ l.length) : (foldL (l.take k) ++ l.drop k).length = l.length := by simp [foldL]; omega

theorem fold_set_same (s : ByteArray) (k : Nat) (h : k < s.size) : (foldL (s.data.toList.take k) ++ s.data.toList.drop k).set k s[k] = foldL (s.data.toList.take k) ++ s.data.toList.drop k := by
  have h1 := foldL_at s.data.toList k h
  have hl : k < (foldL (s.data.toList.take k) ++ s.data.toList.drop k).length := (List.getElem?_eq_some_iff.1 h1).1
  rw [List.getElem?_eq_getElem hl] at h1
  have e : (foldL (s.data.toList.take k) ++ s.data.toList.drop k)[k] = s[k] := Option.some.inj h1
  rw [← e]
  exact List.set_getElem_self hl

set_option maxRecDepth 100000 in
set_option maxHeartbeats 2000000 in
theorem fold_any (s : ByteArray) (w : World) (hs : s.size ≤ maxLen) :
    Calls Tryz.prog 83 #[.string s] w fun e w' => e = .returned (.string (foldS s)) ∧ Below w.heap.size w w' := by
  unfold maxLen at hs
  have hcv := run_bytes_of_string (P := Tryz.prog) w 9 69 5 s Tryz.underlying9 Tryz.underlying69 Tryz.underlying5
  have hrow : InRow ((w.alloc (.cells (bytesRow s (grownCap w s.size 0 5)) 5 ((bytesRow s (grownCap w s.size 0 5)).size, (bytesRow s (grownCap w s.size 0 5)).size + 1))).drew) w.heap.size s.data.toList (List.replicate (grownCap w s.size 0 5 - s.size) (.int .u8 0)) := InRow.new w s _
  generalize List.replicate (grownCap w s.size 0 5 - s.size) (Value.int .u8 0) = z at *
  go_enter Tryz.func83, Tryz.ntmps83
  go_wp2_with fail
  have HB : Below w.heap.size w ((w.alloc (.cells (bytesRow s (grownCap w s.size 0 5)) 5 ((bytesRow s (grownCap w s.size 0 5)).size, (bytesRow s (grownCap w s.size 0 5)).size + 1))).drew) := ((Below.refl _ _).alloc (Nat.le_refl _) _).drew
  clear hcv
  generalize grownCap w s.size 0 5 = cap at *
  go_loopw [9] (fun vi wr => ∃ k : Nat, k ≤ s.size ∧ vi = .int .i64 k ∧ InRow wr w.heap.size (foldL (s.data.toList.take k) ++ s.data.toList.drop k) z ∧ Below w.heap.size w wr) (fun vi _ => s.size - (intOf vi).toNat)
  case atStart => exact ⟨0, Nat.zero_le _, rfl, hrow, HB⟩
  case round =>
    obtain ⟨k, hk, rfl, hr, hB⟩ := hrel
    clear hrow HB
    by_cases hlt : k < s.size
    · have hlen : s.data.toList.length = s.size := rfl
      have hl2 : k < (foldL (s.data.toList.take k) ++ s.data.toList.drop k).length := by rw [foldL_len _ _ (by omega)]; omega
      have e1 : (foldL (s.data.toList.take k) ++ s.data.toList.drop k)[k] = s[k] := by
        have h1 := foldL_at s.data.toList k (by omega)
        rw [List.getElem?_eq_getElem hl2] at h1
        exact Option.some.inj h1
      have hc := hr.cell k hl2
      have hz := hr.z k hl2
      rw [e1] at hc
      have HS : Hid (∀ x : UInt8, x = foldB s[k] → InRow (wr.setCell ⟨w.heap.size, k, none⟩ (bvT x)) w.heap.size (foldL (s.data.toList.take (k + 1)) ++ s.data.toList.drop (k + 1)) z) := fun x hx => by
        have h1 := hr.set k hl2 x
        rw [hx] at h1
        rw [← foldL_take s.data.toList k (by omega), hx]
        exact h1
      have HR : Hid (InRow wr w.heap.size (foldL (s.data.toList.take k) ++ s.data.toList.drop k) z) := hr
      have HF : Hid (s.data.toList.length = s.size) := hlen
      clear hr e1 hl2 hlen
      by_cases a : 65 ≤ (s[k].toNat : Int)
      · by_cases b : (s[k].toNat : Int) ≤ 90
        · go_wp2
          go_roundw
          case rel => exact ⟨k + 1, by omega, by go_num, by rw [← foldB_yes a b]; exact HS.out _ rfl, hB.setCell (Nat.le_refl _) _⟩
          case measure => simp [intOf]; omega
        · go_wp2
          go_roundw
          case rel =>
            refine ⟨k + 1, by omega, by go_num, ?_, hB⟩
            rw [← foldL_take s.data.toList k (by have := HF.out; omega), show s.data.toList[k]'(by have := HF.out; omega) = s[k] from rfl, foldB_no (by omega), fold_set_same s k hlt]
            exact HR.out
          case measure => simp [intOf]; omega
      · go_wp2
        go_roundw
        case rel =>
          refine ⟨k + 1, by omega, by go_num, ?_, hB⟩
          rw [← foldL_take s.data.toList k (by have := HF.out; omega), show s.data.toList[k]'(by have := HF.out; omega) = s[k] from rfl, foldB_no (by omega), fold_set_same s k hlt]
          exact HR.out
        case measure => simp [intOf]; omega
    · have hk' : k = s.size := by omega
      subst hk'
      have hlen : s.data.toList.length = s.size := rfl
      rw [List.take_of_length_le (by omega), List.drop_of_length_le (by omega), List.append_nil] at hr
      have hfl : (foldL s.data.toList).length = s.size := by unfold foldL; rw [List.length_map]; rfl
      have hcv : (convert 69 9 (.slice (some ⟨w.heap.size, 0, none⟩) s.size cap)).run Tryz.prog wr = .ok (.string (foldS s)) wr := by
        have h := run_convert_bytes_back (P := Tryz.prog) wr 69 9 5 ⟨w.heap.size, 0, none⟩ cap (foldL s.data.toList) Tryz.underlying69 Tryz.underlying5 Tryz.underlying9 (fun j hj => by
          rw [Lib.add_plain]; rw [Nat.zero_add]; exact hr.cell j hj)
        rw [hfl] at h
        exact h
      clear hr hlen hfl
      go_wp2
      go_ret
      exact ⟨rfl, hB⟩

end Go.Proofs.YthmhaflkkigenaaGreatDoor

/- Host: what it answers of every text. -/
namespace Go.Proofs.YthmhaflkkigenaaGreatDoor
open Go.RowKit
set_option linter.unusedVariables false

theorem cutsuffix_sl (s p : ByteArray) (w : World) (hs : s.size ≤ maxLen) : Calls Tryz.prog 102 #[.string s, .string p] w fun e w' => e = .returned (.tuple #[.string (cutX s p), .bool (hasS s p)]) ∧ w' = w := by
  have H : Hid (∀ W, Calls Tryz.prog 65 #[.string s, .string p] W fun e w' => e = .returned (.bool (hasS s p)) ∧ w' = W) := fun W => hassuffix_any s p W hs
  unfold cutX
  unfold maxLen at hs
  cases h : hasS s p
  · rw [h] at H
    clear h
    go_enter Tryz.func102, Tryz.ntmps102
    go_wp2_with fail
    refine (H.out _).mono ?_
    rintro e w1 ⟨rfl, rfl⟩
    go_wp2
    go_ret2
    exact ⟨rfl, rfl⟩
  · rw [h] at H
    have hl : p.size ≤ s.size := by
      unfold hasS at h
      rw [Bool.and_eq_true] at h
      exact of_decide_eq_true h.1
    have hlo : ((s.size : Int) - (p.size : Int) + 9223372036854775808) % 18446744073709551616 - 9223372036854775808 = ((s.size - p.size : Nat) : Int) := by omega
    clear h
    go_enter Tryz.func102, Tryz.ntmps102
    go_wp2_with fail
    refine (H.out _).mono ?_
    rintro e w1 ⟨rfl, rfl⟩
    go_wp2
    go_ret2
    exact ⟨rfl, rfl⟩
theorem cutsuffix_any (s p : ByteArray) (w : World) (hs : s.size ≤ maxLen) : Calls Tryz.prog 94 #[.string s, .string p] w fun e w' => e = .returned (.tuple #[.string (cutX s p), .bool (hasS s p)]) ∧ w' = w := by
  go_enter Tryz.func94, Tryz.ntmps94
  go_wp2_with fail
  refine (cutsuffix_sl s p _ hs).mono ?_
  rintro e w1 ⟨rfl, rfl⟩
  go_wp2
  go_ret2
  exact ⟨rfl, rfl⟩

/-- A text without the digits at its end. -/
def noDig (s : ByteArray) : ByteArray := ⟨(Lib.trimRightS s.data.toList [48, 49, 50, 51, 52, 53, 54, 55, 56, 57]).toArray⟩
def portP (s : ByteArray) : ByteArray := if hasS (noDig s) ⟨#[58]⟩ = true then cutX (noDig s) ⟨#[58]⟩ else s
theorem drop_len (p : UInt8 → Bool) : ∀ l : List UInt8, (l.dropWhile p).length ≤ l.length
  | [] => Nat.le_refl _
  | a :: l => by
    rw [List.dropWhile_cons]
    split
    · exact Nat.le_succ_of_le (drop_len p l)
    · exact Nat.le_refl _
theorem noDig_size (s : ByteArray) : (noDig s).size ≤ s.size := by
  show (Lib.trimRightS s.data.toList _).length ≤ _
  unfold Lib.trimRightS
  rw [List.length_reverse]
  exact Nat.le_trans (drop_len _ _) (by rw [List.length_reverse]; exact Nat.le_refl _)
theorem digs_ascii : ∀ (j : Nat) (b : UInt8), ([48, 49, 50, 51, 52, 53, 54, 55, 56, 57] : List UInt8)[j]? = some b → b.toNat < 128 := by
  intro j b h
  have : b ∈ ([48, 49, 50, 51, 52, 53, 54, 55, 56, 57] : List UInt8) := List.mem_of_getElem? h
  simp at this
  rcases this with rfl | rfl | rfl | rfl | rfl | rfl | rfl | rfl | rfl | rfl <;> decide
theorem wport_any (s : ByteArray) (w : World) (hs : s.size ≤ maxLen) : Calls Tryz.prog 82 #[.string s] w fun e w' => e = .returned (.string (portP s)) ∧ Below w.heap.size w w' := by
  have hz := noDig_size s
  have H : Hid (∀ W, Calls Tryz.prog 95 #[.string s, .string ⟨#[48, 49, 50, 51, 52, 53, 54, 55, 56, 57]⟩] W fun e w' => e = .returned (.string (noDig s)) ∧ Below W.heap.size W w') := fun W => Tryz.strings_TrimRight_laid s ⟨#[48, 49, 50, 51, 52, 53, 54, 55, 56, 57]⟩ W (by unfold maxLen at hs; omega) (by decide) digs_ascii
  have HC : Hid (∀ W, Calls Tryz.prog 94 #[.string (noDig s), .string ⟨#[58]⟩] W fun e w' => e = .returned (.tuple #[.string (cutX (noDig s) ⟨#[58]⟩), .bool (hasS (noDig s) ⟨#[58]⟩)]) ∧ w' = W) := fun W => cutsuffix_any _ _ W (Nat.le_trans hz hs)
  unfold portP
  clear hz hs
  generalize cutX (noDig s) ⟨#[58]⟩ = x at *
  cases h : hasS (noDig s) ⟨#[58]⟩
  · rw [h] at HC
    clear h
    generalize noDig s = y at *
    go_enter Tryz.func82, Tryz.ntmps82
    go_wp2_with fail
    refine (H.out _).mono ?_
    rintro e w1 ⟨rfl, B1⟩
    go_wp2_with fail
    refine (HC.out _).mono ?_
    rintro e w2 ⟨rfl, rfl⟩
    go_wp2
    go_ret
    exact ⟨rfl, B1⟩
  · rw [h] at HC
    clear h
    generalize noDig s = y at *
    go_enter Tryz.func82, Tryz.ntmps82
    go_wp2_with fail
    refine (H.out _).mono ?_
    rintro e w1 ⟨rfl, B1⟩
    go_wp2_with fail
    refine (HC.out _).mono ?_
    rintro e w2 ⟨rfl, rfl⟩
    go_wp2
    go_ret
    exact ⟨rfl, B1⟩

/-- The signs of a host. -/
def hsP (r : Int) : Bool := (decide (97 ≤ r) && decide (r ≤ 122)) || ((decide (48 ≤ r) && decide (r ≤ 57)) || ((r == 45) || (r == 46)))
theorem hostsign_any (r : Int) (w : World) : Calls Tryz.prog 84 #[.int .i32 r] w fun e w' => e = .returned (.bool (hsP r)) ∧ w' = w := by
  go_enter Tryz.func84, Tryz.ntmps84
  go_wp2
  all_goals go_ret
  all_goals refine ⟨ret_b ?_, rfl⟩
  all_goals unfold hsP
  all_goals (rw [Bool.eq_iff_iff]; simp <;> omega)

/-- The host of a text. -/
def hostP (s : ByteArray) : ByteArray × Bool :=
  if (portP (foldS s)).size = 0 then (⟨#[]⟩, false) else if 64 < (portP (foldS s)).size then (⟨#[]⟩, false) else if allB hsP (portP (foldS s)).data.toList = false then (⟨#[]⟩, false) else (portP (foldS s), true)
theorem lfold_size (s : ByteArray) : (foldS s).size = s.size := by
  show (foldL s.data.toList).length = s.data.toList.length
  simp [foldL]
theorem ret2_sb {a c : ByteArray} {b d : Bool} (h : a = c) (k : b = d) : Ending.returned (.tuple #[.string a, .bool b]) = .returned (.tuple #[.string c, .bool d]) := by rw [h, k]
theorem hs_high {r : Nat} (h : 128 ≤ r) : hsP (r : Int) = false := by
  unfold hsP
  simp
  omega
theorem iter_below {B : Nat} {w : World} (h : B ≤ w.heap.size) (s : ByteArray) (pos : Nat) : Below B w (w.iter s pos) := (Below.refl _ _).alloc h _
set_option maxRecDepth 100000 in
set_option maxHeartbeats 4000000 in
theorem host_any (s : ByteArray) (w : World) (hs : s.size ≤ maxLen) :
    Calls Tryz.prog 71 #[.string s] w fun e w' => e = .returned (.tuple #[.string (hostP s).1, .bool (hostP s).2]) ∧ Below w.heap.size w w' := by
  have hfz : (foldS s).size ≤ maxLen := by rw [lfold_size]; exact hs
  have HF : Hid (∀ W, Calls Tryz.prog 83 #[.string s] W fun e w' => e = .returned (.string (foldS s)) ∧ Below W.heap.size W w') := fun W => fold_any s W hs
  have HP : Hid (∀ W, Calls Tryz.prog 82 #[.string (foldS s)] W fun e w' => e = .returned (.string (portP (foldS s))) ∧ Below W.heap.size W w') := fun W => wport_any _ W hfz
  have HS : Hid (∀ r W, Calls Tryz.prog 84 #[.int .i32 r] W fun e w' => e = .returned (.bool (hsP r)) ∧ w' = W) := fun r W => hostsign_any r W
  unfold hostP
  clear hfz hs
  generalize portP (foldS s) = h at *
  generalize foldS s = f at *
  by_cases h0 : h.size = 0
  · rw [if_pos h0]
    obtain rfl := empty_t h0
    clear h0 HS
    go_enter Tryz.func71, Tryz.ntmps71
    go_wp2_with fail
    refine (HF.out _).mono ?_
    rintro e w1 ⟨rfl, B1⟩
    go_wp2_with fail
    refine (HP.out _).mono ?_
    rintro e w2 ⟨rfl, B2⟩
    go_wp2
    go_ret2
    exact ⟨rfl, B1.trans (B2.mono B1.size)⟩
  · rw [if_neg h0]
    have he := isEmpty_t h0
    by_cases h6 : 64 < h.size
    · rw [if_pos h6]
      have h6' : (64 : Int) < (h.size : Int) := by omega
      clear h0 h6 HS
      go_enter Tryz.func71, Tryz.ntmps71
      go_wp2_with fail
      refine (HF.out _).mono ?_
      rintro e w1 ⟨rfl, B1⟩
      go_wp2_with fail
      refine (HP.out _).mono ?_
      rintro e w2 ⟨rfl, B2⟩
      go_wp2
      go_ret2
      exact ⟨rfl, B1.trans (B2.mono B1.size)⟩
    · rw [if_neg h6]
      generalize hE : (if allB hsP h.data.toList = false then ((⟨#[]⟩ : ByteArray), false) else (h, true)) = E
      have HE : Hid ((if allB hsP h.data.toList = false then ((⟨#[]⟩ : ByteArray), false) else (h, true)) = E) := hE
      clear hE
      obtain ⟨E1, E2⟩ := E
      have h6' : ¬ (64 : Int) < (h.size : Int) := by omega
      clear h0 h6
      go_enter Tryz.func71, Tryz.ntmps71
      go_wp2_with fail
      refine (HF.out _).mono ?_
      rintro e w1 ⟨rfl, B1⟩
      go_wp2_with fail
      refine (HP.out _).mono ?_
      rintro e w2 ⟨rfl, B2⟩
      have C2 : Hid (Below w.heap.size w w2 ∧ w.heap.size ≤ w2.heap.size) := ⟨B1.trans (B2.mono B1.size), (B1.trans (B2.mono B1.size)).size⟩
      clear B1 B2 HF HP
      go_wp2_with fail
      go_loopw [] (fun w' => ∃ pos : Nat, pos ≤ h.size ∧ w' = w2.iter h pos ∧ Hid (allB hsP (h.data.toList.take pos) = true)) (fun w' => h.size - w'.iterPos w2.heap.size)
      case atStart => exact ⟨0, Nat.zero_le _, rfl, rfl⟩
      case round =>
        obtain ⟨pos, hle, rfl, hA⟩ := hrel
        by_cases hp : pos < h.size
        · have hnx : ∀ ty, (Instr.next (.pointer (some ⟨w2.heap.size, 0, none⟩)) true ty).run Tryz.prog (w2.iter h pos) = _ := fun ty => run_next_any w2 h pos ty hp
          by_cases ha : (h[pos]'hp).toNat < 128
          · rw [decode_ascii h pos hp ha] at hnx
            simp only at hnx
            have HC := HS.out ((h[pos]'hp).toNat : Int)
            cases hc : hsP ((h[pos]'hp).toNat : Int)
            · have HX : Hid (allB hsP h.data.toList = false) := allB_false h pos hp hc
              rw [hc] at HC
              have HC' : Hid _ := HC
              clear HC hc ha
              go_wp2_with fail
              refine (HC'.out _).mono ?_
              rintro e w5 ⟨rfl, rfl⟩
              go_wp2
              go_ret2
              have k := HE.out
              rw [if_pos HX.out] at k
              exact ⟨ret2_sb (congrArg Prod.fst k) (congrArg Prod.snd k), C2.out.1.trans (iter_below C2.out.2 _ _)⟩
            · have HX : Hid (allB hsP (h.data.toList.take (pos + 1)) = true) := allB_snoc h pos hp hA.out hc
              rw [hc] at HC
              have HC' : Hid _ := HC
              clear HC hc ha
              go_wp2_with fail
              refine (HC'.out _).mono ?_
              rintro e w5 ⟨rfl, rfl⟩
              go_wp2
              go_roundw
              case rel => exact ⟨pos + 1, hp, rfl, HX⟩
              case measure => simp; omega
          · have hhi := (decode_high h pos hp (by omega)).1
            have HC := HS.out ((Utf8.decode h pos).1 : Int)
            rw [hs_high hhi] at HC
            have HX : Hid (allB hsP h.data.toList = false) := allB_false h pos hp (hs_high (by omega))
            have HC' : Hid _ := HC
            clear HC hhi ha
            go_wp2_with fail
            refine (HC'.out _).mono ?_
            rintro e w5 ⟨rfl, rfl⟩
            go_wp2
            go_ret2
            have k := HE.out
            rw [if_pos HX.out] at k
            exact ⟨ret2_sb (congrArg Prod.fst k) (congrArg Prod.snd k), C2.out.1.trans (iter_below C2.out.2 _ _)⟩
        · have hnx : ∀ ty, (Instr.next (.pointer (some ⟨w2.heap.size, 0, none⟩)) true ty).run Tryz.prog (w2.iter h pos) = _ := fun ty => run_next_end w2 h pos ty hp
          have HX : Hid (¬ allB hsP h.data.toList = false) := by
            have k := hA.out
            rw [List.take_of_length_le (show h.data.toList.length ≤ pos from Nat.le_of_not_lt hp)] at k
            rw [Hid, k]
            decide
          go_wp2
          go_ret2
          have k := HE.out
          rw [if_neg HX.out] at k
          exact ⟨ret2_sb (congrArg Prod.fst k) (congrArg Prod.snd k), C2.out.1.trans (iter_below C2.out.2 _ _)⟩
end Go.Proofs.YthmhaflkkigenaaGreatDoor
