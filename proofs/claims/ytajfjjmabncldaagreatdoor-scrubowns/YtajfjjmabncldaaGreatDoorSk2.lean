/- Texts that the proof leans on, one behind the other: Base TxtL TxtK Byt Row TxtF TxtA TxtT TsA TxtB FsA TrimA CutA FsB NumM FrA FsC PrfA PrfS IxA FsN Dig LtD LtA -/
import Derived.Test.YtajfjjmabncldaaGreatDoorRows
import Derived.WalkKit
import Derived.WalkSpells
import Derived.WalkLawsBesides
import Derived.Lib.Walk
import Derived.Lib.ItoaMem
import Derived.Laws.IdiomStrings
import Derived.Test.YtajfjjmabncldaaGreatDoorSk1
import Derived.ProofKit
import Derived.OpenShut
import Derived.Below
import Derived.Laws.Pointers
import Derived.Laws.CopyOwn
import Derived.Lib.SlBytesConst
import Derived.Deep.QuietTactic
import Derived.BigQuiet
import Derived.Maps.AppendAt
import Derived.Laws.OwnMore
import Derived.Laws.Concat
import Derived.Lib.AppendStr
import Derived.Deep.Strs
import Derived.Deep.SlicePairs
import Derived.Lib.SmallJoins
import Derived.Lib.SplitLaws
import Derived.Lib.ItoaNum
import Derived.Lib.AppendIntMem
import Derived.Lib.LaidTab
import Derived.LaidSub
import Derived.MakeChecks
/- Small lemmas that several texts share. -/
namespace Go.Proofs.YtajfjjmabncldaaGreatDoor
open Go.RowKit
set_option linter.unusedVariables false

theorem ret_b {x y : Bool} (h : x = y) : Ending.returned (.bool x) = .returned (.bool y) := by rw [h]
theorem take_snoc (s : ByteArray) (k : Nat) (h : k < s.size) : s.data.toList.take (k + 1) = s.data.toList.take k ++ [s[k]] := by
  rw [List.take_succ_eq_append_getElem (by simpa using h)]; rfl
theorem empty_of {s : ByteArray} (h : s.size = 0) : s = ⟨#[]⟩ := by
  obtain ⟨⟨l⟩⟩ := s
  cases l with
  | nil => rfl
  | cons a l => exact absurd (show (a :: l).length = 0 from h) (by simp)
theorem isEmpty_of {s : ByteArray} (h : ¬ s.size = 0) : s.toList.isEmpty = false := by
  rw [ByteArray.toList_eq, List.isEmpty_eq_false_iff]
  intro e
  exact h (congrArg List.length e)
theorem extract_le (s : ByteArray) (i j : Nat) : (s.extract i j).size ≤ s.size := by rw [ByteArray.size_extract]; omega
theorem byte_bd (b : UInt8) : (0 : Int) ≤ (b.toNat : Int) ∧ (b.toNat : Int) < 256 := by have := b.toNat_lt; omega
end Go.Proofs.YtajfjjmabncldaaGreatDoor

/- Small lemmas on blocks; the library's variable that a search may look at. -/
namespace Go.Proofs.YtajfjjmabncldaaGreatDoor
open Go.RowKit
set_option linter.unusedVariables false

theorem owns_below {w w' : World} {base : Nat} {e : TypeId} {size : Nat} {v : Value} {n : Nat} {xs : List Value} (h : w.ownsRow base e size v n xs) (b : Below w.heap.size w w') : w'.ownsRow base e size v n xs := by
  obtain ⟨h1, h2⟩ := h
  refine ⟨h1, ?_⟩
  rcases h2 with h2 | ⟨g, cap, cur, hv, hg, hh, r⟩
  · exact .inl h2
  · exact .inr ⟨g, cap, cur, hv, hg, (b.block g (Array.getElem?_eq_some_iff.1 hh).1).trans hh, r⟩
theorem tblk_cell {w : World} {b i : Nat} {c : Array Value} {t : TypeId} {v : Value} (h : w.heap[b]? = some (.cells c t)) (hv : c[i]? = some v) : w.cell? ⟨b, i, none⟩ = some v := by
  simp [World.cell?, h, hv]
theorem tblk_new (w : World) (o : Obj) : (w.alloc o).heap[w.heap.size]? = some o := by
  show (w.heap.push o)[w.heap.size]? = _; simp
theorem tblk_below {w w' : World} {b : Nat} {o : Obj} (h : w.heap[b]? = some o) (k : Below w.heap.size w w') : w'.heap[b]? = some o := (k.block b (Array.getElem?_eq_some_iff.1 h).1).trans h
theorem isEmpty_t {s : ByteArray} (h : ¬ s.size = 0) : s.toList.isEmpty = false := by
  rw [ByteArray.toList_eq, List.isEmpty_eq_false_iff]
  intro e
  exact h (congrArg List.length e)
theorem empty_t {s : ByteArray} (h : s.size = 0) : s = ⟨#[]⟩ := by
  obtain ⟨⟨l⟩⟩ := s
  cases l with
  | nil => rfl
  | cons a l => exact absurd (show (a :: l).length = 0 from h) (by simp)

/-- The library's variable that a search may look at holds some number. -/
def MaxL (w : World) : Prop := ∃ m, w.cell? ⟨1, 0, none⟩ = some (.int .i64 m)
theorem MaxL.lt {w : World} (h : MaxL w) : 1 < w.heap.size := by
  obtain ⟨m, h⟩ := h
  unfold World.cell? at h
  rcases Nat.lt_or_ge 1 w.heap.size with c | c
  · exact c
  · simp [Array.getElem?_eq_none c] at h
theorem MaxL.below {w w' : World} (h : MaxL w) (b : Below w.heap.size w w') : MaxL w' := by
  have k := h.lt
  obtain ⟨m, h⟩ := h
  exact ⟨m, (b.cell (p := ⟨1, 0, none⟩) k).trans h⟩
end Go.Proofs.YtajfjjmabncldaaGreatDoor

/- Clone. -/
namespace Go.Proofs.YtajfjjmabncldaaGreatDoor
open Go.RowKit
set_option linter.unusedVariables false

theorem clone_any (s : ByteArray) (w : World) (hs : s.size ≤ 281474976710656) : Calls Tryz.prog 44 #[.string s] w fun e w' => e = .returned (.string s) ∧ Below w.heap.size w w' := by
  go_enter Tryz.func44, Tryz.ntmps44
  go_wp2_with fail
  refine (Tryz.stringslite_Clone s _ hs).mono ?_
  rintro e w1 ⟨rfl, B1⟩
  go_wp2
  go_ret
  exact ⟨rfl, B1⟩
end Go.Proofs.YtajfjjmabncldaaGreatDoor

/- Bytes in memory: slices that are read, rows that grow, texts made of bytes; arguments that are lists of bytes. -/
namespace Go.Proofs.YtajfjjmabncldaaGreatDoor
open Go.ChangeShapes Go.WideShapes Go.ChangeAt Go.RowKit
set_option linter.unusedVariables false

/-- Blocks outside T stay; new ones may come. -/
structure Kp (T : Nat → Prop) (w w' : World) : Prop where
  os : w'.os = w.os
  tape : w'.tape = w.tape
  output : w'.output = w.output
  size : w.heap.size ≤ w'.heap.size
  block : ∀ k, k < w.heap.size → ¬ T k → w'.heap[k]? = w.heap[k]?
theorem Kp.refl (T : Nat → Prop) (w : World) : Kp T w w := ⟨rfl, rfl, rfl, Nat.le_refl _, fun _ _ _ => rfl⟩
theorem Kp.trans {T T' : Nat → Prop} {u v w : World} (h : Kp T u v) (k : Kp T' v w) (ht : ∀ i, T' i → T i ∨ u.heap.size ≤ i) : Kp T u w :=
  ⟨k.os.trans h.os, k.tape.trans h.tape, k.output.trans h.output, Nat.le_trans h.size k.size, fun i hi hn =>
    (k.block i (Nat.lt_of_lt_of_le hi h.size) (fun c => by rcases ht i c with c | c; exact hn c; omega)).trans (h.block i hi hn)⟩
theorem Kp.mono {T T' : Nat → Prop} {u v : World} (h : Kp T u v) (ht : ∀ i, T i → T' i) : Kp T' u v :=
  ⟨h.os, h.tape, h.output, h.size, fun i hi hn => h.block i hi (fun c => hn (ht i c))⟩
theorem Kp.then {T : Nat → Prop} {u v w : World} (h : Kp T u v) (k : Kp T v w) : Kp T u w := h.trans k (fun _ c => .inl c)
theorem Kp.ofBelow {T : Nat → Prop} {u v : World} (h : Below u.heap.size u v) : Kp T u v :=
  ⟨h.os, h.tape, h.output, h.size, fun i hi _ => h.block i hi⟩
theorem Kp.alloc (T : Nat → Prop) (w : World) (o : Obj) : Kp T w (w.alloc o) := Kp.ofBelow ((Below.refl _ _).alloc (Nat.le_refl _) _)
theorem Kp.below {T : Nat → Prop} {B : Nat} {u v : World} (h : Kp T u v) (hB : B ≤ u.heap.size) (ht : ∀ k, k < B → ¬ T k) : Below B u v :=
  ⟨h.os, h.tape, h.output, h.size, fun k hk => h.block k (Nat.lt_of_lt_of_le hk hB) (ht k hk)⟩
theorem slice_inj {a a' : Option Addr} {n n' c c' : Nat} (h : Value.slice a n c = Value.slice a' n' c') : a = a' ∧ n = n' ∧ c = c' := by cases h; exact ⟨rfl, rfl, rfl⟩
theorem heap_lt {w : World} {b : Nat} {o : Obj} (h : w.heap[b]? = some o) : b < w.heap.size := (Array.getElem?_eq_some_iff.1 h).1
theorem Kp.at {T : Nat → Prop} {c : Nat} {w w' : World} (h : Kp T w w') (hc : ¬ T c) {o : Obj} (k : w.heap[c]? = some o) : w'.heap[c]? = some o :=
  (h.block c (heap_lt k) hc).trans k

def bv (b : UInt8) : Value := .int .u8 (b.toNat : Int)
theorem ring_cell {w : World} {b i : Nat} {c : Array Value} {t : TypeId} {v : Value} (h : w.heap[b]? = some (.cells c t)) (hv : c[i]? = some v) : w.cell? ⟨b, i, none⟩ = some v := by
  simp [World.cell?, h, hv]
theorem ring_z {w : World} {b i : Nat} {c : Array Value} {t : TypeId} (h : w.heap[b]? = some (.cells c t)) : w.frozen? ⟨b, i, none⟩ = false := by
  simp [World.frozen?, h]
theorem ring_set {w : World} {b i : Nat} {c : Array Value} {t : TypeId} {v : Value} (h : w.heap[b]? = some (.cells c t)) : (w.setCell ⟨b, i, none⟩ v).heap[b]? = some (.cells (c.setIfInBounds i v) t) := by
  simp [World.setCell, Array.getElem?_modify, h]
theorem new_at (w : World) (o : Obj) : (w.alloc o).heap[w.heap.size]? = some o := by
  show (w.heap.push o)[w.heap.size]? = _; simp
theorem addr_add (b o i : Nat) : (⟨b, o, none⟩ : Addr).add i = ⟨b, o + i, none⟩ := by unfold Addr.add; split <;> simp_all
/-- A slice of bytes, lying in block k if it has any. -/
def Src (w : World) (k : Nat) (v : Value) (b : List UInt8) : Prop := ∃ a c, v = .slice a b.length c ∧ b.length ≤ c ∧ c ≤ maxLen ∧ (0 < b.length → ∃ off, a = some ⟨k, off, none⟩ ∧ ∀ (j : Nat) (hj : j < b.length), w.cell? ⟨k, off + j, none⟩ = some (bv b[j]))
theorem Src.frame {w w' : World} {k : Nat} {v : Value} {b : List UInt8} (h : Src w k v b) (hk : w'.heap[k]? = w.heap[k]?) : Src w' k v b := by
  obtain ⟨a, c, e, h1, h2, h3⟩ := h
  refine ⟨a, c, e, h1, h2, fun hp => ?_⟩
  obtain ⟨off, ea, hc⟩ := h3 hp
  refine ⟨off, ea, fun j hj => ?_⟩
  rw [← hc j hj]
  simp [World.cell?, hk]

theorem bvs_one (l : List UInt8) : ∀ v ∈ l.map bv, v.oneCell' = true := by
  intro v hv
  obtain ⟨b, _, rfl⟩ := List.mem_map.1 hv
  rfl
theorem infoB : (Tryz.prog.info? 5).map (·.size) = some 1 := by kernel_rfl
def lenOf (v : Value) : Nat := match v with | .slice _ n _ => n | _ => 0
theorem Src.rest {w : World} {k off c : Nat} {b : List UInt8} (n : Nat) (hn : n ≤ b.length) (h1 : b.length ≤ c) (h2 : c ≤ maxLen) (h3 : ∀ (j : Nat) (hj : j < b.length), w.cell? ⟨k, off + j, none⟩ = some (bv b[j])) (a : Option Addr) (ha : n < b.length → a = some ⟨k, off + n, none⟩) :
    Src w k (.slice a (b.length - n) (c - n)) (b.drop n) := by
  refine ⟨a, c - n, by rw [List.length_drop], by rw [List.length_drop]; omega, by omega, fun hp => ?_⟩
  rw [List.length_drop] at hp
  refine ⟨off + n, ha (by omega), fun j hj => ?_⟩
  rw [List.length_drop] at hj
  rw [List.getElem_drop, Nat.add_assoc]
  exact h3 (n + j) (by omega)

/-- A row of bytes. -/
def rowB (l : List UInt8) : List Value := l.map bv
theorem infoB3 : (Tryz.prog.info? 5).map (fun i => (i.zero, i.size, i.bytes)) = some (some (.int .u8 0), 1, 1) := by kernel_rfl
theorem made_zero (n : Nat) : madeCells (Value.int .u8 0).cells n = (rowB (List.replicate n 0)).toArray := by
  unfold madeCells rowB
  apply Array.toList_inj.1
  apply List.ext_getElem?
  intro i
  rcases Nat.lt_or_ge i n with h | h
  · simp [h, Value.cells, bv, Nat.mod_one]
  · rw [List.getElem?_eq_none (by simpa using h), List.getElem?_eq_none (by simpa using h)]
theorem make_bytes (w : World) (n : Nat) (h : n ≤ 281474976710656) : (Instr.makeSlice 23 (.int .i64 (n : Int)) (.int .i64 (n : Int))).run Tryz.prog w = .ok (.slice (some ⟨w.heap.size, 0, none⟩) n n) (w.alloc (.cells (rowB (List.replicate n 0)).toArray 5)) := by
  obtain ⟨i, hi, hz0, hz1, hz2⟩ := info_parts infoB3
  have k := run_make (P := Tryz.prog) w 23 5 i (.int .u8 0) Tryz.underlying23 hi hz0 .i64 .i64 n n (by omega) (by omega) (by rw [hz2]; omega) (by omega)
  rw [Int.toNat_natCast, hz1, Nat.mul_one, made_zero] at k
  exact k
theorem rowB_length (l : List UInt8) : (rowB l).length = l.length := by simp [rowB]
theorem rowB_take (l : List UInt8) (k : Nat) : (rowB l).take k = rowB (l.take k) := by simp [rowB, List.map_take]
theorem rowB_drop (l : List UInt8) (k : Nat) : (rowB l).drop k = rowB (l.drop k) := by simp [rowB, List.map_drop]
theorem rowB_app (l k : List UInt8) : rowB (l ++ k) = rowB l ++ rowB k := by simp [rowB]

/-- A row of bytes in a block of its own is a slice. -/
theorem src_row {w : World} {g n : Nat} {l : List UInt8} (h : w.heap[g]? = some (.cells (rowB l).toArray 5)) (hl : l.length = n) (hm : n ≤ maxLen) : Src w g (.slice (some ⟨g, 0, none⟩) n n) l := by
  subst hl
  refine ⟨_, _, rfl, Nat.le_refl _, hm, fun _ => ⟨0, rfl, fun j hj => ?_⟩⟩
  refine ring_cell h ?_
  rw [Nat.zero_add, List.getElem?_toArray]
  unfold rowB
  rw [List.getElem?_map, List.getElem?_eq_getElem hj]; rfl
theorem Src.below {w w' : World} {k : Nat} {v : Value} {b : List UInt8} (h : Src w k v b) (hk : k < w.heap.size) (hB : Below w.heap.size w w') : Src w' k v b := h.frame (hB.block k hk)
/-- Bytes made of a text. -/
theorem conv_src (w : World) (s : ByteArray) (hs : s.size ≤ maxLen) : ∃ v w1, (convert 9 23 (.string s)).run Tryz.prog w = .ok v w1 ∧ Src w1 w.heap.size v s.data.toList ∧ Below w.heap.size w w1 ∧ w.heap.size < w1.heap.size := by
  refine ⟨_, _, run_bytes_of_string w 9 23 5 s Tryz.underlying9 Tryz.underlying23 Tryz.underlying5, ?_, ?_, ?_⟩
  · refine ⟨_, _, rfl, grownCap_ge _ _ _ _, grownCap_le_maxLen _ _ _ _ hs, fun _ => ⟨0, rfl, fun j hj => ?_⟩⟩
    have hb := new_at w.drew (.cells (bytesRow s (grownCap w s.size 0 5)) 5 ((bytesRow s (grownCap w s.size 0 5)).size, (bytesRow s (grownCap w s.size 0 5)).size + 1))
    have hsz : w.drew.heap.size = w.heap.size := rfl
    rw [hsz] at hb
    have e : (bytesRow s (grownCap w s.size 0 5))[j]? = some (bv s.data.toList[j]) := by
      unfold bytesRow
      have hj' : j < s.data.size := by simpa using hj
      rw [Array.getElem?_append_left (by simpa using hj'), Array.getElem?_map, Array.getElem?_eq_getElem hj']
      rfl
    unfold World.cell?
    rw [hb]
    show (bytesRow s (grownCap w s.size 0 5))[0 + j]? = _
    rw [Nat.zero_add, e]
  · exact ((Below.refl _ _).drew).alloc (Nat.le_refl _) _
  · simp
theorem conv_back {w : World} {k : Nat} {a : Option Addr} {n c : Nat} {b : List UInt8} (h : Src w k (.slice a n c) b) (hp : 0 < n) : (convert 23 9 (.slice a n c)).run Tryz.prog w = .ok (.string ⟨b.toArray⟩) w := by
  obtain ⟨a', c', e, h1, h2, h3⟩ := h
  obtain ⟨e1, e2, e3⟩ := slice_inj e
  subst e1 e2 e3
  obtain ⟨off, rfl, hc⟩ := h3 hp
  exact run_convert_bytes_back (P := Tryz.prog) w 23 9 5 ⟨k, off, none⟩ c b Tryz.underlying23 Tryz.underlying5 Tryz.underlying9 (fun j hj => by rw [addr_add]; exact hc j hj)

theorem conv_same (w : World) (C : Array Value) (n c : Nat) : (convert 23 23 (.slice (some ⟨w.heap.size, 0, none⟩) n c)).run Tryz.prog (w.alloc (.cells C 5)) = .ok (.slice (some ⟨w.heap.size, 0, none⟩) n c) (w.alloc (.cells C 5 (C.size, C.size + 1))) :=
  Lib.run_convert_bytes_const w 23 5 C n c Tryz.underlying23 Tryz.underlying5
theorem lit_src (w : World) (l : List UInt8) (n : Nat) (row : Array Value) (fz : Nat × Nat) (hl : l.length = n) (hm : n ≤ maxLen) (hr : (rowB l).toArray = row) : Src (w.alloc (.cells row 5 fz)) w.heap.size (.slice (some ⟨w.heap.size, 0, none⟩) n n) l := by
  subst hr hl
  refine ⟨_, _, rfl, Nat.le_refl _, hm, fun _ => ⟨0, rfl, fun j hj => ?_⟩⟩
  have h := new_at w (.cells (rowB l).toArray 5 fz)
  have e : (rowB l).toArray[0 + j]? = some (bv l[j]) := by
    rw [Nat.zero_add, List.getElem?_toArray]
    unfold rowB
    rw [List.getElem?_map, List.getElem?_eq_getElem hj]; rfl
  unfold World.cell?
  rw [h]
  exact e

/-- The bytes X, in block g, which the walk itself has made. -/
def Acc (w : World) (g : Nat) (v : Value) (X : List UInt8) : Prop := v.ownBlock = some g ∧ w.ownsRow 0 5 1 v X.length (rowB X)
theorem Acc.form {w : World} {g : Nat} {v : Value} {X : List UInt8} (h : Acc w g v X) : ∃ c, v = .slice (some ⟨g, 0, none⟩) X.length c := by
  obtain ⟨h1, h2, h3 | ⟨g', c, cur, hv, _⟩⟩ := h
  · rw [h3.1] at h1; cases h1
  · rw [hv] at h1
    have : g' = g := by simpa [Value.ownBlock] using h1
    subst this
    exact ⟨c, hv⟩
theorem Acc.src {w : World} {g : Nat} {v : Value} {X : List UInt8} (h : Acc w g v X) : Src w g v X := by
  obtain ⟨c, hv⟩ := h.form
  obtain ⟨h1, h2⟩ := h
  have h3 := h2
  obtain ⟨h4, h5 | ⟨g', c', cur, hv', _, hg, hl, hm, hs, ht⟩⟩ := h2
  · rw [hv] at h5; cases h5.1
  · rw [hv] at hv'
    obtain ⟨e1, e2, e3⟩ := slice_inj hv'
    have eg : g = g' := by simpa using e1
    subst e3
    refine ⟨_, _, hv, hl, hm, fun _ => ⟨0, rfl, fun j hj => ?_⟩⟩
    have k := (hv ▸ h3 : w.ownsRow 0 5 1 (.slice (some ⟨g, 0, none⟩) X.length c) X.length (rowB X)).cellAt j (by omega)
    rw [Nat.zero_add, k]
    unfold rowB
    rw [List.getElem?_map, List.getElem?_eq_getElem hj]; rfl
theorem Acc.lt {w : World} {g : Nat} {v : Value} {X : List UInt8} (h : Acc w g v X) : g < w.heap.size := by
  obtain ⟨h1, h2, h3 | ⟨g', c, cur, hv, _, hg, _⟩⟩ := h
  · rw [h3.1] at h1; cases h1
  · rw [hv] at h1
    have : g' = g := by simpa [Value.ownBlock] using h1
    subst this
    exact heap_lt hg
theorem Acc.frame {w w' : World} {g : Nat} {v : Value} {X : List UInt8} (h : Acc w g v X) (hk : w'.heap[g]? = w.heap[g]?) : Acc w' g v X := by
  obtain ⟨h1, h2, h3 | ⟨g', c, cur, hv, hb, hg, r⟩⟩ := h
  · rw [h3.1] at h1; cases h1
  · have hg' := h1
    rw [hv] at hg'
    have : g' = g := by simpa [Value.ownBlock] using hg'
    subst this
    exact ⟨h1, h2, .inr ⟨g', c, cur, hv, hb, hk.trans hg, r⟩⟩
theorem Acc.empty (w : World) : Acc (w.alloc (.cells #[] 5)) w.heap.size (.slice (some ⟨w.heap.size, 0, none⟩) 0 0) [] :=
  ⟨rfl, rfl, .inr ⟨w.heap.size, 0, #[], rfl, Nat.zero_le _, new_at _ _, Nat.le_refl _, by decide, rfl, rfl⟩⟩
/-- Bytes appended. -/
theorem acc_append {w : World} {g k : Nat} {v : Value} {X Y : List UInt8} {a : Option Addr} {n c : Nat} (h : Acc w g v X) (hs : Src w k (.slice a n c) Y) (hnil : a = none → c = 0) (hmax : X.length + Y.length ≤ 140737488355328) :
    ∃ v' w' g', (Builtin.append_ #[23, 23] 23 #[v, .slice a n c]).run Tryz.prog w = .ok v' w' ∧ Acc w' g' v' (X ++ Y) ∧ (g' = g ∨ (w.heap.size ≤ g' ∧ g' < w'.heap.size)) ∧ Kp (fun k => k = g) w w' := by
  obtain ⟨i, hi, hz0, hz1, hz2⟩ := info_parts infoB3
  obtain ⟨a', c', e, h1, h2, h3⟩ := hs
  obtain ⟨e1, e2, e3⟩ := slice_inj e
  subst e1 e2 e3
  have hmx : X.length + Y.length ≤ maxLen := by unfold maxLen; omega
  cases a with
  | none =>
    have hc := hnil rfl
    have hy : Y = [] := by
      rcases Nat.eq_zero_or_pos Y.length with q | q
      · exact List.eq_nil_of_length_eq_zero q
      · obtain ⟨_, q, _⟩ := h3 q; cases q
    subst hy hc
    refine ⟨v, w, g, run_append_owned_none w 0 23 23 5 i 1 Tryz.underlying23 hi v _ _ h.2, by rw [List.append_nil]; exact h, .inl rfl, Kp.refl _ _⟩
  | some ad =>
    obtain ⟨v', w', hr, q1, q2, q3, q4⟩ := run_append_own_at (P := Tryz.prog) w 0 23 23 5 i (.int .u8 0) 1 1 Tryz.underlying23 hi hz0 hz1 hz2 rfl (by decide) v X.length (rowB X) h.2 ad Y.length c (rowB Y) (by rw [rowB_length]; omega)
      (fun j u hj => by
        unfold rowB at hj
        rw [List.getElem?_map] at hj
        obtain ⟨x, hx, rfl⟩ := Option.map_eq_some_iff.1 hj
        have hjl := (List.getElem?_eq_some_iff.1 hx).1
        obtain ⟨off, ha, hc⟩ := h3 (by omega)
        have : ad = ⟨k, off, none⟩ := by simpa using ha
        subst this
        rw [addr_add, hc j hjl, (List.getElem?_eq_some_iff.1 hx).2]) (bvs_one _) hmx (by omega) (Nat.zero_le _)
    have hk : Kp (fun k => k = g) w w' := ⟨q2.os, q2.tape, q2.output, q2.size, fun j hj hn => q2.block j hj (fun c => hn (by rw [h.1] at c; exact Option.some.inj c))⟩
    have hrow : w'.ownsRow 0 5 1 v' (X ++ Y).length (rowB (X ++ Y)) := by rw [List.length_append, rowB_app]; exact q1
    rcases q4 with q4 | q4
    · exact ⟨v', w', g, hr, ⟨q4.trans h.1, hrow⟩, .inl rfl, hk⟩
    · exact ⟨v', w', w.heap.size, hr, ⟨q4, hrow⟩, .inr ⟨Nat.le_refl _, Acc.lt ⟨q4, hrow⟩⟩, hk⟩
theorem Src.take {w : World} {k n m c : Nat} {a : Option Addr} {b : List UInt8} (h : Src w k (.slice a n c) b) (hm : m ≤ b.length) : Src w k (.slice a m c) (b.take m) := by
  obtain ⟨a', c', e, h1, h2, h3⟩ := h
  obtain ⟨e1, e2, e3⟩ := slice_inj e
  subst e1 e2 e3
  have hl : (b.take m).length = m := by rw [List.length_take]; omega
  refine ⟨a, c, by rw [hl], by omega, h2, fun hp => ?_⟩
  obtain ⟨off, ha, hc⟩ := h3 (by omega)
  exact ⟨off, ha, fun j hj => by rw [List.getElem_take]; exact hc j (by omega)⟩
theorem Src.cut {w : World} {k n m c : Nat} {a a' : Option Addr} {b : List UInt8} (h : Src w k (.slice a n c) b) (hm : m ≤ b.length) (ha' : m < c → a' = a.map (fun x => x.add m)) : Src w k (.slice a' (n - m) (c - m)) (b.drop m) := by
  obtain ⟨a0, c', e, h1, h2, h3⟩ := h
  obtain ⟨e1, e2, e3⟩ := slice_inj e
  subst e1 e2 e3
  refine ⟨a', c - m, by rw [List.length_drop], by rw [List.length_drop]; omega, by omega, fun hp => ?_⟩
  rw [List.length_drop] at hp
  obtain ⟨off, ha, hc⟩ := h3 (by omega)
  refine ⟨off + m, by rw [ha' (by omega), ha]; simp [addr_add], fun j hj => ?_⟩
  rw [List.length_drop] at hj
  rw [List.getElem_drop, Nat.add_assoc]
  exact hc (m + j) (by omega)
/-- An empty slice lies wherever one says. -/
theorem Src.any {w : World} {k g B : Nat} {v : Value} {b : List UInt8} (h : Src w k v b) (hk : 0 < b.length → k < B) : ∃ k', (k' < B ∨ k' = g) ∧ Src w k' v b := by
  rcases Nat.eq_zero_or_pos b.length with c | c
  · obtain ⟨a, c', e, h1, h2, h3⟩ := h
    exact ⟨g, .inr rfl, a, c', e, h1, h2, fun q => by omega⟩
  · exact ⟨k, .inl (hk c), h⟩
theorem wpList_append_run {P : Program} {w : World} {ops : Array Oper} {rest : List Oper} {o : Oper} {a : Act} {Q : Exit → Act → World → Prop} (hgd : o.guard = none) (s x : Operand) (t : TypeId)
    (ho : o.op = .call { callee := .builtin .append, args := #[s, x], argTypes := #[t, t] }) (vs vx v' : Value) (w' : World) (hs : a.eval s = vs) (hx : a.eval x = vx) (hr : (Builtin.append_ #[t, t] o.type #[vs, vx]).run P w = .ok v' w')
    (h : wpList P ops Q rest (a.put o.dst v') w') : wpList P ops Q (o :: rest) a w := by
  refine wpList_plain hgd fun K hK => ?_
  unfold Oper.wp execOp
  simp only [ho, resolve, invoke, builtin, Sem.run_bind, Sem.run_pure, Result.andThen_ok, List.map_toArray, List.map_cons, List.map_nil, hs, hx, hr]
  exact hK _ _ h
theorem and_mask (n : Int) (m : Nat) (hm : m < 9223372036854775808) : ∃ k : Nat, k ≤ m ∧ bits .and .i64 n (m : Int) = (k : Int) := by
  have h2 : (BitVec.ofInt 64 (m : Int)).toNat = m := by
    rw [BitVec.ofInt_natCast, BitVec.toNat_ofNat]; exact Nat.mod_eq_of_lt (by omega)
  have hk : (BitVec.ofInt 64 n &&& BitVec.ofInt 64 (m : Int)).toNat ≤ m := by
    rw [BitVec.toNat_and, h2]; exact Nat.and_le_right
  refine ⟨(BitVec.ofInt 64 n &&& BitVec.ofInt 64 (m : Int)).toNat, hk, ?_⟩
  show IntKind.i64.wrap ((BitVec.ofInt 64 n &&& BitVec.ofInt 64 (m : Int)).toNat : Int) = _
  rw [IntKind.wrap_i64]
  generalize (BitVec.ofInt 64 n &&& BitVec.ofInt 64 (m : Int)).toNat = k at *
  omega
theorem cell_lt {w : World} {x : Addr} {v : Value} (h : w.cell? x = some v) : x.block < w.heap.size := by
  unfold World.cell? at h
  rcases Nat.lt_or_ge x.block w.heap.size with c | c
  · exact c
  · simp [Array.getElem?_eq_none c] at h
theorem open_bytes {H : Type} {enc : TypeId × Value → H} {w : World} {base : Nat} {held : Bool} {a : Option Addr} {len cap : Nat} {x : DataW H × List MemPlace}
    (h : ∃ fuel, DataW.trod enc Tryz.prog w base (fun _ => true) held fuel 23 (Value.slice a len cap).cells.toList = some x) : ∃ kb b, Src w kb (.slice a len cap) b ∧ (0 < b.length → kb < w.heap.size) ∧ (a = none → cap = 0) := by
  obtain ⟨fuel, hf⟩ := h
  rcases open_ints Tryz.underlying23 Tryz.underlying5 (by kernel_rfl) hf with ⟨hcs, _⟩ | ⟨x, l, c, zs, hcs, _, hl, hm, hz, _, hcell, hwz⟩
  · simp [Value.cells] at hcs
    obtain ⟨rfl, rfl, rfl⟩ := hcs
    exact ⟨0, [], ⟨none, 0, rfl, Nat.le_refl _, Nat.zero_le _, fun h => absurd h (Nat.lt_irrefl _)⟩, fun h => absurd h (Nat.lt_irrefl _), fun _ => rfl⟩
  · simp [Value.cells] at hcs
    obtain ⟨rfl, rfl, rfl⟩ := hcs
    have hz' : zs.length = cap := by simpa using hz
    have hbl : ((zs.take len).map fun z => z.toNat.toUInt8).length = len := by rw [List.length_map, List.length_take]; omega
    rcases Nat.eq_zero_or_pos len with h0 | h0
    · subst h0
      exact ⟨0, [], ⟨some x, cap, rfl, Nat.zero_le _, hm, fun h => absurd h (Nat.lt_irrefl _)⟩, fun h => absurd h (Nat.lt_irrefl _), fun h => by cases h⟩
    · obtain ⟨b, off, rfl, hc⟩ := ints_at hcell (by omega)
      refine ⟨b, (zs.take len).map fun z => z.toNat.toUInt8, ⟨_, cap, by rw [hbl], by rw [hbl]; exact hl, hm, fun _ => ⟨off, rfl, fun j hj => ?_⟩⟩, fun _ => cell_lt (hc 0 (by omega)), fun h => by cases h⟩
      have hj' : j < len := by rw [hbl] at hj; exact hj
      rw [hc j (by omega)]
      have hg : zs.getD j 0 = zs[j]'(by omega) := by simp [List.getD, List.getElem?_eq_getElem (show j < zs.length by omega)]
      have hb := bounds_u8 (hwz _ (List.getElem_mem (show j < zs.length by omega)))
      rw [hg, List.getElem_map, List.getElem_take]
      unfold bv
      generalize zs[j]'(by omega) = z at hb
      have e : (z.toNat.toUInt8.toNat : Int) = z := by
        have : z.toNat.toUInt8.toNat = z.toNat := by simp; omega
        rw [this]; omega
      rw [e]
end Go.Proofs.YtajfjjmabncldaaGreatDoor

/- A row of bytes that grows in memory of the walk's own. -/
namespace Go.Proofs.YtajfjjmabncldaaGreatDoor
open Go.ChangeShapes Go.WideShapes Go.ChangeAt Go.RowKit
set_option linter.unusedVariables false

/-- The bytes X, in a block from B on. -/
def Own (B : Nat) (w : World) (v : Value) (X : List UInt8) : Prop := w.ownsRow B 5 1 v X.length (rowB X)
theorem Own.form {B : Nat} {w : World} {v : Value} {X : List UInt8} (h : Own B w v X) : ∃ a c, v = .slice a X.length c ∧ (a = none → c = 0) := by
  obtain ⟨h1, ⟨h2, h3⟩ | ⟨g, c, cur, hv, _⟩⟩ := h
  · exact ⟨none, 0, by rw [h2, h3], fun _ => rfl⟩
  · exact ⟨_, c, hv, fun e => by cases e⟩
theorem Own.src {B : Nat} {w : World} {v : Value} {X : List UInt8} (h : Own B w v X) : ∃ k, Src w k v X ∧ (0 < X.length → B ≤ k ∧ k < w.heap.size) := by
  have h0 := h
  obtain ⟨h1, ⟨h2, h3⟩ | ⟨g, c, cur, hv, hB, hg, hl, hm, hs, ht⟩⟩ := h
  · refine ⟨0, ⟨none, 0, by rw [h2, h3], by omega, Nat.zero_le _, fun q => by omega⟩, fun q => by omega⟩
  · refine ⟨g, ⟨_, c, hv, hl, hm, fun _ => ⟨0, rfl, fun j hj => ?_⟩⟩, fun _ => ⟨hB, heap_lt hg⟩⟩
    have k := (hv ▸ h0 : w.ownsRow B 5 1 (.slice (some ⟨g, 0, none⟩) X.length c) X.length (rowB X)).cellAt j (by omega)
    rw [Nat.zero_add, k]
    unfold rowB
    rw [List.getElem?_map, List.getElem?_eq_getElem hj]; rfl
theorem Own.keep {B : Nat} {w w' : World} {v : Value} {X : List UInt8} (h : Own B w v X) (b : Below w.heap.size w w') : Own B w' v X := by
  obtain ⟨h1, h2⟩ := h
  refine ⟨h1, ?_⟩
  rcases h2 with h2 | ⟨g, cap, cur, hv, hg, hh, r⟩
  · exact .inl h2
  · exact .inr ⟨g, cap, cur, hv, hg, (b.block g (Array.getElem?_eq_some_iff.1 hh).1).trans hh, r⟩
theorem Own.mono {B C : Nat} {w : World} {v : Value} {X : List UInt8} (h : Own B w v X) (hC : C ≤ B) : Own C w v X := by
  obtain ⟨h1, h2⟩ := h
  refine ⟨h1, ?_⟩
  rcases h2 with h2 | ⟨g, cap, cur, hv, hg, r⟩
  · exact .inl h2
  · exact .inr ⟨g, cap, cur, hv, Nat.le_trans hC hg, r⟩
theorem Own.empty (B : Nat) (w : World) (hB : B ≤ w.heap.size) : Own B (w.alloc (.cells #[] 5)) (.slice (some ⟨w.heap.size, 0, none⟩) 0 0) [] :=
  ⟨rfl, .inr ⟨w.heap.size, 0, #[], rfl, hB, new_at _ _, Nat.le_refl _, by decide, rfl, rfl⟩⟩
theorem Own.nil (B : Nat) (w : World) : Own B w (.slice none 0 0) [] := World.ownsRow_nil _ _ _ _
/-- Bytes appended. -/
theorem own_append {B : Nat} {w : World} {k : Nat} {v : Value} {X Y : List UInt8} {a : Option Addr} {n c : Nat} (h : Own B w v X) (hs : Src w k (.slice a n c) Y) (hnil : a = none → c = 0) (hmax : X.length + Y.length ≤ 140737488355328) (hB : B ≤ w.heap.size) :
    ∃ v' w', (Builtin.append_ #[23, 23] 23 #[v, .slice a n c]).run Tryz.prog w = .ok v' w' ∧ Own B w' v' (X ++ Y) ∧ Below B w w' := by
  obtain ⟨i, hi, hz0, hz1, hz2⟩ := info_parts infoB3
  obtain ⟨a', c', e, h1, h2, h3⟩ := hs
  obtain ⟨e1, e2, e3⟩ := slice_inj e
  subst e1 e2 e3
  have hmx : X.length + Y.length ≤ maxLen := by unfold maxLen; omega
  cases a with
  | none =>
    have hc := hnil rfl
    have hy : Y = [] := by
      rcases Nat.eq_zero_or_pos Y.length with q | q
      · exact List.eq_nil_of_length_eq_zero q
      · obtain ⟨_, q, _⟩ := h3 q; cases q
    subst hy hc
    exact ⟨v, w, run_append_owned_none w B 23 23 5 i 1 Tryz.underlying23 hi v _ _ h, by rw [List.append_nil]; exact h, Below.refl _ _⟩
  | some ad =>
    obtain ⟨v', w', hr, q1, q2, q3, q4⟩ := run_append_own_at (P := Tryz.prog) w B 23 23 5 i (.int .u8 0) 1 1 Tryz.underlying23 hi hz0 hz1 hz2 rfl (by decide) v X.length (rowB X) h ad Y.length c (rowB Y) (by rw [rowB_length]; omega)
      (fun j u hj => by
        unfold rowB at hj
        rw [List.getElem?_map] at hj
        obtain ⟨x, hx, rfl⟩ := Option.map_eq_some_iff.1 hj
        have hjl := (List.getElem?_eq_some_iff.1 hx).1
        obtain ⟨off, ha, hc⟩ := h3 (by omega)
        have : ad = ⟨k, off, none⟩ := by simpa using ha
        subst this
        rw [addr_add, hc j hjl, (List.getElem?_eq_some_iff.1 hx).2]) (bvs_one _) hmx (by omega) hB
    refine ⟨v', w', hr, ?_, (Below.refl _ _).grown q2 hB (fun q hq => (h.lt q hq).1)⟩
    unfold Own
    rw [List.length_append, rowB_app]; exact q1
/-- A text's bytes appended. -/
theorem own_append_str {B : Nat} {w : World} {v : Value} {X : List UInt8} {s : ByteArray} (h : Own B w v X) (hmax : X.length + s.size ≤ 140737488355328) (hB : B ≤ w.heap.size) :
    ∃ v' w', (Builtin.append_ #[23, 9] 23 #[v, .string s]).run Tryz.prog w = .ok v' w' ∧ Own B w' v' (X ++ s.data.toList) ∧ Below B w w' := by
  obtain ⟨i, hi, hz0, hz1, hz2⟩ := info_parts infoB3
  obtain ⟨v', w', hr, q1, q2, q3⟩ := Lib.run_append_own_string (P := Tryz.prog) w B 23 9 23 5 i Tryz.underlying23 Tryz.underlying9 hi hz0 hz1 hz2 v X.length (rowB X) h s (by unfold maxLen; omega) hmax hB
  refine ⟨v', w', hr, ?_, (Below.refl _ _).grown q2 hB (fun q hq => (h.lt q hq).1)⟩
  unfold Own
  rw [List.length_append, rowB_app]; exact q1
theorem wpList_append_run2 {P : Program} {w : World} {ops : Array Oper} {rest : List Oper} {o : Oper} {a : Act} {Q : Exit → Act → World → Prop} (hgd : o.guard = none) (s x : Operand) (t u : TypeId)
    (ho : o.op = .call { callee := .builtin .append, args := #[s, x], argTypes := #[t, u] }) (vs vx v' : Value) (w' : World) (hs : a.eval s = vs) (hx : a.eval x = vx) (hr : (Builtin.append_ #[t, u] o.type #[vs, vx]).run P w = .ok v' w')
    (h : wpList P ops Q rest (a.put o.dst v') w') : wpList P ops Q (o :: rest) a w := by
  refine wpList_plain hgd fun K hK => ?_
  unfold Oper.wp execOp
  simp only [ho, resolve, invoke, builtin, Sem.run_bind, Sem.run_pure, Result.andThen_ok, List.map_toArray, List.map_cons, List.map_nil, hs, hx, hr]
  exact hK _ _ h
theorem Src.len {w : World} {k : Nat} {a : Option Addr} {n c : Nat} {b : List UInt8} (h : Src w k (.slice a n c) b) : b.length = n ∧ n ≤ c ∧ c ≤ maxLen := by
  obtain ⟨a', c', e, h1, h2, h3⟩ := h
  obtain ⟨e1, e2, e3⟩ := slice_inj e
  subst e1 e2 e3
  exact ⟨rfl, h1, h2⟩
theorem Src.keep {w w' : World} {k : Nat} {v : Value} {b : List UInt8} (h : Src w k v b) (hk : 0 < b.length → k < w.heap.size) (hB : Below w.heap.size w w') : Src w' k v b := by
  rcases Nat.eq_zero_or_pos b.length with c | c
  · obtain ⟨x, y, e, q1, q2, q3⟩ := h
    exact ⟨x, y, e, q1, q2, fun q => by omega⟩
  · exact h.frame (hB.block k (hk c))
theorem Src.keepB {B : Nat} {w w' : World} {k : Nat} {v : Value} {b : List UInt8} (h : Src w k v b) (hk : 0 < b.length → k < B) (hB : Below B w w') : Src w' k v b := by
  rcases Nat.eq_zero_or_pos b.length with c | c
  · obtain ⟨x, y, e, q1, q2, q3⟩ := h
    exact ⟨x, y, e, q1, q2, fun q => by omega⟩
  · exact h.frame (hB.block k (hk c))
theorem cat_data (x : List UInt8) (y : Array UInt8) : (⟨x.toArray⟩ : ByteArray) ++ ⟨y⟩ = ⟨(x ++ y.toList).toArray⟩ := by
  apply ByteArray.ext
  show ((⟨x.toArray⟩ : ByteArray) ++ ⟨y⟩).data = _
  rw [ByteArray.data_append]
  apply Array.toList_inj.1
  simp
theorem sum_run (W : World) (a b : ByteArray) (h : a.size + b.size ≤ 281474976710656) : (Op.stringOp .add a b).run Tryz.prog W = .ok (.string (a ++ b)) W :=
  run_string_add_sum W a b (by omega)
theorem ret_bool {x y : Bool} (h : x = y) : Ending.returned (.bool x) = .returned (.bool y) := by rw [h]
end Go.Proofs.YtajfjjmabncldaaGreatDoor

/- Fold: what it answers of every text. -/
namespace Go.Proofs.YtajfjjmabncldaaGreatDoor
open Go.RowKit
set_option linter.unusedVariables false

def bvT (b : UInt8) : Value := .int .u8 (b.toNat : Int)
def foldB (b : UInt8) : UInt8 := if 65 ≤ (b.toNat : Int) ∧ (b.toNat : Int) ≤ 90 then (b.toNat + 32).toUInt8 else b
def foldL (l : List UInt8) : List UInt8 := l.map foldB
def foldS (s : ByteArray) : ByteArray := ⟨(foldL s.data.toList).toArray⟩
theorem foldB_yes {b : UInt8} (h0 : 65 ≤ (b.toNat : Int)) (h1 : (b.toNat : Int) ≤ 90) : bvT (foldB b) = .int .u8 ((b.toNat : Int) + 32) := by
  unfold bvT foldB
  rw [if_pos ⟨h0, h1⟩]
  have : (b.toNat + 32).toUInt8.toNat = b.toNat + 32 := by simp; omega
  rw [this]; rfl
theorem foldB_no {b : UInt8} (h : ¬ (65 ≤ (b.toNat : Int) ∧ (b.toNat : Int) ≤ 90)) : foldB b = b := by unfold foldB; rw [if_neg h]

/-- A row of bytes with spare places behind. -/
def rowT (l : List UInt8) (z : List Value) : Array Value := (l.map bvT ++ z).toArray
def InRow (w : World) (b : Nat) (l : List UInt8) (z : List Value) : Prop := w.heap[b]? = some (.cells (rowT l z) 5 ((rowT l z).size, (rowT l z).size + 1))
theorem rowT_size (l : List UInt8) (z : List Value) : (rowT l z).size = l.length + z.length := by simp [rowT]
theorem rowT_at (l : List UInt8) (z : List Value) (j : Nat) (h : j < l.length) : (rowT l z)[j]? = some (bvT l[j]) := by
  unfold rowT
  rw [List.getElem?_toArray, List.getElem?_append_left (by simpa using h)]
  simp [h]
theorem InRow.cell {w : World} {b : Nat} {l : List UInt8} {z : List Value} (h : InRow w b l z) (j : Nat) (hj : j < l.length) : w.cell? ⟨b, j, none⟩ = some (.int .u8 (l[j].toNat : Int)) := by
  have k := rowT_at l z j hj
  unfold InRow at h
  simp [World.cell?, h, k]; rfl
theorem InRow.z {w : World} {b : Nat} {l : List UInt8} {z : List Value} (h : InRow w b l z) (j : Nat) (hj : j < l.length) : w.frozen? ⟨b, j, none⟩ = false := by
  unfold InRow at h
  have := rowT_size l z
  simp [World.frozen?, h]; omega
theorem InRow.set {w : World} {b : Nat} {l : List UInt8} {z : List Value} (h : InRow w b l z) (j : Nat) (hj : j < l.length) (x : UInt8) : InRow (w.setCell ⟨b, j, none⟩ (bvT x)) b (l.set j x) z := by
  have e : (rowT l z).setIfInBounds j (bvT x) = rowT (l.set j x) z := by
    unfold rowT
    rw [List.setIfInBounds_toArray, List.set_append_left _ _ (by simpa using hj), List.map_set]
  have es : (rowT (l.set j x) z).size = (rowT l z).size := by rw [rowT_size, rowT_size, List.length_set]
  unfold InRow at *
  rw [es, ← e]
  simp [World.setCell, Array.getElem?_modify, h]
theorem InRow.new (w : World) (s : ByteArray) (cap : Nat) : InRow (w.alloc (.cells (bytesRow s cap) 5 ((bytesRow s cap).size, (bytesRow s cap).size + 1))) w.heap.size s.data.toList (List.replicate (cap - s.size) (.int .u8 0)) := by
  have e : bytesRow s cap = rowT s.data.toList (List.replicate (cap - s.size) (.int .u8 0)) := by
    unfold bytesRow rowT
    apply Array.toList_inj.1
    simp [bvT]
    try rfl
  unfold InRow
  rw [← e]
  show (w.heap.push _)[w.heap.size]? = _
  simp

theorem foldL_take (l : List UInt8) (k : Nat) (h : k < l.length) : (foldL (l.take k) ++ l.drop k).set k (foldB l[k]) = foldL (l.take (k + 1)) ++ l.drop (k + 1) := by
  have hl : (foldL (l.take k)).length = k := by simp [foldL]; omega
  rw [List.drop_eq_getElem_cons h, List.set_append_right _ _ (by omega), hl, Nat.sub_self, List.set_cons_zero, List.take_succ_eq_append_getElem h]
  unfold foldL
  rw [List.map_append, List.append_assoc]; rfl
theorem foldL_at (l : List UInt8) (k : Nat) (h : k < l.length) : (foldL (l.take k) ++ l.drop k)[k]? = some l[k] := by
  have hl : (foldL (l.take k)).length = k := by simp [foldL]; omega
  rw [List.getElem?_append_right (by omega), hl, Nat.sub_self, List.drop_eq_getElem_cons h]; rfl
theorem foldL_len (l : List UInt8) (k : Nat) (h : k ≤ l.length) : (foldL (l.take k) ++ l.drop k).length = l.length := by simp [foldL]; omega

theorem fold_set_same (s : ByteArray) (k : Nat) (h : k < s.size) : (foldL (s.data.toList.take k) ++ s.data.toList.drop k).set k s[k] = foldL (s.data.toList.take k) ++ s.data.toList.drop k := by
  have h1 := foldL_at s.data.toList k h
  have hl : k < (foldL (s.data.toList.take k) ++ s.data.toList.drop k).length := (List.getElem?_eq_some_iff.1 h1).1
  rw [List.getElem?_eq_getElem hl] at h1
  have e : (foldL (s.data.toList.take k) ++ s.data.toList.drop k)[k] = s[k] := Option.some.inj h1
  rw [← e]
  exact List.set_getElem_self hl

set_option maxRecDepth 100000 in
set_option maxHeartbeats 2000000 in
theorem fold_any (s : ByteArray) (w : World) (hs : s.size ≤ maxLen) :
    Calls Tryz.prog 61 #[.string s] w fun e w' => e = .returned (.string (foldS s)) ∧ Below w.heap.size w w' := by
  unfold maxLen at hs
  have hcv := run_bytes_of_string (P := Tryz.prog) w 9 23 5 s Tryz.underlying9 Tryz.underlying23 Tryz.underlying5
  have hrow : InRow ((w.alloc (.cells (bytesRow s (grownCap w s.size 0 5)) 5 ((bytesRow s (grownCap w s.size 0 5)).size, (bytesRow s (grownCap w s.size 0 5)).size + 1))).drew) w.heap.size s.data.toList (List.replicate (grownCap w s.size 0 5 - s.size) (.int .u8 0)) := InRow.new w s _
  generalize List.replicate (grownCap w s.size 0 5 - s.size) (Value.int .u8 0) = z at *
  go_enter Tryz.func61, Tryz.ntmps61
  go_wp2_with fail
  have HB : Below w.heap.size w ((w.alloc (.cells (bytesRow s (grownCap w s.size 0 5)) 5 ((bytesRow s (grownCap w s.size 0 5)).size, (bytesRow s (grownCap w s.size 0 5)).size + 1))).drew) := ((Below.refl _ _).alloc (Nat.le_refl _) _).drew
  clear hcv
  generalize grownCap w s.size 0 5 = cap at *
  go_loopw [9] (fun vi wr => ∃ k : Nat, k ≤ s.size ∧ vi = .int .i64 k ∧ InRow wr w.heap.size (foldL (s.data.toList.take k) ++ s.data.toList.drop k) z ∧ Below w.heap.size w wr) (fun vi _ => s.size - (intOf vi).toNat)
  case atStart => exact ⟨0, Nat.zero_le _, rfl, hrow, HB⟩
  case round =>
    obtain ⟨k, hk, rfl, hr, hB⟩ := hrel
    clear hrow HB
    by_cases hlt : k < s.size
    · have hlen : s.data.toList.length = s.size := rfl
      have hl2 : k < (foldL (s.data.toList.take k) ++ s.data.toList.drop k).length := by rw [foldL_len _ _ (by omega)]; omega
      have e1 : (foldL (s.data.toList.take k) ++ s.data.toList.drop k)[k] = s[k] := by
        have h1 := foldL_at s.data.toList k (by omega)
        rw [List.getElem?_eq_getElem hl2] at h1
        exact Option.some.inj h1
      have hc := hr.cell k hl2
      have hz := hr.z k hl2
      rw [e1] at hc
      have HS : Hid (∀ x : UInt8, x = foldB s[k] → InRow (wr.setCell ⟨w.heap.size, k, none⟩ (bvT x)) w.heap.size (foldL (s.data.toList.take (k + 1)) ++ s.data.toList.drop (k + 1)) z) := fun x hx => by
        have h1 := hr.set k hl2 x
        rw [hx] at h1
        rw [← foldL_take s.data.toList k (by omega), hx]
        exact h1
      have HR : Hid (InRow wr w.heap.size (foldL (s.data.toList.take k) ++ s.data.toList.drop k) z) := hr
      have HF : Hid (s.data.toList.length = s.size) := hlen
      clear hr e1 hl2 hlen
      by_cases a : 65 ≤ (s[k].toNat : Int)
      · by_cases b : (s[k].toNat : Int) ≤ 90
        · go_wp2
          go_roundw
          case rel => exact ⟨k + 1, by omega, by go_num, by rw [← foldB_yes a b]; exact HS.out _ rfl, hB.setCell (Nat.le_refl _) _⟩
          case measure => simp [intOf]; omega
        · go_wp2
          go_roundw
          case rel =>
            refine ⟨k + 1, by omega, by go_num, ?_, hB⟩
            rw [← foldL_take s.data.toList k (by have := HF.out; omega), show s.data.toList[k]'(by have := HF.out; omega) = s[k] from rfl, foldB_no (by omega), fold_set_same s k hlt]
            exact HR.out
          case measure => simp [intOf]; omega
      · go_wp2
        go_roundw
        case rel =>
          refine ⟨k + 1, by omega, by go_num, ?_, hB⟩
          rw [← foldL_take s.data.toList k (by have := HF.out; omega), show s.data.toList[k]'(by have := HF.out; omega) = s[k] from rfl, foldB_no (by omega), fold_set_same s k hlt]
          exact HR.out
        case measure => simp [intOf]; omega
    · have hk' : k = s.size := by omega
      subst hk'
      have hlen : s.data.toList.length = s.size := rfl
      rw [List.take_of_length_le (by omega), List.drop_of_length_le (by omega), List.append_nil] at hr
      have hfl : (foldL s.data.toList).length = s.size := by unfold foldL; rw [List.length_map]; rfl
      have hcv : (convert 23 9 (.slice (some ⟨w.heap.size, 0, none⟩) s.size cap)).run Tryz.prog wr = .ok (.string (foldS s)) wr := by
        have h := run_convert_bytes_back (P := Tryz.prog) wr 23 9 5 ⟨w.heap.size, 0, none⟩ cap (foldL s.data.toList) Tryz.underlying23 Tryz.underlying5 Tryz.underlying9 (fun j hj => by
          rw [Lib.add_plain]; rw [Nat.zero_add]; exact hr.cell j hj)
        rw [hfl] at h
        exact h
      clear hr hlen hfl
      go_wp2
      go_ret
      exact ⟨rfl, hB⟩

end Go.Proofs.YtajfjjmabncldaaGreatDoor

/- Same: what it answers of every two texts. -/
namespace Go.Proofs.YtajfjjmabncldaaGreatDoor
open Go.RowKit
set_option linter.unusedVariables false

theorem same_any (a b : ByteArray) (w : World) (ha : a.size ≤ maxLen) (hb : b.size ≤ maxLen) :
    Calls Tryz.prog 107 #[.string a, .string b] w fun e w' => e = .returned (.bool ((foldS a).toList == (foldS b).toList)) ∧ Below w.heap.size w w' := by
  go_enter Tryz.func107, Tryz.ntmps107
  go_wp2_with fail
  refine (fold_any a _ ha).mono ?_
  rintro e w1 ⟨rfl, B1⟩
  go_wp2_with fail
  refine (fold_any b _ hb).mono ?_
  rintro e w2 ⟨rfl, B2⟩
  go_wp2
  go_ret
  exact ⟨rfl, B1.trans (B2.mono B1.size)⟩
end Go.Proofs.YtajfjjmabncldaaGreatDoor

/- Trim and Clone: what each answers of every text; the library's variable that a search may look at. -/
namespace Go.Proofs.YtajfjjmabncldaaGreatDoor
open Go.RowKit
set_option linter.unusedVariables false

/-- A text without blanks at its ends. -/
def trimP (l : List UInt8) : List UInt8 := Lib.trimS l [32, 9]
def trimT (s : ByteArray) : ByteArray := ⟨(trimP s.data.toList).toArray⟩
theorem dropWhile_len (p : UInt8 → Bool) : ∀ l : List UInt8, (l.dropWhile p).length ≤ l.length
  | [] => Nat.le_refl _
  | b :: l => by
    rw [List.dropWhile_cons]
    split
    · have := dropWhile_len p l; rw [List.length_cons]; omega
    · exact Nat.le_refl _
theorem trimP_len (l : List UInt8) : (trimP l).length ≤ l.length := by
  unfold trimP Lib.trimS Lib.trimLeftS Lib.trimRightS
  refine Nat.le_trans (dropWhile_len _ _) ?_
  rw [List.length_reverse]
  refine Nat.le_trans (dropWhile_len _ _) ?_
  rw [List.length_reverse]; exact Nat.le_refl _
theorem trimT_size (s : ByteArray) : (trimT s).size ≤ s.size := trimP_len s.data.toList

theorem trim_any (s : ByteArray) (w : World) (hs : s.size ≤ 140737488355328) : Calls Tryz.prog 154 #[.string s] w fun e w' => e = .returned (.string (trimT s)) ∧ Below w.heap.size w w' := by
  have H1 : Hid (s.size ≤ 9223372036854775807) := by rw [Hid]; omega
  have H2 : Hid ((trimT s).size ≤ 281474976710656) := by rw [Hid]; have := trimT_size s; omega
  clear hs
  go_enter Tryz.func154, Tryz.ntmps154
  go_wp2_with fail
  refine (Tryz.strings_Trim_laid s ⟨#[32, 9]⟩ _ H1.out (by decide) (ascii_of_all (by decide))).mono ?_
  rintro e w1 ⟨rfl, B1⟩
  go_wp2_with fail
  refine (clone_any (trimT s) _ H2.out).mono ?_
  rintro e w2 ⟨rfl, B2⟩
  go_wp2
  go_ret
  exact ⟨rfl, B1.trans (B2.mono B1.size)⟩

end Go.Proofs.YtajfjjmabncldaaGreatDoor

/- Rows of texts in memory. -/
namespace Go.Proofs.YtajfjjmabncldaaGreatDoor
open Go.ChangeShapes Go.WideShapes Go.ChangeAt Go.RowKit
set_option linter.unusedVariables false

/-- Texts are not too long. -/
def TBd (N : Nat) (xs : List ByteArray) : Prop := ∀ x ∈ xs, x.size ≤ N
theorem info9 : (Tryz.prog.info? 9).map (fun i => (i.zero, i.size, i.bytes)) = some (some (.string ByteArray.empty), 1, 16) := by kernel_rfl
theorem bcell {W w1 : World} (hb : Below W.heap.size W w1) : (∀ b o, b < W.heap.size → w1.cell? ⟨b, o, none⟩ = W.cell? ⟨b, o, none⟩) ∧ (∀ b o, b < W.heap.size → w1.frozen? ⟨b, o, none⟩ = W.frozen? ⟨b, o, none⟩) :=
  ⟨fun b o h => hb.cell (p := ⟨b, o, none⟩) h, fun b o h => hb.frozen (p := ⟨b, o, none⟩) h⟩
/-- A slice of texts, lying in a block below B if it has any. -/
def Txs (B : Nat) (w : World) (v : Value) (xs : List ByteArray) : Prop := ∃ a c, v = .slice a xs.length c ∧ (a = none → c = 0) ∧ xs.length ≤ c ∧ c ≤ maxLen ∧ (0 < xs.length → ∃ g off, a = some ⟨g, off, none⟩ ∧ g < B ∧ ∀ (j : Nat) (hj : j < xs.length), w.cell? ⟨g, off + j, none⟩ = some (.string xs[j]))
theorem Txs.keep {B : Nat} {w w' : World} {v : Value} {xs : List ByteArray} (h : Txs B w v xs) (b : Below B w w') : Txs B w' v xs := by
  obtain ⟨a, c, e, h1, h2, h3, h4⟩ := h
  refine ⟨a, c, e, h1, h2, h3, fun hp => ?_⟩
  obtain ⟨g, off, ea, hg, hc⟩ := h4 hp
  exact ⟨g, off, ea, hg, fun j hj => (b.cell (p := ⟨g, off + j, none⟩) hg).trans (hc j hj)⟩
theorem Txs.mono {B C : Nat} {w : World} {v : Value} {xs : List ByteArray} (h : Txs B w v xs) (b : B ≤ C) : Txs C w v xs := by
  obtain ⟨a, c, e, h1, h2, h3, h4⟩ := h
  refine ⟨a, c, e, h1, h2, h3, fun hp => ?_⟩
  obtain ⟨g, off, ea, hg, hc⟩ := h4 hp
  exact ⟨g, off, ea, Nat.lt_of_lt_of_le hg b, hc⟩
theorem Txs.len {B : Nat} {w : World} {a : Option Addr} {n c : Nat} {xs : List ByteArray} (h : Txs B w (.slice a n c) xs) : xs.length = n ∧ n ≤ c ∧ c ≤ maxLen := by
  obtain ⟨a', c', e, h1, h2, h3, _⟩ := h
  obtain ⟨rfl, rfl, rfl⟩ := slice_inj e
  exact ⟨rfl, h2, h3⟩

def OwnT (B : Nat) (w : World) (v : Value) (xs : List ByteArray) : Prop := w.ownsRow B 9 1 v xs.length (xs.map Value.string)
theorem rowT_one (xs : List ByteArray) : ∀ v ∈ xs.map Value.string, v.oneCell' = true := by
  intro v hv
  obtain ⟨b, _, rfl⟩ := List.mem_map.1 hv
  rfl
theorem OwnT.form {B : Nat} {w : World} {v : Value} {xs : List ByteArray} (h : OwnT B w v xs) : ∃ a c, v = .slice a xs.length c ∧ (a = none → c = 0) := by
  obtain ⟨h1, ⟨h2, h3⟩ | ⟨g, c, cur, hv, _⟩⟩ := h
  · exact ⟨none, 0, by rw [h2, h3], fun _ => rfl⟩
  · exact ⟨_, c, hv, fun e => by cases e⟩
theorem OwnT.txs {B : Nat} {w : World} {v : Value} {xs : List ByteArray} (h : OwnT B w v xs) : Txs w.heap.size w v xs := by
  have h0 := h
  obtain ⟨h1, ⟨h2, h3⟩ | ⟨g, c, cur, hv, hB, hg, hl, hm, hs, ht⟩⟩ := h
  · exact ⟨none, 0, by rw [h2, h3], fun _ => rfl, by omega, Nat.zero_le _, fun q => by omega⟩
  · refine ⟨_, c, hv, (fun e => by cases e), hl, hm, fun _ => ⟨g, 0, rfl, heap_lt hg, fun j hj => ?_⟩⟩
    have k := (hv ▸ h0 : w.ownsRow B 9 1 (.slice (some ⟨g, 0, none⟩) xs.length c) xs.length (xs.map Value.string)).cellAt j (by omega)
    rw [Nat.zero_add, k, List.getElem?_map, List.getElem?_eq_getElem hj]; rfl
theorem OwnT.keep {B : Nat} {w w' : World} {v : Value} {xs : List ByteArray} (h : OwnT B w v xs) (b : Below w.heap.size w w') : OwnT B w' v xs := owns_below h b
theorem owns_mono {B C : Nat} {w : World} {e : TypeId} {size : Nat} {v : Value} {n : Nat} {xs : List Value} (h : w.ownsRow B e size v n xs) (hC : C ≤ B) : w.ownsRow C e size v n xs := by
  obtain ⟨h1, h2⟩ := h
  refine ⟨h1, ?_⟩
  rcases h2 with h2 | ⟨g, cap, cur, hv, hg, r⟩
  · exact .inl h2
  · exact .inr ⟨g, cap, cur, hv, Nat.le_trans hC hg, r⟩
theorem OwnT.mono {B C : Nat} {w : World} {v : Value} {xs : List ByteArray} (h : OwnT B w v xs) (hC : C ≤ B) : OwnT C w v xs := owns_mono h hC
theorem OwnT.nil (B : Nat) (w : World) : OwnT B w (.slice none 0 0) [] := World.ownsRow_nil _ _ _ _
theorem OwnT.empty (B : Nat) (w : World) (hB : B ≤ w.heap.size) : OwnT B (w.alloc (.cells #[] 9)) (.slice (some ⟨w.heap.size, 0, none⟩) 0 0) [] :=
  ⟨rfl, .inr ⟨w.heap.size, 0, #[], rfl, hB, new_at _ _, Nat.le_refl _, by decide, rfl, rfl⟩⟩
/-- Texts appended. -/
theorem ownT_append {B C : Nat} {w : World} {v : Value} {X Y : List ByteArray} {a : Option Addr} {n c : Nat} (h : OwnT B w v X) (hs : Txs C w (.slice a n c) Y) (hmax : X.length + Y.length ≤ 4294967296) (hB : B ≤ w.heap.size) :
    ∃ v' w', (Builtin.append_ #[28, 28] 28 #[v, .slice a n c]).run Tryz.prog w = .ok v' w' ∧ OwnT B w' v' (X ++ Y) ∧ Below B w w' := by
  obtain ⟨i, hi, hz0, hz1, hz2⟩ := info_parts info9
  obtain ⟨a', c', e, hnil, h1, h2, h3⟩ := hs
  obtain ⟨e1, e2, e3⟩ := slice_inj e
  subst e1 e2 e3
  have hmx : X.length + Y.length ≤ maxLen := by unfold maxLen; omega
  cases a with
  | none =>
    have hc := hnil rfl
    have hy : Y = [] := by
      rcases Nat.eq_zero_or_pos Y.length with q | q
      · exact List.eq_nil_of_length_eq_zero q
      · obtain ⟨_, _, q, _⟩ := h3 q; cases q
    subst hy hc
    exact ⟨v, w, run_append_owned_none w B 28 28 9 i 1 Tryz.underlying28 hi v _ _ h, by rw [List.append_nil]; exact h, Below.refl _ _⟩
  | some ad =>
    obtain ⟨v', w', hr, q1, q2, q3, q4⟩ := run_append_own_at (P := Tryz.prog) w B 28 28 9 i (.string ByteArray.empty) 1 16 Tryz.underlying28 hi hz0 hz1 hz2 rfl (by decide) v X.length (X.map Value.string) h ad Y.length c (Y.map Value.string) (by rw [List.length_map]; omega)
      (fun j u hj => by
        rw [List.getElem?_map] at hj
        obtain ⟨x, hx, rfl⟩ := Option.map_eq_some_iff.1 hj
        have hjl := (List.getElem?_eq_some_iff.1 hx).1
        obtain ⟨k, off, ha, _, hc⟩ := h3 (by omega)
        have : ad = ⟨k, off, none⟩ := by simpa using ha
        subst this
        rw [addr_add, hc j hjl, (List.getElem?_eq_some_iff.1 hx).2]) (rowT_one _) hmx (by omega) hB
    refine ⟨v', w', hr, ?_, (Below.refl _ _).grown q2 hB (fun q hq => (h.lt q hq).1)⟩
    unfold OwnT
    rw [List.length_append, List.map_append]; exact q1
theorem one_txs (w : World) (x : ByteArray) (C : Nat) (h : w.heap.size < C) : Txs C (w.alloc (.cells #[.string x] 9)) (.slice (some ⟨w.heap.size, 0, none⟩) 1 1) [x] :=
  ⟨_, 1, rfl, (fun e => by cases e), Nat.le_refl _, by decide, fun _ => ⟨w.heap.size, 0, rfl, h, fun j hj => by
    have : j = 0 := by simpa using hj
    subst this
    exact tblk_cell (tblk_new _ _) rfl⟩⟩
end Go.Proofs.YtajfjjmabncldaaGreatDoor

/- Trim and Split: what each answers of every text. -/
namespace Go.Proofs.YtajfjjmabncldaaGreatDoor
open Go.RowKit
set_option linter.unusedVariables false

/-- The parts of a list. -/
def comma : ByteArray := ⟨#[44]⟩
def pieces (s : ByteArray) : List ByteArray := Lib.splitB ⟨#[44]⟩ 0 (Lib.countB s ⟨#[44]⟩) s
def keepT (ps : List ByteArray) : List ByteArray := (ps.map trimT).filter fun p => !decide (p.size = 0)
theorem keepT_snoc (ps : List ByteArray) (p : ByteArray) : keepT (ps ++ [p]) = keepT ps ++ (if (trimT p).size = 0 then [] else [trimT p]) := by
  unfold keepT
  rw [List.map_append, List.filter_append]
  congr 1
  by_cases h : (trimT p).size = 0
  · rw [if_pos h]
    simp only [List.map_cons, List.map_nil, List.filter_cons, List.filter_nil, decide_eq_true h, Bool.not_true, Bool.false_eq_true, if_false]
  · rw [if_neg h]
    simp only [List.map_cons, List.map_nil, List.filter_cons, List.filter_nil, decide_eq_false h, Bool.not_false, if_true]
theorem keepT_len (ps : List ByteArray) : (keepT ps).length ≤ ps.length := by
  unfold keepT
  refine Nat.le_trans (List.length_filter_le _ _) ?_
  rw [List.length_map]; exact Nat.le_refl _

theorem pieces_len (s : ByteArray) : (pieces s).length ≤ s.size + 2 := by
  have h1 := Lib.splitB_length_le ⟨#[44]⟩ 0 (Lib.countB s ⟨#[44]⟩) s
  have h2 : Lib.countB s ⟨#[44]⟩ ≤ s.size + 1 := Lib.count_le s.data.toList [44]
  unfold pieces; omega

set_option maxRecDepth 100000 in
set_option maxHeartbeats 4000000 in
theorem split_core (s : ByteArray) (ps : List ByteArray) (hpe : pieces s = ps) (w : World) (hs : s.size < 4294967281) (hlen : ps.length = Lib.countB s ⟨#[44]⟩ + 1) (hps : ∀ p ∈ ps, p.size ≤ 140737488355328) (hM : MaxL w) :
    Calls Tryz.prog 116 #[.string s] w fun e w' => ∃ ao cv, e = .returned (.slice ao (keepT ps).length cv) ∧ w'.ownsRow (w.heap.size + 1) 9 1 (.slice ao (keepT ps).length cv) (keepT ps).length ((keepT ps).map Value.string) ∧ Below w.heap.size w w' := by
  obtain ⟨m, hm⟩ := hM
  obtain ⟨i0, hi, hz0, hz1, hz2⟩ := info_parts info9
  have HM : Hid (w.cell? ⟨1, 0, none⟩ = some (.int .i64 m)) := hm
  have HL := pieces_len s
  rw [hpe] at HL
  have HPE : Hid (pieces s = ps) := hpe
  clear hm hpe
  go_enter Tryz.func116, Tryz.ntmps116
  go_wp2_with fail
  refine (Tryz.strings_Split s ⟨#[44]⟩ m _ hs HM.out (by decide)).mono ?_
  rw [← hlen]
  rintro e w1 ⟨rfl, hw1⟩
  have hpc : w1.heap[w.heap.size]? = some (.cells (ps.map Value.string).toArray 9) := by rw [hw1, ← HPE.out]; exact tblk_new _ _
  have hB1 : Below w.heap.size w w1 := by rw [hw1]; exact (Below.refl _ _).alloc (Nat.le_refl _) _
  have hs1 : w.heap.size + 1 ≤ w1.heap.size := by rw [hw1]; simp
  clear hw1 HM hlen HPE
  go_wp2_with fail
  go_loopw [3, 9] (fun v vi wr => ∃ (k : Nat) (ao : Option Addr) (cv : Nat), k ≤ ps.length ∧ vi = .int .i64 k ∧ v = .slice ao (keepT (ps.take k)).length cv ∧ wr.ownsRow (w.heap.size + 1) 9 1 v (keepT (ps.take k)).length ((keepT (ps.take k)).map Value.string) ∧ wr.heap[w.heap.size]? = some (.cells (ps.map Value.string).toArray 9) ∧ w.heap.size + 1 ≤ wr.heap.size ∧ Below w.heap.size w wr) (fun _ vi _ => ps.length - (intOf vi).toNat)
  case atStart => exact ⟨0, none, 0, Nat.zero_le _, rfl, rfl, World.ownsRow_nil _ _ _ _, hpc, hs1, hB1⟩
  case round =>
    obtain ⟨k, ao, cv, hk, rfl, rfl, hown, hpr, hsr, hB⟩ := hrel
    clear hpc hs1 hB1
    by_cases hlt : k < ps.length
    · have hcell : wr.cell? ⟨w.heap.size, k, none⟩ = some (.string ps[k]) := tblk_cell hpr (by rw [List.getElem?_toArray, List.getElem?_map, List.getElem?_eq_getElem hlt]; rfl)
      have hp := hps ps[k] (List.getElem_mem hlt)
      have hsn : Hid (keepT (ps.take (k + 1)) = keepT (ps.take k) ++ (if (trimT ps[k]).size = 0 then [] else [trimT ps[k]])) := by
        rw [Hid, List.take_succ_eq_append_getElem hlt, keepT_snoc]
      have hkl : (keepT (ps.take k)).length ≤ k := Nat.le_trans (keepT_len _) (List.length_take_le _ _)
      generalize ps[k] = p at *
      go_wp2_with fail
      refine (trim_any p _ hp).mono ?_
      rintro e w2 ⟨rfl, B2⟩
      have hown2 := owns_below hown B2
      have hpr2 := tblk_below hpr B2
      have hB2 := hB.trans (B2.mono hB.size)
      have hs2 : w.heap.size + 1 ≤ w2.heap.size := Nat.le_trans hsr B2.size
      clear hown hpr hB B2 hcell
      generalize trimT p = x at *
      by_cases hz : x.size = 0
      · have hsn2 : Hid (keepT (ps.take (k + 1)) = keepT (ps.take k)) := by rw [Hid, hsn.out, if_pos hz, List.append_nil]
        have he := empty_t hz
        clear hsn
        subst he
        go_wp2
        go_roundw
        case rel => exact ⟨k + 1, ao, cv, by omega, by go_num, by rw [hsn2.out], by rw [hsn2.out]; exact hown2, hpr2, hs2, hB2⟩
        case measure => simp [intOf]; omega
      · have hsn2 : Hid (keepT (ps.take (k + 1)) = keepT (ps.take k) ++ [x]) := by rw [Hid, hsn.out, if_neg hz]
        have hne := isEmpty_t hz
        clear hsn hz
        have hkn : (keepT (ps.take k)).length ≤ 4294967283 := by omega
        generalize keepT (ps.take k) = K at *
        go_wp2_with (first
          | (at_builtin; refine wpList_append_own _ rfl _ _ 28 rfl (w.heap.size + 1) 9 i0 (.string ByteArray.empty) 1 16 Tryz.underlying28 hi hz0 hz1 hz2 rfl (by decide) _ _ _ rfl (hown2.alloc _) ⟨w2.heap.size, 0, none⟩ 1 1 [.string x] rfl rfl (cell_one_new _ _ _) (fun x hx => by simp at hx; subst hx; rfl) (by unfold maxLen; omega) (by omega) (by simp; omega) ?_; intro v' w3 hown' hgrow3 hnil3))
        go_roundw
        case rel =>
          obtain ⟨g3, cap3, hv3⟩ : ∃ g3 cap3, v' = .slice (some ⟨g3, 0, none⟩) (K.length + 1) cap3 := by
            rcases hown'.2 with ⟨_, h⟩ | ⟨g3, cap3, _, h, _⟩
            · omega
            · exact ⟨g3, cap3, h⟩
          have hb3 : Below (w.heap.size + 1) w2 w3 := ((Below.refl _ _).alloc hs2 _).grown hgrow3 (by simp; omega) (fun q hq => (hown2.lt q hq).1)
          exact ⟨k + 1, some ⟨g3, 0, none⟩, cap3, by omega, by go_num, by rw [hv3, hsn2.out, List.length_append]; rfl, by rw [hsn2.out, List.map_append, List.length_append]; exact hown', (hb3.block _ (Nat.lt_succ_self _)).trans hpr2, Nat.le_trans hs2 hb3.size, hB2.trans (hb3.mono (Nat.le_succ _))⟩
        case measure => simp [intOf]; omega
    · go_wp2
      go_ret
      have hk' : k = ps.length := by omega
      subst hk'
      rw [List.take_length] at *
      exact ⟨ao, cv, rfl, hown, hB⟩

theorem split_any (s : ByteArray) (w : World) (hs : s.size < 4294967281) (hlen : (pieces s).length = Lib.countB s ⟨#[44]⟩ + 1) (hps : ∀ p ∈ pieces s, p.size ≤ 140737488355328) (hM : MaxL w) :
    Calls Tryz.prog 116 #[.string s] w fun e w' => ∃ ao cv, e = .returned (.slice ao (keepT (pieces s)).length cv) ∧ w'.ownsRow (w.heap.size + 1) 9 1 (.slice ao (keepT (pieces s)).length cv) (keepT (pieces s)).length ((keepT (pieces s)).map Value.string) ∧ Below w.heap.size w w' :=
  split_core s (pieces s) rfl w hs hlen hps hM
end Go.Proofs.YtajfjjmabncldaaGreatDoor

/- Rows of texts and of fields in memory. -/
namespace Go.Proofs.YtajfjjmabncldaaGreatDoor
open Go.ChangeShapes Go.WideShapes Go.ChangeAt Go.RowKit
set_option linter.unusedVariables false

abbrev Fs := List (ByteArray × ByteArray)
/-- A slice of fields. -/
def Fds (B : Nat) (w : World) (v : Value) (fs : Fs) : Prop := ∃ a c, v = .slice a fs.length c ∧ (a = none → c = 0) ∧ fs.length ≤ c ∧ c ≤ maxLen ∧ (0 < fs.length → ∃ g off, a = some ⟨g, off, none⟩ ∧ g < B ∧ ∀ (j : Nat) (hj : j < fs.length), w.cell? ⟨g, off + j * 2, none⟩ = some (.string fs[j].1) ∧ w.cell? ⟨g, off + j * 2 + 1, none⟩ = some (.string fs[j].2))
theorem Fds.keep {B : Nat} {w w' : World} {v : Value} {fs : Fs} (h : Fds B w v fs) (b : Below B w w') : Fds B w' v fs := by
  obtain ⟨a, c, e, h1, h2, h3, h4⟩ := h
  refine ⟨a, c, e, h1, h2, h3, fun hp => ?_⟩
  obtain ⟨g, off, ea, hg, hc⟩ := h4 hp
  exact ⟨g, off, ea, hg, fun j hj => ⟨(b.cell (p := ⟨g, off + j * 2, none⟩) hg).trans (hc j hj).1, (b.cell (p := ⟨g, off + j * 2 + 1, none⟩) hg).trans (hc j hj).2⟩⟩
theorem Fds.mono {B C : Nat} {w : World} {v : Value} {fs : Fs} (h : Fds B w v fs) (b : B ≤ C) : Fds C w v fs := by
  obtain ⟨a, c, e, h1, h2, h3, h4⟩ := h
  refine ⟨a, c, e, h1, h2, h3, fun hp => ?_⟩
  obtain ⟨g, off, ea, hg, hc⟩ := h4 hp
  exact ⟨g, off, ea, Nat.lt_of_lt_of_le hg b, hc⟩
theorem Fds.len {B : Nat} {w : World} {a : Option Addr} {n c : Nat} {fs : Fs} (h : Fds B w (.slice a n c) fs) : fs.length = n ∧ n ≤ c ∧ c ≤ maxLen := by
  obtain ⟨a', c', e, h1, h2, h3, _⟩ := h
  obtain ⟨rfl, rfl, rfl⟩ := slice_inj e
  exact ⟨rfl, h2, h3⟩
/-- A row of texts, and one of fields, of the walk's own, in a block from B on. -/
def rowF (fs : Fs) : List Value := fs.flatMap fun f => [.string f.1, .string f.2]
def OwnF (B : Nat) (w : World) (v : Value) (fs : Fs) : Prop := w.ownsRow B 34 2 v fs.length (rowF fs)
theorem rowF_len (fs : Fs) : (rowF fs).length = fs.length * 2 := by
  induction fs with
  | nil => rfl
  | cons f l ih =>
    show ([Value.string f.1, .string f.2] ++ rowF l).length = _
    have e : (f :: l).length = l.length + 1 := rfl
    have e2 : ([Value.string f.1, .string f.2] : List Value).length = 2 := rfl
    rw [List.length_append, ih, e, e2]; omega
theorem rowF_app (x y : Fs) : rowF (x ++ y) = rowF x ++ rowF y := by unfold rowF; rw [List.flatMap_append]
theorem rowF_at : ∀ (fs : Fs) (j : Nat) (hj : j < fs.length), (rowF fs)[j * 2]? = some (.string fs[j].1) ∧ (rowF fs)[j * 2 + 1]? = some (.string fs[j].2)
  | f :: l, 0, _ => ⟨rfl, rfl⟩
  | f :: l, j + 1, h => by
    have k := rowF_at l j (by simpa using h)
    have e1 : (j + 1) * 2 = j * 2 + 1 + 1 := by omega
    rw [e1]
    exact k
theorem rowF_one (fs : Fs) : ∀ v ∈ rowF fs, v.oneCell' = true := by
  intro v hv
  unfold rowF at hv
  obtain ⟨f, _, hf⟩ := List.mem_flatMap.1 hv
  simp at hf
  rcases hf with rfl | rfl <;> rfl
theorem OwnF.form {B : Nat} {w : World} {v : Value} {fs : Fs} (h : OwnF B w v fs) : ∃ a c, v = .slice a fs.length c ∧ (a = none → c = 0) := by
  obtain ⟨h1, ⟨h2, h3⟩ | ⟨g, c, cur, hv, _⟩⟩ := h
  · exact ⟨none, 0, by rw [h2, h3], fun _ => rfl⟩
  · exact ⟨_, c, hv, fun e => by cases e⟩
theorem OwnF.fds {B : Nat} {w : World} {v : Value} {fs : Fs} (h : OwnF B w v fs) : Fds w.heap.size w v fs := by
  have h0 := h
  obtain ⟨h1, ⟨h2, h3⟩ | ⟨g, c, cur, hv, hB, hg, hl, hm, hs, ht⟩⟩ := h
  · exact ⟨none, 0, by rw [h2, h3], fun _ => rfl, by omega, Nat.zero_le _, fun q => by omega⟩
  · refine ⟨_, c, hv, (fun e => by cases e), hl, hm, fun _ => ⟨g, 0, rfl, heap_lt hg, fun j hj => ?_⟩⟩
    have k := (hv ▸ h0 : w.ownsRow B 34 2 (.slice (some ⟨g, 0, none⟩) fs.length c) fs.length (rowF fs))
    have r := rowF_at fs j hj
    rw [Nat.zero_add]
    exact ⟨(k.cellAt (j * 2) (by omega)).trans r.1, (k.cellAt (j * 2 + 1) (by omega)).trans r.2⟩
theorem OwnF.keep {B : Nat} {w w' : World} {v : Value} {fs : Fs} (h : OwnF B w v fs) (b : Below w.heap.size w w') : OwnF B w' v fs := owns_below h b
theorem OwnF.mono {B C : Nat} {w : World} {v : Value} {fs : Fs} (h : OwnF B w v fs) (hC : C ≤ B) : OwnF C w v fs := owns_mono h hC
theorem OwnF.nil (B : Nat) (w : World) : OwnF B w (.slice none 0 0) [] := World.ownsRow_nil _ _ _ _
theorem OwnF.empty (B : Nat) (w : World) (hB : B ≤ w.heap.size) : OwnF B (w.alloc (.cells #[] 34)) (.slice (some ⟨w.heap.size, 0, none⟩) 0 0) [] :=
  ⟨rfl, .inr ⟨w.heap.size, 0, #[], rfl, hB, new_at _ _, Nat.le_refl _, by decide, rfl, rfl⟩⟩
theorem infoF : (Tryz.prog.info? 34).map (fun i => (i.zero, i.size, i.bytes)) = some (some (.agg #[.string ByteArray.empty, .string ByteArray.empty]), 2, 32) := by kernel_rfl
/-- Fields appended. -/
theorem ownF_append {B C : Nat} {w : World} {v : Value} {X Y : Fs} {a : Option Addr} {n c : Nat} (h : OwnF B w v X) (hs : Fds C w (.slice a n c) Y) (hmax : X.length + Y.length ≤ 4294967296) (hB : B ≤ w.heap.size) :
    ∃ v' w', (Builtin.append_ #[22, 22] 22 #[v, .slice a n c]).run Tryz.prog w = .ok v' w' ∧ OwnF B w' v' (X ++ Y) ∧ Below B w w' := by
  obtain ⟨i, hi, hz0, hz1, hz2⟩ := info_parts infoF
  obtain ⟨a', c', e, hnil, h1, h2, h3⟩ := hs
  obtain ⟨e1, e2, e3⟩ := slice_inj e
  subst e1 e2 e3
  have hmx : X.length + Y.length ≤ maxLen := by unfold maxLen; omega
  cases a with
  | none =>
    have hc := hnil rfl
    have hy : Y = [] := by
      rcases Nat.eq_zero_or_pos Y.length with q | q
      · exact List.eq_nil_of_length_eq_zero q
      · obtain ⟨_, _, q, _⟩ := h3 q; cases q
    subst hy hc
    exact ⟨v, w, run_append_owned_none w B 22 22 34 i 2 Tryz.underlying22 hi v _ _ h, by rw [List.append_nil]; exact h, Below.refl _ _⟩
  | some ad =>
    obtain ⟨v', w', hr, q1, q2, q3, q4⟩ := run_append_own_at (P := Tryz.prog) w B 22 22 34 i (.agg #[.string ByteArray.empty, .string ByteArray.empty]) 2 32 Tryz.underlying22 hi hz0 hz1 hz2 rfl (by decide) v X.length (rowF X) h ad Y.length c (rowF Y) (rowF_len Y)
      (fun j u hj => by
        have hjl := (List.getElem?_eq_some_iff.1 hj).1
        rw [rowF_len] at hjl
        obtain ⟨k, off, ha, _, hc⟩ := h3 (by omega)
        have : ad = ⟨k, off, none⟩ := by simpa using ha
        subst this
        rw [addr_add]
        have r := rowF_at Y (j / 2) (by omega)
        have q := hc (j / 2) (by omega)
        rcases Nat.mod_two_eq_zero_or_one j with m | m
        · have e1 : j / 2 * 2 = j := by omega
          rw [e1] at r q
          rw [q.1, ← r.1, hj]
        · have e1 : j / 2 * 2 + 1 = j := by omega
          have e2 : off + j / 2 * 2 + 1 = off + j := by omega
          rw [e1] at r
          rw [e2] at q
          rw [q.2, ← r.2, hj]) (rowF_one _) hmx (by omega) hB
    refine ⟨v', w', hr, ?_, (Below.refl _ _).grown q2 hB (fun q hq => (h.lt q hq).1)⟩
    unfold OwnF
    rw [List.length_append, rowF_app]; exact q1
/-- Fields that came in. -/
def datF {H : Type} (f : ByteArray × ByteArray) : DataW H := .agg [.lit (.string f.1.data.toList), .lit (.string f.2.data.toList)]
theorem open_fields {H : Type} {enc : TypeId × Value → H} {w : World} {base : Nat} {held : Bool} {a : Option Addr} {len cap : Nat} {x : DataW H × List MemPlace}
    (h : ∃ fuel, DataW.trod enc Tryz.prog w base (fun _ => true) held fuel 22 (Value.slice a len cap).cells.toList = some x) :
    ∃ fs : Fs, Fds w.heap.size w (.slice a len cap) fs ∧ (∀ f ∈ fs, f.1.size ≤ maxLen ∧ f.2.size ≤ maxLen) ∧ ((x.1 = .nil ∧ fs = []) ∨ ∃ sp, x.1 = .slice (fs.map datF) sp) := by
  obtain ⟨fuel, hf⟩ := h
  rcases Go.Deep.open_slice_pairs Tryz.underlying22 Tryz.underlying34 (by kernel_rfl) rfl rfl (by kernel_rfl) (by kernel_rfl) hf with ⟨hcs, hx⟩ | ⟨ad, l, c, m, n, V0, V1, D0, D1, P0, P1, hcs, hb, hl, hm, hmm, hx, hc⟩
  · simp [Value.cells] at hcs
    obtain ⟨rfl, rfl, rfl⟩ := hcs
    exact ⟨[], ⟨none, 0, rfl, fun _ => rfl, Nat.le_refl _, Nat.zero_le _, fun h => absurd h (Nat.lt_irrefl _)⟩, (fun f hf => by cases hf), .inl ⟨by rw [hx], rfl⟩⟩
  · simp [Value.cells] at hcs
    obtain ⟨rfl, rfl, rfl⟩ := hcs
    have hmm' : m = cap := by simpa using hmm
    subst hmm'
    have each : ∀ i, i < m → ∃ q : ByteArray × ByteArray, V0 i = .string q.1 ∧ V1 i = .string q.2 ∧ D0 i = .lit (.string q.1.data.toList) ∧ D1 i = .lit (.string q.2.data.toList) ∧ q.1.size ≤ maxLen ∧ q.2.size ≤ maxLen := by
      intro i hi
      obtain ⟨_, _, g0, g1⟩ := hc i hi
      obtain ⟨s0, e0, f0, z0⟩ := DataW.trod_string Tryz.underlying9 g0
      obtain ⟨s1, e1, f1, z1⟩ := DataW.trod_string Tryz.underlying9 g1
      simp only [Prod.mk.injEq] at f0 f1
      exact ⟨(s0, s1), by simpa using e0, by simpa using e1, f0.1, f1.1, z0, z1⟩
    obtain ⟨q, hq⟩ := Go.Deep.choose_lt each
    have hln : ((List.range len).map q).length = len := by simp
    refine ⟨(List.range len).map q, ⟨_, _, by rw [hln], (fun e => by cases e), by rw [hln]; exact hl, hm, fun hp => ?_⟩, ?_, .inr ⟨(List.range (m - len)).map fun j => .agg [D0 (len + j), D1 (len + j)], ?_⟩⟩
    · rw [hln] at hp
      obtain ⟨b, off, spot⟩ := ad
      have hspot : spot = none := by simpa [Addr.add] using World.cell?_spot (hc 0 (by omega)).1
      subst hspot
      have hcc : ∀ i, i < m → World.cell? w ⟨b, off + i * 2, none⟩ = some (V0 i) ∧ World.cell? w ⟨b, off + i * 2 + 1, none⟩ = some (V1 i) := fun i hi => by
        have k := hc i hi
        rw [addr_add, addr_add] at k
        exact ⟨k.1, by rw [Nat.add_assoc]; exact k.2.1⟩
      refine ⟨b, off, rfl, ?_, fun j hj => ?_⟩
      · have k := (hcc 0 (by omega)).1
        unfold World.cell? at k
        rcases Nat.lt_or_ge b w.heap.size with g | g
        · exact g
        · simp [Array.getElem?_eq_none g] at k
      · rw [hln] at hj
        have e : ((List.range len).map q)[j]'(by rw [hln]; exact hj) = q j := by simp
        rw [e, ← (hq j (by omega)).1, ← (hq j (by omega)).2.1]
        exact hcc j (by omega)
    · intro f hf
      obtain ⟨i, hi, rfl⟩ := List.mem_map.1 hf
      have := List.mem_range.1 hi
      exact (hq i (by omega)).2.2.2.2
    · rw [hx]
      show DataW.slice _ _ = DataW.slice _ _
      congr 1
      rw [List.map_map]
      refine List.map_congr_left fun i hi => ?_
      have := List.mem_range.1 hi
      show _ = datF (q i)
      rw [(hq i (by omega)).2.2.1, (hq i (by omega)).2.2.2.1]; rfl
end Go.Proofs.YtajfjjmabncldaaGreatDoor

/- Plain lemmas on trimmed texts. -/
namespace Go.Proofs.YtajfjjmabncldaaGreatDoor
open Go.RowKit
set_option linter.unusedVariables false

def blk (b : UInt8) : Bool := ([32, 9] : List UInt8).contains b
/-- No blank at the front; none at the end. -/
def NF (l : List UInt8) : Prop := ∀ b, l.head? = some b → blk b = false
def NL (l : List UInt8) : Prop := ∀ b, l.getLast? = some b → blk b = false
theorem trimP_eq (l : List UInt8) : trimP l = (l.reverse.dropWhile blk).reverse.dropWhile blk := rfl
theorem dw_front (l : List UInt8) : NF (l.dropWhile blk) := by
  intro b h
  induction l with
  | nil => simp at h
  | cons a l ih =>
    rw [List.dropWhile_cons] at h
    split at h
    · exact ih h
    · rename_i c
      have : a = b := by simpa using h
      subst this
      simpa using c
theorem dw_same (l : List UInt8) (h : NF l) : l.dropWhile blk = l := by
  cases l with
  | nil => rfl
  | cons a l => rw [List.dropWhile_cons, if_neg (by rw [h a rfl]; decide)]
theorem dw_app (a l : List UInt8) (h : ∀ b ∈ a, blk b = true) : (a ++ l).dropWhile blk = l.dropWhile blk := by
  induction a with
  | nil => rfl
  | cons x a ih =>
    rw [List.cons_append, List.dropWhile_cons, if_pos (h x (.head _))]
    exact ih fun b hb => h b (.tail _ hb)
theorem dw_all (a : List UInt8) (h : ∀ b ∈ a, blk b = true) : a.dropWhile blk = [] := by
  have := dw_app a [] h
  rwa [List.append_nil] at this
theorem dw_last (l : List UInt8) (h : NL l) : NL (l.dropWhile blk) := by
  induction l with
  | nil => exact h
  | cons a l ih =>
    rw [List.dropWhile_cons]
    split
    · refine ih fun b hb => h b ?_
      cases l with
      | nil => simp at hb
      | cons c l => rw [List.getLast?_cons_cons]; exact hb
    · exact h
theorem rev_front {l : List UInt8} (h : NL l) : NF l.reverse := by
  intro b hb
  rw [List.head?_reverse] at hb
  exact h b hb
theorem rev_last {l : List UInt8} (h : NF l) : NL l.reverse := by
  intro b hb
  rw [List.getLast?_reverse] at hb
  exact h b hb
theorem trim_front (l : List UInt8) : NF (trimP l) := by rw [trimP_eq]; exact dw_front _
theorem trim_last (l : List UInt8) : NL (trimP l) := by rw [trimP_eq]; exact dw_last _ (rev_last (dw_front _))
theorem trim_around (a t q : List UInt8) (ha : ∀ b ∈ a, blk b = true) (hq : ∀ b ∈ q, blk b = true) (h1 : NF t) (h2 : NL t) : trimP (a ++ t ++ q) = t := by
  rw [trimP_eq, List.reverse_append, dw_app _ _ (fun b hb => hq b (List.mem_reverse.1 hb)), List.reverse_append]
  by_cases ht : t = []
  · subst ht
    rw [List.reverse_nil, List.nil_append, dw_all _ (fun b hb => ha b (List.mem_reverse.1 hb))]
    rfl
  · rw [dw_same (t.reverse ++ a.reverse)]
    · rw [← List.reverse_append, List.reverse_reverse, dw_app _ _ ha, dw_same _ h1]
    · intro b hb
      refine rev_front h2 b ?_
      cases h : t.reverse with
      | nil => exact absurd (List.reverse_eq_nil_iff.1 h) ht
      | cons c r => rw [h] at hb; exact hb
theorem trim_same (t : List UInt8) (h1 : NF t) (h2 : NL t) : trimP t = t := by
  have h := trim_around [] t [] (fun _ h => by cases h) (fun _ h => by cases h) h1 h2
  rwa [List.nil_append, List.append_nil] at h
theorem trim_idem (l : List UInt8) : trimP (trimP l) = trimP l := trim_same _ (trim_front l) (trim_last l)
theorem trim_xy (t : List UInt8) : trimP ([120, 32] ++ t ++ [9, 121]) = [120, 32] ++ t ++ [9, 121] := by
  refine trim_same _ (fun b h => ?_) (fun b h => ?_)
  · have e : b = 120 := by simpa using h.symm
    subst e; decide
  · rw [List.getLast?_append] at h
    have e : b = 121 := by simpa using h.symm
    subst e; decide

theorem trimT_idem (s : ByteArray) : trimT (trimT s) = trimT s := by unfold trimT; simp [trim_idem]
theorem bytes_eq {a b : ByteArray} (h : a.data.toList = b.data.toList) : a = b := by
  obtain ⟨⟨l⟩⟩ := a
  obtain ⟨⟨l'⟩⟩ := b
  simp at h
  rw [h]
/-- A text with blanks around another. -/
def Around (t : ByteArray) (n : Nat) (x : ByteArray) : Prop := ∃ a q : List UInt8, (∀ b ∈ a, blk b = true) ∧ (∀ b ∈ q, blk b = true) ∧ x.data.toList = a ++ t.data.toList ++ q ∧ x.size = t.size + n
theorem Around.refl (t : ByteArray) : Around t 0 t := ⟨[], [], (fun _ h => by cases h), (fun _ h => by cases h), by simp, rfl⟩
theorem cat_size (a b : ByteArray) : (a ++ b).size = a.size + b.size := by
  show (a ++ b).data.toList.length = a.data.toList.length + b.data.toList.length
  rw [Joins.data_append, List.length_append]
theorem Around.ahead {t x : ByteArray} {n : Nat} (h : Around t n x) (b : UInt8) (hb : blk b = true) : Around t (n + 1) ((⟨#[b]⟩ : ByteArray) ++ x) := by
  obtain ⟨a, q, ha, hq, hx, hn⟩ := h
  refine ⟨b :: a, q, fun c hc => ?_, hq, ?_, ?_⟩
  · cases hc with
    | head => exact hb
    | tail _ hc => exact ha c hc
  · rw [Joins.data_append, hx]; simp
  · rw [cat_size, hn]; show 1 + _ = _; omega
theorem Around.behind {t x : ByteArray} {n : Nat} (h : Around t n x) (b : UInt8) (hb : blk b = true) : Around t (n + 1) (x ++ (⟨#[b]⟩ : ByteArray)) := by
  obtain ⟨a, q, ha, hq, hx, hn⟩ := h
  refine ⟨a, q ++ [b], ha, fun c hc => ?_, ?_, ?_⟩
  · rcases List.mem_append.1 hc with hc | hc
    · exact hq c hc
    · rw [List.mem_singleton.1 hc]; exact hb
  · rw [Joins.data_append, hx]; simp
  · rw [cat_size, hn]; rfl
theorem Around.trim {s x : ByteArray} {n : Nat} (h : Around (trimT s) n x) : trimT x = trimT s := by
  obtain ⟨a, q, ha, hq, hx, _⟩ := h
  unfold trimT at hx ⊢
  rw [hx]
  simp only
  rw [trim_around a _ q ha hq (by simpa using trim_front _) (by simpa using trim_last _)]
theorem trimT_xy (t : ByteArray) : trimT ((⟨#[120, 32]⟩ : ByteArray) ++ t ++ (⟨#[9, 121]⟩ : ByteArray)) = (⟨#[120, 32]⟩ : ByteArray) ++ t ++ (⟨#[9, 121]⟩ : ByteArray) := by
  refine bytes_eq ?_
  unfold trimT
  rw [Joins.data_append, Joins.data_append]
  exact trim_xy t.data.toList
theorem conv1T (W : World) (x : Int) (b : UInt8) (h : (b.toNat : Int) = x) : (convert 23 9 (.slice (some ⟨W.heap.size, 0, none⟩) 1 1)).run Tryz.prog (W.alloc (.cells #[.int .u8 x] 5)) = .ok (.string ⟨#[b]⟩) (W.alloc (.cells #[.int .u8 x] 5)) := by
  have k := run_convert_bytes_back (P := Tryz.prog) (W.alloc (.cells #[.int .u8 x] 5)) 23 9 5 ⟨W.heap.size, 0, none⟩ 1 [b] Tryz.underlying23 Tryz.underlying5 Tryz.underlying9 (fun j hj => by
    obtain rfl : j = 0 := by simpa using hj
    rw [Lib.add_plain]
    exact tblk_cell (tblk_new _ _) (by simp [h]))
  exact k
end Go.Proofs.YtajfjjmabncldaaGreatDoor

/- The parts of a list, byte by byte. -/
namespace Go.Proofs.YtajfjjmabncldaaGreatDoor
open Go.RowKit
set_option linter.unusedVariables false

def cuts : List UInt8 → List UInt8 → List (List UInt8)
  | acc, [] => [acc]
  | acc, b :: l => if b = 44 then acc :: cuts [] l else cuts (acc ++ [b]) l
theorem cuts_miss : ∀ (l acc : List UInt8), Lib.index l [44] = -1 → cuts acc l = [acc ++ l]
  | [], acc, _ => by simp [cuts]
  | b :: l, acc, h => by
    rw [Lib.index] at h
    by_cases hb : b = 44
    · subst hb; simp [List.isPrefixOf] at h
    · have hp : ([44] : List UInt8).isPrefixOf (b :: l) = false := by simp [List.isPrefixOf, Ne.symm hb]
      rw [hp] at h
      have hge := Lib.index_ge l [44]
      have hm : Lib.index l [44] = -1 := by
        by_cases e : Lib.index l [44] = -1
        · exact e
        · rw [if_neg (by decide), if_neg (fun q => e (beq_iff_eq.1 q))] at h; omega
      rw [cuts, if_neg hb, cuts_miss l _ hm]; simp
theorem cuts_hit : ∀ (l acc : List UInt8) (i : Nat), Lib.index l [44] = i → cuts acc l = (acc ++ l.take i) :: cuts [] (l.drop (i + 1))
  | [], acc, i, h => by simp [Lib.index] at h
  | b :: l, acc, i, h => by
    rw [Lib.index] at h
    by_cases hb : b = 44
    · subst hb
      have : i = 0 := by simp [List.isPrefixOf] at h; omega
      subst this
      simp [cuts]
    · have hp : ([44] : List UInt8).isPrefixOf (b :: l) = false := by simp [List.isPrefixOf, Ne.symm hb]
      rw [hp, if_neg (by decide)] at h
      have hge := Lib.index_ge l [44]
      by_cases e : Lib.index l [44] = -1
      · rw [if_pos (beq_iff_eq.2 e)] at h; omega
      · rw [if_neg (fun q => e (beq_iff_eq.1 q))] at h
        obtain ⟨j, rfl⟩ : ∃ j, i = j + 1 := ⟨i - 1, by omega⟩
        rw [cuts, if_neg hb, cuts_hit l _ j (by omega)]
        simp
theorem split_cuts : ∀ (k : Nat) (s : ByteArray), Lib.countB s ⟨#[44]⟩ = k → (Lib.splitB ⟨#[44]⟩ 0 k s).map (·.data.toList) = cuts [] s.data.toList
  | 0, s, hk => by
    rcases Lib.indexB_cases s ⟨#[44]⟩ with hix | ⟨i, hix, _⟩
    · rw [cuts_miss _ _ hix]; rfl
    · have := Lib.countB_hit s ⟨#[44]⟩ i (by decide) hix; omega
  | k + 1, s, hk => by
    rcases Lib.indexB_cases s ⟨#[44]⟩ with hix | ⟨i, hix, _⟩
    · rw [Lib.countB_miss s _ hix] at hk; omega
    · rw [Lib.splitB_hit _ 0 k s i hix, List.map_cons, split_cuts k _ (by have := Lib.countB_hit s ⟨#[44]⟩ i (by decide) hix; omega), cuts_hit _ _ i hix, Lib.extract_from_zero, Lib.extract_to_end]
      rfl
theorem pieces_cuts (s : ByteArray) : (pieces s).map (·.data.toList) = cuts [] s.data.toList := split_cuts _ s rfl
theorem pieces_length (s : ByteArray) : (pieces s).length = Lib.countB s ⟨#[44]⟩ + 1 := Lib.splitB_all ⟨#[44]⟩ (by decide) 0 _ s rfl
theorem cuts_len : ∀ (l acc : List UInt8), ∀ p ∈ cuts acc l, p.length ≤ acc.length + l.length
  | [], acc, p, h => by
    rw [cuts, List.mem_singleton] at h
    rw [h]; simp
  | b :: l, acc, p, h => by
    rw [cuts] at h
    split at h
    · cases h with
      | head => simp
      | tail _ h => have := cuts_len l [] p h; simp at this ⊢; omega
    · have := cuts_len l (acc ++ [b]) p h
      simp at this ⊢; omega
theorem pieces_size (s : ByteArray) : ∀ p ∈ pieces s, p.size ≤ s.size := by
  intro p hp
  have h : p.data.toList ∈ cuts [] s.data.toList := by rw [← pieces_cuts]; exact List.mem_map.2 ⟨p, hp, rfl⟩
  have k := cuts_len _ _ _ h
  have k2 : p.size = p.data.toList.length := rfl
  have k3 : s.size = s.data.toList.length := rfl
  simp at k k2 k3
  omega
theorem map_data_inj {a b : List ByteArray} (h : a.map (·.data.toList) = b.map (·.data.toList)) : a = b := by
  induction a generalizing b with
  | nil => cases b with
    | nil => rfl
    | cons _ _ => cases h
  | cons x a ih => cases b with
    | nil => cases h
    | cons y b =>
      rw [List.map_cons, List.map_cons] at h
      injection h with h1 h2
      rw [bytes_eq h1, ih h2]

/-- How far the reference has come: the parts that it has cut, where the next begins, and where it stands. -/
def Scan (s : ByteArray) (ps : List ByteArray) (f k : Nat) : Prop := f ≤ k ∧ k ≤ s.size ∧ ps.map (·.data.toList) ++ cuts ((s.data.toList.take k).drop f) (s.data.toList.drop k) = cuts [] s.data.toList
theorem Scan.start (s : ByteArray) : Scan s [] 0 0 := ⟨Nat.le_refl _, Nat.zero_le _, by simp⟩
theorem Scan.go {s : ByteArray} {ps : List ByteArray} {f k : Nat} (h : Scan s ps f k) (hk : k < s.size) (hb : s[k] ≠ 44) : Scan s ps f (k + 1) := by
  obtain ⟨h1, _, h3⟩ := h
  have hk' : k < s.data.toList.length := hk
  refine ⟨by omega, hk, ?_⟩
  rw [List.drop_eq_getElem_cons hk', cuts, if_neg (show s.data.toList[k] ≠ 44 from hb)] at h3
  rw [← h3, List.take_succ_eq_append_getElem hk', List.drop_append_of_le_length (by rw [List.length_take]; omega)]
theorem Scan.cut {s : ByteArray} {ps : List ByteArray} {f k : Nat} (h : Scan s ps f k) (hk : k < s.size) (hb : s[k] = 44) : Scan s (ps ++ [s.extract f k]) (k + 1) (k + 1) := by
  obtain ⟨h1, _, h3⟩ := h
  have hk' : k < s.data.toList.length := hk
  refine ⟨Nat.le_refl _, hk, ?_⟩
  rw [List.drop_eq_getElem_cons hk', cuts, if_pos (show s.data.toList[k] = 44 from hb)] at h3
  have hd : List.drop (k + 1) (List.take (k + 1) s.data.toList) = [] := List.drop_eq_nil_of_le (by rw [List.length_take]; omega)
  rw [← h3, hd, List.map_append, List.map_cons, List.map_nil, Lib.extract_data, ← List.drop_take, List.append_assoc, List.singleton_append]
theorem Scan.fin {s : ByteArray} {ps : List ByteArray} {f : Nat} (h : Scan s ps f s.size) : ps ++ [s.extract f s.size] = pieces s := by
  obtain ⟨h1, _, h3⟩ := h
  have hd : List.drop s.size s.data.toList = [] := List.drop_eq_nil_of_le (Nat.le_refl _)
  rw [hd, cuts] at h3
  refine map_data_inj ?_
  rw [pieces_cuts, ← h3, List.map_append, List.map_cons, List.map_nil, Lib.extract_data, List.drop_take]
end Go.Proofs.YtajfjjmabncldaaGreatDoor

/- Get and List: what each answers of fields. -/
namespace Go.Proofs.YtajfjjmabncldaaGreatDoor
open Go.ChangeShapes Go.WideShapes Go.ChangeAt Go.RowKit
set_option linter.unusedVariables false

/-- The same text, folded. -/
def smT (a b : ByteArray) : Bool := (foldS a).toList == (foldS b).toList
def getF (fs : Fs) (n : ByteArray) : List ByteArray := (fs.filter fun f => smT f.1 n).map (·.2)
def splT (s : ByteArray) : List ByteArray := keepT (pieces s)
def splA (xs : List ByteArray) : List ByteArray := xs.flatMap splT
def listF (fs : Fs) (n : ByteArray) : List ByteArray := splA (getF fs n)
theorem getF_snoc (fs : Fs) (f : ByteArray × ByteArray) (n : ByteArray) : getF (fs ++ [f]) n = getF fs n ++ (if smT f.1 n = true then [f.2] else []) := by
  unfold getF
  rw [List.filter_append, List.map_append]
  congr 1
  cases h : smT f.1 n <;> simp [h]
theorem getF_len (fs : Fs) (n : ByteArray) : (getF fs n).length ≤ fs.length := by
  unfold getF
  rw [List.length_map]
  exact List.length_filter_le _ _
theorem getF_mem {fs : Fs} {n x : ByteArray} (h : x ∈ getF fs n) : ∃ f ∈ fs, f.2 = x := by
  unfold getF at h
  obtain ⟨f, hf, rfl⟩ := List.mem_map.1 h
  exact ⟨f, (List.mem_filter.1 hf).1, rfl⟩
/-- No text of theirs is longer than N. -/
def FBd (N : Nat) (fs : Fs) : Prop := ∀ f ∈ fs, f.1.size ≤ N ∧ f.2.size ≤ N
theorem getF_bd {N : Nat} {fs : Fs} {n : ByteArray} (h : FBd N fs) : TBd N (getF fs n) := fun x hx => by
  obtain ⟨f, hf, rfl⟩ := getF_mem hx
  exact (h f hf).2
theorem same_sm (a b : ByteArray) (w : World) (ha : a.size ≤ maxLen) (hb : b.size ≤ maxLen) :
    Calls Tryz.prog 107 #[.string a, .string b] w fun e w' => e = .returned (.bool (smT a b)) ∧ Below w.heap.size w w' := same_any a b w ha hb

set_option maxRecDepth 100000 in
set_option maxHeartbeats 1000000 in
theorem get_any (fs : Fs) (a : Option Addr) (c : Nat) (name : ByteArray) (w : World) (hf : Fds w.heap.size w (.slice a fs.length c) fs) (hb : FBd 140737488355328 fs) (hn : name.size ≤ 140737488355328) (hl : fs.length ≤ 16777216) :
    Calls Tryz.prog 67 #[.slice a fs.length c, .string name] w fun e w' => ∃ ao cv, e = .returned (.slice ao (getF fs name).length cv) ∧ OwnT w.heap.size w' (.slice ao (getF fs name).length cv) (getF fs name) ∧ Below w.heap.size w w' := by
  have hlm := hf.len
  unfold maxLen at hlm
  have HN : Hid (name.size ≤ maxLen) := by rw [Hid]; unfold maxLen; omega
  rcases Nat.eq_zero_or_pos fs.length with h0 | hp
  · have he : fs = [] := List.eq_nil_of_length_eq_zero h0
    subst he
    clear hf hb hn hl h0 hlm HN
    go_enter Tryz.func67, Tryz.ntmps67
    go_wp2_with fail
    refine wp_loop_rounds 1 ?_
    rw [rounds_succ]
    go_wp2
    go_ret
    exact ⟨none, 0, rfl, OwnT.nil _ _, Below.refl _ _⟩
  · obtain ⟨a', c', e, hnil, h1, h2, h3⟩ := hf
    obtain ⟨rfl, _, rfl⟩ := slice_inj e
    obtain ⟨g, off, rfl, hg, hc⟩ := h3 hp
    have HC : Hid (∀ (j : Nat) (hj : j < fs.length), w.cell? ⟨g, off + j * 2, none⟩ = some (.string fs[j].1) ∧ w.cell? ⟨g, off + j * 2 + 1, none⟩ = some (.string fs[j].2)) := hc
    have HBD : Hid (FBd 140737488355328 fs) := hb
    clear e hnil h1 h2 h3 hn hlm hc hb
    go_enter Tryz.func67, Tryz.ntmps67
    go_wp2_with fail
    go_loopw [5, 10] (fun v vi wr => ∃ (k : Nat) (ao : Option Addr) (cv : Nat), k ≤ fs.length ∧ vi = .int .i64 k ∧ v = .slice ao (getF (fs.take k) name).length cv ∧ OwnT w.heap.size wr v (getF (fs.take k) name) ∧ Below w.heap.size w wr) (fun _ vi _ => fs.length - (intOf vi).toNat)
    case atStart => exact ⟨0, none, 0, Nat.zero_le _, rfl, rfl, OwnT.nil _ _, Below.refl _ _⟩
    case round =>
      obtain ⟨k, ao, cv, hk, rfl, rfl, hown, hB⟩ := hrel
      by_cases hlt : k < fs.length
      · have hc1 := (hB.cell (p := ⟨g, off + k * 2, none⟩) hg).trans (HC.out k hlt).1
        have hc2 := (hB.cell (p := ⟨g, off + k * 2 + 1, none⟩) hg).trans (HC.out k hlt).2
        have hsz := HBD.out fs[k] (List.getElem_mem hlt)
        have hsn : Hid (getF (fs.take (k + 1)) name = getF (fs.take k) name ++ (if smT fs[k].1 name = true then [fs[k].2] else [])) := by
          rw [Hid, List.take_succ_eq_append_getElem hlt, getF_snoc]
        have hkl : (getF (fs.take k) name).length ≤ k := Nat.le_trans (getF_len _ _) (List.length_take_le _ _)
        generalize fs[k] = f at *
        obtain ⟨fn, fv⟩ := f
        simp only at hc1 hc2 hsz hsn
        have hs1 : Hid (fn.size ≤ maxLen) := by rw [Hid]; unfold maxLen; omega
        have hs2 : Hid (fv.size ≤ 281474976710656) := by rw [Hid]; omega
        have HS : Hid (∀ W, Calls Tryz.prog 107 #[.string fn, .string name] W fun e w' => e = .returned (.bool (smT fn name)) ∧ Below W.heap.size W w') := fun W => same_sm fn name W hs1.out HN.out
        generalize smT fn name = b at *
        have HO : Hid (OwnT w.heap.size wr (.slice ao (getF (fs.take k) name).length cv) (getF (fs.take k) name)) := hown
        have HKL : Hid ((getF (fs.take k) name).length ≤ 16777216) := by rw [Hid]; omega
        clear hsz hown hkl
        generalize getF (fs.take k) name = K at *
        go_wp2_with fail
        refine (HS.out _).mono ?_
        rintro e w2 ⟨rfl, B2⟩
        have g2 : w2.heap[wr.heap.size]? = some (.cells #[.string fn, .string fv] 34) := tblk_below (tblk_new _ _) B2
        have C2 : Below wr.heap.size wr w2 := ((Below.refl _ _).alloc (Nat.le_refl _) _).trans (B2.mono (by simp))
        have own2 := HO.out.keep C2
        have hB2 := hB.trans (C2.mono hB.size)
        have c1 : w2.cell? ⟨wr.heap.size, 1, none⟩ = some (.string fv) := tblk_cell g2 rfl
        clear g2 B2 C2 hB HO hc1 hc2 HS
        cases b
        · have hsn2 : Hid (getF (fs.take (k + 1)) name = K) := by rw [Hid, hsn.out, if_neg (by decide), List.append_nil]
          clear hsn
          go_wp2
          go_roundw
          case rel => exact ⟨k + 1, ao, cv, by omega, by go_num, by rw [hsn2.out], by rw [hsn2.out]; exact own2, hB2⟩
          case measure => simp [intOf]; omega
        · have hsn2 : Hid (getF (fs.take (k + 1)) name = K ++ [fv]) := by rw [Hid, hsn.out, if_pos rfl]
          clear hsn
          go_wp2_with fail
          refine (clone_any fv _ hs2.out).mono ?_
          rintro e w3 ⟨rfl, B3⟩
          have own3 := (own2.keep B3).keep ((Below.refl _ _).alloc (Nat.le_refl _) (.cells #[.string fv] 9))
          have hB3 := hB2.trans (B3.mono hB2.size)
          obtain ⟨v4, w4, r4, own4, B4⟩ := ownT_append own3 (one_txs w3 fv _ (Nat.lt_succ_self _)) (by have := HKL.out; simp; omega) (by have := hB3.size; simp; omega)
          have hB4 : Below w.heap.size w w4 := (hB3.alloc hB3.size _).trans B4
          obtain ⟨a4, c4, rfl, _⟩ := own4.form
          have HO4 : Hid (OwnT w.heap.size w4 (.slice a4 (K ++ [fv]).length c4) (K ++ [fv])) := own4
          have HR : Hid ((Builtin.append_ #[28, 28] 28 #[.slice ao K.length cv, .slice (some ⟨w3.heap.size, 0, none⟩) 1 1]).run Tryz.prog (w3.alloc (.cells #[.string fv] 9)) = .ok (.slice a4 (K ++ [fv]).length c4) w4) := r4
          clear own2 own3 own4 B3 B4 hB2 hB3 r4 c1
          have HL : Hid ((K ++ [fv]).length = (getF (fs.take (k + 1)) name).length) := by rw [Hid, hsn2.out]
          generalize (K ++ [fv]).length = L at *
          go_wp2_with (at_builtin; refine wpList_append_run2 rfl _ _ 28 28 rfl _ _ _ w4 rfl rfl HR.out ?_)
          go_roundw
          case rel => exact ⟨k + 1, a4, c4, by omega, by go_num, by rw [HL.out], by rw [hsn2.out]; exact HO4.out, hB4⟩
          case measure => simp [intOf]; omega
      · go_wp2
        go_ret
        have hk' : k = fs.length := by omega
        subst hk'
        rw [List.take_length] at *
        exact ⟨ao, cv, rfl, hown, hB⟩
end Go.Proofs.YtajfjjmabncldaaGreatDoor

/- Plain lemmas on the numbers that texts of digits are. -/
namespace Go.Proofs.YtajfjjmabncldaaGreatDoor
open Go.RowKit
set_option linter.unusedVariables false

/-- What a byte counts; 16 of a byte that is no digit. -/
def dgI (c : Int) : Int := if 48 ≤ c ∧ c ≤ 57 then c - 48 else if 97 ≤ c ∧ c ≤ 102 then c - 87 else if 65 ≤ c ∧ c ≤ 70 then c - 55 else 16
def dgN (b : UInt8) : Nat := (dgI (b.toNat : Int)).toNat
theorem dgI_bd (c : Int) : 0 ≤ dgI c ∧ dgI c ≤ 16 := by unfold dgI; split <;> (try split) <;> (try split) <;> omega
theorem dgN_cast (b : UInt8) : ((dgN b : Nat) : Int) = dgI (b.toNat : Int) := by unfold dgN; have := dgI_bd (b.toNat : Int); omega
theorem dgN_le (b : UInt8) : dgN b ≤ 16 := by have := dgN_cast b; have := dgI_bd (b.toNat : Int); omega

/-- The number of a text of digits of a base, if all are. -/
def stepV (base : Nat) (o : Option Nat) (b : UInt8) : Option Nat := o.bind fun n => if dgN b < base then some (n * base + dgN b) else none
def vN (base : Nat) (l : List UInt8) : Option Nat := l.foldl (stepV base) (some 0)
theorem vN_snoc (base : Nat) (l : List UInt8) (b : UInt8) : vN base (l ++ [b]) = stepV base (vN base l) b := by
  unfold vN; rw [List.foldl_append]; rfl
theorem fold_none (base : Nat) : ∀ l : List UInt8, l.foldl (stepV base) none = none
  | [] => rfl
  | b :: l => by rw [List.foldl_cons]; exact fold_none base l
theorem vN_bad (base : Nat) (l l' : List UInt8) (b : UInt8) (h : ¬ dgN b < base) : vN base (l ++ b :: l') = none := by
  unfold vN
  rw [List.foldl_append, List.foldl_cons]
  have e : stepV base (l.foldl (stepV base) (some 0)) b = none := by
    cases l.foldl (stepV base) (some 0) with
    | none => rfl
    | some n => simp [stepV, h]
  rw [e, fold_none]
theorem drop_at (s : ByteArray) (k : Nat) (h : k < s.size) : s.data.toList = s.data.toList.take k ++ s[k] :: s.data.toList.drop (k + 1) := by
  have e : s[k] :: s.data.toList.drop (k + 1) = s.data.toList.drop k := (List.drop_eq_getElem_cons (by simpa using h)).symm
  rw [e, List.take_append_drop]
theorem vN_bad_at (base : Nat) (s : ByteArray) (k : Nat) (h : k < s.size) (hb : ¬ dgN s[k] < base) : vN base s.data.toList = none := by
  rw [drop_at s k h]; exact vN_bad base _ _ _ hb
theorem vN_next (base : Nat) (s : ByteArray) (k : Nat) (h : k < s.size) (n : Nat) (hv : vN base (s.data.toList.take k) = some n) (hb : dgN s[k] < base) : vN base (s.data.toList.take (k + 1)) = some (n * base + dgN s[k]) := by
  rw [take_snoc s k h, vN_snoc, hv]; simp [stepV, hb]
theorem fold_lt (base : Nat) : ∀ (l : List UInt8) (a n : Nat), l.foldl (stepV base) (some a) = some n → n < (a + 1) * base ^ l.length
  | [], a, n, h => by simp at h; simp; omega
  | b :: l, a, n, h => by
    rw [List.foldl_cons] at h
    by_cases hd : dgN b < base
    · have e : stepV base (some a) b = some (a * base + dgN b) := by simp [stepV, hd]
      rw [e] at h
      have k := fold_lt base l _ n h
      rw [List.length_cons, Nat.pow_succ]
      refine Nat.lt_of_lt_of_le k ?_
      have e2 : (a + 1) * (base ^ l.length * base) = ((a + 1) * base) * base ^ l.length := by rw [Nat.mul_comm (base ^ l.length) base, Nat.mul_assoc]
      rw [e2]
      refine Nat.mul_le_mul_right _ ?_
      rw [Nat.add_mul, Nat.one_mul]
      omega
    · have e : stepV base (some a) b = none := by simp [stepV, hd]
      rw [e, fold_none] at h
      cases h
theorem vN_lt (base : Nat) (l : List UInt8) (n : Nat) (h : vN base l = some n) : n < base ^ l.length := by
  have k := fold_lt base l 0 n h
  simpa using k
theorem vN_take_lt (base most : Nat) (hb : 1 ≤ base) (s : ByteArray) (k : Nat) (hk : k ≤ most) (n : Nat) (hv : vN base (s.data.toList.take k) = some n) : n < base ^ most := by
  refine Nat.lt_of_lt_of_le (vN_lt base _ n hv) (Nat.pow_le_pow_right hb ?_)
  exact Nat.le_trans (List.length_take_le _ _) hk

/-- The number of a text of 1 to most digits, if it is one. -/
def numV (base most : Nat) (s : ByteArray) : Option Nat := if s.size = 0 ∨ most < s.size then none else vN base s.data.toList
def numI (base most : Nat) (s : ByteArray) : Int := ((numV base most s).getD 0 : Nat)
def numB (base most : Nat) (s : ByteArray) : Bool := (numV base most s).isSome
theorem num_out {base most : Nat} {s : ByteArray} (h : s.size = 0 ∨ most < s.size) : numI base most s = 0 ∧ numB base most s = false := by
  unfold numI numB numV; rw [if_pos h]; exact ⟨rfl, rfl⟩
theorem num_bad {base most : Nat} {s : ByteArray} (h : vN base s.data.toList = none) : numI base most s = 0 ∧ numB base most s = false := by
  unfold numI numB numV; rw [h]; split <;> exact ⟨rfl, rfl⟩
theorem num_ok {base most : Nat} {s : ByteArray} {n : Nat} (h : ¬ (s.size = 0 ∨ most < s.size)) (hv : vN base s.data.toList = some n) : numI base most s = n ∧ numB base most s = true := by
  unfold numI numB numV; rw [if_neg h, hv]; exact ⟨rfl, rfl⟩
theorem ret2_ib {x y : Int} {a b : Bool} (h : x = y) (k : a = b) : Ending.returned (.tuple #[.int .i64 x, .bool a]) = .returned (.tuple #[.int .i64 y, .bool b]) := by rw [h, k]
end Go.Proofs.YtajfjjmabncldaaGreatDoor

/- How long a body is, as plain functions of the fields. -/
namespace Go.Proofs.YtajfjjmabncldaaGreatDoor
open Go.RowKit
set_option linter.unusedVariables false

def anyT (xs : List ByteArray) (s : ByteArray) : Bool := xs.any fun x => smT x s
def hasF (fs : Fs) (n p : ByteArray) : Bool := anyT (listF fs n) p
def tCL : ByteArray := ⟨#[67, 111, 110, 116, 101, 110, 116, 45, 76, 101, 110, 103, 116, 104]⟩
def tTE : ByteArray := ⟨#[84, 114, 97, 110, 115, 102, 101, 114, 45, 69, 110, 99, 111, 100, 105, 110, 103]⟩
def tCo : ByteArray := ⟨#[67, 111, 110, 110, 101, 99, 116, 105, 111, 110]⟩
def tCh : ByteArray := ⟨#[99, 104, 117, 110, 107, 101, 100]⟩
def tClose : ByteArray := ⟨#[99, 108, 111, 115, 101]⟩
def tKeep : ByteArray := ⟨#[107, 101, 101, 112, 45, 97, 108, 105, 118, 101]⟩
def thereF (fs : Fs) (n : ByteArray) : Bool := decide (0 < (getF fs n).length)
def chunkL (xs : List ByteArray) : Bool := match xs with | [p] => smT p tCh | _ => false
def chunkedF (fs : Fs) : Bool := chunkL (listF fs tTE)
def sameN (first : Int) (ps : List ByteArray) : Bool := ps.all fun q => numB 10 18 q && decide (numI 10 18 q = first)
def lenL (ps : List ByteArray) : Int × Bool := match ps with | [] => (0, false) | p :: r => if (numB 10 18 p && sameN (numI 10 18 p) r) = true then (numI 10 18 p, true) else (0, false)
def lengthF (fs : Fs) : Int × Bool := lenL (listF fs tCL)
def toldF (fs : Fs) (minor : Int) : Int × Int × Int :=
  if (thereF fs tTE && (thereF fs tCL || decide (minor = 0))) = true then (0, 0, 400)
  else if thereF fs tTE = true then (if chunkedF fs = true then (2, 0, 0) else (0, 0, 501))
  else if thereF fs tCL = false then (3, 0, 0)
  else if (lengthF fs).2 = false then (0, 0, 400)
  else if 4096 < (lengthF fs).1 then (0, 0, 413) else (1, (lengthF fs).1, 0)
def closesF (fs : Fs) (minor : Int) : Bool := hasF fs tCo tClose || (decide (minor = 0) && !hasF fs tCo tKeep)
def bareF (method : ByteArray) (code : Int) : Bool := decide (method = ⟨#[72, 69, 65, 68]⟩) || decide (code < 200) || decide (code = 204) || decide (code = 304)
def reqF (fs : Fs) (minor : Int) : Int × Bool × Int := ((toldF fs minor).2.1, decide ((toldF fs minor).1 = 2), (toldF fs minor).2.2)
def respF (method : ByteArray) (code minor : Int) (fs : Fs) : Int × Int × Bool := if bareF method code = true then (0, 0, true) else ((toldF fs minor).1, (toldF fs minor).2.1, decide ((toldF fs minor).2.2 = 0))

theorem smT_congr {n n' : ByteArray} (h : foldS n = foldS n') (a : ByteArray) : smT a n = smT a n' := by unfold smT; rw [h]
theorem getF_congr {n n' : ByteArray} (h : foldS n = foldS n') (fs : Fs) : getF fs n = getF fs n' := by
  unfold getF
  rw [funext fun f : ByteArray × ByteArray => smT_congr h f.1]
theorem listF_congr {n n' : ByteArray} (h : foldS n = foldS n') (fs : Fs) : listF fs n = listF fs n' := by unfold listF; rw [getF_congr h]
theorem numI_bd (s : ByteArray) : 0 ≤ numI 10 18 s ∧ numI 10 18 s < 1000000000000000000 := by
  unfold numI numV
  split
  · exact ⟨by decide, by decide⟩
  · rename_i h
    cases hv : vN 10 s.data.toList with
    | none => exact ⟨by decide, by decide⟩
    | some n =>
      have k := vN_take_lt 10 18 (by decide) s s.size (by omega) n (by rw [List.take_of_length_le (show s.data.toList.length ≤ s.size from Nat.le_refl _)]; exact hv)
      show 0 ≤ (n : Int) ∧ (n : Int) < _
      have e : (10 : Nat) ^ 18 = 1000000000000000000 := by decide
      omega
theorem lenL_bd (ps : List ByteArray) : 0 ≤ (lenL ps).1 ∧ (lenL ps).1 < 1000000000000000000 := by
  unfold lenL
  split
  · exact ⟨by decide, by decide⟩
  · split
    · exact numI_bd _
    · exact ⟨by decide, by decide⟩
theorem listF_mem {fs : Fs} {n x : ByteArray} (h : x ∈ listF fs n) : ∃ y ∈ getF fs n, x ∈ splT y := by
  unfold listF splA at h
  exact List.mem_flatMap.1 h
end Go.Proofs.YtajfjjmabncldaaGreatDoor

/- List, among and Has: what each answers of fields. -/
namespace Go.Proofs.YtajfjjmabncldaaGreatDoor
open Go.ChangeShapes Go.WideShapes Go.ChangeAt Go.RowKit
set_option linter.unusedVariables false

theorem splT_len (s : ByteArray) : (splT s).length ≤ s.size + 2 := Nat.le_trans (keepT_len _) (pieces_len s)
theorem splA_snoc (xs : List ByteArray) (x : ByteArray) : splA (xs ++ [x]) = splA xs ++ splT x := by unfold splA; rw [List.flatMap_append]; simp
theorem splA_len (N : Nat) : ∀ xs : List ByteArray, TBd N xs → (splA xs).length ≤ xs.length * (N + 2)
  | [], _ => by simp [splA]
  | x :: l, h => by
    have ih := splA_len N l (fun y hy => h y (List.mem_cons_of_mem _ hy))
    have h1 := h x (List.mem_cons_self ..)
    have h2 := splT_len x
    have e : splA (x :: l) = splT x ++ splA l := rfl
    rw [e, List.length_append, List.length_cons, Nat.add_mul]
    omega
theorem splA_take (xs : List ByteArray) (k : Nat) : (splA (xs.take k)).length ≤ (splA xs).length := by
  have e : splA xs = splA (xs.take k) ++ splA (xs.drop k) := by
    unfold splA
    rw [← List.flatMap_append, List.take_append_drop]
  rw [e, List.length_append]; omega
theorem trimP_mem {N : Nat} {p : ByteArray} (h : p.size ≤ N) : (trimT p).size ≤ N := Nat.le_trans (trimT_size p) h
theorem splT_bd {N : Nat} {s : ByteArray} (h : s.size ≤ N) : TBd N (splT s) := by
  intro x hx
  unfold splT keepT at hx
  obtain ⟨p, hp, rfl⟩ := List.mem_map.1 (List.mem_filter.1 hx).1
  exact trimP_mem (Nat.le_trans (pieces_size s p hp) h)
theorem listF_bd {N : Nat} {fs : Fs} {n : ByteArray} (h : FBd N fs) : TBd N (listF fs n) := by
  intro x hx
  obtain ⟨y, hy, hxy⟩ := listF_mem hx
  exact splT_bd (getF_bd h y hy) x hxy
theorem listF_len {N M : Nat} {fs : Fs} {n : ByteArray} (h : FBd N fs) (hl : fs.length ≤ M) : (listF fs n).length ≤ M * (N + 2) :=
  Nat.le_trans (splA_len N _ (getF_bd h)) (Nat.mul_le_mul_right _ (Nat.le_trans (getF_len fs n) hl))
theorem FBd.mono {N M : Nat} {fs : Fs} (h : FBd N fs) (k : N ≤ M) : FBd M fs := fun f hf => ⟨Nat.le_trans (h f hf).1 k, Nat.le_trans (h f hf).2 k⟩

set_option maxRecDepth 100000 in
set_option maxHeartbeats 1000000 in
theorem list_any (fs : Fs) (a : Option Addr) (c : Nat) (name : ByteArray) (w : World) (hf : Fds w.heap.size w (.slice a fs.length c) fs) (hb : FBd 1048576 fs) (hn : name.size ≤ 1048576) (hl : fs.length ≤ 1024) (hM : MaxL w) :
    Calls Tryz.prog 74 #[.slice a fs.length c, .string name] w fun e w' => ∃ ao cv, e = .returned (.slice ao (listF fs name).length cv) ∧ OwnT w.heap.size w' (.slice ao (listF fs name).length cv) (listF fs name) ∧ Below w.heap.size w w' := by
  have HG : Hid (Calls Tryz.prog 67 #[.slice a fs.length c, .string name] w fun e w' => ∃ ao cv, e = .returned (.slice ao (getF fs name).length cv) ∧ OwnT w.heap.size w' (.slice ao (getF fs name).length cv) (getF fs name) ∧ Below w.heap.size w w') := get_any fs a c name w hf (hb.mono (by decide)) (by omega) (by omega)
  have HT : Hid ((splA (getF fs name)).length ≤ 1024 * 1048578) := listF_len hb hl
  have HV : Hid (TBd 1048576 (getF fs name)) := getF_bd hb
  have HVL : Hid ((getF fs name).length ≤ 1024) := Nat.le_trans (getF_len _ _) hl
  have e0 : listF fs name = splA (getF fs name) := rfl
  rw [e0]
  clear e0 hf hb hn hl
  generalize getF fs name = vs at *
  go_enter Tryz.func74, Tryz.ntmps74
  go_wp2_with fail
  refine HG.out.mono ?_
  rintro e w1 ⟨ao1, cv1, rfl, own1, B1⟩
  have M1 := hM.below B1
  have T1 := own1.txs
  clear HG hM own1
  rcases Nat.eq_zero_or_pos vs.length with h0 | hp
  · have he : vs = [] := List.eq_nil_of_length_eq_zero h0
    subst he
    clear T1 h0
    go_wp2_with fail
    refine wp_loop_rounds 1 ?_
    rw [rounds_succ]
    go_wp2
    go_ret
    exact ⟨none, 0, rfl, OwnT.nil _ _, B1⟩
  · obtain ⟨a', c', e, hnil, h1, h2, h3⟩ := T1
    obtain ⟨rfl, _, rfl⟩ := slice_inj e
    obtain ⟨g, off, rfl, hg, hc⟩ := h3 hp
    have HC : Hid (∀ (j : Nat) (hj : j < vs.length), w1.cell? ⟨g, off + j, none⟩ = some (.string vs[j])) := hc
    clear e hnil h1 h2 h3 hc
    have hvl := HVL.out
    go_wp2_with fail
    go_loopw [5, 12] (fun v vi wr => ∃ (k : Nat) (ao : Option Addr) (cv : Nat), k ≤ vs.length ∧ vi = .int .i64 k ∧ v = .slice ao (splA (vs.take k)).length cv ∧ OwnT w1.heap.size wr v (splA (vs.take k)) ∧ Below w1.heap.size w1 wr) (fun _ vi _ => vs.length - (intOf vi).toNat)
    case atStart => exact ⟨0, none, 0, Nat.zero_le _, rfl, rfl, OwnT.nil _ _, Below.refl _ _⟩
    case round =>
      obtain ⟨k, ao, cv, hk, rfl, rfl, hown, hB⟩ := hrel
      by_cases hlt : k < vs.length
      · have hc1 := (hB.cell (p := ⟨g, off + k, none⟩) hg).trans (HC.out k hlt)
        have hsz : Hid (vs[k].size ≤ 1048576) := HV.out vs[k] (List.getElem_mem hlt)
        have hsn : Hid (splA (vs.take (k + 1)) = splA (vs.take k) ++ splT vs[k]) := by
          rw [Hid, List.take_succ_eq_append_getElem hlt, splA_snoc]
        have hkl : Hid ((splA (vs.take (k + 1))).length ≤ 1024 * 1048578) := Nat.le_trans (splA_take vs (k + 1)) HT.out
        generalize vs[k] = x at *
        have HO : Hid (OwnT w1.heap.size wr (.slice ao (splA (vs.take k)).length cv) (splA (vs.take k))) := hown
        clear hown
        generalize splA (vs.take k) = K at *
        go_wp2_with fail
        refine (split_any x _ (by have := hsz.out; omega) (pieces_length x) (fun p hp => by have := hsz.out; have := pieces_size x p hp; omega) (M1.below hB)).mono ?_
        rintro e w2 ⟨ao2, cv2, rfl, own2, B2⟩
        have own2' : OwnT (wr.heap.size + 1) w2 (.slice ao2 (splT x).length cv2) (splT x) := own2
        have ownK := HO.out.keep B2
        have hB2 := hB.trans (B2.mono hB.size)
        obtain ⟨v4, w4, r4, own4, B4⟩ := ownT_append ownK own2'.txs (by have := hkl.out; rw [hsn.out, List.length_append] at this; omega) hB2.size
        have hB4 : Below w1.heap.size w1 w4 := hB2.trans B4
        obtain ⟨a4, c4, rfl, _⟩ := own4.form
        have HO4 : Hid (OwnT w1.heap.size w4 (.slice a4 (K ++ splT x).length c4) (K ++ splT x)) := own4
        have HR : Hid ((Builtin.append_ #[28, 28] 28 #[.slice ao K.length cv, .slice ao2 (keepT (pieces x)).length cv2]).run Tryz.prog w2 = .ok (.slice a4 (K ++ splT x).length c4) w4) := r4
        clear own2 own2' ownK own4 B2 B4 hB2 hB r4 hc1 HO
        have HL : Hid ((K ++ splT x).length = (splA (vs.take (k + 1))).length) := by rw [Hid, hsn.out]
        generalize (K ++ splT x).length = L at *
        generalize (keepT (pieces x)).length = L2 at *
        go_wp2_with (at_builtin; refine wpList_append_run2 rfl _ _ 28 28 rfl _ _ _ w4 rfl rfl HR.out ?_)
        go_roundw
        case rel => exact ⟨k + 1, a4, c4, by omega, by go_num, by rw [HL.out], by rw [hsn.out]; exact HO4.out, hB4⟩
        case measure => simp [intOf]; omega
      · go_wp2
        go_ret
        have hk' : k = vs.length := by omega
        subst hk'
        rw [List.take_length] at *
        exact ⟨ao, cv, rfl, hown.mono B1.size, B1.trans (hB.mono B1.size)⟩

/-- among's closure. -/
theorem among1_any (x s : ByteArray) (p : Nat) (w : World) (h1 : w.heap[p]? = some (.cells #[.string s] 9)) (hx : x.size ≤ maxLen) (hs : s.size ≤ maxLen) :
    Calls Tryz.prog 152 #[.string x, .pointer (some ⟨p, 0, none⟩)] w fun e w' => e = .returned (.bool (smT x s)) ∧ Below w.heap.size w w' := by
  have c1 : w.cell? ⟨p, 0, none⟩ = some (.string s) := tblk_cell h1 rfl
  have HS : Hid (Calls Tryz.prog 107 #[.string x, .string s] w fun e w' => e = .returned (.bool (smT x s)) ∧ Below w.heap.size w w') := same_sm x s w hx hs
  clear h1 hx hs
  go_enter Tryz.func152, Tryz.ntmps152
  go_wp2_with fail
  refine HS.out.mono ?_
  rintro e w2 ⟨rfl, B2⟩
  go_wp2
  go_ret
  exact ⟨rfl, B2⟩
theorem anyT_at {xs : List ByteArray} {s : ByteArray} (k : Nat) (h : k < xs.length) (hs : smT xs[k] s = true) : anyT xs s = true := by
  unfold anyT
  rw [List.any_eq_true]
  exact ⟨xs[k], List.getElem_mem h, hs⟩
theorem anyT_snoc {xs : List ByteArray} {s : ByteArray} {k : Nat} (h : k < xs.length) (h0 : anyT (xs.take k) s = false) (hs : smT xs[k] s = false) : anyT (xs.take (k + 1)) s = false := by
  rw [List.take_succ_eq_append_getElem h]
  unfold anyT at *
  rw [List.any_append, h0]
  simp [hs]

set_option maxRecDepth 100000 in
set_option maxHeartbeats 1000000 in
theorem idx_any (xs : List ByteArray) (a : Option Addr) (c : Nat) (s : ByteArray) (p : Nat) (w : World) (hx : Txs w.heap.size w (.slice a xs.length c) xs) (hb : TBd 140737488355328 xs) (hs : s.size ≤ 140737488355328) (h1 : w.heap[p]? = some (.cells #[.string s] 9)) :
    Calls Tryz.prog 131 #[.slice a xs.length c, .func (.func 152) #[] #[.pointer (some ⟨p, 0, none⟩)]] w fun e w' => ∃ i : Int, e = .returned (.int .i64 i) ∧ -1 ≤ i ∧ (decide (0 ≤ i) = anyT xs s) ∧ Below w.heap.size w w' := by
  have hlm := hx.len
  unfold maxLen at hlm
  have HS : Hid (s.size ≤ maxLen) := by rw [Hid]; unfold maxLen; omega
  rcases Nat.eq_zero_or_pos xs.length with h0 | hp
  · have he : xs = [] := List.eq_nil_of_length_eq_zero h0
    subst he
    clear hx hb h0 hlm HS hs
    go_enter Tryz.func131, Tryz.ntmps131
    go_wp2_with fail
    refine wp_loop_rounds 1 ?_
    rw [rounds_succ]
    go_wp2
    go_ret
    exact ⟨-1, rfl, Int.le_refl _, rfl, Below.refl _ _⟩
  · obtain ⟨a', c', e, hnil, q1, q2, q3⟩ := hx
    obtain ⟨rfl, _, rfl⟩ := slice_inj e
    obtain ⟨g, off, rfl, hg, hc⟩ := q3 hp
    have HC : Hid (∀ (j : Nat) (hj : j < xs.length), w.cell? ⟨g, off + j, none⟩ = some (.string xs[j])) := hc
    have HBD : Hid (TBd 140737488355328 xs) := hb
    have H1 : Hid (w.heap[p]? = some (.cells #[.string s] 9)) := h1
    have hln : xs.length ≤ 9223372036854775807 := by omega
    clear e hnil q1 q2 q3 hlm hc hb hs h1
    go_enter Tryz.func131, Tryz.ntmps131
    go_wp2_with fail
    go_loopw [8] (fun vi wr => ∃ k : Nat, k ≤ xs.length ∧ vi = .int .i64 k ∧ Hid (anyT (xs.take k) s = false) ∧ Below w.heap.size w wr) (fun vi _ => xs.length - (intOf vi).toNat)
    case atStart => exact ⟨0, Nat.zero_le _, rfl, rfl, Below.refl _ _⟩
    case round =>
      obtain ⟨k, hk, rfl, hA, hB⟩ := hrel
      by_cases hlt : k < xs.length
      · have hc1 := (hB.cell (p := ⟨g, off + k, none⟩) hg).trans (HC.out k hlt)
        have hsz := HBD.out xs[k] (List.getElem_mem hlt)
        have hs1 : Hid (xs[k].size ≤ maxLen) := by rw [Hid]; unfold maxLen; omega
        have HA : Hid (∀ W, W.heap[p]? = some (.cells #[.string s] 9) → Calls Tryz.prog 152 #[.string xs[k], .pointer (some ⟨p, 0, none⟩)] W fun e w' => e = .returned (.bool (smT xs[k] s)) ∧ Below W.heap.size W w') := fun W hW => among1_any _ s p W hW hs1.out HS.out
        have hY : Hid (smT xs[k] s = true → anyT xs s = true) := fun q => anyT_at k hlt q
        have hN : Hid (smT xs[k] s = false → anyT (xs.take (k + 1)) s = false) := fun q => anyT_snoc hlt hA.out q
        have hpw : Hid (wr.heap[p]? = some (.cells #[.string s] 9)) := (hB.block p (heap_lt H1.out)).trans H1.out
        generalize smT xs[k] s = b at *
        clear hsz hs1
        generalize xs[k] = x at *
        go_wp2_with fail
        refine (HA.out _ hpw.out).mono ?_
        rintro e w2 ⟨rfl, B2⟩
        have hB2 := hB.trans (B2.mono hB.size)
        clear HA hpw hB B2 hc1
        cases b
        · have hN2 : Hid (anyT (xs.take (k + 1)) s = false) := hN.out rfl
          clear hN hY
          go_wp2
          go_roundw
          case rel => exact ⟨k + 1, by omega, by go_num, hN2, hB2⟩
          case measure => simp [intOf]; omega
        · have hY2 : Hid (anyT xs s = true) := hY.out rfl
          clear hN hY
          go_wp2
          go_ret
          exact ⟨k, rfl, by omega, by rw [hY2.out]; simp, hB2⟩
      · go_wp2
        go_ret
        have hk' : k = xs.length := by omega
        subst hk'
        have h := hA.out
        rw [List.take_length] at h
        exact ⟨-1, rfl, Int.le_refl _, by rw [h]; rfl, hB⟩

set_option maxHeartbeats 1000000 in
theorem cont_any (xs : List ByteArray) (a : Option Addr) (c : Nat) (s : ByteArray) (p : Nat) (w : World) (hx : Txs w.heap.size w (.slice a xs.length c) xs) (hb : TBd 140737488355328 xs) (hs : s.size ≤ 140737488355328) (h1 : w.heap[p]? = some (.cells #[.string s] 9)) :
    Calls Tryz.prog 97 #[.slice a xs.length c, .func (.func 152) #[] #[.pointer (some ⟨p, 0, none⟩)]] w fun e w' => e = .returned (.bool (anyT xs s)) ∧ Below w.heap.size w w' := by
  have HI : Hid (Calls Tryz.prog 131 #[.slice a xs.length c, .func (.func 152) #[] #[.pointer (some ⟨p, 0, none⟩)]] w fun e w' => ∃ i : Int, e = .returned (.int .i64 i) ∧ -1 ≤ i ∧ (decide (0 ≤ i) = anyT xs s) ∧ Below w.heap.size w w') := idx_any xs a c s p w hx hb hs h1
  clear hx hb hs h1
  generalize anyT xs s = t at *
  go_enter Tryz.func97, Tryz.ntmps97
  go_wp2_with fail
  refine HI.out.mono ?_
  rintro e w2 ⟨i, rfl, hi, hd, B2⟩
  have HD : Hid (decide (0 ≤ i) = t) := hd
  clear hd HI
  go_wp2
  go_ret
  exact ⟨ret_bool HD.out, B2⟩

set_option maxHeartbeats 1000000 in
theorem amongT_any (s : ByteArray) (xs : List ByteArray) (a : Option Addr) (c : Nat) (w : World) (hx : Txs w.heap.size w (.slice a xs.length c) xs) (hb : TBd 140737488355328 xs) (hs : s.size ≤ 140737488355328) :
    Calls Tryz.prog 115 #[.string s, .slice a xs.length c] w fun e w' => e = .returned (.bool (anyT xs s)) ∧ Below w.heap.size w w' := by
  have hmf : ∀ (fn : Fn) (first cap : Array Value) (w : World), (Instr.makeFunc fn first cap).run Tryz.prog w = .ok (.func fn first cap) w := fun _ _ _ _ => rfl
  have C1 : Below w.heap.size w (w.alloc (.cells #[.string s] 9)) := (Below.refl _ _).alloc (Nat.le_refl _) _
  have HC : Hid (Calls Tryz.prog 97 #[.slice a xs.length c, .func (.func 152) #[] #[.pointer (some ⟨w.heap.size, 0, none⟩)]] (w.alloc (.cells #[.string s] 9)) fun e w' => e = .returned (.bool (anyT xs s)) ∧ Below (w.alloc (.cells #[.string s] 9)).heap.size (w.alloc (.cells #[.string s] 9)) w') := cont_any xs a c s w.heap.size _ ((hx.keep C1).mono C1.size) hb hs (tblk_new _ _)
  clear hx hb hs
  go_enter Tryz.func115, Tryz.ntmps115
  go_wp2_with fail
  refine HC.out.mono ?_
  rintro e w2 ⟨rfl, B2⟩
  go_wp2
  go_ret
  exact ⟨rfl, C1.trans (B2.mono C1.size)⟩

set_option maxHeartbeats 1000000 in
theorem has_any (fs : Fs) (a : Option Addr) (c : Nat) (name part : ByteArray) (w : World) (hf : Fds w.heap.size w (.slice a fs.length c) fs) (hb : FBd 1048576 fs) (hn : name.size ≤ 1048576) (hq : part.size ≤ 1048576) (hl : fs.length ≤ 1024) (hM : MaxL w) :
    Calls Tryz.prog 73 #[.slice a fs.length c, .string name, .string part] w fun e w' => e = .returned (.bool (hasF fs name part)) ∧ Below w.heap.size w w' := by
  have HL : Hid (Calls Tryz.prog 74 #[.slice a fs.length c, .string name] w fun e w' => ∃ ao cv, e = .returned (.slice ao (listF fs name).length cv) ∧ OwnT w.heap.size w' (.slice ao (listF fs name).length cv) (listF fs name) ∧ Below w.heap.size w w') := list_any fs a c name w hf hb hn hl hM
  have HB : Hid (TBd 140737488355328 (listF fs name)) := fun x hx => Nat.le_trans (listF_bd hb x hx) (by decide)
  have hs : Hid (part.size ≤ 140737488355328) := by rw [Hid]; omega
  unfold hasF
  clear hf hb hn hq hl hM
  generalize listF fs name = xs at *
  go_enter Tryz.func73, Tryz.ntmps73
  go_wp2_with fail
  refine HL.out.mono ?_
  rintro e w1 ⟨ao, cv, rfl, own1, B1⟩
  have HA : Hid (Calls Tryz.prog 115 #[.string part, .slice ao xs.length cv] w1 fun e w' => e = .returned (.bool (anyT xs part)) ∧ Below w1.heap.size w1 w') := amongT_any part xs ao cv w1 own1.txs HB.out hs.out
  clear HL HB own1
  go_wp2_with fail
  refine HA.out.mono ?_
  rintro e w2 ⟨rfl, B2⟩
  go_wp2
  go_ret
  exact ⟨rfl, B1.trans (B2.mono B1.size)⟩
end Go.Proofs.YtajfjjmabncldaaGreatDoor

/- Texts that begin with another. -/
namespace Go.Proofs.YtajfjjmabncldaaGreatDoor
open Go.RowKit
set_option linter.unusedVariables false

/-- Does a text begin with another? -/
def hasP (s p : ByteArray) : Bool := decide (p.size ≤ s.size) && ((s.extract 0 p.size).toList == p.toList)
def cutP (s p : ByteArray) : ByteArray := if hasP s p = true then s.extract p.size s.size else s

theorem hasprefix_any (s p : ByteArray) (w : World) : Calls Tryz.prog 117 #[.string s, .string p] w fun e w' => e = .returned (.bool (hasP s p)) ∧ w' = w := by
  unfold hasP
  go_enter Tryz.func117, Tryz.ntmps117
  go_wp2
  · rename_i h
    go_ret
    exact ⟨ret_b (by rw [decide_eq_true h, Bool.true_and]), rfl⟩
  · rename_i h
    go_ret
    exact ⟨ret_b (by rw [decide_eq_false h, Bool.false_and]), rfl⟩

end Go.Proofs.YtajfjjmabncldaaGreatDoor

/- strings.HasPrefix. -/
namespace Go.Proofs.YtajfjjmabncldaaGreatDoor
open Go.RowKit
set_option linter.unusedVariables false

theorem shasprefix_any (s p : ByteArray) (w : World) : Calls Tryz.prog 76 #[.string s, .string p] w fun e w' => e = .returned (.bool (hasP s p)) ∧ w' = w := by
  go_enter Tryz.func76, Tryz.ntmps76
  go_wp2_with fail
  refine (hasprefix_any s p _).mono ?_
  rintro e w1 ⟨rfl, rfl⟩
  go_wp2
  go_ret
  exact ⟨rfl, rfl⟩
end Go.Proofs.YtajfjjmabncldaaGreatDoor

/- The first of a list that a function lets by, plain. -/
namespace Go.Proofs.YtajfjjmabncldaaGreatDoor
open Go.RowKit
set_option linter.unusedVariables false

/-- Where the first is, -1 of none. -/
def idxP {α : Type} (p : α → Bool) : List α → Int
  | [] => -1
  | x :: l => if p x = true then 0 else if idxP p l < 0 then -1 else idxP p l + 1
theorem idxP_lo {α : Type} (p : α → Bool) : ∀ l : List α, -1 ≤ idxP p l
  | [] => Int.le_refl _
  | x :: l => by
    have := idxP_lo p l
    unfold idxP
    split
    · omega
    · split <;> omega
theorem idxP_none {α : Type} (p : α → Bool) : ∀ l : List α, l.any p = false → idxP p l = -1
  | [], _ => rfl
  | x :: l, h => by
    rw [List.any_cons, Bool.or_eq_false_iff] at h
    unfold idxP
    rw [if_neg (by rw [h.1]; decide), idxP_none p l h.2]
    rfl
theorem idxP_at {α : Type} (p : α → Bool) : ∀ (l : List α) (k : Nat) (hk : k < l.length), (l.take k).any p = false → p l[k] = true → idxP p l = k
  | x :: l, 0, _, _, h => by
    have h' : p x = true := h
    unfold idxP
    rw [if_pos h']; rfl
  | x :: l, k + 1, hk, ha, h => by
    rw [List.take_succ_cons, List.any_cons, Bool.or_eq_false_iff] at ha
    have e := idxP_at p l k (by simpa using hk) ha.2 h
    unfold idxP
    rw [if_neg (by rw [ha.1]; decide), e, if_neg (by omega)]
    omega
theorem idxP_any {α : Type} (p : α → Bool) : ∀ l : List α, decide (0 ≤ idxP p l) = l.any p
  | [] => rfl
  | x :: l => by
    have e := idxP_any p l
    rw [List.any_cons]
    unfold idxP
    cases hx : p x with
    | true => simp
    | false =>
      rw [if_neg (by decide), Bool.false_or, ← e]
      have := idxP_lo p l
      apply decide_eq_decide.2
      split <;> omega
theorem any_snoc {α : Type} {p : α → Bool} {l : List α} {k : Nat} (hk : k < l.length) (ha : (l.take k).any p = false) (h : p l[k] = false) : (l.take (k + 1)).any p = false := by
  rw [List.take_succ_eq_append_getElem hk, List.any_append, ha]
  simp [h]
theorem any_at {α : Type} {p : α → Bool} {l : List α} (k : Nat) (hk : k < l.length) (h : p l[k] = true) : l.any p = true := List.any_eq_true.2 ⟨l[k], List.getElem_mem hk, h⟩
end Go.Proofs.YtajfjjmabncldaaGreatDoor

/- A field in a block of its own. -/
namespace Go.Proofs.YtajfjjmabncldaaGreatDoor
open Go.ChangeShapes Go.WideShapes Go.ChangeAt Go.RowKit
set_option linter.unusedVariables false

theorem fds_new (w : World) (n v : ByteArray) : Fds (w.alloc (.cells #[.string n, .string v] 34)).heap.size (w.alloc (.cells #[.string n, .string v] 34)) (.slice (some ⟨w.heap.size, 0, none⟩) 1 1) [(n, v)] :=
  ⟨_, 1, rfl, (fun e => by cases e), Nat.le_refl _, by decide, fun _ => ⟨w.heap.size, 0, rfl, by simp, fun j hj => by
    have : j = 0 := by simpa using hj
    subst this
    exact ⟨tblk_cell (tblk_new _ _) rfl, tblk_cell (tblk_new _ _) rfl⟩⟩⟩

end Go.Proofs.YtajfjjmabncldaaGreatDoor

/- What a digit counts. -/
namespace Go.Proofs.YtajfjjmabncldaaGreatDoor
open Go.RowKit
set_option linter.unusedVariables false

theorem ret_i {k : IntKind} {a b : Int} (h : a = b) : Ending.returned (.int k a) = .returned (.int k b) := by rw [h]

set_option maxHeartbeats 1000000 in
theorem digit_any (c : Int) (w : World) (h0 : 0 ≤ c) (h1 : c < 256) : Calls Tryz.prog 216 #[.int .u8 c] w fun e w' => e = .returned (.int .i64 (dgI c)) ∧ w' = w := by
  by_cases a : 48 ≤ c
  · by_cases b : c ≤ 57
    · have E : Hid (c - 48 = dgI c) := by rw [Hid, dgI, if_pos ⟨a, b⟩]
      go_enter Tryz.func216, Tryz.ntmps216
      go_wp2
      go_ret
      exact ⟨ret_i (by rw [← E.out]), rfl⟩
    · by_cases d : 97 ≤ c
      · by_cases f : c ≤ 102
        · have E : Hid (c - 97 + 10 = dgI c) := by rw [Hid, dgI, if_neg (by omega), if_pos ⟨d, f⟩]; omega
          go_enter Tryz.func216, Tryz.ntmps216
          go_wp2
          go_ret
          exact ⟨ret_i (by rw [← E.out]), rfl⟩
        · have E : Hid (16 = dgI c) := by rw [Hid, dgI, if_neg (by omega), if_neg (by omega), if_neg (by omega)]
          have g : 65 ≤ c := by omega
          have g' : ¬ c ≤ 70 := by omega
          go_enter Tryz.func216, Tryz.ntmps216
          go_wp2
          go_ret
          exact ⟨ret_i E.out, rfl⟩
      · by_cases g : 65 ≤ c
        · by_cases g' : c ≤ 70
          · have E : Hid (c - 65 + 10 = dgI c) := by rw [Hid, dgI, if_neg (by omega), if_neg (by omega), if_pos ⟨g, g'⟩]; omega
            go_enter Tryz.func216, Tryz.ntmps216
            go_wp2
            go_ret
            exact ⟨ret_i (by rw [← E.out]), rfl⟩
          · have E : Hid (16 = dgI c) := by rw [Hid, dgI, if_neg (by omega), if_neg (by omega), if_neg (by omega)]
            go_enter Tryz.func216, Tryz.ntmps216
            go_wp2
            go_ret
            exact ⟨ret_i E.out, rfl⟩
        · have E : Hid (16 = dgI c) := by rw [Hid, dgI, if_neg (by omega), if_neg (by omega), if_neg (by omega)]
          go_enter Tryz.func216, Tryz.ntmps216
          go_wp2
          go_ret
          exact ⟨ret_i E.out, rfl⟩
  · have E : Hid (16 = dgI c) := by rw [Hid, dgI, if_neg (by omega), if_neg (by omega), if_neg (by omega)]
    have d : ¬ 97 ≤ c := by omega
    have g : ¬ 65 ≤ c := by omega
    go_enter Tryz.func216, Tryz.ntmps216
    go_wp2
    go_ret
    exact ⟨ret_i E.out, rfl⟩

end Go.Proofs.YtajfjjmabncldaaGreatDoor

/- A number as it is told: plain. -/
namespace Go.Proofs.YtajfjjmabncldaaGreatDoor
open Go.RowKit
set_option linter.unusedVariables false

def itoaS (n : Int) : ByteArray := ⟨(Lib.itoa n).toArray⟩
end Go.Proofs.YtajfjjmabncldaaGreatDoor

/- sign.Text: what it tells of a number. -/
namespace Go.Proofs.YtajfjjmabncldaaGreatDoor
open Go.RowKit
set_option linter.unusedVariables false

/-- The table that the telling of a number reads. -/
structure PowT (w : World) : Prop where
  pow : Lib.TabIs Tryz.prog w "internal/strconv.uint64pow10" .u64 Lib.pow10Tab
  lt : 0 < w.heap.size
theorem gPow : Tryz.prog.globalNamed "internal/strconv.uint64pow10" = some 0 := by kernel_rfl
theorem PowT.below {w w' : World} (h : PowT w) (b : Below w.heap.size w w') : PowT w' := ⟨var?_below b gPow h.lt h.pow, Nat.lt_of_lt_of_le h.lt b.size⟩
theorem text_any (n : Int) (h0 : -9223372036854775808 ≤ n) (h1 : n ≤ 9223372036854775807) (w : World) (ht : PowT w) :
    Calls Tryz.prog 80 #[.int .i64 n] w fun e w' => e = .returned (.string (itoaS n)) ∧ Below w.heap.size w w' := by
  have HP : Hid (Lib.TabIs Tryz.prog w "internal/strconv.uint64pow10" .u64 Lib.pow10Tab) := ht.pow
  clear ht
  go_enter Tryz.func80, Tryz.ntmps80
  go_wp2_with fail
  refine (Tryz.strconv_FormatInt_10 n h0 h1 _ HP.out).mono ?_
  rintro e w1 ⟨rfl, k, os, hw⟩
  have hB : Below w.heap.size w w1 := by rw [hw]; exact Lib.below_grow _ w (Nat.le_refl _) k os
  clear hw
  go_wp2
  go_ret
  exact ⟨rfl, hB⟩
theorem lcat_size (a b : ByteArray) : (a ++ b).size = a.size + b.size := by rw [ByteArray.size_append]
theorem lcat_run (W : World) (a b : ByteArray) (h : a.size + b.size ≤ 281474976710656) : (Op.stringOp .add a b).run Tryz.prog W = .ok (.string (a ++ b)) W :=
  run_string_add_sum W a b (by omega)
end Go.Proofs.YtajfjjmabncldaaGreatDoor
