/- Texts that the proof leans on, one behind the other: TbA OsA TbB TbC TbD TbE TbF -/
import Derived.Test.YthmhaflkkigenaaGreatDoorTb
import Derived.Maps.AppendAt
import Derived.RangeFuncNested
import Derived.Maps.OwnOps
import Derived.Maps.OwnSet
import Derived.Maps.Views
import Derived.StringKeys
/- Slots in memory. -/
namespace Go.Proofs.YthmhaflkkigenaaGreatDoor
open Go.ChangeShapes Go.WideShapes Go.ChangeAt Go.RowKit
set_option linter.unusedVariables false

structure SlotP where
  n : ByteArray
  h : List ByteArray
  q : Int
  c : Int
  p : Int
  r : Int
  b : Int
  u : Int
def SlotAt (B : Nat) (w : World) (g o : Nat) (s : SlotP) : Prop := ∃ ha hc, w.cell? ⟨g, o, none⟩ = some (.string s.n) ∧ w.cell? ⟨g, o + 1, none⟩ = some (.slice ha s.h.length hc) ∧ w.cell? ⟨g, o + 2, none⟩ = some (.int .i64 s.q) ∧ w.cell? ⟨g, o + 3, none⟩ = some (.int .i64 s.c) ∧ w.cell? ⟨g, o + 4, none⟩ = some (.int .i64 s.p) ∧ w.cell? ⟨g, o + 5, none⟩ = some (.int .i64 s.r) ∧ w.cell? ⟨g, o + 6, none⟩ = some (.int .i64 s.b) ∧ w.cell? ⟨g, o + 7, none⟩ = some (.int .i64 s.u) ∧ Txs B w (.slice ha s.h.length hc) s.h
/-- A slice of slots, in blocks below B. -/
def Sls (B : Nat) (w : World) (v : Value) (ts : List SlotP) : Prop := ∃ a c, v = .slice a ts.length c ∧ (a = none → c = 0) ∧ ts.length ≤ c ∧ c ≤ maxLen ∧ (0 < ts.length → ∃ g off, a = some ⟨g, off, none⟩ ∧ g < B ∧ ∀ (j : Nat) (hj : j < ts.length), SlotAt B w g (off + j * 8) ts[j])
theorem SlotAt.keep {B : Nat} {w w' : World} {g o : Nat} {s : SlotP} (h : SlotAt B w g o s) (hg : g < B) (b : Below B w w') : SlotAt B w' g o s := by
  obtain ⟨ha, hc, k0, k1, k2, k3, k4, k5, k6, k7, kt⟩ := h
  exact ⟨ha, hc, (b.cell (p := ⟨g, _, none⟩) hg).trans k0, (b.cell (p := ⟨g, _, none⟩) hg).trans k1, (b.cell (p := ⟨g, _, none⟩) hg).trans k2, (b.cell (p := ⟨g, _, none⟩) hg).trans k3, (b.cell (p := ⟨g, _, none⟩) hg).trans k4, (b.cell (p := ⟨g, _, none⟩) hg).trans k5, (b.cell (p := ⟨g, _, none⟩) hg).trans k6, (b.cell (p := ⟨g, _, none⟩) hg).trans k7, kt.keep b⟩
theorem SlotAt.mono {B C : Nat} {w : World} {g o : Nat} {s : SlotP} (h : SlotAt B w g o s) (b : B ≤ C) : SlotAt C w g o s := by
  obtain ⟨ha, hc, k0, k1, k2, k3, k4, k5, k6, k7, kt⟩ := h
  exact ⟨ha, hc, k0, k1, k2, k3, k4, k5, k6, k7, kt.mono b⟩
theorem Sls.keep {B : Nat} {w w' : World} {v : Value} {ts : List SlotP} (h : Sls B w v ts) (b : Below B w w') : Sls B w' v ts := by
  obtain ⟨a, c, e, h1, h2, h3, h4⟩ := h
  refine ⟨a, c, e, h1, h2, h3, fun hp => ?_⟩
  obtain ⟨g, off, ea, hg, hc⟩ := h4 hp
  exact ⟨g, off, ea, hg, fun j hj => (hc j hj).keep hg b⟩
theorem Sls.mono {B C : Nat} {w : World} {v : Value} {ts : List SlotP} (h : Sls B w v ts) (b : B ≤ C) : Sls C w v ts := by
  obtain ⟨a, c, e, h1, h2, h3, h4⟩ := h
  refine ⟨a, c, e, h1, h2, h3, fun hp => ?_⟩
  obtain ⟨g, off, ea, hg, hc⟩ := h4 hp
  exact ⟨g, off, ea, Nat.lt_of_lt_of_le hg b, fun j hj => (hc j hj).mono b⟩
theorem Sls.len {B : Nat} {w : World} {a : Option Addr} {n c : Nat} {ts : List SlotP} (h : Sls B w (.slice a n c) ts) : ts.length = n ∧ n ≤ c ∧ c ≤ maxLen := by
  obtain ⟨a', c', e, h1, h2, h3, _⟩ := h
  obtain ⟨rfl, rfl, rfl⟩ := slice_inj e
  exact ⟨rfl, h2, h3⟩
def slotV (s : SlotP) (ha : Option Addr) (hc : Nat) : Array Value := #[.string s.n, .slice ha s.h.length hc, .int .i64 s.q, .int .i64 s.c, .int .i64 s.p, .int .i64 s.r, .int .i64 s.b, .int .i64 s.u]
structure SBd (s : SlotP) : Prop where
  n : s.n.size ≤ 140737488355328
  h : TBd 140737488355328 s.h
  l : s.h.length ≤ 140737488355328
end Go.Proofs.YthmhaflkkigenaaGreatDoor

/- A growing row of slots. -/
namespace Go.Proofs.YthmhaflkkigenaaGreatDoor
open Go.ChangeShapes Go.WideShapes Go.ChangeAt Go.RowKit
set_option linter.unusedVariables false

/-- A slot, and where the slice of its hosts stands. -/
structure SlotX where
  s : SlotP
  a : Option Addr
  c : Nat
def rowS (xs : List SlotX) : List Value := xs.flatMap fun x => (slotV x.s x.a x.c).toList
/-- The slots' row, in a block from N on; the hosts' blocks from N on too, and none is the row's. -/
structure OwnS (N : Nat) (w : World) (v : Value) (xs : List SlotX) : Prop where
  row : w.ownsRow N 35 8 v xs.length (rowS xs)
  hosts : ∀ x ∈ xs, Txs w.heap.size w (.slice x.a x.s.h.length x.c) x.s.h
  away : ∀ x ∈ xs, ∀ q, x.a = some q → N ≤ q.block ∧ v.ownBlock ≠ some q.block
/-- Cells from N on stay. -/
structure KpC (N : Nat) (W V : World) : Prop where
  size : W.heap.size ≤ V.heap.size
  same : ∀ k o, N ≤ k → W.heap[k]? = some o → o.isCells = true → V.heap[k]? = some o
theorem KpC.alloc (N : Nat) (W : World) (o : Obj) : KpC N W (W.alloc o) := ⟨by simp, fun k o' _ h _ => (Below.heap_alloc W o k (Array.getElem?_eq_some_iff.1 h).1).trans h⟩
theorem KpC.set {N : Nat} (W : World) (a : Addr) (v : Value) (h : a.block < N) : KpC N W (W.setCell a v) := ⟨(KeepsOthers.setCell W a v).size, fun k o hk h' _ => (Below.heap_setCell W a v k (by omega)).trans h'⟩
theorem KpC.drew (N : Nat) (W : World) : KpC N W W.drew := ⟨Nat.le_refl _, fun k o _ h _ => h⟩
theorem KpC.put {N : Nat} (W : World) (k : Nat) (o o' : Obj) (h : W.heap[k]? = some o) (ho : o.isCells = false) : KpC N W (W.putObj k o') := ⟨by simp, fun j p _ hj hp => by
  refine (World.putObj_heap_other ?_).trans hj
  intro e; subst e
  rw [h] at hj; cases hj; rw [ho] at hp; cases hp⟩
theorem KpC.below {N : Nat} {W V : World} (h : Below W.heap.size W V) : KpC N W V := ⟨h.size, fun k o _ hk _ => (h.block k (Array.getElem?_eq_some_iff.1 hk).1).trans hk⟩
theorem KpC.trans {N : Nat} {A B C : World} (h : KpC N A B) (k : KpC N B C) : KpC N A C := ⟨Nat.le_trans h.size k.size, fun i o hi ho hc => k.same i o hi (h.same i o hi ho hc) hc⟩
theorem txs_kpc {N B : Nat} {W V : World} {a : Option Addr} {n c : Nat} {hs : List ByteArray} (h : Txs B W (.slice a n c) hs) (ha : ∀ q, a = some q → N ≤ q.block) (k : KpC N W V) : Txs B V (.slice a n c) hs := by
  obtain ⟨a', c', e, h1, h2, h3, h4⟩ := h
  obtain ⟨rfl, e2, rfl⟩ := slice_inj e
  refine ⟨a, c, by rw [e2], h1, h2, h3, fun hp => ?_⟩
  obtain ⟨g, off, ea, hg, hc⟩ := h4 hp
  refine ⟨g, off, ea, hg, fun j hj => ?_⟩
  have q := hc j hj
  obtain ⟨o, ho, hk⟩ := cells_of_cell q
  have z := k.same g o (ha _ ea) ho hk
  exact (World.cell?_of_block (a := ⟨g, off + j, none⟩) (z.trans ho.symm)).trans q
theorem OwnS.kept {N : Nat} {W V : World} {v : Value} {xs : List SlotX} (h : OwnS N W v xs) (k : KpC N W V) : OwnS N V v xs := by
  refine ⟨?_, fun x hx => (txs_kpc (h.hosts x hx) (fun q e => (h.away x hx q e).1) k).mono k.size, h.away⟩
  obtain ⟨h1, h2⟩ := h.row
  refine ⟨h1, ?_⟩
  rcases h2 with h2 | ⟨g, cap, cur, hv, hg, hh, r⟩
  · exact .inl h2
  · exact .inr ⟨g, cap, cur, hv, hg, k.same g _ hg hh rfl, r⟩
theorem rowS_len (xs : List SlotX) : (rowS xs).length = xs.length * 8 := by
  induction xs with
  | nil => rfl
  | cons x l ih =>
    show ((slotV x.s x.a x.c).toList ++ rowS l).length = _
    have e : (x :: l).length = l.length + 1 := rfl
    have e2 : ((slotV x.s x.a x.c).toList).length = 8 := rfl
    rw [List.length_append, ih, e, e2]; omega
theorem rowS_app (x y : List SlotX) : rowS (x ++ y) = rowS x ++ rowS y := by unfold rowS; rw [List.flatMap_append]
theorem rowS_one (x : SlotX) : ∀ v ∈ (slotV x.s x.a x.c).toList, v.oneCell' = true := by
  intro v hv
  simp [slotV] at hv
  rcases hv with rfl | rfl | rfl | rfl | rfl | rfl | rfl | rfl <;> rfl
theorem rowS_at : ∀ (xs : List SlotX) (j : Nat) (hj : j < xs.length) (i : Nat) (hi : i < 8), (rowS xs)[j * 8 + i]? = (slotV xs[j].s xs[j].a xs[j].c)[i]?
  | x :: l, 0, _, i, hi => by
    show ((slotV x.s x.a x.c).toList ++ rowS l)[0 * 8 + i]? = _
    rw [List.getElem?_append_left (by show 0 * 8 + i < 8; omega)]
    simp
  | x :: l, j + 1, h, i, hi => by
    have k := rowS_at l j (by simpa using h) i hi
    show ((slotV x.s x.a x.c).toList ++ rowS l)[(j + 1) * 8 + i]? = _
    have e2 : ((slotV x.s x.a x.c).toList).length = 8 := rfl
    rw [List.getElem?_append_right (by rw [e2]; omega), e2]
    have e1 : (j + 1) * 8 + i - 8 = j * 8 + i := by omega
    rw [e1]
    exact k
theorem OwnS.form {N : Nat} {w : World} {v : Value} {xs : List SlotX} (h : OwnS N w v xs) : ∃ a c, v = .slice a xs.length c ∧ (a = none → c = 0) := by
  obtain ⟨h1, ⟨h2, h3⟩ | ⟨g, c, cur, hv, _⟩⟩ := h.row
  · exact ⟨none, 0, by rw [h2, h3], fun _ => rfl⟩
  · exact ⟨_, c, hv, fun e => by cases e⟩
theorem OwnS.sls {N : Nat} {w : World} {v : Value} {xs : List SlotX} (h : OwnS N w v xs) : Sls w.heap.size w v (xs.map (·.s)) := by
  have h0 := h.row
  have el : (xs.map (·.s)).length = xs.length := List.length_map _
  obtain ⟨h1, ⟨h2, h3⟩ | ⟨g, c, cur, hv, hB, hg, hl, hm, hs, ht⟩⟩ := h.row
  · exact ⟨none, 0, by rw [h2, el, h3], fun _ => rfl, by omega, Nat.zero_le _, fun q => by omega⟩
  · refine ⟨_, c, by rw [el]; exact hv, (fun e => by cases e), by omega, hm, fun _ => ⟨g, 0, rfl, heap_lt hg, fun j hj => ?_⟩⟩
    have hj' : j < xs.length := by omega
    have k := (hv ▸ h0 : w.ownsRow N 35 8 (.slice (some ⟨g, 0, none⟩) xs.length c) xs.length (rowS xs))
    have q : ∀ i, i < 8 → w.cell? ⟨g, 0 + j * 8 + i, none⟩ = (slotV xs[j].s xs[j].a xs[j].c)[i]? := fun i hi => by
      rw [Nat.zero_add]
      exact (k.cellAt (j * 8 + i) (by omega)).trans (rowS_at xs j hj' i hi)
    rw [List.getElem_map]
    exact ⟨xs[j].a, xs[j].c, q 0 (by decide), q 1 (by decide), q 2 (by decide), q 3 (by decide), q 4 (by decide), q 5 (by decide), q 6 (by decide), q 7 (by decide), h.hosts _ (List.getElem_mem hj')⟩
theorem OwnS.nil (N : Nat) (w : World) : OwnS N w (.slice none 0 0) [] := ⟨World.ownsRow_nil _ _ _ _, (fun x hx => by cases hx), (fun x hx => by cases hx)⟩
theorem infoS : (Tryz.prog.info? 35).map (fun i => (i.zero, i.size, i.bytes)) = some (some (.agg #[.string ByteArray.empty, .slice none 0 0, .int .i64 0, .int .i64 0, .int .i64 0, .int .i64 0, .int .i64 0, .int .i64 0]), 8, 88) := by kernel_rfl
/-- One slot appended. -/
theorem ownS_append {N : Nat} {w : World} {v : Value} {X : List SlotX} (h : OwnS N w v X) (x : SlotX) (ad : Addr) (hc : ∀ i u, (slotV x.s x.a x.c)[i]? = some u → w.cell? (ad.add i) = some u)
    (ht : Txs w.heap.size w (.slice x.a x.s.h.length x.c) x.s.h) (ha : ∀ q, x.a = some q → N ≤ q.block ∧ v.ownBlock ≠ some q.block ∧ q.block < w.heap.size) (hx : ∀ y ∈ X, ∀ q, y.a = some q → q.block < w.heap.size) (hmax : X.length ≤ 1048576) (hN : N ≤ w.heap.size) :
    ∃ g' c' w', (Builtin.append_ #[23, 23] 23 #[v, .slice (some ad) 1 1]).run Tryz.prog w = .ok (.slice (some ⟨g', 0, none⟩) (X.length + 1) c') w' ∧ OwnS N w' (.slice (some ⟨g', 0, none⟩) (X.length + 1) c') (X ++ [x]) ∧ w.grownBy w' v.ownBlock ∧ N ≤ g' := by
  obtain ⟨i, hi, hz0, hz1, hz2⟩ := info_parts infoS
  have hR := h.row
  have hl1 : ((slotV x.s x.a x.c).toList).length = 8 := rfl
  obtain ⟨v', w', hr, q1, q2, q3, q4⟩ := run_append_own_at (P := Tryz.prog) w N 23 23 35 i _ 8 88 Tryz.underlying23 hi hz0 hz1 hz2 rfl (by decide) v X.length (rowS X) hR ad 1 1 (slotV x.s x.a x.c).toList hl1
    (fun j u hj => hc j u (by simpa using hj)) (rowS_one x) (by unfold maxLen; omega) (by omega) hN
  have e1 : rowS X ++ (slotV x.s x.a x.c).toList = rowS (X ++ [x]) := by rw [rowS_app]; congr 1
  have e2 : (X ++ [x]).length = X.length + 1 := by simp
  rw [e1] at q1
  rcases q1.2 with ⟨_, hz⟩ | ⟨g', d', cur, hv, hg', hgh, _⟩
  · omega
  · subst hv
    have old : ∀ (y : SlotX) (B : Nat), (∀ q, y.a = some q → v.ownBlock ≠ some q.block ∧ q.block < w.heap.size) → Txs B w (.slice y.a y.s.h.length y.c) y.s.h → Txs B w' (.slice y.a y.s.h.length y.c) y.s.h := by
      intro y B hy ht
      obtain ⟨a', c', e, h1, h2, h3, h4⟩ := ht
      obtain ⟨ea', _, ec'⟩ := slice_inj e
      subst ea' ec'
      refine ⟨_, _, rfl, h1, h2, h3, fun hp => ?_⟩
      obtain ⟨g, off, ea, hg, hcc⟩ := h4 hp
      refine ⟨g, off, ea, hg, fun j hj => ?_⟩
      have z := q2.block g (hy _ ea).2 (fun e => (hy _ ea).1 e.symm)
      exact (World.cell?_of_block (a := ⟨g, off + j, none⟩) z).trans (hcc j hj)
    refine ⟨g', d', w', hr, ⟨by rw [e2]; exact q1, ?_, ?_⟩, q2, hg'⟩
    · intro y hy
      rcases List.mem_append.1 hy with hy | hy
      · exact (old y _ (fun q e => ⟨(h.away y hy q e).2, hx y hy q e⟩) (h.hosts y hy)).mono q2.size
      · obtain rfl : y = x := by simpa using hy
        exact (old y _ (fun q e => ⟨(ha q e).2.1, (ha q e).2.2⟩) ht).mono q2.size
    · have key : ∀ q : Addr, v.ownBlock ≠ some q.block → q.block < w.heap.size → (Value.slice (some ⟨g', 0, none⟩) (X.length + 1) d').ownBlock ≠ some q.block := by
        intro q hn hl e
        rcases q4 with q4 | q4
        · exact hn (q4.symm.trans e)
        · rw [q4] at e
          have : w.heap.size = q.block := by simpa using e
          omega
      intro y hy q e
      rcases List.mem_append.1 hy with hy | hy
      · exact ⟨(h.away y hy q e).1, key q (h.away y hy q e).2 (hx y hy q e)⟩
      · obtain rfl : y = x := by simpa using hy
        exact ⟨(ha q e).1, key q (ha q e).2.1 (ha q e).2.2⟩
end Go.Proofs.YthmhaflkkigenaaGreatDoor

/- within, Name, wrongHost. -/
namespace Go.Proofs.YthmhaflkkigenaaGreatDoor
open Go.ChangeShapes Go.WideShapes Go.ChangeAt Go.RowKit
set_option linter.unusedVariables false

def wiB (n lo hi : Int) : Bool := decide (lo ≤ n) && decide (n ≤ hi)
theorem within_any (n lo hi : Int) (w : World) : Calls Tryz.prog 27 #[.int .i64 n, .int .i64 lo, .int .i64 hi] w fun e w' => e = .returned (.bool (wiB n lo hi)) ∧ w' = w := by
  unfold wiB
  by_cases h1 : lo ≤ n
  · by_cases h2 : n ≤ hi
    · rw [decide_eq_true h1, decide_eq_true h2]
      go_enter Tryz.func27, Tryz.ntmps27
      go_wp2
      go_ret
      exact ⟨rfl, rfl⟩
    · rw [decide_eq_true h1, decide_eq_false h2]
      go_enter Tryz.func27, Tryz.ntmps27
      go_wp2
      go_ret
      exact ⟨rfl, rfl⟩
  · rw [decide_eq_false h1]
    go_enter Tryz.func27, Tryz.ntmps27
    go_wp2
    go_ret
    exact ⟨rfl, rfl⟩
def ltB (c : Int) : Bool := decide (97 ≤ c) && decide (c ≤ 122)
def dgB (c : Int) : Bool := decide (48 ≤ c) && decide (c ≤ 57)
def nmB (c : Int) : Bool := ltB c || dgB c || (c == 45)
theorem isletter_any (c : Int) (w : World) : Calls Tryz.prog 23 #[.int .u8 c] w fun e w' => e = .returned (.bool (ltB c)) ∧ w' = w := by
  unfold ltB
  by_cases h1 : 97 ≤ c
  · by_cases h2 : c ≤ 122
    · rw [decide_eq_true h1, decide_eq_true h2]
      go_enter Tryz.func23, Tryz.ntmps23
      go_wp2
      go_ret
      exact ⟨rfl, rfl⟩
    · rw [decide_eq_true h1, decide_eq_false h2]
      go_enter Tryz.func23, Tryz.ntmps23
      go_wp2
      go_ret
      exact ⟨rfl, rfl⟩
  · rw [decide_eq_false h1]
    go_enter Tryz.func23, Tryz.ntmps23
    go_wp2
    go_ret
    exact ⟨rfl, rfl⟩
theorem isdigit_any (c : Int) (w : World) : Calls Tryz.prog 24 #[.int .u8 c] w fun e w' => e = .returned (.bool (dgB c)) ∧ w' = w := by
  unfold dgB
  by_cases h1 : 48 ≤ c
  · by_cases h2 : c ≤ 57
    · rw [decide_eq_true h1, decide_eq_true h2]
      go_enter Tryz.func24, Tryz.ntmps24
      go_wp2
      go_ret
      exact ⟨rfl, rfl⟩
    · rw [decide_eq_true h1, decide_eq_false h2]
      go_enter Tryz.func24, Tryz.ntmps24
      go_wp2
      go_ret
      exact ⟨rfl, rfl⟩
  · rw [decide_eq_false h1]
    go_enter Tryz.func24, Tryz.ntmps24
    go_wp2
    go_ret
    exact ⟨rfl, rfl⟩
def headB (l : List UInt8) : Bool := match l with | [] => false | b :: _ => ltB (b.toNat : Int)
def nameP (s : ByteArray) : Bool := decide (0 < s.size) && decide (s.size ≤ 30) && headB s.data.toList && allB nmB s.data.toList
theorem headB_at (s : ByteArray) (h : 0 < s.size) : headB s.data.toList = ltB (s[0].toNat : Int) := by
  obtain ⟨⟨l⟩⟩ := s
  cases l with
  | nil => exact absurd h (by decide)
  | cons a l => rfl
set_option maxRecDepth 100000 in
set_option maxHeartbeats 1000000 in
theorem name_any (s : ByteArray) (w : World) (hs : s.size ≤ maxLen) : Calls Tryz.prog 8 #[.string s] w fun e w' => e = .returned (.bool (nameP s)) ∧ w' = w := by
  unfold maxLen at hs
  have HL : Hid (∀ c W, Calls Tryz.prog 23 #[.int .u8 c] W fun e w' => e = .returned (.bool (ltB c)) ∧ w' = W) := isletter_any
  have HD : Hid (∀ c W, Calls Tryz.prog 24 #[.int .u8 c] W fun e w' => e = .returned (.bool (dgB c)) ∧ w' = W) := isdigit_any
  unfold nameP
  rcases Nat.eq_zero_or_pos s.size with h0 | hp
  · obtain rfl := empty_of h0
    rw [show (decide (0 < (⟨#[]⟩ : ByteArray).size)) = false from rfl, Bool.false_and, Bool.false_and, Bool.false_and]
    clear hs h0 HL HD
    go_enter Tryz.func8, Tryz.ntmps8
    go_wp2
    go_ret
    exact ⟨rfl, rfl⟩
  · rw [decide_eq_true hp, Bool.true_and]
    have hne : s.toList.isEmpty = false := isEmpty_of (by omega)
    by_cases h30 : s.size ≤ 30
    · have h30' : decide ((30 : Int) < (s.size : Int)) = false := decide_eq_false (by omega)
      rw [decide_eq_true h30, Bool.true_and, headB_at s hp]
      cases hl : ltB (s[0].toNat : Int)
      · rw [Bool.false_and]
        have HL0 : Hid (∀ W, Calls Tryz.prog 23 #[.int .u8 (s[0].toNat : Int)] W fun e w' => e = .returned (.bool false) ∧ w' = W) := fun W => hl ▸ HL.out _ W
        clear HL HD hl h30
        go_enter Tryz.func8, Tryz.ntmps8
        go_wp2_with fail
        refine (HL0.out _).mono ?_
        rintro e w1 ⟨rfl, rfl⟩
        go_wp2
        go_ret
        exact ⟨rfl, rfl⟩
      · rw [Bool.true_and]
        have HL0 : Hid (∀ W, Calls Tryz.prog 23 #[.int .u8 (s[0].toNat : Int)] W fun e w' => e = .returned (.bool true) ∧ w' = W) := fun W => hl ▸ HL.out _ W
        clear hl h30
        go_enter Tryz.func8, Tryz.ntmps8
        go_wp2_with fail
        refine (HL0.out _).mono ?_
        rintro e w1 ⟨rfl, rfl⟩
        go_wp2_with fail
        go_loopw [19] (fun vi wr => ∃ k : Nat, k ≤ s.size ∧ vi = .int .i64 k ∧ Hid (allB nmB (s.data.toList.take k) = true) ∧ Hid (wr = w1)) (fun vi _ => s.size - (intOf vi).toNat)
        case atStart => exact ⟨0, Nat.zero_le _, rfl, rfl, rfl⟩
        case round =>
          obtain ⟨k, hk, rfl, hA, hW⟩ := hrel
          by_cases hlt : k < s.size
          · have hN : Hid ((ltB (s[k].toNat : Int) || dgB (s[k].toNat : Int) || ((s[k].toNat : Int) == 45)) = false → allB nmB s.data.toList = false) := fun q => allB_false s k hlt q
            have hY : Hid ((ltB (s[k].toNat : Int) || dgB (s[k].toNat : Int) || ((s[k].toNat : Int) == 45)) = true → allB nmB (s.data.toList.take (k + 1)) = true) := fun q => allB_snoc s k hlt hA.out q
            have HL1 : Hid (∀ W, Calls Tryz.prog 23 #[.int .u8 (s[k].toNat : Int)] W fun e w' => e = .returned (.bool (ltB (s[k].toNat : Int))) ∧ w' = W) := fun W => HL.out _ W
            have HD1 : Hid (∀ W, Calls Tryz.prog 24 #[.int .u8 (s[k].toNat : Int)] W fun e w' => e = .returned (.bool (dgB (s[k].toNat : Int))) ∧ w' = W) := fun W => HD.out _ W
            cases hl : ltB (s[k].toNat : Int)
            · rw [hl] at HL1 hN hY
              cases hd : dgB (s[k].toNat : Int)
              · rw [hd] at HD1 hN hY
                cases h45 : ((s[k].toNat : Int) == 45)
                · rw [h45] at hN hY
                  have hN2 : Hid (allB nmB s.data.toList = false) := hN.out rfl
                  have h45' : ((s[k].toNat : Int) != 45) = true := by rw [bne, h45]; rfl
                  have h45n : ¬ (s[k].toNat : Int) = 45 := by simpa using h45
                  clear hN hY hl hd hA HL HD HL0 h45
                  go_wp2_with fail
                  refine (HL1.out _).mono ?_
                  rintro e w2 ⟨rfl, rfl⟩
                  go_wp2_with fail
                  refine (HD1.out _).mono ?_
                  rintro e w2 ⟨rfl, rfl⟩
                  go_wp2
                  go_ret
                  exact ⟨ret_b hN2.out.symm, hW.out⟩
                · rw [h45] at hN hY
                  have hY2 : Hid (allB nmB (s.data.toList.take (k + 1)) = true) := hY.out rfl
                  have h45' : ((s[k].toNat : Int) != 45) = false := by rw [bne, h45]; rfl
                  clear hN hY hl hd hA HL HD HL0 h45
                  go_wp2_with fail
                  refine (HL1.out _).mono ?_
                  rintro e w2 ⟨rfl, rfl⟩
                  go_wp2_with fail
                  refine (HD1.out _).mono ?_
                  rintro e w2 ⟨rfl, rfl⟩
                  go_wp2
                  go_roundw
                  case rel => exact ⟨k + 1, by omega, by go_num, hY2, hW⟩
                  case measure => simp [intOf]; omega
              · rw [hd] at HD1 hN hY
                have hY2 : Hid (allB nmB (s.data.toList.take (k + 1)) = true) := hY.out rfl
                clear hN hY hl hd hA HL HD HL0
                go_wp2_with fail
                refine (HL1.out _).mono ?_
                rintro e w2 ⟨rfl, rfl⟩
                go_wp2_with fail
                refine (HD1.out _).mono ?_
                rintro e w2 ⟨rfl, rfl⟩
                go_wp2
                go_roundw
                case rel => exact ⟨k + 1, by omega, by go_num, hY2, hW⟩
                case measure => simp [intOf]; omega
            · rw [hl] at HL1 hN hY
              have hY2 : Hid (allB nmB (s.data.toList.take (k + 1)) = true) := hY.out rfl
              clear hN hY hl hA HL HD HL0 HD1
              go_wp2_with fail
              refine (HL1.out _).mono ?_
              rintro e w2 ⟨rfl, rfl⟩
              go_wp2
              go_roundw
              case rel => exact ⟨k + 1, by omega, by go_num, hY2, hW⟩
              case measure => simp [intOf]; omega
          · obtain rfl : k = s.size := by omega
            have h := hA.out
            rw [List.take_of_length_le (by show s.data.toList.length ≤ s.size; exact Nat.le_refl _)] at h
            have H : Hid (allB nmB s.data.toList = true) := h
            clear h hA
            go_wp2
            go_ret
            exact ⟨ret_b H.out.symm, hW.out⟩
    · have h30' : decide ((30 : Int) < (s.size : Int)) = true := decide_eq_true (by omega)
      rw [decide_eq_false h30, Bool.false_and, Bool.false_and]
      clear HL HD h30
      go_enter Tryz.func8, Tryz.ntmps8
      go_wp2
      go_ret
      exact ⟨rfl, rfl⟩
/-- Is a text no host as it is asked for? -/
def whB (s : ByteArray) : Bool := !(hostP s).2 || !((hostP s).1.toList == s.toList)
theorem whost_any (s : ByteArray) (w : World) (hs : s.size ≤ maxLen) : Calls Tryz.prog 61 #[.string s] w fun e w' => e = .returned (.bool (whB s)) ∧ Below w.heap.size w w' := by
  have HH : Hid (Calls Tryz.prog 71 #[.string s] w fun e w' => e = .returned (.tuple #[.string (hostP s).1, .bool (hostP s).2]) ∧ Below w.heap.size w w') := host_any s w hs
  unfold whB
  generalize (hostP s).1 = h1 at *
  generalize (hostP s).2 = h2 at *
  cases h2
  · rw [show (!false || !(h1.toList == s.toList)) = true from rfl]
    go_enter Tryz.func61, Tryz.ntmps61
    go_wp2_with fail
    refine HH.out.mono ?_
    rintro e w1 ⟨rfl, B1⟩
    go_wp2
    go_ret
    exact ⟨rfl, B1⟩
  · rw [show (!true || !(h1.toList == s.toList)) = !(h1.toList == s.toList) from rfl]
    go_enter Tryz.func61, Tryz.ntmps61
    go_wp2_with fail
    refine HH.out.mono ?_
    rintro e w1 ⟨rfl, B1⟩
    go_wp2
    go_ret
    exact ⟨rfl, B1⟩
end Go.Proofs.YthmhaflkkigenaaGreatDoor

/- slices.ContainsFunc of texts and slots; rightHosts (written by tbc.py). -/
namespace Go.Proofs.YthmhaflkkigenaaGreatDoor
open Go.ChangeShapes Go.WideShapes Go.ChangeAt Go.RowKit
set_option linter.unusedVariables false

set_option maxRecDepth 100000 in
set_option maxHeartbeats 1000000 in
theorem idx_whost (P : ByteArray → Bool) (xs : List ByteArray) (a : Option Addr) (c : Nat) (w : World) (hf : Txs w.heap.size w (.slice a xs.length c) xs)
    (HF : ∀ (k : Nat) (hk : k < xs.length) (W : World), Below w.heap.size w W → Calls Tryz.prog 61 #[.string xs[k]] W fun e w' => e = .returned (.bool (P xs[k])) ∧ Below W.heap.size W w') :
    Calls Tryz.prog 70 #[.slice a xs.length c, .func (.func 61) #[] #[]] w fun e w' => e = .returned (.int .i64 (idxP P xs)) ∧ Below w.heap.size w w' := by
  have hlm := hf.len
  unfold maxLen at hlm
  rcases Nat.eq_zero_or_pos xs.length with h0 | hp
  · have he : xs = [] := List.eq_nil_of_length_eq_zero h0
    subst he
    clear hf h0 hlm HF
    go_enter Tryz.func70, Tryz.ntmps70
    go_wp2_with fail
    refine wp_loop_rounds 1 ?_
    rw [rounds_succ]
    go_wp2
    go_ret
    exact ⟨rfl, Below.refl _ _⟩
  · obtain ⟨a', c', e, hnil, q1, q2, q3⟩ := hf
    obtain ⟨rfl, _, rfl⟩ := slice_inj e
    obtain ⟨g, off, rfl, hg, hc⟩ := q3 hp
    have HC : Hid (∀ (j : Nat) (hj : j < xs.length), w.cell? ⟨g, off + j, none⟩ = some (.string xs[j])) := hc
    have HFH : Hid (∀ (k : Nat) (hk : k < xs.length) (W : World), Below w.heap.size w W → Calls Tryz.prog 61 #[.string xs[k]] W fun e w' => e = .returned (.bool (P xs[k])) ∧ Below W.heap.size W w') := HF
    have hln : xs.length ≤ 9223372036854775807 := by omega
    clear e hnil q1 q2 q3 hlm hc HF
    go_enter Tryz.func70, Tryz.ntmps70
    go_wp2_with fail
    go_loopw [8] (fun vi wr => ∃ k : Nat, k ≤ xs.length ∧ vi = .int .i64 k ∧ Hid ((xs.take k).any P = false) ∧ Below w.heap.size w wr) (fun vi _ => xs.length - (intOf vi).toNat)
    case atStart => exact ⟨0, Nat.zero_le _, rfl, rfl, Below.refl _ _⟩
    case round =>
      obtain ⟨k, hk, rfl, hA, hB⟩ := hrel
      by_cases hlt : k < xs.length
      · have hc1 := (hB.cell (p := ⟨g, off + k, none⟩) hg).trans (HC.out k hlt)
        have HA : Hid (Calls Tryz.prog 61 #[.string xs[k]] wr fun e w' => e = .returned (.bool (P xs[k])) ∧ Below wr.heap.size wr w') := HFH.out k hlt wr hB
        have hY : Hid (P xs[k] = true → idxP P xs = k) := fun q => idxP_at P xs k hlt hA.out q
        have hN : Hid (P xs[k] = false → (xs.take (k + 1)).any P = false) := fun q => any_snoc hlt hA.out q
        generalize P xs[k] = b at *
        generalize xs[k] = x at *
        go_wp2_with fail
        refine HA.out.mono ?_
        rintro e w2 ⟨rfl, B2⟩
        have hB2 := hB.trans (B2.mono hB.size)
        clear HA hB B2 hc1
        cases b
        · have hN2 : Hid ((xs.take (k + 1)).any P = false) := hN.out rfl
          clear hN hY
          go_wp2
          go_roundw
          case rel => exact ⟨k + 1, by omega, by go_num, hN2, hB2⟩
          case measure => simp [intOf]; omega
        · have hY2 : Hid (idxP P xs = k) := hY.out rfl
          clear hN hY
          go_wp2
          go_ret
          exact ⟨ret_i hY2.out.symm, hB2⟩
      · have hk' : k = xs.length := by omega
        have h := hA.out
        rw [hk', List.take_length] at h
        have HI : Hid (idxP P xs = -1) := idxP_none P xs h
        clear h hk'
        go_wp2
        go_ret
        exact ⟨ret_i HI.out.symm, hB⟩

set_option maxHeartbeats 1000000 in
theorem cont_whost (P : ByteArray → Bool) (xs : List ByteArray) (a : Option Addr) (c : Nat) (w : World) (hf : Txs w.heap.size w (.slice a xs.length c) xs)
    (HF : ∀ (k : Nat) (hk : k < xs.length) (W : World), Below w.heap.size w W → Calls Tryz.prog 61 #[.string xs[k]] W fun e w' => e = .returned (.bool (P xs[k])) ∧ Below W.heap.size W w') :
    Calls Tryz.prog 60 #[.slice a xs.length c, .func (.func 61) #[] #[]] w fun e w' => e = .returned (.bool (xs.any P)) ∧ Below w.heap.size w w' := by
  have HI : Hid (Calls Tryz.prog 70 #[.slice a xs.length c, .func (.func 61) #[] #[]] w fun e w' => e = .returned (.int .i64 (idxP P xs)) ∧ Below w.heap.size w w') := idx_whost P xs a c w hf HF
  have HD : Hid (decide (0 ≤ idxP P xs) = xs.any P) := idxP_any P xs
  clear hf HF
  generalize idxP P xs = i at *
  generalize xs.any P = t at *
  go_enter Tryz.func60, Tryz.ntmps60
  go_wp2_with fail
  refine HI.out.mono ?_
  rintro e w2 ⟨rfl, B2⟩
  go_wp2
  go_ret
  exact ⟨ret_b HD.out, B2⟩

set_option maxRecDepth 100000 in
set_option maxHeartbeats 1000000 in
theorem idx_wrong (P : SlotP → Bool) (xs : List SlotP) (a : Option Addr) (c : Nat) (w : World) (hf : Sls w.heap.size w (.slice a xs.length c) xs)
    (HF : ∀ (k : Nat) (hk : k < xs.length) (W : World), Below w.heap.size w W → ∀ (ha : Option Addr) (hc : Nat), Txs w.heap.size W (.slice ha xs[k].h.length hc) xs[k].h → Calls Tryz.prog 29 #[.agg #[.string xs[k].n, .slice ha xs[k].h.length hc, .int .i64 xs[k].q, .int .i64 xs[k].c, .int .i64 xs[k].p, .int .i64 xs[k].r, .int .i64 xs[k].b, .int .i64 xs[k].u]] W fun e w' => e = .returned (.bool (P xs[k])) ∧ Below W.heap.size W w') :
    Calls Tryz.prog 33 #[.slice a xs.length c, .func (.func 29) #[] #[]] w fun e w' => e = .returned (.int .i64 (idxP P xs)) ∧ Below w.heap.size w w' := by
  have hlm := hf.len
  unfold maxLen at hlm
  rcases Nat.eq_zero_or_pos xs.length with h0 | hp
  · have he : xs = [] := List.eq_nil_of_length_eq_zero h0
    subst he
    clear hf h0 hlm HF
    go_enter Tryz.func33, Tryz.ntmps33
    go_wp2_with fail
    refine wp_loop_rounds 1 ?_
    rw [rounds_succ]
    go_wp2
    go_ret
    exact ⟨rfl, Below.refl _ _⟩
  · obtain ⟨a', c', e, hnil, q1, q2, q3⟩ := hf
    obtain ⟨rfl, _, rfl⟩ := slice_inj e
    obtain ⟨g, off, rfl, hg, hc⟩ := q3 hp
    have HC : Hid (∀ (j : Nat) (hj : j < xs.length), SlotAt w.heap.size w g (off + j * 8) xs[j]) := hc
    have HFH : Hid (∀ (k : Nat) (hk : k < xs.length) (W : World), Below w.heap.size w W → ∀ (ha : Option Addr) (hc : Nat), Txs w.heap.size W (.slice ha xs[k].h.length hc) xs[k].h → Calls Tryz.prog 29 #[.agg #[.string xs[k].n, .slice ha xs[k].h.length hc, .int .i64 xs[k].q, .int .i64 xs[k].c, .int .i64 xs[k].p, .int .i64 xs[k].r, .int .i64 xs[k].b, .int .i64 xs[k].u]] W fun e w' => e = .returned (.bool (P xs[k])) ∧ Below W.heap.size W w') := HF
    have hln : xs.length ≤ 9223372036854775807 := by omega
    clear e hnil q1 q2 q3 hlm hc HF
    go_enter Tryz.func33, Tryz.ntmps33
    go_wp2_with fail
    go_loopw [8] (fun vi wr => ∃ k : Nat, k ≤ xs.length ∧ vi = .int .i64 k ∧ Hid ((xs.take k).any P = false) ∧ Below w.heap.size w wr) (fun vi _ => xs.length - (intOf vi).toNat)
    case atStart => exact ⟨0, Nat.zero_le _, rfl, rfl, Below.refl _ _⟩
    case round =>
      obtain ⟨k, hk, rfl, hA, hB⟩ := hrel
      by_cases hlt : k < xs.length
      · obtain ⟨ha, hc, d0, d1, d2, d3, d4, d5, d6, d7, dt⟩ := (HC.out k hlt).keep hg hB
        have HA : Hid (Calls Tryz.prog 29 #[.agg #[.string xs[k].n, .slice ha xs[k].h.length hc, .int .i64 xs[k].q, .int .i64 xs[k].c, .int .i64 xs[k].p, .int .i64 xs[k].r, .int .i64 xs[k].b, .int .i64 xs[k].u]] wr fun e w' => e = .returned (.bool (P xs[k])) ∧ Below wr.heap.size wr w') := HFH.out k hlt wr hB ha hc dt
        have hY : Hid (P xs[k] = true → idxP P xs = k) := fun q => idxP_at P xs k hlt hA.out q
        have hN : Hid (P xs[k] = false → (xs.take (k + 1)).any P = false) := fun q => any_snoc hlt hA.out q
        generalize P xs[k] = b at *
        generalize xs[k] = x at *
        obtain ⟨x0, x1, x2, x3, x4, x5, x6, x7⟩ := x
        simp only at d0 d1 d2 d3 d4 d5 d6 d7 HA
        generalize x1.length = xl at *
        clear dt
        go_wp2_with fail
        refine HA.out.mono ?_
        rintro e w2 ⟨rfl, B2⟩
        have hB2 := hB.trans (B2.mono hB.size)
        clear HA hB B2 d0 d1 d2 d3 d4 d5 d6 d7
        cases b
        · have hN2 : Hid ((xs.take (k + 1)).any P = false) := hN.out rfl
          clear hN hY
          go_wp2
          go_roundw
          case rel => exact ⟨k + 1, by omega, by go_num, hN2, hB2⟩
          case measure => simp [intOf]; omega
        · have hY2 : Hid (idxP P xs = k) := hY.out rfl
          clear hN hY
          go_wp2
          go_ret
          exact ⟨ret_i hY2.out.symm, hB2⟩
      · have hk' : k = xs.length := by omega
        have h := hA.out
        rw [hk', List.take_length] at h
        have HI : Hid (idxP P xs = -1) := idxP_none P xs h
        clear h hk'
        go_wp2
        go_ret
        exact ⟨ret_i HI.out.symm, hB⟩

set_option maxHeartbeats 1000000 in
theorem cont_wrong (P : SlotP → Bool) (xs : List SlotP) (a : Option Addr) (c : Nat) (w : World) (hf : Sls w.heap.size w (.slice a xs.length c) xs)
    (HF : ∀ (k : Nat) (hk : k < xs.length) (W : World), Below w.heap.size w W → ∀ (ha : Option Addr) (hc : Nat), Txs w.heap.size W (.slice ha xs[k].h.length hc) xs[k].h → Calls Tryz.prog 29 #[.agg #[.string xs[k].n, .slice ha xs[k].h.length hc, .int .i64 xs[k].q, .int .i64 xs[k].c, .int .i64 xs[k].p, .int .i64 xs[k].r, .int .i64 xs[k].b, .int .i64 xs[k].u]] W fun e w' => e = .returned (.bool (P xs[k])) ∧ Below W.heap.size W w') :
    Calls Tryz.prog 28 #[.slice a xs.length c, .func (.func 29) #[] #[]] w fun e w' => e = .returned (.bool (xs.any P)) ∧ Below w.heap.size w w' := by
  have HI : Hid (Calls Tryz.prog 33 #[.slice a xs.length c, .func (.func 29) #[] #[]] w fun e w' => e = .returned (.int .i64 (idxP P xs)) ∧ Below w.heap.size w w') := idx_wrong P xs a c w hf HF
  have HD : Hid (decide (0 ≤ idxP P xs) = xs.any P) := idxP_any P xs
  clear hf HF
  generalize idxP P xs = i at *
  generalize xs.any P = t at *
  go_enter Tryz.func28, Tryz.ntmps28
  go_wp2_with fail
  refine HI.out.mono ?_
  rintro e w2 ⟨rfl, B2⟩
  go_wp2
  go_ret
  exact ⟨ret_b HD.out, B2⟩

def rhB (hs : List ByteArray) : Bool := decide (1 ≤ hs.length) && decide (hs.length ≤ 8) && !hs.any whB
set_option maxHeartbeats 1000000 in
theorem rhosts_any (xs : List ByteArray) (a : Option Addr) (c : Nat) (w : World) (hf : Txs w.heap.size w (.slice a xs.length c) xs) (hb : TBd 140737488355328 xs) :
    Calls Tryz.prog 49 #[.slice a xs.length c] w fun e w' => e = .returned (.bool (rhB xs)) ∧ Below w.heap.size w w' := by
  have HC : Hid (Calls Tryz.prog 60 #[.slice a xs.length c, .func (.func 61) #[] #[]] w fun e w' => e = .returned (.bool (xs.any whB)) ∧ Below w.heap.size w w') := cont_whost whB xs a c w hf (fun k hk W _ => whost_any xs[k] W (by have := hb xs[k] (List.getElem_mem hk); unfold maxLen; omega))
  have HW : Hid (Calls Tryz.prog 27 #[.int .i64 (xs.length : Int), .int .i64 1, .int .i64 8] w fun e w' => e = .returned (.bool (decide (1 ≤ xs.length) && decide (xs.length ≤ 8))) ∧ w' = w) := by
    have k := within_any xs.length 1 8 w
    have e : wiB xs.length 1 8 = (decide (1 ≤ xs.length) && decide (xs.length ≤ 8)) := by
      unfold wiB
      congr 1 <;> (apply decide_eq_decide.2; omega)
    rwa [e] at k
  have hlm := hf.len
  unfold maxLen at hlm
  unfold rhB
  clear hf hb
  generalize (decide (1 ≤ xs.length) && decide (xs.length ≤ 8)) = b1 at *
  generalize xs.any whB = b2 at *
  cases b1
  · rw [Bool.false_and]
    go_enter Tryz.func49, Tryz.ntmps49
    go_wp2_with fail
    refine HW.out.mono ?_
    rintro e w1 ⟨rfl, rfl⟩
    go_wp2
    go_ret
    exact ⟨rfl, Below.refl _ _⟩
  · rw [Bool.true_and]
    go_enter Tryz.func49, Tryz.ntmps49
    go_wp2_with fail
    refine HW.out.mono ?_
    rintro e w1 ⟨rfl, rfl⟩
    go_wp2_with fail
    refine HC.out.mono ?_
    rintro e w2 ⟨rfl, B2⟩
    go_wp2
    go_ret
    exact ⟨rfl, B2⟩
end Go.Proofs.YthmhaflkkigenaaGreatDoor

/- wrong, names, hosts (written by tbd.py). -/
namespace Go.Proofs.YthmhaflkkigenaaGreatDoor
open Go.ChangeShapes Go.WideShapes Go.ChangeAt Go.RowKit
set_option linter.unusedVariables false

/-- Is a slot not right by itself? -/
def wrS (s : SlotP) : Bool := !(nameP s.n && (rhB s.h && (wiB s.q 256 1048576 && (wiB s.c 1 64 && (wiB s.p 1 64 && (wiB s.r 1 1048576 && (wiB s.b 1 1048576 && (wiB s.u 1 1048576))))))))
set_option maxRecDepth 100000 in
set_option maxHeartbeats 2000000 in
theorem wrong_any (s : SlotP) (ha : Option Addr) (hc : Nat) (w : World) (ht : Txs w.heap.size w (.slice ha s.h.length hc) s.h) (hb : SBd s) :
    Calls Tryz.prog 29 #[.agg #[.string s.n, .slice ha s.h.length hc, .int .i64 s.q, .int .i64 s.c, .int .i64 s.p, .int .i64 s.r, .int .i64 s.b, .int .i64 s.u]] w fun e w' => e = .returned (.bool (wrS s)) ∧ Below w.heap.size w w' := by
  have hB0 : Below w.heap.size w (w.alloc (.cells #[.string s.n, .slice ha s.h.length hc, .int .i64 s.q, .int .i64 s.c, .int .i64 s.p, .int .i64 s.r, .int .i64 s.b, .int .i64 s.u] 35)) := (Below.refl _ _).alloc (Nat.le_refl _) _
  have H0 : Hid (Calls Tryz.prog 8 #[.string s.n] (w.alloc (.cells #[.string s.n, .slice ha s.h.length hc, .int .i64 s.q, .int .i64 s.c, .int .i64 s.p, .int .i64 s.r, .int .i64 s.b, .int .i64 s.u] 35)) fun e w' => e = .returned (.bool (nameP s.n)) ∧ w' = w.alloc (.cells #[.string s.n, .slice ha s.h.length hc, .int .i64 s.q, .int .i64 s.c, .int .i64 s.p, .int .i64 s.r, .int .i64 s.b, .int .i64 s.u] 35)) := name_any s.n _ (by have := hb.n; unfold maxLen; omega)
  have H1 : Hid (Calls Tryz.prog 49 #[.slice ha s.h.length hc] (w.alloc (.cells #[.string s.n, .slice ha s.h.length hc, .int .i64 s.q, .int .i64 s.c, .int .i64 s.p, .int .i64 s.r, .int .i64 s.b, .int .i64 s.u] 35)) fun e w' => e = .returned (.bool (rhB s.h)) ∧ Below (w.alloc (.cells #[.string s.n, .slice ha s.h.length hc, .int .i64 s.q, .int .i64 s.c, .int .i64 s.p, .int .i64 s.r, .int .i64 s.b, .int .i64 s.u] 35)).heap.size (w.alloc (.cells #[.string s.n, .slice ha s.h.length hc, .int .i64 s.q, .int .i64 s.c, .int .i64 s.p, .int .i64 s.r, .int .i64 s.b, .int .i64 s.u] 35)) w') := rhosts_any s.h ha hc _ ((ht.keep hB0).mono hB0.size) hb.h
  have H2 : Hid (∀ W, Calls Tryz.prog 27 #[.int .i64 s.q, .int .i64 256, .int .i64 1048576] W fun e w' => e = .returned (.bool (wiB s.q 256 1048576)) ∧ w' = W) := fun W => within_any _ _ _ W
  have H3 : Hid (∀ W, Calls Tryz.prog 27 #[.int .i64 s.c, .int .i64 1, .int .i64 64] W fun e w' => e = .returned (.bool (wiB s.c 1 64)) ∧ w' = W) := fun W => within_any _ _ _ W
  have H4 : Hid (∀ W, Calls Tryz.prog 27 #[.int .i64 s.p, .int .i64 1, .int .i64 64] W fun e w' => e = .returned (.bool (wiB s.p 1 64)) ∧ w' = W) := fun W => within_any _ _ _ W
  have H5 : Hid (∀ W, Calls Tryz.prog 27 #[.int .i64 s.r, .int .i64 1, .int .i64 1048576] W fun e w' => e = .returned (.bool (wiB s.r 1 1048576)) ∧ w' = W) := fun W => within_any _ _ _ W
  have H6 : Hid (∀ W, Calls Tryz.prog 27 #[.int .i64 s.b, .int .i64 1, .int .i64 1048576] W fun e w' => e = .returned (.bool (wiB s.b 1 1048576)) ∧ w' = W) := fun W => within_any _ _ _ W
  have H7 : Hid (∀ W, Calls Tryz.prog 27 #[.int .i64 s.u, .int .i64 1, .int .i64 1048576] W fun e w' => e = .returned (.bool (wiB s.u 1 1048576)) ∧ w' = W) := fun W => within_any _ _ _ W
  have N0 := new_at w (.cells #[.string s.n, .slice ha s.h.length hc, .int .i64 s.q, .int .i64 s.c, .int .i64 s.p, .int .i64 s.r, .int .i64 s.b, .int .i64 s.u] 35)
  have c2 : (w.alloc (.cells #[.string s.n, .slice ha s.h.length hc, .int .i64 s.q, .int .i64 s.c, .int .i64 s.p, .int .i64 s.r, .int .i64 s.b, .int .i64 s.u] 35)).cell? ⟨w.heap.size, 2, none⟩ = some (.int .i64 s.q) := ring_cell N0 rfl
  have c3 : (w.alloc (.cells #[.string s.n, .slice ha s.h.length hc, .int .i64 s.q, .int .i64 s.c, .int .i64 s.p, .int .i64 s.r, .int .i64 s.b, .int .i64 s.u] 35)).cell? ⟨w.heap.size, 3, none⟩ = some (.int .i64 s.c) := ring_cell N0 rfl
  have c4 : (w.alloc (.cells #[.string s.n, .slice ha s.h.length hc, .int .i64 s.q, .int .i64 s.c, .int .i64 s.p, .int .i64 s.r, .int .i64 s.b, .int .i64 s.u] 35)).cell? ⟨w.heap.size, 4, none⟩ = some (.int .i64 s.p) := ring_cell N0 rfl
  have c5 : (w.alloc (.cells #[.string s.n, .slice ha s.h.length hc, .int .i64 s.q, .int .i64 s.c, .int .i64 s.p, .int .i64 s.r, .int .i64 s.b, .int .i64 s.u] 35)).cell? ⟨w.heap.size, 5, none⟩ = some (.int .i64 s.r) := ring_cell N0 rfl
  have c6 : (w.alloc (.cells #[.string s.n, .slice ha s.h.length hc, .int .i64 s.q, .int .i64 s.c, .int .i64 s.p, .int .i64 s.r, .int .i64 s.b, .int .i64 s.u] 35)).cell? ⟨w.heap.size, 6, none⟩ = some (.int .i64 s.b) := ring_cell N0 rfl
  have c7 : (w.alloc (.cells #[.string s.n, .slice ha s.h.length hc, .int .i64 s.q, .int .i64 s.c, .int .i64 s.p, .int .i64 s.r, .int .i64 s.b, .int .i64 s.u] 35)).cell? ⟨w.heap.size, 7, none⟩ = some (.int .i64 s.u) := ring_cell N0 rfl
  unfold wrS
  clear N0 ht hb
  generalize nameP s.n = b0 at *
  generalize rhB s.h = b1 at *
  generalize wiB s.q 256 1048576 = b2 at *
  generalize wiB s.c 1 64 = b3 at *
  generalize wiB s.p 1 64 = b4 at *
  generalize wiB s.r 1 1048576 = b5 at *
  generalize wiB s.b 1 1048576 = b6 at *
  generalize wiB s.u 1 1048576 = b7 at *
  generalize s.h.length = hl at *
  generalize s.q = s2 at *
  generalize s.c = s3 at *
  generalize s.p = s4 at *
  generalize s.r = s5 at *
  generalize s.b = s6 at *
  generalize s.u = s7 at *
  generalize s.n = s0 at *
  cases b0
  · go_enter Tryz.func29, Tryz.ntmps29
    go_wp2_with fail
    refine (H0.out).mono ?_
    rintro e w1 ⟨rfl, rfl⟩
    go_wp2
    go_ret
    exact ⟨rfl, hB0⟩
  · cases b1
    · go_enter Tryz.func29, Tryz.ntmps29
      go_wp2_with fail
      refine (H0.out).mono ?_
      rintro e w1 ⟨rfl, rfl⟩
      go_wp2_with fail
      refine H1.out.mono ?_
      rintro e w2 ⟨rfl, B2⟩
      have C2 := hB0.trans (B2.mono hB0.size)
      have d2 : w2.cell? ⟨w.heap.size, 2, none⟩ = some (.int .i64 s2) := (B2.cell (p := ⟨w.heap.size, 2, none⟩) (by simp)).trans c2
      have d3 : w2.cell? ⟨w.heap.size, 3, none⟩ = some (.int .i64 s3) := (B2.cell (p := ⟨w.heap.size, 3, none⟩) (by simp)).trans c3
      have d4 : w2.cell? ⟨w.heap.size, 4, none⟩ = some (.int .i64 s4) := (B2.cell (p := ⟨w.heap.size, 4, none⟩) (by simp)).trans c4
      have d5 : w2.cell? ⟨w.heap.size, 5, none⟩ = some (.int .i64 s5) := (B2.cell (p := ⟨w.heap.size, 5, none⟩) (by simp)).trans c5
      have d6 : w2.cell? ⟨w.heap.size, 6, none⟩ = some (.int .i64 s6) := (B2.cell (p := ⟨w.heap.size, 6, none⟩) (by simp)).trans c6
      have d7 : w2.cell? ⟨w.heap.size, 7, none⟩ = some (.int .i64 s7) := (B2.cell (p := ⟨w.heap.size, 7, none⟩) (by simp)).trans c7
      clear H1 B2
      go_wp2
      go_ret
      exact ⟨rfl, C2⟩
    · cases b2
      · go_enter Tryz.func29, Tryz.ntmps29
        go_wp2_with fail
        refine (H0.out).mono ?_
        rintro e w1 ⟨rfl, rfl⟩
        go_wp2_with fail
        refine H1.out.mono ?_
        rintro e w2 ⟨rfl, B2⟩
        have C2 := hB0.trans (B2.mono hB0.size)
        have d2 : w2.cell? ⟨w.heap.size, 2, none⟩ = some (.int .i64 s2) := (B2.cell (p := ⟨w.heap.size, 2, none⟩) (by simp)).trans c2
        have d3 : w2.cell? ⟨w.heap.size, 3, none⟩ = some (.int .i64 s3) := (B2.cell (p := ⟨w.heap.size, 3, none⟩) (by simp)).trans c3
        have d4 : w2.cell? ⟨w.heap.size, 4, none⟩ = some (.int .i64 s4) := (B2.cell (p := ⟨w.heap.size, 4, none⟩) (by simp)).trans c4
        have d5 : w2.cell? ⟨w.heap.size, 5, none⟩ = some (.int .i64 s5) := (B2.cell (p := ⟨w.heap.size, 5, none⟩) (by simp)).trans c5
        have d6 : w2.cell? ⟨w.heap.size, 6, none⟩ = some (.int .i64 s6) := (B2.cell (p := ⟨w.heap.size, 6, none⟩) (by simp)).trans c6
        have d7 : w2.cell? ⟨w.heap.size, 7, none⟩ = some (.int .i64 s7) := (B2.cell (p := ⟨w.heap.size, 7, none⟩) (by simp)).trans c7
        clear H1 B2
        go_wp2_with fail
        refine (H2.out _).mono ?_
        rintro e w3 ⟨rfl, rfl⟩
        go_wp2
        go_ret
        exact ⟨rfl, C2⟩
      · cases b3
        · go_enter Tryz.func29, Tryz.ntmps29
          go_wp2_with fail
          refine (H0.out).mono ?_
          rintro e w1 ⟨rfl, rfl⟩
          go_wp2_with fail
          refine H1.out.mono ?_
          rintro e w2 ⟨rfl, B2⟩
          have C2 := hB0.trans (B2.mono hB0.size)
          have d2 : w2.cell? ⟨w.heap.size, 2, none⟩ = some (.int .i64 s2) := (B2.cell (p := ⟨w.heap.size, 2, none⟩) (by simp)).trans c2
          have d3 : w2.cell? ⟨w.heap.size, 3, none⟩ = some (.int .i64 s3) := (B2.cell (p := ⟨w.heap.size, 3, none⟩) (by simp)).trans c3
          have d4 : w2.cell? ⟨w.heap.size, 4, none⟩ = some (.int .i64 s4) := (B2.cell (p := ⟨w.heap.size, 4, none⟩) (by simp)).trans c4
          have d5 : w2.cell? ⟨w.heap.size, 5, none⟩ = some (.int .i64 s5) := (B2.cell (p := ⟨w.heap.size, 5, none⟩) (by simp)).trans c5
          have d6 : w2.cell? ⟨w.heap.size, 6, none⟩ = some (.int .i64 s6) := (B2.cell (p := ⟨w.heap.size, 6, none⟩) (by simp)).trans c6
          have d7 : w2.cell? ⟨w.heap.size, 7, none⟩ = some (.int .i64 s7) := (B2.cell (p := ⟨w.heap.size, 7, none⟩) (by simp)).trans c7
          clear H1 B2
          go_wp2_with fail
          refine (H2.out _).mono ?_
          rintro e w3 ⟨rfl, rfl⟩
          go_wp2_with fail
          refine (H3.out _).mono ?_
          rintro e w3 ⟨rfl, rfl⟩
          go_wp2
          go_ret
          exact ⟨rfl, C2⟩
        · cases b4
          · go_enter Tryz.func29, Tryz.ntmps29
            go_wp2_with fail
            refine (H0.out).mono ?_
            rintro e w1 ⟨rfl, rfl⟩
            go_wp2_with fail
            refine H1.out.mono ?_
            rintro e w2 ⟨rfl, B2⟩
            have C2 := hB0.trans (B2.mono hB0.size)
            have d2 : w2.cell? ⟨w.heap.size, 2, none⟩ = some (.int .i64 s2) := (B2.cell (p := ⟨w.heap.size, 2, none⟩) (by simp)).trans c2
            have d3 : w2.cell? ⟨w.heap.size, 3, none⟩ = some (.int .i64 s3) := (B2.cell (p := ⟨w.heap.size, 3, none⟩) (by simp)).trans c3
            have d4 : w2.cell? ⟨w.heap.size, 4, none⟩ = some (.int .i64 s4) := (B2.cell (p := ⟨w.heap.size, 4, none⟩) (by simp)).trans c4
            have d5 : w2.cell? ⟨w.heap.size, 5, none⟩ = some (.int .i64 s5) := (B2.cell (p := ⟨w.heap.size, 5, none⟩) (by simp)).trans c5
            have d6 : w2.cell? ⟨w.heap.size, 6, none⟩ = some (.int .i64 s6) := (B2.cell (p := ⟨w.heap.size, 6, none⟩) (by simp)).trans c6
            have d7 : w2.cell? ⟨w.heap.size, 7, none⟩ = some (.int .i64 s7) := (B2.cell (p := ⟨w.heap.size, 7, none⟩) (by simp)).trans c7
            clear H1 B2
            go_wp2_with fail
            refine (H2.out _).mono ?_
            rintro e w3 ⟨rfl, rfl⟩
            go_wp2_with fail
            refine (H3.out _).mono ?_
            rintro e w3 ⟨rfl, rfl⟩
            go_wp2_with fail
            refine (H4.out _).mono ?_
            rintro e w3 ⟨rfl, rfl⟩
            go_wp2
            go_ret
            exact ⟨rfl, C2⟩
          · cases b5
            · go_enter Tryz.func29, Tryz.ntmps29
              go_wp2_with fail
              refine (H0.out).mono ?_
              rintro e w1 ⟨rfl, rfl⟩
              go_wp2_with fail
              refine H1.out.mono ?_
              rintro e w2 ⟨rfl, B2⟩
              have C2 := hB0.trans (B2.mono hB0.size)
              have d2 : w2.cell? ⟨w.heap.size, 2, none⟩ = some (.int .i64 s2) := (B2.cell (p := ⟨w.heap.size, 2, none⟩) (by simp)).trans c2
              have d3 : w2.cell? ⟨w.heap.size, 3, none⟩ = some (.int .i64 s3) := (B2.cell (p := ⟨w.heap.size, 3, none⟩) (by simp)).trans c3
              have d4 : w2.cell? ⟨w.heap.size, 4, none⟩ = some (.int .i64 s4) := (B2.cell (p := ⟨w.heap.size, 4, none⟩) (by simp)).trans c4
              have d5 : w2.cell? ⟨w.heap.size, 5, none⟩ = some (.int .i64 s5) := (B2.cell (p := ⟨w.heap.size, 5, none⟩) (by simp)).trans c5
              have d6 : w2.cell? ⟨w.heap.size, 6, none⟩ = some (.int .i64 s6) := (B2.cell (p := ⟨w.heap.size, 6, none⟩) (by simp)).trans c6
              have d7 : w2.cell? ⟨w.heap.size, 7, none⟩ = some (.int .i64 s7) := (B2.cell (p := ⟨w.heap.size, 7, none⟩) (by simp)).trans c7
              clear H1 B2
              go_wp2_with fail
              refine (H2.out _).mono ?_
              rintro e w3 ⟨rfl, rfl⟩
              go_wp2_with fail
              refine (H3.out _).mono ?_
              rintro e w3 ⟨rfl, rfl⟩
              go_wp2_with fail
              refine (H4.out _).mono ?_
              rintro e w3 ⟨rfl, rfl⟩
              go_wp2_with fail
              refine (H5.out _).mono ?_
              rintro e w3 ⟨rfl, rfl⟩
              go_wp2
              go_ret
              exact ⟨rfl, C2⟩
            · cases b6
              · go_enter Tryz.func29, Tryz.ntmps29
                go_wp2_with fail
                refine (H0.out).mono ?_
                rintro e w1 ⟨rfl, rfl⟩
                go_wp2_with fail
                refine H1.out.mono ?_
                rintro e w2 ⟨rfl, B2⟩
                have C2 := hB0.trans (B2.mono hB0.size)
                have d2 : w2.cell? ⟨w.heap.size, 2, none⟩ = some (.int .i64 s2) := (B2.cell (p := ⟨w.heap.size, 2, none⟩) (by simp)).trans c2
                have d3 : w2.cell? ⟨w.heap.size, 3, none⟩ = some (.int .i64 s3) := (B2.cell (p := ⟨w.heap.size, 3, none⟩) (by simp)).trans c3
                have d4 : w2.cell? ⟨w.heap.size, 4, none⟩ = some (.int .i64 s4) := (B2.cell (p := ⟨w.heap.size, 4, none⟩) (by simp)).trans c4
                have d5 : w2.cell? ⟨w.heap.size, 5, none⟩ = some (.int .i64 s5) := (B2.cell (p := ⟨w.heap.size, 5, none⟩) (by simp)).trans c5
                have d6 : w2.cell? ⟨w.heap.size, 6, none⟩ = some (.int .i64 s6) := (B2.cell (p := ⟨w.heap.size, 6, none⟩) (by simp)).trans c6
                have d7 : w2.cell? ⟨w.heap.size, 7, none⟩ = some (.int .i64 s7) := (B2.cell (p := ⟨w.heap.size, 7, none⟩) (by simp)).trans c7
                clear H1 B2
                go_wp2_with fail
                refine (H2.out _).mono ?_
                rintro e w3 ⟨rfl, rfl⟩
                go_wp2_with fail
                refine (H3.out _).mono ?_
                rintro e w3 ⟨rfl, rfl⟩
                go_wp2_with fail
                refine (H4.out _).mono ?_
                rintro e w3 ⟨rfl, rfl⟩
                go_wp2_with fail
                refine (H5.out _).mono ?_
                rintro e w3 ⟨rfl, rfl⟩
                go_wp2_with fail
                refine (H6.out _).mono ?_
                rintro e w3 ⟨rfl, rfl⟩
                go_wp2
                go_ret
                exact ⟨rfl, C2⟩
              · cases b7
                · go_enter Tryz.func29, Tryz.ntmps29
                  go_wp2_with fail
                  refine (H0.out).mono ?_
                  rintro e w1 ⟨rfl, rfl⟩
                  go_wp2_with fail
                  refine H1.out.mono ?_
                  rintro e w2 ⟨rfl, B2⟩
                  have C2 := hB0.trans (B2.mono hB0.size)
                  have d2 : w2.cell? ⟨w.heap.size, 2, none⟩ = some (.int .i64 s2) := (B2.cell (p := ⟨w.heap.size, 2, none⟩) (by simp)).trans c2
                  have d3 : w2.cell? ⟨w.heap.size, 3, none⟩ = some (.int .i64 s3) := (B2.cell (p := ⟨w.heap.size, 3, none⟩) (by simp)).trans c3
                  have d4 : w2.cell? ⟨w.heap.size, 4, none⟩ = some (.int .i64 s4) := (B2.cell (p := ⟨w.heap.size, 4, none⟩) (by simp)).trans c4
                  have d5 : w2.cell? ⟨w.heap.size, 5, none⟩ = some (.int .i64 s5) := (B2.cell (p := ⟨w.heap.size, 5, none⟩) (by simp)).trans c5
                  have d6 : w2.cell? ⟨w.heap.size, 6, none⟩ = some (.int .i64 s6) := (B2.cell (p := ⟨w.heap.size, 6, none⟩) (by simp)).trans c6
                  have d7 : w2.cell? ⟨w.heap.size, 7, none⟩ = some (.int .i64 s7) := (B2.cell (p := ⟨w.heap.size, 7, none⟩) (by simp)).trans c7
                  clear H1 B2
                  go_wp2_with fail
                  refine (H2.out _).mono ?_
                  rintro e w3 ⟨rfl, rfl⟩
                  go_wp2_with fail
                  refine (H3.out _).mono ?_
                  rintro e w3 ⟨rfl, rfl⟩
                  go_wp2_with fail
                  refine (H4.out _).mono ?_
                  rintro e w3 ⟨rfl, rfl⟩
                  go_wp2_with fail
                  refine (H5.out _).mono ?_
                  rintro e w3 ⟨rfl, rfl⟩
                  go_wp2_with fail
                  refine (H6.out _).mono ?_
                  rintro e w3 ⟨rfl, rfl⟩
                  go_wp2_with fail
                  refine (H7.out _).mono ?_
                  rintro e w3 ⟨rfl, rfl⟩
                  go_wp2
                  go_ret
                  exact ⟨rfl, C2⟩
                · go_enter Tryz.func29, Tryz.ntmps29
                  go_wp2_with fail
                  refine (H0.out).mono ?_
                  rintro e w1 ⟨rfl, rfl⟩
                  go_wp2_with fail
                  refine H1.out.mono ?_
                  rintro e w2 ⟨rfl, B2⟩
                  have C2 := hB0.trans (B2.mono hB0.size)
                  have d2 : w2.cell? ⟨w.heap.size, 2, none⟩ = some (.int .i64 s2) := (B2.cell (p := ⟨w.heap.size, 2, none⟩) (by simp)).trans c2
                  have d3 : w2.cell? ⟨w.heap.size, 3, none⟩ = some (.int .i64 s3) := (B2.cell (p := ⟨w.heap.size, 3, none⟩) (by simp)).trans c3
                  have d4 : w2.cell? ⟨w.heap.size, 4, none⟩ = some (.int .i64 s4) := (B2.cell (p := ⟨w.heap.size, 4, none⟩) (by simp)).trans c4
                  have d5 : w2.cell? ⟨w.heap.size, 5, none⟩ = some (.int .i64 s5) := (B2.cell (p := ⟨w.heap.size, 5, none⟩) (by simp)).trans c5
                  have d6 : w2.cell? ⟨w.heap.size, 6, none⟩ = some (.int .i64 s6) := (B2.cell (p := ⟨w.heap.size, 6, none⟩) (by simp)).trans c6
                  have d7 : w2.cell? ⟨w.heap.size, 7, none⟩ = some (.int .i64 s7) := (B2.cell (p := ⟨w.heap.size, 7, none⟩) (by simp)).trans c7
                  clear H1 B2
                  go_wp2_with fail
                  refine (H2.out _).mono ?_
                  rintro e w3 ⟨rfl, rfl⟩
                  go_wp2_with fail
                  refine (H3.out _).mono ?_
                  rintro e w3 ⟨rfl, rfl⟩
                  go_wp2_with fail
                  refine (H4.out _).mono ?_
                  rintro e w3 ⟨rfl, rfl⟩
                  go_wp2_with fail
                  refine (H5.out _).mono ?_
                  rintro e w3 ⟨rfl, rfl⟩
                  go_wp2_with fail
                  refine (H6.out _).mono ?_
                  rintro e w3 ⟨rfl, rfl⟩
                  go_wp2_with fail
                  refine (H7.out _).mono ?_
                  rintro e w3 ⟨rfl, rfl⟩
                  go_wp2
                  go_ret
                  exact ⟨rfl, C2⟩

def namesP (ts : List SlotP) : List ByteArray := ts.map (·.n)
def hostsP (ts : List SlotP) : List ByteArray := ts.flatMap (·.h)
end Go.Proofs.YthmhaflkkigenaaGreatDoor

/- names, hosts; distinct.All of texts. -/
namespace Go.Proofs.YthmhaflkkigenaaGreatDoor
open Go.ChangeShapes Go.WideShapes Go.ChangeAt Go.RowKit
set_option linter.unusedVariables false

theorem ret_sl {a : Option Addr} {n m c : Nat} (h : n = m) : Ending.returned (.slice a n c) = .returned (.slice a m c) := by rw [h]
set_option maxRecDepth 100000 in
set_option maxHeartbeats 2000000 in
theorem names_any (ts : List SlotP) (a : Option Addr) (c : Nat) (w : World) (hf : Sls w.heap.size w (.slice a ts.length c) ts) (hl : ts.length ≤ 1000000) :
    Calls Tryz.prog 31 #[.slice a ts.length c] w fun e w' => ∃ ao co, e = .returned (.slice ao (namesP ts).length co) ∧ OwnT w.heap.size w' (.slice ao (namesP ts).length co) (namesP ts) ∧ Below w.heap.size w w' := by
  rcases Nat.eq_zero_or_pos ts.length with h0 | hp
  · have he : ts = [] := List.eq_nil_of_length_eq_zero h0
    subst he
    clear hf hl h0
    go_enter Tryz.func31, Tryz.ntmps31
    go_wp2_with fail
    refine wp_loop_rounds 1 ?_
    rw [rounds_succ]
    go_wp2
    go_ret
    exact ⟨none, 0, rfl, OwnT.nil _ _, Below.refl _ _⟩
  · obtain ⟨a', c', e, hnil, q1, q2, q3⟩ := hf
    obtain ⟨rfl, _, rfl⟩ := slice_inj e
    obtain ⟨g, off, rfl, hg, hc⟩ := q3 hp
    have HC : Hid (∀ (j : Nat) (hj : j < ts.length), SlotAt w.heap.size w g (off + j * 8) ts[j]) := hc
    clear e hnil q1 q2 q3 hc
    have O0 := OwnT.nil w.heap.size w
    go_enter Tryz.func31, Tryz.ntmps31
    go_wp2_with fail
    go_loopw [3, 8] (fun v3 vi wr => ∃ (k : Nat) (ao : Option Addr) (co : Nat), k ≤ ts.length ∧ vi = .int .i64 k ∧ v3 = .slice ao k co ∧ Hid (OwnT w.heap.size wr v3 (namesP (ts.take k))) ∧ Below w.heap.size w wr) (fun _ vi _ => ts.length - (intOf vi).toNat)
    case atStart => exact ⟨0, none, 0, Nat.zero_le _, rfl, rfl, O0, Below.refl _ _⟩
    case round =>
      obtain ⟨k, ao, co, hk, rfl, rfl, hO, hB⟩ := hrel
      clear O0
      by_cases hlt : k < ts.length
      · obtain ⟨ha, hc, d0, d1, d2, d3, d4, d5, d6, d7, dt⟩ := (HC.out k hlt).keep hg hB
        have hsn : Hid (namesP (ts.take (k + 1)) = namesP (ts.take k) ++ [ts[k].n]) := by
          rw [Hid, List.take_succ_eq_append_getElem hlt]; unfold namesP; rw [List.map_append]; rfl
        have hnl : Hid ((namesP (ts.take (k + 1))).length = k + 1) := by rw [Hid]; simp [namesP]; omega
        have hnk : Hid ((namesP (ts.take k)).length = k) := by rw [Hid]; simp [namesP]; omega
        generalize ts[k] = x at *
        obtain ⟨x0, x1, x2, x3, x4, x5, x6, x7⟩ := x
        simp only at d0 d1 d2 d3 d4 d5 d6 d7 hsn
        generalize x1.length = xl at *
        clear dt
        have U : Below wr.heap.size wr (wr.alloc (.cells #[.string x0, .slice ha xl hc, .int .i64 x2, .int .i64 x3, .int .i64 x4, .int .i64 x5, .int .i64 x6, .int .i64 x7] 35)) := (Below.refl _ _).alloc (Nat.le_refl _) _
        have V := (Below.refl (wr.alloc (.cells #[.string x0, .slice ha xl hc, .int .i64 x2, .int .i64 x3, .int .i64 x4, .int .i64 x5, .int .i64 x6, .int .i64 x7] 35)).heap.size (wr.alloc (.cells #[.string x0, .slice ha xl hc, .int .i64 x2, .int .i64 x3, .int .i64 x4, .int .i64 x5, .int .i64 x6, .int .i64 x7] 35))).alloc (Nat.le_refl _) (.cells #[.string x0] 9)
        have hs1 : (wr.alloc (.cells #[.string x0, .slice ha xl hc, .int .i64 x2, .int .i64 x3, .int .i64 x4, .int .i64 x5, .int .i64 x6, .int .i64 x7] 35)).heap.size = wr.heap.size + 1 := by simp
        have OT := one_txs (wr.alloc (.cells #[.string x0, .slice ha xl hc, .int .i64 x2, .int .i64 x3, .int .i64 x4, .int .i64 x5, .int .i64 x6, .int .i64 x7] 35)) x0 _ (Nat.lt_succ_self _)
        rw [hs1] at OT
        obtain ⟨v3, w3, r3, O3, B3⟩ := ownT_append ((hO.out.keep U).keep V) OT (by rw [hnk.out]; show _ + 1 ≤ _; omega) (by have := hB.size; have := U.size; have := V.size; omega)
        rw [← hsn.out] at O3
        obtain ⟨a3, k3, hv3, _⟩ := O3.form
        rw [hnl.out] at hv3
        subst hv3
        have HO3 : Hid (OwnT w.heap.size w3 (.slice a3 (k + 1) k3) (namesP (ts.take (k + 1)))) := O3
        have C3 := ((hB.trans (U.mono hB.size)).trans (V.mono (by have := hB.size; have := U.size; omega))).trans B3
        clear O3 B3 OT U V hO
        go_wp2_with (at_builtin; refine wpList_append_run2 rfl _ _ 33 33 rfl _ _ _ w3 rfl rfl r3 ?_)
        go_roundw
        case rel => exact ⟨k + 1, a3, k3, by omega, by go_num, rfl, HO3, C3⟩
        case measure => simp [intOf]; omega
      · have hk' : k = ts.length := by omega
        have hO2 := hO.out
        rw [hk', List.take_length] at hO2
        have hnk : Hid ((namesP ts).length = k) := by rw [Hid]; simp [namesP]; omega
        have HO : Hid (OwnT w.heap.size wr (.slice ao k co) (namesP ts)) := by rw [Hid, hk']; exact hO2
        clear hO hO2
        go_wp2
        go_ret
        exact ⟨ao, co, ret_sl hnk.out.symm, by rw [hnk.out]; exact HO.out, hB⟩
set_option maxRecDepth 100000 in
set_option maxHeartbeats 2000000 in
theorem hosts_any (ts : List SlotP) (a : Option Addr) (c : Nat) (w : World) (hf : Sls w.heap.size w (.slice a ts.length c) ts) (hl : (hostsP ts).length ≤ 4294967296) :
    Calls Tryz.prog 32 #[.slice a ts.length c] w fun e w' => ∃ ao co, e = .returned (.slice ao (hostsP ts).length co) ∧ OwnT w.heap.size w' (.slice ao (hostsP ts).length co) (hostsP ts) ∧ Below w.heap.size w w' := by
  rcases Nat.eq_zero_or_pos ts.length with h0 | hp
  · have he : ts = [] := List.eq_nil_of_length_eq_zero h0
    subst he
    clear hf hl h0
    go_enter Tryz.func32, Tryz.ntmps32
    go_wp2_with fail
    refine wp_loop_rounds 1 ?_
    rw [rounds_succ]
    go_wp2
    go_ret
    exact ⟨none, 0, rfl, OwnT.nil _ _, Below.refl _ _⟩
  · obtain ⟨a', c', e, hnil, q1, q2, q3⟩ := hf
    obtain ⟨rfl, _, rfl⟩ := slice_inj e
    obtain ⟨g, off, rfl, hg, hc⟩ := q3 hp
    have HC : Hid (∀ (j : Nat) (hj : j < ts.length), SlotAt w.heap.size w g (off + j * 8) ts[j]) := hc
    have hln : ts.length ≤ 9223372036854775807 := by unfold maxLen at q2; omega
    clear e hnil q1 q2 q3 hc
    have O0 := OwnT.nil w.heap.size w
    go_enter Tryz.func32, Tryz.ntmps32
    go_wp2_with fail
    go_loopw [3, 8] (fun v3 vi wr => ∃ (k : Nat) (ao : Option Addr) (co : Nat), k ≤ ts.length ∧ vi = .int .i64 k ∧ v3 = .slice ao (hostsP (ts.take k)).length co ∧ Hid (OwnT w.heap.size wr v3 (hostsP (ts.take k))) ∧ Below w.heap.size w wr) (fun _ vi _ => ts.length - (intOf vi).toNat)
    case atStart => exact ⟨0, none, 0, Nat.zero_le _, rfl, rfl, O0, Below.refl _ _⟩
    case round =>
      obtain ⟨k, ao, co, hk, rfl, rfl, hO, hB⟩ := hrel
      clear O0
      by_cases hlt : k < ts.length
      · obtain ⟨ha, hc, d0, d1, d2, d3, d4, d5, d6, d7, dt⟩ := (HC.out k hlt).keep hg hB
        have hsn : Hid (hostsP (ts.take (k + 1)) = hostsP (ts.take k) ++ ts[k].h) := by
          rw [Hid, List.take_succ_eq_append_getElem hlt]; unfold hostsP; rw [List.flatMap_append]; simp
        have hnl : Hid ((hostsP (ts.take (k + 1))).length ≤ 4294967296) := by
          have e : hostsP ts = hostsP (ts.take (k + 1)) ++ hostsP (ts.drop (k + 1)) := by unfold hostsP; rw [← List.flatMap_append, List.take_append_drop]
          have := congrArg List.length e
          rw [List.length_append] at this
          rw [Hid]; omega
        generalize ts[k] = x at *
        obtain ⟨x0, x1, x2, x3, x4, x5, x6, x7⟩ := x
        simp only at d0 d1 d2 d3 d4 d5 d6 d7 hsn dt
        have hsl : Hid ((hostsP (ts.take (k + 1))).length = (hostsP (ts.take k)).length + x1.length) := by rw [Hid, hsn.out, List.length_append]
        have U : Below wr.heap.size wr (wr.alloc (.cells #[.string x0, .slice ha x1.length hc, .int .i64 x2, .int .i64 x3, .int .i64 x4, .int .i64 x5, .int .i64 x6, .int .i64 x7] 35)) := (Below.refl _ _).alloc (Nat.le_refl _) _
        obtain ⟨v3, w3, r3, O3, B3⟩ := ownT_append (hO.out.keep U) (dt.keep (U.mono hB.size)) (by have := hnl.out; have := hsl.out; omega) (by have := hB.size; have := U.size; omega)
        rw [← hsn.out] at O3
        obtain ⟨a3, k3, hv3, _⟩ := O3.form
        subst hv3
        have HO3 : Hid (OwnT w.heap.size w3 (.slice a3 (hostsP (ts.take (k + 1))).length k3) (hostsP (ts.take (k + 1)))) := O3
        have C3 := (hB.trans (U.mono hB.size)).trans B3
        clear O3 B3 U hO dt hsl hsn
        generalize x1.length = xl at *
        generalize (hostsP (ts.take k)).length = hl0 at *
        go_wp2_with (at_builtin; refine wpList_append_run2 rfl _ _ 33 33 rfl _ _ _ w3 rfl rfl r3 ?_)
        go_roundw
        case rel => exact ⟨k + 1, a3, k3, by omega, by go_num, rfl, HO3, C3⟩
        case measure => simp [intOf]; omega
      · have hk' : k = ts.length := by omega
        have hO2 := hO.out
        have e : Hid (hostsP (ts.take k) = hostsP ts) := by rw [Hid, hk', List.take_length]
        rw [e.out] at hO2
        have HO : Hid (OwnT w.heap.size wr (.slice ao (hostsP ts).length co) (hostsP ts)) := hO2
        clear hO hO2
        go_wp2
        go_ret
        exact ⟨ao, co, ret_sl (by rw [e.out]), HO.out, hB⟩


def keysL (xs : List ByteArray) : List (List UInt8) := xs.map (·.data.toList)
def dstB (xs : List ByteArray) : Bool := decide (keysL xs).Nodup
/-- The counts of the texts that were met. -/
def Cnt (D : DataW Nat) (ks : List (List UInt8)) : Prop := ∀ x : List UInt8, D.atKey (.string x) (.lit (.int .i64 0)) = .lit (.int .i64 (if x ∈ ks then 1 else 0))
theorem keysL_snoc (xs : List ByteArray) (k : Nat) (h : k < xs.length) : keysL (xs.take (k + 1)) = keysL (xs.take k) ++ [xs[k].data.toList] := by
  rw [List.take_succ_eq_append_getElem h]; unfold keysL; rw [List.map_append]; rfl
theorem dst_no (xs : List ByteArray) (k : Nat) (h : k < xs.length) (hm : xs[k].data.toList ∈ keysL (xs.take k)) : dstB xs = false := by
  refine decide_eq_false fun hn => ?_
  have e : keysL xs = keysL (xs.take k) ++ keysL (xs.drop k) := by unfold keysL; rw [← List.map_append, List.take_append_drop]
  rw [e, List.nodup_append] at hn
  refine hn.2.2 _ hm xs[k].data.toList ?_ rfl
  rw [List.drop_eq_getElem_cons h]
  unfold keysL
  rw [List.map_cons]
  exact List.mem_cons_self
theorem dst_snoc (xs : List ByteArray) (k : Nat) (h : k < xs.length) (hn : (keysL (xs.take k)).Nodup) (hm : ¬ xs[k].data.toList ∈ keysL (xs.take k)) : (keysL (xs.take (k + 1))).Nodup := by
  rw [keysL_snoc xs k h, List.nodup_append]
  refine ⟨hn, by simp, fun a ha b hb => ?_⟩
  rw [List.mem_singleton.1 hb]
  rintro rfl
  exact hm ha
theorem cnt_eq {c d : Int} {z : DataW Nat} (h : z = .lit (.int .i64 c)) (k : z = .lit (.int .i64 d)) : d = c := by
  rw [h] at k
  injection k with k
  injection k with _ k
  exact k.symm
theorem cnt_snoc (xs : List ByteArray) (k : Nat) (h : k < xs.length) {D : DataW Nat} (hC : Cnt D (keysL (xs.take k))) (hm : Maps.IsMap D) : Cnt (D.put (.string xs[k].data.toList) (.lit (.int .i64 1))) (keysL (xs.take (k + 1))) := by
  intro x
  by_cases e : x = xs[k].data.toList
  · subst e
    rw [Maps.atKey_put_same hm (by exact trivial), if_pos (by rw [keysL_snoc xs k h]; simp)]
  · rw [Maps.atKey_put_other (fun c => e (by injection c)), hC x]
    have : (x ∈ keysL (xs.take (k + 1))) ↔ (x ∈ keysL (xs.take k)) := by
      rw [keysL_snoc xs k h]; simp [e]
    simp only [this]
theorem isKey_str (x : List UInt8) : WideAt.IsKeyLit (.string x) := by first | exact trivial | (unfold WideAt.IsKeyLit; simp)

set_option maxRecDepth 100000 in
set_option maxHeartbeats 2000000 in
theorem dall_any (xs : List ByteArray) (a : Option Addr) (c : Nat) (w : World) (hf : Txs w.heap.size w (.slice a xs.length c) xs) (hb : TBd 140737488355328 xs) (hl : xs.length ≤ 4294967296) :
    Calls Tryz.prog 30 #[.slice a xs.length c] w fun e w' => e = .returned (.bool (dstB xs)) ∧ Below w.heap.size w w' := by
  have hmm := @ run_makeMap Tryz.prog
  have hzI := Tryz.zeroValue3
  have KS := Maps.string_keyed (P := Tryz.prog) (k := 9) Tryz.underlying9
  rcases Nat.eq_zero_or_pos xs.length with h0 | hp
  · have he : xs = [] := List.eq_nil_of_length_eq_zero h0
    subst he
    clear hf hb hl h0
    have B0 : Below w.heap.size w (w.alloc (.map #[] 0)) := (Below.refl _ _).alloc (Nat.le_refl _) _
    go_enter Tryz.func30, Tryz.ntmps30
    go_wp2_with fail
    refine wp_loop_rounds 1 ?_
    rw [rounds_succ]
    go_wp2
    go_ret
    exact ⟨rfl, B0⟩
  · obtain ⟨a', c', e, hnil, q1, q2, q3⟩ := hf
    obtain ⟨rfl, _, rfl⟩ := slice_inj e
    obtain ⟨g, off, rfl, hg, hc⟩ := q3 hp
    have HC : Hid (∀ (j : Nat) (hj : j < xs.length), w.cell? ⟨g, off + j, none⟩ = some (.string xs[j])) := hc
    have HBD : Hid (TBd 140737488355328 xs) := hb
    clear e hnil q1 q2 q3 hc hb
    have M0 := World.ownsMap_made (H := Nat) w Tryz.prog 9 (plainElem Tryz.prog 3)
    have B0 : Below w.heap.size w (w.alloc (.map #[] 0)) := (Below.refl _ _).alloc (Nat.le_refl _) _
    have C0 : Cnt (.map []) [] := fun x => by
      rw [if_neg (by simp)]
      exact WideAt.atKey_none _ (fun p hp => by cases hp)
    go_enter Tryz.func30, Tryz.ntmps30
    go_wp2_with fail
    go_loopw [9] (fun vi wr => ∃ (k : Nat) (D : DataW Nat), k ≤ xs.length ∧ vi = .int .i64 k ∧ Hid (wr.ownsMap Tryz.prog 9 (plainElem Tryz.prog 3) w.heap.size k D) ∧ Hid (Cnt D (keysL (xs.take k))) ∧ Hid ((keysL (xs.take k)).Nodup) ∧ Below w.heap.size w wr) (fun vi _ => xs.length - (intOf vi).toNat)
    case atStart => exact ⟨0, _, Nat.zero_le _, rfl, M0, C0, List.nodup_nil, B0⟩
    case round =>
      obtain ⟨k, D, hk, rfl, hM, hC, hN, hB⟩ := hrel
      clear M0 B0 C0
      by_cases hlt : k < xs.length
      · have hcell := (hB.cell (p := ⟨g, off + k, none⟩) hg).trans (HC.out k hlt)
        have hsz := HBD.out xs[k] (List.getElem_mem hlt)
        have hkey := Go.WideMaps.keyOf_string_mk (P := Tryz.prog) (k := 9) Tryz.underlying9 (s := xs[k]) (by unfold maxLen; omega)
        have hat0 := hC.out xs[k].data.toList
        have hown := hM.out
        have hmap := hown.isMap
        by_cases hm : xs[k].data.toList ∈ keysL (xs.take k)
        · rw [if_pos hm] at hat0
          have hR : Hid (dstB xs = false) := dst_no xs k hlt hm
          clear hM hC hN hsz hm
          generalize xs[k] = x at *
          go_wp2_with (first | (at_lookup; refine wpList_lookup_own_int _ rfl _ _ 82 rfl 9 3 .i64 KS Tryz.underlying82 Tryz.underlying3 (hzI _) w.heap.size (k + 1) (D.put (.string x.data.toList) (.lit (.int .i64 2))) rfl hown1 _ _ rfl hkey ?_; intro c hat hwc; obtain rfl : c = 2 := cnt_eq (Maps.atKey_put_same hmap (isKey_str _) _ _) hat; clear hat hwc) | (at_lookup; refine wpList_lookup_own_int _ rfl _ _ 82 rfl 9 3 .i64 KS Tryz.underlying82 Tryz.underlying3 (hzI _) w.heap.size k D rfl hown _ _ rfl hkey ?_; intro c hat hwc; obtain rfl : c = 1 := cnt_eq hat0 hat; clear hat hwc) | (at_mapUpdate; refine wpList_mapUpdate_own _ rfl _ _ _ 82 rfl 9 3 KS Tryz.underlying82 _ w.heap.size k D rfl hown (by unfold maxLen; omega) _ _ _ rfl rfl hkey (.lit (.int .i64 2)) [] (plainElem_int Tryz.underlying3 (a := 2) (by decide)) ?_; intro w1 hown1 hgrow1; have hB1 : Below w.heap.size w w1 := hB.grown hgrow1 hB.size (fun k e => by cases e; exact Nat.le_refl _)))
          go_ret
          exact ⟨ret_b hR.out.symm, hB1⟩
        · rw [if_neg hm] at hat0
          have hN2 : Hid ((keysL (xs.take (k + 1))).Nodup) := dst_snoc xs k hlt hN.out hm
          have hC2 : Hid (Cnt (D.put (.string xs[k].data.toList) (.lit (.int .i64 1))) (keysL (xs.take (k + 1)))) := cnt_snoc xs k hlt hC.out hmap
          clear hM hC hN hsz hm
          generalize xs[k] = x at *
          go_wp2_with (first | (at_lookup; refine wpList_lookup_own_int _ rfl _ _ 82 rfl 9 3 .i64 KS Tryz.underlying82 Tryz.underlying3 (hzI _) w.heap.size (k + 1) (D.put (.string x.data.toList) (.lit (.int .i64 1))) rfl hown1 _ _ rfl hkey ?_; intro c hat hwc; obtain rfl : c = 1 := cnt_eq (Maps.atKey_put_same hmap (isKey_str _) _ _) hat; clear hat hwc) | (at_lookup; refine wpList_lookup_own_int _ rfl _ _ 82 rfl 9 3 .i64 KS Tryz.underlying82 Tryz.underlying3 (hzI _) w.heap.size k D rfl hown _ _ rfl hkey ?_; intro c hat hwc; obtain rfl : c = 0 := cnt_eq hat0 hat; clear hat hwc) | (at_mapUpdate; refine wpList_mapUpdate_own _ rfl _ _ _ 82 rfl 9 3 KS Tryz.underlying82 _ w.heap.size k D rfl hown (by unfold maxLen; omega) _ _ _ rfl rfl hkey (.lit (.int .i64 1)) [] (plainElem_int Tryz.underlying3 (a := 1) (by decide)) ?_; intro w1 hown1 hgrow1; have hB1 : Below w.heap.size w w1 := hB.grown hgrow1 hB.size (fun k e => by cases e; exact Nat.le_refl _)))
          go_roundw
          case rel => exact ⟨k + 1, _, by omega, by go_num, hown1, hC2, hN2, hB1⟩
          case measure => simp [intOf]; omega
      · have hk' : k = xs.length := by omega
        have hR : Hid (dstB xs = true) := by
          have h := hN.out
          rw [hk', List.take_length] at h
          exact decide_eq_true h
        clear hM hC hN hk'
        go_wp2
        go_ret
        exact ⟨ret_b hR.out.symm, hB⟩
end Go.Proofs.YthmhaflkkigenaaGreatDoor

/- Right, Named, Find (written by tbf.py). -/
namespace Go.Proofs.YthmhaflkkigenaaGreatDoor
open Go.ChangeShapes Go.WideShapes Go.ChangeAt Go.RowKit
set_option linter.unusedVariables false

def rightP (ts : List SlotP) : Bool := decide (1 ≤ ts.length) && decide (ts.length ≤ 16) && !ts.any wrS && dstB (namesP ts) && dstB (hostsP ts)
theorem hosts_few : ∀ (ts : List SlotP), ts.any wrS = false → (hostsP ts).length ≤ ts.length * 8
  | [], _ => by simp [hostsP]
  | s :: ts, h => by
    rw [List.any_cons, Bool.or_eq_false_iff] at h
    have k := hosts_few ts h.2
    have e : hostsP (s :: ts) = s.h ++ hostsP ts := by simp [hostsP]
    have h8 : s.h.length ≤ 8 := by
      have q := h.1
      unfold wrS at q
      simp only [Bool.not_eq_false', Bool.and_eq_true] at q
      have q2 := q.2.1
      unfold rhB at q2
      simp only [Bool.and_eq_true, decide_eq_true_eq] at q2
      exact q2.1.2
    rw [e, List.length_append, List.length_cons]
    omega
set_option maxRecDepth 100000 in
set_option maxHeartbeats 2000000 in
theorem tright_any (ts : List SlotP) (a : Option Addr) (c : Nat) (w : World) (hf : Sls w.heap.size w (.slice a ts.length c) ts) (hb : ∀ s ∈ ts, SBd s) :
    Calls Tryz.prog 11 #[.slice a ts.length c] w fun e w' => e = .returned (.bool (rightP ts)) ∧ Below w.heap.size w w' := by
  have HC : Hid (Calls Tryz.prog 28 #[.slice a ts.length c, .func (.func 29) #[] #[]] w fun e w' => e = .returned (.bool (ts.any wrS)) ∧ Below w.heap.size w w') := cont_wrong wrS ts a c w hf (fun k hk W hW ha hc ht => wrong_any ts[k] ha hc W (ht.mono hW.size) (hb _ (List.getElem_mem hk)))
  have HW : Hid (Calls Tryz.prog 27 #[.int .i64 (ts.length : Int), .int .i64 1, .int .i64 16] w fun e w' => e = .returned (.bool (decide (1 ≤ ts.length) && decide (ts.length ≤ 16))) ∧ w' = w) := by
    have k := within_any ts.length 1 16 w
    have e : wiB ts.length 1 16 = (decide (1 ≤ ts.length) && decide (ts.length ≤ 16)) := by
      unfold wiB
      congr 1 <;> (apply decide_eq_decide.2; omega)
    rwa [e] at k
  have HN : Hid (ts.length ≤ 16 → ∀ W, Below w.heap.size w W → Calls Tryz.prog 31 #[.slice a ts.length c] W fun e w' => ∃ ao co, e = .returned (.slice ao (namesP ts).length co) ∧ Below W.heap.size W w' ∧ Hid (∀ W', Below w'.heap.size w' W' → Calls Tryz.prog 30 #[.slice ao (namesP ts).length co] W' fun e w'' => e = .returned (.bool (dstB (namesP ts))) ∧ Below W'.heap.size W' w'')) := fun h16 W hW => by
    refine (names_any ts a c W ((hf.keep hW).mono hW.size) (by omega)).mono ?_
    rintro e w' ⟨ao, co, rfl, O, B⟩
    refine ⟨ao, co, rfl, B, fun W' hW' => dall_any _ ao co W' ((O.txs.keep hW').mono hW'.size) (fun x hx => ?_) (by unfold namesP; rw [List.length_map]; omega)⟩
    obtain ⟨s, hs, rfl⟩ := List.mem_map.1 hx
    exact (hb s hs).n
  have HH : Hid (ts.length ≤ 16 → ts.any wrS = false → ∀ W, Below w.heap.size w W → Calls Tryz.prog 32 #[.slice a ts.length c] W fun e w' => ∃ ao co, e = .returned (.slice ao (hostsP ts).length co) ∧ Below W.heap.size W w' ∧ Hid (∀ W', Below w'.heap.size w' W' → Calls Tryz.prog 30 #[.slice ao (hostsP ts).length co] W' fun e w'' => e = .returned (.bool (dstB (hostsP ts))) ∧ Below W'.heap.size W' w'')) := fun h16 hw W hW => by
    have hlen := hosts_few ts hw
    refine (hosts_any ts a c W ((hf.keep hW).mono hW.size) (by omega)).mono ?_
    rintro e w' ⟨ao, co, rfl, O, B⟩
    refine ⟨ao, co, rfl, B, fun W' hW' => dall_any _ ao co W' ((O.txs.keep hW').mono hW'.size) (fun x hx => ?_) (by omega)⟩
    obtain ⟨s, hs, hxs⟩ := List.mem_flatMap.1 hx
    exact (hb s hs).h x hxs
  have hlm := hf.len
  unfold maxLen at hlm
  unfold rightP
  clear hf hb
  by_cases hl : (decide (1 ≤ ts.length) && decide (ts.length ≤ 16)) = true
  · have h16 : ts.length ≤ 16 := by rw [Bool.and_eq_true] at hl; exact of_decide_eq_true hl.2
    rw [hl] at HW
    rw [hl, Bool.true_and]
    clear hl
    cases h2 : ts.any wrS
    · have HN2 := HN.out h16
      have HH2 := HH.out h16 h2
      have HNH : Hid (∀ W, Below w.heap.size w W → Calls Tryz.prog 31 #[.slice a ts.length c] W fun e w' => ∃ ao co, e = .returned (.slice ao (namesP ts).length co) ∧ Below W.heap.size W w' ∧ Hid (∀ W', Below w'.heap.size w' W' → Calls Tryz.prog 30 #[.slice ao (namesP ts).length co] W' fun e w'' => e = .returned (.bool (dstB (namesP ts))) ∧ Below W'.heap.size W' w'')) := HN2
      have HHH : Hid (∀ W, Below w.heap.size w W → Calls Tryz.prog 32 #[.slice a ts.length c] W fun e w' => ∃ ao co, e = .returned (.slice ao (hostsP ts).length co) ∧ Below W.heap.size W w' ∧ Hid (∀ W', Below w'.heap.size w' W' → Calls Tryz.prog 30 #[.slice ao (hostsP ts).length co] W' fun e w'' => e = .returned (.bool (dstB (hostsP ts))) ∧ Below W'.heap.size W' w'')) := HH2
      rw [h2] at HC
      rw [show (!false) = true from rfl, Bool.true_and]
      clear h2 HN HH HN2 HH2 h16
      generalize (namesP ts).length = nl at *
      generalize (hostsP ts).length = hl at *
      generalize dstB (hostsP ts) = b4 at *
      cases h3 : dstB (namesP ts)
      · rw [h3] at HNH
        rw [Bool.false_and]
        clear h3
        go_enter Tryz.func11, Tryz.ntmps11
        go_wp2_with fail
        refine HW.out.mono ?_
        rintro e w1 ⟨rfl, rfl⟩
        go_wp2_with fail
        refine HC.out.mono ?_
        rintro e w2 ⟨rfl, B2⟩
        go_wp2_with fail
        refine (HNH.out _ B2).mono ?_
        rintro e w3 ⟨ao, co, rfl, B3, HD⟩
        have C3 := B2.trans (B3.mono B2.size)
        have B30 := Below.refl w3.heap.size w3
        go_wp2_with fail
        refine (HD.out _ B30).mono ?_
        rintro e w4 ⟨rfl, B4⟩
        have C4 := C3.trans (B4.mono C3.size)
        go_wp2
        go_ret
        exact ⟨rfl, C4⟩
      · rw [h3] at HNH
        rw [Bool.true_and]
        clear h3
        go_enter Tryz.func11, Tryz.ntmps11
        go_wp2_with fail
        refine HW.out.mono ?_
        rintro e w1 ⟨rfl, rfl⟩
        go_wp2_with fail
        refine HC.out.mono ?_
        rintro e w2 ⟨rfl, B2⟩
        go_wp2_with fail
        refine (HNH.out _ B2).mono ?_
        rintro e w3 ⟨ao, co, rfl, B3, HD⟩
        have C3 := B2.trans (B3.mono B2.size)
        have B30 := Below.refl w3.heap.size w3
        go_wp2_with fail
        refine (HD.out _ B30).mono ?_
        rintro e w4 ⟨rfl, B4⟩
        have C4 := C3.trans (B4.mono C3.size)
        clear HD B3 B30
        go_wp2_with fail
        refine (HHH.out _ C4).mono ?_
        rintro e w5 ⟨ao, co, rfl, B5, HD⟩
        have C5 := C4.trans (B5.mono C4.size)
        have B50 := Below.refl w5.heap.size w5
        go_wp2_with fail
        refine (HD.out _ B50).mono ?_
        rintro e w6 ⟨rfl, B6⟩
        have C6 := C5.trans (B6.mono C5.size)
        go_wp2
        go_ret
        exact ⟨rfl, C6⟩
    · rw [h2] at HC
      rw [show (!true) = false from rfl, Bool.false_and, Bool.false_and]
      clear h2 HN HH h16
      go_enter Tryz.func11, Tryz.ntmps11
      go_wp2_with fail
      refine HW.out.mono ?_
      rintro e w1 ⟨rfl, rfl⟩
      go_wp2_with fail
      refine HC.out.mono ?_
      rintro e w2 ⟨rfl, B2⟩
      go_wp2
      go_ret
      exact ⟨rfl, B2⟩
  · have hl' : (decide (1 ≤ ts.length) && decide (ts.length ≤ 16)) = false := by simpa using hl
    rw [hl'] at HW
    rw [hl', Bool.false_and, Bool.false_and, Bool.false_and]
    clear hl hl' HN HH HC
    go_enter Tryz.func11, Tryz.ntmps11
    go_wp2_with fail
    refine HW.out.mono ?_
    rintro e w1 ⟨rfl, rfl⟩
    go_wp2
    go_ret
    exact ⟨rfl, Below.refl _ _⟩

set_option maxRecDepth 100000 in
set_option maxHeartbeats 1000000 in
theorem idx_named (P : SlotP → Bool) (p0 : Nat) (xs : List SlotP) (a : Option Addr) (c : Nat) (w : World) (hf : Sls w.heap.size w (.slice a xs.length c) xs)
    (HF : ∀ (k : Nat) (hk : k < xs.length) (W : World), Below w.heap.size w W → ∀ (ha : Option Addr) (hc : Nat), Txs w.heap.size W (.slice ha xs[k].h.length hc) xs[k].h → Calls Tryz.prog 36 #[.agg #[.string xs[k].n, .slice ha xs[k].h.length hc, .int .i64 xs[k].q, .int .i64 xs[k].c, .int .i64 xs[k].p, .int .i64 xs[k].r, .int .i64 xs[k].b, .int .i64 xs[k].u], .pointer (some ⟨p0, 0, none⟩)] W fun e w' => e = .returned (.bool (P xs[k])) ∧ Below W.heap.size W w') :
    Calls Tryz.prog 33 #[.slice a xs.length c, .func (.func 36) #[] #[.pointer (some ⟨p0, 0, none⟩)]] w fun e w' => e = .returned (.int .i64 (idxP P xs)) ∧ Below w.heap.size w w' := by
  have hlm := hf.len
  unfold maxLen at hlm
  rcases Nat.eq_zero_or_pos xs.length with h0 | hp
  · have he : xs = [] := List.eq_nil_of_length_eq_zero h0
    subst he
    clear hf h0 hlm HF
    go_enter Tryz.func33, Tryz.ntmps33
    go_wp2_with fail
    refine wp_loop_rounds 1 ?_
    rw [rounds_succ]
    go_wp2
    go_ret
    exact ⟨rfl, Below.refl _ _⟩
  · obtain ⟨a', c', e, hnil, q1, q2, q3⟩ := hf
    obtain ⟨rfl, _, rfl⟩ := slice_inj e
    obtain ⟨g, off, rfl, hg, hc⟩ := q3 hp
    have HC : Hid (∀ (j : Nat) (hj : j < xs.length), SlotAt w.heap.size w g (off + j * 8) xs[j]) := hc
    have HFH : Hid (∀ (k : Nat) (hk : k < xs.length) (W : World), Below w.heap.size w W → ∀ (ha : Option Addr) (hc : Nat), Txs w.heap.size W (.slice ha xs[k].h.length hc) xs[k].h → Calls Tryz.prog 36 #[.agg #[.string xs[k].n, .slice ha xs[k].h.length hc, .int .i64 xs[k].q, .int .i64 xs[k].c, .int .i64 xs[k].p, .int .i64 xs[k].r, .int .i64 xs[k].b, .int .i64 xs[k].u], .pointer (some ⟨p0, 0, none⟩)] W fun e w' => e = .returned (.bool (P xs[k])) ∧ Below W.heap.size W w') := HF
    have hln : xs.length ≤ 9223372036854775807 := by omega
    clear e hnil q1 q2 q3 hlm hc HF
    go_enter Tryz.func33, Tryz.ntmps33
    go_wp2_with fail
    go_loopw [8] (fun vi wr => ∃ k : Nat, k ≤ xs.length ∧ vi = .int .i64 k ∧ Hid ((xs.take k).any P = false) ∧ Below w.heap.size w wr) (fun vi _ => xs.length - (intOf vi).toNat)
    case atStart => exact ⟨0, Nat.zero_le _, rfl, rfl, Below.refl _ _⟩
    case round =>
      obtain ⟨k, hk, rfl, hA, hB⟩ := hrel
      by_cases hlt : k < xs.length
      · obtain ⟨ha, hc, d0, d1, d2, d3, d4, d5, d6, d7, dt⟩ := (HC.out k hlt).keep hg hB
        have HA : Hid (Calls Tryz.prog 36 #[.agg #[.string xs[k].n, .slice ha xs[k].h.length hc, .int .i64 xs[k].q, .int .i64 xs[k].c, .int .i64 xs[k].p, .int .i64 xs[k].r, .int .i64 xs[k].b, .int .i64 xs[k].u], .pointer (some ⟨p0, 0, none⟩)] wr fun e w' => e = .returned (.bool (P xs[k])) ∧ Below wr.heap.size wr w') := HFH.out k hlt wr hB ha hc dt
        have hY : Hid (P xs[k] = true → idxP P xs = k) := fun q => idxP_at P xs k hlt hA.out q
        have hN : Hid (P xs[k] = false → (xs.take (k + 1)).any P = false) := fun q => any_snoc hlt hA.out q
        generalize P xs[k] = b at *
        generalize xs[k] = x at *
        obtain ⟨x0, x1, x2, x3, x4, x5, x6, x7⟩ := x
        simp only at d0 d1 d2 d3 d4 d5 d6 d7 HA
        generalize x1.length = xl at *
        clear dt
        go_wp2_with fail
        refine HA.out.mono ?_
        rintro e w2 ⟨rfl, B2⟩
        have hB2 := hB.trans (B2.mono hB.size)
        clear HA hB B2 d0 d1 d2 d3 d4 d5 d6 d7
        cases b
        · have hN2 : Hid ((xs.take (k + 1)).any P = false) := hN.out rfl
          clear hN hY
          go_wp2
          go_roundw
          case rel => exact ⟨k + 1, by omega, by go_num, hN2, hB2⟩
          case measure => simp [intOf]; omega
        · have hY2 : Hid (idxP P xs = k) := hY.out rfl
          clear hN hY
          go_wp2
          go_ret
          exact ⟨ret_i hY2.out.symm, hB2⟩
      · have hk' : k = xs.length := by omega
        have h := hA.out
        rw [hk', List.take_length] at h
        have HI : Hid (idxP P xs = -1) := idxP_none P xs h
        clear h hk'
        go_wp2
        go_ret
        exact ⟨ret_i HI.out.symm, hB⟩

theorem named1_any (s : SlotP) (x : ByteArray) (p0 : Nat) (ha : Option Addr) (hc : Nat) (w : World) (hx : w.cell? ⟨p0, 0, none⟩ = some (.string x)) (hp : p0 < w.heap.size) :
    Calls Tryz.prog 36 #[.agg #[.string s.n, .slice ha s.h.length hc, .int .i64 s.q, .int .i64 s.c, .int .i64 s.p, .int .i64 s.r, .int .i64 s.b, .int .i64 s.u], .pointer (some ⟨p0, 0, none⟩)] w fun e w' => e = .returned (.bool (s.n.toList == x.toList)) ∧ Below w.heap.size w w' := by
  have B0 : Below w.heap.size w (w.alloc (.cells #[.string s.n, .slice ha s.h.length hc, .int .i64 s.q, .int .i64 s.c, .int .i64 s.p, .int .i64 s.r, .int .i64 s.b, .int .i64 s.u] 35)) := (Below.refl _ _).alloc (Nat.le_refl _) _
  generalize s.h.length = hl at *
  go_enter Tryz.func36, Tryz.ntmps36
  go_wp2
  go_ret
  exact ⟨rfl, B0⟩
set_option maxHeartbeats 1000000 in
theorem named_any (ts : List SlotP) (a : Option Addr) (c : Nat) (x : ByteArray) (w : World) (hf : Sls w.heap.size w (.slice a ts.length c) ts) :
    Calls Tryz.prog 13 #[.slice a ts.length c, .string x] w fun e w' => e = .returned (.int .i64 (idxP (fun s => s.n.toList == x.toList) ts)) ∧ Below w.heap.size w w' := by
  have B0 : Below w.heap.size w (w.alloc (.cells #[.string x] 9)) := (Below.refl _ _).alloc (Nat.le_refl _) _
  have N0 := new_at w (.cells #[.string x] 9)
  have HI : Hid (Calls Tryz.prog 33 #[.slice a ts.length c, .func (.func 36) #[] #[.pointer (some ⟨w.heap.size, 0, none⟩)]] (w.alloc (.cells #[.string x] 9)) fun e w' => e = .returned (.int .i64 (idxP (fun s => s.n.toList == x.toList) ts)) ∧ Below (w.alloc (.cells #[.string x] 9)).heap.size (w.alloc (.cells #[.string x] 9)) w') :=
    idx_named _ w.heap.size ts a c _ ((hf.keep B0).mono B0.size) (fun k hk W hW ha hc ht => named1_any ts[k] x w.heap.size ha hc W ((hW.cell (p := ⟨w.heap.size, 0, none⟩) (by simp)).trans (ring_cell N0 rfl)) (Nat.lt_of_lt_of_le (by simp) hW.size))
  clear hf N0
  generalize idxP (fun s => s.n.toList == x.toList) ts = i at *
  go_enter Tryz.func13, Tryz.ntmps13
  go_wp2_with fail
  refine HI.out.mono ?_
  rintro e w1 ⟨rfl, B1⟩
  have C1 := B0.trans (B1.mono B0.size)
  go_wp2
  go_ret
  exact ⟨rfl, C1⟩

set_option maxRecDepth 100000 in
set_option maxHeartbeats 1000000 in
theorem sidx_any (xs : List ByteArray) (x : ByteArray) (a : Option Addr) (c : Nat) (w : World) (hf : Txs w.heap.size w (.slice a xs.length c) xs) :
    Calls Tryz.prog 50 #[.slice a xs.length c, .string x] w fun e w' => e = .returned (.int .i64 (idxP (fun y => x.toList == y.toList) xs)) ∧ w' = w := by
  have hlm := hf.len
  unfold maxLen at hlm
  rcases Nat.eq_zero_or_pos xs.length with h0 | hp
  · have he : xs = [] := List.eq_nil_of_length_eq_zero h0
    subst he
    clear hf h0 hlm
    go_enter Tryz.func50, Tryz.ntmps50
    go_wp2_with fail
    refine wp_loop_rounds 1 ?_
    rw [rounds_succ]
    go_wp2
    go_ret
    exact ⟨rfl, rfl⟩
  · obtain ⟨a', c', e, hnil, q1, q2, q3⟩ := hf
    obtain ⟨rfl, _, rfl⟩ := slice_inj e
    obtain ⟨g, off, rfl, hg, hc⟩ := q3 hp
    have HC : Hid (∀ (j : Nat) (hj : j < xs.length), w.cell? ⟨g, off + j, none⟩ = some (.string xs[j])) := hc
    have hln : xs.length ≤ 9223372036854775807 := by omega
    clear e hnil q1 q2 q3 hlm hc
    go_enter Tryz.func50, Tryz.ntmps50
    go_wp2_with fail
    go_loopw [8] (fun vi wr => ∃ k : Nat, k ≤ xs.length ∧ vi = .int .i64 k ∧ Hid ((xs.take k).any (fun y => x.toList == y.toList) = false) ∧ Hid (wr = w)) (fun vi _ => xs.length - (intOf vi).toNat)
    case atStart => exact ⟨0, Nat.zero_le _, rfl, rfl, rfl⟩
    case round =>
      obtain ⟨k, hk, rfl, hA, hW⟩ := hrel
      by_cases hlt : k < xs.length
      · have hc1 : wr.cell? ⟨g, off + k, none⟩ = some (.string xs[k]) := by rw [hW.out]; exact HC.out k hlt
        have hY : Hid ((x.toList == xs[k].toList) = true → idxP (fun y => x.toList == y.toList) xs = k) := fun q => idxP_at (fun y => x.toList == y.toList) xs k hlt hA.out q
        have hN : Hid ((x.toList == xs[k].toList) = false → (xs.take (k + 1)).any (fun y => x.toList == y.toList) = false) := fun q => any_snoc hlt hA.out q
        cases hb : (x.toList == xs[k].toList)
        · have hN2 : Hid ((xs.take (k + 1)).any (fun y => x.toList == y.toList) = false) := hN.out hb
          clear hN hY
          generalize xs[k] = y at *
          go_wp2
          go_roundw
          case rel => exact ⟨k + 1, by omega, by go_num, hN2, hW⟩
          case measure => simp [intOf]; omega
        · have hY2 : Hid (idxP (fun y => x.toList == y.toList) xs = k) := hY.out hb
          clear hN hY
          generalize xs[k] = y at *
          go_wp2
          go_ret
          exact ⟨ret_i hY2.out.symm, hW.out⟩
      · have hk' : k = xs.length := by omega
        have h := hA.out
        rw [hk', List.take_length] at h
        have HI : Hid (idxP (fun y => x.toList == y.toList) xs = -1) := idxP_none _ xs h
        clear h hk'
        go_wp2
        go_ret
        exact ⟨ret_i HI.out.symm, hW.out⟩
theorem scont_any (xs : List ByteArray) (x : ByteArray) (a : Option Addr) (c : Nat) (w : World) (hf : Txs w.heap.size w (.slice a xs.length c) xs) :
    Calls Tryz.prog 35 #[.slice a xs.length c, .string x] w fun e w' => e = .returned (.bool (xs.any (fun y => x.toList == y.toList))) ∧ w' = w := by
  have HI : Hid (Calls Tryz.prog 50 #[.slice a xs.length c, .string x] w fun e w' => e = .returned (.int .i64 (idxP (fun y => x.toList == y.toList) xs)) ∧ w' = w) := sidx_any xs x a c w hf
  have HD : Hid (decide (0 ≤ idxP (fun y => x.toList == y.toList) xs) = xs.any (fun y => x.toList == y.toList)) := idxP_any _ xs
  clear hf
  generalize idxP (fun y => x.toList == y.toList) xs = i at *
  generalize xs.any (fun y => x.toList == y.toList) = t at *
  go_enter Tryz.func35, Tryz.ntmps35
  go_wp2_with fail
  refine HI.out.mono ?_
  rintro e w2 ⟨rfl, rfl⟩
  go_wp2
  go_ret
  exact ⟨ret_b HD.out, rfl⟩
def hasH (x : ByteArray) (s : SlotP) : Bool := s.h.any (fun y => x.toList == y.toList)

set_option maxRecDepth 100000 in
set_option maxHeartbeats 1000000 in
theorem idx_find (P : SlotP → Bool) (p0 : Nat) (xs : List SlotP) (a : Option Addr) (c : Nat) (w : World) (hf : Sls w.heap.size w (.slice a xs.length c) xs)
    (HF : ∀ (k : Nat) (hk : k < xs.length) (W : World), Below w.heap.size w W → ∀ (ha : Option Addr) (hc : Nat), Txs w.heap.size W (.slice ha xs[k].h.length hc) xs[k].h → Calls Tryz.prog 34 #[.agg #[.string xs[k].n, .slice ha xs[k].h.length hc, .int .i64 xs[k].q, .int .i64 xs[k].c, .int .i64 xs[k].p, .int .i64 xs[k].r, .int .i64 xs[k].b, .int .i64 xs[k].u], .pointer (some ⟨p0, 0, none⟩)] W fun e w' => e = .returned (.bool (P xs[k])) ∧ Below W.heap.size W w') :
    Calls Tryz.prog 33 #[.slice a xs.length c, .func (.func 34) #[] #[.pointer (some ⟨p0, 0, none⟩)]] w fun e w' => e = .returned (.int .i64 (idxP P xs)) ∧ Below w.heap.size w w' := by
  have hlm := hf.len
  unfold maxLen at hlm
  rcases Nat.eq_zero_or_pos xs.length with h0 | hp
  · have he : xs = [] := List.eq_nil_of_length_eq_zero h0
    subst he
    clear hf h0 hlm HF
    go_enter Tryz.func33, Tryz.ntmps33
    go_wp2_with fail
    refine wp_loop_rounds 1 ?_
    rw [rounds_succ]
    go_wp2
    go_ret
    exact ⟨rfl, Below.refl _ _⟩
  · obtain ⟨a', c', e, hnil, q1, q2, q3⟩ := hf
    obtain ⟨rfl, _, rfl⟩ := slice_inj e
    obtain ⟨g, off, rfl, hg, hc⟩ := q3 hp
    have HC : Hid (∀ (j : Nat) (hj : j < xs.length), SlotAt w.heap.size w g (off + j * 8) xs[j]) := hc
    have HFH : Hid (∀ (k : Nat) (hk : k < xs.length) (W : World), Below w.heap.size w W → ∀ (ha : Option Addr) (hc : Nat), Txs w.heap.size W (.slice ha xs[k].h.length hc) xs[k].h → Calls Tryz.prog 34 #[.agg #[.string xs[k].n, .slice ha xs[k].h.length hc, .int .i64 xs[k].q, .int .i64 xs[k].c, .int .i64 xs[k].p, .int .i64 xs[k].r, .int .i64 xs[k].b, .int .i64 xs[k].u], .pointer (some ⟨p0, 0, none⟩)] W fun e w' => e = .returned (.bool (P xs[k])) ∧ Below W.heap.size W w') := HF
    have hln : xs.length ≤ 9223372036854775807 := by omega
    clear e hnil q1 q2 q3 hlm hc HF
    go_enter Tryz.func33, Tryz.ntmps33
    go_wp2_with fail
    go_loopw [8] (fun vi wr => ∃ k : Nat, k ≤ xs.length ∧ vi = .int .i64 k ∧ Hid ((xs.take k).any P = false) ∧ Below w.heap.size w wr) (fun vi _ => xs.length - (intOf vi).toNat)
    case atStart => exact ⟨0, Nat.zero_le _, rfl, rfl, Below.refl _ _⟩
    case round =>
      obtain ⟨k, hk, rfl, hA, hB⟩ := hrel
      by_cases hlt : k < xs.length
      · obtain ⟨ha, hc, d0, d1, d2, d3, d4, d5, d6, d7, dt⟩ := (HC.out k hlt).keep hg hB
        have HA : Hid (Calls Tryz.prog 34 #[.agg #[.string xs[k].n, .slice ha xs[k].h.length hc, .int .i64 xs[k].q, .int .i64 xs[k].c, .int .i64 xs[k].p, .int .i64 xs[k].r, .int .i64 xs[k].b, .int .i64 xs[k].u], .pointer (some ⟨p0, 0, none⟩)] wr fun e w' => e = .returned (.bool (P xs[k])) ∧ Below wr.heap.size wr w') := HFH.out k hlt wr hB ha hc dt
        have hY : Hid (P xs[k] = true → idxP P xs = k) := fun q => idxP_at P xs k hlt hA.out q
        have hN : Hid (P xs[k] = false → (xs.take (k + 1)).any P = false) := fun q => any_snoc hlt hA.out q
        generalize P xs[k] = b at *
        generalize xs[k] = x at *
        obtain ⟨x0, x1, x2, x3, x4, x5, x6, x7⟩ := x
        simp only at d0 d1 d2 d3 d4 d5 d6 d7 HA
        generalize x1.length = xl at *
        clear dt
        go_wp2_with fail
        refine HA.out.mono ?_
        rintro e w2 ⟨rfl, B2⟩
        have hB2 := hB.trans (B2.mono hB.size)
        clear HA hB B2 d0 d1 d2 d3 d4 d5 d6 d7
        cases b
        · have hN2 : Hid ((xs.take (k + 1)).any P = false) := hN.out rfl
          clear hN hY
          go_wp2
          go_roundw
          case rel => exact ⟨k + 1, by omega, by go_num, hN2, hB2⟩
          case measure => simp [intOf]; omega
        · have hY2 : Hid (idxP P xs = k) := hY.out rfl
          clear hN hY
          go_wp2
          go_ret
          exact ⟨ret_i hY2.out.symm, hB2⟩
      · have hk' : k = xs.length := by omega
        have h := hA.out
        rw [hk', List.take_length] at h
        have HI : Hid (idxP P xs = -1) := idxP_none P xs h
        clear h hk'
        go_wp2
        go_ret
        exact ⟨ret_i HI.out.symm, hB⟩

theorem find1_any (s : SlotP) (x : ByteArray) (p0 : Nat) (ha : Option Addr) (hc : Nat) (w : World) (hx : w.cell? ⟨p0, 0, none⟩ = some (.string x)) (hp : p0 < w.heap.size) (ht : Txs w.heap.size w (.slice ha s.h.length hc) s.h) :
    Calls Tryz.prog 34 #[.agg #[.string s.n, .slice ha s.h.length hc, .int .i64 s.q, .int .i64 s.c, .int .i64 s.p, .int .i64 s.r, .int .i64 s.b, .int .i64 s.u], .pointer (some ⟨p0, 0, none⟩)] w fun e w' => e = .returned (.bool (hasH x s)) ∧ Below w.heap.size w w' := by
  have B0 : Below w.heap.size w (w.alloc (.cells #[.string s.n, .slice ha s.h.length hc, .int .i64 s.q, .int .i64 s.c, .int .i64 s.p, .int .i64 s.r, .int .i64 s.b, .int .i64 s.u] 35)) := (Below.refl _ _).alloc (Nat.le_refl _) _
  have HS : Hid (Calls Tryz.prog 35 #[.slice ha s.h.length hc, .string x] (w.alloc (.cells #[.string s.n, .slice ha s.h.length hc, .int .i64 s.q, .int .i64 s.c, .int .i64 s.p, .int .i64 s.r, .int .i64 s.b, .int .i64 s.u] 35)) fun e w' => e = .returned (.bool (hasH x s)) ∧ w' = w.alloc (.cells #[.string s.n, .slice ha s.h.length hc, .int .i64 s.q, .int .i64 s.c, .int .i64 s.p, .int .i64 s.r, .int .i64 s.b, .int .i64 s.u] 35)) := scont_any s.h x ha hc _ ((ht.keep B0).mono B0.size)
  generalize hasH x s = b at *
  clear ht
  generalize s.h.length = hl at *
  go_enter Tryz.func34, Tryz.ntmps34
  go_wp2_with fail
  refine HS.out.mono ?_
  rintro e w1 ⟨rfl, rfl⟩
  go_wp2
  go_ret
  exact ⟨rfl, B0⟩
set_option maxHeartbeats 1000000 in
theorem find_any (ts : List SlotP) (a : Option Addr) (c : Nat) (x : ByteArray) (w : World) (hf : Sls w.heap.size w (.slice a ts.length c) ts) :
    Calls Tryz.prog 12 #[.slice a ts.length c, .string x] w fun e w' => e = .returned (.int .i64 (idxP (hasH x) ts)) ∧ Below w.heap.size w w' := by
  have B0 : Below w.heap.size w (w.alloc (.cells #[.string x] 9)) := (Below.refl _ _).alloc (Nat.le_refl _) _
  have N0 := new_at w (.cells #[.string x] 9)
  have HI : Hid (Calls Tryz.prog 33 #[.slice a ts.length c, .func (.func 34) #[] #[.pointer (some ⟨w.heap.size, 0, none⟩)]] (w.alloc (.cells #[.string x] 9)) fun e w' => e = .returned (.int .i64 (idxP (hasH x) ts)) ∧ Below (w.alloc (.cells #[.string x] 9)).heap.size (w.alloc (.cells #[.string x] 9)) w') :=
    idx_find _ w.heap.size ts a c _ ((hf.keep B0).mono B0.size) (fun k hk W hW ha hc ht => find1_any ts[k] x w.heap.size ha hc W ((hW.cell (p := ⟨w.heap.size, 0, none⟩) (by simp)).trans (ring_cell N0 rfl)) (Nat.lt_of_lt_of_le (by simp) hW.size) (ht.mono hW.size))
  clear hf N0
  generalize idxP (hasH x) ts = i at *
  go_enter Tryz.func12, Tryz.ntmps12
  go_wp2_with fail
  refine HI.out.mono ?_
  rintro e w1 ⟨rfl, B1⟩
  have C1 := B0.trans (B1.mono B0.size)
  go_wp2
  go_ret
  exact ⟨rfl, C1⟩
end Go.Proofs.YthmhaflkkigenaaGreatDoor
