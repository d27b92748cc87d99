/- Close and Closed of a latch that lies in a block of its own. -/
import Derived.Test.YtmmileafiainnaaLatchA
namespace Go.Proofs.Ytmmileafiainnaa
open Go.RowKit
set_option linter.unusedVariables false

/-- Nothing but the blocks of S has turned; blocks may be new. -/
structure Only (S : Nat → Prop) (w w' : World) : Prop where
  os : w'.os = w.os
  tape : w'.tape = w.tape
  output : w'.output = w.output
  size : w.heap.size ≤ w'.heap.size
  block : ∀ k, k < w.heap.size → ¬ S k → w'.heap[k]? = w.heap[k]?
theorem Only.refl (S : Nat → Prop) (w : World) : Only S w w := ⟨rfl, rfl, rfl, Nat.le_refl _, fun _ _ _ => rfl⟩
theorem Only.trans {S : Nat → Prop} {u v w : World} (h : Only S u v) (k : Only S v w) : Only S u w :=
  ⟨k.os.trans h.os, k.tape.trans h.tape, k.output.trans h.output, Nat.le_trans h.size k.size, fun i hi hs => (k.block i (Nat.lt_of_lt_of_le hi h.size) hs).trans (h.block i hi hs)⟩
theorem Only.drew {S : Nat → Prop} {u w : World} (h : Only S u w) : Only S u w.drew := ⟨h.os, h.tape, h.output, h.size, h.block⟩
theorem Only.alloc {S : Nat → Prop} {u w : World} (h : Only S u w) (o : Obj) : Only S u (w.alloc o) :=
  h.trans ⟨rfl, rfl, rfl, by simp, fun k hk _ => Below.heap_alloc _ _ _ hk⟩
theorem Only.set {S : Nat → Prop} {u w : World} (h : Only S u w) {a : Addr} (ha : S a.block ∨ u.heap.size ≤ a.block) (v : Value) : Only S u (w.setCell a v) :=
  ⟨h.os, h.tape, h.output, by simpa [World.setCell] using h.size, fun k hk hs => (Below.heap_setCell _ _ _ _ (by
    rcases ha with ha | ha
    · intro e; subst e; exact hs ha
    · omega)).trans (h.block k hk hs)⟩
theorem Only.below {S : Nat → Prop} {B : Nat} {w w' : World} (h : Only S w w') (hS : ∀ k, S k → B ≤ k) (hB : B ≤ w.heap.size) : Below B w w' :=
  ⟨h.os, h.tape, h.output, h.size, fun k hk => h.block k (by omega) (fun e => by have := hS k e; omega)⟩

/-- What a block holds, behind a step. -/
theorem blk_set {w : World} {b i : Nat} {c : Array Value} {t : TypeId} (h : w.heap[b]? = some (.cells c t)) (v : Value) : (w.setCell ⟨b, i, none⟩ v).heap[b]? = some (.cells (c.setIfInBounds i v) t) := by
  simp [World.setCell, Array.getElem?_modify, h]
theorem blk_set_other {w : World} {b k i : Nat} {o : Obj} (h : w.heap[b]? = some o) (hne : b ≠ k) (v : Value) : (w.setCell ⟨k, i, none⟩ v).heap[b]? = some o := by
  rw [Below.heap_setCell _ _ _ _ hne]; exact h
theorem blk_lt {w : World} {b : Nat} {o : Obj} (h : w.heap[b]? = some o) : b < w.heap.size := (Array.getElem?_eq_some_iff.1 h).1
theorem blk_alloc {w : World} {b : Nat} {o : Obj} (h : w.heap[b]? = some o) (o' : Obj) : (w.alloc o').heap[b]? = some o := by
  rw [Below.heap_alloc _ _ _ (blk_lt h)]; exact h
theorem blk_new (w : World) (o : Obj) : (w.alloc o).heap[w.heap.size]? = some o := by
  show (w.heap.push o)[w.heap.size]? = _; simp
theorem blk_drew {w : World} {b : Nat} {o : Obj} (h : w.heap[b]? = some o) : w.drew.heap[b]? = some o := h
theorem blk_cell {w : World} {b i : Nat} {c : Array Value} {t : TypeId} {v : Value} (h : w.heap[b]? = some (.cells c t)) (hv : c[i]? = some v) : w.cell? ⟨b, i, none⟩ = some v := by
  simp [World.cell?, h, hv]
theorem blk_z {w : World} {b : Nat} {c : Array Value} {t : TypeId} (h : w.heap[b]? = some (.cells c t)) (i : Nat) : w.frozen? ⟨b, i, none⟩ = false := by
  simp [World.frozen?, h]

/-- In block b lies a latch: done, the lock's word, closed. -/
def LC (d s c : Int) : Array Value := #[.int .u32 d, .int .i32 s, .int .u32 0, .int .u32 c]
def IsL (w : World) (b : Nat) (d s c : Int) : Prop := w.heap[b]? = some (.cells (LC d s c) 53)

theorem closedL (b : Nat) (d s c : Int) (w : World) (hl : IsL w b d s c) :
    Calls Try.prog 19 #[.pointer (some ⟨b, 0, none⟩)] w fun e w' => e = .returned (.bool (c != 0)) ∧ w' = w := closed_any b c w (blk_cell hl rfl)

/-- The three variables that Close lays: l, f, first. -/
def W0 (w : World) (b : Nat) (fv : Value) : World := ((w.alloc (.cells #[.pointer (some ⟨b, 0, none⟩)] 67)).alloc (.cells #[fv] 1)).alloc (.cells #[.bool false] 4)
def caps (w : World) : Array Value := #[.pointer (some ⟨w.heap.size, 0, none⟩), .pointer (some ⟨w.heap.size + 1 + 1, 0, none⟩), .pointer (some ⟨w.heap.size + 1, 0, none⟩)]

theorem W0_old {w : World} {k b : Nat} {fv : Value} {o : Obj} (h : w.heap[k]? = some o) : (W0 w b fv).heap[k]? = some o := blk_alloc (blk_alloc (blk_alloc h _) _) _
theorem W0_l (w : World) (b : Nat) (fv : Value) : (W0 w b fv).heap[w.heap.size]? = some (.cells #[.pointer (some ⟨b, 0, none⟩)] 67) := blk_alloc (blk_alloc (blk_new _ _) _) _
theorem W0_f (w : World) (b : Nat) (fv : Value) : (W0 w b fv).heap[w.heap.size + 1]? = some (.cells #[fv] 1) := by
  have h := blk_new (w.alloc (.cells #[.pointer (some ⟨b, 0, none⟩)] 67)) (.cells #[fv] 1)
  rw [show (w.alloc (.cells #[.pointer (some ⟨b, 0, none⟩)] 67)).heap.size = w.heap.size + 1 from by simp] at h
  exact blk_alloc h _
theorem W0_b (w : World) (b : Nat) (fv : Value) : (W0 w b fv).heap[w.heap.size + 1 + 1]? = some (.cells #[.bool false] 4) := by
  have h := blk_new ((w.alloc (.cells #[.pointer (some ⟨b, 0, none⟩)] 67)).alloc (.cells #[fv] 1)) (.cells #[.bool false] 4)
  rw [show ((w.alloc (.cells #[.pointer (some ⟨b, 0, none⟩)] 67)).alloc (.cells #[fv] 1)).heap.size = w.heap.size + 1 + 1 from by simp] at h
  exact h
theorem W0_only (S : Nat → Prop) (w : World) (b : Nat) (fv : Value) : Only S w (W0 w b fv) := (((Only.refl S w).alloc _).alloc _).alloc _

theorem IsL.s0 {w : World} {b : Nat} {d s c : Int} (h : IsL w b d s c) (x : Int) : IsL (w.setCell ⟨b, 0, none⟩ (.int .u32 x)) b x s c := blk_set h _
theorem IsL.s1 {w : World} {b : Nat} {d s c : Int} (h : IsL w b d s c) (x : Int) : IsL (w.setCell ⟨b, 1, none⟩ (.int .i32 x)) b d x c := blk_set h _
theorem IsL.s3 {w : World} {b : Nat} {d s c : Int} (h : IsL w b d s c) (x : Int) : IsL (w.setCell ⟨b, 3, none⟩ (.int .u32 x)) b d s x := blk_set h _
theorem IsL.c0 {w : World} {b : Nat} {d s c : Int} (h : IsL w b d s c) : w.cell? ⟨b, 0, none⟩ = some (.int .u32 d) := blk_cell h rfl
theorem IsL.c1 {w : World} {b : Nat} {d s c : Int} (h : IsL w b d s c) : w.cell? ⟨b, 1, none⟩ = some (.int .i32 s) := blk_cell h rfl
theorem IsL.c3 {w : World} {b : Nat} {d s c : Int} (h : IsL w b d s c) : w.cell? ⟨b, 3, none⟩ = some (.int .u32 c) := blk_cell h rfl
theorem IsL.z {w : World} {b : Nat} {d s c : Int} (h : IsL w b d s c) (i : Nat) : w.frozen? ⟨b, i, none⟩ = false := blk_z h i
theorem IsL.o {w : World} {b k i : Nat} {d s c : Int} (h : IsL w b d s c) (hne : b ≠ k) (v : Value) : IsL (w.setCell ⟨k, i, none⟩ v) b d s c := blk_set_other h hne v
theorem IsL.dr {w : World} {b : Nat} {d s c : Int} (h : IsL w b d s c) : IsL w.drew b d s c := h

set_option maxRecDepth 100000 in
set_option maxHeartbeats 1600000 in
theorem close_gen (b : Nat) (fv : Value) (w W3 : World) (v : Bool) (hlt : b < w.heap.size) (hfv : fv = .nilFunc ∨ ∃ fn a c, fv = .func fn a c)
    (hd : Calls Try.prog 35 #[.pointer (some ⟨b, 0, none⟩), .func (.func 36) #[] (caps w)] (W0 w b fv) fun e w' => e = .returned (.tuple #[]) ∧ w' = W3)
    (hv : W3.cell? ⟨w.heap.size + 1 + 1, 0, none⟩ = some (.bool v)) :
    Calls Try.prog 21 #[.pointer (some ⟨b, 0, none⟩), fv] w fun e w' => e = .returned (.bool v) ∧ w' = W3 := by
  have hmf : ∀ (fn : Fn) (first cap : Array Value) (w : World), (Instr.makeFunc fn first cap).run Try.prog w = .ok (.func fn first cap) w := fun _ _ _ _ => rfl
  unfold W0 caps at hd
  rcases hfv with rfl | ⟨fn, a, c, rfl⟩
  all_goals
    have HD : Hid (Calls Try.prog 35 #[.pointer (some ⟨b, 0, none⟩), .func (.func 36) #[] #[.pointer (some ⟨w.heap.size, 0, none⟩), .pointer (some ⟨w.heap.size + 1 + 1, 0, none⟩), .pointer (some ⟨w.heap.size + 1, 0, none⟩)]] (((w.alloc (.cells #[.pointer (some ⟨b, 0, none⟩)] 67)).alloc (.cells #[_] 1)).alloc (.cells #[.bool false] 4)) fun e w' => e = .returned (.tuple #[]) ∧ w' = W3) := hd
    clear hd
    go_enter Try.func21, Try.ntmps21
    go_wp2_with fail
    refine HD.out.mono ?_
    rintro e w' ⟨rfl, rfl⟩
    go_wp2
    go_ret
    exact ⟨rfl, rfl⟩

/-- Close of a closed latch: false. -/
theorem close_closed (b : Nat) (fv : Value) (w : World) (hl : IsL w b 1 0 1) (hfv : fv = .nilFunc ∨ ∃ fn a c, fv = .func fn a c) (S : Nat → Prop) :
    Calls Try.prog 21 #[.pointer (some ⟨b, 0, none⟩), fv] w fun e w' => e = .returned (.bool false) ∧ (∀ (k : Nat) (o : Obj), w.heap[k]? = some o → w'.heap[k]? = some o) ∧ Only S w w' := by
  have hl0 : IsL (W0 w b fv) b 1 0 1 := W0_old hl
  exact (close_gen b fv w _ false (blk_lt hl) hfv (do_done b _ _ hl0.c0) (blk_cell (W0_b w b fv) rfl)).mono fun e w' ⟨he, hw⟩ => ⟨he, hw ▸ fun k o h => W0_old h, hw ▸ W0_only S w b fv⟩

/-- Close of an open latch, f nil: true. -/
theorem close_nil (b : Nat) (w : World) (hl : IsL w b 0 0 0) :
    Calls Try.prog 21 #[.pointer (some ⟨b, 0, none⟩), .nilFunc] w fun e w' => e = .returned (.bool true) ∧ IsL w' b 1 0 1 ∧ Only (fun k => k = b) w w' := by
  have hlt := blk_lt hl
  have l0 : IsL (W0 w b .nilFunc) b 0 0 0 := W0_old hl
  have l1 := l0.s1 1
  have q0 := blk_set_other (i := 1) (W0_l w b .nilFunc) (show w.heap.size ≠ b by omega) (.int .i32 1)
  have q1 := blk_set_other (i := 1) (W0_f w b .nilFunc) (show w.heap.size + 1 ≠ b by omega) (.int .i32 1)
  have q2 := blk_set_other (i := 1) (W0_b w b .nilFunc) (show w.heap.size + 1 + 1 ≠ b by omega) (.int .i32 1)
  have hb := body_nil b w.heap.size (w.heap.size + 1 + 1) (w.heap.size + 1) _ _ _ (blk_cell q0 rfl) (blk_cell q2 rfl) (blk_z q2 0) (blk_cell q1 rfl) l1.c3 (l1.z 3) (by omega) (by omega)
  have l2 := ((l1.o (k := w.heap.size + 1 + 1) (i := 0) (by omega) (.bool true)).dr).s3 1
  have l3 := (l2.dr.s0 1).s1 0
  have r2 := blk_set_other (i := 1) (blk_set_other (i := 0) (blk_drew (blk_set_other (i := 3) (blk_drew (blk_set (i := 0) q2 (.bool true))) (show w.heap.size + 1 + 1 ≠ b by omega) (.int .u32 1))) (show w.heap.size + 1 + 1 ≠ b by omega) (.int .u32 1)) (show w.heap.size + 1 + 1 ≠ b by omega) (.int .i32 0)
  have hd := do_gen b (caps w) _ _ l0.c0 l0.c1 (l0.z 0) (l0.z 1) hb l2.c0 l2.c1 (l2.z 0) (l2.z 1)
  refine (close_gen b .nilFunc w _ true hlt (.inl rfl) hd (blk_cell r2 rfl)).mono fun e w' ⟨he, hw⟩ => ⟨he, hw ▸ l3, hw ▸ ?_⟩
  exact (((((((W0_only (fun k => k = b) w b .nilFunc).set (.inl rfl) _).set (a := ⟨w.heap.size + 1 + 1, 0, none⟩) (.inr (show w.heap.size ≤ w.heap.size + 1 + 1 by omega)) _).drew.set (.inl rfl) _).drew).set (.inl rfl) _).set (.inl rfl) _)

/-- Close of an open latch, f the counter's: true, and it is counted once. -/
theorem close_count (b cn : Nat) (n : Int) (w : World) (hl : IsL w b 0 0 0) (hc : w.heap[cn]? = some (.cells #[.int .i64 n] 3)) (hne : cn ≠ b) (n0 : 0 ≤ n) (n1 : n ≤ 1000) :
    Calls Try.prog 21 #[.pointer (some ⟨b, 0, none⟩), .func (.func 20) #[] #[.pointer (some ⟨cn, 0, none⟩)]] w fun e w' => e = .returned (.bool true) ∧ IsL w' b 1 0 1 ∧ w'.heap[cn]? = some (.cells #[.int .i64 (n + 1)] 3) ∧ Only (fun k => k = b ∨ k = cn) w w' := by
  have hlt := blk_lt hl
  have hlc := blk_lt hc
  generalize hfv : (Value.func (.func 20) #[] #[.pointer (some ⟨cn, 0, none⟩)]) = fv
  have l0 : IsL (W0 w b fv) b 0 0 0 := W0_old hl
  have l1 := l0.s1 1
  have q0 := blk_set_other (i := 1) (W0_l w b fv) (show w.heap.size ≠ b by omega) (.int .i32 1)
  have q1 := blk_set_other (i := 1) (W0_f w b fv) (show w.heap.size + 1 ≠ b by omega) (.int .i32 1)
  have q2 := blk_set_other (i := 1) (W0_b w b fv) (show w.heap.size + 1 + 1 ≠ b by omega) (.int .i32 1)
  have q3 := blk_set_other (i := 1) (W0_old (b := b) (fv := fv) hc) hne (.int .i32 1)
  have hq1 : ((W0 w b fv).setCell ⟨b, 1, none⟩ (.int .i32 1)).cell? ⟨w.heap.size + 1, 0, none⟩ = some (.func (.func 20) #[] #[.pointer (some ⟨cn, 0, none⟩)]) := by rw [hfv]; exact blk_cell q1 rfl
  have hb := body_count b w.heap.size (w.heap.size + 1 + 1) (w.heap.size + 1) cn n _ _ _ (blk_cell q0 rfl) (blk_cell q2 rfl) (blk_z q2 0) hq1 (blk_cell q3 rfl) (blk_z q3 0) n0 n1 l1.c3 (l1.z 3) (by omega) (by omega) (by omega) hne
  have l2 := (((l1.o (k := w.heap.size + 1 + 1) (i := 0) (by omega) (.bool true)).o (k := cn) (i := 0) (by omega) (.int .i64 (n + 1))).dr).s3 1
  have l3 := (l2.dr.s0 1).s1 0
  have r2 := blk_set_other (i := 1) (blk_set_other (i := 0) (blk_drew (blk_set_other (i := 3) (blk_drew (blk_set_other (i := 0) (blk_set (i := 0) q2 (.bool true)) (show w.heap.size + 1 + 1 ≠ cn by omega) (.int .i64 (n + 1)))) (show w.heap.size + 1 + 1 ≠ b by omega) (.int .u32 1))) (show w.heap.size + 1 + 1 ≠ b by omega) (.int .u32 1)) (show w.heap.size + 1 + 1 ≠ b by omega) (.int .i32 0)
  have r3 := blk_set_other (i := 1) (blk_set_other (i := 0) (blk_drew (blk_set_other (i := 3) (blk_drew (blk_set (i := 0) (blk_set_other (i := 0) q3 (show cn ≠ w.heap.size + 1 + 1 by omega) (.bool true)) (.int .i64 (n + 1)))) hne (.int .u32 1))) hne (.int .u32 1)) hne (.int .i32 0)
  have hd := do_gen b (caps w) _ _ l0.c0 l0.c1 (l0.z 0) (l0.z 1) hb l2.c0 l2.c1 (l2.z 0) (l2.z 1)
  refine (close_gen b fv w _ true hlt (.inr ⟨_, _, _, hfv.symm⟩) hd (blk_cell r2 rfl)).mono fun e w' ⟨he, hw⟩ => ⟨he, hw ▸ l3, hw ▸ r3, hw ▸ ?_⟩
  exact ((((((((W0_only _ w b fv).set (.inl (.inl rfl)) _).set (a := ⟨w.heap.size + 1 + 1, 0, none⟩) (.inr (show w.heap.size ≤ w.heap.size + 1 + 1 by omega)) _).set (.inl (.inr rfl)) _).drew.set (.inl (.inl rfl)) _).drew).set (.inl (.inl rfl)) _).set (.inl (.inl rfl)) _)

/-- Close of an open latch, f asks the latch: true, and f was told that it is open. -/
theorem close_look (b cn : Nat) (v : Bool) (w : World) (hl : IsL w b 0 0 0) (hc : w.heap[cn]? = some (.cells #[.bool v] 4)) (hne : cn ≠ b) :
    Calls Try.prog 21 #[.pointer (some ⟨b, 0, none⟩), .func (.func 22) #[] #[.pointer (some ⟨b, 0, none⟩), .pointer (some ⟨cn, 0, none⟩)]] w fun e w' => e = .returned (.bool true) ∧ IsL w' b 1 0 1 ∧ w'.heap[cn]? = some (.cells #[.bool false] 4) ∧ Only (fun k => k = b ∨ k = cn) w w' := by
  have hlt := blk_lt hl
  have hlc := blk_lt hc
  generalize hfv : (Value.func (.func 22) #[] #[.pointer (some ⟨b, 0, none⟩), .pointer (some ⟨cn, 0, none⟩)]) = fv
  have l0 : IsL (W0 w b fv) b 0 0 0 := W0_old hl
  have l1 := l0.s1 1
  have q0 := blk_set_other (i := 1) (W0_l w b fv) (show w.heap.size ≠ b by omega) (.int .i32 1)
  have q1 := blk_set_other (i := 1) (W0_f w b fv) (show w.heap.size + 1 ≠ b by omega) (.int .i32 1)
  have q2 := blk_set_other (i := 1) (W0_b w b fv) (show w.heap.size + 1 + 1 ≠ b by omega) (.int .i32 1)
  have q3 := blk_set_other (i := 1) (W0_old (b := b) (fv := fv) hc) hne (.int .i32 1)
  have hq1 : ((W0 w b fv).setCell ⟨b, 1, none⟩ (.int .i32 1)).cell? ⟨w.heap.size + 1, 0, none⟩ = some (.func (.func 22) #[] #[.pointer (some ⟨b, 0, none⟩), .pointer (some ⟨cn, 0, none⟩)]) := by rw [hfv]; exact blk_cell q1 rfl
  have hb := body_look b w.heap.size (w.heap.size + 1 + 1) (w.heap.size + 1) cn _ _ _ (blk_cell q0 rfl) (blk_cell q2 rfl) (blk_z q2 0) hq1 (blk_cell q3 rfl) (blk_z q3 0) l1.c3 (l1.z 3) (by omega) (by omega) (by omega) hne
  have l2 := (((l1.o (k := w.heap.size + 1 + 1) (i := 0) (by omega) (.bool true)).o (k := cn) (i := 0) (by omega) (.bool false)).dr).s3 1
  have l3 := (l2.dr.s0 1).s1 0
  have r2 := blk_set_other (i := 1) (blk_set_other (i := 0) (blk_drew (blk_set_other (i := 3) (blk_drew (blk_set_other (i := 0) (blk_set (i := 0) q2 (.bool true)) (show w.heap.size + 1 + 1 ≠ cn by omega) (.bool false))) (show w.heap.size + 1 + 1 ≠ b by omega) (.int .u32 1))) (show w.heap.size + 1 + 1 ≠ b by omega) (.int .u32 1)) (show w.heap.size + 1 + 1 ≠ b by omega) (.int .i32 0)
  have r3 := blk_set_other (i := 1) (blk_set_other (i := 0) (blk_drew (blk_set_other (i := 3) (blk_drew (blk_set (i := 0) (blk_set_other (i := 0) q3 (show cn ≠ w.heap.size + 1 + 1 by omega) (.bool true)) (.bool false))) hne (.int .u32 1))) hne (.int .u32 1)) hne (.int .i32 0)
  have hd := do_gen b (caps w) _ _ l0.c0 l0.c1 (l0.z 0) (l0.z 1) hb l2.c0 l2.c1 (l2.z 0) (l2.z 1)
  refine (close_gen b fv w _ true hlt (.inr ⟨_, _, _, hfv.symm⟩) hd (blk_cell r2 rfl)).mono fun e w' ⟨he, hw⟩ => ⟨he, hw ▸ l3, hw ▸ r3, hw ▸ ?_⟩
  exact ((((((((W0_only _ w b fv).set (.inl (.inl rfl)) _).set (a := ⟨w.heap.size + 1 + 1, 0, none⟩) (.inr (show w.heap.size ≤ w.heap.size + 1 + 1 by omega)) _).set (.inl (.inr rfl)) _).drew.set (.inl (.inl rfl)) _).drew).set (.inl (.inl rfl)) _).set (.inl (.inl rfl)) _)

/-- 'x & m' of a mask that is not negative. -/
theorem and_mask (n : Int) (m : Nat) (hm : m < 9223372036854775808) : ∃ k : Nat, k ≤ m ∧ bits .and .i64 n (m : Int) = (k : Int) := by
  have h2 : (BitVec.ofInt 64 (m : Int)).toNat = m := by
    rw [BitVec.ofInt_natCast, BitVec.toNat_ofNat]; exact Nat.mod_eq_of_lt (by omega)
  have hk : (BitVec.ofInt 64 n &&& BitVec.ofInt 64 (m : Int)).toNat ≤ m := by
    rw [BitVec.toNat_and, h2]; exact Nat.and_le_right
  refine ⟨(BitVec.ofInt 64 n &&& BitVec.ofInt 64 (m : Int)).toNat, hk, ?_⟩
  show IntKind.i64.wrap ((BitVec.ofInt 64 n &&& BitVec.ofInt 64 (m : Int)).toNat : Int) = _
  rw [IntKind.wrap_i64]
  generalize (BitVec.ofInt 64 n &&& BitVec.ofInt 64 (m : Int)).toNat = k at *
  omega
end Go.Proofs.Ytmmileafiainnaa
