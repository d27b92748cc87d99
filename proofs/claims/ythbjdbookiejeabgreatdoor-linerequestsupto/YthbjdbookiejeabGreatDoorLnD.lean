/- Request: what it answers of every text. -/
import Derived.Test.YthbjdbookiejeabGreatDoorLnC
import Derived.Test.YthbjdbookiejeabGreatDoorShSplitN
import Derived.Deep.RegionHeld3
import Derived.Deep.RegionWith
namespace Go.Proofs.YthbjdbookiejeabGreatDoor
open Go.RowKit
set_option linter.unusedVariables false

/-- The parts between blanks, up to four. -/
def part4 (s : ByteArray) : List ByteArray := Lib.splitB ⟨#[32]⟩ 0 (min 4 (s.size + 1) - 1) s
theorem extract_le (s : ByteArray) (i j : Nat) : (s.extract i j).size ≤ s.size := by rw [ByteArray.size_extract]; omega
theorem splitB_sizes (sep : ByteArray) : ∀ (k : Nat) (s : ByteArray), ∀ x ∈ Lib.splitB sep 0 k s, x.size ≤ s.size
  | 0, s, x, hx => by
    rw [Lib.splitB_zero] at hx
    simp at hx
    rw [hx]
    exact Nat.le_refl _
  | k + 1, s, x, hx => by
    unfold Lib.splitB at hx
    split at hx
    · simp at hx
      rw [hx]
      exact Nat.le_refl _
    · rcases List.mem_cons.1 hx with h | h
      · rw [h]; exact extract_le _ _ _
      · exact Nat.le_trans (splitB_sizes sep k _ x h) (extract_le _ _ _)
theorem part4_any (s : ByteArray) (w : World) (hs : s.size < 4294967281) (hM : MaxL w) :
    Calls Tryz.prog 52 #[.string s, .string ⟨#[32]⟩, .int .i64 4] w fun e w' => ∃ b c, e = .returned (.slice (some ⟨b, 0, none⟩) (part4 s).length c) ∧ Below w.heap.size w w' ∧ w.heap.size ≤ b ∧ (∀ i x, (part4 s)[i]? = some x → w'.cell? ⟨b, i, none⟩ = some (.string x)) := by
  obtain ⟨m, hm⟩ := hM
  refine (Tryz.strings_SplitN s ⟨#[32]⟩ 4 m w hs hm (by decide) (by decide) (by decide)).mono ?_
  rintro e w' ⟨rfl, rfl⟩
  refine ⟨w.heap.size, _, rfl, (Below.refl _ _).alloc (Nat.le_refl _) _, Nat.le_refl _, ?_⟩
  intro i x hx
  refine tblk_cell (tblk_new _ _) ?_
  unfold Lib.cellsOf
  have hi : i < (part4 s).length := (List.getElem?_eq_some_iff.1 hx).1
  unfold part4 at hx hi
  rw [List.getElem?_toArray, List.getElem?_append_left (by simpa using hi), List.getElem?_map, hx]
  rfl

structure Rq where
  method : ByteArray
  target : ByteArray
  minor : Int
  code : Int
def rqV (x : Rq) : Value := .agg #[.string x.method, .string x.target, .int .i64 x.minor, .slice none 0 0, .slice none 0 0]
def rqNo (c : Int) : Rq := ⟨⟨#[]⟩, ⟨#[]⟩, 0, c⟩
def rq3 (p0 p1 p2 : ByteArray) : Rq :=
  if mthP p0 = false then rqNo 400 else if tarP p1 p0 = false then rqNo 400 else if 512 < p1.size then rqNo 414 else if verP p2 = false then rqNo 400 else if (minP p2).2 = false then rqNo 505 else ⟨p0, p1, (minP p2).1, 0⟩
def rqP (s : ByteArray) : Rq := match part4 s with
  | [p0, p1, p2] => rq3 p0 p1 p2
  | _ => rqNo 400
/-- Request's own block, and the row of the three parts. -/
structure RQ (w : World) (b : Nat) (p0 p1 p2 : ByteArray) (W : World) : Prop where
  below : Below w.heap.size w W
  own : W.heap[w.heap.size]? = some (.cells #[.string ⟨#[]⟩, .string ⟨#[]⟩, .int .i64 0, .slice none 0 0, .slice none 0 0] 26)
  lt : b < W.heap.size
  ne : ¬ b = w.heap.size
  c0 : W.cell? ⟨b, 0, none⟩ = some (.string p0)
  c1 : W.cell? ⟨b, 1, none⟩ = some (.string p1)
  c2 : W.cell? ⟨b, 2, none⟩ = some (.string p2)
theorem RQ.drew {w W : World} {b : Nat} {p0 p1 p2 : ByteArray} (h : RQ w b p0 p1 p2 W) : RQ w b p0 p1 p2 W.drew := ⟨h.below.drew, h.own, h.lt, h.ne, h.c0, h.c1, h.c2⟩
theorem RQ.next {w W W' : World} {b : Nat} {p0 p1 p2 : ByteArray} (h : RQ w b p0 p1 p2 W) (k : Below W.heap.size W W') : RQ w b p0 p1 p2 W' :=
  ⟨h.below.trans (k.mono h.below.size), tblk_below h.own k, Nat.lt_of_lt_of_le h.lt k.size, h.ne, (k.cell (p := ⟨b, 0, none⟩) h.lt).trans h.c0, (k.cell (p := ⟨b, 1, none⟩) h.lt).trans h.c1, (k.cell (p := ⟨b, 2, none⟩) h.lt).trans h.c2⟩
theorem ne_of_le {w : World} {o : Obj} {b : Nat} (h : (w.alloc o).heap.size ≤ b) : ¬ b = w.heap.size := by simp at h; omega
theorem lcell_lt {w : World} {b : Nat} {i : Nat} {v : Value} (h : w.cell? ⟨b, i, none⟩ = some v) : b < w.heap.size := by
  unfold World.cell? at h
  rcases Nat.lt_or_ge b w.heap.size with c | c
  · exact c
  · simp [Array.getElem?_eq_none c] at h

set_option maxRecDepth 100000 in
set_option maxHeartbeats 4000000 in
theorem req_three (p0 p1 p2 s : ByteArray) (w : World) (hs : s.size < 4294967281) (hM : MaxL w) (hp : part4 s = [p0, p1, p2]) :
    Calls Tryz.prog 24 #[.string s] w fun e w' => e = .returned (.tuple #[rqV (rq3 p0 p1 p2), .int .i64 (rq3 p0 p1 p2).code]) ∧ Below w.heap.size w w' := by
  have q0 : p0.size ≤ s.size := splitB_sizes _ _ _ p0 (show p0 ∈ part4 s by rw [hp]; simp)
  have q1 : p1.size ≤ s.size := splitB_sizes _ _ _ p1 (show p1 ∈ part4 s by rw [hp]; simp)
  have q2 : p2.size ≤ s.size := splitB_sizes _ _ _ p2 (show p2 ∈ part4 s by rw [hp]; simp)
  have C0 : Below w.heap.size w (w.alloc (.cells #[.string ⟨#[]⟩, .string ⟨#[]⟩, .int .i64 0, .slice none 0 0, .slice none 0 0] 26)) := (Below.refl _ _).alloc (Nat.le_refl _) _
  have hg0 := tblk_new w (.cells #[.string ⟨#[]⟩, .string ⟨#[]⟩, .int .i64 0, .slice none 0 0, .slice none 0 0] 26)
  have H1 : Hid (Calls Tryz.prog 52 #[.string s, .string ⟨#[32]⟩, .int .i64 4] (w.alloc (.cells #[.string ⟨#[]⟩, .string ⟨#[]⟩, .int .i64 0, .slice none 0 0, .slice none 0 0] 26)) fun e w' => ∃ b c, e = .returned (.slice (some ⟨b, 0, none⟩) 3 c) ∧ RQ w b p0 p1 p2 w') := by
    refine (part4_any s _ hs (hM.below C0)).mono ?_
    rintro e w' ⟨b, c, he, B, hb, hc⟩
    rw [hp] at he hc
    have c0 := hc 0 p0 rfl
    exact ⟨b, c, he, C0.trans (B.mono C0.size), tblk_below hg0 B, lcell_lt c0, (ne_of_le hb), c0, hc 1 p1 rfl, hc 2 p2 rfl⟩
  have HM : Hid (∀ b W, RQ w b p0 p1 p2 W → Calls Tryz.prog 53 #[.string p0] W fun e w' => e = .returned (.bool (mthP p0)) ∧ RQ w b p0 p1 p2 w' ∧ w'.cell? ⟨b, 0, none⟩ = some (.string p0) ∧ w'.cell? ⟨b, 1, none⟩ = some (.string p1) ∧ w'.cell? ⟨b, 2, none⟩ = some (.string p2)) := fun b W i => (method_any _ W (by unfold maxLen; omega)).mono fun e w' z => ⟨z.1, i.next z.2, (i.next z.2).c0, (i.next z.2).c1, (i.next z.2).c2⟩
  have HT : Hid (∀ b W, RQ w b p0 p1 p2 W → Calls Tryz.prog 54 #[.string p1, .string p0] W fun e w' => e = .returned (.bool (tarP p1 p0)) ∧ RQ w b p0 p1 p2 w' ∧ w'.cell? ⟨b, 0, none⟩ = some (.string p0) ∧ w'.cell? ⟨b, 1, none⟩ = some (.string p1) ∧ w'.cell? ⟨b, 2, none⟩ = some (.string p2)) := fun b W i => (target_any _ _ W (by unfold maxLen; omega)).mono fun e w' z => ⟨z.1, i.next z.2, (i.next z.2).c0, (i.next z.2).c1, (i.next z.2).c2⟩
  have K0 : Hid (∀ b W, RQ w b p0 p1 p2 W → Calls Tryz.prog 57 #[.string p0] W fun e w' => e = .returned (.string p0) ∧ RQ w b p0 p1 p2 w' ∧ w'.cell? ⟨b, 0, none⟩ = some (.string p0) ∧ w'.cell? ⟨b, 1, none⟩ = some (.string p1) ∧ w'.cell? ⟨w.heap.size, 0, none⟩ = some (.string ⟨#[]⟩) ∧ w'.frozen? ⟨w.heap.size, 0, none⟩ = false ∧ w'.cell? ⟨w.heap.size, 1, none⟩ = some (.string ⟨#[]⟩) ∧ w'.frozen? ⟨w.heap.size, 1, none⟩ = false ∧ w'.cell? ⟨w.heap.size, 2, none⟩ = some (.int .i64 0) ∧ w'.frozen? ⟨w.heap.size, 2, none⟩ = false ∧ w'.cell? ⟨w.heap.size, 3, none⟩ = some (.slice none 0 0) ∧ w'.frozen? ⟨w.heap.size, 3, none⟩ = false ∧ w'.cell? ⟨w.heap.size, 4, none⟩ = some (.slice none 0 0) ∧ w'.frozen? ⟨w.heap.size, 4, none⟩ = false) := fun b W i => (clone_any _ W (by omega)).mono fun e w' z => ⟨z.1, i.next z.2, (i.next z.2).c0, (i.next z.2).c1, tblk_cell (i.next z.2).own rfl, lblk_z (i.next z.2).own, tblk_cell (i.next z.2).own rfl, lblk_z (i.next z.2).own, tblk_cell (i.next z.2).own rfl, lblk_z (i.next z.2).own, tblk_cell (i.next z.2).own rfl, lblk_z (i.next z.2).own, tblk_cell (i.next z.2).own rfl, lblk_z (i.next z.2).own⟩
  have K1 : Hid (∀ b W, RQ w b p0 p1 p2 W → Calls Tryz.prog 57 #[.string p1] W fun e w' => e = .returned (.string p1) ∧ RQ w b p0 p1 p2 w' ∧ w'.cell? ⟨b, 0, none⟩ = some (.string p0) ∧ w'.cell? ⟨b, 1, none⟩ = some (.string p1) ∧ w'.cell? ⟨w.heap.size, 0, none⟩ = some (.string ⟨#[]⟩) ∧ w'.frozen? ⟨w.heap.size, 0, none⟩ = false ∧ w'.cell? ⟨w.heap.size, 1, none⟩ = some (.string ⟨#[]⟩) ∧ w'.frozen? ⟨w.heap.size, 1, none⟩ = false ∧ w'.cell? ⟨w.heap.size, 2, none⟩ = some (.int .i64 0) ∧ w'.frozen? ⟨w.heap.size, 2, none⟩ = false ∧ w'.cell? ⟨w.heap.size, 3, none⟩ = some (.slice none 0 0) ∧ w'.frozen? ⟨w.heap.size, 3, none⟩ = false ∧ w'.cell? ⟨w.heap.size, 4, none⟩ = some (.slice none 0 0) ∧ w'.frozen? ⟨w.heap.size, 4, none⟩ = false) := fun b W i => (clone_any _ W (by omega)).mono fun e w' z => ⟨z.1, i.next z.2, (i.next z.2).c0, (i.next z.2).c1, tblk_cell (i.next z.2).own rfl, lblk_z (i.next z.2).own, tblk_cell (i.next z.2).own rfl, lblk_z (i.next z.2).own, tblk_cell (i.next z.2).own rfl, lblk_z (i.next z.2).own, tblk_cell (i.next z.2).own rfl, lblk_z (i.next z.2).own, tblk_cell (i.next z.2).own rfl, lblk_z (i.next z.2).own⟩
  have HV : Hid (∀ W, Calls Tryz.prog 55 #[.string p2] W fun e w' => e = .returned (.bool (verP p2)) ∧ w' = W) := fun W => isversion_any _ W
  have HN : Hid (∀ W, Calls Tryz.prog 56 #[.string p2] W fun e w' => e = .returned (.tuple #[.int .i64 (minP p2).1, .bool (minP p2).2]) ∧ w' = W) := fun W => minor_any _ W
  unfold rq3
  generalize mthP p0 = bm at *
  generalize tarP p1 p0 = bt at *
  generalize verP p2 = bv at *
  generalize minP p2 = mm at *
  obtain ⟨mi, kn⟩ := mm
  simp only at HN ⊢
  have hq : Hid (p1.size ≤ 4294967281) := by rw [Hid]; omega
  clear q0 q1 q2 hs hM hp C0 hg0
  cases bm
  · rw [if_pos rfl]
    go_enter Tryz.func24, Tryz.ntmps24
    go_wp2_with fail
    refine H1.out.mono ?_
    rintro e w1 ⟨b, c, rfl, I0⟩
    have s0 := I0.c0
    have s1 := I0.c1
    have s2 := I0.c2
    clear H1
    go_wp2_with fail
    refine wp_region_held_drew (S := (fun W => W.cell? ⟨b, 0, none⟩ = some (.string p0) ∧ W.cell? ⟨b, 1, none⟩ = some (.string p1) ∧ W.cell? ⟨b, 2, none⟩ = some (.string p2))) (by kernel_rfl) ⟨s0, s1, s2⟩ (fun hHeld => ?_)
    refine wpAnyH_take (i := 0) (oi := { dst := some 9, op := Op.move (Operand.tmp 4), type := 39, pos := "line.go:44", after := #[], guard := none }) (v := ?v0) rfl (by kernel_rfl) (by kernel_rfl) (by kernel_rfl) (fun _ _ _ h => h) (Or.inl ⟨by rfl, ?hy0⟩) hHeld ?rest0
    case hy0 => (intro w hSw; (try dsimp only at hSw); go_simp; try with_reducible rfl)
    try simp only [Act.put, List.setIfInBounds_toArray, List.set_cons_zero, List.set_cons_succ]
    refine wpAnyH_take (i := 1) (oi := { dst := some 10, op := Op.call { callee := Callee.builtin Builtin.len, args := #[Operand.tmp 9], argTypes := #[39] }, type := 3, pos := "line.go:44", after := #[{ on := 0, ground := Ground.data }], guard := none }) (v := ?v1) rfl (by kernel_rfl) (by kernel_rfl) (by kernel_rfl) (fun _ _ _ h => h) (Or.inl ⟨by rfl, ?hy1⟩) hHeld ?rest1
    case hy1 => (intro w hSw; (try dsimp only at hSw); go_simp; try with_reducible rfl)
    try simp only [Act.put, List.setIfInBounds_toArray, List.set_cons_zero, List.set_cons_succ]
    refine wpAnyH_take (i := 2) (oi := { dst := some 11, op := Op.binOp BinOp.neq 3 (Operand.tmp 10) (Operand.const (Value.int IntKind.i64 3)) 3, type := 4, pos := "line.go:44", after := #[{ on := 1, ground := Ground.data }], guard := none }) (v := ?v2) rfl (by kernel_rfl) (by kernel_rfl) (by kernel_rfl) (fun _ _ _ h => h) (Or.inl ⟨by rfl, ?hy2⟩) hHeld ?rest2
    case hy2 => (intro w hSw; (try dsimp only at hSw); go_simp; try with_reducible rfl)
    try simp only [Act.put, List.setIfInBounds_toArray, List.set_cons_zero, List.set_cons_succ]
    refine wpAnyH_take (i := 3) (oi := { dst := some 12, op := Op.move (Operand.tmp 11), type := 4, pos := "line.go:44", after := #[{ on := 2, ground := Ground.data }], guard := none }) (v := ?v3) rfl (by kernel_rfl) (by kernel_rfl) (by kernel_rfl) (fun _ _ _ h => h) (Or.inl ⟨by rfl, ?hy3⟩) hHeld ?rest3
    case hy3 => (intro w hSw; (try dsimp only at hSw); go_simp; try with_reducible rfl)
    try simp only [Act.put, List.setIfInBounds_toArray, List.set_cons_zero, List.set_cons_succ]
    refine wpAnyH_take (i := 4) (oi := { dst := some 13, op := Op.move (Operand.tmp 4), type := 39, pos := "line.go:44", after := #[{ on := 3, ground := Ground.guard }], guard := some (3, false) }) (v := ?v4) rfl (by kernel_rfl) (by kernel_rfl) (by kernel_rfl) (fun _ _ _ h => h) (Or.inl ⟨by rfl, ?hy4⟩) hHeld ?rest4
    case hy4 => (intro w hSw; (try dsimp only at hSw); go_simp; try with_reducible rfl)
    try simp only [Act.put, List.setIfInBounds_toArray, List.set_cons_zero, List.set_cons_succ]
    refine wpAnyH_take (i := 5) (oi := { dst := some 14, op := Op.indexAddr 39 (Operand.tmp 13) (Operand.const (Value.int IntKind.i64 0)), type := 0, pos := "line.go:44", after := #[{ on := 4, ground := Ground.data }, { on := 3, ground := Ground.guard }], guard := some (3, false) }) (v := ?v5) rfl (by kernel_rfl) (by kernel_rfl) (by kernel_rfl) (fun _ _ _ h => h) (Or.inl ⟨by rfl, ?hy5⟩) hHeld ?rest5
    case hy5 => (intro w hSw; (try dsimp only at hSw); go_simp; try with_reducible rfl)
    try simp only [Act.put, List.setIfInBounds_toArray, List.set_cons_zero, List.set_cons_succ]
    refine wpAnyH_take (i := 6) (oi := { dst := some 15, op := Op.load 9 (Operand.tmp 14), type := 9, pos := "line.go:44", after := #[{ on := 5, ground := Ground.data }, { on := 3, ground := Ground.guard }], guard := some (3, false) }) (v := ?v6) rfl (by kernel_rfl) (by kernel_rfl) (by kernel_rfl) (fun _ _ _ h => h) (Or.inl ⟨by rfl, ?hy6⟩) hHeld ?rest6
    case hy6 => (intro w hSw; (try dsimp only at hSw); go_simp; try with_reducible rfl)
    try simp only [Act.put, List.setIfInBounds_toArray, List.set_cons_zero, List.set_cons_succ]
    refine wpAnyH_ready (rs := [7]) (by kernel_rfl) (by simp) ?_
    refine AllReadyH.cons (o := { dst := some 16, op := Op.call { callee := Callee.value (Operand.func 53), args := #[Operand.tmp 15], argTypes := #[9] }, type := 4, pos := "line.go:44", after := #[{ on := 6, ground := Ground.data }, { on := 3, ground := Ground.chain }, { on := 3, ground := Ground.guard }], guard := some (3, false) }) rfl (fun K hK => ?_) AllReadyH.nil
    go_simp
    (go_at_call 53; refine (HM.out b _ (by first | assumption | exact RQ.drew I0 | exact RQ.drew (by assumption))).mono ?_; rintro e w' ⟨rfl, hI, hS0, hS1, hS2⟩)
    refine hK.out _ _ ⟨hS0, hS1, hS2⟩ (fun hHeld => ?_)
    clear hK K
    try simp only [Act.put, List.setIfInBounds_toArray, List.set_cons_zero, List.set_cons_succ]
    refine wpAnyH_take (i := 8) (oi := { dst := some 17, op := Op.unOp UnOp.not 4 (Operand.tmp 16), type := 4, pos := "line.go:44", after := #[{ on := 7, ground := Ground.data }, { on := 3, ground := Ground.guard }], guard := some (3, false) }) (v := ?v8) rfl (by kernel_rfl) (by kernel_rfl) (by kernel_rfl) (fun _ _ _ h => h) (Or.inl ⟨by rfl, ?hy8⟩) hHeld ?rest8
    case hy8 => (intro w hSw; (try dsimp only at hSw); go_simp; try with_reducible rfl)
    try simp only [Act.put, List.setIfInBounds_toArray, List.set_cons_zero, List.set_cons_succ]
    refine wpAnyH_take (i := 9) (oi := { dst := some 18, op := Op.pick (Operand.tmp 12) (Operand.const (Value.bool true)) (Operand.tmp 17), type := 4, pos := "line.go:44", after := #[{ on := 3, ground := Ground.data }, { on := 8, ground := Ground.data }], guard := none }) (v := ?v9) rfl (by kernel_rfl) (by kernel_rfl) (by kernel_rfl) (fun _ _ _ h => h) (Or.inl ⟨by rfl, ?hy9⟩) hHeld ?rest9
    case hy9 => (intro w hSw; (try dsimp only at hSw); go_simp; try with_reducible rfl)
    try simp only [Act.put, List.setIfInBounds_toArray, List.set_cons_zero, List.set_cons_succ]
    refine wpAnyH_take (i := 10) (oi := { dst := some 19, op := Op.move (Operand.tmp 18), type := 4, pos := "line.go:44", after := #[{ on := 9, ground := Ground.data }, { on := 7, ground := Ground.chain }], guard := none }) (v := ?v10) rfl (by kernel_rfl) (by kernel_rfl) (by kernel_rfl) (fun _ _ _ h => h) (Or.inl ⟨by rfl, ?hy10⟩) hHeld ?rest10
    case hy10 => (intro w hSw; (try dsimp only at hSw); go_simp; try with_reducible rfl)
    try simp only [Act.put, List.setIfInBounds_toArray, List.set_cons_zero, List.set_cons_succ]
    refine wpAnyH_take (i := 11) (oi := { dst := some 20, op := Op.move (Operand.tmp 4), type := 39, pos := "line.go:44", after := #[{ on := 10, ground := Ground.guard }], guard := some (10, false) }) (v := undef) rfl (by kernel_rfl) (by kernel_rfl) (by kernel_rfl) (fun _ _ _ h => h) (Or.inr ⟨by rfl, rfl⟩) hHeld ?rest11
    try simp only [Act.put, List.setIfInBounds_toArray, List.set_cons_zero, List.set_cons_succ]
    refine wpAnyH_take (i := 12) (oi := { dst := some 21, op := Op.indexAddr 39 (Operand.tmp 20) (Operand.const (Value.int IntKind.i64 1)), type := 0, pos := "line.go:44", after := #[{ on := 11, ground := Ground.data }, { on := 10, ground := Ground.guard }], guard := some (10, false) }) (v := undef) rfl (by kernel_rfl) (by kernel_rfl) (by kernel_rfl) (fun _ _ _ h => h) (Or.inr ⟨by rfl, rfl⟩) hHeld ?rest12
    try simp only [Act.put, List.setIfInBounds_toArray, List.set_cons_zero, List.set_cons_succ]
    refine wpAnyH_take (i := 13) (oi := { dst := some 22, op := Op.load 9 (Operand.tmp 21), type := 9, pos := "line.go:44", after := #[{ on := 12, ground := Ground.data }, { on := 10, ground := Ground.guard }], guard := some (10, false) }) (v := undef) rfl (by kernel_rfl) (by kernel_rfl) (by kernel_rfl) (fun _ _ _ h => h) (Or.inr ⟨by rfl, rfl⟩) hHeld ?rest13
    try simp only [Act.put, List.setIfInBounds_toArray, List.set_cons_zero, List.set_cons_succ]
    refine wpAnyH_take (i := 14) (oi := { dst := some 23, op := Op.move (Operand.tmp 4), type := 39, pos := "line.go:44", after := #[{ on := 10, ground := Ground.guard }], guard := some (10, false) }) (v := undef) rfl (by kernel_rfl) (by kernel_rfl) (by kernel_rfl) (fun _ _ _ h => h) (Or.inr ⟨by rfl, rfl⟩) hHeld ?rest14
    try simp only [Act.put, List.setIfInBounds_toArray, List.set_cons_zero, List.set_cons_succ]
    refine wpAnyH_take (i := 15) (oi := { dst := some 24, op := Op.indexAddr 39 (Operand.tmp 23) (Operand.const (Value.int IntKind.i64 0)), type := 0, pos := "line.go:44", after := #[{ on := 14, ground := Ground.data }, { on := 10, ground := Ground.guard }], guard := some (10, false) }) (v := undef) rfl (by kernel_rfl) (by kernel_rfl) (by kernel_rfl) (fun _ _ _ h => h) (Or.inr ⟨by rfl, rfl⟩) hHeld ?rest15
    try simp only [Act.put, List.setIfInBounds_toArray, List.set_cons_zero, List.set_cons_succ]
    refine wpAnyH_take (i := 16) (oi := { dst := some 25, op := Op.load 9 (Operand.tmp 24), type := 9, pos := "line.go:44", after := #[{ on := 15, ground := Ground.data }, { on := 10, ground := Ground.guard }], guard := some (10, false) }) (v := undef) rfl (by kernel_rfl) (by kernel_rfl) (by kernel_rfl) (fun _ _ _ h => h) (Or.inr ⟨by rfl, rfl⟩) hHeld ?rest16
    try simp only [Act.put, List.setIfInBounds_toArray, List.set_cons_zero, List.set_cons_succ]
    refine wpAnyH_take (i := 17) (oi := { dst := some 26, op := Op.call { callee := Callee.value (Operand.func 54), args := #[Operand.tmp 22, Operand.tmp 25], argTypes := #[9, 9] }, type := 4, pos := "line.go:44", after := #[{ on := 13, ground := Ground.data }, { on := 16, ground := Ground.data }, { on := 10, ground := Ground.chain }, { on := 10, ground := Ground.guard }], guard := some (10, false) }) (v := undef) rfl (by kernel_rfl) (by kernel_rfl) (by kernel_rfl) (fun _ _ _ h => h) (Or.inr ⟨by rfl, rfl⟩) hHeld ?rest17
    try simp only [Act.put, List.setIfInBounds_toArray, List.set_cons_zero, List.set_cons_succ]
    refine wpAnyH_take (i := 18) (oi := { dst := some 27, op := Op.unOp UnOp.not 4 (Operand.tmp 26), type := 4, pos := "line.go:44", after := #[{ on := 17, ground := Ground.data }, { on := 10, ground := Ground.guard }], guard := some (10, false) }) (v := undef) rfl (by kernel_rfl) (by kernel_rfl) (by kernel_rfl) (fun _ _ _ h => h) (Or.inr ⟨by rfl, rfl⟩) hHeld ?rest18
    try simp only [Act.put, List.setIfInBounds_toArray, List.set_cons_zero, List.set_cons_succ]
    refine wpAnyH_take (i := 19) (oi := { dst := some 28, op := Op.pick (Operand.tmp 19) (Operand.const (Value.bool true)) (Operand.tmp 27), type := 4, pos := "line.go:44", after := #[{ on := 10, ground := Ground.data }, { on := 18, ground := Ground.data }], guard := none }) (v := ?v19) rfl (by kernel_rfl) (by kernel_rfl) (by kernel_rfl) (fun _ _ _ h => h) (Or.inl ⟨by rfl, ?hy19⟩) hHeld ?rest19
    case hy19 => (intro w hSw; (try dsimp only at hSw); go_simp; try with_reducible rfl)
    try simp only [Act.put, List.setIfInBounds_toArray, List.set_cons_zero, List.set_cons_succ]
    refine wpAnyH_done (by kernel_rfl) ?_ _
    have HW := five_cells hI.own (.string ⟨#[]⟩) (.string ⟨#[]⟩) (.int .i64 0) (.slice none 0 0) (.slice none 0 0)
    have HB := five_below (.string ⟨#[]⟩) (.string ⟨#[]⟩) (.int .i64 0) (.slice none 0 0) (.slice none 0 0) hI.below (Nat.le_refl _)
    have a0 := tblk_cell (i := 0) hI.own rfl
    have z0 := lblk_z (i := 0) hI.own
    have a1 := tblk_cell (i := 1) hI.own rfl
    have z1 := lblk_z (i := 1) hI.own
    have a2 := tblk_cell (i := 2) hI.own rfl
    have z2 := lblk_z (i := 2) hI.own
    have a3 := tblk_cell (i := 3) hI.own rfl
    have z3 := lblk_z (i := 3) hI.own
    have a4 := tblk_cell (i := 4) hI.own rfl
    have z4 := lblk_z (i := 4) hI.own
    have r0 := tblk_cell (i := 0) HW rfl
    have r1 := tblk_cell (i := 1) HW rfl
    have r2 := tblk_cell (i := 2) HW rfl
    have r3 := tblk_cell (i := 3) HW rfl
    have r4 := tblk_cell (i := 4) HW rfl
    unfold five at r0 r1 r2 r3 r4 HB
    have HB' : Hid _ := HB
    clear HB HW
    go_wp2
    refine bodyPost_ret (v := .tuple #[.agg #[.string ⟨#[]⟩, .string ⟨#[]⟩, .int .i64 0, .slice none 0 0, .slice none 0 0], .int .i64 400]) (by simp [results, Tryz.results24, go_sem, r0, r1, r2, r3, r4]) rfl ⟨rfl, HB'.out⟩
  · rw [if_neg (by decide)]
    cases bt
    · rw [if_pos rfl]
      go_enter Tryz.func24, Tryz.ntmps24
      go_wp2_with fail
      refine H1.out.mono ?_
      rintro e w1 ⟨b, c, rfl, I0⟩
      have s0 := I0.c0
      have s1 := I0.c1
      have s2 := I0.c2
      clear H1
      go_wp2_with fail
      go_region_held3 (fun W => W.cell? ⟨b, 0, none⟩ = some (.string p0) ∧ W.cell? ⟨b, 1, none⟩ = some (.string p1) ∧ W.cell? ⟨b, 2, none⟩ = some (.string p2)) (go_keep) (first | (go_at_call 53; refine (HM.out b _ (by first | assumption | exact RQ.drew I0 | exact RQ.drew (by assumption))).mono ?_; rintro e w' ⟨rfl, hI, hS0, hS1, hS2⟩) | (go_at_call 54; refine (HT.out b _ (by first | assumption | exact RQ.drew I0 | exact RQ.drew (by assumption))).mono ?_; rintro e w' ⟨rfl, hI, hS0, hS1, hS2⟩))
      have HW := five_cells hI.own (.string ⟨#[]⟩) (.string ⟨#[]⟩) (.int .i64 0) (.slice none 0 0) (.slice none 0 0)
      have HB := five_below (.string ⟨#[]⟩) (.string ⟨#[]⟩) (.int .i64 0) (.slice none 0 0) (.slice none 0 0) hI.below (Nat.le_refl _)
      have a0 := tblk_cell (i := 0) hI.own rfl
      have z0 := lblk_z (i := 0) hI.own
      have a1 := tblk_cell (i := 1) hI.own rfl
      have z1 := lblk_z (i := 1) hI.own
      have a2 := tblk_cell (i := 2) hI.own rfl
      have z2 := lblk_z (i := 2) hI.own
      have a3 := tblk_cell (i := 3) hI.own rfl
      have z3 := lblk_z (i := 3) hI.own
      have a4 := tblk_cell (i := 4) hI.own rfl
      have z4 := lblk_z (i := 4) hI.own
      have r0 := tblk_cell (i := 0) HW rfl
      have r1 := tblk_cell (i := 1) HW rfl
      have r2 := tblk_cell (i := 2) HW rfl
      have r3 := tblk_cell (i := 3) HW rfl
      have r4 := tblk_cell (i := 4) HW rfl
      unfold five at r0 r1 r2 r3 r4 HB
      have HB' : Hid _ := HB
      clear HB HW
      go_wp2
      refine bodyPost_ret (v := .tuple #[.agg #[.string ⟨#[]⟩, .string ⟨#[]⟩, .int .i64 0, .slice none 0 0, .slice none 0 0], .int .i64 400]) (by simp [results, Tryz.results24, go_sem, r0, r1, r2, r3, r4]) rfl ⟨rfl, HB'.out⟩
    · rw [if_neg (by decide)]
      by_cases h5 : 512 < p1.size
      · rw [if_pos h5]
        have h5' : (512 : Int) < (p1.size : Int) := by omega
        clear h5
        go_enter Tryz.func24, Tryz.ntmps24
        go_wp2_with fail
        refine H1.out.mono ?_
        rintro e w1 ⟨b, c, rfl, I0⟩
        have s0 := I0.c0
        have s1 := I0.c1
        have s2 := I0.c2
        clear H1
        go_wp2_with fail
        go_region_held3 (fun W => W.cell? ⟨b, 0, none⟩ = some (.string p0) ∧ W.cell? ⟨b, 1, none⟩ = some (.string p1) ∧ W.cell? ⟨b, 2, none⟩ = some (.string p2)) (go_keep) (first | (go_at_call 53; refine (HM.out b _ (by first | assumption | exact RQ.drew I0 | exact RQ.drew (by assumption))).mono ?_; rintro e w' ⟨rfl, hI, hS0, hS1, hS2⟩) | (go_at_call 54; refine (HT.out b _ (by first | assumption | exact RQ.drew I0 | exact RQ.drew (by assumption))).mono ?_; rintro e w' ⟨rfl, hI, hS0, hS1, hS2⟩))
        have HW := five_cells hI.own (.string ⟨#[]⟩) (.string ⟨#[]⟩) (.int .i64 0) (.slice none 0 0) (.slice none 0 0)
        have HB := five_below (.string ⟨#[]⟩) (.string ⟨#[]⟩) (.int .i64 0) (.slice none 0 0) (.slice none 0 0) hI.below (Nat.le_refl _)
        have a0 := tblk_cell (i := 0) hI.own rfl
        have z0 := lblk_z (i := 0) hI.own
        have a1 := tblk_cell (i := 1) hI.own rfl
        have z1 := lblk_z (i := 1) hI.own
        have a2 := tblk_cell (i := 2) hI.own rfl
        have z2 := lblk_z (i := 2) hI.own
        have a3 := tblk_cell (i := 3) hI.own rfl
        have z3 := lblk_z (i := 3) hI.own
        have a4 := tblk_cell (i := 4) hI.own rfl
        have z4 := lblk_z (i := 4) hI.own
        have r0 := tblk_cell (i := 0) HW rfl
        have r1 := tblk_cell (i := 1) HW rfl
        have r2 := tblk_cell (i := 2) HW rfl
        have r3 := tblk_cell (i := 3) HW rfl
        have r4 := tblk_cell (i := 4) HW rfl
        unfold five at r0 r1 r2 r3 r4 HB
        have HB' : Hid _ := HB
        clear HB HW
        go_wp2
        refine bodyPost_ret (v := .tuple #[.agg #[.string ⟨#[]⟩, .string ⟨#[]⟩, .int .i64 0, .slice none 0 0, .slice none 0 0], .int .i64 414]) (by simp [results, Tryz.results24, go_sem, r0, r1, r2, r3, r4]) rfl ⟨rfl, HB'.out⟩
      · rw [if_neg h5]
        have h5' : ¬ (512 : Int) < (p1.size : Int) := by omega
        clear h5
        cases bv
        · rw [if_pos rfl]
          go_enter Tryz.func24, Tryz.ntmps24
          go_wp2_with fail
          refine H1.out.mono ?_
          rintro e w1 ⟨b, c, rfl, I0⟩
          have s0 := I0.c0
          have s1 := I0.c1
          have s2 := I0.c2
          clear H1
          go_wp2_with fail
          go_region_held3 (fun W => W.cell? ⟨b, 0, none⟩ = some (.string p0) ∧ W.cell? ⟨b, 1, none⟩ = some (.string p1) ∧ W.cell? ⟨b, 2, none⟩ = some (.string p2)) (go_keep) (first | (go_at_call 53; refine (HM.out b _ (by first | assumption | exact RQ.drew I0 | exact RQ.drew (by assumption))).mono ?_; rintro e w' ⟨rfl, hI, hS0, hS1, hS2⟩) | (go_at_call 54; refine (HT.out b _ (by first | assumption | exact RQ.drew I0 | exact RQ.drew (by assumption))).mono ?_; rintro e w' ⟨rfl, hI, hS0, hS1, hS2⟩))
          go_wp2_with fail
          refine (HV.out _).mono ?_
          rintro e w5 ⟨rfl, rfl⟩
          have HW := five_cells hI.own (.string ⟨#[]⟩) (.string ⟨#[]⟩) (.int .i64 0) (.slice none 0 0) (.slice none 0 0)
          have HB := five_below (.string ⟨#[]⟩) (.string ⟨#[]⟩) (.int .i64 0) (.slice none 0 0) (.slice none 0 0) hI.below (Nat.le_refl _)
          have a0 := tblk_cell (i := 0) hI.own rfl
          have z0 := lblk_z (i := 0) hI.own
          have a1 := tblk_cell (i := 1) hI.own rfl
          have z1 := lblk_z (i := 1) hI.own
          have a2 := tblk_cell (i := 2) hI.own rfl
          have z2 := lblk_z (i := 2) hI.own
          have a3 := tblk_cell (i := 3) hI.own rfl
          have z3 := lblk_z (i := 3) hI.own
          have a4 := tblk_cell (i := 4) hI.own rfl
          have z4 := lblk_z (i := 4) hI.own
          have r0 := tblk_cell (i := 0) HW rfl
          have r1 := tblk_cell (i := 1) HW rfl
          have r2 := tblk_cell (i := 2) HW rfl
          have r3 := tblk_cell (i := 3) HW rfl
          have r4 := tblk_cell (i := 4) HW rfl
          unfold five at r0 r1 r2 r3 r4 HB
          have HB' : Hid _ := HB
          clear HB HW
          go_wp2
          refine bodyPost_ret (v := .tuple #[.agg #[.string ⟨#[]⟩, .string ⟨#[]⟩, .int .i64 0, .slice none 0 0, .slice none 0 0], .int .i64 400]) (by simp [results, Tryz.results24, go_sem, r0, r1, r2, r3, r4]) rfl ⟨rfl, HB'.out⟩
        · rw [if_neg (by decide)]
          cases kn
          · rw [if_pos rfl]
            go_enter Tryz.func24, Tryz.ntmps24
            go_wp2_with fail
            refine H1.out.mono ?_
            rintro e w1 ⟨b, c, rfl, I0⟩
            have s0 := I0.c0
            have s1 := I0.c1
            have s2 := I0.c2
            clear H1
            go_wp2_with fail
            go_region_held3 (fun W => W.cell? ⟨b, 0, none⟩ = some (.string p0) ∧ W.cell? ⟨b, 1, none⟩ = some (.string p1) ∧ W.cell? ⟨b, 2, none⟩ = some (.string p2)) (go_keep) (first | (go_at_call 53; refine (HM.out b _ (by first | assumption | exact RQ.drew I0 | exact RQ.drew (by assumption))).mono ?_; rintro e w' ⟨rfl, hI, hS0, hS1, hS2⟩) | (go_at_call 54; refine (HT.out b _ (by first | assumption | exact RQ.drew I0 | exact RQ.drew (by assumption))).mono ?_; rintro e w' ⟨rfl, hI, hS0, hS1, hS2⟩))
            go_wp2_with fail
            refine (HV.out _).mono ?_
            rintro e w5 ⟨rfl, rfl⟩
            go_wp2_with fail
            refine (HN.out _).mono ?_
            rintro e w6 ⟨rfl, rfl⟩
            have HW := five_cells hI.own (.string ⟨#[]⟩) (.string ⟨#[]⟩) (.int .i64 0) (.slice none 0 0) (.slice none 0 0)
            have HB := five_below (.string ⟨#[]⟩) (.string ⟨#[]⟩) (.int .i64 0) (.slice none 0 0) (.slice none 0 0) hI.below (Nat.le_refl _)
            have a0 := tblk_cell (i := 0) hI.own rfl
            have z0 := lblk_z (i := 0) hI.own
            have a1 := tblk_cell (i := 1) hI.own rfl
            have z1 := lblk_z (i := 1) hI.own
            have a2 := tblk_cell (i := 2) hI.own rfl
            have z2 := lblk_z (i := 2) hI.own
            have a3 := tblk_cell (i := 3) hI.own rfl
            have z3 := lblk_z (i := 3) hI.own
            have a4 := tblk_cell (i := 4) hI.own rfl
            have z4 := lblk_z (i := 4) hI.own
            have r0 := tblk_cell (i := 0) HW rfl
            have r1 := tblk_cell (i := 1) HW rfl
            have r2 := tblk_cell (i := 2) HW rfl
            have r3 := tblk_cell (i := 3) HW rfl
            have r4 := tblk_cell (i := 4) HW rfl
            unfold five at r0 r1 r2 r3 r4 HB
            have HB' : Hid _ := HB
            clear HB HW
            go_wp2
            refine bodyPost_ret (v := .tuple #[.agg #[.string ⟨#[]⟩, .string ⟨#[]⟩, .int .i64 0, .slice none 0 0, .slice none 0 0], .int .i64 505]) (by simp [results, Tryz.results24, go_sem, r0, r1, r2, r3, r4]) rfl ⟨rfl, HB'.out⟩
          · rw [if_neg (by decide)]
            go_enter Tryz.func24, Tryz.ntmps24
            go_wp2_with fail
            refine H1.out.mono ?_
            rintro e w1 ⟨b, c, rfl, I0⟩
            have s0 := I0.c0
            have s1 := I0.c1
            have s2 := I0.c2
            clear H1
            go_wp2_with fail
            go_region_held3 (fun W => W.cell? ⟨b, 0, none⟩ = some (.string p0) ∧ W.cell? ⟨b, 1, none⟩ = some (.string p1) ∧ W.cell? ⟨b, 2, none⟩ = some (.string p2)) (go_keep) (first | (go_at_call 53; refine (HM.out b _ (by first | assumption | exact RQ.drew I0 | exact RQ.drew (by assumption))).mono ?_; rintro e w' ⟨rfl, hI, hS0, hS1, hS2⟩) | (go_at_call 54; refine (HT.out b _ (by first | assumption | exact RQ.drew I0 | exact RQ.drew (by assumption))).mono ?_; rintro e w' ⟨rfl, hI, hS0, hS1, hS2⟩))
            go_wp2_with fail
            refine (HV.out _).mono ?_
            rintro e w5 ⟨rfl, rfl⟩
            go_wp2_with fail
            refine (HN.out _).mono ?_
            rintro e w6 ⟨rfl, rfl⟩
            have nb := I0.ne
            have nb' : ¬ w.heap.size = b := fun e => nb e.symm
            have t0 := hI.c0
            have t1 := hI.c1
            go_wp2_with fail
            go_region_held3 (fun W => W.cell? ⟨b, 0, none⟩ = some (.string p0) ∧ W.cell? ⟨b, 1, none⟩ = some (.string p1)) (go_keep) (first | (go_at_call 57; refine (K0.out b _ (by first | assumption | exact RQ.drew (by assumption))).mono ?_; rintro e w' ⟨rfl, hI, hS0, hS1, d0, y0, d1, y1, d2, y2, d3, y3, d4, y4⟩) | (go_at_call 57; refine (K1.out b _ (by first | assumption | exact RQ.drew (by assumption))).mono ?_; rintro e w' ⟨rfl, hI, hS0, hS1, d0, y0, d1, y1, d2, y2, d3, y3, d4, y4⟩))
            have HW := five_cells hI.own (.string p0) (.string p1) (.int .i64 mi) (.slice none 0 0) (.slice none 0 0)
            have HB := five_below (.string p0) (.string p1) (.int .i64 mi) (.slice none 0 0) (.slice none 0 0) hI.below (Nat.le_refl _)
            have r0 := tblk_cell (i := 0) HW rfl
            have r1 := tblk_cell (i := 1) HW rfl
            have r2 := tblk_cell (i := 2) HW rfl
            have r3 := tblk_cell (i := 3) HW rfl
            have r4 := tblk_cell (i := 4) HW rfl
            unfold five at r0 r1 r2 r3 r4 HB
            have HB' : Hid _ := HB
            clear HB HW
            go_wp2
            refine bodyPost_ret (v := .tuple #[.agg #[.string p0, .string p1, .int .i64 mi, .slice none 0 0, .slice none 0 0], .int .i64 0]) (by simp [results, Tryz.results24, go_sem, r0, r1, r2, r3, r4]) rfl ⟨rfl, HB'.out⟩
end Go.Proofs.YthbjdbookiejeabGreatDoor
