/- The contracts of package meter's calls on a meter that lies in a block of its own: what each answers, and what the block holds behind it. -/
import Derived.Test.YtenajbefknlalaaMeterA
import Derived.Deep.QuietTactic
import Derived.BigQuiet
namespace Go.Proofs.Ytenajbefknlalaa
open Go.RowKit
set_option linter.unusedVariables false

/-- In block b lies a meter: what may be held, what is held, what was held ahead of the last Give. -/
def IsM (w : World) (b : Nat) (m h p : Int) : Prop := w.heap[b]? = some (.cells #[.int .i64 m, .int .i64 h, .int .i64 p] 53)
theorem IsM.c0 {w : World} {b : Nat} {m h p : Int} (x : IsM w b m h p) : w.cell? ⟨b, 0, none⟩ = some (.int .i64 m) := by
  unfold IsM at x; simp [World.cell?, x]
theorem IsM.c1 {w : World} {b : Nat} {m h p : Int} (x : IsM w b m h p) : w.cell? ⟨b, 1, none⟩ = some (.int .i64 h) := by
  unfold IsM at x; simp [World.cell?, x]
theorem IsM.c2 {w : World} {b : Nat} {m h p : Int} (x : IsM w b m h p) : w.cell? ⟨b, 2, none⟩ = some (.int .i64 p) := by
  unfold IsM at x; simp [World.cell?, x]
theorem IsM.z {w : World} {b : Nat} {m h p : Int} (x : IsM w b m h p) (o : Nat) : w.frozen? ⟨b, o, none⟩ = false := by
  unfold IsM at x; simp [World.frozen?, x]
theorem IsM.set1 {w : World} {b : Nat} {m h p : Int} (x : IsM w b m h p) (y : Int) : IsM (w.setCell ⟨b, 1, none⟩ (.int .i64 y)) b m y p := by
  unfold IsM at *; simp [World.setCell, Array.getElem?_modify, x]
theorem IsM.set2 {w : World} {b : Nat} {m h p : Int} (x : IsM w b m h p) (y : Int) : IsM (w.setCell ⟨b, 2, none⟩ (.int .i64 y)) b m h y := by
  unfold IsM at *; simp [World.setCell, Array.getElem?_modify, x]
theorem IsM.drew {w : World} {b : Nat} {m h p : Int} (x : IsM w b m h p) : IsM w.drew b m h p := x
theorem IsM.lt {w : World} {b : Nat} {m h p : Int} (x : IsM w b m h p) : b < w.heap.size := by
  unfold IsM at x; exact (Array.getElem?_eq_some_iff.1 x).1

/-- Nothing but block b has turned, and nothing is new. -/
structure But (b : Nat) (w w' : World) : Prop where
  os : w'.os = w.os
  tape : w'.tape = w.tape
  output : w'.output = w.output
  size : w'.heap.size = w.heap.size
  block : ∀ k, k ≠ b → w'.heap[k]? = w.heap[k]?
theorem But.refl (b : Nat) (w : World) : But b w w := ⟨rfl, rfl, rfl, rfl, fun _ _ => rfl⟩
theorem But.trans {b : Nat} {u v w : World} (h : But b u v) (k : But b v w) : But b u w :=
  ⟨k.os.trans h.os, k.tape.trans h.tape, k.output.trans h.output, k.size.trans h.size, fun i hi => (k.block i hi).trans (h.block i hi)⟩
theorem But.set (b o : Nat) (w : World) (v : Value) : But b w (w.setCell ⟨b, o, none⟩ v) :=
  ⟨rfl, rfl, rfl, by simp [World.setCell], fun k hk => Below.heap_setCell _ _ _ _ hk⟩
theorem But.drew (b : Nat) (w : World) : But b w w.drew := ⟨rfl, rfl, rfl, rfl, fun _ _ => rfl⟩
theorem But.drewN (b n : Nat) (w : World) : But b w (w.drewN n) := by
  refine ⟨?_, ?_, ?_, ?_, ?_⟩ <;> simp [World.drewN]
theorem But.isM {b c : Nat} {w w' : World} (h : But b w w') (hc : c ≠ b) {m x p : Int} (k : IsM w c m x p) : IsM w' c m x p := by
  unfold IsM at *; rw [h.block c hc]; exact k
theorem But.below {b B : Nat} {w w' : World} (h : But b w w') (hb : B ≤ b) : Below B w w' :=
  ⟨h.os, h.tape, h.output, Nat.le_of_eq h.size.symm, fun k hk => h.block k (by omega)⟩
theorem Below.isM {B c : Nat} {w w' : World} (h : Below B w w') (hc : c < B) {m x p : Int} (k : IsM w c m x p) : IsM w' c m x p := by
  unfold IsM at *; rw [h.block c hc]; exact k

/-- remember: 'past' is at least what is held. -/
def pst (h p : Int) : Int := if h ≤ p then p else h
theorem pst_le {h p : Int} (c : h ≤ p) : pst h p = p := by unfold pst; rw [if_pos c]
theorem pst_ge {h p : Int} (c : p ≤ h) : pst h p = h := by unfold pst; split <;> omega
theorem pst_gt {h p : Int} (c : p < h) : pst h p = h := by unfold pst; rw [if_neg (by omega)]
set_option maxHeartbeats 400000 in
theorem rem_any (b : Nat) (m h p : Int) (w : World) (hm : IsM w b m h p) :
    Calls Try.prog 31 #[.pointer (some ⟨b, 0, none⟩), .int .i64 h] w fun e w' => e = .returned (.tuple #[]) ∧ IsM w' b m h (pst h p) ∧ But b w w' := by
  have hc := hm.c2
  have hz := hm.z 2
  rcases Int.lt_or_le p h with c | c
  · rw [pst_gt c]
    go_enter Try.func31, Try.ntmps31
    go_wp2
    refine wp_loop_rounds 1 ?_
    rw [rounds_succ]
    go_wp2_with (first | (go_at_call 28; refine (load_any b 2 p _ hc).mono ?_; rintro e w' ⟨rfl, rfl⟩) | (go_at_call 29; refine (cas_hit b 2 p h _ hc hz).mono ?_; rintro e w' ⟨rfl, rfl⟩))
    refine bodyPost_ret (results_none rfl _ _ _) rfl ?_
    exact ⟨rfl, hm.set2 h, But.set _ _ _ _⟩
  · rw [pst_le c]
    go_enter Try.func31, Try.ntmps31
    go_wp2
    refine wp_loop_rounds 1 ?_
    rw [rounds_succ]
    go_wp2_with (go_at_call 28; refine (load_any b 2 p _ hc).mono ?_; rintro e w' ⟨rfl, rfl⟩)
    refine bodyPost_ret (results_none rfl _ _ _) rfl ?_
    exact ⟨rfl, hm, But.refl _ _⟩

/-- Are n more taken? -/
def tkB (m h n : Int) : Bool := decide (0 ≤ n ∧ n ≤ m - h)
def tkH (m h n : Int) : Int := if 0 ≤ n ∧ n ≤ m - h then h + n else h
theorem tk_yes {m h n : Int} (c : 0 ≤ n) (d : n ≤ m - h) : tkB m h n = true ∧ tkH m h n = h + n := by
  unfold tkB tkH; exact ⟨decide_eq_true ⟨c, d⟩, if_pos ⟨c, d⟩⟩
theorem tk_no {m h n : Int} (c : n < 0 ∨ m - h < n) : tkB m h n = false ∧ tkH m h n = h := by
  unfold tkB tkH; exact ⟨decide_eq_false (by omega), if_neg (by omega)⟩
set_option maxHeartbeats 400000 in
theorem take_any (b : Nat) (m h p n : Int) (w : World) (hm : IsM w b m h p) (h0 : 0 ≤ h) (h1 : h ≤ m) (h2 : m ≤ 1099511627776) :
    Calls Try.prog 22 #[.pointer (some ⟨b, 0, none⟩), .int .i64 n] w fun e w' => e = .returned (.bool (tkB m h n)) ∧ IsM w' b m (tkH m h n) p ∧ But b w w' := by
  have hc0 := hm.c0
  have hc := hm.c1
  have hz := hm.z 1
  rcases Int.lt_or_le n 0 with c | c
  · obtain ⟨e1, e2⟩ := tk_no (m := m) (h := h) (Or.inl c)
    rw [e1, e2]; clear e1 e2
    go_enter Try.func22, Try.ntmps22
    go_wp2
    go_ret
    exact ⟨rfl, hm, But.refl _ _⟩
  · rcases Int.lt_or_le (m - h) n with d | d
    · obtain ⟨e1, e2⟩ := tk_no (m := m) (h := h) (Or.inr d)
      rw [e1, e2]; clear e1 e2
      go_enter Try.func22, Try.ntmps22
      go_wp2
      refine wp_loop_rounds 1 ?_
      rw [rounds_succ]
      go_wp2_with (go_at_call 28; refine (load_any b 1 h _ hc).mono ?_; rintro e w' ⟨rfl, rfl⟩)
      go_ret
      exact ⟨rfl, hm, But.refl _ _⟩
    · obtain ⟨e1, e2⟩ := tk_yes c d
      rw [e1, e2]; clear e1 e2
      go_enter Try.func22, Try.ntmps22
      go_wp2
      refine wp_loop_rounds 1 ?_
      rw [rounds_succ]
      go_wp2_with (first | (go_at_call 28; refine (load_any b 1 h _ hc).mono ?_; rintro e w' ⟨rfl, rfl⟩) | (go_at_call 29; refine (cas_hit b 1 h (h + n) _ hc hz).mono ?_; rintro e w' ⟨rfl, rfl⟩))
      go_ret
      exact ⟨rfl, hm.set1 _, But.set _ _ _ _⟩

/-- How much less is held. -/
def gvL (h n : Int) : Int := if n ≤ 0 then 0 else if n ≤ h then n else h
def gvP (h p n : Int) : Int := if n ≤ 0 then p else pst h p
theorem gv_no {h p n : Int} (c : n ≤ 0) : gvL h n = 0 ∧ gvP h p n = p := by unfold gvL gvP; exact ⟨if_pos c, if_pos c⟩
theorem gv_in {h p n : Int} (c : 0 < n) (d : n ≤ h) : gvL h n = n ∧ gvP h p n = pst h p := by
  unfold gvL gvP; rw [if_neg (by omega), if_pos d, if_neg (by omega)]; exact ⟨rfl, rfl⟩
theorem gv_all {h p n : Int} (c : 0 < n) (d : h < n) : gvL h n = h ∧ gvP h p n = pst h p := by
  unfold gvL gvP; rw [if_neg (by omega), if_neg (by omega), if_neg (by omega)]; exact ⟨rfl, rfl⟩
set_option maxHeartbeats 400000 in
theorem give_any (b : Nat) (m h p n : Int) (w : World) (hm : IsM w b m h p) (h0 : 0 ≤ h) (h1 : h ≤ m) (h2 : m ≤ 1099511627776) :
    Calls Try.prog 27 #[.pointer (some ⟨b, 0, none⟩), .int .i64 n] w fun e w' => e = .returned (.int .i64 (gvL h n)) ∧ IsM w' b m (h - gvL h n) (gvP h p n) ∧ But b w w' := by
  have hc := hm.c1
  rcases Int.lt_or_le 0 n with c | c
  · rcases Int.lt_or_le h n with d | d
    · obtain ⟨e1, e2⟩ := gv_all (p := p) c d
      rw [e1, e2, show h - h = 0 from by omega]; clear e1 e2
      go_enter Try.func27, Try.ntmps27
      go_wp2
      refine wp_loop_rounds 1 ?_
      rw [rounds_succ]
      go_wp2_with (go_at_call 28; refine (load_any b 1 h _ hc).mono ?_; rintro e w' ⟨rfl, rfl⟩)
      refine (rem_any b m h p _ hm).mono ?_
      rintro e w1 ⟨rfl, hm1, hb1⟩
      have hc1 := hm1.c1
      have hz1 := hm1.z 1
      go_wp2_with (go_at_call 29; refine (cas_hit b 1 h 0 _ hc1 hz1).mono ?_; rintro e w' ⟨rfl, rfl⟩)
      go_ret
      exact ⟨rfl, hm1.set1 _, hb1.trans (But.set _ _ _ _)⟩
    · obtain ⟨e1, e2⟩ := gv_in (p := p) c d
      rw [e1, e2]; clear e1 e2
      go_enter Try.func27, Try.ntmps27
      go_wp2
      refine wp_loop_rounds 1 ?_
      rw [rounds_succ]
      go_wp2_with (go_at_call 28; refine (load_any b 1 h _ hc).mono ?_; rintro e w' ⟨rfl, rfl⟩)
      refine (rem_any b m h p _ hm).mono ?_
      rintro e w1 ⟨rfl, hm1, hb1⟩
      have hc1 := hm1.c1
      have hz1 := hm1.z 1
      go_wp2_with (go_at_call 29; refine (cas_hit b 1 h (h - n) _ hc1 hz1).mono ?_; rintro e w' ⟨rfl, rfl⟩)
      go_ret
      exact ⟨rfl, hm1.set1 _, hb1.trans (But.set _ _ _ _)⟩
  · obtain ⟨e1, e2⟩ := gv_no (h := h) (p := p) c
    rw [e1, e2, show h - 0 = h from by omega]; clear e1 e2
    go_enter Try.func27, Try.ntmps27
    go_wp2
    go_ret
    exact ⟨rfl, hm, But.refl _ _⟩

set_option maxHeartbeats 400000 in
theorem held_any (b : Nat) (m h p : Int) (w : World) (hm : IsM w b m h p) :
    Calls Try.prog 15 #[.pointer (some ⟨b, 0, none⟩)] w fun e w' => e = .returned (.int .i64 h) ∧ IsM w' b m h p ∧ But b w w' := by
  have hc := hm.c1
  go_enter Try.func15, Try.ntmps15
  go_wp2_with (go_at_call 28; refine (load_any b 1 h _ hc).mono ?_; rintro e w' ⟨rfl, rfl⟩)
  go_ret
  exact ⟨rfl, hm, But.refl _ _⟩

set_option maxHeartbeats 400000 in
theorem peak_any (b : Nat) (m h p : Int) (w : World) (hm : IsM w b m h p) :
    Calls Try.prog 16 #[.pointer (some ⟨b, 0, none⟩)] w fun e w' => e = .returned (.int .i64 (pst h p)) ∧ IsM w' b m h p ∧ But b w w' := by
  have hc := hm.c1
  have hd := hm.c2
  rcases Int.lt_or_le h p with c | c
  · rw [pst_le (by omega)]
    go_enter Try.func16, Try.ntmps16
    go_wp2_with fail
    refine (load_any b 1 h _ hc).mono ?_
    rintro e w' ⟨rfl, rfl⟩
    go_wp2_with fail
    refine (load_any b 2 p _ hd).mono ?_
    rintro e w' ⟨rfl, rfl⟩
    go_wp2
    go_ret
    exact ⟨rfl, hm, But.refl _ _⟩
  · rw [pst_ge c]
    go_enter Try.func16, Try.ntmps16
    go_wp2_with fail
    refine (load_any b 1 h _ hc).mono ?_
    rintro e w' ⟨rfl, rfl⟩
    go_wp2_with fail
    refine (load_any b 2 p _ hd).mono ?_
    rintro e w' ⟨rfl, rfl⟩
    go_wp2
    go_ret
    exact ⟨rfl, hm, But.refl _ _⟩

end Go.Proofs.Ytenajbefknlalaa
