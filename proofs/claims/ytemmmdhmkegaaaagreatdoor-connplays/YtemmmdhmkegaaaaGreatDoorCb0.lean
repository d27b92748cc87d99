/- Texts that the proof leans on, one behind the other: MeterA MtB LtcA LtcB MtC MtD -/
import Derived.Test.YtemmmdhmkegaaaaGreatDoorRows
import Derived.WalkKit
import Derived.WalkSpells
import Derived.WalkLawsBesides
import Derived.Laws.Pointers
import Derived.Laws.LoneSync
import Derived.Deep.QuietTactic
import Derived.BigQuiet
import Derived.Defers
import Derived.RegionTactic
import Derived.RegionCalls
import Derived.ChangeAlike
import Derived.Laws.NewBlocks
import Derived.Laws.EntriesVeiled
/- The parts of package meter that only reckon: what sync/atomic's calls do to one cell. -/
namespace Go.Proofs.YtemmmdhmkegaaaaGreatDoor
open Go.RowKit

set_option maxHeartbeats 400000 in
theorem load_any (b off : Nat) (x : Int) (w : World) (hc : w.cell? ⟨b, off, none⟩ = some (.int .i64 x)) :
    Calls Tryz.prog 58 #[.pointer (some ⟨b, off, none⟩)] w fun e w' => e = .returned (.int .i64 x) ∧ w' = w := by
  have hl := run_call_load (P := Tryz.prog) Tryz.func76 (by kernel_rfl) (by kernel_rfl) (by kernel_rfl) .i64 (by kernel_rfl) hc
  go_enter Tryz.func58, Tryz.ntmps58
  go_wp2
  go_ret
  exact ⟨rfl, rfl⟩

set_option maxHeartbeats 400000 in
theorem cas_hit (b off : Nat) (x y : Int) (w : World) (hc : w.cell? ⟨b, off, none⟩ = some (.int .i64 x)) (hz : w.frozen? ⟨b, off, none⟩ = false) :
    Calls Tryz.prog 84 #[.pointer (some ⟨b, off, none⟩), .int .i64 x, .int .i64 y] w fun e w' => e = .returned (.bool true) ∧ w' = w.setCell ⟨b, off, none⟩ (.int .i64 y) := by
  have hl := run_call_cas_hit (P := Tryz.prog) Tryz.func116 (by kernel_rfl) (by kernel_rfl) (by kernel_rfl) .i64 (by kernel_rfl) (y := y) hc hz
  go_enter Tryz.func84, Tryz.ntmps84
  go_wp2
  go_ret
  exact ⟨rfl, rfl⟩

def mst (a : Int) : Int := min (max a 0) 1099511627776
theorem mst_lo {a : Int} (h : a < 0) : mst a = 0 := by unfold mst; omega
theorem mst_hi {a : Int} (h : 1099511627776 < a) : mst a = 1099511627776 := by unfold mst; omega
theorem mst_in {a : Int} (h : 0 ≤ a) (h' : a ≤ 1099511627776) : mst a = a := by unfold mst; omega

set_option maxHeartbeats 400000 in
theorem new_any (a : Int) (w : World) :
    Calls Tryz.prog 9 #[.int .i64 a] w fun e w' => e = .returned (.pointer (some ⟨w.heap.size, 0, none⟩)) ∧ w' = w.alloc (.cells #[.int .i64 (mst a), .int .i64 0, .int .i64 0] 79) := by
  rcases Int.lt_or_le a 0 with h | h
  · have e := mst_lo h
    rw [e]; clear e
    go_enter Tryz.func9, Tryz.ntmps9
    go_wp2
    go_ret
    exact ⟨rfl, rfl⟩
  · rcases Int.lt_or_le 1099511627776 a with h' | h'
    · have e := mst_hi h'
      rw [e]; clear e
      go_enter Tryz.func9, Tryz.ntmps9
      go_wp2
      go_ret
      exact ⟨rfl, rfl⟩
    · have e := mst_in h h'
      rw [e]; clear e
      go_enter Tryz.func9, Tryz.ntmps9
      go_wp2
      go_ret
      exact ⟨rfl, rfl⟩

end Go.Proofs.YtemmmdhmkegaaaaGreatDoor

/- The contracts of package meter's calls on a meter that lies in a block of its own: what each answers, and what the block holds behind it. -/
namespace Go.Proofs.YtemmmdhmkegaaaaGreatDoor
open Go.RowKit
set_option linter.unusedVariables false

def IsM (w : World) (b : Nat) (m h p : Int) : Prop := w.heap[b]? = some (.cells #[.int .i64 m, .int .i64 h, .int .i64 p] 79)
theorem IsM.c0 {w : World} {b : Nat} {m h p : Int} (x : IsM w b m h p) : w.cell? ⟨b, 0, none⟩ = some (.int .i64 m) := by
  unfold IsM at x; simp [World.cell?, x]
theorem IsM.c1 {w : World} {b : Nat} {m h p : Int} (x : IsM w b m h p) : w.cell? ⟨b, 1, none⟩ = some (.int .i64 h) := by
  unfold IsM at x; simp [World.cell?, x]
theorem IsM.c2 {w : World} {b : Nat} {m h p : Int} (x : IsM w b m h p) : w.cell? ⟨b, 2, none⟩ = some (.int .i64 p) := by
  unfold IsM at x; simp [World.cell?, x]
theorem IsM.z {w : World} {b : Nat} {m h p : Int} (x : IsM w b m h p) (o : Nat) : w.frozen? ⟨b, o, none⟩ = false := by
  unfold IsM at x; simp [World.frozen?, x]
theorem IsM.set1 {w : World} {b : Nat} {m h p : Int} (x : IsM w b m h p) (y : Int) : IsM (w.setCell ⟨b, 1, none⟩ (.int .i64 y)) b m y p := by
  unfold IsM at *; simp [World.setCell, Array.getElem?_modify, x]
theorem IsM.set2 {w : World} {b : Nat} {m h p : Int} (x : IsM w b m h p) (y : Int) : IsM (w.setCell ⟨b, 2, none⟩ (.int .i64 y)) b m h y := by
  unfold IsM at *; simp [World.setCell, Array.getElem?_modify, x]
theorem IsM.drew {w : World} {b : Nat} {m h p : Int} (x : IsM w b m h p) : IsM w.drew b m h p := x
theorem IsM.lt {w : World} {b : Nat} {m h p : Int} (x : IsM w b m h p) : b < w.heap.size := by
  unfold IsM at x; exact (Array.getElem?_eq_some_iff.1 x).1

structure But (b : Nat) (w w' : World) : Prop where
  os : w'.os = w.os
  tape : w'.tape = w.tape
  output : w'.output = w.output
  size : w'.heap.size = w.heap.size
  block : ∀ k, k ≠ b → w'.heap[k]? = w.heap[k]?
theorem But.refl (b : Nat) (w : World) : But b w w := ⟨rfl, rfl, rfl, rfl, fun _ _ => rfl⟩
theorem But.trans {b : Nat} {u v w : World} (h : But b u v) (k : But b v w) : But b u w :=
  ⟨k.os.trans h.os, k.tape.trans h.tape, k.output.trans h.output, k.size.trans h.size, fun i hi => (k.block i hi).trans (h.block i hi)⟩
theorem But.set (b o : Nat) (w : World) (v : Value) : But b w (w.setCell ⟨b, o, none⟩ v) :=
  ⟨rfl, rfl, rfl, by simp [World.setCell], fun k hk => Below.heap_setCell _ _ _ _ hk⟩
theorem But.drew (b : Nat) (w : World) : But b w w.drew := ⟨rfl, rfl, rfl, rfl, fun _ _ => rfl⟩
theorem But.drewN (b n : Nat) (w : World) : But b w (w.drewN n) := by
  refine ⟨?_, ?_, ?_, ?_, ?_⟩ <;> simp [World.drewN]
theorem But.isM {b c : Nat} {w w' : World} (h : But b w w') (hc : c ≠ b) {m x p : Int} (k : IsM w c m x p) : IsM w' c m x p := by
  unfold IsM at *; rw [h.block c hc]; exact k
theorem But.below {b B : Nat} {w w' : World} (h : But b w w') (hb : B ≤ b) : Below B w w' :=
  ⟨h.os, h.tape, h.output, Nat.le_of_eq h.size.symm, fun k hk => h.block k (by omega)⟩
theorem Below.isM {B c : Nat} {w w' : World} (h : Below B w w') (hc : c < B) {m x p : Int} (k : IsM w c m x p) : IsM w' c m x p := by
  unfold IsM at *; rw [h.block c hc]; exact k

def pst (h p : Int) : Int := if h ≤ p then p else h
theorem pst_le {h p : Int} (c : h ≤ p) : pst h p = p := by unfold pst; rw [if_pos c]
theorem pst_gt {h p : Int} (c : p < h) : pst h p = h := by unfold pst; rw [if_neg (by omega)]
set_option maxHeartbeats 400000 in
theorem rem_any (b : Nat) (m h p : Int) (w : World) (hm : IsM w b m h p) :
    Calls Tryz.prog 100 #[.pointer (some ⟨b, 0, none⟩), .int .i64 h] w fun e w' => e = .returned (.tuple #[]) ∧ IsM w' b m h (pst h p) ∧ But b w w' := by
  have hc := hm.c2
  have hz := hm.z 2
  rcases Int.lt_or_le p h with c | c
  · rw [pst_gt c]
    go_enter Tryz.func100, Tryz.ntmps100
    go_wp2
    refine wp_loop_rounds 1 ?_
    rw [rounds_succ]
    go_wp2_with (first | (go_at_call 58; refine (load_any b 2 p _ hc).mono ?_; rintro e w' ⟨rfl, rfl⟩) | (go_at_call 84; refine (cas_hit b 2 p h _ hc hz).mono ?_; rintro e w' ⟨rfl, rfl⟩))
    refine bodyPost_ret (results_none rfl _ _ _) rfl ?_
    exact ⟨rfl, hm.set2 h, But.set _ _ _ _⟩
  · rw [pst_le c]
    go_enter Tryz.func100, Tryz.ntmps100
    go_wp2
    refine wp_loop_rounds 1 ?_
    rw [rounds_succ]
    go_wp2_with (go_at_call 58; refine (load_any b 2 p _ hc).mono ?_; rintro e w' ⟨rfl, rfl⟩)
    refine bodyPost_ret (results_none rfl _ _ _) rfl ?_
    exact ⟨rfl, hm, But.refl _ _⟩

def tkB (m h n : Int) : Bool := decide (0 ≤ n ∧ n ≤ m - h)
def tkH (m h n : Int) : Int := if 0 ≤ n ∧ n ≤ m - h then h + n else h
theorem tk_yes {m h n : Int} (c : 0 ≤ n) (d : n ≤ m - h) : tkB m h n = true ∧ tkH m h n = h + n := by
  unfold tkB tkH; exact ⟨decide_eq_true ⟨c, d⟩, if_pos ⟨c, d⟩⟩
theorem tk_no {m h n : Int} (c : n < 0 ∨ m - h < n) : tkB m h n = false ∧ tkH m h n = h := by
  unfold tkB tkH; exact ⟨decide_eq_false (by omega), if_neg (by omega)⟩
set_option maxHeartbeats 400000 in
theorem take_any (b : Nat) (m h p n : Int) (w : World) (hm : IsM w b m h p) (h0 : 0 ≤ h) (h1 : h ≤ m) (h2 : m ≤ 1099511627776) :
    Calls Tryz.prog 63 #[.pointer (some ⟨b, 0, none⟩), .int .i64 n] w fun e w' => e = .returned (.bool (tkB m h n)) ∧ IsM w' b m (tkH m h n) p ∧ But b w w' := by
  have hc0 := hm.c0
  have hc := hm.c1
  have hz := hm.z 1
  rcases Int.lt_or_le n 0 with c | c
  · obtain ⟨e1, e2⟩ := tk_no (m := m) (h := h) (Or.inl c)
    rw [e1, e2]; clear e1 e2
    go_enter Tryz.func63, Tryz.ntmps63
    go_wp2
    go_ret
    exact ⟨rfl, hm, But.refl _ _⟩
  · rcases Int.lt_or_le (m - h) n with d | d
    · obtain ⟨e1, e2⟩ := tk_no (m := m) (h := h) (Or.inr d)
      rw [e1, e2]; clear e1 e2
      go_enter Tryz.func63, Tryz.ntmps63
      go_wp2
      refine wp_loop_rounds 1 ?_
      rw [rounds_succ]
      go_wp2_with (go_at_call 58; refine (load_any b 1 h _ hc).mono ?_; rintro e w' ⟨rfl, rfl⟩)
      go_ret
      exact ⟨rfl, hm, But.refl _ _⟩
    · obtain ⟨e1, e2⟩ := tk_yes c d
      rw [e1, e2]; clear e1 e2
      go_enter Tryz.func63, Tryz.ntmps63
      go_wp2
      refine wp_loop_rounds 1 ?_
      rw [rounds_succ]
      go_wp2_with (first | (go_at_call 58; refine (load_any b 1 h _ hc).mono ?_; rintro e w' ⟨rfl, rfl⟩) | (go_at_call 84; refine (cas_hit b 1 h (h + n) _ hc hz).mono ?_; rintro e w' ⟨rfl, rfl⟩))
      go_ret
      exact ⟨rfl, hm.set1 _, But.set _ _ _ _⟩

def gvL (h n : Int) : Int := if n ≤ 0 then 0 else if n ≤ h then n else h
def gvP (h p n : Int) : Int := if n ≤ 0 then p else pst h p
theorem gv_no {h p n : Int} (c : n ≤ 0) : gvL h n = 0 ∧ gvP h p n = p := by unfold gvL gvP; exact ⟨if_pos c, if_pos c⟩
theorem gv_in {h p n : Int} (c : 0 < n) (d : n ≤ h) : gvL h n = n ∧ gvP h p n = pst h p := by
  unfold gvL gvP; rw [if_neg (by omega), if_pos d, if_neg (by omega)]; exact ⟨rfl, rfl⟩
theorem gv_all {h p n : Int} (c : 0 < n) (d : h < n) : gvL h n = h ∧ gvP h p n = pst h p := by
  unfold gvL gvP; rw [if_neg (by omega), if_neg (by omega), if_neg (by omega)]; exact ⟨rfl, rfl⟩
set_option maxHeartbeats 400000 in
theorem give_any (b : Nat) (m h p n : Int) (w : World) (hm : IsM w b m h p) (h0 : 0 ≤ h) (h1 : h ≤ m) (h2 : m ≤ 1099511627776) :
    Calls Tryz.prog 74 #[.pointer (some ⟨b, 0, none⟩), .int .i64 n] w fun e w' => e = .returned (.int .i64 (gvL h n)) ∧ IsM w' b m (h - gvL h n) (gvP h p n) ∧ But b w w' := by
  have hc := hm.c1
  rcases Int.lt_or_le 0 n with c | c
  · rcases Int.lt_or_le h n with d | d
    · obtain ⟨e1, e2⟩ := gv_all (p := p) c d
      rw [e1, e2, show h - h = 0 from by omega]; clear e1 e2
      go_enter Tryz.func74, Tryz.ntmps74
      go_wp2
      refine wp_loop_rounds 1 ?_
      rw [rounds_succ]
      go_wp2_with (go_at_call 58; refine (load_any b 1 h _ hc).mono ?_; rintro e w' ⟨rfl, rfl⟩)
      refine (rem_any b m h p _ hm).mono ?_
      rintro e w1 ⟨rfl, hm1, hb1⟩
      have hc1 := hm1.c1
      have hz1 := hm1.z 1
      go_wp2_with (go_at_call 84; refine (cas_hit b 1 h 0 _ hc1 hz1).mono ?_; rintro e w' ⟨rfl, rfl⟩)
      go_ret
      exact ⟨rfl, hm1.set1 _, hb1.trans (But.set _ _ _ _)⟩
    · obtain ⟨e1, e2⟩ := gv_in (p := p) c d
      rw [e1, e2]; clear e1 e2
      go_enter Tryz.func74, Tryz.ntmps74
      go_wp2
      refine wp_loop_rounds 1 ?_
      rw [rounds_succ]
      go_wp2_with (go_at_call 58; refine (load_any b 1 h _ hc).mono ?_; rintro e w' ⟨rfl, rfl⟩)
      refine (rem_any b m h p _ hm).mono ?_
      rintro e w1 ⟨rfl, hm1, hb1⟩
      have hc1 := hm1.c1
      have hz1 := hm1.z 1
      go_wp2_with (go_at_call 84; refine (cas_hit b 1 h (h - n) _ hc1 hz1).mono ?_; rintro e w' ⟨rfl, rfl⟩)
      go_ret
      exact ⟨rfl, hm1.set1 _, hb1.trans (But.set _ _ _ _)⟩
  · obtain ⟨e1, e2⟩ := gv_no (h := h) (p := p) c
    rw [e1, e2, show h - 0 = h from by omega]; clear e1 e2
    go_enter Tryz.func74, Tryz.ntmps74
    go_wp2
    go_ret
    exact ⟨rfl, hm, But.refl _ _⟩

end Go.Proofs.YtemmmdhmkegaaaaGreatDoor

/- Conn: the latch that lies in a connection's block (at 5): the parts of sync.Once, each a contract of its own. -/
namespace Go.Proofs.YtemmmdhmkegaaaaGreatDoor
open Go.RowKit
set_option linter.unusedVariables false

theorem disable (w : World) : (callFunc 203 #[]).run Tryz.prog w = .ok (.value (.tuple #[])) w := run_call_mark0 Tryz.func203 (by kernel_rfl) (by kernel_rfl) (by kernel_rfl) .disable (by kernel_rfl) w
theorem enable (w : World) : (callFunc 205 #[]).run Tryz.prog w = .ok (.value (.tuple #[])) w := run_call_mark0 Tryz.func205 (by kernel_rfl) (by kernel_rfl) (by kernel_rfl) .enable (by kernel_rfl) w
theorem acquire (a : Addr) (w : World) : (callFunc 206 #[.pointer (some a)]).run Tryz.prog w = .ok (.value (.tuple #[])) w := run_call_marked Tryz.func206 (by kernel_rfl) (by kernel_rfl) (by kernel_rfl) .acquire (by kernel_rfl) a w
theorem releaseMerge (a : Addr) (w : World) : (callFunc 208 #[.pointer (some a)]).run Tryz.prog w = .ok (.value (.tuple #[])) w := run_call_marked Tryz.func208 (by kernel_rfl) (by kernel_rfl) (by kernel_rfl) .releaseMerge (by kernel_rfl) a w

theorem store_deferred (a : Addr) (x : Value) (u : FrameMode) (w : World) (hc : w.cell? a = some x) (hz : w.frozen? a = false) :
    CallsD Tryz.prog 95 #[.pointer (some a), .bool true] u w fun e u' w' => u' = u ∧ (e = .returned (.tuple #[]) ∧ w' = w.drew.setCell a (.int .u32 1)) := by
  have hc' : w.drew.cell? a = some x := by go_simp
  have hz' : w.drew.frozen? a = false := by go_simp
  have hst := run_call_store (P := Tryz.prog) Tryz.func130 (by kernel_rfl) (by kernel_rfl) (by kernel_rfl) (by kernel_rfl) (k := .u32) (y := 1) hc' hz'
  go_enter_d Tryz.func95, Tryz.ntmps95
  go_wp2
  go_region_calls
  all_goals (go_end0; exact ⟨rfl, rfl⟩)

set_option maxRecDepth 100000 in
theorem unlock_deferred (a : Addr) (u : FrameMode) (w : World) (hc : w.cell? a = some (.int .i32 1)) (hz : w.frozen? a = false) :
    CallsD Tryz.prog 159 #[.pointer (some a)] u w fun e u' w' => u' = u ∧ (e = .returned (.tuple #[]) ∧ w' = w.setCell a (.int .i32 0)) := by
  have hd := disable
  have he := enable
  have hr := releaseMerge
  have hadd := run_call_add (P := Tryz.prog) Tryz.func209 (by kernel_rfl) (by kernel_rfl) (by kernel_rfl) .i32 (by kernel_rfl) (y := -1) (s := 0) hc hz (by simp [go_sem]; rfl)
  have hcv := run_convert_to_unsafe (P := Tryz.prog) (src := 221) (dst := 225) Tryz.underlying221 Tryz.underlying225 (by kernel_rfl) hc
  go_enter_d Tryz.func159, Tryz.ntmps159
  go_wp2
  go_end0
  go_wp2
  go_end0
  exact ⟨rfl, rfl⟩

set_option maxRecDepth 100000 in
theorem lock_free (a : Addr) (w : World) (hc : w.cell? a = some (.int .i32 0)) (hz : w.frozen? a = false) :
    Calls Tryz.prog 158 #[.pointer (some a)] w fun e w' => e = .returned (.tuple #[]) ∧ w' = w.setCell a (.int .i32 1) := by
  have hd := disable
  have he := enable
  have ha := acquire
  have hcas := run_call_cas_hit (P := Tryz.prog) Tryz.func204 (by kernel_rfl) (by kernel_rfl) (by kernel_rfl) .i32 (by kernel_rfl) (y := 1) hc hz
  have hc' : (w.setCell a (.int .i32 1)).cell? a = some (.int .i32 1) := World.cell?_setCell_same w a _ hc
  have hcv := run_convert_to_unsafe (P := Tryz.prog) (src := 221) (dst := 225) Tryz.underlying221 Tryz.underlying225 (by kernel_rfl) hc'
  go_enter Tryz.func158, Tryz.ntmps158
  go_wp2
  first | go_end0 | (simp only [Exit.inBlock, Exit.then]; refine bodyPost_ret (results_none rfl _ _ _) rfl ?_) | refine bodyPost_ret (results_none rfl _ _ _) rfl ?_
  go_wp2
  go_end0
  exact ⟨rfl, rfl⟩

theorem loadB_any (b off : Nat) (x : Int) (w : World) (hc : w.cell? ⟨b, off, none⟩ = some (.int .u32 x)) :
    Calls Tryz.prog 75 #[.pointer (some ⟨b, off, none⟩)] w fun e w' => e = .returned (.bool (x != 0)) ∧ w' = w := by
  have hl := run_call_load (P := Tryz.prog) Tryz.func101 (by kernel_rfl) (by kernel_rfl) (by kernel_rfl) .u32 (by kernel_rfl) hc
  go_enter Tryz.func75, Tryz.ntmps75
  go_wp2
  go_ret
  exact ⟨rfl, rfl⟩
theorem closed_any (b : Nat) (x : Int) (w : World) (hc : w.cell? ⟨b, 8, none⟩ = some (.int .u32 x)) :
    Calls Tryz.prog 57 #[.pointer (some ⟨b, 5, none⟩)] w fun e w' => e = .returned (.bool (x != 0)) ∧ w' = w := by
  go_enter Tryz.func57, Tryz.ntmps57
  go_wp2_with (go_at_call 75; refine (loadB_any b 8 x _ hc).mono ?_; rintro e w' ⟨rfl, rfl⟩)
  go_ret
  exact ⟨rfl, rfl⟩

theorem neq_funcL (fn : Fn) (a c : Array Value) (w : World) : (binOp BinOp.neq 1 (.func fn a c) .nilFunc).run Tryz.prog w = .ok (.bool true) w := by kernel_rfl
set_option maxHeartbeats 1000000 in
theorem body_drop (b : Nat) (pl pf pn : Nat) (x : Value) (w : World) (Q G : World → Prop) (hl : w.cell? ⟨pl, 0, none⟩ = some (.pointer (some ⟨b, 5, none⟩))) (hf : w.cell? ⟨pf, 0, none⟩ = some x) (zf : w.frozen? ⟨pf, 0, none⟩ = false)
    (hn : w.cell? ⟨pn, 0, none⟩ = some (.func (.func 70) #[.pointer (some ⟨b, 0, none⟩)] #[])) (hne : pf ≠ pn) (hne2 : pf ≠ b)
    (HF : Calls Tryz.prog 70 #[.pointer (some ⟨b, 0, none⟩)] (w.setCell ⟨pf, 0, none⟩ (.bool true)) fun e w' => e = .returned (.tuple #[]) ∧ Q w')
    (hQ : ∀ W, Q W → (∃ y, W.cell? ⟨b, 8, none⟩ = some y) ∧ W.frozen? ⟨b, 8, none⟩ = false ∧ G (W.drew.setCell ⟨b, 8, none⟩ (.int .u32 1))) :
    Calls Tryz.prog 94 #[.pointer (some ⟨pl, 0, none⟩), .pointer (some ⟨pf, 0, none⟩), .pointer (some ⟨pn, 0, none⟩)] w fun e w' => e = .returned (.tuple #[]) ∧ G w' := by
  have hq := neq_funcL
  have HH : Hid (Calls Tryz.prog 70 #[.pointer (some ⟨b, 0, none⟩)] (w.setCell ⟨pf, 0, none⟩ (.bool true)) fun e w' => e = .returned (.tuple #[]) ∧ Q w') := HF
  clear HF
  go_enter_defers Tryz.func94, Tryz.ntmps94
  go_wp2_with fail
  refine HH.out.mono ?_
  rintro e w1 ⟨rfl, q1⟩
  obtain ⟨⟨y, hy⟩, hz, hg⟩ := hQ w1 q1
  go_wp2
  refine leaves_cons (f := 95) (args := #[.pointer (some ⟨b, 8, none⟩), .bool true]) (by simp) (by simp [go_sem]) ?_
  refine (store_deferred ⟨b, 8, none⟩ y .returning _ hy hz).mono ?_
  rintro e u' w'' ⟨rfl, rfl, rfl⟩
  simp [Leaves, settle, results, Tryz.results94]
  exact hg

set_option maxRecDepth 100000 in
set_option maxHeartbeats 1600000 in
theorem slow_gen (b : Nat) (caps : Array Value) (w : World) (R G : World → Prop) (h0 : w.cell? ⟨b, 5, none⟩ = some (.int .u32 0)) (h1 : w.cell? ⟨b, 6, none⟩ = some (.int .i32 0)) (f0 : w.frozen? ⟨b, 5, none⟩ = false) (f1 : w.frozen? ⟨b, 6, none⟩ = false)
    (hb : Calls Tryz.prog 94 caps (w.setCell ⟨b, 6, none⟩ (.int .i32 1)) fun e w' => e = .returned (.tuple #[]) ∧ R w')
    (hR : ∀ W2, R W2 → W2.cell? ⟨b, 5, none⟩ = some (.int .u32 0) ∧ W2.cell? ⟨b, 6, none⟩ = some (.int .i32 1) ∧ W2.frozen? ⟨b, 5, none⟩ = false ∧ W2.frozen? ⟨b, 6, none⟩ = false ∧ G ((W2.drew.setCell ⟨b, 5, none⟩ (.int .u32 1)).setCell ⟨b, 6, none⟩ (.int .i32 0))) :
    Calls Tryz.prog 129 #[.pointer (some ⟨b, 5, none⟩), .func (.func 94) #[] caps] w fun e w' => e = .returned (.tuple #[]) ∧ G w' := by
  have HB : Hid (Calls Tryz.prog 94 caps (w.setCell ⟨b, 6, none⟩ (.int .i32 1)) fun e w' => e = .returned (.tuple #[]) ∧ R w') := hb
  clear hb
  have h01 : (w.setCell ⟨b, 6, none⟩ (.int .i32 1)).cell? ⟨b, 5, none⟩ = some (.int .u32 0) := (World.cell?_setCell_other _ ⟨b, 6, none⟩ ⟨b, 5, none⟩ _ (by simp)).trans h0
  go_enter_defers Tryz.func129, Tryz.ntmps129
  go_wp2_with fail
  refine (lock_free ⟨b, 6, none⟩ _ h1 f1).mono ?_
  rintro e w' ⟨rfl, rfl⟩
  go_wp2_with fail
  refine (loadB_any b 5 0 _ h01).mono ?_
  rintro e w' ⟨rfl, rfl⟩
  go_wp2_with fail
  refine HB.out.mono ?_
  rintro e W2 ⟨rfl, hr⟩
  obtain ⟨k0, k1, g0, g1, hg⟩ := hR W2 hr
  go_wp2
  refine leaves_cons (f := 95) (args := #[.pointer (some ⟨b, 5, none⟩), .bool true]) (by simp) (by simp [go_sem]) ?_
  refine (store_deferred ⟨b, 5, none⟩ (.int .u32 0) .returning _ k0 g0).mono ?_
  rintro e u' w'' ⟨rfl, rfl, rfl⟩
  refine leaves_cons (f := 159) (args := #[.pointer (some ⟨b, 6, none⟩)]) (by simp [settle]) (by simp [go_sem]) ?_
  refine (unlock_deferred ⟨b, 6, none⟩ _ _ ?_ (by simp [g1])).mono ?_
  · refine (World.cell?_setCell_other _ ⟨b, 5, none⟩ ⟨b, 6, none⟩ _ (by simp)).trans ?_
    rw [World.cell?_drew]
    exact k1
  rintro e u' w'' ⟨rfl, rfl, rfl⟩
  simp [Leaves, settle, results, Tryz.results129]
  exact hg

set_option maxRecDepth 100000 in
set_option maxHeartbeats 1600000 in
theorem do_gen (b : Nat) (caps : Array Value) (w : World) (R G : World → Prop) (h0 : w.cell? ⟨b, 5, none⟩ = some (.int .u32 0)) (h1 : w.cell? ⟨b, 6, none⟩ = some (.int .i32 0)) (f0 : w.frozen? ⟨b, 5, none⟩ = false) (f1 : w.frozen? ⟨b, 6, none⟩ = false)
    (hb : Calls Tryz.prog 94 caps (w.setCell ⟨b, 6, none⟩ (.int .i32 1)) fun e w' => e = .returned (.tuple #[]) ∧ R w')
    (hR : ∀ W2, R W2 → W2.cell? ⟨b, 5, none⟩ = some (.int .u32 0) ∧ W2.cell? ⟨b, 6, none⟩ = some (.int .i32 1) ∧ W2.frozen? ⟨b, 5, none⟩ = false ∧ W2.frozen? ⟨b, 6, none⟩ = false ∧ G ((W2.drew.setCell ⟨b, 5, none⟩ (.int .u32 1)).setCell ⟨b, 6, none⟩ (.int .i32 0))) :
    Calls Tryz.prog 93 #[.pointer (some ⟨b, 5, none⟩), .func (.func 94) #[] caps] w fun e w' => e = .returned (.tuple #[]) ∧ G w' := by
  have HS : Hid (Calls Tryz.prog 129 #[.pointer (some ⟨b, 5, none⟩), .func (.func 94) #[] caps] w fun e w' => e = .returned (.tuple #[]) ∧ G w') := slow_gen b caps w R G h0 h1 f0 f1 hb hR
  clear hb
  go_enter Tryz.func93, Tryz.ntmps93
  go_wp2_with fail
  refine (loadB_any b 5 0 _ h0).mono ?_
  rintro e w' ⟨rfl, rfl⟩
  go_wp2_with fail
  refine HS.out.mono ?_
  rintro e w' ⟨rfl, hw⟩
  go_wp2
  go_end0
  exact ⟨rfl, hw⟩

theorem do_done (b : Nat) (fv : Value) (w : World) (h0 : w.cell? ⟨b, 5, none⟩ = some (.int .u32 1)) :
    Calls Tryz.prog 93 #[.pointer (some ⟨b, 5, none⟩), fv] w fun e w' => e = .returned (.tuple #[]) ∧ w' = w := by
  go_enter Tryz.func93, Tryz.ntmps93
  go_wp2_with fail
  refine (loadB_any b 5 1 _ h0).mono ?_
  rintro e w' ⟨rfl, rfl⟩
  go_wp2
  go_end0
  exact ⟨rfl, rfl⟩
end Go.Proofs.YtemmmdhmkegaaaaGreatDoor

/- Conn: Close and Closed of the latch in a connection's block. -/
namespace Go.Proofs.YtemmmdhmkegaaaaGreatDoor
open Go.RowKit
set_option linter.unusedVariables false

theorem blkL_alloc {w : World} {b : Nat} {o : Obj} (h : w.heap[b]? = some o) (o' : Obj) : (w.alloc o').heap[b]? = some o := by
  rw [Below.heap_alloc _ _ _ (Array.getElem?_eq_some_iff.1 h).1]; exact h
theorem blkL_new (w : World) (o : Obj) : (w.alloc o).heap[w.heap.size]? = some o := by
  show (w.heap.push o)[w.heap.size]? = _; simp
theorem blkL_cell {w : World} {b i : Nat} {c : Array Value} {t : TypeId} {v : Value} (h : w.heap[b]? = some (.cells c t)) (hv : c[i]? = some v) : w.cell? ⟨b, i, none⟩ = some v := by
  simp [World.cell?, h, hv]
def W0L (w : World) (b : Nat) (fv : Value) : World := ((w.alloc (.cells #[.pointer (some ⟨b, 5, none⟩)] 124)).alloc (.cells #[fv] 1)).alloc (.cells #[.bool false] 4)
def capsL (w : World) : Array Value := #[.pointer (some ⟨w.heap.size, 0, none⟩), .pointer (some ⟨w.heap.size + 1 + 1, 0, none⟩), .pointer (some ⟨w.heap.size + 1, 0, none⟩)]
theorem W0L_old {w : World} {k b : Nat} {fv : Value} {o : Obj} (h : w.heap[k]? = some o) : (W0L w b fv).heap[k]? = some o := blkL_alloc (blkL_alloc (blkL_alloc h _) _) _
theorem W0L_l (w : World) (b : Nat) (fv : Value) : (W0L w b fv).heap[w.heap.size]? = some (.cells #[.pointer (some ⟨b, 5, none⟩)] 124) := blkL_alloc (blkL_alloc (blkL_new _ _) _) _
theorem W0L_f (w : World) (b : Nat) (fv : Value) : (W0L w b fv).heap[w.heap.size + 1]? = some (.cells #[fv] 1) := by
  have h := blkL_new (w.alloc (.cells #[.pointer (some ⟨b, 5, none⟩)] 124)) (.cells #[fv] 1)
  rw [show (w.alloc (.cells #[.pointer (some ⟨b, 5, none⟩)] 124)).heap.size = w.heap.size + 1 from by simp] at h
  exact blkL_alloc h _
theorem W0L_b (w : World) (b : Nat) (fv : Value) : (W0L w b fv).heap[w.heap.size + 1 + 1]? = some (.cells #[.bool false] 4) := by
  have h := blkL_new ((w.alloc (.cells #[.pointer (some ⟨b, 5, none⟩)] 124)).alloc (.cells #[fv] 1)) (.cells #[.bool false] 4)
  rw [show ((w.alloc (.cells #[.pointer (some ⟨b, 5, none⟩)] 124)).alloc (.cells #[fv] 1)).heap.size = w.heap.size + 1 + 1 from by simp] at h
  exact h
theorem W0L_below (w : World) (b : Nat) (fv : Value) : Below w.heap.size w (W0L w b fv) :=
  (((Below.refl _ _).alloc (Nat.le_refl _) _).alloc (by simp) _).alloc (by simp; omega) _
theorem W0L_size (w : World) (b : Nat) (fv : Value) : (W0L w b fv).heap.size = w.heap.size + 3 := by unfold W0L; simp
set_option maxRecDepth 100000 in
set_option maxHeartbeats 1600000 in
theorem close_genL (b : Nat) (fn : Fn) (a c : Array Value) (w : World) (G : World → Prop) (v : Bool) (hlt : b < w.heap.size)
    (hd : Calls Tryz.prog 93 #[.pointer (some ⟨b, 5, none⟩), .func (.func 94) #[] (capsL w)] (W0L w b (.func fn a c)) fun e w' => e = .returned (.tuple #[]) ∧ G w')
    (hv : ∀ W, G W → W.cell? ⟨w.heap.size + 1 + 1, 0, none⟩ = some (.bool v)) :
    Calls Tryz.prog 69 #[.pointer (some ⟨b, 5, none⟩), .func fn a c] w fun e w' => e = .returned (.bool v) ∧ G w' := by
  have hmf : ∀ (fn : Fn) (first cap : Array Value) (w : World), (Instr.makeFunc fn first cap).run Tryz.prog w = .ok (.func fn first cap) w := fun _ _ _ _ => rfl
  unfold W0L capsL at hd
  have HD := hd
  have HDD : Hid _ := HD
  clear hd HD
  go_enter Tryz.func69, Tryz.ntmps69
  go_wp2_with fail
  refine Calls.mono HDD.out ?_
  rintro e w1 ⟨rfl, g1⟩
  have hc := hv w1 g1
  have HG : Hid (G w1) := g1
  clear HDD hv g1
  go_wp2
  go_ret
  exact ⟨rfl, HG.out⟩
theorem close_closedL (b : Nat) (fn : Fn) (a c : Array Value) (w : World) (hlt : b < w.heap.size) (hl : w.cell? ⟨b, 5, none⟩ = some (.int .u32 1)) :
    Calls Tryz.prog 69 #[.pointer (some ⟨b, 5, none⟩), .func fn a c] w fun e w' => e = .returned (.bool false) ∧ w' = W0L w b (.func fn a c) := by
  refine (close_genL b fn a c w (fun W => W = W0L w b (.func fn a c)) false hlt ((do_done b _ _ ?_).mono fun e w' h => h) fun W hW => by rw [hW]; exact blkL_cell (W0L_b w b _) rfl)
  exact ((W0L_below w b (.func fn a c)).cell (p := ⟨b, 5, none⟩) hlt).trans hl
end Go.Proofs.YtemmmdhmkegaaaaGreatDoor

/- The document's example of a meter answers as it should. -/
namespace Go.Proofs.YtemmmdhmkegaaaaGreatDoor
open Go.RowKit
set_option linter.unusedVariables false

theorem take_nok (b : Nat) (m h p n : Int) (w : World) (hm : IsM w b m h p) (h0 : 0 ≤ h) (h1 : h ≤ m) (h2 : m ≤ 1099511627776) (c : n < 0 ∨ m - h < n) :
    Calls Tryz.prog 63 #[.pointer (some ⟨b, 0, none⟩), .int .i64 n] w fun e w' => e = .returned (.bool false) ∧ IsM w' b m h p ∧ But b w w' := by
  have k := take_any b m h p n w hm h0 h1 h2
  rw [(tk_no c).1, (tk_no c).2] at k
  exact k
end Go.Proofs.YtemmmdhmkegaaaaGreatDoor

/- The contracts of the reference meter's functions, and of the meter's looks where nothing turns. -/
namespace Go.Proofs.YtemmmdhmkegaaaaGreatDoor
open Go.RowKit
set_option linter.unusedVariables false

theorem IsM.drewN {w : World} {b : Nat} {m h p : Int} (x : IsM w b m h p) (n : Nat) : IsM (w.drewN n) b m h p := by
  unfold IsM at *; simpa [World.drewN] using x

set_option maxHeartbeats 400000 in
theorem held_q (b : Nat) (m h p : Int) (w : World) (hm : IsM w b m h p) :
    Calls Tryz.prog 38 #[.pointer (some ⟨b, 0, none⟩)] w fun e w' => e = .returned (.int .i64 h) ∧ w' = w := by
  have hc := hm.c1
  go_enter Tryz.func38, Tryz.ntmps38
  go_wp2_with (go_at_call 58; refine (load_any b 1 h _ hc).mono ?_; rintro e w' ⟨rfl, rfl⟩)
  go_ret
  exact ⟨rfl, rfl⟩

def btw (n lo hi : Int) : Int := if n < lo then lo else if n > hi then hi else n
set_option maxHeartbeats 400000 in
theorem between_any (n lo hi : Int) (w : World) :
    Calls Tryz.prog 42 #[.int .i64 n, .int .i64 lo, .int .i64 hi] w fun e w' => e = .returned (.int .i64 (btw n lo hi)) ∧ w' = w := by
  by_cases c : n < lo
  · have f : btw n lo hi = lo := by unfold btw; rw [if_pos c]
    rw [f]; clear f
    go_enter Tryz.func42, Tryz.ntmps42
    go_wp2
    go_ret
    exact ⟨rfl, rfl⟩
  · by_cases d : n > hi
    · have f : btw n lo hi = hi := by unfold btw; rw [if_neg c, if_pos d]
      rw [f]; clear f
      go_enter Tryz.func42, Tryz.ntmps42
      go_wp2
      go_ret
      exact ⟨rfl, rfl⟩
    · have f : btw n lo hi = n := by unfold btw; rw [if_neg c, if_neg d]
      rw [f]; clear f
      go_enter Tryz.func42, Tryz.ntmps42
      go_wp2
      go_ret
      exact ⟨rfl, rfl⟩
theorem btw_mst (a : Int) : btw a 0 1099511627776 = mst a := by unfold btw mst; split <;> (try split) <;> omega
theorem btw_gv {h n : Int} (c : 0 ≤ h) : btw n 0 h = gvL h n := by unfold btw gvL; split <;> split <;> (try split) <;> (try split) <;> omega

set_option maxHeartbeats 400000 in
theorem rnew_any (a : Int) (w : World) :
    Calls Tryz.prog 12 #[.int .i64 a] w fun e w' => e = .returned (.agg #[.int .i64 0, .int .i64 0, .int .i64 (mst a)]) ∧ Below w.heap.size w w' := by
  have E : Hid (btw a 0 1099511627776 = mst a) := btw_mst a
  go_enter Tryz.func12, Tryz.ntmps12
  go_wp2_with fail
  refine (between_any _ _ _ _).mono ?_
  rw [E.out]
  rintro e w' ⟨rfl, rfl⟩
  go_wp2
  refine bodyPost_ret (v := .agg #[.int .i64 0, .int .i64 0, .int .i64 (mst a)]) (by simp [results, Tryz.results12, go_sem]) rfl ⟨rfl, ?_⟩
  exact (Below.refl _ _).alloc (Nat.le_refl _) _

def rpk (m h q n : Int) : Int := if 0 ≤ n ∧ n ≤ m - h then (if q < h + n then h + n else q) else q
set_option maxHeartbeats 1000000 in
theorem rtake_any (m h q n : Int) (w : World) (h0 : 0 ≤ h) (h1 : h ≤ m) (h2 : m ≤ 1099511627776) :
    Calls Tryz.prog 43 #[.agg #[.int .i64 h, .int .i64 q, .int .i64 m], .int .i64 n] w fun e w' =>
      e = .returned (.tuple #[.agg #[.int .i64 (tkH m h n), .int .i64 (rpk m h q n), .int .i64 m], .bool (tkB m h n)]) ∧ Below w.heap.size w w' := by
  rcases Int.lt_or_le n 0 with c | c
  · obtain ⟨e1, e2⟩ := tk_no (m := m) (h := h) (Or.inl c)
    have e3 : rpk m h q n = q := by unfold rpk; rw [if_neg (by omega)]
    rw [e1, e2, e3]; clear e1 e2 e3
    go_enter Tryz.func43, Tryz.ntmps43
    go_wp2
    refine bodyPost_ret (v := .tuple #[.agg #[.int .i64 h, .int .i64 q, .int .i64 m], .bool false]) (by simp [results, Tryz.results43, go_sem]) rfl ⟨rfl, ?_⟩
    exact ((Below.refl _ _).alloc (Nat.le_refl _) _).alloc (by simp) _
  · rcases Int.lt_or_le (m - h) n with d | d
    · obtain ⟨e1, e2⟩ := tk_no (m := m) (h := h) (Or.inr d)
      have e3 : rpk m h q n = q := by unfold rpk; rw [if_neg (by omega)]
      rw [e1, e2, e3]; clear e1 e2 e3
      go_enter Tryz.func43, Tryz.ntmps43
      go_wp2
      refine bodyPost_ret (v := .tuple #[.agg #[.int .i64 h, .int .i64 q, .int .i64 m], .bool false]) (by simp [results, Tryz.results43, go_sem]) rfl ⟨rfl, ?_⟩
      exact ((Below.refl _ _).alloc (Nat.le_refl _) _).alloc (by simp) _
    · obtain ⟨e1, e2⟩ := tk_yes c d
      rcases Int.lt_or_le q (h + n) with f | f
      · have e3 : rpk m h q n = h + n := by unfold rpk; rw [if_pos ⟨c, d⟩, if_pos f]
        rw [e1, e2, e3]; clear e1 e2 e3
        go_enter Tryz.func43, Tryz.ntmps43
        go_wp2
        refine bodyPost_ret (v := .tuple #[.agg #[.int .i64 (h + n), .int .i64 (h + n), .int .i64 m], .bool true]) (by simp [results, Tryz.results43, go_sem]) rfl ⟨rfl, ?_⟩
        exact ((Below.refl _ _).alloc (Nat.le_refl _) _).alloc (by simp) _
      · have e3 : rpk m h q n = q := by unfold rpk; rw [if_pos ⟨c, d⟩, if_neg (by omega)]
        rw [e1, e2, e3]; clear e1 e2 e3
        go_enter Tryz.func43, Tryz.ntmps43
        go_wp2
        refine bodyPost_ret (v := .tuple #[.agg #[.int .i64 (h + n), .int .i64 q, .int .i64 m], .bool true]) (by simp [results, Tryz.results43, go_sem]) rfl ⟨rfl, ?_⟩
        exact ((Below.refl _ _).alloc (Nat.le_refl _) _).alloc (by simp) _

set_option maxHeartbeats 1000000 in
theorem rgive_any (m h q n : Int) (w : World) (h0 : 0 ≤ h) (h1 : h ≤ m) (h2 : m ≤ 1099511627776) (g0 : 0 ≤ gvL h n) (g1 : gvL h n ≤ h) :
    Calls Tryz.prog 67 #[.agg #[.int .i64 h, .int .i64 q, .int .i64 m], .int .i64 n] w fun e w' =>
      e = .returned (.tuple #[.agg #[.int .i64 (h - gvL h n), .int .i64 q, .int .i64 m], .int .i64 (gvL h n)]) ∧ Below w.heap.size w w' := by
  have E : Hid (btw n 0 h = gvL h n) := btw_gv h0
  generalize gvL h n = g at *
  go_enter Tryz.func67, Tryz.ntmps67
  go_wp2_with fail
  refine (between_any _ _ _ _).mono ?_
  rw [E.out]
  rintro e w' ⟨rfl, rfl⟩
  go_wp2
  refine bodyPost_ret (v := .tuple #[.agg #[.int .i64 (h - g), .int .i64 q, .int .i64 m], .int .i64 g]) (by simp [results, Tryz.results67, go_sem]) rfl ⟨rfl, ?_⟩
  exact ((Below.refl _ _).alloc (Nat.le_refl _) _).alloc (by simp) _
end Go.Proofs.YtemmmdhmkegaaaaGreatDoor
