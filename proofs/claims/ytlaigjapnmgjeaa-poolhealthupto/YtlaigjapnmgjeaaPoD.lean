/- A pool in memory; New, Len, State, Aim, move, Joined. -/
import Derived.Test.YtlaigjapnmgjeaaPoC
namespace Go.Proofs.Ytlaigjapnmgjeaa
open Go.RowKit
set_option linter.unusedVariables false

/-- A row of numbers of one's own, or none. -/
def RO (w : World) (v : Value) (rs : List Int) : Prop := (v = .slice none 0 0 ∧ rs = []) ∨ ∃ g c, v = .slice (some ⟨g, 0, none⟩) rs.length c ∧ NI w g c rs ∧ c ≤ maxLen
theorem RO.move {w w' : World} {v : Value} {rs : List Int} (h : RO w v rs) (hk : ∀ g, v.ownBlock = some g → w'.heap[g]? = w.heap[g]?) : RO w' v rs := by
  rcases h with h | ⟨g, c, hv, h1, h2⟩
  · exact .inl h
  · exact .inr ⟨g, c, hv, h1.move (hk g (by rw [hv]; rfl)), h2⟩
theorem RO.lt {w : World} {v : Value} {rs : List Int} (h : RO w v rs) : ∀ g, v.ownBlock = some g → g < w.heap.size := by
  intro g hg
  rcases h with ⟨h, _⟩ | ⟨g', c, hv, h1, h2⟩
  · rw [h] at hg; cases hg
  · rw [hv] at hg
    obtain rfl : g' = g := by simpa [Value.ownBlock] using hg
    exact h1.lt
theorem RO.blk {w : World} {v : Value} {rs : List Int} (h : RO w v rs) : ∀ g, v.ownBlock = some g → ∃ cur, w.heap[g]? = some (.cells cur 3) := by
  intro g hg
  rcases h with ⟨h, _⟩ | ⟨g', c, hv, ⟨cur, h1, _⟩, h2⟩
  · rw [h] at hg; cases hg
  · rw [hv] at hg
    obtain rfl : g' = g := by simpa [Value.ownBlock] using hg
    exact ⟨cur, h1⟩
structure PL (w : World) (pb mk n N : Nat) (most last : Int) (q : HF) (rs : List Int) (v : Value) : Prop where
  bk : w.heap[pb]? = some (.cells #[.int .i64 most, .int .i64 last, .map (some mk), v] 78)
  hm : HM w mk n N q
  ro : RO w v rs
  qs : ∀ h x, q h = some x → x.1.size ≤ 281474976710656
theorem PL.c0 {w : World} {pb mk n N : Nat} {most last : Int} {q : HF} {rs : List Int} {v : Value} (x : PL w pb mk n N most last q rs v) : w.cell? ⟨pb, 0, none⟩ = some (.int .i64 most) := tblk_cell x.bk rfl
theorem PL.c1 {w : World} {pb mk n N : Nat} {most last : Int} {q : HF} {rs : List Int} {v : Value} (x : PL w pb mk n N most last q rs v) : w.cell? ⟨pb, 1, none⟩ = some (.int .i64 last) := tblk_cell x.bk rfl
theorem PL.c2 {w : World} {pb mk n N : Nat} {most last : Int} {q : HF} {rs : List Int} {v : Value} (x : PL w pb mk n N most last q rs v) : w.cell? ⟨pb, 2, none⟩ = some (.map (some mk)) := tblk_cell x.bk rfl
theorem PL.c3 {w : World} {pb mk n N : Nat} {most last : Int} {q : HF} {rs : List Int} {v : Value} (x : PL w pb mk n N most last q rs v) : w.cell? ⟨pb, 3, none⟩ = some v := tblk_cell x.bk rfl
theorem PL.z {w : World} {pb mk n N : Nat} {most last : Int} {q : HF} {rs : List Int} {v : Value} (x : PL w pb mk n N most last q rs v) (o : Nat) : w.frozen? ⟨pb, o, none⟩ = false := by simp [World.frozen?, x.bk]
theorem PL.lt {w : World} {pb mk n N : Nat} {most last : Int} {q : HF} {rs : List Int} {v : Value} (x : PL w pb mk n N most last q rs v) : pb < w.heap.size := (Array.getElem?_eq_some_iff.1 x.bk).1
theorem PL.nm {w : World} {pb mk n N : Nat} {most last : Int} {q : HF} {rs : List Int} {v : Value} (x : PL w pb mk n N most last q rs v) : pb ≠ mk := fun e => by
  obtain ⟨es, cl, h⟩ := x.hm.blk
  rw [← e, x.bk] at h
  cases h
theorem PL.ng {w : World} {pb mk n N : Nat} {most last : Int} {q : HF} {rs : List Int} {v : Value} (x : PL w pb mk n N most last q rs v) : v.ownBlock ≠ some pb ∧ v.ownBlock ≠ some mk := by
  refine ⟨fun e => ?_, fun e => ?_⟩
  · obtain ⟨cur, h⟩ := x.ro.blk pb e
    rw [x.bk] at h
    injection h with h
    injection h with _ h _
    exact absurd h (by decide)
  · obtain ⟨cur, h⟩ := x.ro.blk mk e
    obtain ⟨es, cl, h2⟩ := x.hm.blk
    rw [h2] at h
    cases h
theorem PL.keep {w w' : World} {pb mk n N : Nat} {most last : Int} {q : HF} {rs : List Int} {v : Value} (x : PL w pb mk n N most last q rs v) (k : Below w.heap.size w w') : PL w' pb mk n N most last q rs v :=
  ⟨(k.block pb x.lt).trans x.bk, x.hm.move (k.block mk x.hm.lt), x.ro.move fun g hg => k.block g (x.ro.lt g hg), x.qs⟩
theorem PL.mono {w : World} {pb mk n n' N : Nat} {most last : Int} {q : HF} {rs : List Int} {v : Value} (x : PL w pb mk n N most last q rs v) (hn : n ≤ n') : PL w pb mk n' N most last q rs v :=
  ⟨x.bk, by obtain ⟨D, h1, h2⟩ := x.hm; exact ⟨D, h1.mono hn, h2⟩, x.ro, x.qs⟩
/-- What a call of the pool may turn. -/
structure PX (pb mk : Nat) (v v' : Value) (w w' : World) : Prop where
  os : w'.os = w.os
  tape : w'.tape = w.tape
  output : w'.output = w.output
  size : w.heap.size ≤ w'.heap.size
  block : ∀ k, k < w.heap.size → k ≠ pb → k ≠ mk → v.ownBlock ≠ some k → w'.heap[k]? = w.heap[k]?
  own : v'.ownBlock = v.ownBlock ∨ ∃ g, v'.ownBlock = some g ∧ w.heap.size ≤ g
theorem PX.refl (pb mk : Nat) (v : Value) (w : World) : PX pb mk v v w w := ⟨rfl, rfl, rfl, Nat.le_refl _, fun _ _ _ _ _ => rfl, .inl rfl⟩
theorem PX.trans {pb mk : Nat} {v v' v'' : Value} {w w' w'' : World} (h : PX pb mk v v' w w') (k : PX pb mk v' v'' w' w'') : PX pb mk v v'' w w'' :=
  ⟨k.os.trans h.os, k.tape.trans h.tape, k.output.trans h.output, Nat.le_trans h.size k.size, fun i hi a b c => (k.block i (Nat.lt_of_lt_of_le hi h.size) a b (fun e => by
    rcases h.own with q | ⟨g, q, hg⟩
    · exact c (q.symm.trans e)
    · rw [q] at e; cases e; omega)).trans (h.block i hi a b c), by
    rcases k.own with q | ⟨g, q, hg⟩
    · rw [q]; exact h.own
    · exact .inr ⟨g, q, Nat.le_trans h.size hg⟩⟩
theorem PX.bel {pb mk : Nat} {v v' : Value} {w w' w'' : World} (h : PX pb mk v v' w w') (k : Below w'.heap.size w' w'') : PX pb mk v v' w w'' :=
  ⟨k.os.trans h.os, k.tape.trans h.tape, k.output.trans h.output, Nat.le_trans h.size k.size, fun i hi a b c => (k.block i (Nat.lt_of_lt_of_le hi h.size)).trans (h.block i hi a b c), h.own⟩
theorem PX.ofMap {pb mk : Nat} {v : Value} {w w' : World} (g : w.grownBy w' (some mk)) : PX pb mk v v w w' :=
  ⟨g.os, g.tape, g.output, g.size, fun i hi a b c => g.block i hi (fun e => b (by cases e; rfl)), .inl rfl⟩
theorem PX.below {pb mk B : Nat} {v v' : Value} {w w' : World} (h : PX pb mk v v' w w') (h1 : B ≤ pb) (h2 : B ≤ mk) (h3 : ∀ g, v.ownBlock = some g → B ≤ g) (hB : B ≤ w.heap.size) : Below B w w' :=
  ⟨h.os, h.tape, h.output, h.size, fun k hk => h.block k (Nat.lt_of_lt_of_le hk hB) (by omega) (by omega) (fun e => by have := h3 k e; omega)⟩
theorem PL.setM {w w' : World} {pb mk n n' N N' : Nat} {most last : Int} {q q' : HF} {rs : List Int} {v : Value} (x : PL w pb mk n N most last q rs v) (k : HM w' mk n' N' q') (g : w.grownBy w' (some mk)) (hq : ∀ h y, q' h = some y → y.1.size ≤ 281474976710656) : PL w' pb mk n' N' most last q' rs v :=
  ⟨(g.block pb x.lt (fun e => x.nm (by cases e; rfl))).trans x.bk, k, x.ro.move fun b hb => g.block b (x.ro.lt b hb) (fun e => x.ng.2 (by cases e; exact hb)), hq⟩
set_option maxHeartbeats 400000 in
theorem plnew_any (m : Int) (w : World) : Calls Try.prog 5 #[.int .i64 m] w fun e w' => e = .returned (.pointer (some ⟨w.heap.size + 1, 0, none⟩)) ∧ PL w' (w.heap.size + 1) w.heap.size 0 0 (min (max m 0) 64) 0 (fun _ => none) [] (.slice none 0 0) ∧ Below w.heap.size w w' := by
  have hmm := @ run_makeMap Try.prog
  obtain ⟨m0, hm0⟩ : ∃ m0, max m 0 = m0 := ⟨_, rfl⟩
  obtain ⟨r, hr⟩ : ∃ r, min m0 64 = r := ⟨_, rfl⟩
  have X0 := max_run m 0 m0 hm0
  have X1 := min_run m0 64 r hr
  rw [hm0, hr]
  have B1 : Below w.heap.size w (w.alloc (.map #[] 0)) := (Below.refl _ _).alloc (Nat.le_refl _) _
  have s1 : (w.alloc (.map #[] 0)).heap.size = w.heap.size + 1 := by simp
  have B2 : Below (w.heap.size + 1) (w.alloc (.map #[] 0)) ((w.alloc (.map #[] 0)).alloc (.cells #[.int .i64 r, .int .i64 0, .map (some w.heap.size), .slice none 0 0] 78)) := by rw [← s1]; exact (Below.refl _ _).alloc (Nat.le_refl _) _
  have tb := tblk_new (w.alloc (.map #[] 0)) (.cells #[.int .i64 r, .int .i64 0, .map (some w.heap.size), .slice none 0 0] 78)
  rw [s1] at tb
  have HP : Hid (PL ((w.alloc (.map #[] 0)).alloc (.cells #[.int .i64 r, .int .i64 0, .map (some w.heap.size), .slice none 0 0] 78)) (w.heap.size + 1) w.heap.size 0 0 r 0 (fun _ => none) [] (.slice none 0 0)) := ⟨tb, (HM.new w).move (B2.block _ (by omega)), .inl ⟨rfl, rfl⟩, fun h x hx => by cases hx⟩
  have HB := hidE (B1.trans (B2.mono (by omega)))
  clear hm0 hr B1 B2 tb s1
  go_enter Try.func5, Try.ntmps5
  go_wp2
  go_ret
  exact ⟨by simp, HP.out, HB.out⟩
theorem fld0 (s : KS) (b : Int) (w : World) : (Instr.field 87 (.agg #[.string s, .int .i64 b]) 0).run Try.prog w = .ok (.string s) w := by kernel_rfl
theorem fld1 (s : KS) (b : Int) (w : World) : (Instr.field 87 (.agg #[.string s, .int .i64 b]) 1).run Try.prog w = .ok (.int .i64 b) w := by kernel_rfl
set_option maxHeartbeats 400000 in
theorem pllen_any (pb mk n N : Nat) (most last : Int) (q : HF) (rs : List Int) (v : Value) (w : World) (H : PL w pb mk n N most last q rs v) : Calls Try.prog 16 #[.pointer (some ⟨pb, 0, none⟩)] w fun e w' => e = .returned (.int .i64 N) ∧ w = w' := by
  have c2 := H.c2
  have hl := H.hm.len
  clear H
  go_enter Try.func16, Try.ntmps16
  go_wp2
  go_ret
  exact ⟨rfl, rfl⟩
set_option maxRecDepth 100000 in
set_option maxHeartbeats 400000 in
theorem plstate_any (h : Int) (pb mk n N : Nat) (most last : Int) (q : HF) (rs : List Int) (v : Value) (w : World) (H : PL w pb mk n N most last q rs v) (hh : InR h) : Calls Try.prog 17 #[.pointer (some ⟨pb, 0, none⟩), .int .i64 h] w fun e w' => e = .returned (.int .i64 (lookH (q h)).2) ∧ w = w' := by
  have c2 := H.c2
  have hl := H.hm.look hh
  clear H
  generalize lookH (q h) = x at *
  have hfd := fld1 x.1 x.2
  go_enter Try.func17, Try.ntmps17
  go_wp2
  go_ret
  exact ⟨rfl, rfl⟩
theorem lookH_sz {w : World} {pb mk n N : Nat} {most last : Int} {q : HF} {rs : List Int} {v : Value} (H : PL w pb mk n N most last q rs v) (h : Int) : (lookH (q h)).1.size ≤ 281474976710656 := by
  cases hq : q h with
  | none => show (0 : Nat) ≤ _; omega
  | some x => exact H.qs h x hq
set_option maxRecDepth 100000 in
set_option maxHeartbeats 400000 in
theorem plaim_any (h : Int) (pb mk n N : Nat) (most last : Int) (q : HF) (rs : List Int) (v : Value) (w : World) (H : PL w pb mk n N most last q rs v) (hh : InR h) : Calls Try.prog 19 #[.pointer (some ⟨pb, 0, none⟩), .int .i64 h] w fun e w' => e = .returned (.string (lookH (q h)).1) ∧ Below w.heap.size w w' := by
  have c2 := H.c2
  have hl := H.hm.look hh
  have HC := hidE (fun W => clone_any (lookH (q h)).1 W (lookH_sz H h))
  clear H
  generalize lookH (q h) = x at *
  have hfd := fld0 x.1 x.2
  go_enter Try.func19, Try.ntmps19
  go_wp2_with fail
  refine (HC.out _).mono ?_
  rintro e w1 ⟨rfl, B1⟩
  have HB := hidE B1
  clear HC B1
  go_wp2
  go_ret
  exact ⟨rfl, HB.out⟩
theorem hand_blk (w : World) (x : Hd) : (w.alloc (.cells #[.string x.1, .int .i64 x.2] 87)).heap[w.heap.size]? = some (.cells #[.string x.1, .int .i64 x.2] 87) := tblk_new _ _
theorem step_put2 {ops : Array Oper} {o : Oper} {a : Act} {K : Act → World → Prop} {Q : Exit → Act → World → Prop} {E : Prop} {w : World} (hgd : o.guard = none) (m x v : Operand) (t : TypeId)
    (ho : o.op = .mapUpdate t m x v) (mv key val : Value) (w' : World) (hm : a.eval m = mv) (hx : a.eval x = key) (hv : a.eval v = val) (hrun : (Instr.mapUpdate t mv key val).run Try.prog w = .ok () w') (h : K (a.put o.dst undef) w') :
    if Region.wanted o (yielded ops a.tmps) = true then Oper.wp Try.prog o a w K Q else E := step_put hgd m x v t ho mv key val w' hm hx hv hrun h
set_option maxRecDepth 100000 in
set_option maxHeartbeats 1000000 in
theorem plmove_no (h fr to : Int) (pb mk n N : Nat) (most last : Int) (q : HF) (rs : List Int) (v : Value) (w : World) (H : PL w pb mk n N most last q rs v) (hh : InR h) (hs : (lookH (q h)).2 ≠ fr) : Calls Try.prog 37 #[.pointer (some ⟨pb, 0, none⟩), .int .i64 h, .int .i64 fr, .int .i64 to] w fun e w' => e = .returned (.bool false) ∧ Below w.heap.size w w' := by
  have c2 := H.c2
  have hl := H.hm.look hh
  have d1 : ((lookH (q h)).2 == fr) = false := by simpa using hs
  have HB : Hid (Below w.heap.size w (w.alloc (.cells #[.string (lookH (q h)).1, .int .i64 (lookH (q h)).2] 87))) := (Below.refl _ _).alloc (Nat.le_refl _) _
  clear H hs
  generalize (lookH (q h)).1 = x1 at *
  generalize (lookH (q h)).2 = x2 at *
  go_enter Try.func37, Try.ntmps37
  go_wp2
  go_ret
  exact ⟨rfl, HB.out⟩
end Go.Proofs.Ytlaigjapnmgjeaa
