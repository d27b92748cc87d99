/- Health's small functions: NewHealth, ahead, Sick, Good, Bad. -/
import Derived.Test.YtlaigjapnmgjeaaHlA
import Derived.Test.YtlaigjapnmgjeaaShClone
namespace Go.Proofs.Ytlaigjapnmgjeaa
open Go.RowKit
set_option linter.unusedVariables false

theorem clone_any (s : ByteArray) (w : World) (hs : s.size ≤ 281474976710656) : Calls Try.prog 39 #[.string s] w fun e w' => e = .returned (.string s) ∧ Below w.heap.size w w' := by
  go_enter Try.func39, Try.ntmps39
  go_wp2_with fail
  refine (Try.stringslite_Clone s _ hs).mono ?_
  rintro e w1 ⟨rfl, B1⟩
  go_wp2
  go_ret
  exact ⟨rfl, B1⟩
set_option maxHeartbeats 400000 in
theorem hlahead_any (x y now : Int) (w : World) (hx : InR x) (hy : InR y) (hn : InR now) : Calls Try.prog 42 #[.agg #[.int .i64 x, .int .i64 y], .int .i64 now] w fun e w' => e = .returned (.bool (decide (now < x + y))) ∧ Below w.heap.size w w' := by
  unfold InR at *
  obtain ⟨B, hB⟩ : ∃ B, B = decide (now < x + y) := ⟨_, rfl⟩
  rw [← hB]
  have HBE : Hid (B = decide (now < x + y)) := hB
  by_cases h1 : now < x
  · have d1 : decide (now < x) = true := decide_eq_true h1
    by_cases h2 : 0 ≤ y
    · have d2 : decide (0 ≤ y) = true := decide_eq_true h2
      obtain rfl : B = true := by rw [hB]; exact decide_eq_true (by omega)
      clear hB hx hy hn HBE
      go_enter Try.func42, Try.ntmps42
      go_wp2
      go_ret
      exact ⟨rfl, (Below.refl _ _).alloc (Nat.le_refl _) _⟩
    · have d2 : decide (0 ≤ y) = false := decide_eq_false h2
      have f1 : IntKind.u64.wrap (IntKind.u64.wrap x - IntKind.u64.wrap now) = x - now := by simp only [IntKind.wrap_u64]; omega
      have f2 : IntKind.u64.wrap (-(IntKind.u64.wrap y)) = -y := by simp only [IntKind.wrap_u64]; omega
      have f3 : decide (-y < x - now) = B := by rw [hB]; by_cases k : now < x + y; · rw [decide_eq_true k]; exact decide_eq_true (by omega)
                                                · rw [decide_eq_false k]; exact decide_eq_false (by omega)
      clear hB hx hy hn h1 h2
      go_enter Try.func42, Try.ntmps42
      go_wp2
      go_ret
      exact ⟨rfl, (Below.refl _ _).alloc (Nat.le_refl _) _⟩
  · have d1 : decide (now < x) = false := decide_eq_false h1
    by_cases h2 : 0 < y
    · have d2 : decide (0 < y) = true := decide_eq_true h2
      have f1 : IntKind.u64.wrap (IntKind.u64.wrap now - IntKind.u64.wrap x) = now - x := by simp only [IntKind.wrap_u64]; omega
      have f2 : IntKind.u64.wrap y = y := by simp only [IntKind.wrap_u64]; omega
      have f3 : decide (now - x < y) = B := by rw [hB]; by_cases k : now < x + y; · rw [decide_eq_true k]; exact decide_eq_true (by omega)
                                               · rw [decide_eq_false k]; exact decide_eq_false (by omega)
      clear hB hx hy hn h1 h2
      go_enter Try.func42, Try.ntmps42
      go_wp2
      go_ret
      exact ⟨rfl, (Below.refl _ _).alloc (Nat.le_refl _) _⟩
    · have d2 : decide (0 < y) = false := decide_eq_false h2
      obtain rfl : B = false := by rw [hB]; exact decide_eq_false (by omega)
      clear hB hx hy hn HBE
      go_enter Try.func42, Try.ntmps42
      go_wp2
      go_ret
      exact ⟨rfl, (Below.refl _ _).alloc (Nat.le_refl _) _⟩
def sickB (o : Option (Int × Int)) (now : Int) : Bool := match o with
  | none => false
  | some x => decide (now < x.1 + x.2)
set_option maxHeartbeats 400000 in
theorem hlsick_any (s : KS) (now : Int) (h a b c n : Nat) (t f : KS → Int) (q : BF) (w : World) (H : HL w h a b c n t f q) (hs : s.size ≤ maxLen) (hn : InR now) :
    Calls Try.prog 29 #[.pointer (some ⟨h, 0, none⟩), .string s, .int .i64 now] w fun e w' => e = .returned (.bool (sickB (q s) now)) ∧ Below w.heap.size w w' := by
  obtain ⟨x, hlk, hx⟩ := H.qa.look hs
  have e2 := H.c2
  cases hq : (q s).isSome
  · rw [hq] at hlk
    have hn0 : q s = none := by simpa using hq
    rw [hn0]
    show Calls Try.prog 29 _ w fun e w' => e = .returned (.bool false) ∧ Below w.heap.size w w'
    clear hx hq H
    go_enter Try.func29, Try.ntmps29
    go_wp2
    go_ret
    exact ⟨rfl, (Below.refl _ _).alloc (Nat.le_refl _) _⟩
  · rw [hq] at hlk
    have hq1 := hx hq
    have hr := H.qr s x hq1
    rw [hq1]
    show Calls Try.prog 29 _ w fun e w' => e = .returned (.bool (decide (now < x.1 + x.2))) ∧ Below w.heap.size w w'
    have HA := hidE (fun W => hlahead_any x.1 x.2 now W hr.1 hr.2 hn)
    generalize decide (now < x.1 + x.2) = B at *
    clear hx hq hq1 H hr
    go_enter Try.func29, Try.ntmps29
    go_wp2_with fail
    refine (HA.out _).mono ?_
    rintro e w1 ⟨rfl, B1⟩
    have HB1 : Hid (Below w.heap.size w w1) := ((Below.refl _ _).alloc (Nat.le_refl _) _).trans (B1.mono (by simp))
    clear B1
    go_wp2
    go_ret
    exact ⟨by simp, HB1.out⟩
set_option maxHeartbeats 400000 in
theorem hlgood_any (s : KS) (h a b c n : Nat) (t f : KS → Int) (q : BF) (w : World) (H : HL w h a b c n t f q) (hs : s.size ≤ maxLen) :
    Calls Try.prog 27 #[.pointer (some ⟨h, 0, none⟩), .string s] w fun e w' => e = .returned (.tuple #[]) ∧ HL w' h a b c n t (upd f s 0) q ∧ FrM a b c w w' := by
  obtain ⟨w1, r1, I1, g1⟩ := H.fa.del hs
  have e1 := H.c1
  have HH := hidE (H.setF I1 (Nat.le_refl _) g1)
  have HF := hidE ((FrM.refl a b c w).turn g1 (.inr (.inl rfl)))
  clear H I1 g1
  go_enter Try.func27, Try.ntmps27
  go_wp2_with (at_delete; refine wpList_delete_run _ rfl _ _ 92 9 rfl _ _ w1 rfl rfl r1 ?_)
  refine bodyPost_end (results_none rfl _ _ _) rfl ?_
  exact ⟨rfl, HH.out, HF.out⟩
theorem step_put {ops : Array Oper} {o : Oper} {a : Act} {K : Act → World → Prop} {Q : Exit → Act → World → Prop} {E : Prop} {w : World} (hgd : o.guard = none) (m x v : Operand) (t : TypeId)
    (ho : o.op = .mapUpdate t m x v) (mv key val : Value) (w' : World) (hm : a.eval m = mv) (hx : a.eval x = key) (hv : a.eval v = val) (hrun : (Instr.mapUpdate t mv key val).run Try.prog w = .ok () w') (h : K (a.put o.dst undef) w') :
    if Region.wanted o (yielded ops a.tmps) = true then Oper.wp Try.prog o a w K Q else E := by
  have hw : Region.wanted o (yielded ops a.tmps) = true := by simp [Region.wanted, hgd]
  rw [if_pos hw]
  unfold Oper.wp
  simp [execOp, ho, hm, hx, hv, hrun, Result.andThen]
  exact h
def confV (fl co : Int) : Value := .agg #[.slice none 0 0, .slice none 0 0, .slice none 0 0, .slice none 0 0, .int .i64 0, .int .i64 0, .int .i64 fl, .int .i64 co]
set_option maxRecDepth 100000 in
set_option maxHeartbeats 1000000 in
theorem hlbad_no (s : KS) (now fl co : Int) (h a b c n : Nat) (t f : KS → Int) (q : BF) (w : World) (H : HL w h a b c n t f q) (hs : s.size ≤ 281474976710656) (hn : n ≤ 1000000) (hf : 0 ≤ f s ∧ f s ≤ 1000000) (hlt : f s + 1 < fl) :
    Calls Try.prog 26 #[.pointer (some ⟨h, 0, none⟩), .string s, .int .i64 now, confV fl co] w fun e w' => e = .returned (.bool false) ∧ HL w' h a b c (n + 1) t (upd f s (f s + 1)) q ∧ FrM a b c w w' := by
  have hsm : s.size ≤ maxLen := by unfold maxLen; omega
  have BA : Below w.heap.size w (w.alloc (.cells #[.slice none 0 0, .slice none 0 0, .slice none 0 0, .slice none 0 0, .int .i64 0, .int .i64 0, .int .i64 fl, .int .i64 co] 62)) := (Below.refl _ _).alloc (Nat.le_refl _) _
  have H1 := H.keep BA
  have F1 := (FrM.refl a b c w).bel BA
  have hlk := H1.fa.look hsm
  have e1 := H1.c1
  have hlt1 := H1.lt
  have tb : (w.alloc (.cells #[.slice none 0 0, .slice none 0 0, .slice none 0 0, .slice none 0 0, .int .i64 0, .int .i64 0, .int .i64 fl, .int .i64 co] 62)).heap[w.heap.size]? = some (.cells #[.slice none 0 0, .slice none 0 0, .slice none 0 0, .slice none 0 0, .int .i64 0, .int .i64 0, .int .i64 fl, .int .i64 co] 62) := tblk_new _ _
  obtain ⟨y, hy⟩ : ∃ y, y = f s + 1 := ⟨_, rfl⟩
  have f1 : IntKind.i64.wrap (f s + 1) = y := by rw [hy, IntKind.wrap_i64]; omega
  have d1 : decide (y < fl) = true := decide_eq_true (by omega)
  have hyr : InR y := by unfold InR; omega
  rw [← hy]
  have e6 : (w.alloc (.cells #[.slice none 0 0, .slice none 0 0, .slice none 0 0, .slice none 0 0, .int .i64 0, .int .i64 0, .int .i64 fl, .int .i64 co] 62)).cell? ⟨w.heap.size, 6, none⟩ = some (.int .i64 fl) := tblk_cell tb rfl
  generalize hW1 : (w.alloc (.cells #[.slice none 0 0, .slice none 0 0, .slice none 0 0, .slice none 0 0, .int .i64 0, .int .i64 0, .int .i64 fl, .int .i64 co] 62)) = w1 at *
  have HC : Hid (∀ W, Below w1.heap.size w1 W → Calls Try.prog 39 #[.string s] W fun e w6 => e = .returned (.string s) ∧ w6.cell? ⟨h, 1, none⟩ = some (.map (some b)) ∧ ∃ w7, (Instr.mapUpdate 92 (.map (some b)) (.string s) (.int .i64 y)).run Try.prog w6 = .ok () w7 ∧ w7.cell? ⟨h, 1, none⟩ = some (.map (some b)) ∧ Hid (HL w7 h a b c (n + 1) t (upd f s y) q ∧ FrM a b c w w7)) := fun W bW => by
    refine (clone_any s W hs).mono ?_
    rintro e w6 ⟨rfl, B6⟩
    have H6 := (H1.keep bW).keep B6
    obtain ⟨w7, r7, I7, g7⟩ := H6.fa.put (by unfold maxLen; omega) hsm hyr
    have H7 := H6.setF I7 (Nat.le_succ _) g7
    exact ⟨rfl, H6.c1, w7, r7, H7.c1, H7, ((F1.bel bW).bel B6).turn g7 (.inr (.inl rfl))⟩
  have U0 : Below w1.heap.size w1 w1 := Below.refl _ _
  clear H H1 F1 BA tb hy hf hlt hyr
  unfold confV
  go_enter Try.func26, Try.ntmps26
  go_wp2_with fail
  go_region_held3 (fun W => W.cell? ⟨h, 1, none⟩ = some (.map (some b))) (go_keep) (first | (go_at_call 39; refine (HC.out _ (by first | assumption | exact U0.drew)).mono ?_; rintro e w6 ⟨rfl, hS, w7, r7, hS7, HR⟩) | (refine step_put rfl _ _ _ 92 rfl _ _ _ w7 rfl rfl rfl r7 ?_))
  go_wp2
  go_ret
  exact ⟨rfl, HR.out.1, HR.out.2⟩
set_option maxRecDepth 100000 in
set_option maxHeartbeats 1000000 in
theorem hlbad_yes (s : KS) (now fl co : Int) (h a b c n : Nat) (t f : KS → Int) (q : BF) (w : World) (H : HL w h a b c n t f q) (hs : s.size ≤ 281474976710656) (hn : n ≤ 1000000) (hf : 0 ≤ f s ∧ f s ≤ 1000000) (hlt : ¬ f s + 1 < fl) (hnow : InR now) (hco : InR co) :
    Calls Try.prog 26 #[.pointer (some ⟨h, 0, none⟩), .string s, .int .i64 now, confV fl co] w fun e w' => e = .returned (.bool true) ∧ HL w' h a b c (n + 1) t (upd f s 0) (upd q s (some (now, co))) ∧ FrM a b c w w' := by
  have hsm : s.size ≤ maxLen := by unfold maxLen; omega
  have BA : Below w.heap.size w (w.alloc (.cells #[.slice none 0 0, .slice none 0 0, .slice none 0 0, .slice none 0 0, .int .i64 0, .int .i64 0, .int .i64 fl, .int .i64 co] 62)) := (Below.refl _ _).alloc (Nat.le_refl _) _
  have H1 := H.keep BA
  have F1 := (FrM.refl a b c w).bel BA
  have hlk := H1.fa.look hsm
  have e1 := H1.c1
  have hlt1 := H1.lt
  have tb : (w.alloc (.cells #[.slice none 0 0, .slice none 0 0, .slice none 0 0, .slice none 0 0, .int .i64 0, .int .i64 0, .int .i64 fl, .int .i64 co] 62)).heap[w.heap.size]? = some (.cells #[.slice none 0 0, .slice none 0 0, .slice none 0 0, .slice none 0 0, .int .i64 0, .int .i64 0, .int .i64 fl, .int .i64 co] 62) := tblk_new _ _
  obtain ⟨y, hy⟩ : ∃ y, y = f s + 1 := ⟨_, rfl⟩
  have f1 : IntKind.i64.wrap (f s + 1) = y := by rw [hy, IntKind.wrap_i64]; omega
  have d1 : decide (y < fl) = false := decide_eq_false (by omega)
  have e6 : (w.alloc (.cells #[.slice none 0 0, .slice none 0 0, .slice none 0 0, .slice none 0 0, .int .i64 0, .int .i64 0, .int .i64 fl, .int .i64 co] 62)).cell? ⟨w.heap.size, 6, none⟩ = some (.int .i64 fl) := tblk_cell tb rfl
  obtain ⟨w2, r2, I2, g2⟩ := H1.fa.del hsm
  have hwb : ∀ k, k = w.heap.size → k ≠ a ∧ k ≠ b ∧ k ≠ c := fun k hk => by
    have h1 := H.ta.lt; have h2 := H.fa.lt; have h3 := H.qa.lt
    omega
  have tb2 : w2.heap[w.heap.size]? = some (.cells #[.slice none 0 0, .slice none 0 0, .slice none 0 0, .slice none 0 0, .int .i64 0, .int .i64 0, .int .i64 fl, .int .i64 co] 62) := (g2.block _ (by simp) (fun e => (hwb _ rfl).2.1 (by cases e; rfl))).trans tb
  generalize hW1 : (w.alloc (.cells #[.slice none 0 0, .slice none 0 0, .slice none 0 0, .slice none 0 0, .int .i64 0, .int .i64 0, .int .i64 fl, .int .i64 co] 62)) = w1 at *
  have H2 := H1.setF I2 (Nat.le_refl _) g2
  have F2 := F1.turn g2 (.inr (.inl rfl))
  have e7 : w2.cell? ⟨w.heap.size, 7, none⟩ = some (.int .i64 co) := tblk_cell tb2 rfl
  have e2 := H2.c2
  have hlt2 := H2.lt
  have hw2 : w.heap.size < w2.heap.size := (Array.getElem?_eq_some_iff.1 tb2).1
  have HC : Hid (∀ W, Below w2.heap.size w2 W → Calls Try.prog 39 #[.string s] W fun e w6 => e = .returned (.string s) ∧ (w6.cell? ⟨h, 2, none⟩ = some (.map (some c)) ∧ w6.cell? ⟨w.heap.size, 7, none⟩ = some (.int .i64 co)) ∧ ∃ w7, (Instr.mapUpdate 93 (.map (some c)) (.string s) (.agg #[.int .i64 now, .int .i64 co])).run Try.prog w6 = .ok () w7 ∧ (w7.cell? ⟨h, 2, none⟩ = some (.map (some c)) ∧ w7.cell? ⟨w.heap.size, 7, none⟩ = some (.int .i64 co)) ∧ Hid (HL w7 h a b c (n + 1) t (upd f s 0) (upd q s (some (now, co))) ∧ FrM a b c w w7)) := fun W bW => by
    refine (clone_any s W hs).mono ?_
    rintro e w6 ⟨rfl, B6⟩
    have H6 := (H2.keep bW).keep B6
    have tb6 := (B6.block w.heap.size (Nat.lt_of_lt_of_le hw2 bW.size)).trans ((bW.block w.heap.size hw2).trans tb2)
    obtain ⟨w7, r7, I7, g7⟩ := H6.qa.put (by unfold maxLen; omega) hsm now co
    have H7 := H6.setQ I7 ⟨hnow, hco⟩ g7
    have tb7 := (g7.block w.heap.size (Array.getElem?_eq_some_iff.1 tb6).1 (fun e => (hwb _ rfl).2.2 (by cases e; rfl))).trans tb6
    exact ⟨rfl, ⟨H6.c2, tblk_cell tb6 rfl⟩, w7, r7, ⟨H7.c2, tblk_cell tb7 rfl⟩, H7, ((F2.bel bW).bel B6).turn g7 (.inr (.inr rfl))⟩
  have U0 : Below w2.heap.size w2 w2 := Below.refl _ _
  clear H H1 F1 BA tb hy hf hlt H2 F2 tb2 hwb I2 g2
  unfold confV
  go_enter Try.func26, Try.ntmps26
  go_wp2_with (at_delete; refine wpList_delete_run _ rfl _ _ 92 9 rfl _ _ w2 rfl rfl r2 ?_)
  go_region_held3 (fun W => W.cell? ⟨h, 2, none⟩ = some (.map (some c)) ∧ W.cell? ⟨w.heap.size, 7, none⟩ = some (.int .i64 co)) (go_keep) (first | (go_at_call 39; refine (HC.out _ (by first | assumption | exact U0.drew)).mono ?_; rintro e w6 ⟨rfl, hS, w7, r7, hS7, HR⟩) | (refine step_put rfl _ _ _ 93 rfl _ _ _ w7 rfl rfl rfl r7 ?_))
  go_wp2
  go_ret
  exact ⟨rfl, HR.out.1, HR.out.2⟩
end Go.Proofs.Ytlaigjapnmgjeaa
