/- The document's health: Good, Bad. -/
import Derived.Test.YtlaigjapnmgjeaaUb
namespace Go.Proofs.Ytlaigjapnmgjeaa
open Go.RowKit
set_option linter.unusedVariables false

structure TG (w : World) (t0 t1 : Value) (rb : Nat) (wr : World) : Prop where
  x : HBk wr w.heap.size t0 t1
  z : HBk wr rb (.slice none 0 0) (.slice none 0 0)
  b : Below w.heap.size w wr
  r : w.heap.size < rb
theorem TG.keep {w : World} {t0 t1 : Value} {rb : Nat} {wr w' : World} (h : TG w t0 t1 rb wr) (k : Below wr.heap.size wr w') : TG w t0 t1 rb w' := ⟨h.x.keep k h.x.lt, h.z.keep k h.z.lt, h.b.trans (k.mono h.b.size), h.r⟩
theorem TG.fin {w : World} {t0 t1 : Value} {rb : Nat} {wr w5 : World} {u v : Value} {o : List Mk} (T : TG w t0 t1 rb wr) (B : Below wr.heap.size wr w5) (O : OwR 99 3 encM wr.heap.size w5 u o) :
    OwR 99 3 encM w.heap.size ((w5.setCell ⟨rb, 0, none⟩ u).setCell ⟨rb, 1, none⟩ v) u o ∧ Below w.heap.size w ((w5.setCell ⟨rb, 0, none⟩ u).setCell ⟨rb, 1, none⟩ v) := by
  have hr := T.r
  have hl := T.z.lt
  exact ⟨(owr_set (owr_set O hl) hl).mono T.b.size, ((T.keep B).b.setCell (p := ⟨rb, 0, none⟩) (Nat.le_of_lt hr) _).setCell (p := ⟨rb, 1, none⟩) (Nat.le_of_lt hr) _⟩
theorem tg_two (w : World) (t0 t1 : Value) : TG w t0 t1 (w.heap.size + 1) ((w.alloc (.cells #[t0, t1] 57)).alloc (.cells #[.slice none 0 0, .slice none 0 0] 57)) := by
  refine ⟨(Below.heap_alloc _ _ _ (by simp)).trans (tblk_new _ _), ?_, ((Below.refl _ _).alloc (Nat.le_refl _) _).alloc (by simp) _, Nat.lt_succ_self _⟩
  have := tblk_new (w.alloc (.cells #[t0, t1] 57)) (.cells #[.slice none 0 0, .slice none 0 0] 57)
  rwa [show (w.alloc (.cells #[t0, t1] 57)).heap.size = w.heap.size + 1 by simp] at this
theorem tg_three (w : World) (t0 t1 : Value) (o : Obj) : TG w t0 t1 (w.heap.size + 1 + 1) (((w.alloc (.cells #[t0, t1] 57)).alloc o).alloc (.cells #[.slice none 0 0, .slice none 0 0] 57)) := by
  have s1 : (w.alloc (.cells #[t0, t1] 57)).heap.size = w.heap.size + 1 := by simp
  have s2 : ((w.alloc (.cells #[t0, t1] 57)).alloc o).heap.size = w.heap.size + 1 + 1 := by simp
  refine ⟨(Below.heap_alloc _ _ _ (by rw [s2]; omega)).trans ((Below.heap_alloc _ _ _ (by simp)).trans (tblk_new _ _)), ?_, (((Below.refl _ _).alloc (Nat.le_refl _) _).alloc (by simp) _).alloc (by rw [s2]; omega) _, by omega⟩
  have := tblk_new ((w.alloc (.cells #[t0, t1] 57)).alloc o) (.cells #[.slice none 0 0, .slice none 0 0] 57)
  rwa [s2] at this
set_option maxRecDepth 100000 in
set_option maxHeartbeats 1000000 in
theorem rgood_any (L : List Mk) (s : KS) (a : Option Addr) (c : Nat) (ta : Option Addr) (tl tc : Nat) (w : World) (hL : RdR 3 encM w a c L) (hl : L.length ≤ 1000000) :
    Calls Try.prog 28 #[.agg #[.slice a L.length c, .slice ta tl tc], .string s] w fun e w' => ∃ a' c', e = .returned (.agg #[.slice a' (putR ⟨s, 0, (markR L s).u⟩ L).length c', .slice ta tl tc]) ∧ OwR 99 3 encM w.heap.size w' (.slice a' (putR ⟨s, 0, (markR L s).u⟩ L).length c') (putR ⟨s, 0, (markR L s).u⟩ L) ∧ Below w.heap.size w w' := by
  have T0 := tg_two w (.slice a L.length c) (.slice ta tl tc)
  have HM := hidE (rmark_any L a c (.slice ta tl tc) s _ (hL.keep T0.b) hl)
  have HP : Hid (∀ W, Below w.heap.size w W → Calls Try.prog 41 #[.agg #[.slice a L.length c, .slice ta tl tc], .agg #[.string s, .int .i64 0, .int .i64 (markR L s).u]] W fun e w' => ∃ a' c', e = .returned (.agg #[.slice a' (putR ⟨s, 0, (markR L s).u⟩ L).length c', .slice ta tl tc]) ∧ OwR 99 3 encM W.heap.size w' (.slice a' (putR ⟨s, 0, (markR L s).u⟩ L).length c') (putR ⟨s, 0, (markR L s).u⟩ L) ∧ Below W.heap.size W w') := fun W b => rput_any L s 0 (markR L s).u a c ta tl tc W (hL.keep b) hl
  have HT := hidE T0
  have HA : Hid ((markR L s).a = s) := markR_a L s
  generalize putR ⟨s, 0, (markR L s).u⟩ L = LL at *
  generalize LL.length = ll at *
  generalize L.length = n at *
  generalize markR L s = m at *
  obtain ⟨m1, m2, m3⟩ := m
  have ha : m1 = s := HA.out
  subst ha
  clear T0 hL hl HA
  go_enter Try.func28, Try.ntmps28
  go_wp2_with fail
  refine HM.out.mono ?_
  rintro e w3 ⟨rfl, B⟩
  have HT3 := hidE (HT.out.keep B)
  have c0 := HT3.out.x.c0
  have c1 := HT3.out.x.c1
  have clt := HT3.out.x.lt
  clear HM HT B
  go_wp2_with fail
  have HT4 := hidE (HT3.out.keep ((Below.refl _ _).alloc (Nat.le_refl _) (.cells #[.string m1, .int .i64 0, .int .i64 m3] 99)))
  refine (HP.out _ HT4.out.b).mono ?_
  rintro e w5 ⟨a', c', rfl, O, B⟩
  have T5 := HT4.out.keep B
  have v0 := T5.z.c0
  have v1 := T5.z.c1
  have z0 := T5.z.z 0
  have z1 := T5.z.z 1
  have HF := hidE (HT4.out.fin (v := .slice ta tl tc) B O)
  clear HP HT3 HT4 T5 O B c0 c1 clt
  go_wp2
  refine bodyPost_ret (v := .agg #[.slice a' ll c', .slice ta tl tc]) (by simp [results, Try.results28, go_sem, v0, v1]) rfl ?_
  exact ⟨a', c', rfl, HF.out⟩
set_option maxRecDepth 100000 in
set_option maxHeartbeats 1000000 in
theorem rbad_no (L : List Mk) (s : KS) (now fl co : Int) (a : Option Addr) (c : Nat) (ta : Option Addr) (tl tc : Nat) (w : World) (hL : RdR 3 encM w a c L) (hl : L.length ≤ 1000000) (hf0 : 0 ≤ (markR L s).f) (hf1 : (markR L s).f ≤ 1000000) (hlt : (markR L s).f + 1 < fl) :
    Calls Try.prog 25 #[.agg #[.slice a L.length c, .slice ta tl tc], .string s, .int .i64 now, confV fl co] w fun e w' => ∃ a' c', e = .returned (.tuple #[.agg #[.slice a' (putR ⟨s, (markR L s).f + 1, (markR L s).u⟩ L).length c', .slice ta tl tc], .bool false]) ∧ OwR 99 3 encM w.heap.size w' (.slice a' (putR ⟨s, (markR L s).f + 1, (markR L s).u⟩ L).length c') (putR ⟨s, (markR L s).f + 1, (markR L s).u⟩ L) ∧ Below w.heap.size w w' := by
  unfold confV
  have T0 := tg_three w (.slice a L.length c) (.slice ta tl tc) (.cells #[.slice none 0 0, .slice none 0 0, .slice none 0 0, .slice none 0 0, .int .i64 0, .int .i64 0, .int .i64 fl, .int .i64 co] 62)
  have HM := hidE (rmark_any L a c (.slice ta tl tc) s _ (hL.keep T0.b) hl)
  have HP : Hid (∀ W, Below w.heap.size w W → Calls Try.prog 41 #[.agg #[.slice a L.length c, .slice ta tl tc], .agg #[.string s, .int .i64 ((markR L s).f + 1), .int .i64 (markR L s).u]] W fun e w' => ∃ a' c', e = .returned (.agg #[.slice a' (putR ⟨s, (markR L s).f + 1, (markR L s).u⟩ L).length c', .slice ta tl tc]) ∧ OwR 99 3 encM W.heap.size w' (.slice a' (putR ⟨s, (markR L s).f + 1, (markR L s).u⟩ L).length c') (putR ⟨s, (markR L s).f + 1, (markR L s).u⟩ L) ∧ Below W.heap.size W w') := fun W b => rput_any L s _ (markR L s).u a c ta tl tc W (hL.keep b) hl
  have HT := hidE T0
  have HA : Hid ((markR L s).a = s) := markR_a L s
  have hcf : (((w.alloc (.cells #[.slice a L.length c, .slice ta tl tc] 57)).alloc (.cells #[.slice none 0 0, .slice none 0 0, .slice none 0 0, .slice none 0 0, .int .i64 0, .int .i64 0, .int .i64 fl, .int .i64 co] 62)).alloc (.cells #[.slice none 0 0, .slice none 0 0] 57)).heap[w.heap.size + 1]? = some (.cells #[.slice none 0 0, .slice none 0 0, .slice none 0 0, .slice none 0 0, .int .i64 0, .int .i64 0, .int .i64 fl, .int .i64 co] 62) := by
    refine (Below.heap_alloc _ _ _ (by simp)).trans ?_
    have := tblk_new (w.alloc (.cells #[.slice a L.length c, .slice ta tl tc] 57)) (.cells #[.slice none 0 0, .slice none 0 0, .slice none 0 0, .slice none 0 0, .int .i64 0, .int .i64 0, .int .i64 fl, .int .i64 co] 62)
    rwa [show (w.alloc (.cells #[.slice a L.length c, .slice ta tl tc] 57)).heap.size = w.heap.size + 1 by simp] at this
  have HCF := hidE hcf
  generalize putR ⟨s, (markR L s).f + 1, (markR L s).u⟩ L = LL at *
  generalize LL.length = ll at *
  generalize L.length = n at *
  generalize markR L s = m at *
  obtain ⟨m1, m2, m3⟩ := m
  have ha : m1 = s := HA.out
  subst ha
  simp only at hf0 hf1 hlt
  have hd : decide (m2 + 1 < fl) = true := decide_eq_true hlt
  clear T0 hL hl HA hcf hlt
  go_enter Try.func25, Try.ntmps25
  go_wp2_with fail
  refine HM.out.mono ?_
  rintro e w3 ⟨rfl, B⟩
  have hcf3 := (B.block _ (Array.getElem?_eq_some_iff.1 HCF.out).1).trans HCF.out
  have g6 : w3.cell? ⟨w.heap.size + 1, 6, none⟩ = some (.int .i64 fl) := tblk_cell hcf3 rfl
  have glt := (Array.getElem?_eq_some_iff.1 hcf3).1
  have HT3 := hidE (HT.out.keep B)
  have c0 := HT3.out.x.c0
  have c1 := HT3.out.x.c1
  have clt := HT3.out.x.lt
  clear HM HT B hcf3 HCF
  go_wp2_with fail
  have HT4 := hidE (HT3.out.keep ((Below.refl _ _).alloc (Nat.le_refl _) (.cells #[.string m1, .int .i64 (m2 + 1), .int .i64 m3] 99)))
  refine (HP.out _ HT4.out.b).mono ?_
  rintro e w5 ⟨a', c', rfl, O, B⟩
  have T5 := HT4.out.keep B
  have v0 := T5.z.c0
  have v1 := T5.z.c1
  have z0 := T5.z.z 0
  have z1 := T5.z.z 1
  have HF := hidE (HT4.out.fin (v := .slice ta tl tc) B O)
  clear HP HT3 HT4 T5 O B c0 c1 clt g6 glt
  go_wp2
  refine bodyPost_ret (v := .tuple #[.agg #[.slice a' ll c', .slice ta tl tc], .bool false]) (by simp [results, Try.results25, go_sem, v0, v1]) rfl ?_
  exact ⟨a', c', rfl, HF.out⟩
set_option maxRecDepth 100000 in
set_option maxHeartbeats 1000000 in
theorem rbad_yes (L : List Mk) (s : KS) (now fl co : Int) (a : Option Addr) (c : Nat) (ta : Option Addr) (tl tc : Nat) (w : World) (hL : RdR 3 encM w a c L) (hl : L.length ≤ 1000000) (hf0 : 0 ≤ (markR L s).f) (hf1 : (markR L s).f ≤ 1000000) (hlt : ¬ (markR L s).f + 1 < fl) (hn0 : 0 ≤ now) (hn1 : now ≤ 2199023255552) (hc0 : 0 ≤ co) (hc1 : co ≤ 2199023255552) :
    Calls Try.prog 25 #[.agg #[.slice a L.length c, .slice ta tl tc], .string s, .int .i64 now, confV fl co] w fun e w' => ∃ a' c', e = .returned (.tuple #[.agg #[.slice a' (putR ⟨s, 0, now + co⟩ L).length c', .slice ta tl tc], .bool true]) ∧ OwR 99 3 encM w.heap.size w' (.slice a' (putR ⟨s, 0, now + co⟩ L).length c') (putR ⟨s, 0, now + co⟩ L) ∧ Below w.heap.size w w' := by
  unfold confV
  have T0 := tg_three w (.slice a L.length c) (.slice ta tl tc) (.cells #[.slice none 0 0, .slice none 0 0, .slice none 0 0, .slice none 0 0, .int .i64 0, .int .i64 0, .int .i64 fl, .int .i64 co] 62)
  have HM := hidE (rmark_any L a c (.slice ta tl tc) s _ (hL.keep T0.b) hl)
  have HP : Hid (∀ W, Below w.heap.size w W → Calls Try.prog 41 #[.agg #[.slice a L.length c, .slice ta tl tc], .agg #[.string s, .int .i64 0, .int .i64 (now + co)]] W fun e w' => ∃ a' c', e = .returned (.agg #[.slice a' (putR ⟨s, 0, now + co⟩ L).length c', .slice ta tl tc]) ∧ OwR 99 3 encM W.heap.size w' (.slice a' (putR ⟨s, 0, now + co⟩ L).length c') (putR ⟨s, 0, now + co⟩ L) ∧ Below W.heap.size W w') := fun W b => rput_any L s _ _ a c ta tl tc W (hL.keep b) hl
  have HT := hidE T0
  have HA : Hid ((markR L s).a = s) := markR_a L s
  have hcf : (((w.alloc (.cells #[.slice a L.length c, .slice ta tl tc] 57)).alloc (.cells #[.slice none 0 0, .slice none 0 0, .slice none 0 0, .slice none 0 0, .int .i64 0, .int .i64 0, .int .i64 fl, .int .i64 co] 62)).alloc (.cells #[.slice none 0 0, .slice none 0 0] 57)).heap[w.heap.size + 1]? = some (.cells #[.slice none 0 0, .slice none 0 0, .slice none 0 0, .slice none 0 0, .int .i64 0, .int .i64 0, .int .i64 fl, .int .i64 co] 62) := by
    refine (Below.heap_alloc _ _ _ (by simp)).trans ?_
    have := tblk_new (w.alloc (.cells #[.slice a L.length c, .slice ta tl tc] 57)) (.cells #[.slice none 0 0, .slice none 0 0, .slice none 0 0, .slice none 0 0, .int .i64 0, .int .i64 0, .int .i64 fl, .int .i64 co] 62)
    rwa [show (w.alloc (.cells #[.slice a L.length c, .slice ta tl tc] 57)).heap.size = w.heap.size + 1 by simp] at this
  have HCF := hidE hcf
  generalize putR ⟨s, 0, now + co⟩ L = LL at *
  generalize LL.length = ll at *
  generalize L.length = n at *
  generalize markR L s = m at *
  obtain ⟨m1, m2, m3⟩ := m
  have ha : m1 = s := HA.out
  subst ha
  simp only at hf0 hf1 hlt
  have hd : decide (m2 + 1 < fl) = false := decide_eq_false hlt
  clear T0 hL hl HA hcf hlt
  go_enter Try.func25, Try.ntmps25
  go_wp2_with fail
  refine HM.out.mono ?_
  rintro e w3 ⟨rfl, B⟩
  have hcf3 := (B.block _ (Array.getElem?_eq_some_iff.1 HCF.out).1).trans HCF.out
  have g6 : w3.cell? ⟨w.heap.size + 1, 6, none⟩ = some (.int .i64 fl) := tblk_cell hcf3 rfl
  have g7 : w3.cell? ⟨w.heap.size + 1, 7, none⟩ = some (.int .i64 co) := tblk_cell hcf3 rfl
  have glt := (Array.getElem?_eq_some_iff.1 hcf3).1
  have HT3 := hidE (HT.out.keep B)
  have c0 := HT3.out.x.c0
  have c1 := HT3.out.x.c1
  have clt := HT3.out.x.lt
  clear HM HT B hcf3 HCF
  go_wp2_with fail
  have HT4 := hidE (HT3.out.keep ((Below.refl _ _).alloc (Nat.le_refl _) (.cells #[.string m1, .int .i64 0, .int .i64 (now + co)] 99)))
  refine (HP.out _ HT4.out.b).mono ?_
  rintro e w5 ⟨a', c', rfl, O, B⟩
  have T5 := HT4.out.keep B
  have v0 := T5.z.c0
  have v1 := T5.z.c1
  have z0 := T5.z.z 0
  have z1 := T5.z.z 1
  have HF := hidE (HT4.out.fin (v := .slice ta tl tc) B O)
  clear HP HT3 HT4 T5 O B c0 c1 clt g6 g7 glt
  go_wp2
  refine bodyPost_ret (v := .tuple #[.agg #[.slice a' ll c', .slice ta tl tc], .bool true]) (by simp [results, Try.results25, go_sem, v0, v1]) rfl ?_
  exact ⟨a', c', rfl, HF.out⟩
end Go.Proofs.Ytlaigjapnmgjeaa
