/- The document's pool: Joined, Rest. -/
import Derived.Test.YtlaigjapnmgjeaaQc
namespace Go.Proofs.Ytlaigjapnmgjeaa
open Go.RowKit
set_option linter.unusedVariables false

theorem TP.fin2 {w : World} {rb C : Nat} {m l r m' l' r' : Int} {v u : Value} {wr : World} {o : List Hn} (T : TP w rb m l r v wr) (O : OwR 81 4 encH C wr u o) (hC : rb < C) :
    OwR 81 4 encH w.heap.size ((((wr.setCell ⟨rb, 0, none⟩ (.int .i64 m')).setCell ⟨rb, 1, none⟩ (.int .i64 l')).setCell ⟨rb, 2, none⟩ (.int .i64 r')).setCell ⟨rb, 3, none⟩ u) u o ∧ Below w.heap.size w ((((wr.setCell ⟨rb, 0, none⟩ (.int .i64 m')).setCell ⟨rb, 1, none⟩ (.int .i64 l')).setCell ⟨rb, 2, none⟩ (.int .i64 r')).setCell ⟨rb, 3, none⟩ u) := by
  have hr := T.r
  exact ⟨(owh_set (owh_set (owh_set (owh_set O hC) hC) hC) hC).mono (by omega), (((T.b.setCell (p := ⟨rb, 0, none⟩) (Nat.le_of_lt hr) _).setCell (p := ⟨rb, 1, none⟩) (Nat.le_of_lt hr) _).setCell (p := ⟨rb, 2, none⟩) (Nat.le_of_lt hr) _).setCell (p := ⟨rb, 3, none⟩) (Nat.le_of_lt hr) _⟩
set_option maxRecDepth 100000 in
set_option maxHeartbeats 1000000 in
theorem rjoined_no (q : HF) (L : List Hn) (K : RQH q L) (a : Option Addr) (c : Nat) (m l r h : Int) (w : World) (hL : RdR 4 encH w a c L) (hl : L.length ≤ 1000000) (hq : (lookH (q h)).2 ≠ 1) :
    Calls Try.prog 10 #[.agg #[.int .i64 m, .int .i64 l, .int .i64 r, .slice a L.length c], .int .i64 h] w fun e w' => e = .returned (.tuple #[.agg #[.int .i64 m, .int .i64 l, .int .i64 r, .slice a L.length c], .bool false]) ∧ Below w.heap.size w w' := by
  have T0 := tp_two w m l r (.slice a L.length c)
  have HFD := hidE (rfind_any L a c m l r h _ (hL.keep T0.b) hl)
  have HF : Hid (∀ W, Below w.heap.size w W → RdR 4 encH W a c L) := fun W b => hL.keep b
  have HK := hidE K
  have HQ := hidE hq
  have HT := hidE T0
  obtain ⟨n, hn⟩ : ∃ n, n = L.length := ⟨_, rfl⟩
  have HNN : Hid (L.length = n) := hn.symm
  rw [← hn] at hl HFD HT ⊢
  clear T0 hL K hq hn
  go_enter Try.func10, Try.ntmps10
  go_wp2_with fail
  obtain ⟨w2, hw2⟩ : ∃ w2, w2 = (w.alloc (.cells #[.int .i64 m, .int .i64 l, .int .i64 r, .slice a n c] 28)).alloc (.cells #[.int .i64 0, .int .i64 0, .int .i64 0, .slice none 0 0] 28) := ⟨_, rfl⟩
  have S2 : w2.heap.size = w.heap.size + 1 + 1 := by rw [hw2]; simp
  have hfd := HFD.out
  have ht := HT.out
  rw [← hw2] at hfd ht ⊢
  have HFD2 := hidE hfd
  clear hw2 HFD hfd HT
  refine HFD2.out.mono ?_
  rintro e w3 ⟨⟨f, rfl, hf⟩, B⟩
  rw [S2] at B
  have T3 := ht.keep B
  have c3 := T3.x.c3
  have c0 := T3.x.c0
  have c1 := T3.x.c1
  have c2 := T3.x.c2
  have y0 := T3.y.c0
  have y1 := T3.y.c1
  have y2 := T3.y.c2
  have y3 := T3.y.c3
  have z0 := T3.y.z 0
  have z1 := T3.y.z 1
  have z2 := T3.y.z 2
  have z3 := T3.y.z 3
  have HB := hidE T3.b
  have HBE : Hid (Below w.heap.size w ((((w3.setCell ⟨w.heap.size + 1, 0, none⟩ (.int .i64 m)).setCell ⟨w.heap.size + 1, 1, none⟩ (.int .i64 l)).setCell ⟨w.heap.size + 1, 2, none⟩ (.int .i64 r)).setCell ⟨w.heap.size + 1, 3, none⟩ (.slice a n c))) := (((T3.b.setCell (p := ⟨w.heap.size + 1, 0, none⟩) (Nat.le_succ _) _).setCell (p := ⟨w.heap.size + 1, 1, none⟩) (Nat.le_succ _) _).setCell (p := ⟨w.heap.size + 1, 2, none⟩) (Nat.le_succ _) _).setCell (p := ⟨w.heap.size + 1, 3, none⟩) (Nat.le_succ _) _
  rcases hf with ⟨rfl, hno⟩ | ⟨i, x, rfl, hx, he⟩
  · clear HF HK HQ HNN B T3 HFD2 S2 ht hno HB
    go_wp2
    refine bodyPost_ret (v := .tuple #[.agg #[.int .i64 m, .int .i64 l, .int .i64 r, .slice a n c], .bool false]) (by simp [results, Try.results10, go_sem, y0, y1, y2, y3]) rfl ?_
    exact ⟨rfl, HBE.out⟩
  · have hxm := HK.out.a x (List.mem_of_getElem? hx)
    rw [he] at hxm
    have hs : x.st ≠ 1 := by have := HQ.out; rw [hxm] at this; exact this
    obtain ⟨g, off, rfl, hg, hc⟩ := (HF.out w3 HB.out).at hx
    obtain ⟨_, d1, _, _⟩ := (HF.out w3 HB.out).h4 hx
    have e0 : (x.st == 1) = false := by simp [hs]
    have e1 : (x.st != 1) = true := by simp [hs]
    have hi : i < n := by rw [← HNN.out]; exact (List.getElem?_eq_some_iff.1 hx).1
    have m0 : decide ((i : Int) < 0) = false := decide_eq_false (by omega)
    have m1 : (0 : Int) ≤ i := by omega
    have m2 : (i : Int) < n := by omega
    obtain ⟨u1, u2, u3, u4⟩ := x
    simp only at d1 e0 e1
    clear HF HK HQ HNN B T3 HFD2 S2 ht HB hx he hxm hs hg hc
    go_wp2
    refine bodyPost_ret (v := .tuple #[.agg #[.int .i64 m, .int .i64 l, .int .i64 r, .slice (some ⟨g, off, none⟩) n c], .bool false]) (by simp [results, Try.results10, go_sem, y0, y1, y2, y3]) rfl ?_
    exact ⟨rfl, HBE.out⟩
set_option maxRecDepth 100000 in
set_option maxHeartbeats 1000000 in
theorem rjoined_yes (q : HF) (L : List Hn) (K : RQH q L) (a : Option Addr) (c : Nat) (m l r h : Int) (s : KS) (w : World) (hL : RdR 4 encH w a c L) (hl : L.length ≤ 1000000) (hq : q h = some (s, 1)) :
    Calls Try.prog 10 #[.agg #[.int .i64 m, .int .i64 l, .int .i64 r, .slice a L.length c], .int .i64 h] w fun e w' => ∃ a' c' si, e = .returned (.tuple #[.agg #[.int .i64 m, .int .i64 l, .int .i64 r, .slice a' (withL ⟨h, 2, si, s⟩ L).length c'], .bool true]) ∧ (∃ x ∈ L, x.h = h ∧ x.si = si) ∧ OwR 81 4 encH w.heap.size w' (.slice a' (withL ⟨h, 2, si, s⟩ L).length c') (withL ⟨h, 2, si, s⟩ L) ∧ Below w.heap.size w w' := by
  have T0 := tp_two w m l r (.slice a L.length c)
  have HFD := hidE (rfind_any L a c m l r h _ (hL.keep T0.b) hl)
  have HF : Hid (∀ W, Below w.heap.size w W → RdR 4 encH W a c L) := fun W b => hL.keep b
  have HW := hidE (fun W (b : Below w.heap.size w W) x3 => rwith_any L h 2 x3 s a c m l r W (hL.keep b) hl)
  have HK := hidE K
  have HQ := hidE hq
  have HT := hidE T0
  obtain ⟨n, hn⟩ : ∃ n, n = L.length := ⟨_, rfl⟩
  have HNN : Hid (L.length = n) := hn.symm
  rw [← hn] at hl HFD HT HW ⊢
  clear T0 hL K hq hn
  go_enter Try.func10, Try.ntmps10
  go_wp2_with fail
  obtain ⟨w2, hw2⟩ : ∃ w2, w2 = (w.alloc (.cells #[.int .i64 m, .int .i64 l, .int .i64 r, .slice a n c] 28)).alloc (.cells #[.int .i64 0, .int .i64 0, .int .i64 0, .slice none 0 0] 28) := ⟨_, rfl⟩
  have S2 : w2.heap.size = w.heap.size + 1 + 1 := by rw [hw2]; simp
  have hfd := HFD.out
  have ht := HT.out
  rw [← hw2] at hfd ht ⊢
  have HFD2 := hidE hfd
  clear hw2 HFD hfd HT
  refine HFD2.out.mono ?_
  rintro e w3 ⟨⟨f, rfl, hf⟩, B⟩
  rw [S2] at B
  have T3 := ht.keep B
  have HB := hidE T3.b
  rcases hf with ⟨rfl, hno⟩ | ⟨i, x, rfl, hx, he⟩
  · have := HK.out.none hno
    rw [HQ.out] at this
    cases this
  · have hxm := HK.out.a x (List.mem_of_getElem? hx)
    rw [he, HQ.out] at hxm
    injection hxm with hxm
    obtain ⟨hs, hst⟩ := Prod.mk.inj hxm
    obtain ⟨g, off, rfl, hg, hc⟩ := (HF.out w3 HB.out).at hx
    obtain ⟨d0, d1, d2, d3⟩ := (HF.out w3 HB.out).h4 hx
    have HSI : Hid (∃ y ∈ L, y.h = h ∧ y.si = x.si) := ⟨x, List.mem_of_getElem? hx, he, rfl⟩
    rw [he] at d0
    rw [← hst] at d1
    rw [← hs] at d3
    have hi : i < n := by rw [← HNN.out]; exact (List.getElem?_eq_some_iff.1 hx).1
    have m0 : decide ((i : Int) < 0) = false := decide_eq_false (by omega)
    have m1 : (0 : Int) ≤ i := by omega
    have m2 : (i : Int) < n := by omega
    have c3 := T3.x.c3
    have c0 := T3.x.c0
    have c1 := T3.x.c1
    have c2 := T3.x.c2
    have HT3 := hidE T3
    have lt3 := T3.x.lt
    clear HF HK HQ HNN B T3 HFD2 S2 ht hx he hxm hs hst hg hc
    generalize x.si = si at *
    go_wp2_with fail
    have BA : Below w3.heap.size w3 (w3.alloc (.cells #[.int .i64 h, .int .i64 2, .int .i64 si, .string s] 81)) := (Below.refl _ _).alloc (Nat.le_refl _) _
    have ly := HT3.out.y.lt
    refine (HW.out _ (HB.out.trans (BA.mono HB.out.size)) si).mono ?_
    rintro e w5 ⟨a', c', rfl, O, B5⟩
    have B35 := BA.trans (B5.mono BA.size)
    have T5 := HT3.out.keep (B35.mono (by omega))
    obtain ⟨f1, f2⟩ := T5.fin2 (m' := m) (l' := l) (r' := r) O (by have := BA.size; omega)
    have HF1 := hidE f1
    have HF2 := hidE f2
    have y0 := T5.y.c0
    have y1 := T5.y.c1
    have y2 := T5.y.c2
    have y3 := T5.y.c3
    have z0 := T5.y.z 0
    have z1 := T5.y.z 1
    have z2 := T5.y.z 2
    have z3 := T5.y.z 3
    clear HW HB HT3 O B5 B35 T5 f1 f2 BA ly lt3 d0 d1 d2 d3 c0 c1 c2 c3
    go_wp2
    refine bodyPost_ret (v := .tuple #[.agg #[.int .i64 m, .int .i64 l, .int .i64 r, .slice a' (withL ⟨h, 2, si, s⟩ L).length c'], .bool true]) (by simp [results, Try.results10, go_sem, y0, y1, y2, y3]) rfl ?_
    exact ⟨a', c', si, rfl, HSI.out, HF1.out, HF2.out⟩
end Go.Proofs.Ytlaigjapnmgjeaa
