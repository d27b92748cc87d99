/- The document's clock: Pass, walked (written by clz.py). -/
import Derived.Test.YtofnnphpogpcdaaClY
namespace Go.Proofs.Ytofnnphpogpcdaa
open Go.ChangeShapes Go.WideShapes Go.ChangeAt Go.RowKit
set_option linter.unusedVariables false

theorem RdR.sl {w : World} {a : Option Addr} {c : Nat} {l : List Pr} (h : RdR 2 encD w a c l) {j : Nat} {p : Pr} (hj : l[j]? = some p) : ∃ g off, a = some ⟨g, off, none⟩ ∧ g < w.heap.size := by
  obtain ⟨g, off, e, hg, _⟩ := h.at hj
  exact ⟨g, off, e, hg⟩
theorem size2 (w : World) (o1 o2 : Obj) : ((w.alloc o1).alloc o2).heap.size = w.heap.size + 2 := by simp
theorem qs_start {w W : World} {T : Int} {v : Value} (x : DB W w.heap.size T v) (y : DB W (w.heap.size + 1) 0 (.slice none 0 0)) (b : Below w.heap.size w W) (s : W.heap.size = w.heap.size + 2) : QS w (w.heap.size + 2) T v ((W.alloc (.cells #[] 3)).alloc (.cells #[] 45)) (.slice (some ⟨W.heap.size, 0, none⟩) 0 0) (.slice (some ⟨W.heap.size + 1, 0, none⟩) 0 0) [] [] := by
  have BA : Below W.heap.size W ((W.alloc (.cells #[] 3)).alloc (.cells #[] 45)) := ((Below.refl _ _).alloc (Nat.le_refl _) _).alloc (by simp) _
  have o1 : OwR 3 1 encI (w.heap.size + 2) (W.alloc (.cells #[] 3)) (.slice (some ⟨W.heap.size, 0, none⟩) 0 0) [] := OwR.empty _ _ _ _ _ (by omega)
  have r1 : OwR 45 2 encD (w.heap.size + 2) ((W.alloc (.cells #[] 3)).alloc (.cells #[] 45)) (.slice (some ⟨(W.alloc (.cells #[] 3)).heap.size, 0, none⟩) 0 0) [] := OwR.empty _ _ _ _ _ (by simp; omega)
  rw [size_new] at r1
  exact ⟨x.keep BA (by omega), y.keep BA (by omega), o1.grow ((Below.refl _ _).alloc (Nat.le_refl _) _), r1, b.trans (BA.mono (by omega)), Nat.le_refl _, by simp; omega⟩
set_option maxRecDepth 100000 in
set_option maxHeartbeats 2000000 in
theorem pass15_lo (now n d s : Int) (L : List Pr) (a : Option Addr) (c : Nat) (w : World) (hL : RdR 2 encD w a c L) (hl : L.length ≤ 900000) (hd : btwN n 0 1099511627776 = d) (hw : IntKind.i64.wrap (now + d) = s) (hs : decide (1099511627776 < s) = false) :
    Calls Try.prog 9 #[.agg #[.int .i64 now, .slice a L.length c], .int .i64 n] w fun e w' => ∃ vr vo, e = .returned (.tuple #[.agg #[.int .i64 s, vr], vo]) ∧ OwR 45 2 encD w.heap.size w' vr (passR s L) ∧ OwR 3 1 encI w.heap.size w' vo (passI s L) ∧ Below w.heap.size w w' := by
  have HF : Hid (∀ W, Below w.heap.size w W → RdR 2 encD W a c L) := fun W b => hL.keep b
  have HBT : Hid (∀ W, Calls Try.prog 18 #[.int .i64 n, .int .i64 0, .int .i64 1099511627776] W fun e w' => e = .returned (.int .i64 d) ∧ w' = W) := fun W => by rw [← hd]; exact btw_any n 0 1099511627776 W
  obtain ⟨m, hm⟩ : ∃ m, m = L.length := ⟨_, rfl⟩
  have HN : Hid (L.length = m) := hm.symm
  rw [← hm] at hl ⊢
  have B0 : Below w.heap.size w ((w.alloc (.cells #[.int .i64 now, .slice a m c] 28)).alloc (.cells #[.int .i64 0, .slice none 0 0] 28)) := ((Below.refl _ _).alloc (Nat.le_refl _) _).alloc (by simp) _
  obtain ⟨n1, n2⟩ := two_new w (.cells #[.int .i64 now, .slice a m c] 28) (.cells #[.int .i64 0, .slice none 0 0] 28)
  have S0 := size2 w (.cells #[.int .i64 now, .slice a m c] 28) (.cells #[.int .i64 0, .slice none 0 0] 28)
  have N1 : DB ((w.alloc (.cells #[.int .i64 now, .slice a m c] 28)).alloc (.cells #[.int .i64 0, .slice none 0 0] 28)) w.heap.size now (.slice a m c) := n1
  have N2 : DB ((w.alloc (.cells #[.int .i64 now, .slice a m c] 28)).alloc (.cells #[.int .i64 0, .slice none 0 0] 28)) (w.heap.size + 1) 0 (.slice none 0 0) := n2
  have HQ : Hid (∀ W0, W0 = ((w.alloc (.cells #[.int .i64 now, .slice a m c] 28)).alloc (.cells #[.int .i64 0, .slice none 0 0] 28)) → QS w (w.heap.size + 2) s (.slice a m c) (((W0.setCell ⟨w.heap.size, 0, none⟩ (.int .i64 s)).alloc (.cells #[] 3)).alloc (.cells #[] 45)) (.slice (some ⟨W0.heap.size, 0, none⟩) 0 0) (.slice (some ⟨W0.heap.size + 1, 0, none⟩) 0 0) [] []) := fun W0 e => by
    subst e
    have q := qs_start (T := s) (v := .slice a m c) (w := w) (W := ((w.alloc (.cells #[.int .i64 now, .slice a m c] 28)).alloc (.cells #[.int .i64 0, .slice none 0 0] 28)).setCell ⟨w.heap.size, 0, none⟩ (.int .i64 s)) (blk_set N1) ((blk_oth (by omega)).trans N2) (B0.setCell (p := ⟨w.heap.size, 0, none⟩) (Nat.le_refl _) _) (by simp [World.setCell])
    simpa [World.setCell] using q
  have HSZ := hidE S0
  have HC : Hid (∀ W0, W0 = ((w.alloc (.cells #[.int .i64 now, .slice a m c] 28)).alloc (.cells #[.int .i64 0, .slice none 0 0] 28)) → W0.heap.size = w.heap.size + 2 ∧ W0.cell? ⟨w.heap.size, 0, none⟩ = some (.int .i64 now) ∧ W0.frozen? ⟨w.heap.size, 0, none⟩ = false) := fun W0 e => by rw [e]; exact ⟨S0, N1.c0, N1.z 0⟩
  clear B0 n1 n2 S0 N1 N2 hL hm hd
  go_enter Try.func9, Try.ntmps9
  go_wp2_with fail
  refine (HBT.out _).mono ?_
  rintro e w1 ⟨rfl, rfl⟩
  obtain ⟨W0, hW0⟩ : ∃ W0, W0 = ((w.alloc (.cells #[.int .i64 now, .slice a m c] 28)).alloc (.cells #[.int .i64 0, .slice none 0 0] 28)) := ⟨_, rfl⟩
  rw [← hW0]
  have Q0 := hidE (HQ.out W0 hW0)
  obtain ⟨sz, c0, z0⟩ := HC.out W0 hW0
  clear HQ HC hW0 HBT HSZ
  have HSZ := hidE sz
  clear sz
  go_wp2_with fail
  clear c0 z0 hw hs
  go_loopw [7, 8, 9] (fun v7 v8 vi wr => ∃ (k : Nat) (a7 a8 : Option Addr) (c7 c8 lo lr : Nat), k ≤ m ∧ vi = .int .i64 k ∧ v7 = .slice a7 lo c7 ∧ v8 = .slice a8 lr c8 ∧ Hid (lo = (passI s (L.take k)).length ∧ lr = (passR s (L.take k)).length) ∧ Hid (QS w (w.heap.size + 2) s (.slice a m c) wr (.slice a7 lo c7) (.slice a8 lr c8) (passI s (L.take k)) (passR s (L.take k)))) (fun _ _ vi _ => m - (intOf vi).toNat)
  case atStart => exact ⟨0, _, _, _, _, 0, 0, Nat.zero_le _, rfl, rfl, rfl, ⟨rfl, rfl⟩, Q0⟩
  case round =>
    clear Q0
    obtain ⟨k, a7, a8, c7, c8, lo, lr, hk, rfl, rfl, rfl, HM, HQ⟩ := hrel
    have x0 := HQ.out.x.c0
    have x1 := HQ.out.x.c1
    by_cases hlt : k < m
    · have hfw := HF.out wr HQ.out.b
      obtain ⟨p, hp⟩ : ∃ p, L[k]? = some p := ⟨L[k]'(by rw [HN.out]; exact hlt), List.getElem?_eq_getElem _⟩
      obtain ⟨g, off, rfl, hg⟩ := hfw.sl hp
      obtain ⟨d0, d1⟩ := hfw.d hp
      have m1 : (0 : Int) ≤ k := by omega
      have m2 : (k : Int) < m := by omega
      have HT := hidE (takeP_snoc hp)
      have HLN : Hid ((passI s (L.take k)).length ≤ 900000 ∧ (passR s (L.take k)).length ≤ 900000) := by
        have := pass_len s (L.take k)
        rw [List.length_take, HN.out] at this
        exact ⟨by omega, by omega⟩
      clear hfw hp hg
      by_cases he : p.2 ≤ s
      · have e0 : decide (p.2 ≤ s) = true := decide_eq_true he
        obtain ⟨e1, e2⟩ := passI_snoc_le (l := L.take k) he
        rw [← HT.out] at e1 e2
        have E1 := hidE e1
        have E2 := hidE e2
        clear e1 e2 he
        obtain ⟨x, y⟩ := p
        simp only at d0 d1 e0
        go_wp2_with fail
        go_quiet (fail)
        obtain ⟨v', w', r', Q', _⟩ := (HQ.out.drewN nq).one x (by have := HLN.out.1; omega)
        obtain ⟨a', c', hv', _, _⟩ := Q'.o.rd EI
        rw [← E1.out] at Q' hv'
        rw [← E2.out] at Q'
        subst hv'
        obtain ⟨lo2, hlo2⟩ : ∃ lo2, lo2 = (passI s (L.take (k + 1))).length := ⟨_, rfl⟩
        have HM2 : Hid (lo2 = (passI s (L.take (k + 1))).length ∧ lr = (passR s (L.take (k + 1))).length) := ⟨hlo2, by rw [HM.out.2, E2.out]⟩
        rw [← hlo2] at r' Q'
        have HQ2 := hidE Q'
        clear HQ HM Q' E1 E2 e0 hlo2
        go_wp2_with (at_builtin; refine wpList_append_run2 rfl _ _ 31 31 rfl _ _ _ w' rfl rfl r' ?_; clear r')
        go_roundw
        case rel => exact ⟨k + 1, _, _, _, _, _, _, by omega, by go_num, rfl, rfl, HM2, HQ2⟩
        case measure => simp [intOf]; omega
      · have e0 : decide (p.2 ≤ s) = false := decide_eq_false he
        obtain ⟨e1, e2⟩ := passI_snoc_gt (l := L.take k) he
        rw [← HT.out] at e1 e2
        have E1 := hidE e1
        have E2 := hidE e2
        clear e1 e2 he
        go_wp2_with fail
        go_quiet (fail)
        obtain ⟨v', w', r', Q', _⟩ := (HQ.out.drewN nq).two p (by have := HLN.out.2; omega)
        obtain ⟨a', c', hv', _, _⟩ := Q'.r.rd ED
        rw [← E2.out] at Q' hv'
        rw [← E1.out] at Q'
        subst hv'
        obtain ⟨lr2, hlr2⟩ : ∃ lr2, lr2 = (passR s (L.take (k + 1))).length := ⟨_, rfl⟩
        have HM2 : Hid (lo = (passI s (L.take (k + 1))).length ∧ lr2 = (passR s (L.take (k + 1))).length) := ⟨by rw [HM.out.1, E1.out], hlr2⟩
        rw [← hlr2] at r' Q'
        have HQ2 := hidE Q'
        clear HQ HM Q' E1 E2 e0 hlr2
        obtain ⟨x, y⟩ := p
        simp only at d0 d1 r'
        go_wp2_with (at_builtin; refine wpList_append_run2 rfl _ _ 26 26 rfl _ _ _ w' rfl rfl r' ?_; clear r')
        go_roundw
        case rel => exact ⟨k + 1, _, _, _, _, _, _, by omega, by go_num, rfl, rfl, HM2, HQ2⟩
        case measure => simp [intOf]; omega
    · obtain rfl : k = m := by omega
      have HE : Hid (L.take k = L) := by rw [Hid, ← HN.out]; exact List.take_length
      have hq := HQ.out
      rw [HE.out] at hq
      have FN := hidE hq.fin
      have z1 := hq.x.z 1
      have d0 := hq.y.c0
      have d1 := hq.y.c1
      have y0 := hq.y.z 0
      have y1 := hq.y.z 1
      clear hq HQ HM hlt
      go_wp2
      refine bodyPost_ret (v := .tuple #[.agg #[.int .i64 s, .slice a8 lr c8], .slice a7 lo c7]) (by simp [results, Try.results9, go_sem, d0, d1]) rfl ?_
      exact ⟨_, _, rfl, FN.out.2.1, FN.out.1, FN.out.2.2⟩
set_option maxRecDepth 100000 in
set_option maxHeartbeats 2000000 in
theorem pass15_hi (now n d s : Int) (L : List Pr) (a : Option Addr) (c : Nat) (w : World) (hL : RdR 2 encD w a c L) (hl : L.length ≤ 900000) (hd : btwN n 0 1099511627776 = d) (hw : IntKind.i64.wrap (now + d) = s) (hs : decide (1099511627776 < s) = true) :
    Calls Try.prog 9 #[.agg #[.int .i64 now, .slice a L.length c], .int .i64 n] w fun e w' => ∃ vr vo, e = .returned (.tuple #[.agg #[.int .i64 1099511627776, vr], vo]) ∧ OwR 45 2 encD w.heap.size w' vr (passR 1099511627776 L) ∧ OwR 3 1 encI w.heap.size w' vo (passI 1099511627776 L) ∧ Below w.heap.size w w' := by
  have HF : Hid (∀ W, Below w.heap.size w W → RdR 2 encD W a c L) := fun W b => hL.keep b
  have HBT : Hid (∀ W, Calls Try.prog 18 #[.int .i64 n, .int .i64 0, .int .i64 1099511627776] W fun e w' => e = .returned (.int .i64 d) ∧ w' = W) := fun W => by rw [← hd]; exact btw_any n 0 1099511627776 W
  obtain ⟨m, hm⟩ : ∃ m, m = L.length := ⟨_, rfl⟩
  have HN : Hid (L.length = m) := hm.symm
  rw [← hm] at hl ⊢
  have B0 : Below w.heap.size w ((w.alloc (.cells #[.int .i64 now, .slice a m c] 28)).alloc (.cells #[.int .i64 0, .slice none 0 0] 28)) := ((Below.refl _ _).alloc (Nat.le_refl _) _).alloc (by simp) _
  obtain ⟨n1, n2⟩ := two_new w (.cells #[.int .i64 now, .slice a m c] 28) (.cells #[.int .i64 0, .slice none 0 0] 28)
  have S0 := size2 w (.cells #[.int .i64 now, .slice a m c] 28) (.cells #[.int .i64 0, .slice none 0 0] 28)
  have N1 : DB ((w.alloc (.cells #[.int .i64 now, .slice a m c] 28)).alloc (.cells #[.int .i64 0, .slice none 0 0] 28)) w.heap.size now (.slice a m c) := n1
  have N2 : DB ((w.alloc (.cells #[.int .i64 now, .slice a m c] 28)).alloc (.cells #[.int .i64 0, .slice none 0 0] 28)) (w.heap.size + 1) 0 (.slice none 0 0) := n2
  have HQ : Hid (∀ W0, W0 = ((w.alloc (.cells #[.int .i64 now, .slice a m c] 28)).alloc (.cells #[.int .i64 0, .slice none 0 0] 28)) → QS w (w.heap.size + 2) 1099511627776 (.slice a m c) ((((W0.setCell ⟨w.heap.size, 0, none⟩ (.int .i64 s)).setCell ⟨w.heap.size, 0, none⟩ (.int .i64 1099511627776)).alloc (.cells #[] 3)).alloc (.cells #[] 45)) (.slice (some ⟨W0.heap.size, 0, none⟩) 0 0) (.slice (some ⟨W0.heap.size + 1, 0, none⟩) 0 0) [] []) := fun W0 e => by
    subst e
    have q := qs_start (T := 1099511627776) (v := .slice a m c) (w := w) (W := (((w.alloc (.cells #[.int .i64 now, .slice a m c] 28)).alloc (.cells #[.int .i64 0, .slice none 0 0] 28)).setCell ⟨w.heap.size, 0, none⟩ (.int .i64 s)).setCell ⟨w.heap.size, 0, none⟩ (.int .i64 1099511627776)) (blk_set (blk_set N1)) ((blk_oth (w := ((w.alloc (.cells #[.int .i64 now, .slice a m c] 28)).alloc (.cells #[.int .i64 0, .slice none 0 0] 28)).setCell ⟨w.heap.size, 0, none⟩ (.int .i64 s)) (by omega)).trans ((blk_oth (by omega)).trans N2)) ((B0.setCell (p := ⟨w.heap.size, 0, none⟩) (Nat.le_refl _) _).setCell (p := ⟨w.heap.size, 0, none⟩) (Nat.le_refl _) _) (by simp [World.setCell])
    simpa [World.setCell] using q
  have HSZ := hidE S0
  have HC : Hid (∀ W0, W0 = ((w.alloc (.cells #[.int .i64 now, .slice a m c] 28)).alloc (.cells #[.int .i64 0, .slice none 0 0] 28)) → W0.heap.size = w.heap.size + 2 ∧ W0.cell? ⟨w.heap.size, 0, none⟩ = some (.int .i64 now) ∧ W0.frozen? ⟨w.heap.size, 0, none⟩ = false) := fun W0 e => by rw [e]; exact ⟨S0, N1.c0, N1.z 0⟩
  clear B0 n1 n2 S0 N1 N2 hL hm hd
  go_enter Try.func9, Try.ntmps9
  go_wp2_with fail
  refine (HBT.out _).mono ?_
  rintro e w1 ⟨rfl, rfl⟩
  obtain ⟨W0, hW0⟩ : ∃ W0, W0 = ((w.alloc (.cells #[.int .i64 now, .slice a m c] 28)).alloc (.cells #[.int .i64 0, .slice none 0 0] 28)) := ⟨_, rfl⟩
  rw [← hW0]
  have Q0 := hidE (HQ.out W0 hW0)
  obtain ⟨sz, c0, z0⟩ := HC.out W0 hW0
  clear HQ HC hW0 HBT HSZ
  have HSZ := hidE sz
  clear sz
  go_wp2_with fail
  clear c0 z0 hw hs
  go_loopw [7, 8, 9] (fun v7 v8 vi wr => ∃ (k : Nat) (a7 a8 : Option Addr) (c7 c8 lo lr : Nat), k ≤ m ∧ vi = .int .i64 k ∧ v7 = .slice a7 lo c7 ∧ v8 = .slice a8 lr c8 ∧ Hid (lo = (passI 1099511627776 (L.take k)).length ∧ lr = (passR 1099511627776 (L.take k)).length) ∧ Hid (QS w (w.heap.size + 2) 1099511627776 (.slice a m c) wr (.slice a7 lo c7) (.slice a8 lr c8) (passI 1099511627776 (L.take k)) (passR 1099511627776 (L.take k)))) (fun _ _ vi _ => m - (intOf vi).toNat)
  case atStart => exact ⟨0, _, _, _, _, 0, 0, Nat.zero_le _, rfl, rfl, rfl, ⟨rfl, rfl⟩, Q0⟩
  case round =>
    clear Q0
    obtain ⟨k, a7, a8, c7, c8, lo, lr, hk, rfl, rfl, rfl, HM, HQ⟩ := hrel
    have x0 := HQ.out.x.c0
    have x1 := HQ.out.x.c1
    by_cases hlt : k < m
    · have hfw := HF.out wr HQ.out.b
      obtain ⟨p, hp⟩ : ∃ p, L[k]? = some p := ⟨L[k]'(by rw [HN.out]; exact hlt), List.getElem?_eq_getElem _⟩
      obtain ⟨g, off, rfl, hg⟩ := hfw.sl hp
      obtain ⟨d0, d1⟩ := hfw.d hp
      have m1 : (0 : Int) ≤ k := by omega
      have m2 : (k : Int) < m := by omega
      have HT := hidE (takeP_snoc hp)
      have HLN : Hid ((passI 1099511627776 (L.take k)).length ≤ 900000 ∧ (passR 1099511627776 (L.take k)).length ≤ 900000) := by
        have := pass_len 1099511627776 (L.take k)
        rw [List.length_take, HN.out] at this
        exact ⟨by omega, by omega⟩
      clear hfw hp hg
      by_cases he : p.2 ≤ 1099511627776
      · have e0 : decide (p.2 ≤ 1099511627776) = true := decide_eq_true he
        obtain ⟨e1, e2⟩ := passI_snoc_le (l := L.take k) he
        rw [← HT.out] at e1 e2
        have E1 := hidE e1
        have E2 := hidE e2
        clear e1 e2 he
        obtain ⟨x, y⟩ := p
        simp only at d0 d1 e0
        go_wp2_with fail
        go_quiet (fail)
        obtain ⟨v', w', r', Q', _⟩ := (HQ.out.drewN nq).one x (by have := HLN.out.1; omega)
        obtain ⟨a', c', hv', _, _⟩ := Q'.o.rd EI
        rw [← E1.out] at Q' hv'
        rw [← E2.out] at Q'
        subst hv'
        obtain ⟨lo2, hlo2⟩ : ∃ lo2, lo2 = (passI 1099511627776 (L.take (k + 1))).length := ⟨_, rfl⟩
        have HM2 : Hid (lo2 = (passI 1099511627776 (L.take (k + 1))).length ∧ lr = (passR 1099511627776 (L.take (k + 1))).length) := ⟨hlo2, by rw [HM.out.2, E2.out]⟩
        rw [← hlo2] at r' Q'
        have HQ2 := hidE Q'
        clear HQ HM Q' E1 E2 e0 hlo2
        go_wp2_with (at_builtin; refine wpList_append_run2 rfl _ _ 31 31 rfl _ _ _ w' rfl rfl r' ?_; clear r')
        go_roundw
        case rel => exact ⟨k + 1, _, _, _, _, _, _, by omega, by go_num, rfl, rfl, HM2, HQ2⟩
        case measure => simp [intOf]; omega
      · have e0 : decide (p.2 ≤ 1099511627776) = false := decide_eq_false he
        obtain ⟨e1, e2⟩ := passI_snoc_gt (l := L.take k) he
        rw [← HT.out] at e1 e2
        have E1 := hidE e1
        have E2 := hidE e2
        clear e1 e2 he
        go_wp2_with fail
        go_quiet (fail)
        obtain ⟨v', w', r', Q', _⟩ := (HQ.out.drewN nq).two p (by have := HLN.out.2; omega)
        obtain ⟨a', c', hv', _, _⟩ := Q'.r.rd ED
        rw [← E2.out] at Q' hv'
        rw [← E1.out] at Q'
        subst hv'
        obtain ⟨lr2, hlr2⟩ : ∃ lr2, lr2 = (passR 1099511627776 (L.take (k + 1))).length := ⟨_, rfl⟩
        have HM2 : Hid (lo = (passI 1099511627776 (L.take (k + 1))).length ∧ lr2 = (passR 1099511627776 (L.take (k + 1))).length) := ⟨by rw [HM.out.1, E1.out], hlr2⟩
        rw [← hlr2] at r' Q'
        have HQ2 := hidE Q'
        clear HQ HM Q' E1 E2 e0 hlr2
        obtain ⟨x, y⟩ := p
        simp only at d0 d1 r'
        go_wp2_with (at_builtin; refine wpList_append_run2 rfl _ _ 26 26 rfl _ _ _ w' rfl rfl r' ?_; clear r')
        go_roundw
        case rel => exact ⟨k + 1, _, _, _, _, _, _, by omega, by go_num, rfl, rfl, HM2, HQ2⟩
        case measure => simp [intOf]; omega
    · obtain rfl : k = m := by omega
      have HE : Hid (L.take k = L) := by rw [Hid, ← HN.out]; exact List.take_length
      have hq := HQ.out
      rw [HE.out] at hq
      have FN := hidE hq.fin
      have z1 := hq.x.z 1
      have d0 := hq.y.c0
      have d1 := hq.y.c1
      have y0 := hq.y.z 0
      have y1 := hq.y.z 1
      clear hq HQ HM hlt
      go_wp2
      refine bodyPost_ret (v := .tuple #[.agg #[.int .i64 1099511627776, .slice a8 lr c8], .slice a7 lo c7]) (by simp [results, Try.results9, go_sem, d0, d1]) rfl ?_
      exact ⟨_, _, rfl, FN.out.2.1, FN.out.1, FN.out.2.2⟩
end Go.Proofs.Ytofnnphpogpcdaa
