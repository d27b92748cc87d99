/- The document's pool: Shut. -/
import Derived.Test.YtlaigjapnmgjeaaQa
namespace Go.Proofs.Ytlaigjapnmgjeaa
open Go.RowKit
set_option linter.unusedVariables false

def offH (h : Int) (L : List Hn) : List Hn := L.filter fun x => !(x.h == h)
theorem offH_ne {h : Int} {L : List Hn} {x : Hn} (e : x.h ≠ h) : offH h (L ++ [x]) = offH h L ++ [x] := by unfold offH; rw [List.filter_append, List.filter_cons, if_pos (by simpa using e)]; rfl
theorem offH_eq {h : Int} {L : List Hn} {x : Hn} (e : x.h = h) : offH h (L ++ [x]) = offH h L := by unfold offH; rw [List.filter_append, List.filter_cons, if_neg (by simpa using e)]; simp
theorem takeH {L : List Hn} {k : Nat} {p : Hn} (h : L[k]? = some p) : L.take (k + 1) = L.take k ++ [p] := by rw [List.take_add_one, h]; rfl
theorem offH_len (h : Int) (L : List Hn) : (offH h L).length ≤ L.length := List.length_filter_le _ _
/-- The pool's block and the answer's. -/
structure TP (w : World) (rb : Nat) (m l r : Int) (v : Value) (wr : World) : Prop where
  x : PBk wr w.heap.size m l r v
  y : PBk wr rb 0 0 0 (.slice none 0 0)
  b : Below w.heap.size w wr
  r : w.heap.size < rb
theorem TP.keep {w : World} {rb : Nat} {m l r : Int} {v : Value} {wr w' : World} (h : TP w rb m l r v wr) (k : Below (rb + 1) wr w') : TP w rb m l r v w' := ⟨h.x.keep k (by have := h.r; omega), h.y.keep k (by omega), h.b.trans (k.mono (by have := h.r; omega)), h.r⟩
theorem owh_set {B : Nat} {w : World} {v : Value} {l : List Hn} {b o : Nat} {x : Value} (h : OwR 81 4 encH B w v l) (hb : b < B) : OwR 81 4 encH B (w.setCell ⟨b, o, none⟩ x) v l := h.move fun g _ hB _ _ => Below.heap_setCell w ⟨b, o, none⟩ x g (show g ≠ b by omega)
theorem TP.fin {w : World} {rb : Nat} {m l r : Int} {v u : Value} {wr : World} {o : List Hn} (T : TP w rb m l r v wr) (O : OwR 81 4 encH (rb + 1) wr u o) :
    OwR 81 4 encH w.heap.size (((((wr.setCell ⟨w.heap.size, 3, none⟩ u).setCell ⟨rb, 0, none⟩ (.int .i64 m)).setCell ⟨rb, 1, none⟩ (.int .i64 l)).setCell ⟨rb, 2, none⟩ (.int .i64 r)).setCell ⟨rb, 3, none⟩ u) u o ∧ Below w.heap.size w (((((wr.setCell ⟨w.heap.size, 3, none⟩ u).setCell ⟨rb, 0, none⟩ (.int .i64 m)).setCell ⟨rb, 1, none⟩ (.int .i64 l)).setCell ⟨rb, 2, none⟩ (.int .i64 r)).setCell ⟨rb, 3, none⟩ u) := by
  have hr := T.r
  exact ⟨(owh_set (owh_set (owh_set (owh_set (owh_set O (by omega)) (by omega)) (by omega)) (by omega)) (by omega)).mono (by omega), ((((T.b.setCell (p := ⟨w.heap.size, 3, none⟩) (Nat.le_refl _) _).setCell (p := ⟨rb, 0, none⟩) (Nat.le_of_lt hr) _).setCell (p := ⟨rb, 1, none⟩) (Nat.le_of_lt hr) _).setCell (p := ⟨rb, 2, none⟩) (Nat.le_of_lt hr) _).setCell (p := ⟨rb, 3, none⟩) (Nat.le_of_lt hr) _⟩
theorem owh_app {w : World} {rb l c6 : Nat} {m k r : Int} {v : Value} {a6 : Option Addr} {o : List Hn} {wr : World} (HO : OwR 81 4 encH (rb + 1) wr (.slice a6 l c6) o) (hl : l = o.length) (HT : TP w rb m k r v wr) (p : Hn) (ho : o.length ≤ 1000001) :
    ∃ a7 c7 w7, (Builtin.append_ #[26, 26] 26 #[.slice a6 l c6, .slice (some ⟨wr.heap.size, 0, none⟩) 1 1]).run Try.prog (wr.alloc (.cells #[.int .i64 p.h, .int .i64 p.st, .int .i64 p.si, .string p.a] 81)) = .ok (.slice a7 (l + 1) c7) w7 ∧ OwR 81 4 encH (rb + 1) w7 (.slice a7 (l + 1) c7) (o ++ [p]) ∧ Below (rb + 1) wr w7 ∧ TP w rb m k r v w7 := by
  obtain ⟨v7, w7, r7, O7, B7, _⟩ := owr_append EH Try.underlying26 infoH rfl (by decide) HO HT.y.lt p (by omega)
  obtain ⟨a7, c7, rfl, _, _⟩ := O7.rd EH
  have hlen : (o ++ [p]).length = l + 1 := by rw [List.length_append, hl]; rfl
  rw [hlen] at r7 O7
  exact ⟨a7, c7, w7, r7, O7, B7, HT.keep B7⟩
theorem tp_two (w : World) (m l r : Int) (v : Value) : TP w (w.heap.size + 1) m l r v ((w.alloc (.cells #[.int .i64 m, .int .i64 l, .int .i64 r, v] 28)).alloc (.cells #[.int .i64 0, .int .i64 0, .int .i64 0, .slice none 0 0] 28)) := by
  refine ⟨(Below.heap_alloc _ _ _ (by simp)).trans (tblk_new _ _), ?_, ((Below.refl _ _).alloc (Nat.le_refl _) _).alloc (by simp) _, Nat.lt_succ_self _⟩
  have := tblk_new (w.alloc (.cells #[.int .i64 m, .int .i64 l, .int .i64 r, v] 28)) (.cells #[.int .i64 0, .int .i64 0, .int .i64 0, .slice none 0 0] 28)
  rwa [show (w.alloc (.cells #[.int .i64 m, .int .i64 l, .int .i64 r, v] 28)).heap.size = w.heap.size + 1 by simp] at this
set_option maxRecDepth 100000 in
set_option maxHeartbeats 1000000 in
theorem rshut_any (L : List Hn) (a : Option Addr) (c : Nat) (m l r h : Int) (w : World) (hL : RdR 4 encH w a c L) (hl : L.length ≤ 1000000) :
    Calls Try.prog 14 #[.agg #[.int .i64 m, .int .i64 l, .int .i64 r, .slice a L.length c], .int .i64 h] w fun e w' => ∃ a' c', e = .returned (.tuple #[.agg #[.int .i64 m, .int .i64 l, .int .i64 r, .slice a' (offH h L).length c'], .bool (decide ((offH h L).length < L.length))]) ∧ OwR 81 4 encH w.heap.size w' (.slice a' (offH h L).length c') (offH h L) ∧ Below w.heap.size w w' := by
  have HF : Hid (∀ W, Below w.heap.size w W → RdR 4 encH W a c L) := fun W b => hL.keep b
  obtain ⟨n, hn⟩ : ∃ n, n = L.length := ⟨_, rfl⟩
  have HNN : Hid (L.length = n) := hn.symm
  rw [← hn] at hl ⊢
  have HT0 := hidE (tp_two w m l r (.slice a n c))
  obtain ⟨o, ho⟩ : ∃ o, o = (offH h L).length := ⟨_, rfl⟩
  have HOO := hidE ho
  rw [← ho]
  obtain ⟨bb, hbb⟩ : ∃ bb, bb = decide (o < n) := ⟨_, rfl⟩
  have HBB := hidE hbb
  rw [← hbb]
  clear hn hL ho hbb
  go_enter Try.func14, Try.ntmps14
  go_wp2_with fail
  obtain ⟨w2, hw2⟩ : ∃ w2, w2 = (w.alloc (.cells #[.int .i64 m, .int .i64 l, .int .i64 r, .slice a n c] 28)).alloc (.cells #[.int .i64 0, .int .i64 0, .int .i64 0, .slice none 0 0] 28) := ⟨_, rfl⟩
  have S2 : w2.heap.size = w.heap.size + 1 + 1 := by rw [hw2]; simp
  rw [← hw2] at HT0 ⊢
  have HO0 : Hid (OwR 81 4 encH (w.heap.size + 1 + 1) (w2.alloc (.cells #[] 81)) (.slice (some ⟨w.heap.size + 1 + 1, 0, none⟩) 0 0) []) := by rw [← S2]; exact OwR.empty _ _ _ _ _ (Nat.le_refl _)
  have HT1 := hidE (HT0.out.keep ((Below.refl _ _).alloc (Nat.le_of_eq S2.symm) (.cells #[] 81)))
  clear hw2 HT0 S2
  go_loopw [6, 7] (fun v6 vi wr => ∃ (k : Nat) (a6 : Option Addr) (c6 q : Nat), k ≤ n ∧ vi = .int .i64 k ∧ v6 = .slice a6 q c6 ∧ Hid (q = (offH h (L.take k)).length) ∧ Hid (OwR 81 4 encH (w.heap.size + 1 + 1) wr (.slice a6 q c6) (offH h (L.take k))) ∧ Hid (TP w (w.heap.size + 1) m l r (.slice a n c) wr)) (fun _ vi _ => n - (intOf vi).toNat)
  case atStart => exact ⟨0, _, _, 0, Nat.zero_le _, rfl, rfl, rfl, HO0, HT1⟩
  case round =>
    clear HO0 HT1
    obtain ⟨k, a6, c6, q, hk, rfl, rfl, HQ, HO, HT⟩ := hrel
    have c3 := HT.out.x.c3
    by_cases hlt : k < n
    · have hfw := HF.out wr HT.out.b
      obtain ⟨p, hp⟩ : ∃ p, L[k]? = some p := ⟨L[k]'(by rw [HNN.out]; exact hlt), List.getElem?_eq_getElem _⟩
      obtain ⟨g, off, rfl, hg, hc⟩ := hfw.at hp
      obtain ⟨d0, d1, d2, d3⟩ := hfw.h4 hp
      have m1 : (0 : Int) ≤ k := by omega
      have m2 : (k : Int) < n := by omega
      have HTK := hidE (takeH hp)
      by_cases he : p.h = h
      · have e0 : (p.h == h) = true := by simp [he]
        have e1 : (p.h != h) = false := by simp [he]
        have HO2 : Hid (OwR 81 4 encH (w.heap.size + 1 + 1) wr (.slice a6 q c6) (offH h (L.take (k + 1)))) := by rw [Hid, HTK.out, offH_eq he]; exact HO.out
        have HQ2 : Hid (q = (offH h (L.take (k + 1))).length) := by rw [Hid, HTK.out, offH_eq he]; exact HQ.out
        clear hfw hp hg hc HTK he HO HQ
        obtain ⟨x1, x2, x3, x4⟩ := p
        simp only at d0 d1 d2 d3 e0 e1
        go_wp2
        go_roundw
        case rel => exact ⟨k + 1, _, _, q, by omega, by go_num, rfl, HQ2, HO2, HT⟩
        case measure => simp [intOf]; omega
      · have e0 : (p.h == h) = false := by simp [he]
        have e1 : (p.h != h) = true := by simp [he]
        obtain ⟨a7, c7, w7, r7, O7, B7, T7⟩ := owh_app HO.out HQ.out HT.out p (by have := offH_len h (L.take k); rw [List.length_take] at this; omega)
        have HO2 : Hid (OwR 81 4 encH (w.heap.size + 1 + 1) w7 (.slice a7 (q + 1) c7) (offH h (L.take (k + 1)))) := by rw [Hid, HTK.out, offH_ne he]; exact O7
        have HQ2 : Hid (q + 1 = (offH h (L.take (k + 1))).length) := by rw [Hid, HTK.out, offH_ne he, List.length_append, ← HQ.out]; rfl
        have HT2 := hidE T7
        clear hfw hp hg hc HTK he HO HQ O7 B7 T7 HT
        obtain ⟨x1, x2, x3, x4⟩ := p
        simp only at d0 d1 d2 d3 e0 e1 r7
        go_wp2_with (at_builtin; refine wpList_append_run2 rfl _ _ 26 26 rfl _ _ _ w7 rfl rfl r7 ?_; clear r7)
        go_roundw
        case rel => exact ⟨k + 1, _, _, q + 1, by omega, by go_num, rfl, HQ2, HO2, HT2⟩
        case measure => simp [intOf]; omega
    · obtain rfl : k = n := by omega
      have HE : Hid (L.take k = L) := by rw [Hid, ← HNN.out]; exact List.take_length
      obtain rfl : q = o := by rw [HQ.out, HE.out, HOO.out]
      have hO := HO.out
      rw [HE.out] at hO
      obtain ⟨f1, f2⟩ := HT.out.fin hO
      have HF1 := hidE f1
      have HF2 := hidE f2
      have p0 := HT.out.x.c0
      have p1 := HT.out.x.c1
      have p2 := HT.out.x.c2
      have pz := HT.out.x.z 3
      have y0 := HT.out.y.c0
      have y1 := HT.out.y.c1
      have y2 := HT.out.y.c2
      have y3 := HT.out.y.c3
      have z0 := HT.out.y.z 0
      have z1 := HT.out.y.z 1
      have z2 := HT.out.y.z 2
      have z3 := HT.out.y.z 3
      have hb2 : decide ((q : Int) < (k : Int)) = bb := by rw [HBB.out]; by_cases hh : q < k <;> simp [hh] <;> omega
      have hb3 : decide (q < k) = bb := HBB.out.symm
      clear HO HQ HT hO f1 f2 HE hlt HF HNN HBB HOO
      go_wp2
      refine bodyPost_ret (v := .tuple #[.agg #[.int .i64 m, .int .i64 l, .int .i64 r, .slice a6 q c6], .bool bb]) (by simp [results, Try.results14, go_sem, y0, y1, y2, y3]) rfl ?_
      exact ⟨a6, c6, rfl, HF1.out, HF2.out⟩
end Go.Proofs.Ytlaigjapnmgjeaa
