/- The document's health: put, Good. -/
import Derived.Test.YtlaigjapnmgjeaaUa
import Derived.Test.YtlaigjapnmgjeaaHlF
namespace Go.Proofs.Ytlaigjapnmgjeaa
open Go.RowKit
set_option linter.unusedVariables false

def putR (m : Mk) (L : List Mk) : List Mk := m :: L.filter fun x => !decide (x.a = m.a)
theorem putR_ne {m : Mk} {L : List Mk} {x : Mk} (e : x.a ≠ m.a) : putR m (L ++ [x]) = putR m L ++ [x] := by unfold putR; rw [List.filter_append, List.filter_cons, if_pos (by simpa using e)]; rfl
theorem putR_eq {m : Mk} {L : List Mk} {x : Mk} (e : x.a = m.a) : putR m (L ++ [x]) = putR m L := by unfold putR; rw [List.filter_append, List.filter_cons, if_neg (by simpa using e)]; simp
theorem putR_len (m : Mk) (L : List Mk) : (putR m L).length ≤ L.length + 1 := by unfold putR; rw [List.length_cons]; exact Nat.succ_le_succ (List.length_filter_le _ _)
theorem takeM {α : Type} {L : List α} {k : Nat} {p : α} (h : L[k]? = some p) : L.take (k + 1) = L.take k ++ [p] := by rw [List.take_add_one, h]; rfl
theorem OwR.one {α : Type} {T : TypeId} {k : Nat} {enc : α → Array Value} (E : EncR α k enc) (B : Nat) (w : World) (hB : B ≤ w.heap.size) (x : α) (hk : k ≤ 1024) : OwR T k enc B (w.alloc (.cells (enc x) T)) (.slice (some ⟨w.heap.size, 0, none⟩) 1 1) [x] := by
  have e : enR enc [x] = (enc x).toList := by unfold enR; simp
  have hs := E.sz x
  refine ⟨by rw [e, Array.length_toList, hs]; show k = 1 * k; omega, .inr ⟨w.heap.size, 1, enc x, rfl, hB, gr_new _ _, Nat.le_refl _, by decide, by rw [hs]; omega, ?_⟩⟩
  rw [e]
  exact List.take_of_length_le (by rw [Array.length_toList, hs]; show k ≤ 1 * k; omega)
theorem owr_set {α : Type} {T : TypeId} {k : Nat} {enc : α → Array Value} {B : Nat} {w : World} {v : Value} {l : List α} {b o : Nat} {x : Value} (h : OwR T k enc B w v l) (hb : b < B) : OwR T k enc B (w.setCell ⟨b, o, none⟩ x) v l := h.move fun g _ hB _ _ => Below.heap_setCell w ⟨b, o, none⟩ x g (show g ≠ b by omega)
/-- The blocks of put. -/
structure TQ (w : World) (t0 t1 : Value) (m : Mk) (wr : World) : Prop where
  x : HBk wr w.heap.size t0 t1
  y : wr.heap[w.heap.size + 1]? = some (.cells #[.string m.a, .int .i64 m.f, .int .i64 m.u] 99)
  z : HBk wr (w.heap.size + 1 + 1) (.slice none 0 0) (.slice none 0 0)
  b : Below w.heap.size w wr
theorem TQ.keep {w : World} {t0 t1 : Value} {m : Mk} {wr w' : World} (h : TQ w t0 t1 m wr) (k : Below (w.heap.size + 1 + 1 + 1) wr w') : TQ w t0 t1 m w' := ⟨h.x.keep k (by omega), (k.block _ (by omega)).trans h.y, h.z.keep k (by omega), h.b.trans (k.mono (by omega))⟩
theorem tq_three (w : World) (t0 t1 : Value) (m : Mk) : TQ w t0 t1 m (((w.alloc (.cells #[t0, t1] 57)).alloc (.cells #[.string m.a, .int .i64 m.f, .int .i64 m.u] 99)).alloc (.cells #[.slice none 0 0, .slice none 0 0] 57)) := by
  have T := tm_two w t0 t1 (.string m.a) (.int .i64 m.f) (.int .i64 m.u)
  have s2 : ((w.alloc (.cells #[t0, t1] 57)).alloc (.cells #[.string m.a, .int .i64 m.f, .int .i64 m.u] 99)).heap.size = w.heap.size + 1 + 1 := by simp
  refine ⟨(Below.heap_alloc _ _ _ (by rw [s2]; omega)).trans T.x, (Below.heap_alloc _ _ _ (by rw [s2]; omega)).trans T.y, ?_, T.b.alloc (by rw [s2]; omega) _⟩
  have := tblk_new ((w.alloc (.cells #[t0, t1] 57)).alloc (.cells #[.string m.a, .int .i64 m.f, .int .i64 m.u] 99)) (.cells #[.slice none 0 0, .slice none 0 0] 57)
  rwa [s2] at this
theorem owm_app {w : World} {l c6 : Nat} {t0 t1 : Value} {a6 : Option Addr} {m : Mk} {o : List Mk} {wr : World} (HO : OwR 99 3 encM (w.heap.size + 1 + 1 + 1) wr (.slice a6 l c6) o) (hl : l = o.length) (HT : TQ w t0 t1 m wr) (p : Mk) (ho : o.length ≤ 1000001) :
    ∃ a7 c7 w7, (Builtin.append_ #[54, 54] 54 #[.slice a6 l c6, .slice (some ⟨wr.heap.size, 0, none⟩) 1 1]).run Try.prog (wr.alloc (.cells #[.string p.a, .int .i64 p.f, .int .i64 p.u] 99)) = .ok (.slice a7 (l + 1) c7) w7 ∧ OwR 99 3 encM (w.heap.size + 1 + 1 + 1) w7 (.slice a7 (l + 1) c7) (o ++ [p]) ∧ TQ w t0 t1 m w7 := by
  obtain ⟨v7, w7, r7, O7, B7, _⟩ := owr_append EM Try.underlying54 infoM rfl (by decide) HO HT.z.lt p (by omega)
  obtain ⟨a7, c7, rfl, _, _⟩ := O7.rd EM
  have hlen : (o ++ [p]).length = l + 1 := by rw [List.length_append, hl]; rfl
  rw [hlen] at r7 O7
  exact ⟨a7, c7, w7, r7, O7, HT.keep B7⟩
theorem TQ.fin {w : World} {t0 t1 : Value} {m : Mk} {wr : World} {u : Value} {o : List Mk} (T : TQ w t0 t1 m wr) (O : OwR 99 3 encM (w.heap.size + 1 + 1 + 1) wr u o) :
    OwR 99 3 encM w.heap.size (((wr.setCell ⟨w.heap.size, 0, none⟩ u).setCell ⟨w.heap.size + 1 + 1, 0, none⟩ u).setCell ⟨w.heap.size + 1 + 1, 1, none⟩ t1) u o ∧ Below w.heap.size w (((wr.setCell ⟨w.heap.size, 0, none⟩ u).setCell ⟨w.heap.size + 1 + 1, 0, none⟩ u).setCell ⟨w.heap.size + 1 + 1, 1, none⟩ t1) :=
  ⟨(owr_set (owr_set (owr_set O (by omega)) (by omega)) (by omega)).mono (by omega), ((T.b.setCell (p := ⟨w.heap.size, 0, none⟩) (Nat.le_refl _) _).setCell (p := ⟨w.heap.size + 1 + 1, 0, none⟩) (show w.heap.size ≤ w.heap.size + 1 + 1 by omega) _).setCell (p := ⟨w.heap.size + 1 + 1, 1, none⟩) (show w.heap.size ≤ w.heap.size + 1 + 1 by omega) _⟩
set_option maxRecDepth 100000 in
set_option maxHeartbeats 2000000 in
theorem rput_any (L : List Mk) (m1 : KS) (m2 m3 : Int) (a : Option Addr) (c : Nat) (ta : Option Addr) (tl tc : Nat) (w : World) (hL : RdR 3 encM w a c L) (hl : L.length ≤ 1000000) :
    Calls Try.prog 41 #[.agg #[.slice a L.length c, (.slice ta tl tc)], .agg #[.string m1, .int .i64 m2, .int .i64 m3]] w fun e w' => ∃ a' c', e = .returned (.agg #[.slice a' (putR ⟨m1, m2, m3⟩ L).length c', (.slice ta tl tc)]) ∧ OwR 99 3 encM w.heap.size w' (.slice a' (putR ⟨m1, m2, m3⟩ L).length c') (putR ⟨m1, m2, m3⟩ L) ∧ Below w.heap.size w w' := by
  have HF : Hid (∀ W, Below w.heap.size w W → RdR 3 encM W a c L) := fun W b => hL.keep b
  obtain ⟨n, hn⟩ : ∃ n, n = L.length := ⟨_, rfl⟩
  have HNN : Hid (L.length = n) := hn.symm
  rw [← hn] at hl ⊢
  have HT0 := hidE (tq_three w (.slice a n c) (.slice ta tl tc) ⟨m1, m2, m3⟩)
  obtain ⟨o, ho⟩ : ∃ o, o = (putR ⟨m1, m2, m3⟩ L).length := ⟨_, rfl⟩
  have HOO := hidE ho
  rw [← ho]
  clear hn hL ho
  go_enter Try.func41, Try.ntmps41
  go_wp2_with fail
  obtain ⟨w2, hw2⟩ : ∃ w2, w2 = ((w.alloc (.cells #[.slice a n c, (.slice ta tl tc)] 57)).alloc (.cells #[.string m1, .int .i64 m2, .int .i64 m3] 99)).alloc (.cells #[.slice none 0 0, .slice none 0 0] 57) := ⟨_, rfl⟩
  have S2 : w2.heap.size = w.heap.size + 1 + 1 + 1 := by rw [hw2]; simp
  have ht := HT0.out
  rw [← hw2] at ht ⊢
  have HO0 : Hid (OwR 99 3 encM (w.heap.size + 1 + 1 + 1) (w2.alloc (.cells #[.string m1, .int .i64 m2, .int .i64 m3] 99)) (.slice (some ⟨w.heap.size + 1 + 1 + 1, 0, none⟩) 1 1) [⟨m1, m2, m3⟩]) := by rw [← S2]; exact OwR.one EM _ _ (Nat.le_refl _) _ (by decide)
  have HT1 := hidE (ht.keep ((Below.refl _ _).alloc (Nat.le_of_eq S2.symm) (.cells #[.string m1, .int .i64 m2, .int .i64 m3] 99)))
  clear hw2 HT0 S2 ht
  go_loopw [5, 6] (fun v6 vi wr => ∃ (k : Nat) (a6 : Option Addr) (c6 q : Nat), k ≤ n ∧ vi = .int .i64 k ∧ v6 = .slice a6 q c6 ∧ Hid (q = (putR ⟨m1, m2, m3⟩ (L.take k)).length) ∧ Hid (OwR 99 3 encM (w.heap.size + 1 + 1 + 1) wr (.slice a6 q c6) (putR ⟨m1, m2, m3⟩ (L.take k))) ∧ Hid (TQ w (.slice a n c) (.slice ta tl tc) ⟨m1, m2, m3⟩ wr)) (fun _ vi _ => n - (intOf vi).toNat)
  case atStart => exact ⟨0, _, _, 1, Nat.zero_le _, rfl, rfl, rfl, HO0, HT1⟩
  case round =>
    clear HO0 HT1
    obtain ⟨k, a6, c6, q, hk, rfl, rfl, HQ, HO, HT⟩ := hrel
    have c0 := HT.out.x.c0
    by_cases hlt : k < n
    · have hfw := HF.out wr HT.out.b
      obtain ⟨p, hp⟩ : ∃ p, L[k]? = some p := ⟨L[k]'(by rw [HNN.out]; exact hlt), List.getElem?_eq_getElem _⟩
      obtain ⟨g, off, rfl, hg, hc⟩ := hfw.at hp
      obtain ⟨d0, d1, d2⟩ := hfw.m3 hp
      have i1 : (0 : Int) ≤ k := by omega
      have i2 : (k : Int) < n := by omega
      have HTK := hidE (takeM hp)
      have y0 : wr.cell? ⟨w.heap.size + 1, 0, none⟩ = some (.string m1) := tblk_cell HT.out.y rfl
      by_cases he : p.a = m1
      · have e0 : (ByteArray.toList p.a != ByteArray.toList m1) = false := by rw [bne, ks_eq he]; rfl
        have e1 := ks_eq he
        have HO2 : Hid (OwR 99 3 encM (w.heap.size + 1 + 1 + 1) wr (.slice a6 q c6) (putR ⟨m1, m2, m3⟩ (L.take (k + 1)))) := by rw [Hid, HTK.out, putR_eq (m := ⟨m1, m2, m3⟩) he]; exact HO.out
        have HQ2 : Hid (q = (putR ⟨m1, m2, m3⟩ (L.take (k + 1))).length) := by rw [Hid, HTK.out, putR_eq (m := ⟨m1, m2, m3⟩) he]; exact HQ.out
        clear hfw hp hg hc HTK he HO HQ
        obtain ⟨x1, x2, x3⟩ := p
        simp only at d0 d1 d2 e0 e1
        go_wp2_with fail
        go_quiet (fail)
        have HT2 : Hid (TQ w (.slice (some ⟨g, off, none⟩) n c) (.slice ta tl tc) ⟨m1, m2, m3⟩ (wr.drewN nq)) := ⟨HT.out.x, HT.out.y, HT.out.z, ⟨HT.out.b.os, HT.out.b.tape, HT.out.b.output, HT.out.b.size, HT.out.b.block⟩⟩
        have HO8 : Hid (OwR 99 3 encM (w.heap.size + 1 + 1 + 1) (wr.drewN nq) (.slice a6 q c6) (putR ⟨m1, m2, m3⟩ (L.take (k + 1)))) := HO2.out.move fun _ _ _ _ _ => rfl
        clear HT HO2
        go_wp2
        go_roundw
        case rel => exact ⟨k + 1, _, _, q, by omega, by go_num, rfl, HQ2, HO8, HT2⟩
        case measure => simp [intOf]; omega
      · have e0 : (ByteArray.toList p.a != ByteArray.toList m1) = true := by rw [bne, ks_ne he]; rfl
        have e1 := ks_ne he
        have HLL : Hid ((putR ⟨m1, m2, m3⟩ (L.take k)).length ≤ 1000001) := by have := putR_len ⟨m1, m2, m3⟩ (L.take k); rw [List.length_take] at this; show _ ≤ _; omega
        have HRE : Hid (putR ⟨m1, m2, m3⟩ (L.take (k + 1)) = putR ⟨m1, m2, m3⟩ (L.take k) ++ [p]) := by rw [Hid, HTK.out, putR_ne (m := ⟨m1, m2, m3⟩) he]
        clear hfw hp hg hc HTK he
        obtain ⟨x1, x2, x3⟩ := p
        simp only at d0 d1 d2 e0 e1
        go_wp2_with fail
        go_quiet (fail)
        have T8 : TQ w (.slice (some ⟨g, off, none⟩) n c) (.slice ta tl tc) ⟨m1, m2, m3⟩ (wr.drewN nq) := ⟨HT.out.x, HT.out.y, HT.out.z, ⟨HT.out.b.os, HT.out.b.tape, HT.out.b.output, HT.out.b.size, HT.out.b.block⟩⟩
        have O8 : OwR 99 3 encM (w.heap.size + 1 + 1 + 1) (wr.drewN nq) (.slice a6 q c6) (putR ⟨m1, m2, m3⟩ (L.take k)) := HO.out.move fun _ _ _ _ _ => rfl
        obtain ⟨a7, c7, w7, r7, O7, T7⟩ := owm_app O8 HQ.out T8 ⟨x1, x2, x3⟩ HLL.out
        rw [← HRE.out] at O7
        have HO2 := hidE O7
        have HQ2 : Hid (q + 1 = (putR ⟨m1, m2, m3⟩ (L.take (k + 1))).length) := by rw [Hid, HRE.out, List.length_append, ← HQ.out]; rfl
        have HT2 := hidE T7
        clear T8 O8 O7 T7 HT HO HQ HLL HRE y0
        simp only at r7
        go_wp2_with (at_builtin; refine wpList_append_run2 rfl _ _ 54 54 rfl _ _ _ w7 rfl rfl r7 ?_; clear r7)
        go_roundw
        case rel => exact ⟨k + 1, _, _, q + 1, by omega, by go_num, rfl, HQ2, HO2, HT2⟩
        case measure => simp [intOf]; omega
    · obtain rfl : k = n := by omega
      have HE : Hid (L.take k = L) := by rw [Hid, ← HNN.out]; exact List.take_length
      obtain rfl : q = o := by rw [HQ.out, HE.out, HOO.out]
      have hO := HO.out
      rw [HE.out] at hO
      obtain ⟨f1, f2⟩ := HT.out.fin hO
      have HF1 := hidE f1
      have HF2 := hidE f2
      have p1 := HT.out.x.c1
      have pz := HT.out.x.z 0
      have v0 := HT.out.z.c0
      have v1 := HT.out.z.c1
      have z0 := HT.out.z.z 0
      have z1 := HT.out.z.z 1
      clear HO HQ HT hO f1 f2 HE hlt HF HNN HOO
      go_wp2
      refine bodyPost_ret (v := .agg #[.slice a6 q c6, (.slice ta tl tc)]) (by simp [results, Try.results41, go_sem, v0, v1]) rfl ?_
      exact ⟨a6, c6, rfl, HF1.out, HF2.out⟩
end Go.Proofs.Ytlaigjapnmgjeaa
