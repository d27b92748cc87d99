/- The document's pool: with. -/
import Derived.Test.YtlaigjapnmgjeaaQb
namespace Go.Proofs.Ytlaigjapnmgjeaa
open Go.RowKit
set_option linter.unusedVariables false

/-- In the place of that of its number. -/
def repH (x y : Hn) : Hn := if (y.h == x.h) = true then x else y
def hasH (h : Int) (L : List Hn) : Bool := L.any fun y => y.h == h
def withL (x : Hn) (L : List Hn) : List Hn := if hasH x.h L = true then L.map (repH x) else L.map (repH x) ++ [x]
theorem hasH_snoc {h : Int} {L : List Hn} {p : Hn} : hasH h (L ++ [p]) = (hasH h L || (p.h == h)) := by unfold hasH; simp [List.any_append]
theorem rep_snoc {x p : Hn} {L : List Hn} : (L ++ [p]).map (repH x) = L.map (repH x) ++ [repH x p] := by rw [List.map_append]; rfl
theorem qdrewN {B : Nat} {w w' : World} (h : Below B w w') (n : Nat) : Below B w (w'.drewN n) := ⟨h.os, h.tape, h.output, h.size, h.block⟩
theorem TP.drewN {w : World} {rb : Nat} {m l r : Int} {v : Value} {wr : World} (h : TP w rb m l r v wr) (n : Nat) : TP w rb m l r v (wr.drewN n) := ⟨h.x, h.y, qdrewN h.b n, h.r⟩
/-- The handle's block. -/
def XB (w : World) (b : Nat) (x : Hn) : Prop := w.heap[b]? = some (.cells #[.int .i64 x.h, .int .i64 x.st, .int .i64 x.si, .string x.a] 81)
theorem XB.keep {w w' : World} {b : Nat} {x : Hn} (h : XB w b x) {B : Nat} (k : Below B w w') (hb : b < B) : XB w' b x := (k.block b hb).trans h
theorem XB.cells {w : World} {b : Nat} {x : Hn} (h : XB w b x) : w.cell? ⟨b, 0, none⟩ = some (.int .i64 x.h) ∧ w.cell? ⟨b, 1, none⟩ = some (.int .i64 x.st) ∧ w.cell? ⟨b, 2, none⟩ = some (.int .i64 x.si) ∧ w.cell? ⟨b, 3, none⟩ = some (.string x.a) := ⟨tblk_cell h rfl, tblk_cell h rfl, tblk_cell h rfl, tblk_cell h rfl⟩
theorem tp_three (w : World) (m l r : Int) (v : Value) (x : Hn) : TP w (w.heap.size + 1 + 1) m l r v (((w.alloc (.cells #[.int .i64 m, .int .i64 l, .int .i64 r, v] 28)).alloc (.cells #[.int .i64 x.h, .int .i64 x.st, .int .i64 x.si, .string x.a] 81)).alloc (.cells #[.int .i64 0, .int .i64 0, .int .i64 0, .slice none 0 0] 28)) ∧ XB (((w.alloc (.cells #[.int .i64 m, .int .i64 l, .int .i64 r, v] 28)).alloc (.cells #[.int .i64 x.h, .int .i64 x.st, .int .i64 x.si, .string x.a] 81)).alloc (.cells #[.int .i64 0, .int .i64 0, .int .i64 0, .slice none 0 0] 28)) (w.heap.size + 1) x := by
  have s1 : (w.alloc (.cells #[.int .i64 m, .int .i64 l, .int .i64 r, v] 28)).heap.size = w.heap.size + 1 := by simp
  have s2 : ((w.alloc (.cells #[.int .i64 m, .int .i64 l, .int .i64 r, v] 28)).alloc (.cells #[.int .i64 x.h, .int .i64 x.st, .int .i64 x.si, .string x.a] 81)).heap.size = w.heap.size + 1 + 1 := by simp
  refine ⟨⟨(Below.heap_alloc _ _ _ (by simp; omega)).trans ((Below.heap_alloc _ _ _ (by simp)).trans (tblk_new _ _)), ?_, (((Below.refl _ _).alloc (Nat.le_refl _) _).alloc (by simp) _).alloc (by simp; omega) _, by omega⟩, (Below.heap_alloc _ _ _ (by simp)).trans ?_⟩
  · have := tblk_new ((w.alloc (.cells #[.int .i64 m, .int .i64 l, .int .i64 r, v] 28)).alloc (.cells #[.int .i64 x.h, .int .i64 x.st, .int .i64 x.si, .string x.a] 81)) (.cells #[.int .i64 0, .int .i64 0, .int .i64 0, .slice none 0 0] 28)
    rwa [s2] at this
  · have := tblk_new (w.alloc (.cells #[.int .i64 m, .int .i64 l, .int .i64 r, v] 28)) (.cells #[.int .i64 x.h, .int .i64 x.st, .int .i64 x.si, .string x.a] 81)
    rwa [s1] at this
set_option maxRecDepth 100000 in
set_option maxHeartbeats 2000000 in
theorem rwith_any (L : List Hn) (x1 x2 x3 : Int) (x4 : KS) (a : Option Addr) (c : Nat) (m l r : Int) (w : World) (hL : RdR 4 encH w a c L) (hl : L.length ≤ 1000000) :
    Calls Try.prog 32 #[.agg #[.int .i64 m, .int .i64 l, .int .i64 r, .slice a L.length c], .agg #[.int .i64 x1, .int .i64 x2, .int .i64 x3, .string x4]] w fun e w' => ∃ a' c', e = .returned (.agg #[.int .i64 m, .int .i64 l, .int .i64 r, .slice a' (withL ⟨x1, x2, x3, x4⟩ L).length c']) ∧ OwR 81 4 encH w.heap.size w' (.slice a' (withL ⟨x1, x2, x3, x4⟩ L).length c') (withL ⟨x1, x2, x3, x4⟩ L) ∧ Below w.heap.size w w' := by
  have HF : Hid (∀ W, Below w.heap.size w W → RdR 4 encH W a c L) := fun W b => hL.keep b
  obtain ⟨n, hn⟩ : ∃ n, n = L.length := ⟨_, rfl⟩
  have HNN : Hid (L.length = n) := hn.symm
  rw [← hn] at hl ⊢
  obtain ⟨t0, tx⟩ := tp_three w m l r (.slice a n c) ⟨x1, x2, x3, x4⟩
  have HT0 := hidE t0
  have HX0 := hidE tx
  obtain ⟨o, ho⟩ : ∃ o, o = (withL ⟨x1, x2, x3, x4⟩ L).length := ⟨_, rfl⟩
  have HOO := hidE ho
  rw [← ho]
  clear hn hL ho t0 tx
  go_enter Try.func32, Try.ntmps32
  go_wp2_with fail
  obtain ⟨w2, hw2⟩ : ∃ w2, w2 = ((w.alloc (.cells #[.int .i64 m, .int .i64 l, .int .i64 r, .slice a n c] 28)).alloc (.cells #[.int .i64 x1, .int .i64 x2, .int .i64 x3, .string x4] 81)).alloc (.cells #[.int .i64 0, .int .i64 0, .int .i64 0, .slice none 0 0] 28) := ⟨_, rfl⟩
  have S2 : w2.heap.size = w.heap.size + 1 + 1 + 1 := by rw [hw2]; simp
  have hx0 := HX0.out
  have ht0 := HT0.out
  rw [← hw2] at hx0 ht0 ⊢
  have HO0 : Hid (OwR 81 4 encH (w.heap.size + 1 + 1 + 1) (w2.alloc (.cells #[] 81)) (.slice (some ⟨w.heap.size + 1 + 1 + 1, 0, none⟩) 0 0) []) := by rw [← S2]; exact OwR.empty _ _ _ _ _ (Nat.le_refl _)
  have HT1 := hidE (ht0.keep ((Below.refl _ _).alloc (Nat.le_of_eq S2.symm) (.cells #[] 81)))
  have HX1 := hidE (hx0.keep ((Below.refl _ _).alloc (Nat.le_of_eq S2.symm) (.cells #[] 81)) (by omega))
  clear hw2 HT0 S2 HX0 hx0 ht0
  go_loopw [5, 6, 7] (fun v5 v6 vi wr => ∃ (k : Nat) (a6 : Option Addr) (c6 q : Nat) (b : Bool), k ≤ n ∧ vi = .int .i64 k ∧ v5 = .slice a6 q c6 ∧ v6 = .bool b ∧ Hid (q = ((L.take k).map (repH ⟨x1, x2, x3, x4⟩)).length ∧ b = hasH x1 (L.take k)) ∧ Hid (OwR 81 4 encH (w.heap.size + 1 + 1 + 1) wr (.slice a6 q c6) ((L.take k).map (repH ⟨x1, x2, x3, x4⟩))) ∧ Hid (TP w (w.heap.size + 1 + 1) m l r (.slice a n c) wr) ∧ Hid (XB wr (w.heap.size + 1) ⟨x1, x2, x3, x4⟩)) (fun _ _ vi _ => n - (intOf vi).toNat)
  case atStart => exact ⟨0, _, _, 0, false, Nat.zero_le _, rfl, rfl, rfl, ⟨rfl, rfl⟩, HO0, HT1, HX1⟩
  case round =>
    clear HO0 HT1 HX1
    obtain ⟨k, a6, c6, q, b, hk, rfl, rfl, rfl, HQ, HO, HT, HX⟩ := hrel
    have c3 := HT.out.x.c3
    obtain ⟨y0, y1, y2, y3⟩ := HX.out.cells
    simp only at y0 y1 y2 y3
    by_cases hlt : k < n
    · have hfw := HF.out wr HT.out.b
      obtain ⟨p, hp⟩ : ∃ p, L[k]? = some p := ⟨L[k]'(by rw [HNN.out]; exact hlt), List.getElem?_eq_getElem _⟩
      obtain ⟨g, off, rfl, hg, hc⟩ := hfw.at hp
      obtain ⟨d0, d1, d2, d3⟩ := hfw.h4 hp
      have m1 : (0 : Int) ≤ k := by omega
      have m2 : (k : Int) < n := by omega
      have HTK := hidE (takeH hp)
      have HQL : Hid (((L.take k).map (repH ⟨x1, x2, x3, x4⟩)).length ≤ 1000000) := by show _ ≤ _; rw [List.length_map, List.length_take]; omega
      by_cases he : p.h = x1
      · have e0 : (p.h == x1) = true := by simp [he]
        have HQ2 : Hid (q + 1 = ((L.take (k + 1)).map (repH ⟨x1, x2, x3, x4⟩)).length ∧ true = hasH x1 (L.take (k + 1))) := by
          rw [Hid, HTK.out, rep_snoc, hasH_snoc, e0, Bool.or_true, List.length_append, ← HQ.out.1]; exact ⟨rfl, rfl⟩
        have HRE : Hid ((L.take (k + 1)).map (repH ⟨x1, x2, x3, x4⟩) = (L.take k).map (repH ⟨x1, x2, x3, x4⟩) ++ [⟨x1, x2, x3, x4⟩]) := by
          rw [Hid, HTK.out, rep_snoc]
          unfold repH
          rw [if_pos e0]
        clear hfw hp hg hc HTK he
        obtain ⟨u1, u2, u3, u4⟩ := p
        simp only at d0 d1 d2 d3 e0
        go_wp2_with fail
        go_quiet (fail)
        have HO8 : OwR 81 4 encH (w.heap.size + 1 + 1 + 1) (wr.drewN nq) (.slice a6 q c6) ((L.take k).map (repH ⟨x1, x2, x3, x4⟩)) := HO.out.move fun _ _ _ _ _ => rfl
        obtain ⟨a7, c7, w7, r7, O7, B7, T7⟩ := owh_app HO8 HQ.out.1 (HT.out.drewN nq) ⟨x1, x2, x3, x4⟩ (by have := HQL.out; omega)
        rw [← HRE.out] at O7
        have HO7 := hidE O7
        have HT7 := hidE T7
        have HX7 : Hid (XB w7 (w.heap.size + 1) ⟨x1, x2, x3, x4⟩) := XB.keep (w := wr.drewN nq) HX.out B7 (by omega)
        clear HO8 O7 B7 T7 HO HT HX HQ HQL HRE
        simp only at r7
        go_wp2_with (at_builtin; refine wpList_append_run2 rfl _ _ 26 26 rfl _ _ _ w7 rfl rfl r7 ?_; clear r7)
        go_roundw
        case rel => exact ⟨k + 1, _, _, q + 1, true, by omega, by go_num, rfl, rfl, HQ2, HO7, HT7, HX7⟩
        case measure => simp [intOf]; omega
      · have e0 : (p.h == x1) = false := by simp [he]
        have HQ2 : Hid (q + 1 = ((L.take (k + 1)).map (repH ⟨x1, x2, x3, x4⟩)).length ∧ b = hasH x1 (L.take (k + 1))) := by
          rw [Hid, HTK.out, rep_snoc, hasH_snoc, e0, Bool.or_false, List.length_append, ← HQ.out.1]; exact ⟨rfl, HQ.out.2⟩
        have HRE : Hid ((L.take (k + 1)).map (repH ⟨x1, x2, x3, x4⟩) = (L.take k).map (repH ⟨x1, x2, x3, x4⟩) ++ [p]) := by
          rw [Hid, HTK.out, rep_snoc]
          unfold repH
          rw [if_neg (by simp [he])]
        clear hfw hp hg hc HTK he
        obtain ⟨u1, u2, u3, u4⟩ := p
        simp only at d0 d1 d2 d3 e0
        go_wp2_with fail
        go_quiet (fail)
        have HO8 : OwR 81 4 encH (w.heap.size + 1 + 1 + 1) (wr.drewN nq) (.slice a6 q c6) ((L.take k).map (repH ⟨x1, x2, x3, x4⟩)) := HO.out.move fun _ _ _ _ _ => rfl
        obtain ⟨a7, c7, w7, r7, O7, B7, T7⟩ := owh_app HO8 HQ.out.1 (HT.out.drewN nq) ⟨u1, u2, u3, u4⟩ (by have := HQL.out; omega)
        rw [← HRE.out] at O7
        have HO7 := hidE O7
        have HT7 := hidE T7
        have HX7 : Hid (XB w7 (w.heap.size + 1) ⟨x1, x2, x3, x4⟩) := XB.keep (w := wr.drewN nq) HX.out B7 (by omega)
        clear HO8 O7 B7 T7 HO HT HX HQ HQL HRE
        simp only at r7
        go_wp2_with (at_builtin; refine wpList_append_run2 rfl _ _ 26 26 rfl _ _ _ w7 rfl rfl r7 ?_; clear r7)
        go_roundw
        case rel => exact ⟨k + 1, _, _, q + 1, b, by omega, by go_num, rfl, rfl, HQ2, HO7, HT7, HX7⟩
        case measure => simp [intOf]; omega
    · obtain rfl : k = n := by omega
      have HE : Hid (L.take k = L) := by rw [Hid, ← HNN.out]; exact List.take_length
      obtain ⟨q1, q2⟩ := HQ.out
      have hO := HO.out
      rw [HE.out] at q1 q2 hO
      cases b with
      | true =>
        have hw : withL ⟨x1, x2, x3, x4⟩ L = L.map (repH ⟨x1, x2, x3, x4⟩) := by unfold withL; rw [if_pos q2.symm]
        have hoq : q = o := by rw [q1, HOO.out, hw]
        subst hoq
        rw [← hw] at hO
        obtain ⟨f1, f2⟩ := HT.out.fin hO
        have HF1 := hidE f1
        have HF2 := hidE f2
        have p0 := HT.out.x.c0
        have p1 := HT.out.x.c1
        have p2 := HT.out.x.c2
        have pz := HT.out.x.z 3
        have v0 := HT.out.y.c0
        have v1 := HT.out.y.c1
        have v2 := HT.out.y.c2
        have v3 := HT.out.y.c3
        have z0 := HT.out.y.z 0
        have z1 := HT.out.y.z 1
        have z2 := HT.out.y.z 2
        have z3 := HT.out.y.z 3
        clear HO HQ HT hO f1 f2 HE hlt HF HNN HOO hw q1 q2 HX
        go_wp2
        refine bodyPost_ret (v := .agg #[.int .i64 m, .int .i64 l, .int .i64 r, .slice a6 q c6]) (by simp [results, Try.results32, go_sem, v0, v1, v2, v3]) rfl ?_
        exact ⟨a6, c6, rfl, HF1.out, HF2.out⟩
      | false =>
        have hw : withL ⟨x1, x2, x3, x4⟩ L = L.map (repH ⟨x1, x2, x3, x4⟩) ++ [⟨x1, x2, x3, x4⟩] := by unfold withL; rw [if_neg (by rw [← q2]; decide)]
        have hoq : q + 1 = o := by rw [HOO.out, hw, List.length_append, q1]; rfl
        obtain ⟨a7, c7, w7, r7, O7, B7, T7⟩ := owh_app hO q1 HT.out ⟨x1, x2, x3, x4⟩ (by rw [List.length_map, HNN.out]; omega)
        rw [← hw] at O7
        rw [hoq] at r7 O7
        obtain ⟨f1, f2⟩ := T7.fin O7
        have HF1 := hidE f1
        have HF2 := hidE f2
        have p0 := T7.x.c0
        have p1 := T7.x.c1
        have p2 := T7.x.c2
        have p3 := T7.x.c3
        have pz := T7.x.z 3
        have v0 := T7.y.c0
        have v1 := T7.y.c1
        have v2 := T7.y.c2
        have v3 := T7.y.c3
        have z0 := T7.y.z 0
        have z1 := T7.y.z 1
        have z2 := T7.y.z 2
        have z3 := T7.y.z 3
        clear HO HQ HT hO f1 f2 HE hlt HF HNN HOO hw q1 q2 HX O7 B7 T7 hoq
        simp only at r7
        go_wp2_with (at_builtin; refine wpList_append_run2 rfl _ _ 26 26 rfl _ _ _ w7 rfl rfl r7 ?_; clear r7)
        refine bodyPost_ret (v := .agg #[.int .i64 m, .int .i64 l, .int .i64 r, .slice a7 o c7]) (by simp [results, Try.results32, go_sem, v0, v1, v2, v3]) rfl ?_
        exact ⟨a7, c7, rfl, HF1.out, HF2.out⟩
end Go.Proofs.Ytlaigjapnmgjeaa
