/- Health: NewHealth, Pick. -/
import Derived.Test.YtlaigjapnmgjeaaHlB
namespace Go.Proofs.Ytlaigjapnmgjeaa
open Go.RowKit
set_option linter.unusedVariables false

set_option maxHeartbeats 400000 in
theorem hlnew_any (w : World) : Calls Try.prog 21 #[] w fun e w' => e = .returned (.pointer (some ⟨w.heap.size + 3, 0, none⟩)) ∧ HL w' (w.heap.size + 3) w.heap.size (w.heap.size + 1) (w.heap.size + 2) 0 (fun _ => 0) (fun _ => 0) (fun _ => none) ∧ Below w.heap.size w w' := by
  have hmm := @ run_makeMap Try.prog
  have B1 : Below w.heap.size w (w.alloc (.map #[] 0)) := (Below.refl _ _).alloc (Nat.le_refl _) _
  have s1 : (w.alloc (.map #[] 0)).heap.size = w.heap.size + 1 := by simp
  have s2 : ((w.alloc (.map #[] 0)).alloc (.map #[] 0)).heap.size = w.heap.size + 2 := by simp
  have s3 : (((w.alloc (.map #[] 0)).alloc (.map #[] 0)).alloc (.map #[] 0)).heap.size = w.heap.size + 3 := by simp
  have I1 := IM.new w
  have I2 := IM.new (w.alloc (.map #[] 0))
  have I3 := BM.new ((w.alloc (.map #[] 0)).alloc (.map #[] 0))
  have B2 : Below (w.heap.size + 1) (w.alloc (.map #[] 0)) ((w.alloc (.map #[] 0)).alloc (.map #[] 0)) := by rw [← s1]; exact (Below.refl _ _).alloc (Nat.le_refl _) _
  have B3 : Below (w.heap.size + 2) ((w.alloc (.map #[] 0)).alloc (.map #[] 0)) (((w.alloc (.map #[] 0)).alloc (.map #[] 0)).alloc (.map #[] 0)) := by rw [← s2]; exact (Below.refl _ _).alloc (Nat.le_refl _) _
  have B4 : Below (w.heap.size + 3) (((w.alloc (.map #[] 0)).alloc (.map #[] 0)).alloc (.map #[] 0)) ((((w.alloc (.map #[] 0)).alloc (.map #[] 0)).alloc (.map #[] 0)).alloc (.cells #[.map (some w.heap.size), .map (some (w.heap.size + 1)), .map (some (w.heap.size + 2))] 95)) := by rw [← s3]; exact (Below.refl _ _).alloc (Nat.le_refl _) _
  have tb := tblk_new (((w.alloc (.map #[] 0)).alloc (.map #[] 0)).alloc (.map #[] 0)) (.cells #[.map (some w.heap.size), .map (some (w.heap.size + 1)), .map (some (w.heap.size + 2))] 95)
  rw [s1] at I2
  rw [s2] at I3
  rw [s3] at tb
  have HH : Hid (HL ((((w.alloc (.map #[] 0)).alloc (.map #[] 0)).alloc (.map #[] 0)).alloc (.cells #[.map (some w.heap.size), .map (some (w.heap.size + 1)), .map (some (w.heap.size + 2))] 95)) (w.heap.size + 3) w.heap.size (w.heap.size + 1) (w.heap.size + 2) 0 (fun _ => 0) (fun _ => 0) (fun _ => none)) :=
    ⟨tb, ((I1.move (B2.block _ (by omega))).move (B3.block _ (by omega))).move (B4.block _ (by omega)), (I2.move (B3.block _ (by omega))).move (B4.block _ (by omega)), I3.move (B4.block _ (by omega)), by omega, by omega, by omega, fun s x hx => by cases hx⟩
  have HB : Hid (Below w.heap.size w ((((w.alloc (.map #[] 0)).alloc (.map #[] 0)).alloc (.map #[] 0)).alloc (.cells #[.map (some w.heap.size), .map (some (w.heap.size + 1)), .map (some (w.heap.size + 2))] 95))) := ((B1.trans (B2.mono (by omega))).trans (B3.mono (by omega))).trans (B4.mono (by omega))
  clear B1 B2 B3 B4 I1 I2 I3 tb s1 s2 s3
  go_enter Try.func21, Try.ntmps21
  go_wp2
  go_ret
  exact ⟨by simp, HH.out, HB.out⟩
/-- Texts in memory that are only read. -/
def Tx (w : World) (a : Option Addr) (xs : List KS) : Prop := xs.length ≤ 1000 ∧ (∀ s ∈ xs, s.size ≤ 281474976710656) ∧ (0 < xs.length → ∃ g off, a = some ⟨g, off, none⟩ ∧ g < w.heap.size ∧ ∀ i, i < xs.length → w.cell? ⟨g, off + i, none⟩ = some (.string (xs.getD i ⟨#[]⟩)))
theorem Tx.keep {w w' : World} {a : Option Addr} {xs : List KS} (h : Tx w a xs) (b : Below w.heap.size w w') : Tx w' a xs := ⟨h.1, h.2.1, fun hp => by
  obtain ⟨g, off, e, hg, hc⟩ := h.2.2 hp
  exact ⟨g, off, e, Nat.lt_of_lt_of_le hg b.size, fun i hi => (b.cell (p := ⟨g, off + i, none⟩) hg).trans (hc i hi)⟩⟩
theorem Tx.sz {w : World} {a : Option Addr} {xs : List KS} (h : Tx w a xs) {i : Nat} (hi : i < xs.length) : (xs.getD i ⟨#[]⟩).size ≤ 281474976710656 := by
  refine h.2.1 _ ?_
  rw [List.getD_eq_getElem?_getD, List.getElem?_eq_getElem hi]
  exact List.getElem_mem hi
theorem cellT_lt {w : World} {x : Addr} {v : Value} (h : w.cell? x = some v) : x.block < w.heap.size := by
  unfold World.cell? at h
  rcases Nat.lt_or_ge x.block w.heap.size with c | c
  · exact c
  · simp [Array.getElem?_eq_none c] at h
/-- A cell stays where a map turns. -/
theorem cell_turn {w w' : World} {m : Nat} {es : Array MapEntry} {cl : Nat} (hm : w.heap[m]? = some (.map es cl)) (g : w.grownBy w' (some m)) {p : Addr} {v : Value} (h : w.cell? p = some v) : w'.cell? p = some v := by
  have hl := cellT_lt h
  have e : w'.heap[p.block]? = w.heap[p.block]? := g.block _ hl (fun e => by
    cases e
    unfold World.cell? at h
    rw [hm] at h
    simp at h)
  unfold World.cell? at *
  rw [e]; exact h
/-- The aim whose turn it is behind i others. -/
def aimAt (xs : List KS) (tn i : Nat) : KS := xs.getD ((tn + i) % xs.length) ⟨#[]⟩
set_option maxRecDepth 100000 in
set_option maxHeartbeats 2000000 in
theorem hlpick_any (nm : KS) (xs : List KS) (a1 : Option Addr) (c1 : Nat) (now : Int) (tn h a b c n : Nat) (t f : KS → Int) (q : BF) (w : World) (H : HL w h a b c n t f q) (hT : Tx w a1 xs) (hnm : nm.size ≤ 281474976710656) (hn : n ≤ 1000000) (hnow : InR now) (htn : t nm = (tn : Int)) (htb : tn ≤ 1000000) :
    Calls Try.prog 24 #[.pointer (some ⟨h, 0, none⟩), .agg #[.string nm, .slice a1 xs.length c1], .int .i64 now] w fun e w' =>
      (∃ i, i < xs.length ∧ (∀ j, j < i → sickB (q (aimAt xs tn j)) now = true) ∧ sickB (q (aimAt xs tn i)) now = false ∧ e = .returned (.tuple #[.string (aimAt xs tn i), .int .i64 0]) ∧ HL w' h a b c (n + 1) (upd t nm (((tn + i) % xs.length + 1 : Nat) : Int)) f q ∧ FrM a b c w w') ∨
      ((∀ j, j < xs.length → sickB (q (aimAt xs tn j)) now = true) ∧ e = .returned (.tuple #[.string ⟨#[]⟩, .int .i64 4]) ∧ Below w.heap.size w w') := by
  have hsm : nm.size ≤ maxLen := by unfold maxLen; omega
  have BA : Below w.heap.size w (w.alloc (.cells #[.string nm, .slice a1 xs.length c1] 32)) := (Below.refl _ _).alloc (Nat.le_refl _) _
  have tb := tblk_new w (.cells #[.string nm, .slice a1 xs.length c1] 32)
  have H1 := H.keep BA
  have T1 := hT.keep BA
  have hw1 : w.heap.size < (w.alloc (.cells #[.string nm, .slice a1 xs.length c1] 32)).heap.size := by simp
  generalize hW1 : (w.alloc (.cells #[.string nm, .slice a1 xs.length c1] 32)) = w1 at *
  have hlk := H1.ta.look hsm
  have hlkd : (Instr.lookup 92 (.map (some a)) (.string nm) false).run Try.prog w1.drew = .ok (.int .i64 (t nm)) w1.drew := (H1.ta.move (w' := w1.drew) rfl).look hsm
  rw [htn] at hlk hlkd
  have e0 := H1.c0
  have u0 : w1.cell? ⟨w.heap.size, 0, none⟩ = some (.string nm) := tblk_cell tb rfl
  have u1 : w1.cell? ⟨w.heap.size, 1, none⟩ = some (.slice a1 xs.length c1) := tblk_cell tb rfl
  have hlt1 := H1.lt
  go_enter Try.func24, Try.ntmps24
  go_wp2_with fail
  go_region_held3 (fun W => W.cell? ⟨h, 0, none⟩ = some (.map (some a)) ∧ W.cell? ⟨w.heap.size, 0, none⟩ = some (.string nm)) (go_keep) (first | fail)
  have HX : Hid (∀ W, Below w1.heap.size w1 W → HL W h a b c n t f q ∧ Tx W a1 xs ∧ W.cell? ⟨w.heap.size, 0, none⟩ = some (.string nm) ∧ W.cell? ⟨w.heap.size, 1, none⟩ = some (.slice a1 xs.length c1)) := fun W bW => ⟨H1.keep bW, T1.keep bW, (bW.cell (p := ⟨w.heap.size, 0, none⟩) hw1).trans u0, (bW.cell (p := ⟨w.heap.size, 1, none⟩) hw1).trans u1⟩
  have HW1 : Hid (Below w.heap.size w w1) := BA
  have HTN := hidE htn
  have hnx : xs.length ≤ 1000 := hT.1
  have UD : Below w1.heap.size w1 w1.drew := (Below.refl _ _).drew
  have ud1 := (HX.out _ UD).2.2.2
  obtain ⟨L, hL⟩ : ∃ L, L = xs.length := ⟨_, rfl⟩
  have HL0 : Hid (xs.length = L) := hL.symm
  rw [← hL] at ud1 hnx ⊢
  clear hW1 H H1 T1 hT BA tb hlk hlkd e0 u0 u1 hlt1 hw1 htn hL
  go_wp2_with fail
  go_loopw [21] (fun vi wr => ∃ i : Nat, i ≤ L ∧ vi = .int .i64 i ∧ Hid (∀ j, j < i → sickB (q (aimAt xs tn j)) now = true) ∧ Hid (Below w1.heap.size w1 wr)) (fun vi _ => L - (intOf vi).toNat)
  case atStart => exact ⟨0, Nat.zero_le _, rfl, fun j hj => absurd hj (Nat.not_lt_zero _), UD⟩
  case round =>
    clear ud1 UD
    obtain ⟨i, hi, rfl, HS, HB⟩ := hrel
    by_cases hlt : i < L
    · obtain ⟨hh, ht, u0, u1⟩ := HX.out _ HB.out
      rw [HL0.out] at u1
      have hpl : (tn + i) % L < L := Nat.mod_lt _ (by omega)
      obtain ⟨g, off, rfl, hg, hc⟩ := ht.2.2 (by rw [HL0.out]; omega)
      have ec := hc ((tn + i) % L) (by rw [HL0.out]; exact hpl)
      have hsz := ht.sz (i := (tn + i) % L) (by rw [HL0.out]; exact hpl)
      have ea : xs.getD ((tn + i) % L) ⟨#[]⟩ = aimAt xs tn i := by unfold aimAt; rw [HL0.out]
      rw [ea] at ec hsz
      have HSK := hidE (hlsick_any (aimAt xs tn i) now h a b c n t f q wr hh (by unfold maxLen; omega) hnow)
      have f1 : IntKind.i64.wrap ((tn : Int) + (i : Int)) = (tn : Int) + (i : Int) := by rw [IntKind.wrap_i64]; omega
      have f2 : ((tn : Int) + (i : Int)) % (L : Int) = (((tn + i) % L : Nat) : Int) := rfl
      have f3 : ((L : Int) == 0) = false := by simp; omega
      obtain ⟨P, hP⟩ : ∃ P, P = (tn + i) % L := ⟨_, rfl⟩
      have HPP := hidE hP
      rw [← hP] at ec hpl f2
      have m1 : (0 : Int) ≤ P := by omega
      have m2 : (P : Int) < L := by omega
      have HWR := hidE hh
      clear hh ht hc ea hP
      have HGC : Hid (∀ W, Below wr.heap.size wr W → W.cell? ⟨g, off + P, none⟩ = some (.string (aimAt xs tn i)) ∧ W.cell? ⟨w.heap.size, 0, none⟩ = some (.string nm) ∧ W.cell? ⟨w.heap.size, 1, none⟩ = some (.slice (some ⟨g, off, none⟩) L c1)) := fun W bW => ⟨(bW.cell (p := ⟨g, off + P, none⟩) hg).trans ec, (HX.out W (HB.out.trans (bW.mono HB.out.size))).2.2.1, by rw [← HL0.out]; exact (HX.out W (HB.out.trans (bW.mono HB.out.size))).2.2.2⟩
      have f4 : IntKind.i64.wrap ((P : Int) + 1) = (P : Int) + 1 := by rw [IntKind.wrap_i64]; omega
      have HGT := hidE hg
      clear hg
      go_wp2_with fail
      rw [f2]
      refine HSK.out.mono ?_
      rintro e w5 ⟨rfl, B5⟩
      clear HSK f1 f2 f3 u0 u1 ec
      cases hsk : sickB (q (aimAt xs tn i)) now
      · have hsf := hidE hsk
        have HLW5 := HWR.out.keep B5
        obtain ⟨k0, k1, k2⟩ := HGC.out _ B5
        have hwl : w.heap.size < wr.heap.size := by
          have h1 := cellT_lt k1
          rcases Nat.lt_or_ge w.heap.size wr.heap.size with c | c
          · exact c
          · exact absurd (HB.out.size) (by have := HW1.out.size; have h2 := cellT_lt ((HX.out _ HB.out).2.2.1); simp at h2; omega)
        have HC : Hid (∀ W, Below w5.heap.size w5 W → Calls Try.prog 39 #[.string nm] W fun e w6 => e = .returned (.string nm) ∧ (w6.cell? ⟨h, 0, none⟩ = some (.map (some a)) ∧ w6.cell? ⟨w.heap.size, 0, none⟩ = some (.string nm)) ∧ ∃ w7, (Instr.mapUpdate 92 (.map (some a)) (.string nm) (.int .i64 ((P : Int) + 1))).run Try.prog w6 = .ok () w7 ∧ (w7.cell? ⟨h, 0, none⟩ = some (.map (some a)) ∧ w7.cell? ⟨w.heap.size, 0, none⟩ = some (.string nm)) ∧ w7.cell? ⟨w.heap.size, 1, none⟩ = some (.slice (some ⟨g, off, none⟩) L c1) ∧ w7.cell? ⟨g, off + P, none⟩ = some (.string (aimAt xs tn i)) ∧ Hid (HL w7 h a b c (n + 1) (upd t nm ((P : Int) + 1)) f q ∧ FrM a b c w w7)) := fun W bW => by
          refine (clone_any nm W hnm).mono ?_
          rintro e w6 ⟨rfl, B6⟩
          have H6 := (HLW5.keep bW).keep B6
          have b6 : Below wr.heap.size wr w6 := (B5.trans (bW.mono B5.size)).trans (B6.mono (Nat.le_trans B5.size bW.size))
          obtain ⟨j0, j1, j2⟩ := HGC.out _ b6
          obtain ⟨w7, r7, I7, g7⟩ := H6.ta.put (by unfold maxLen; omega) hsm (y := (P : Int) + 1) (by unfold InR; omega)
          have H7 := H6.setT I7 g7
          obtain ⟨es, cl, hma⟩ := H6.ta.blk
          have kp : ∀ {p : Addr} {v : Value}, w6.cell? p = some v → w7.cell? p = some v := fun {p v} hp => cell_turn hma g7 hp
          have b0 : Below w.heap.size w wr := HW1.out.trans (HB.out.mono HW1.out.size)
          exact ⟨rfl, ⟨H6.c0, j1⟩, w7, r7, ⟨H7.c0, kp j1⟩, kp j2, kp j0, H7, ((FrM.refl a b c w).bel (b0.trans (b6.mono b0.size))).turn g7 (.inl rfl)⟩
        have U0 : Below w5.heap.size w5 w5 := Below.refl _ _
        have e50 := HLW5.c0
        have HCA := hidE (fun W => clone_any (aimAt xs tn i) W hsz)
        clear HLW5 hwl HWR HGC HX hsk
        generalize ham : aimAt xs tn i = am at *
        have HAM := hidE ham
        clear ham
        go_wp2_with fail
        go_region_held3 (fun W => W.cell? ⟨h, 0, none⟩ = some (.map (some a)) ∧ W.cell? ⟨w.heap.size, 0, none⟩ = some (.string nm)) (go_keep) (first | (go_at_call 39; refine (HC.out _ (by first | assumption | exact U0.drew)).mono ?_; rintro e w6 ⟨rfl, hS, w7, r7, hS7, j2, j0, HR⟩) | (refine step_put rfl _ _ _ 92 rfl _ _ _ w7 rfl rfl rfl r7 ?_))
        clear HC U0 k0 k1 k2 B5 e50
        go_wp2_with fail
        refine (HCA.out _).mono ?_
        rintro e w8 ⟨rfl, B8⟩
        have HR8 : Hid (HL w8 h a b c (n + 1) (upd t nm ((P : Int) + 1)) f q ∧ FrM a b c w w8) := ⟨HR.out.1.keep B8, HR.out.2.bel B8⟩
        clear HCA B8
        go_wp2
        refine bodyPost_ret (v := .tuple #[.string am, .int .i64 0]) (by simp [results, Try.results24, go_sem]) rfl (.inl ⟨i, by rw [HL0.out]; exact hlt, HS.out, by rw [HAM.out]; exact hsf.out, by rw [HAM.out], ?_, HR8.out.2⟩)
        · rw [HL0.out, ← HPP.out]; exact HR8.out.1
      · have HB5 : Hid (Below w1.heap.size w1 w5) := HB.out.trans (B5.mono HB.out.size)
        have HS5 : Hid (∀ j, j < i + 1 → sickB (q (aimAt xs tn j)) now = true) := fun j hj => by
          rcases Nat.lt_or_ge j i with k | k
          · exact HS.out j k
          · obtain rfl : j = i := by omega
            exact hsk
        clear HB HS B5 hsk HGC HWR
        go_wp2
        go_roundw
        case rel => exact ⟨i + 1, by omega, by go_num, HS5, HB5⟩
        case measure => simp [intOf]; omega
    · obtain rfl : i = L := by omega
      go_wp2
      refine bodyPost_ret (v := .tuple #[.string ⟨#[]⟩, .int .i64 4]) (by simp [results, Try.results24, go_sem]) rfl (.inr ⟨by rw [HL0.out]; exact HS.out, rfl, HW1.out.trans (HB.out.mono HW1.out.size)⟩)
end Go.Proofs.Ytlaigjapnmgjeaa
