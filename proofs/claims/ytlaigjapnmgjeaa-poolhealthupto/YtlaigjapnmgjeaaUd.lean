/- The document's health: Pick. -/
import Derived.Test.YtlaigjapnmgjeaaUc
import Derived.Deep.RegionHeld3
import Derived.Deep.RegionWith
namespace Go.Proofs.Ytlaigjapnmgjeaa
open Go.RowKit
set_option linter.unusedVariables false

/-- An upstream's turn: that of the last row that bears its name. -/
def atR (T : List Tn) (nm : KS) : Int := T.foldl (fun acc x => if x.n = nm then x.k else acc) 0
def offT (nm : KS) (T : List Tn) : List Tn := T.filter fun x => !decide (x.n = nm)
theorem atR_snoc (T : List Tn) (nm : KS) (p : Tn) : atR (T ++ [p]) nm = if p.n = nm then p.k else atR T nm := by unfold atR; rw [List.foldl_append]; rfl
theorem offT_ne {nm : KS} {T : List Tn} {p : Tn} (e : p.n ≠ nm) : offT nm (T ++ [p]) = offT nm T ++ [p] := by unfold offT; rw [List.filter_append, List.filter_cons, if_pos (by simpa using e)]; rfl
theorem offT_eq {nm : KS} {T : List Tn} {p : Tn} (e : p.n = nm) : offT nm (T ++ [p]) = offT nm T := by unfold offT; rw [List.filter_append, List.filter_cons, if_neg (by simpa using e)]; simp
def newT (nm : KS) (T : List Tn) (v : Int) : List Tn := offT nm T ++ [⟨nm, v⟩]
theorem offT_len (nm : KS) (T : List Tn) : (offT nm T).length ≤ T.length := List.length_filter_le _ _
structure TU (w : World) (t0 t1 : Value) (nm : KS) (av : Value) (wr : World) : Prop where
  x : HBk wr w.heap.size t0 t1
  u : wr.heap[w.heap.size + 1]? = some (.cells #[.string nm, av] 32)
  z : HBk wr (w.heap.size + 1 + 1) (.slice none 0 0) (.slice none 0 0)
  b : Below w.heap.size w wr
theorem TU.keep {w : World} {t0 t1 av : Value} {nm : KS} {wr w' : World} (h : TU w t0 t1 nm av wr) (k : Below (w.heap.size + 1 + 1 + 1) wr w') : TU w t0 t1 nm av w' := ⟨h.x.keep k (by omega), (k.block _ (by omega)).trans h.u, h.z.keep k (by omega), h.b.trans (k.mono (by omega))⟩
theorem tu_three (w : World) (t0 t1 : Value) (nm : KS) (av : Value) : TU w t0 t1 nm av (((w.alloc (.cells #[t0, t1] 57)).alloc (.cells #[.string nm, av] 32)).alloc (.cells #[.slice none 0 0, .slice none 0 0] 57)) := by
  have G := tg_three w t0 t1 (.cells #[.string nm, av] 32)
  refine ⟨G.x, (Below.heap_alloc _ _ _ (by simp)).trans ?_, G.z, G.b⟩
  have := tblk_new (w.alloc (.cells #[t0, t1] 57)) (.cells #[.string nm, av] 32)
  rwa [show (w.alloc (.cells #[t0, t1] 57)).heap.size = w.heap.size + 1 by simp] at this
theorem owt_app {w : World} {l c6 : Nat} {t0 t1 av : Value} {nm : KS} {a6 : Option Addr} {o : List Tn} {wr : World} (HO : OwR 97 2 encT (w.heap.size + 1 + 1 + 1) wr (.slice a6 l c6) o) (hl : l = o.length) (HT : TU w t0 t1 nm av wr) (p : Tn) (ho : o.length ≤ 1000001) :
    ∃ a7 c7 w7, (Builtin.append_ #[55, 55] 55 #[.slice a6 l c6, .slice (some ⟨wr.heap.size, 0, none⟩) 1 1]).run Try.prog (wr.alloc (.cells #[.string p.n, .int .i64 p.k] 97)) = .ok (.slice a7 (l + 1) c7) w7 ∧ OwR 97 2 encT (w.heap.size + 1 + 1 + 1) w7 (.slice a7 (l + 1) c7) (o ++ [p]) ∧ Below (w.heap.size + 1 + 1 + 1) wr w7 := by
  obtain ⟨v7, w7, r7, O7, B7, _⟩ := owr_append ET Try.underlying55 infoT rfl (by decide) HO HT.z.lt p (by omega)
  obtain ⟨a7, c7, rfl, _, _⟩ := O7.rd ET
  have hlen : (o ++ [p]).length = l + 1 := by rw [List.length_append, hl]; rfl
  rw [hlen] at r7 O7
  exact ⟨a7, c7, w7, r7, O7, B7⟩
theorem TU.fin {w : World} {t0 t1 av : Value} {nm : KS} {wr : World} {u : Value} {o : List Tn} (T : TU w t0 t1 nm av wr) (O : OwR 97 2 encT (w.heap.size + 1 + 1 + 1) wr u o) :
    OwR 97 2 encT w.heap.size (((wr.setCell ⟨w.heap.size, 1, none⟩ u).setCell ⟨w.heap.size + 1 + 1, 0, none⟩ t0).setCell ⟨w.heap.size + 1 + 1, 1, none⟩ u) u o ∧ Below w.heap.size w (((wr.setCell ⟨w.heap.size, 1, none⟩ u).setCell ⟨w.heap.size + 1 + 1, 0, none⟩ t0).setCell ⟨w.heap.size + 1 + 1, 1, none⟩ u) :=
  ⟨(owr_set (owr_set (owr_set O (by omega)) (by omega)) (by omega)).mono (by omega), ((T.b.setCell (p := ⟨w.heap.size, 1, none⟩) (Nat.le_refl _) _).setCell (p := ⟨w.heap.size + 1 + 1, 0, none⟩) (show w.heap.size ≤ w.heap.size + 1 + 1 by omega) _).setCell (p := ⟨w.heap.size + 1 + 1, 1, none⟩) (show w.heap.size ≤ w.heap.size + 1 + 1 by omega) _⟩
theorem TU.drewN {w : World} {t0 t1 av : Value} {nm : KS} {wr : World} (h : TU w t0 t1 nm av wr) (n : Nat) : TU w t0 t1 nm av (wr.drewN n) := ⟨h.x, h.u, h.z, ⟨h.b.os, h.b.tape, h.b.output, h.b.size, h.b.block⟩⟩
theorem TU.set1 {w : World} {t0 t1 av : Value} {nm : KS} {wr : World} (T : TU w t0 t1 nm av wr) (v : Value) : TU w t0 v nm av (wr.setCell ⟨w.heap.size, 1, none⟩ v) := by
  have hx := T.x
  refine ⟨?_, (Below.heap_setCell _ _ _ _ (by show w.heap.size + 1 ≠ w.heap.size; omega)).trans T.u, (Below.heap_setCell _ _ _ _ (by show w.heap.size + 1 + 1 ≠ w.heap.size; omega)).trans T.z, T.b.setCell (p := ⟨w.heap.size, 1, none⟩) (Nat.le_refl _) _⟩
  unfold HBk at hx ⊢
  simp [World.setCell, Array.getElem?_modify, hx]
theorem pick_facts {w : World} {t0 t1 av : Value} {nm am : KS} {wr w5 : World} {g o : Nat} (h : TU w t0 t1 nm av wr) (hg : g < wr.heap.size) (ec : wr.cell? ⟨g, o, none⟩ = some (.string am)) (B : Below wr.drew.heap.size wr.drew w5) :
    w5.cell? ⟨w.heap.size, 0, none⟩ = some t0 ∧ w5.cell? ⟨w.heap.size, 1, none⟩ = some t1 ∧ w5.cell? ⟨w.heap.size + 1, 1, none⟩ = some av ∧ w5.cell? ⟨g, o, none⟩ = some (.string am) ∧ Hid (Below wr.heap.size wr w5 ∧ TU w t0 t1 nm av w5) := by
  have B' : Below wr.heap.size wr w5 := ⟨B.os, B.tape, B.output, B.size, B.block⟩
  have T5 := h.keep (B'.mono h.z.lt)
  exact ⟨T5.x.c0, T5.x.c1, tblk_cell T5.u rfl, (B'.cell (p := ⟨g, o, none⟩) hg).trans ec, B', T5⟩
set_option maxRecDepth 100000 in
set_option maxHeartbeats 4000000 in
theorem rpick_any (M : List Mk) (T : List Tn) (nm : KS) (xs : List KS) (now : Int) (am at' a1 : Option Addr) (cm ct cx tn : Nat) (w : World) (hM : RdR 3 encM w am cm M) (hT : RdR 2 encT w at' ct T) (hX : Tx w a1 xs) (hml : M.length ≤ 1000000) (htl : T.length ≤ 1000000) (hat : atR T nm = (tn : Int)) (htn : tn ≤ 1000000) {P : Ending → World → Prop}
    (kA : ∀ i a' c' w', i < xs.length → (∀ j, j < i → decide (now < (markR M (aimAt xs tn j)).u) = true) → decide (now < (markR M (aimAt xs tn i)).u) = false → OwR 97 2 encT w.heap.size w' (.slice a' (newT nm T ((((tn + i) % xs.length : Nat) : Int) + 1)).length c') (newT nm T ((((tn + i) % xs.length : Nat) : Int) + 1)) → Below w.heap.size w w' → P (.returned (.tuple #[.agg #[.slice am M.length cm, .slice a' (newT nm T ((((tn + i) % xs.length : Nat) : Int) + 1)).length c'], .string (aimAt xs tn i), .int .i64 0])) w')
    (kB : ∀ w', (∀ j, j < xs.length → decide (now < (markR M (aimAt xs tn j)).u) = true) → Below w.heap.size w w' → P (.returned (.tuple #[.agg #[.slice am M.length cm, .slice at' T.length ct], .string ⟨#[]⟩, .int .i64 4])) w') :
    Calls Try.prog 23 #[.agg #[.slice am M.length cm, .slice at' T.length ct], .agg #[.string nm, .slice a1 xs.length cx], .int .i64 now] w P := by
  have HS : Hid (∀ s W, Below w.heap.size w W → Calls Try.prog 30 #[.agg #[.slice am M.length cm, .slice at' T.length ct], .string s, .int .i64 now] W fun e w' => e = .returned (.bool (decide (now < (markR M s).u))) ∧ Below W.heap.size W w') := fun s W b => rsick_any M am cm (.slice at' T.length ct) rfl s now W (hM.keep b) hml
  have HFT : Hid (∀ W, Below w.heap.size w W → RdR 2 encT W at' ct T) := fun W b => hT.keep b
  have HFX : Hid (∀ W, Below w.heap.size w W → Tx W a1 xs) := fun W b => hX.keep b
  have HA := hidE kA
  have HB := hidE kB
  have HAT := hidE hat
  have hx1 := hX.1
  have HG0 : Hid (∀ g off, a1 = some ⟨g, off, none⟩ → 0 < xs.length → g < w.heap.size) := fun g off e hp => by
    obtain ⟨g', off', e', hg, _⟩ := hX.2.2 hp
    rw [e] at e'; cases e'; exact hg
  obtain ⟨n, hn⟩ : ∃ n, n = T.length := ⟨_, rfl⟩
  have HNN : Hid (T.length = n) := hn.symm
  obtain ⟨x, hx⟩ : ∃ x, x = xs.length := ⟨_, rfl⟩
  have HXN : Hid (xs.length = x) := hx.symm
  generalize M.length = ml at *
  rw [← hn] at htl HS HB ⊢
  rw [← hx] at hx1 HA HB HG0 ⊢
  have HT0 := hidE (tu_three w (.slice am ml cm) (.slice at' n ct) nm (.slice a1 x cx))
  have HTN : Hid (tn ≤ 1000000) := htn
  clear hn hx hM hT hX kA kB hat hml htn
  go_enter Try.func23, Try.ntmps23
  go_wp2_with fail
  obtain ⟨w2, hw2⟩ : ∃ w2, w2 = ((w.alloc (.cells #[.slice am ml cm, .slice at' n ct] 57)).alloc (.cells #[.string nm, .slice a1 x cx] 32)).alloc (.cells #[.slice none 0 0, .slice none 0 0] 57) := ⟨_, rfl⟩
  have S2 : w2.heap.size = w.heap.size + 1 + 1 + 1 := by rw [hw2]; simp
  have ht := HT0.out
  rw [← hw2] at ht ⊢
  have HO0 : Hid (OwR 97 2 encT (w.heap.size + 1 + 1 + 1) (w2.alloc (.cells #[] 97)) (.slice (some ⟨w.heap.size + 1 + 1 + 1, 0, none⟩) 0 0) []) := by rw [← S2]; exact OwR.empty _ _ _ _ _ (Nat.le_refl _)
  have HT1 := hidE (ht.keep ((Below.refl _ _).alloc (Nat.le_of_eq S2.symm) (.cells #[] 97)))
  clear hw2 HT0 S2 ht
  go_loopw [9, 10, 11] (fun v9 v6 vi wr => ∃ (k : Nat) (a6 : Option Addr) (c6 q : Nat) (z : Int), k ≤ n ∧ vi = .int .i64 k ∧ v6 = .slice a6 q c6 ∧ v9 = .int .i64 z ∧ Hid (z = atR (T.take k) nm) ∧ Hid (q = (offT nm (T.take k)).length) ∧ Hid (OwR 97 2 encT (w.heap.size + 1 + 1 + 1) wr (.slice a6 q c6) (offT nm (T.take k))) ∧ Hid (TU w (.slice am ml cm) (.slice at' n ct) nm (.slice a1 x cx) wr)) (fun _ _ vi _ => n - (intOf vi).toNat)
  case atStart => exact ⟨0, _, _, 0, 0, Nat.zero_le _, rfl, rfl, rfl, rfl, rfl, HO0, HT1⟩
  case round =>
    clear HO0 HT1
    obtain ⟨k, a6, c6, q, z, hk, rfl, rfl, rfl, HZ, HQ, HO, HT⟩ := hrel
    have c1 := HT.out.x.c1
    by_cases hlt : k < n
    · have hfw := HFT.out wr HT.out.b
      obtain ⟨p, hp⟩ : ∃ p, T[k]? = some p := ⟨T[k]'(by rw [HNN.out]; exact hlt), List.getElem?_eq_getElem _⟩
      obtain ⟨g, off, rfl, hg, hc⟩ := hfw.at hp
      obtain ⟨d0, d1⟩ := hfw.t2 hp
      have i1 : (0 : Int) ≤ k := by omega
      have i2 : (k : Int) < n := by omega
      have HTK := hidE (takeM hp)
      have y0 : wr.cell? ⟨w.heap.size + 1, 0, none⟩ = some (.string nm) := tblk_cell HT.out.u rfl
      by_cases he : p.n = nm
      · have e1 := ks_eq he
        have HO2 : Hid (OwR 97 2 encT (w.heap.size + 1 + 1 + 1) wr (.slice a6 q c6) (offT nm (T.take (k + 1)))) := by rw [Hid, HTK.out, offT_eq he]; exact HO.out
        have HQ2 : Hid (q = (offT nm (T.take (k + 1))).length) := by rw [Hid, HTK.out, offT_eq he]; exact HQ.out
        have HZ2 : Hid (p.k = atR (T.take (k + 1)) nm) := by rw [Hid, HTK.out, atR_snoc, if_pos he]
        clear hfw hp hg hc HTK he HO HQ HZ
        obtain ⟨x1, x2⟩ := p
        simp only at d0 d1 e1 HZ2
        go_wp2_with fail
        go_quiet (fail)
        have HT2 := hidE (HT.out.drewN nq)
        have HO8 : Hid (OwR 97 2 encT (w.heap.size + 1 + 1 + 1) (wr.drewN nq) (.slice a6 q c6) (offT nm (T.take (k + 1)))) := HO2.out.move fun _ _ _ _ _ => rfl
        clear HT HO2
        go_wp2
        go_roundw
        case rel => exact ⟨k + 1, _, _, q, x2, by omega, by go_num, rfl, rfl, HZ2, HQ2, HO8, HT2⟩
        case measure => simp [intOf]; omega
      · have e1 := ks_ne he
        have HLL : Hid ((offT nm (T.take k)).length ≤ 1000001) := by have := offT_len nm (T.take k); rw [List.length_take] at this; show _ ≤ _; omega
        have HRE : Hid (offT nm (T.take (k + 1)) = offT nm (T.take k) ++ [p]) := by rw [Hid, HTK.out, offT_ne he]
        have HZ2 : Hid (z = atR (T.take (k + 1)) nm) := by rw [Hid, HTK.out, atR_snoc, if_neg he]; exact HZ.out
        clear hfw hp hg hc HTK he HZ
        obtain ⟨x1, x2⟩ := p
        simp only at d0 d1 e1
        go_wp2_with fail
        go_quiet (fail)
        have T8 := HT.out.drewN nq
        have O8 : OwR 97 2 encT (w.heap.size + 1 + 1 + 1) (wr.drewN nq) (.slice a6 q c6) (offT nm (T.take k)) := HO.out.move fun _ _ _ _ _ => rfl
        obtain ⟨a7, c7, w7, r7, O7, B7⟩ := owt_app O8 HQ.out T8 ⟨x1, x2⟩ HLL.out
        rw [← HRE.out] at O7
        have HO2 := hidE O7
        have HQ2 : Hid (q + 1 = (offT nm (T.take (k + 1))).length) := by rw [Hid, HRE.out, List.length_append, ← HQ.out]; rfl
        have HT2 := hidE (T8.keep B7)
        clear T8 O8 O7 B7 HT HO HQ HLL HRE y0
        simp only at r7
        go_wp2_with (at_builtin; refine wpList_append_run2 rfl _ _ 55 55 rfl _ _ _ w7 rfl rfl r7 ?_; clear r7)
        go_roundw
        case rel => exact ⟨k + 1, _, _, q + 1, z, by omega, by go_num, rfl, rfl, HZ2, HQ2, HO2, HT2⟩
        case measure => simp [intOf]; omega
    · obtain rfl : k = n := by omega
      have HE : Hid (T.take k = T) := by rw [Hid, ← HNN.out]; exact List.take_length
      have hz := HZ.out
      rw [HE.out, HAT.out] at hz
      subst hz
      have hQ := HQ.out
      have hO := HO.out
      rw [HE.out] at hQ hO
      have HQ3 := hidE hQ
      have HO3 := hidE hO
      clear HQ HO hQ hO HE HZ hlt HFT HAT
      have u1 : wr.cell? ⟨w.heap.size + 1, 1, none⟩ = some (.slice a1 x cx) := tblk_cell HT.out.u rfl
      obtain ⟨w1, hw1⟩ : ∃ w1, w1 = wr := ⟨_, rfl⟩
      subst hw1
      go_wp2_with fail
      clear u1 c1
      go_loopw [13] (fun vi wr => ∃ i : Nat, i ≤ x ∧ vi = .int .i64 i ∧ Hid (∀ j, j < i → decide (now < (markR M (aimAt xs tn j)).u) = true) ∧ Hid (Below w1.heap.size w1 wr)) (fun vi _ => x - (intOf vi).toNat)
      case atStart => exact ⟨0, Nat.zero_le _, rfl, fun j hj => absurd hj (Nat.not_lt_zero _), Below.refl _ _⟩
      case round =>
        obtain ⟨i, hi, rfl, HSK, HBW⟩ := hrel
        have hzlt := HT.out.z.lt
        have T4 := HT.out.keep (HBW.out.mono (by omega))
        have c0 := T4.x.c0
        have c1 := T4.x.c1
        have u0 : wr.cell? ⟨w.heap.size + 1, 0, none⟩ = some (.string nm) := tblk_cell T4.u rfl
        have u1 : wr.cell? ⟨w.heap.size + 1, 1, none⟩ = some (.slice a1 x cx) := tblk_cell T4.u rfl
        by_cases hlt : i < x
        · have hpl : (tn + i) % x < x := Nat.mod_lt _ (by omega)
          have htx := HFX.out wr T4.b
          obtain ⟨g, off, rfl, hg, hc⟩ := htx.2.2 (by rw [HXN.out]; omega)
          have HGX : Hid (g < w.heap.size) := HG0.out g off rfl (by omega)
          have ec := hc ((tn + i) % x) (by rw [HXN.out]; exact hpl)
          have ea : xs.getD ((tn + i) % x) ⟨#[]⟩ = aimAt xs tn i := by unfold aimAt; rw [HXN.out]
          rw [ea] at ec
          have htn := HTN.out
          have f1 : IntKind.i64.wrap ((tn : Int) + (i : Int)) = (tn : Int) + (i : Int) := by rw [IntKind.wrap_i64]; omega
          have f2 : ((tn : Int) + (i : Int)) % (x : Int) = (((tn + i) % x : Nat) : Int) := rfl
          have f3 : ((x : Int) == 0) = false := by simp; omega
          have HSI := hidE (HS.out (aimAt xs tn i))
          have HAZ : Hid (decide (now < (markR M (aimAt xs tn i)).u) = false → ∀ a' c' w', OwR 97 2 encT w.heap.size w' (.slice a' (newT nm T ((((tn + i) % x : Nat) : Int) + 1)).length c') (newT nm T ((((tn + i) % x : Nat) : Int) + 1)) → Below w.heap.size w w' → P (.returned (.tuple #[.agg #[.slice am ml cm, .slice a' (newT nm T ((((tn + i) % x : Nat) : Int) + 1)).length c'], .string (aimAt xs tn i), .int .i64 0])) w') := fun hd a' c' w' => HA.out i a' c' w' hlt HSK.out hd
          have HLN : Hid (∀ v, (newT nm T v).length = q + 1) := fun v => by unfold newT; rw [List.length_append, HQ3.out]; rfl
          obtain ⟨Q, hP⟩ : ∃ Q, Q = (tn + i) % x := ⟨_, rfl⟩
          rw [← hP] at ec hpl f2 HAZ
          have m1 : (0 : Int) ≤ Q := by omega
          have m2 : (Q : Int) < x := by omega
          have f4 : IntKind.i64.wrap ((Q : Int) + 1) = (Q : Int) + 1 := by rw [IntKind.wrap_i64]; omega
          have HSN : Hid (decide (now < (markR M (aimAt xs tn i)).u) = true → ∀ j, j < i + 1 → decide (now < (markR M (aimAt xs tn j)).u) = true) := fun hd j hj => by
            rcases Nat.lt_or_ge j i with k | k
            · exact HSK.out j k
            · obtain rfl : j = i := by omega
              exact hd
          have HT4 := hidE T4
          have HG : Hid (g < wr.heap.size ∧ w.heap.size + 1 + 1 + 1 ≤ w1.heap.size) := ⟨hg, by omega⟩
          have HO4 : Hid (OwR 97 2 encT (w.heap.size + 1 + 1 + 1) wr (.slice a6 q c6) (offT nm T)) := HO3.out.grow HBW.out
          generalize aimAt xs tn i = am' at *
          generalize decide (now < (markR M am').u) = sk at *
          clear htx hc ea htn hP HA hzlt T4 hg HSK
          go_wp2_with fail
          rw [f2]
          go_region_held3 (fun W => W.cell? ⟨w.heap.size, 0, none⟩ = some (.slice am ml cm) ∧ W.cell? ⟨w.heap.size, 1, none⟩ = some (.slice at' k ct) ∧ W.cell? ⟨w.heap.size + 1, 1, none⟩ = some (.slice (some ⟨g, off, none⟩) x cx) ∧ W.cell? ⟨g, off + Q, none⟩ = some (.string am')) (go_keep) (first | (go_at_call 30; refine (HSI.out _ HT4.out.b.drew).mono ?_; rintro e w5 ⟨rfl, B5⟩; obtain ⟨s0, s1, s2, s3, s4⟩ := pick_facts HT4.out HG.out.1 ec B5))
          have y0 : w5.cell? ⟨w.heap.size + 1, 0, none⟩ = some (.string nm) := tblk_cell s4.out.2.u rfl
          cases sk with
          | true =>
            have HS5 := hidE (HSN.out rfl)
            have HB5 : Hid (Below w1.heap.size w1 w5) := HBW.out.trans (s4.out.1.mono HBW.out.size)
            clear HSN HAZ HSI HLN HG HO4 HBW HT4 s4 s0 s1 s2 s3 y0 ec c0 c1 u0 u1
            go_wp2
            go_roundw
            case rel => exact ⟨i + 1, by omega, by go_num, HS5, HB5⟩
            case measure => simp [intOf]; omega
          | false =>
            have O5 := HO4.out.grow s4.out.1
            obtain ⟨a7, c7, w7, r7, O7, B7⟩ := owt_app O5 HQ3.out s4.out.2 ⟨nm, (Q : Int) + 1⟩ (by have := offT_len nm T; rw [HNN.out] at this; omega)
            have e7 : offT nm T ++ [⟨nm, (Q : Int) + 1⟩] = newT nm T ((Q : Int) + 1) := rfl
            rw [e7] at O7
            have T7 := s4.out.2.keep B7
            have hgn : g < w.heap.size := HGX.out
            have b2 : w7.cell? ⟨g, off + Q, none⟩ = some (.string am') := (B7.cell (p := ⟨g, off + Q, none⟩) (by show g < _; omega)).trans s3
            have t1 := T7.x.c1
            have tz := T7.x.z 1
            have HFN := hidE (T7.fin O7)
            have T8 := T7.set1 (.slice a7 (q + 1) c7)
            have b28 : (w7.setCell ⟨w.heap.size, 1, none⟩ (.slice a7 (q + 1) c7)).cell? ⟨g, off + Q, none⟩ = some (.string am') := by rw [World.cell?_of_block (w := w7) (a := ⟨g, off + Q, none⟩) (Below.heap_setCell w7 ⟨w.heap.size, 1, none⟩ _ g (by show g ≠ w.heap.size; omega))]; exact b2
            have HFN8 : Hid (∀ W, W = (w7.setCell ⟨w.heap.size, 1, none⟩ (.slice a7 (q + 1) c7)) → OwR 97 2 encT w.heap.size ((W.setCell ⟨w.heap.size + 1 + 1, 0, none⟩ (.slice am ml cm)).setCell ⟨w.heap.size + 1 + 1, 1, none⟩ (.slice a7 (q + 1) c7)) (.slice a7 (q + 1) c7) (newT nm T ((Q : Int) + 1)) ∧ Below w.heap.size w ((W.setCell ⟨w.heap.size + 1 + 1, 0, none⟩ (.slice am ml cm)).setCell ⟨w.heap.size + 1 + 1, 1, none⟩ (.slice a7 (q + 1) c7))) := fun W e => by subst e; exact HFN.out
            have HZZ : Hid (∀ a' c' w', OwR 97 2 encT w.heap.size w' (.slice a' (q + 1) c') (newT nm T ((Q : Int) + 1)) → Below w.heap.size w w' → P (.returned (.tuple #[.agg #[.slice am ml cm, .slice a' (q + 1) c'], .string am', .int .i64 0])) w') := by rw [← HLN.out ((Q : Int) + 1)]; exact HAZ.out rfl
            clear HSN HAZ HSI HLN HG HO4 HBW HT4 s4 s0 s1 s2 O5 O7 B7 T7 e7 ec c0 c1 u0 u1 HT HO3 HQ3 HS HB HFX HGX HFN s3 b2
            simp only at r7
            go_wp2_with (at_builtin; refine wpList_append_run2 rfl _ _ 55 55 rfl _ _ _ w7 rfl rfl r7 ?_; clear r7)
            obtain ⟨w8, hw8⟩ : ∃ w8, w8 = w7.setCell ⟨w.heap.size, 1, none⟩ (.slice a7 (q + 1) c7) := ⟨_, rfl⟩
            have HF8 := hidE (HFN8.out w8 hw8)
            rw [← hw8] at T8 b28 ⊢
            have k0 := T8.x.c0
            have k1 := T8.x.c1
            have b1 : w8.cell? ⟨w.heap.size + 1, 1, none⟩ = some (.slice (some ⟨g, off, none⟩) x cx) := tblk_cell T8.u rfl
            have v0 := T8.z.c0
            have v1 := T8.z.c1
            have z0 := T8.z.z 0
            have z1 := T8.z.z 1
            have ng3 : ¬ g = w.heap.size + 1 + 1 := by omega
            have ng4 : ¬ w.heap.size + 1 + 1 = g := by omega
            have ng5 : ¬ w.heap.size = w.heap.size + 1 + 1 := by omega
            have ng6 : ¬ w.heap.size + 1 + 1 = w.heap.size := by omega
            clear hw8 T8 HFN8 t1 tz hgn
            go_region_held3 (fun W => W.cell? ⟨w.heap.size, 0, none⟩ = some (.slice am ml cm) ∧ W.cell? ⟨w.heap.size, 1, none⟩ = some (.slice a7 (q + 1) c7) ∧ W.cell? ⟨w.heap.size + 1, 1, none⟩ = some (.slice (some ⟨g, off, none⟩) x cx) ∧ W.cell? ⟨g, off + Q, none⟩ = some (.string am')) (go_keep) (first | fail)
            clear k0 k1 b1 b28
            go_wp2
            refine bodyPost_ret (v := .tuple #[.agg #[.slice am ml cm, .slice a7 (q + 1) c7], .string am', .int .i64 0]) (by simp [results, Try.results23, go_sem, v0, v1]) rfl ?_
            exact HZZ.out _ _ _ (HF8.out.1.move fun _ _ _ _ _ => rfl) ⟨HF8.out.2.os, HF8.out.2.tape, HF8.out.2.output, HF8.out.2.size, HF8.out.2.block⟩
        · obtain rfl : i = x := by omega
          have HZB : Hid (∀ w', Below w.heap.size w w' → P (.returned (.tuple #[.agg #[.slice am ml cm, .slice at' k ct], .string ⟨#[]⟩, .int .i64 4])) w') := fun w' => HB.out w' HSK.out
          have v0 := T4.z.c0
          have v1 := T4.z.c1
          have z0 := T4.z.z 0
          have z1 := T4.z.z 1
          have HBE : Hid (Below w.heap.size w ((wr.setCell ⟨w.heap.size + 1 + 1, 0, none⟩ (.slice am ml cm)).setCell ⟨w.heap.size + 1 + 1, 1, none⟩ (.slice at' k ct))) := (T4.b.setCell (p := ⟨w.heap.size + 1 + 1, 0, none⟩) (show w.heap.size ≤ w.heap.size + 1 + 1 by omega) _).setCell (p := ⟨w.heap.size + 1 + 1, 1, none⟩) (show w.heap.size ≤ w.heap.size + 1 + 1 by omega) _
          clear HSK HB HA T4 HBW HT HO3 HQ3 HS HFX
          go_wp2
          refine bodyPost_ret (v := .tuple #[.agg #[.slice am ml cm, .slice at' k ct], .string ⟨#[]⟩, .int .i64 4]) (by simp [results, Try.results23, go_sem, v0, v1]) rfl ?_
          exact HZB.out _ HBE.out
end Go.Proofs.Ytlaigjapnmgjeaa
