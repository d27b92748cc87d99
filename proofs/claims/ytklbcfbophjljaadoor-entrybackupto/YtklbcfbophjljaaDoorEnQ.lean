/- EntryBack's walk. -/
import Derived.Test.YtklbcfbophjljaaDoorEnO
import Derived.Deep.RegionHeld3
import Derived.Deep.DeepCutAuto
namespace Go.Proofs.YtklbcfbophjljaaDoor
open Go.RowKit
set_option linter.unusedVariables false

/-- The two records in their blocks. -/
structure BK (w : World) (x y : EntP) (W : World) : Prop where
  bel : Below w.heap.size w W
  bx : W.heap[w.heap.size]? = some (.cells (entV x) 23)
  by_ : W.heap[w.heap.size + 1]? = some (.cells (entV y) 23)
theorem BK.next {w W V : World} {x y : EntP} (h : BK w x y W) (b : Below W.heap.size W V) : BK w x y V := ⟨h.bel.trans (b.mono h.bel.size), tblk_below h.bx b, tblk_below h.by_ b⟩
theorem BK.cells {w W : World} {x y : EntP} (h : BK w x y W) : W.cell? ⟨w.heap.size, 0, none⟩ = some (.int .i64 x.q) ∧ W.cell? ⟨w.heap.size, 1, none⟩ = some (.int .i64 x.a) ∧ W.cell? ⟨w.heap.size, 2, none⟩ = some (.int .i64 x.k) ∧ W.cell? ⟨w.heap.size, 3, none⟩ = some (.int .i64 x.n) ∧ W.cell? ⟨w.heap.size, 4, none⟩ = some (.string x.m) ∧ W.cell? ⟨w.heap.size, 5, none⟩ = some (.string x.t) ∧ W.cell? ⟨w.heap.size, 6, none⟩ = some (.int .i64 x.c) ∧ W.cell? ⟨w.heap.size, 7, none⟩ = some (.int .i64 x.u) ∧ W.cell? ⟨w.heap.size, 8, none⟩ = some (.int .i64 x.d) ∧ W.cell? ⟨w.heap.size + 1, 0, none⟩ = some (.int .i64 y.q) ∧ W.cell? ⟨w.heap.size + 1, 1, none⟩ = some (.int .i64 y.a) ∧ W.cell? ⟨w.heap.size + 1, 2, none⟩ = some (.int .i64 y.k) ∧ W.cell? ⟨w.heap.size + 1, 3, none⟩ = some (.int .i64 y.n) ∧ W.cell? ⟨w.heap.size + 1, 4, none⟩ = some (.string y.m) ∧ W.cell? ⟨w.heap.size + 1, 5, none⟩ = some (.string y.t) ∧ W.cell? ⟨w.heap.size + 1, 6, none⟩ = some (.int .i64 y.c) ∧ W.cell? ⟨w.heap.size + 1, 7, none⟩ = some (.int .i64 y.u) ∧ W.cell? ⟨w.heap.size + 1, 8, none⟩ = some (.int .i64 y.d) :=
  ⟨tblk_cell h.bx rfl, tblk_cell h.bx rfl, tblk_cell h.bx rfl, tblk_cell h.bx rfl, tblk_cell h.bx rfl, tblk_cell h.bx rfl, tblk_cell h.bx rfl, tblk_cell h.bx rfl, tblk_cell h.bx rfl, tblk_cell h.by_ rfl, tblk_cell h.by_ rfl, tblk_cell h.by_ rfl, tblk_cell h.by_ rfl, tblk_cell h.by_ rfl, tblk_cell h.by_ rfl, tblk_cell h.by_ rfl, tblk_cell h.by_ rfl, tblk_cell h.by_ rfl⟩
/-- What a Write leaves. -/
def WrF (e : EntP) (W : World) (f : Int) (a : Option Addr) (n c k : Nat) : Prop := (f = 0 ∧ rightE e = true ∧ n = (lineL e).length ∧ Src W k (.slice a n c) (lineL e) ∧ k < W.heap.size) ∨ (f = 1 ∧ rightE e = false)
theorem wrf_any (e : EntP) (w : World) (hm : e.m.size ≤ maxLen) (ht : e.t.size ≤ maxLen) (h : AlE w) : Calls Tryd.prog 9 #[.agg (entV e)] w fun r w' => ∃ f a n c k, r = .returned (.tuple #[.slice a n c, .int .i64 f]) ∧ WrF e w' f a n c k ∧ Below w.heap.size w w' := by
  refine (enwrite_any e w hm ht h.l h.p).mono fun r w' hq => ?_
  unfold WrR at hq
  cases hr : rightE e
  · rw [if_neg (by rw [hr]; decide)] at hq
    exact ⟨1, none, 0, 0, 0, hq.1, .inr ⟨rfl, hr⟩, hq.2⟩
  · rw [if_pos hr] at hq
    obtain ⟨a, c, k, e1, hS, h1, h2, B⟩ := hq
    exact ⟨0, a, _, c, k, e1, .inl ⟨rfl, hr, rfl, hS, h2⟩, B⟩
set_option maxRecDepth 100000 in
set_option maxHeartbeats 3200000 in
theorem back_walk (x y : EntP) (b : List UInt8) (k : Nat) (a : Option Addr) (n c : Nat) (w : World) (hxm : x.m.size ≤ maxLen) (hxt : x.t.size ≤ maxLen) (hym : y.m.size ≤ maxLen) (hyt : y.t.size ≤ maxLen)
    (hS : Src w k (.slice a n c) b) (hk : 0 < b.length → k < w.heap.size) (hb : b.length ≤ 1048576) (h : AlE w) :
    Calls Tryd.prog 5 #[.agg (entV x), .agg (entV y), .slice a n c] w fun r w' => r = .returned (.bool true) ∧ Below w.heap.size w w' := by
  have hrf := hS.len.1
  subst hrf
  have K0 : BK w x y ((w.alloc (.cells (entV x) 23)).alloc (.cells (entV y) 23)) := by
    have n0 := tblk_new w (.cells (entV x) 23)
    have n1 := tblk_new (w.alloc (.cells (entV x) 23)) (.cells (entV y) 23)
    have s1 : (w.alloc (.cells (entV x) 23)).heap.size = w.heap.size + 1 := by simp
    rw [s1] at n1
    have B1 : Below (w.alloc (.cells (entV x) 23)).heap.size (w.alloc (.cells (entV x) 23)) ((w.alloc (.cells (entV x) 23)).alloc (.cells (entV y) 23)) := (Below.refl _ _).alloc (Nat.le_refl _) _
    exact ⟨((Below.refl _ _).alloc (Nat.le_refl _) _).alloc (by simp) _, tblk_below n0 B1, n1⟩
  have HAV : Hid (∀ W, BK w x y W → Calls Tryd.prog 8 #[] W fun r w' => r = .returned (.bool true) ∧ Hid (BK w x y w')) := fun W hW => (alive13_any W (h.below hW.bel)).mono fun r w' hq => ⟨hq.1, hW.next hq.2⟩
  have HWA : Hid (∀ W, BK w x y W → Calls Tryd.prog 9 #[.agg (entV x)] W fun r w' => ∃ f a n c k, r = .returned (.tuple #[.slice a n c, .int .i64 f]) ∧ WrF x w' f a n c k ∧ Hid (BK w x y w')) := fun W hW => (wrf_any x W hxm hxt (h.below hW.bel)).mono fun r w' ⟨f, a, n, c, k, e, hq, B⟩ => ⟨f, a, n, c, k, e, hq, hW.next B⟩
  have HWB : Hid (∀ W, BK w x y W → Calls Tryd.prog 9 #[.agg (entV y)] W fun r w' => ∃ f a n c k, r = .returned (.tuple #[.slice a n c, .int .i64 f]) ∧ (WrF y w' f a n c k ∧ Below W.heap.size W w') ∧ Hid (BK w x y w')) := fun W hW => (wrf_any y W hym hyt (h.below hW.bel)).mono fun r w' ⟨f, a, n, c, k, e, hq, B⟩ => ⟨f, a, n, c, k, e, ⟨hq, B⟩, hW.next B⟩
  have HRD : Hid (∀ W, BK w x y W → Calls Tryd.prog 12 #[.slice a b.length c] W fun r w' => r = .returned (.tuple #[.agg (entV (valL b)), .int .i64 (codR ⟨b.toArray⟩)]) ∧ Hid (BK w x y w')) := fun W hW => (enread_any b k a b.length c W (hS.keep hk hW.bel) (fun p => Nat.lt_of_lt_of_le (hk p) hW.bel.size) (by omega) (h.below hW.bel).m (h.below hW.bel).l (h.below hW.bel).p).mono fun r w' hq => ⟨hq.1, hW.next hq.2⟩
  have HXY : Hid (∀ wA wB, BK w x y wA → BK w x y wB → ∀ fa la na ca ka, WrF x wA fa la na ca ka → ∀ fb lb nb cb kb, (WrF y wB fb lb nb cb kb ∧ Below wA.heap.size wA wB) → (fa = 1) ∨ (fa = 0 ∧ fb = 1) ∨ (fa = 0 ∧ fb = 0 ∧ Hid (∀ W, W = wB.drew → Calls Tryd.prog 13 #[.slice la na ca, .slice lb nb cb] W fun e w' => e = .returned (.bool (sameE x y)) ∧ Below w.heap.size w w' ∧ (w'.cell? ⟨w.heap.size, 0, none⟩ = some (.int .i64 x.q) ∧ w'.cell? ⟨w.heap.size, 1, none⟩ = some (.int .i64 x.a) ∧ w'.cell? ⟨w.heap.size, 2, none⟩ = some (.int .i64 x.k) ∧ w'.cell? ⟨w.heap.size, 3, none⟩ = some (.int .i64 x.n) ∧ w'.cell? ⟨w.heap.size, 4, none⟩ = some (.string x.m) ∧ w'.cell? ⟨w.heap.size, 5, none⟩ = some (.string x.t) ∧ w'.cell? ⟨w.heap.size, 6, none⟩ = some (.int .i64 x.c) ∧ w'.cell? ⟨w.heap.size, 7, none⟩ = some (.int .i64 x.u) ∧ w'.cell? ⟨w.heap.size, 8, none⟩ = some (.int .i64 x.d) ∧ w'.cell? ⟨w.heap.size + 1, 0, none⟩ = some (.int .i64 y.q) ∧ w'.cell? ⟨w.heap.size + 1, 1, none⟩ = some (.int .i64 y.a) ∧ w'.cell? ⟨w.heap.size + 1, 2, none⟩ = some (.int .i64 y.k) ∧ w'.cell? ⟨w.heap.size + 1, 3, none⟩ = some (.int .i64 y.n) ∧ w'.cell? ⟨w.heap.size + 1, 4, none⟩ = some (.string y.m) ∧ w'.cell? ⟨w.heap.size + 1, 5, none⟩ = some (.string y.t) ∧ w'.cell? ⟨w.heap.size + 1, 6, none⟩ = some (.int .i64 y.c) ∧ w'.cell? ⟨w.heap.size + 1, 7, none⟩ = some (.int .i64 y.u) ∧ w'.cell? ⟨w.heap.size + 1, 8, none⟩ = some (.int .i64 y.d))))) := by
    intro wA wB KA KB fa la na ca ka hA fb lb nb cb kb hB
    rcases hA with ⟨rfl, rx, rfl, sA, lA⟩ | ⟨rfl, _⟩
    · obtain ⟨⟨rfl, ry, rfl, sB, lB⟩ | ⟨rfl, _⟩, BB⟩ := hB
      · refine .inr (.inr ⟨rfl, rfl, ?_⟩)
        rintro W rfl
        have sA' := sA.keep (fun _ => lA) BB
        have fin : ∀ w', Below wB.drew.heap.size wB.drew w' → Below w.heap.size w w' ∧ (w'.cell? ⟨w.heap.size, 0, none⟩ = some (.int .i64 x.q) ∧ w'.cell? ⟨w.heap.size, 1, none⟩ = some (.int .i64 x.a) ∧ w'.cell? ⟨w.heap.size, 2, none⟩ = some (.int .i64 x.k) ∧ w'.cell? ⟨w.heap.size, 3, none⟩ = some (.int .i64 x.n) ∧ w'.cell? ⟨w.heap.size, 4, none⟩ = some (.string x.m) ∧ w'.cell? ⟨w.heap.size, 5, none⟩ = some (.string x.t) ∧ w'.cell? ⟨w.heap.size, 6, none⟩ = some (.int .i64 x.c) ∧ w'.cell? ⟨w.heap.size, 7, none⟩ = some (.int .i64 x.u) ∧ w'.cell? ⟨w.heap.size, 8, none⟩ = some (.int .i64 x.d) ∧ w'.cell? ⟨w.heap.size + 1, 0, none⟩ = some (.int .i64 y.q) ∧ w'.cell? ⟨w.heap.size + 1, 1, none⟩ = some (.int .i64 y.a) ∧ w'.cell? ⟨w.heap.size + 1, 2, none⟩ = some (.int .i64 y.k) ∧ w'.cell? ⟨w.heap.size + 1, 3, none⟩ = some (.int .i64 y.n) ∧ w'.cell? ⟨w.heap.size + 1, 4, none⟩ = some (.string y.m) ∧ w'.cell? ⟨w.heap.size + 1, 5, none⟩ = some (.string y.t) ∧ w'.cell? ⟨w.heap.size + 1, 6, none⟩ = some (.int .i64 y.c) ∧ w'.cell? ⟨w.heap.size + 1, 7, none⟩ = some (.int .i64 y.u) ∧ w'.cell? ⟨w.heap.size + 1, 8, none⟩ = some (.int .i64 y.d)) := fun w' q => by
          have q' : Below wB.heap.size wB w' := (Below.refl wB.heap.size wB).drew.trans q
          exact ⟨(KB.next q').bel, (KB.next q').cells⟩
        by_cases e : lineL x = lineL y
        · have exy : x = y := line_inj rx ry e
          have hs : sameE x y = true := (sameE_iff x y).2 exy
          rw [hs, e]
          rw [e] at sA'
          refine (sameBytes_eq (lineL y) ka kb _ _ wB.drew sA' sB).mono ?_
          rintro r w' ⟨rfl, q⟩
          exact ⟨rfl, fin w' q⟩
        · have hs : sameE x y = false := by
            cases hq : sameE x y
            · rfl
            · exact absurd (by rw [(sameE_iff x y).1 hq]) e
          rw [hs]
          refine (sameBytes_ne (lineL x) (lineL y) ka kb la lb ca cb wB.drew sA' sB e).mono ?_
          rintro r w' ⟨rfl, q⟩
          exact ⟨rfl, fin w' q⟩
      · exact .inr (.inl ⟨rfl, rfl⟩)
    · exact .inl rfl
  have heq : ∀ W : World, (binOp .eql 23 (.agg #[.int .i64 x.q, .int .i64 x.a, .int .i64 x.k, .int .i64 x.n, .string x.m, .string x.t, .int .i64 x.c, .int .i64 x.u, .int .i64 x.d]) (.agg #[.int .i64 y.q, .int .i64 y.a, .int .i64 y.k, .int .i64 y.n, .string y.m, .string y.t, .int .i64 y.c, .int .i64 y.u, .int .i64 y.d])).run Tryd.prog W = .ok (.bool (sameE x y)) W := fun W => ent_eql x y W
  have HOK : Hid (okL b = true → ∀ W V, BK w x y W → Below W.heap.size W V → Calls Tryd.prog 9 #[.agg (entV (valL b))] V fun r w' => ∃ la lc, r = .returned (.tuple #[.slice la b.length lc, .int .i64 0]) ∧ (∀ U, Below w'.heap.size w' U → Calls Tryd.prog 13 #[.slice la b.length lc, .slice a b.length c] U fun e w'' => e = .returned (.bool true) ∧ Hid (BK w x y w'')) ∧ Hid (BK w x y w')) := fun ho W V hW hV => by
    have rl := read_line (x := ⟨b.toArray⟩) ho
    have hl : lineL (valL b) = b := rl.2
    have hbd := right_bd rl.1
    have hV' := hW.next hV
    refine (enwrite_any (valL b) V (by unfold maxLen; exact Nat.le_trans hbd.2.1 (by decide)) (by unfold maxLen; exact Nat.le_trans hbd.2.2.1 (by decide)) (h.below hV'.bel).l (h.below hV'.bel).p).mono fun r w' hq => ?_
    unfold WrR at hq
    rw [if_pos (show rightE (valL b) = true from rl.1), hl] at hq
    obtain ⟨la, lc, lk, e1, sL, h1, h2, Bw⟩ := hq
    have KW := hV'.next Bw
    refine ⟨la, lc, e1, fun U hU => ?_, KW⟩
    have KU := KW.next hU
    exact (sameBytes_eq b lk k _ _ U (sL.keep (fun _ => h2) hU) (hS.keep hk KU.bel)).mono fun e w'' q => ⟨q.1, KU.next q.2⟩
  have hcd : codR ⟨b.toArray⟩ = if okL b = true then 0 else 20 := rfl
  rw [hcd] at HRD
  clear hcd hS hk hb h hxm hxt hym hyt
  simp only [entV] at HRD HWA HWB HOK K0
  go_enter Tryd.func5, Tryd.ntmps5
  go_wp2_with fail
  refine (HAV.out _ K0).mono ?_
  rintro r w1 ⟨rfl, K1⟩
  clear K0 HAV
  go_wp2_with fail
  refine (HRD.out _ K1.out).mono ?_
  rintro r w2 ⟨rfl, K2⟩
  clear K1
  cases hok : okL b
  · rw [if_neg (by decide)]
    clear HOK hok HRD
    have K3 : Hid (BK w x y (w2.alloc (.cells #[.int .i64 (valL b).q, .int .i64 (valL b).a, .int .i64 (valL b).k, .int .i64 (valL b).n, .string (valL b).m, .string (valL b).t, .int .i64 (valL b).c, .int .i64 (valL b).u, .int .i64 (valL b).d] 23))) := K2.out.next ((Below.refl _ _).alloc (Nat.le_refl _) _)
    clear K2
    go_upto_region 4 with fail
    generalize (w2.alloc (.cells #[.int .i64 (valL b).q, .int .i64 (valL b).a, .int .i64 (valL b).k, .int .i64 (valL b).n, .string (valL b).m, .string (valL b).t, .int .i64 (valL b).c, .int .i64 (valL b).u, .int .i64 (valL b).d] 23)) = w3 at *
    have NCw3 := K3.out.cells
    obtain ⟨n0, n1, n2, n3, n4, n5, n6, n7, n8, n9, n10, n11, n12, n13, n14, n15, n16, n17⟩ := NCw3
    go_wp2_with fail
    refine (HWA.out _ K3.out).mono ?_
    rintro r wA ⟨fa, la, na, ca, ka, rfl, hfa, DA⟩
    have NCA := DA.out.cells
    clear n0 n1 n2 n3 n4 n5 n6 n7 n8 n9 n10 n11 n12 n13 n14 n15 n16 n17
    obtain ⟨n0, n1, n2, n3, n4, n5, n6, n7, n8, n9, n10, n11, n12, n13, n14, n15, n16, n17⟩ := NCA
    go_wp2_with fail
    refine (HWB.out _ DA.out).mono ?_
    rintro r wB ⟨fb, lb, nb, cb, kb, rfl, hfb, DB⟩
    have NCB := DB.out.cells
    clear n0 n1 n2 n3 n4 n5 n6 n7 n8 n9 n10 n11 n12 n13 n14 n15 n16 n17
    obtain ⟨n0, n1, n2, n3, n4, n5, n6, n7, n8, n9, n10, n11, n12, n13, n14, n15, n16, n17⟩ := NCB
    rcases HXY.out wA wB DA.out DB.out fa la na ca ka hfa fb lb nb cb kb hfb with h | h | h
    · subst h
      clear hfa hfb
      go_wp2
      go_ret
      exact ⟨rfl, DB.out.bel⟩
    · obtain ⟨rfl, rfl⟩ := h
      clear hfa hfb
      go_wp2
      go_ret
      exact ⟨rfl, DB.out.bel⟩
    · obtain ⟨rfl, rfl, HSB⟩ := h
      clear hfa hfb
      go_wp2_with fail
      go_region_held3 (fun W => W.cell? ⟨w.heap.size, 0, none⟩ = some (.int .i64 x.q) ∧ W.cell? ⟨w.heap.size, 1, none⟩ = some (.int .i64 x.a) ∧ W.cell? ⟨w.heap.size, 2, none⟩ = some (.int .i64 x.k) ∧ W.cell? ⟨w.heap.size, 3, none⟩ = some (.int .i64 x.n) ∧ W.cell? ⟨w.heap.size, 4, none⟩ = some (.string x.m) ∧ W.cell? ⟨w.heap.size, 5, none⟩ = some (.string x.t) ∧ W.cell? ⟨w.heap.size, 6, none⟩ = some (.int .i64 x.c) ∧ W.cell? ⟨w.heap.size, 7, none⟩ = some (.int .i64 x.u) ∧ W.cell? ⟨w.heap.size, 8, none⟩ = some (.int .i64 x.d) ∧ W.cell? ⟨w.heap.size + 1, 0, none⟩ = some (.int .i64 y.q) ∧ W.cell? ⟨w.heap.size + 1, 1, none⟩ = some (.int .i64 y.a) ∧ W.cell? ⟨w.heap.size + 1, 2, none⟩ = some (.int .i64 y.k) ∧ W.cell? ⟨w.heap.size + 1, 3, none⟩ = some (.int .i64 y.n) ∧ W.cell? ⟨w.heap.size + 1, 4, none⟩ = some (.string y.m) ∧ W.cell? ⟨w.heap.size + 1, 5, none⟩ = some (.string y.t) ∧ W.cell? ⟨w.heap.size + 1, 6, none⟩ = some (.int .i64 y.c) ∧ W.cell? ⟨w.heap.size + 1, 7, none⟩ = some (.int .i64 y.u) ∧ W.cell? ⟨w.heap.size + 1, 8, none⟩ = some (.int .i64 y.d)) (go_keep) (first | (go_at_call 13; refine (HSB.out _ rfl).mono ?_; rintro e w9 ⟨rfl, B9, hS⟩))
      go_wp2
      go_ret
      exact ⟨ret_b (by simp), B9⟩
  · rw [if_pos rfl]
    have HO := HOK.out hok
    have K3 : Hid (BK w x y (w2.alloc (.cells #[.int .i64 (valL b).q, .int .i64 (valL b).a, .int .i64 (valL b).k, .int .i64 (valL b).n, .string (valL b).m, .string (valL b).t, .int .i64 (valL b).c, .int .i64 (valL b).u, .int .i64 (valL b).d] 23))) := K2.out.next ((Below.refl _ _).alloc (Nat.le_refl _) _)
    have M3 := tblk_new w2 (.cells #[.int .i64 (valL b).q, .int .i64 (valL b).a, .int .i64 (valL b).k, .int .i64 (valL b).n, .string (valL b).m, .string (valL b).t, .int .i64 (valL b).c, .int .i64 (valL b).u, .int .i64 (valL b).d] 23)
    clear HOK hok HRD
    go_upto_region 4 with fail
    have HO3 : Hid (∀ V, Below w2.heap.size w2 V → Calls Tryd.prog 9 #[.agg #[.int .i64 (valL b).q, .int .i64 (valL b).a, .int .i64 (valL b).k, .int .i64 (valL b).n, .string (valL b).m, .string (valL b).t, .int .i64 (valL b).c, .int .i64 (valL b).u, .int .i64 (valL b).d]] V fun r w' => ∃ la lc, r = .returned (.tuple #[.slice la b.length lc, .int .i64 0]) ∧ (∀ U, Below w'.heap.size w' U → Calls Tryd.prog 13 #[.slice la b.length lc, .slice a b.length c] U fun e w'' => e = .returned (.bool true) ∧ Hid (BK w x y w'')) ∧ Hid (BK w x y w')) := fun V hV => HO w2 V K2.out hV
    have B3 : Below w2.heap.size w2 (w2.alloc (.cells #[.int .i64 (valL b).q, .int .i64 (valL b).a, .int .i64 (valL b).k, .int .i64 (valL b).n, .string (valL b).m, .string (valL b).t, .int .i64 (valL b).c, .int .i64 (valL b).u, .int .i64 (valL b).d] 23)) := (Below.refl _ _).alloc (Nat.le_refl _) _
    clear HO K2
    generalize (w2.alloc (.cells #[.int .i64 (valL b).q, .int .i64 (valL b).a, .int .i64 (valL b).k, .int .i64 (valL b).n, .string (valL b).m, .string (valL b).t, .int .i64 (valL b).c, .int .i64 (valL b).u, .int .i64 (valL b).d] 23)) = w3 at *
    obtain ⟨m0, m1, m2, m3, m4, m5, m6, m7, m8⟩ := cells9 M3
    clear M3 K3
    go_wp2_with fail
    refine (HO3.out _ B3).mono ?_
    rintro r w4 ⟨la, lc, rfl, hsb, K4⟩
    have HSB1 : Hid (Calls Tryd.prog 13 #[.slice la b.length lc, .slice a b.length c] w4 fun e w'' => e = .returned (.bool true) ∧ Hid (BK w x y w'')) := hsb w4 (Below.refl _ _)
    clear hsb HO3 B3 m0 m1 m2 m3 m4 m5 m6 m7 m8 K4
    go_wp2_with fail
    refine HSB1.out.mono ?_
    rintro r w5 ⟨rfl, K5⟩
    clear HSB1
    have NCw5 := K5.out.cells
    obtain ⟨n0, n1, n2, n3, n4, n5, n6, n7, n8, n9, n10, n11, n12, n13, n14, n15, n16, n17⟩ := NCw5
    go_wp2_with fail
    refine (HWA.out _ K5.out).mono ?_
    rintro r wA ⟨fa, la, na, ca, ka, rfl, hfa, DA⟩
    have NCA := DA.out.cells
    clear n0 n1 n2 n3 n4 n5 n6 n7 n8 n9 n10 n11 n12 n13 n14 n15 n16 n17
    obtain ⟨n0, n1, n2, n3, n4, n5, n6, n7, n8, n9, n10, n11, n12, n13, n14, n15, n16, n17⟩ := NCA
    go_wp2_with fail
    refine (HWB.out _ DA.out).mono ?_
    rintro r wB ⟨fb, lb, nb, cb, kb, rfl, hfb, DB⟩
    have NCB := DB.out.cells
    clear n0 n1 n2 n3 n4 n5 n6 n7 n8 n9 n10 n11 n12 n13 n14 n15 n16 n17
    obtain ⟨n0, n1, n2, n3, n4, n5, n6, n7, n8, n9, n10, n11, n12, n13, n14, n15, n16, n17⟩ := NCB
    rcases HXY.out wA wB DA.out DB.out fa la na ca ka hfa fb lb nb cb kb hfb with h | h | h
    · subst h
      clear hfa hfb
      go_wp2
      go_ret
      exact ⟨rfl, DB.out.bel⟩
    · obtain ⟨rfl, rfl⟩ := h
      clear hfa hfb
      go_wp2
      go_ret
      exact ⟨rfl, DB.out.bel⟩
    · obtain ⟨rfl, rfl, HSB⟩ := h
      clear hfa hfb
      go_wp2_with fail
      go_region_held3 (fun W => W.cell? ⟨w.heap.size, 0, none⟩ = some (.int .i64 x.q) ∧ W.cell? ⟨w.heap.size, 1, none⟩ = some (.int .i64 x.a) ∧ W.cell? ⟨w.heap.size, 2, none⟩ = some (.int .i64 x.k) ∧ W.cell? ⟨w.heap.size, 3, none⟩ = some (.int .i64 x.n) ∧ W.cell? ⟨w.heap.size, 4, none⟩ = some (.string x.m) ∧ W.cell? ⟨w.heap.size, 5, none⟩ = some (.string x.t) ∧ W.cell? ⟨w.heap.size, 6, none⟩ = some (.int .i64 x.c) ∧ W.cell? ⟨w.heap.size, 7, none⟩ = some (.int .i64 x.u) ∧ W.cell? ⟨w.heap.size, 8, none⟩ = some (.int .i64 x.d) ∧ W.cell? ⟨w.heap.size + 1, 0, none⟩ = some (.int .i64 y.q) ∧ W.cell? ⟨w.heap.size + 1, 1, none⟩ = some (.int .i64 y.a) ∧ W.cell? ⟨w.heap.size + 1, 2, none⟩ = some (.int .i64 y.k) ∧ W.cell? ⟨w.heap.size + 1, 3, none⟩ = some (.int .i64 y.n) ∧ W.cell? ⟨w.heap.size + 1, 4, none⟩ = some (.string y.m) ∧ W.cell? ⟨w.heap.size + 1, 5, none⟩ = some (.string y.t) ∧ W.cell? ⟨w.heap.size + 1, 6, none⟩ = some (.int .i64 y.c) ∧ W.cell? ⟨w.heap.size + 1, 7, none⟩ = some (.int .i64 y.u) ∧ W.cell? ⟨w.heap.size + 1, 8, none⟩ = some (.int .i64 y.d)) (go_keep) (first | (go_at_call 13; refine (HSB.out _ rfl).mono ?_; rintro e w9 ⟨rfl, B9, hS⟩))
      go_wp2
      go_ret
      exact ⟨ret_b (by simp), B9⟩
end Go.Proofs.YtklbcfbophjljaaDoor
