/- RobinPlays, walked. -/
import Derived.Test.YtejjljhmlgjlhaaRvG
namespace Go.Proofs.Ytejjljhmlgjlhaa
open Go.RowKit
set_option linter.unusedVariables false

abbrev Zr : Obj := .cells #[.int .i64 0, .int .i64 0, .int .i64 0, .bool false] 27
theorem zeroA {u w' : World} (h : Below (u.alloc (.cells #[.int .i64 0, .int .i64 0, .int .i64 0, .bool false] 27)).heap.size (u.alloc (.cells #[.int .i64 0, .int .i64 0, .int .i64 0, .bool false] 27)) w') : IsV w' u.heap.size 0 0 0 false :=
  (h.block _ (by simp)).trans (tblk_new _ _)
theorem zeroD {u w' : World} (h : Below (u.alloc (.cells #[.int .i64 0, .int .i64 0, .int .i64 0, .bool false] 27)).drew.heap.size (u.alloc (.cells #[.int .i64 0, .int .i64 0, .int .i64 0, .bool false] 27)).drew w') : IsV w' u.heap.size 0 0 0 false :=
  (h.block u.heap.size (by show u.heap.size < (u.alloc _).heap.size; simp)).trans (tblk_new u _)
theorem IsV.set0 {w : World} {b : Nat} {q c l : Int} {any : Bool} (x : IsV w b q c l any) (y : Int) : IsV (w.setCell ⟨b, 0, none⟩ (.int .i64 y)) b y c l any := by unfold IsV at *; simp [World.setCell, Array.getElem?_modify, x]
theorem owp_ex {T : TypeId} {B b : Nat} {w w' : World} {v : Value} {l : List Fl} (h : OwP T B w v l) (x : Ex b w w') (hb : b < B) : OwP T B w' v l :=
  h.move fun k cur hk _ h3 => x.block k (Array.getElem?_eq_some_iff.1 h3).1 (by omega)
/-- Flows of a row of one's own that lies from B on, while cells below it turn. -/
theorem fls_set4 {T : TypeId} {B B5 : Nat} {w5 Y : World} {a8 : Option Addr} {c8 : Nat} {X : List Fl} (kx : Fls Y a8 c8 X) (h : OwP T B w5 (.slice a8 X.length c8) X) (mb : Nat) (hm : mb < B5) (x0 x1 x2 x3 : Value) (b : Below w5.heap.size w5 Y) (hmB : mb < B) :
    Fls ((((Y.setCell ⟨mb, 0, none⟩ x0).setCell ⟨mb, 1, none⟩ x1).setCell ⟨mb, 2, none⟩ x2).setCell ⟨mb, 3, none⟩ x3) a8 c8 X := by
  have k := owp_set (b := mb) (o := 3) (x := x3) (owp_set (b := mb) (o := 2) (x := x2) (owp_set (b := mb) (o := 1) (x := x1) (owp_set (b := mb) (o := 0) (x := x0) (h.grow b) hmB) hmB) hmB) hmB
  obtain ⟨a', c', e, hf⟩ := k.fls
  injection e with e1 e2 e3
  subst e1 e3
  exact hf
/-- The state of RobinPlays' rounds. -/
structure SP (w : World) (rb mb : Nat) (q : Int) (wr : World) (cr la L : Int) (any : Bool) : Prop where
  ra : IsR wr rb q cr la
  rv : IsV wr mb q cr L any
  ls : LaS any L la
  li : InR la
  c0 : 0 ≤ cr
  c1 : cr < 64
  be : Below w.heap.size w wr
set_option maxRecDepth 100000 in
set_option maxHeartbeats 2000000 in
theorem plays_walk (qn : Int) (a : Option Addr) (len cap : Nat) (w : World) (hw : FlsS w a len) :
    Calls Try.prog 3 #[.int .i64 qn, .slice a len cap] w fun e w' => e = .returned (.bool true) ∧ Below w.heap.size w w' := by
  have HN := hidE (rbnew_any qn w)
  have HV : Hid (∀ W, Calls Try.prog 10 #[.int .i64 qn] W fun e w' => e = .returned (.agg #[.int .i64 (qB qn), .int .i64 0, .int .i64 0, .bool false]) ∧ Below W.heap.size W w') := fun W => r16new_any qn W
  have hqb := qB_bd qn
  generalize qB qn = q at *
  have HW : Hid (∀ W, Below w.heap.size w W → FlsS W a len) := fun W b => hw.keep b
  have HAL : Hid (∀ W, Calls Try.prog 9 #[] W fun e w' => e = .returned (.bool true) ∧ Below W.heap.size W w') := alive16_any
  have hmx : len ≤ 9223372036854775807 := by have h2 := hw.1; unfold maxLen at h2; omega
  clear hw
  go_enter Try.func3, Try.ntmps3
  go_wp2_with fail
  refine HN.out.mono ?_
  rintro e w1 ⟨rfl, R1, hs1, B1⟩
  have HS1 := hidE hs1
  clear hs1 HN
  go_wp2_with fail
  refine (HAL.out _).mono ?_
  rintro e w2 ⟨rfl, B2⟩
  clear HAL
  have HR2 := hidE (R1.below B2 R1.lt)
  have HB2 := hidE (B1.trans (B2.mono B1.size))
  clear R1 B1 B2 HS1
  by_cases h30 : 30 < len
  · have d30 : decide (30 < len) = true := decide_eq_true h30
    go_wp2
    go_ret
    exact ⟨rfl, HB2.out⟩
  · have d30 : decide (30 < len) = false := decide_eq_false h30
    have d30' : decide ((30 : Int) < (len : Int)) = false := decide_eq_false (by omega)
    go_wp2_with fail
    refine (HV.out _).mono ?_
    rintro e w3 ⟨rfl, B3⟩
    clear HV
    have BA : Below w3.heap.size w3 (w3.alloc (.cells #[.int .i64 q, .int .i64 0, .int .i64 0, .bool false] 27)) := (Below.refl _ _).alloc (Nat.le_refl _) _
    have R3 := HR2.out.below B3 HR2.out.lt
    have b3 := HB2.out.trans (B3.mono HB2.out.size)
    have L0 : Hid (SP w w.heap.size w3.heap.size q (w3.alloc (.cells #[.int .i64 q, .int .i64 0, .int .i64 0, .bool false] 27)) 0 9223372036854775807 0 false) := ⟨R3.below BA R3.lt, tblk_new _ _, .inr ⟨rfl, rfl⟩, by unfold InR; decide, Int.le_refl _, by decide, b3.trans (BA.mono b3.size)⟩
    have HMB : Hid (w.heap.size ≤ w3.heap.size ∧ w.heap.size ≠ w3.heap.size) := ⟨b3.size, Nat.ne_of_lt R3.lt⟩
    clear BA R3 b3 B3 HR2 HB2
    go_wp2_with fail
    generalize (w3.alloc (.cells #[.int .i64 q, .int .i64 0, .int .i64 0, .bool false] 27)) = w4 at *
    generalize w3.heap.size = mb at *
    go_loopw [29] (fun vi wr => ∃ (i : Nat) (cr la L : Int) (any : Bool), i ≤ len ∧ vi = .int .i64 i ∧ Hid (SP w w.heap.size mb q wr cr la L any)) (fun vi _ => len - (intOf vi).toNat)
    case atStart => exact ⟨0, _, _, _, _, Nat.zero_le _, rfl, L0⟩
    case round =>
      clear L0
      obtain ⟨i, cr, la, L, any, hi, rfl, HS⟩ := hrel
      by_cases hlt : i < len
      · obtain ⟨g, off, rfl, hg, hc⟩ := (HW.out wr HS.out.be).2 (by omega)
        obtain ⟨a', c', fs, hcell, hF, hI⟩ := hc i hlt
        have i1 : (0 : Int) ≤ i := by omega
        have i2 : (i : Int) < len := by omega
        have HSM := hidE (small_any 2000 fs a' c' wr hF)
        have HI := hidE (sml_inr (k := fs.length) hI (show (2000 : Int) ≤ 9223372036854775807 by decide))
        have hXl := smlL_len 2000 fs fs.length
        generalize smlL 2000 fs fs.length = X at *
        generalize fs.length = nf at *
        clear hc hF hI
        go_wp2_with fail
        refine HSM.out.mono ?_
        rintro e w5 ⟨v8, rfl, O8, B5⟩
        clear HSM
        obtain ⟨a8, c8, rfl, hfl8⟩ := O8.fls
        obtain ⟨ra, rv, ls, li, c0, c1, be⟩ := HS.out
        have ra5 := ra.below B5 ra.lt
        have rv5 := rv.below B5 rv.lt
        have be5 := be.trans (B5.mono be.size)
        have HF8 := hidE hfl8
        have HO8 := hidE O8
        have HMW : Hid (mb < wr.heap.size) := rv.lt
        obtain ⟨nX, hnX⟩ : ∃ nX, nX = X.length := ⟨_, rfl⟩
        have HNX : Hid (X.length = nX) := hnX.symm
        have HRO := hidE (rbround_any X a8 c8 w.heap.size q cr la)
        have HAS : Hid (∀ W, Below w5.heap.size w5 W → Calls Try.prog 13 #[.slice a8 nX c8] W fun e w' => ∃ ax cx, e = .returned (.slice ax nX cx) ∧ Hid (Fls w' ax cx X) ∧ Below W.heap.size W w' ∧ Below w5.heap.size w5 w' ∧ (w'.cell? ⟨mb, 0, none⟩ = some (.int .i64 q) ∧ w'.cell? ⟨mb, 1, none⟩ = some (.int .i64 cr) ∧ w'.cell? ⟨mb, 2, none⟩ = some (.int .i64 L) ∧ w'.cell? ⟨mb, 3, none⟩ = some (.bool any))) := fun W b => by
          have k := as_any X a8 c8 W (HF8.out.keep b) hXl
          rw [HNX.out] at k
          refine k.mono fun e w' he => ?_
          obtain ⟨v, e1, O, B⟩ := he
          obtain ⟨ax, cx, rfl, hfl⟩ := O.fls
          have b2 := b.trans (B.mono b.size)
          have rv' := rv5.below b2 rv5.lt
          rw [HNX.out] at e1
          exact ⟨ax, cx, e1, hfl, B, b2, rv'.c0, rv'.c1, rv'.c2, rv'.c3⟩
        obtain ⟨V, hV, hA⟩ := inv_exists la X HI.out
        have HVV := hidE hV
        have HVA := hidE hA
        have hcr := loopQ_cr _ V (cr + q) la [] (Nat.le_refl _) hA (by omega)
        have hla' := loopQ_la _ V (cr + q) la [] (Nat.le_refl _) hA li (fun f hf => hV.r f ((hV.m f).1 hf).2)
        have hgs := (loopQ_gs _ V (cr + q) la [] (Nat.le_refl _) hA (by omega)).2
        have hgn : ((([] : List Fl).length : Nat) : Int) = 0 := rfl
        rw [hgn] at hgs
        obtain ⟨R, hR⟩ : ∃ R, R = loopQ V (cr + q) la [] := ⟨_, rfl⟩
        have HRR := hidE hR
        rw [← hR] at hcr hla' hgs
        have HRD : Hid (∀ (W : World) (ax : Option Addr) (cx : Nat), Below w5.heap.size w5 W → Fls W ax cx X → Calls Try.prog 12 #[.agg #[.int .i64 q, .int .i64 cr, .int .i64 L, .bool any], .slice ax nX cx] W fun e w' => ∃ (av : Option Addr) (cv : Nat) (L' : Int) (any' : Bool), e = .returned (.tuple #[.agg #[.int .i64 q, .int .i64 R.1, .int .i64 L', .bool any'], .slice av R.2.2.length cv]) ∧ Hid (LaS any' L' R.2.1) ∧ Hid (OwP 41 W.heap.size w' (.slice av R.2.2.length cv) R.2.2) ∧ Below W.heap.size W w' ∧ Below w5.heap.size w5 w' ∧ (w'.cell? ⟨mb, 0, none⟩ = some (.int .i64 q) ∧ w'.cell? ⟨mb, 1, none⟩ = some (.int .i64 cr) ∧ w'.cell? ⟨mb, 2, none⟩ = some (.int .i64 L) ∧ w'.cell? ⟨mb, 3, none⟩ = some (.bool any))) := fun W ax cx b hfx => by
          have k := r16round_any X V ax cx q cr L la any W hfx hXl hV hA ls li (by omega) (by omega) c0 (by omega)
          rw [HNX.out, ← hR] at k
          refine k.mono fun e w' he => ?_
          obtain ⟨v, L', any', e1, l1, O, B⟩ := he
          obtain ⟨av, cv, rfl, hfl⟩ := O.fls
          have b2 := b.trans (B.mono b.size)
          have rv' := rv5.below b2 rv5.lt
          exact ⟨av, cv, L', any', e1, l1, O, B, b2, rv'.c0, rv'.c1, rv'.c2, rv'.c3⟩
        obtain ⟨Rc, Rl, gs⟩ := R
        simp only at hcr hla' hgs HRD
        have q0 := rv5.c0
        have q1 := rv5.c1
        have q2 := rv5.c2
        have q3 := rv5.c3
        have HRA := hidE ra5
        have HRV := hidE rv5
        have HBE := hidE be5
        have U0 : Below w5.heap.size w5 w5 := Below.refl _ _
        have hmb : mb < w5.heap.size := HRV.out.lt
        have nm5 : ¬ mb = w5.heap.size := by omega
        have nn5 : ¬ w5.heap.size = mb := by omega
        have HLA := hidE hla'
        have HGS := hidE hgs
        have HCR := hidE hcr
        rw [← hnX]
        clear hnX hfl8 O8 ra rv ls be ra5 rv5 be5 hV hA hR hcr hla' hgs hgn HS B5 hcell
        go_wp2_with fail
        go_region_held3 (fun W => W.cell? ⟨mb, 0, none⟩ = some (.int .i64 q) ∧ W.cell? ⟨mb, 1, none⟩ = some (.int .i64 cr) ∧ W.cell? ⟨mb, 2, none⟩ = some (.int .i64 L) ∧ W.cell? ⟨mb, 3, none⟩ = some (.bool any)) (go_keep) (first | (go_at_call 13; refine (HAS.out _ (by first | assumption | exact U0.drew | exact (U0.alloc U0.size _).drew)).mono ?_; rintro e w6 ⟨ax, cx, rfl, HFX, hB6, hD6, hS6⟩; have nm6 : ¬ mb = w6.heap.size := (by have := hD6.size; omega); have nn6 : ¬ w6.heap.size = mb := (by have := hD6.size; omega); (try (have T6 := zeroA hB6)); (try (have T6 := zeroD hB6))) | (go_at_call 12; refine (HRD.out _ _ _ (by first | assumption | exact hD6.alloc hD6.size _) (by first | exact HFX.out | exact HFX.out.keep ((Below.refl _ _).alloc (Nat.le_refl _) _))).mono ?_; rintro e w7 ⟨av, cv, L', any', rfl, HLS, HOV, hB7, hD7, hS7⟩; have nm7 : ¬ mb = w7.heap.size := (by have := hD7.size; omega); have nn7 : ¬ w7.heap.size = mb := (by have := hD7.size; omega); (try (have T7 := zeroA hB7)); (try (have T7 := T6.below hB7 T6.lt)); (try (have t0 := T7.c0; have t1 := T7.c1; have t2 := T7.c2; have t3 := T7.c3; have y0 := T7.z 0; have y1 := T7.z 1; have y2 := T7.z 2; have y3 := T7.z 3))))
        · have BA : Below w7.heap.size w7 (w7.alloc (.cells #[.int .i64 q, .int .i64 Rc, .int .i64 L', .bool any'] 27)) := (Below.refl _ _).alloc (Nat.le_refl _) _
          have BY : Below w5.heap.size w7 (w7.alloc (.cells #[.int .i64 q, .int .i64 Rc, .int .i64 L', .bool any'] 27)) := BA.mono hD7.size
          have kn : IsV (w7.alloc (.cells #[.int .i64 q, .int .i64 Rc, .int .i64 L', .bool any'] 27)) w7.heap.size q Rc L' any' := tblk_new _ _
          have kg := (HOV.out.grow BA).mono (C := w5.heap.size) (by have := hD6.size; first | exact this | (simp; omega))
          generalize (w7.alloc (.cells #[.int .i64 q, .int .i64 Rc, .int .i64 L', .bool any'] 27)) = Y at *
          generalize w7.heap.size = nb at *
          clear BA
          have DY := hD7.trans BY
          have kr := HRA.out.below DY HRA.out.lt
          have km := HRV.out.below DY hmb
          have kx := HF8.out.keep DY
          have kb := HBE.out.trans (DY.mono HBE.out.size)
          have hrb : w.heap.size < w5.heap.size := HRA.out.lt
          have l0 := kn.c0
          have l1 := kn.c1
          have l2 := kn.c2
          have l3 := kn.c3
          have o0 := km.c0
          have o1 := km.c1
          have o2 := km.c2
          have o3 := km.c3
          have z0 := km.z 0
          have z1 := km.z 1
          have z2 := km.z 2
          have z3 := km.z 3
          have hmr := HMB.out
          have BZ : Below mb Y ((((Y.setCell ⟨mb, 0, none⟩ (.int .i64 q)).setCell ⟨mb, 1, none⟩ (.int .i64 Rc)).setCell ⟨mb, 2, none⟩ (.int .i64 L')).setCell ⟨mb, 3, none⟩ (.bool any')) := ((((Below.refl _ _).setCell (p := ⟨mb, 0, none⟩) (Nat.le_refl _) _).setCell (p := ⟨mb, 1, none⟩) (Nat.le_refl _) _).setCell (p := ⟨mb, 2, none⟩) (Nat.le_refl _) _).setCell (p := ⟨mb, 3, none⟩) (Nat.le_refl _) _
          have HKV := hidE ((((km.set0 q).set1 Rc).set2 L').set3 any')
          have HKG := hidE (owp_set (b := mb) (o := 3) (x := .bool any') (owp_set (b := mb) (o := 2) (x := .int .i64 L') (owp_set (b := mb) (o := 1) (x := .int .i64 Rc) (owp_set (b := mb) (o := 0) (x := .int .i64 q) kg hmb) hmb) hmb) hmb)
          have HKR := hidE (kr.below BZ (by omega))
          have HKB := hidE (kb.trans (BZ.mono hmr.1))
          have HKX : Hid (Fls ((((Y.setCell ⟨mb, 0, none⟩ (.int .i64 q)).setCell ⟨mb, 1, none⟩ (.int .i64 Rc)).setCell ⟨mb, 2, none⟩ (.int .i64 L')).setCell ⟨mb, 3, none⟩ (.bool any')) a8 c8 X) := fls_set4 kx HO8.out mb hmb _ _ _ _ DY HMW.out
          clear kr km kx kb kn kg DY BY BZ hB6 hD6 hS6 hB7 hD7 hS7 HAS HRD HOV HFX q0 q1 q2 q3 nm5 nn5 nm6 nn6 nm7 nn7 U0
          go_wp2_with fail
          generalize ((((Y.setCell ⟨mb, 0, none⟩ (.int .i64 q)).setCell ⟨mb, 1, none⟩ (.int .i64 Rc)).setCell ⟨mb, 2, none⟩ (.int .i64 L')).setCell ⟨mb, 3, none⟩ (.bool any')) = Y2 at *
          clear l0 l1 l2 l3 o0 o1 o2 o3 z0 z1 z2 z3
          have HCD := hidE (HRO.out Y2 HKR.out HKX.out (by rw [HNX.out] at hXl; rw [HNX.out]; exact hXl) (by omega) (by omega) c0 (by omega) (fun f hf => (HI.out f hf).2))
          rw [HNX.out] at HCD
          refine HCD.out.mono ?_
          rintro e w9 ⟨W', hW', v11, rfl, G9, R9, X9⟩
          rw [inv_uniq HVV.out (wait_cnt hW' (fun f hf => (HI.out f hf).1)), ← HRR.out] at G9 R9
          simp only at G9 R9
          clear HCD hW'
          have HG9 := hidE G9
          have HR9 := hidE R9
          have HV9 : Hid (IsV w9 mb q Rc L' any') := by
            have := HKV.out
            unfold IsV at this ⊢
            rw [Hid, X9.block mb HKV.out.lt (by exact hmr.2.symm)]
            exact this
          have HP9 := hidE (owp_ex HKG.out X9 hrb)
          have HB9 := hidE (HKB.out.trans (X9.below (Nat.le_refl _) HKB.out.size))
          have HC9 : Hid (∀ W : World, W.heap = w9.heap → Calls Try.prog 15 #[.pointer (some ⟨w.heap.size, 0, none⟩)] W fun e w' => e = .returned (.int .i64 Rc) ∧ w' = W) := fun W hW => rbcredit_any _ q Rc Rl W (by unfold IsR; rw [hW]; exact HR9.out)
          have p1 := HV9.out.c1
          obtain ⟨a11, c11, rfl⟩ := HG9.out.form
          obtain ⟨ng, hng⟩ : ∃ ng, ng = gs.length := ⟨_, rfl⟩
          have HNG : Hid (gs.length = ng) := hng.symm
          rw [← hng]
          have hng2 : ng ≤ 3000000 := by have := HGS.out; rw [← hng] at this; omega
          clear hng G9 R9 X9 HKV HKG HKR HKB HKX
          go_wp2_with fail
          go_quiet (first | (go_at_call 15; exact Calls.quiet_of_same (HC9.out _ rfl)))
          go_wp2_with fail
          clear p1
          go_loopw [60] (fun vj wr => ∃ j : Nat, j ≤ ng ∧ vj = .int .i64 j ∧ Hid (Below w9.heap.size w9 wr)) (fun vj _ => ng - (intOf vj).toNat)
          case atStart => exact ⟨0, Nat.zero_le _, rfl, below_drewN (Below.refl _ _) _⟩
          case round =>
            obtain ⟨j, hj, rfl, HBj⟩ := hrel
            by_cases hjn : j < ng
            · obtain ⟨gx, cx', ex, _, hlx, hcx⟩ := (HG9.out.grow HBj.out).at (by rw [HNG.out]; omega)
              injection ex with ex1 ex2 ex3
              subst ex1 ex3
              clear ex2
              obtain ⟨av', cv', ev, hfv⟩ := (HP9.out.grow HBj.out).fls
              injection ev with ev1 ev2 ev3
              subst ev1 ev3
              clear ev2
              obtain ⟨gv, ov, rfl, hlv, hcv⟩ := hfv.2.2.2 (by rw [HNG.out]; omega)
              have e0 := (hcx j (by rw [HNG.out]; exact hjn)).1
              have e1 := (hcx j (by rw [HNG.out]; exact hjn)).2
              have e2 := (hcv j (by rw [HNG.out]; exact hjn)).1
              have e3 := (hcv j (by rw [HNG.out]; exact hjn)).2
              have j1 : (0 : Int) ≤ j := by omega
              have j2 : (j : Int) < ng := by omega
              have HB2 : Hid (Below w9.heap.size w9 (wr.alloc (.cells #[.int .i64 (gs.getD j (0, 0)).1, .int .i64 (gs.getD j (0, 0)).2] 40))) := HBj.out.alloc HBj.out.size _
              clear hcx hcv hfv
              generalize (gs.getD j (0, 0)).1 = u0 at *
              generalize (gs.getD j (0, 0)).2 = u1 at *
              go_wp2_with fail
              go_quiet (fail)
              go_wp2
              go_roundw
              case rel => exact ⟨j + 1, by omega, by go_num, below_drewN HB2.out _⟩
              case measure => simp [intOf]; omega
            · have HSN : Hid (SP w w.heap.size mb q wr Rc Rl L' any') := ⟨HR9.out.below HBj.out HR9.out.lt, HV9.out.below HBj.out HV9.out.lt, HLS.out, HLA.out, HCR.out.1, HCR.out.2, HB9.out.trans (HBj.out.mono HB9.out.size)⟩
              go_wp2
              go_roundw
              case rel => exact ⟨i + 1, _, _, _, _, by omega, by go_num, HSN⟩
              case measure => simp [intOf]; omega
        · have BY : Below w5.heap.size w7 ((((w7.setCell ⟨w6.heap.size, 0, none⟩ (.int .i64 q)).setCell ⟨w6.heap.size, 1, none⟩ (.int .i64 Rc)).setCell ⟨w6.heap.size, 2, none⟩ (.int .i64 L')).setCell ⟨w6.heap.size, 3, none⟩ (.bool any')) := ((((Below.refl _ _).setCell (p := ⟨w6.heap.size, 0, none⟩) hD6.size _).setCell (p := ⟨w6.heap.size, 1, none⟩) hD6.size _).setCell (p := ⟨w6.heap.size, 2, none⟩) hD6.size _).setCell (p := ⟨w6.heap.size, 3, none⟩) hD6.size _
          have kn : IsV ((((w7.setCell ⟨w6.heap.size, 0, none⟩ (.int .i64 q)).setCell ⟨w6.heap.size, 1, none⟩ (.int .i64 Rc)).setCell ⟨w6.heap.size, 2, none⟩ (.int .i64 L')).setCell ⟨w6.heap.size, 3, none⟩ (.bool any')) w6.heap.size q Rc L' any' := (((T7.set0 q).set1 Rc).set2 L').set3 any'
          have kg := (owp_set (b := w6.heap.size) (o := 3) (x := .bool any') (owp_set (b := w6.heap.size) (o := 2) (x := .int .i64 L') (owp_set (b := w6.heap.size) (o := 1) (x := .int .i64 Rc) (owp_set (b := w6.heap.size) (o := 0) (x := .int .i64 q) HOV.out (by simp)) (by simp)) (by simp)) (by simp)).mono (C := w5.heap.size) (by have := hD6.size; first | exact this | (simp; omega))
          generalize ((((w7.setCell ⟨w6.heap.size, 0, none⟩ (.int .i64 q)).setCell ⟨w6.heap.size, 1, none⟩ (.int .i64 Rc)).setCell ⟨w6.heap.size, 2, none⟩ (.int .i64 L')).setCell ⟨w6.heap.size, 3, none⟩ (.bool any')) = Y at *
          clear T7 t0 t1 t2 t3 y0 y1 y2 y3
          
          generalize hnb : w6.heap.size = nb at kn ⊢
          clear hnb
          have DY := hD7.trans BY
          have kr := HRA.out.below DY HRA.out.lt
          have km := HRV.out.below DY hmb
          have kx := HF8.out.keep DY
          have kb := HBE.out.trans (DY.mono HBE.out.size)
          have hrb : w.heap.size < w5.heap.size := HRA.out.lt
          have l0 := kn.c0
          have l1 := kn.c1
          have l2 := kn.c2
          have l3 := kn.c3
          have o0 := km.c0
          have o1 := km.c1
          have o2 := km.c2
          have o3 := km.c3
          have z0 := km.z 0
          have z1 := km.z 1
          have z2 := km.z 2
          have z3 := km.z 3
          have hmr := HMB.out
          have BZ : Below mb Y ((((Y.setCell ⟨mb, 0, none⟩ (.int .i64 q)).setCell ⟨mb, 1, none⟩ (.int .i64 Rc)).setCell ⟨mb, 2, none⟩ (.int .i64 L')).setCell ⟨mb, 3, none⟩ (.bool any')) := ((((Below.refl _ _).setCell (p := ⟨mb, 0, none⟩) (Nat.le_refl _) _).setCell (p := ⟨mb, 1, none⟩) (Nat.le_refl _) _).setCell (p := ⟨mb, 2, none⟩) (Nat.le_refl _) _).setCell (p := ⟨mb, 3, none⟩) (Nat.le_refl _) _
          have HKV := hidE ((((km.set0 q).set1 Rc).set2 L').set3 any')
          have HKG := hidE (owp_set (b := mb) (o := 3) (x := .bool any') (owp_set (b := mb) (o := 2) (x := .int .i64 L') (owp_set (b := mb) (o := 1) (x := .int .i64 Rc) (owp_set (b := mb) (o := 0) (x := .int .i64 q) kg hmb) hmb) hmb) hmb)
          have HKR := hidE (kr.below BZ (by omega))
          have HKB := hidE (kb.trans (BZ.mono hmr.1))
          have HKX : Hid (Fls ((((Y.setCell ⟨mb, 0, none⟩ (.int .i64 q)).setCell ⟨mb, 1, none⟩ (.int .i64 Rc)).setCell ⟨mb, 2, none⟩ (.int .i64 L')).setCell ⟨mb, 3, none⟩ (.bool any')) a8 c8 X) := fls_set4 kx HO8.out mb hmb _ _ _ _ DY HMW.out
          clear kr km kx kb kn kg DY BY BZ hB6 hD6 hS6 hB7 hD7 hS7 HAS HRD HOV HFX q0 q1 q2 q3 nm5 nn5 nm6 nn6 nm7 nn7 U0
          go_wp2_with fail
          generalize ((((Y.setCell ⟨mb, 0, none⟩ (.int .i64 q)).setCell ⟨mb, 1, none⟩ (.int .i64 Rc)).setCell ⟨mb, 2, none⟩ (.int .i64 L')).setCell ⟨mb, 3, none⟩ (.bool any')) = Y2 at *
          clear l0 l1 l2 l3 o0 o1 o2 o3 z0 z1 z2 z3
          have HCD := hidE (HRO.out Y2 HKR.out HKX.out (by rw [HNX.out] at hXl; rw [HNX.out]; exact hXl) (by omega) (by omega) c0 (by omega) (fun f hf => (HI.out f hf).2))
          rw [HNX.out] at HCD
          refine HCD.out.mono ?_
          rintro e w9 ⟨W', hW', v11, rfl, G9, R9, X9⟩
          rw [inv_uniq HVV.out (wait_cnt hW' (fun f hf => (HI.out f hf).1)), ← HRR.out] at G9 R9
          simp only at G9 R9
          clear HCD hW'
          have HG9 := hidE G9
          have HR9 := hidE R9
          have HV9 : Hid (IsV w9 mb q Rc L' any') := by
            have := HKV.out
            unfold IsV at this ⊢
            rw [Hid, X9.block mb HKV.out.lt (by exact hmr.2.symm)]
            exact this
          have HP9 := hidE (owp_ex HKG.out X9 hrb)
          have HB9 := hidE (HKB.out.trans (X9.below (Nat.le_refl _) HKB.out.size))
          have HC9 : Hid (∀ W : World, W.heap = w9.heap → Calls Try.prog 15 #[.pointer (some ⟨w.heap.size, 0, none⟩)] W fun e w' => e = .returned (.int .i64 Rc) ∧ w' = W) := fun W hW => rbcredit_any _ q Rc Rl W (by unfold IsR; rw [hW]; exact HR9.out)
          have p1 := HV9.out.c1
          obtain ⟨a11, c11, rfl⟩ := HG9.out.form
          obtain ⟨ng, hng⟩ : ∃ ng, ng = gs.length := ⟨_, rfl⟩
          have HNG : Hid (gs.length = ng) := hng.symm
          rw [← hng]
          have hng2 : ng ≤ 3000000 := by have := HGS.out; rw [← hng] at this; omega
          clear hng G9 R9 X9 HKV HKG HKR HKB HKX
          go_wp2_with fail
          go_quiet (first | (go_at_call 15; exact Calls.quiet_of_same (HC9.out _ rfl)))
          go_wp2_with fail
          clear p1
          go_loopw [60] (fun vj wr => ∃ j : Nat, j ≤ ng ∧ vj = .int .i64 j ∧ Hid (Below w9.heap.size w9 wr)) (fun vj _ => ng - (intOf vj).toNat)
          case atStart => exact ⟨0, Nat.zero_le _, rfl, below_drewN (Below.refl _ _) _⟩
          case round =>
            obtain ⟨j, hj, rfl, HBj⟩ := hrel
            by_cases hjn : j < ng
            · obtain ⟨gx, cx', ex, _, hlx, hcx⟩ := (HG9.out.grow HBj.out).at (by rw [HNG.out]; omega)
              injection ex with ex1 ex2 ex3
              subst ex1 ex3
              clear ex2
              obtain ⟨av', cv', ev, hfv⟩ := (HP9.out.grow HBj.out).fls
              injection ev with ev1 ev2 ev3
              subst ev1 ev3
              clear ev2
              obtain ⟨gv, ov, rfl, hlv, hcv⟩ := hfv.2.2.2 (by rw [HNG.out]; omega)
              have e0 := (hcx j (by rw [HNG.out]; exact hjn)).1
              have e1 := (hcx j (by rw [HNG.out]; exact hjn)).2
              have e2 := (hcv j (by rw [HNG.out]; exact hjn)).1
              have e3 := (hcv j (by rw [HNG.out]; exact hjn)).2
              have j1 : (0 : Int) ≤ j := by omega
              have j2 : (j : Int) < ng := by omega
              have HB2 : Hid (Below w9.heap.size w9 (wr.alloc (.cells #[.int .i64 (gs.getD j (0, 0)).1, .int .i64 (gs.getD j (0, 0)).2] 40))) := HBj.out.alloc HBj.out.size _
              clear hcx hcv hfv
              generalize (gs.getD j (0, 0)).1 = u0 at *
              generalize (gs.getD j (0, 0)).2 = u1 at *
              go_wp2_with fail
              go_quiet (fail)
              go_wp2
              go_roundw
              case rel => exact ⟨j + 1, by omega, by go_num, below_drewN HB2.out _⟩
              case measure => simp [intOf]; omega
            · have HSN : Hid (SP w w.heap.size mb q wr Rc Rl L' any') := ⟨HR9.out.below HBj.out HR9.out.lt, HV9.out.below HBj.out HV9.out.lt, HLS.out, HLA.out, HCR.out.1, HCR.out.2, HB9.out.trans (HBj.out.mono HB9.out.size)⟩
              go_wp2
              go_roundw
              case rel => exact ⟨i + 1, _, _, _, _, by omega, by go_num, HSN⟩
              case measure => simp [intOf]; omega
        · have BY : Below w5.heap.size w7 ((((w7.setCell ⟨w5.heap.size, 0, none⟩ (.int .i64 q)).setCell ⟨w5.heap.size, 1, none⟩ (.int .i64 Rc)).setCell ⟨w5.heap.size, 2, none⟩ (.int .i64 L')).setCell ⟨w5.heap.size, 3, none⟩ (.bool any')) := ((((Below.refl _ _).setCell (p := ⟨w5.heap.size, 0, none⟩) (Nat.le_refl _) _).setCell (p := ⟨w5.heap.size, 1, none⟩) (Nat.le_refl _) _).setCell (p := ⟨w5.heap.size, 2, none⟩) (Nat.le_refl _) _).setCell (p := ⟨w5.heap.size, 3, none⟩) (Nat.le_refl _) _
          have kn : IsV ((((w7.setCell ⟨w5.heap.size, 0, none⟩ (.int .i64 q)).setCell ⟨w5.heap.size, 1, none⟩ (.int .i64 Rc)).setCell ⟨w5.heap.size, 2, none⟩ (.int .i64 L')).setCell ⟨w5.heap.size, 3, none⟩ (.bool any')) w5.heap.size q Rc L' any' := (((T7.set0 q).set1 Rc).set2 L').set3 any'
          have kg := (owp_set (b := w5.heap.size) (o := 3) (x := .bool any') (owp_set (b := w5.heap.size) (o := 2) (x := .int .i64 L') (owp_set (b := w5.heap.size) (o := 1) (x := .int .i64 Rc) (owp_set (b := w5.heap.size) (o := 0) (x := .int .i64 q) HOV.out (by have h6 := hB6.size; have h7 : (w5.alloc (.cells #[.int .i64 0, .int .i64 0, .int .i64 0, .bool false] 27)).drew.heap.size = w5.heap.size + 1 := (by show (w5.alloc _).heap.size = _; simp); omega)) (by have h6 := hB6.size; have h7 : (w5.alloc (.cells #[.int .i64 0, .int .i64 0, .int .i64 0, .bool false] 27)).drew.heap.size = w5.heap.size + 1 := (by show (w5.alloc _).heap.size = _; simp); omega)) (by have h6 := hB6.size; have h7 : (w5.alloc (.cells #[.int .i64 0, .int .i64 0, .int .i64 0, .bool false] 27)).drew.heap.size = w5.heap.size + 1 := (by show (w5.alloc _).heap.size = _; simp); omega)) (by have h6 := hB6.size; have h7 : (w5.alloc (.cells #[.int .i64 0, .int .i64 0, .int .i64 0, .bool false] 27)).drew.heap.size = w5.heap.size + 1 := (by show (w5.alloc _).heap.size = _; simp); omega)).mono (C := w5.heap.size) (by have := hD6.size; first | exact this | (simp; omega))
          generalize ((((w7.setCell ⟨w5.heap.size, 0, none⟩ (.int .i64 q)).setCell ⟨w5.heap.size, 1, none⟩ (.int .i64 Rc)).setCell ⟨w5.heap.size, 2, none⟩ (.int .i64 L')).setCell ⟨w5.heap.size, 3, none⟩ (.bool any')) = Y at *
          clear T7 t0 t1 t2 t3 y0 y1 y2 y3
          try clear T6
          generalize hnb : w5.heap.size = nb at kn ⊢
          clear hnb
          have DY := hD7.trans BY
          have kr := HRA.out.below DY HRA.out.lt
          have km := HRV.out.below DY hmb
          have kx := HF8.out.keep DY
          have kb := HBE.out.trans (DY.mono HBE.out.size)
          have hrb : w.heap.size < w5.heap.size := HRA.out.lt
          have l0 := kn.c0
          have l1 := kn.c1
          have l2 := kn.c2
          have l3 := kn.c3
          have o0 := km.c0
          have o1 := km.c1
          have o2 := km.c2
          have o3 := km.c3
          have z0 := km.z 0
          have z1 := km.z 1
          have z2 := km.z 2
          have z3 := km.z 3
          have hmr := HMB.out
          have BZ : Below mb Y ((((Y.setCell ⟨mb, 0, none⟩ (.int .i64 q)).setCell ⟨mb, 1, none⟩ (.int .i64 Rc)).setCell ⟨mb, 2, none⟩ (.int .i64 L')).setCell ⟨mb, 3, none⟩ (.bool any')) := ((((Below.refl _ _).setCell (p := ⟨mb, 0, none⟩) (Nat.le_refl _) _).setCell (p := ⟨mb, 1, none⟩) (Nat.le_refl _) _).setCell (p := ⟨mb, 2, none⟩) (Nat.le_refl _) _).setCell (p := ⟨mb, 3, none⟩) (Nat.le_refl _) _
          have HKV := hidE ((((km.set0 q).set1 Rc).set2 L').set3 any')
          have HKG := hidE (owp_set (b := mb) (o := 3) (x := .bool any') (owp_set (b := mb) (o := 2) (x := .int .i64 L') (owp_set (b := mb) (o := 1) (x := .int .i64 Rc) (owp_set (b := mb) (o := 0) (x := .int .i64 q) kg hmb) hmb) hmb) hmb)
          have HKR := hidE (kr.below BZ (by omega))
          have HKB := hidE (kb.trans (BZ.mono hmr.1))
          have HKX : Hid (Fls ((((Y.setCell ⟨mb, 0, none⟩ (.int .i64 q)).setCell ⟨mb, 1, none⟩ (.int .i64 Rc)).setCell ⟨mb, 2, none⟩ (.int .i64 L')).setCell ⟨mb, 3, none⟩ (.bool any')) a8 c8 X) := fls_set4 kx HO8.out mb hmb _ _ _ _ DY HMW.out
          clear kr km kx kb kn kg DY BY BZ hB6 hD6 hS6 hB7 hD7 hS7 HAS HRD HOV HFX q0 q1 q2 q3 nm5 nn5 nm6 nn6 nm7 nn7 U0
          go_wp2_with fail
          generalize ((((Y.setCell ⟨mb, 0, none⟩ (.int .i64 q)).setCell ⟨mb, 1, none⟩ (.int .i64 Rc)).setCell ⟨mb, 2, none⟩ (.int .i64 L')).setCell ⟨mb, 3, none⟩ (.bool any')) = Y2 at *
          clear l0 l1 l2 l3 o0 o1 o2 o3 z0 z1 z2 z3
          have HCD := hidE (HRO.out Y2 HKR.out HKX.out (by rw [HNX.out] at hXl; rw [HNX.out]; exact hXl) (by omega) (by omega) c0 (by omega) (fun f hf => (HI.out f hf).2))
          rw [HNX.out] at HCD
          refine HCD.out.mono ?_
          rintro e w9 ⟨W', hW', v11, rfl, G9, R9, X9⟩
          rw [inv_uniq HVV.out (wait_cnt hW' (fun f hf => (HI.out f hf).1)), ← HRR.out] at G9 R9
          simp only at G9 R9
          clear HCD hW'
          have HG9 := hidE G9
          have HR9 := hidE R9
          have HV9 : Hid (IsV w9 mb q Rc L' any') := by
            have := HKV.out
            unfold IsV at this ⊢
            rw [Hid, X9.block mb HKV.out.lt (by exact hmr.2.symm)]
            exact this
          have HP9 := hidE (owp_ex HKG.out X9 hrb)
          have HB9 := hidE (HKB.out.trans (X9.below (Nat.le_refl _) HKB.out.size))
          have HC9 : Hid (∀ W : World, W.heap = w9.heap → Calls Try.prog 15 #[.pointer (some ⟨w.heap.size, 0, none⟩)] W fun e w' => e = .returned (.int .i64 Rc) ∧ w' = W) := fun W hW => rbcredit_any _ q Rc Rl W (by unfold IsR; rw [hW]; exact HR9.out)
          have p1 := HV9.out.c1
          obtain ⟨a11, c11, rfl⟩ := HG9.out.form
          obtain ⟨ng, hng⟩ : ∃ ng, ng = gs.length := ⟨_, rfl⟩
          have HNG : Hid (gs.length = ng) := hng.symm
          rw [← hng]
          have hng2 : ng ≤ 3000000 := by have := HGS.out; rw [← hng] at this; omega
          clear hng G9 R9 X9 HKV HKG HKR HKB HKX
          go_wp2_with fail
          go_quiet (first | (go_at_call 15; exact Calls.quiet_of_same (HC9.out _ rfl)))
          go_wp2_with fail
          clear p1
          go_loopw [60] (fun vj wr => ∃ j : Nat, j ≤ ng ∧ vj = .int .i64 j ∧ Hid (Below w9.heap.size w9 wr)) (fun vj _ => ng - (intOf vj).toNat)
          case atStart => exact ⟨0, Nat.zero_le _, rfl, below_drewN (Below.refl _ _) _⟩
          case round =>
            obtain ⟨j, hj, rfl, HBj⟩ := hrel
            by_cases hjn : j < ng
            · obtain ⟨gx, cx', ex, _, hlx, hcx⟩ := (HG9.out.grow HBj.out).at (by rw [HNG.out]; omega)
              injection ex with ex1 ex2 ex3
              subst ex1 ex3
              clear ex2
              obtain ⟨av', cv', ev, hfv⟩ := (HP9.out.grow HBj.out).fls
              injection ev with ev1 ev2 ev3
              subst ev1 ev3
              clear ev2
              obtain ⟨gv, ov, rfl, hlv, hcv⟩ := hfv.2.2.2 (by rw [HNG.out]; omega)
              have e0 := (hcx j (by rw [HNG.out]; exact hjn)).1
              have e1 := (hcx j (by rw [HNG.out]; exact hjn)).2
              have e2 := (hcv j (by rw [HNG.out]; exact hjn)).1
              have e3 := (hcv j (by rw [HNG.out]; exact hjn)).2
              have j1 : (0 : Int) ≤ j := by omega
              have j2 : (j : Int) < ng := by omega
              have HB2 : Hid (Below w9.heap.size w9 (wr.alloc (.cells #[.int .i64 (gs.getD j (0, 0)).1, .int .i64 (gs.getD j (0, 0)).2] 40))) := HBj.out.alloc HBj.out.size _
              clear hcx hcv hfv
              generalize (gs.getD j (0, 0)).1 = u0 at *
              generalize (gs.getD j (0, 0)).2 = u1 at *
              go_wp2_with fail
              go_quiet (fail)
              go_wp2
              go_roundw
              case rel => exact ⟨j + 1, by omega, by go_num, below_drewN HB2.out _⟩
              case measure => simp [intOf]; omega
            · have HSN : Hid (SP w w.heap.size mb q wr Rc Rl L' any') := ⟨HR9.out.below HBj.out HR9.out.lt, HV9.out.below HBj.out HV9.out.lt, HLS.out, HLA.out, HCR.out.1, HCR.out.2, HB9.out.trans (HBj.out.mono HB9.out.size)⟩
              go_wp2
              go_roundw
              case rel => exact ⟨i + 1, _, _, _, _, by omega, by go_num, HSN⟩
              case measure => simp [intOf]; omega
      · go_wp2
        go_ret
        exact ⟨rfl, HS.out.be⟩
end Go.Proofs.Ytejjljhmlgjlhaa
