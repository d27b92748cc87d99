/- A round of the document's robin, walked. -/
import Derived.Test.YtejjljhmlgjlhaaRvE
namespace Go.Proofs.Ytejjljhmlgjlhaa
open Go.RowKit
set_option linter.unusedVariables false

theorem OwP.mono {T : TypeId} {B C : Nat} {w : World} {v : Value} {l : List Fl} (h : OwP T B w v l) (hC : C ≤ B) : OwP T C w v l := by
  obtain ⟨h1, h2⟩ := h
  refine ⟨h1, ?_⟩
  rcases h2 with h2 | ⟨g, cap, cur, hv, hg, r⟩
  · exact .inl h2
  · exact .inr ⟨g, cap, cur, hv, Nat.le_trans hC hg, r⟩
theorem take1_len (F : List Fl) (p : Nat) (n : Int) : (take1 F p n).length = F.length := by unfold take1; rw [List.length_set]
/-- The loop's state. -/
structure LV (w : World) (q : Int) (R : Int × Int × List Fl) (n : Nat) (wr : World) (v6 v7 : Value) (F qu gs : List Fl) (cr L la : Int) (any : Bool) : Prop where
  ff : OwP 58 (w.heap.size + 2) wr v6 F
  gg : OwP 41 (w.heap.size + 2) wr v7 gs
  rr : IsV wr w.heap.size q cr L any
  r2 : IsV wr (w.heap.size + 1) 0 0 0 false
  ii : Inv la F qu
  ls : LaS any L la
  li : InR la
  aa : Ask qu
  ee : loopQ qu cr la gs = R
  c0 : 0 ≤ cr
  c1 : cr ≤ 2199023255552
  gl : (gs.length : Int) ≤ 2199023255552 - cr
  be : Below w.heap.size w wr
  sz : w.heap.size + 2 ≤ wr.heap.size
  fl : F.length = n
/-- The answer's cells written. -/
theorem four_set {T : TypeId} {S : Nat} {u Y : World} {v : Value} {l : List Fl} (h : OwP T (S + 2) Y v l) (b : Below S u Y) (x0 x1 x2 x3 : Value) :
    OwP T S ((((Y.setCell ⟨S + 1, 0, none⟩ x0).setCell ⟨S + 1, 1, none⟩ x1).setCell ⟨S + 1, 2, none⟩ x2).setCell ⟨S + 1, 3, none⟩ x3) v l ∧ Below S u ((((Y.setCell ⟨S + 1, 0, none⟩ x0).setCell ⟨S + 1, 1, none⟩ x1).setCell ⟨S + 1, 2, none⟩ x2).setCell ⟨S + 1, 3, none⟩ x3) :=
  ⟨(owp_set (owp_set (owp_set (owp_set h (by omega)) (by omega)) (by omega)) (by omega)).mono (by omega), (((b.setCell (p := ⟨S + 1, 0, none⟩) (Nat.le_succ _) _).setCell (p := ⟨S + 1, 1, none⟩) (Nat.le_succ _) _).setCell (p := ⟨S + 1, 2, none⟩) (Nat.le_succ _) _).setCell (p := ⟨S + 1, 3, none⟩) (Nat.le_succ _) _⟩
/-- The last connection is one. -/
theorem head_inr {la : Int} {F : List Fl} {h : Fl} {t : List Fl} (i : Inv la F (h :: t)) : InR h.1 := i.r h ((i.m h).1 (List.mem_cons_self ..)).2
set_option maxRecDepth 100000 in
set_option maxHeartbeats 1000000 in
theorem r16round_any (fs W : List Fl) (a : Option Addr) (c : Nat) (q cr L la : Int) (any : Bool) (w : World) (hf : Fls w a c fs) (hl : fs.length ≤ 20) (hW : Inv la (cnt fs fs.length) W) (ha : Ask W) (hs : LaS any L la) (hla : InR la) (hq0 : 0 ≤ q) (hq1 : q ≤ 1099511627776) (hc0 : 0 ≤ cr) (hc1 : cr ≤ 1099511627776) :
    Calls Try.prog 12 #[.agg #[.int .i64 q, .int .i64 cr, .int .i64 L, .bool any], .slice a fs.length c] w fun e w' => ∃ (v : Value) (L' : Int) (any' : Bool), e = .returned (.tuple #[.agg #[.int .i64 q, .int .i64 (loopQ W (cr + q) la []).1, .int .i64 L', .bool any'], v]) ∧ LaS any' L' (loopQ W (cr + q) la []).2.1 ∧ OwP 41 w.heap.size w' v (loopQ W (cr + q) la []).2.2 ∧ Below w.heap.size w w' := by
  have B0 : Below w.heap.size w ((w.alloc (.cells #[.int .i64 q, .int .i64 cr, .int .i64 L, .bool any] 27)).alloc (.cells #[.int .i64 0, .int .i64 0, .int .i64 0, .bool false] 27)) := ((Below.refl _ _).alloc (Nat.le_refl _) _).alloc (by simp) _
  have N1 : IsV ((w.alloc (.cells #[.int .i64 q, .int .i64 cr, .int .i64 L, .bool any] 27)).alloc (.cells #[.int .i64 0, .int .i64 0, .int .i64 0, .bool false] 27)) w.heap.size q cr L any := (Below.heap_alloc _ _ _ (by simp)).trans (tblk_new _ _)
  have N2 : IsV ((w.alloc (.cells #[.int .i64 q, .int .i64 cr, .int .i64 L, .bool any] 27)).alloc (.cells #[.int .i64 0, .int .i64 0, .int .i64 0, .bool false] 27)) (w.heap.size + 1) 0 0 0 false := bblk2 _ _ _
  have S0 : ((w.alloc (.cells #[.int .i64 q, .int .i64 cr, .int .i64 L, .bool any] 27)).alloc (.cells #[.int .i64 0, .int .i64 0, .int .i64 0, .bool false] 27)).heap.size = w.heap.size + 2 := by simp
  have HC := hidE (counted_any fs a c _ (hf.keep B0) hl)
  have HN1 := hidE N1
  have HN2 := hidE N2
  have HB0 := hidE B0
  have HS0 := hidE S0
  have HW := hidE hW
  have HA := hidE ha
  have HSL : Hid (LaS any L la ∧ InR la) := ⟨hs, hla⟩
  have HCL : Hid ((cnt fs fs.length).length ≤ 20) := Nat.le_trans (cnt_len _ _) hl
  have HEM : Hid (W = [] ↔ (cnt fs fs.length).length = 0) := by
    show _ ↔ _
    constructor
    · intro e
      rw [e] at hW
      rcases Nat.eq_zero_or_pos (cnt fs fs.length).length with z | z
      · exact z
      · exfalso
        have := pck_none hW 0 z
        obtain ⟨i, _, h2, h3, _⟩ := (cnt_mem fs _ _).1 (getD_mem z)
        omega
    · intro e
      have e2 : cnt fs fs.length = [] := List.eq_nil_of_length_eq_zero e
      cases W with
      | nil => rfl
      | cons x t =>
        have := ((hW.m x).1 (List.mem_cons_self ..)).2
        rw [e2] at this
        cases this
  obtain ⟨n, hn⟩ : ∃ n, n = fs.length := ⟨_, rfl⟩
  rw [← hn] at HC hl HW HCL HEM ⊢
  generalize cnt fs n = F at *
  clear hf hW ha hs hla B0 N1 N2 S0 hn
  go_enter Try.func12, Try.ntmps12
  go_wp2_with fail
  refine HC.out.mono ?_
  generalize ((w.alloc (.cells #[.int .i64 q, .int .i64 cr, .int .i64 L, .bool any] 27)).alloc (.cells #[.int .i64 0, .int .i64 0, .int .i64 0, .bool false] 27)) = W0 at *
  rintro e w1 ⟨v6, rfl, O6, B1⟩
  clear HC
  rw [HS0.out] at O6 B1
  obtain ⟨a6, c6, rfl, _⟩ := O6.fls
  have hv1 := HN1.out.below B1 (by omega)
  have hv2 := HN2.out.below B1 (by omega)
  have r0 := hv1.c0
  have r1 := hv1.c1
  have z1 := hv1.z 1
  have hsz := Nat.le_trans (Nat.le_of_eq HS0.out.symm) B1.size
  have hbe := HB0.out.trans (B1.mono (by omega))
  obtain ⟨R, hR⟩ : ∃ R, R = loopQ W (cr + q) la [] := ⟨_, rfl⟩
  have hwr : IntKind.i64.wrap (cr + q) = cr + q := by rw [IntKind.wrap_i64]; omega
  have hw1 : w.heap.size < w1.heap.size := by omega
  have BG : Below w1.heap.size w1 (w1.alloc (.cells #[] 41)) := (Below.refl _ _).alloc (Nat.le_refl _) _
  have OG := OwP.empty 41 (w.heap.size + 2) w1 hsz
  obtain ⟨m, hm⟩ : ∃ m, m = F.length := ⟨_, rfl⟩
  have HML : Hid (F.length = m) := hm.symm
  rw [← hm] at HCL HEM O6 ⊢
  clear hm
  have hne : ¬ w.heap.size = w1.heap.size := by omega
  by_cases h0 : m = 0
  all_goals
    first
    | (have hWe := HEM.out.2 h0
       have L0 : Hid (LV w q R m (w1.alloc (.cells #[] 41)) (.slice a6 m c6) (.slice (some ⟨w1.heap.size, 0, none⟩) 0 0) F W [] cr L la any) := ⟨O6.grow BG, OG, hv1.below BG hv1.lt, hv2.below BG hv2.lt, HW.out, HSL.out.1, HSL.out.2, HA.out, by rw [hR, hWe, loopQ_nil, loopQ_nil], hc0, by omega, by show (0 : Int) ≤ _; omega, hbe.trans (BG.mono hbe.size), Nat.le_trans hsz BG.size, HML.out⟩
       have d0 : decide (0 < m) = false := decide_eq_false (by omega)
       clear hWe)
    | (have L0 : Hid (LV w q R m ((w1.setCell ⟨w.heap.size, 1, none⟩ (.int .i64 (cr + q))).alloc (.cells #[] 41)) (.slice a6 m c6) (.slice (some ⟨w1.heap.size, 0, none⟩) 0 0) F W [] (cr + q) L la any) := by
         have hse : (w1.setCell ⟨w.heap.size, 1, none⟩ (.int .i64 (cr + q))).heap.size = w1.heap.size := by simp [World.setCell]
         have BG2 : Below (w1.setCell ⟨w.heap.size, 1, none⟩ (.int .i64 (cr + q))).heap.size (w1.setCell ⟨w.heap.size, 1, none⟩ (.int .i64 (cr + q))) ((w1.setCell ⟨w.heap.size, 1, none⟩ (.int .i64 (cr + q))).alloc (.cells #[] 41)) := (Below.refl _ _).alloc (Nat.le_refl _) _
         have OG2 := OwP.empty 41 (w.heap.size + 2) (w1.setCell ⟨w.heap.size, 1, none⟩ (.int .i64 (cr + q))) (by rw [hse]; exact hsz)
         rw [hse] at OG2
         have x1 := hv1.set1 (cr + q)
         have x2 : IsV (w1.setCell ⟨w.heap.size, 1, none⟩ (.int .i64 (cr + q))) (w.heap.size + 1) 0 0 0 false := (Below.heap_setCell _ _ _ _ (show w.heap.size + 1 ≠ w.heap.size by omega)).trans hv2
         have b1 := hbe.setCell (p := ⟨w.heap.size, 1, none⟩) (Nat.le_refl _) (.int .i64 (cr + q))
         exact ⟨(owp_set O6 (by omega)).grow BG2, OG2, x1.below BG2 x1.lt, x2.below BG2 x2.lt, HW.out, HSL.out.1, HSL.out.2, HA.out, hR.symm, by omega, by omega, by show (0 : Int) ≤ _; omega, b1.trans (BG2.mono b1.size), by rw [← hse] at hsz; exact Nat.le_trans hsz BG2.size, HML.out⟩
       have d0 : decide (0 < m) = true := decide_eq_true (by omega))
    have HRR := hidE hR
    have HMZ : Hid (m ≤ 20) := HCL.out
    clear h0 O6 OG BG hv1 hv2 hbe hsz HW HA HML hR B1 HN1 HN2 HB0 HS0 HSL HEM HCL
    go_wp2_with fail
    go_loopg [6, 7] (qsum W) (fun k v6 v7 wr => ∃ (F qu gs : List Fl) (cr L la : Int) (any : Bool) (a6 a7 : Option Addr) (c6 c7 : Nat), qsum qu ≤ k ∧ v6 = .slice a6 m c6 ∧ v7 = .slice a7 gs.length c7 ∧ Hid (LV w q R m wr (.slice a6 m c6) (.slice a7 gs.length c7) F qu gs cr L la any))
    case atStart => exact ⟨F, W, [], _, L, la, any, _, _, _, _, Nat.le_refl _, rfl, rfl, L0⟩
    case round =>
      clear L0 r0 r1 z1 hwr hc0 hc1 hq0 hq1 hne hw1
      obtain ⟨F, qu, gs, cr, L, la, any, a6, a7, c6, c7, hk, rfl, rfl, HS⟩ := hrel
      obtain ⟨ff, gg, rr, rr2, ii, ls, li, aa, ee, c0, c1, gl, be, sz, fl⟩ := HS.out
      obtain ⟨a6', c6', e6, hfl⟩ := ff.fls
      injection e6 with e61 e62 e63
      subst e61 e63
      have HP := hidE (pick_any F a6 c6 q cr L la any wr hfl (by rw [fl]; exact HMZ.out) ls li ii.r)
      rw [fl] at HP
      have r0 := rr.c0
      have r1 := rr.c1
      have r2 := rr.c2
      have r3 := rr.c3
      clear e62
      have HFL := hidE hfl
      have HS' := HS
      clear HS hfl ff gg rr rr2 ii ls li aa ee be
      go_wp2_with fail
      refine HP.out.mono ?_
      rintro e w2 ⟨r, rfl, hpk, B2⟩
      clear HP r0 r1 r2 r3
      obtain ⟨ff, gg, rr, rr2, ii, ls, li, aa, ee, _, _, _, be, _, _⟩ := HS'.out
      have ff2 := ff.grow B2
      have gg2 := gg.grow B2
      have rv2 := rr.below B2 rr.lt
      have rw2 := rr2.below B2 rr2.lt
      have be2 := be.trans (B2.mono be.size)
      have sz2 := Nat.le_trans sz B2.size
      have hfl2 := HFL.out.keep B2
      clear ff gg rr rr2 be HS' HFL B2
      have r0 := rv2.c0
      have r1 := rv2.c1
      have r2 := rv2.c2
      have r3 := rv2.c3
      have s0 := rw2.c0
      have s1 := rw2.c1
      have s2 := rw2.c2
      have s3 := rw2.c3
      have z1 := rv2.z 1
      have z2 := rv2.z 2
      have z3 := rv2.z 3
      have y0 := rw2.z 0
      have y1 := rw2.z 1
      have y2 := rw2.z 2
      have y3 := rw2.z 3
      cases qu with
      | nil =>
        have hr1 : r = -1 := by
          rcases hpk with ⟨e, _⟩ | ⟨p, rfl, hp⟩
          · exact e
          · have := pck_none ii p hp.1; have := hp.2.1; omega
        subst hr1
        rw [loopQ_nil] at ee
        have HG := hidE (four_set (owp_set (o := 1) (x := .int .i64 0) gg2 (show w.heap.size < w.heap.size + 2 by omega)) (be2.setCell (p := ⟨w.heap.size, 1, none⟩) (Nat.le_refl _) (.int .i64 0)) (.int .i64 q) (.int .i64 0) (.int .i64 L) (.bool any))
        have HEE := hidE ee
        have HLS := hidE ls
        clear gg2 be2 ff2 rv2 rw2 hfl2 ee ls ii li aa hpk
        go_wp2
        refine bodyPost_ret (v := .tuple #[.agg #[.int .i64 q, .int .i64 0, .int .i64 L, .bool any], .slice a7 gs.length c7]) (by simp [results, Try.results12, go_sem, s0, s1, s2, s3]) rfl ?_
        refine ⟨_, L, any, by rw [← HRR.out, ← HEE.out], by rw [← HRR.out, ← HEE.out]; exact HLS.out, by rw [← HRR.out, ← HEE.out]; exact HG.out.1, HG.out.2⟩
      | cons f t =>
        obtain ⟨hf0, hfF⟩ := (ii.m f).1 (List.mem_cons_self ..)
        obtain ⟨p, hrp, hp⟩ : ∃ p : Nat, r = (p : Int) ∧ Pck la F p := by
          rcases hpk with ⟨_, e⟩ | q
          · obtain ⟨j, hj, ej⟩ := mem_getD hfF
            have := e j hj
            rw [ej] at this
            omega
          · exact q
        subst hrp
        have hhd := pck_head ii hp
        have hpl := hp.1
        have hpm : p < m := by rw [← fl]; exact hpl
        obtain ⟨g, off, rfl, hg, hcc⟩ := hfl2.2.2.2 (by omega)
        have c0' := (hcc p hpl).1
        have c1' := (hcc p hpl).2
        rw [hhd] at c0' c1'
        have hfa := aa f (List.mem_cons_self ..)
        obtain ⟨x, y⟩ := f
        simp only at c0' c1' hf0 hfa
        have i1 : (0 : Int) ≤ p := by omega
        have i2 : (p : Int) < m := by omega
        have i3 : ¬ (p : Int) < 0 := by omega
        by_cases h64 : 64 < y
        · have d64 : decide (64 < y) = true := decide_eq_true h64
          have HMN : Hid (min y 64 = 64) := by show _ = _; omega
          have n1 : (1 : Int) ≤ 64 := by omega
          have n2 : (64 : Int) ≤ y := by omega
          have ii' := inv_step ii hpl hhd
          simp only [HMN.out] at ii'
          by_cases hcp : cr < 64
          · have dc : decide (cr < 64) = true := decide_eq_true hcp
            rw [loopQ_stop hf0 (by simp only [HMN.out]; exact hcp)] at ee
            have HG := hidE (four_set gg2 be2 (.int .i64 q) (.int .i64 cr) (.int .i64 L) (.bool any))
            have HEE := hidE ee
            have HLS := hidE ls
            clear gg2 be2 ff2 rv2 rw2 hfl2 ee ls ii ii' li aa hpk hcc hp hhd hfa
            go_wp2
            refine bodyPost_ret (v := .tuple #[.agg #[.int .i64 q, .int .i64 cr, .int .i64 L, .bool any], .slice a7 gs.length c7]) (by simp [results, Try.results12, go_sem, s0, s1, s2, s3]) rfl ?_
            refine ⟨_, L, any, by rw [← HRR.out, ← HEE.out], by rw [← HRR.out, ← HEE.out]; exact HLS.out, by rw [← HRR.out, ← HEE.out]; exact HG.out.1, HG.out.2⟩
          · have dc : decide (cr < 64) = false := decide_eq_false hcp
            rw [loopQ_go hf0 (by simp only [HMN.out]; exact hcp)] at ee
            simp only [HMN.out] at ee
            obtain ⟨v7', w3, hr3, O3, B3, _, K3⟩ := owp_append Try.underlying31 infoRG gg2 sz2 x 64 (by omega)
            obtain ⟨a7', c7', rfl, _⟩ := O3.fls
            have ff3 : OwP 58 (w.heap.size + 2) w3 (.slice (some ⟨g, off, none⟩) m c6) F := ff2.move fun k cur hk1 hk2 hk3 => K3 k (Array.getElem?_eq_some_iff.1 hk3).1 (fun e => by
              obtain ⟨_, cur2, e2⟩ := gg2.blk k e
              rw [hk3] at e2
              injection e2 with e2
              injection e2 with _ e3 _
              exact absurd e3 (by decide))
            obtain ⟨a6', c6', e6, hfl3⟩ := ff3.fls
            injection e6 with e61 e62 e63
            subst e61 e63
            clear e62
            have HFL3 := hidE hfl3
            have rv3 := hidE (rv2.below B3 (by omega))
            have rw3 := hidE (rw2.below B3 (by omega))
            have be3 := hidE (be2.trans (B3.mono (by omega)))
            have sz3 := hidE (Nat.le_trans sz2 B3.size)
            have HGL : Hid (((gs ++ [(x, 64)]).length : Int) ≤ 2199023255552 - (cr - 64)) := by rw [Hid, List.length_append]; show ((gs.length + 1 : Nat) : Int) ≤ _; omega
            have HO3 := hidE O3
            have HII := hidE ii'
            have HEE := hidE ee
            have HAA := hidE aa.nxt
            have HLX := hidE (head_inr ii)
            have HMS : Hid (qsum (nxt (x, y) t) < gk) := Nat.lt_of_lt_of_le (nxt_less (x, y) t (by simp only; omega)) hk
            have HHD := hidE hhd
            have HPL := hidE hpl
            have HFL := hidE fl
            have HOE := hidE (OwP.empty 58 w3.heap.size w3 (Nat.le_refl _))
            have hcw : IntKind.i64.wrap (cr - 64) = cr - 64 := by rw [IntKind.wrap_i64]; omega
            have hyw : IntKind.i64.wrap (y - 64) = y - 64 := by rw [IntKind.wrap_i64]; omega
            have C01 : Hid (0 ≤ cr - 64 ∧ cr - 64 ≤ 2199023255552) := ⟨by omega, by omega⟩
            clear gg2 be2 ff2 rv2 rw2 hfl2 hfl3 ff3 ee ls ii ii' li aa hpk hcc hp hhd hfa O3 B3 K3 c0 c1 gl sz sz2 hk hpl fl hfF s0 s1 s2 s3 y0 y1 y2 y3 z1 z2 z3 hf0
            go_wp2_with (at_builtin; refine wpList_append_run2 rfl _ _ 31 31 rfl _ _ _ w3 rfl rfl hr3 ?_; clear hr3)
            go_loopw [10, 11] (fun v10 vj wr => ∃ (j : Nat) (a10 : Option Addr) (c10 : Nat), j ≤ m ∧ vj = .int .i64 j ∧ v10 = .slice a10 j c10 ∧ Hid (OwP 58 w3.heap.size wr (.slice a10 j c10) ((take1 F p 64).take j)) ∧ Hid (Below w3.heap.size w3 wr)) (fun _ vj _ => m - (intOf vj).toNat)
            case atStart => exact ⟨0, _, _, Nat.zero_le _, rfl, rfl, HOE, (Below.refl _ _).alloc (Nat.le_refl _) _⟩
            case round =>
              obtain ⟨j, a10, c10, hj, rfl, rfl, HO, HB⟩ := hrel
              have hm20 : m ≤ 20 := HMZ.out
              have hflr := HFL3.out.keep HB.out
              obtain ⟨g', off', e', hg', hcc⟩ := hflr.2.2.2 (by rw [HFL.out]; omega)
              injection e' with e'
              injection e' with e1 e2 e3
              subst e1 e2
              clear e3
              by_cases hjm : j < m
              · have d0' := (hcc j (by rw [HFL.out]; exact hjm)).1
                have d1' := (hcc j (by rw [HFL.out]; exact hjm)).2
                have j1 : (0 : Int) ≤ j := by omega
                have j2 : (j : Int) < m := by omega
                have hT : (take1 F p 64).take (j + 1) = (take1 F p 64).take j ++ [(take1 F p 64).getD j (0, 0)] := take_snoc _ _ (by rw [take1_len, HFL.out]; exact hjm)
                have hTg : (take1 F p 64).getD j (0, 0) = if p = j then (x, (y - 64)) else F.getD j (0, 0) := by
                  unfold take1
                  rw [getD_set _ _ _ _ HPL.out, HHD.out]
                have hl1 : ((take1 F p 64).take j).length = j := by rw [List.length_take, take1_len, HFL.out]; omega
                have hl2 : ((take1 F p 64).take (j + 1)).length = j + 1 := by rw [List.length_take, take1_len, HFL.out]; omega
                by_cases hpj : p = j
                · subst hpj
                  rw [HHD.out] at d0' d1'
                  simp only at d0' d1'
                  rw [if_pos rfl] at hTg
                  rw [hTg] at hT
                  have BA : Below wr.heap.size wr (wr.alloc (.cells #[.int .i64 x, .int .i64 (y - 64)] 58)) := (Below.refl _ _).alloc (Nat.le_refl _) _
                  obtain ⟨v8, w8, r8, O8, B8, _⟩ := owp_append Try.underlying34 infoRF (HO.out.grow BA) (Nat.le_trans HB.out.size BA.size) x (y - 64) (by have := HMZ.out; omega)
                  rw [← hT] at O8
                  obtain ⟨a8, c8, rfl, _⟩ := O8.fls
                  rw [hl2] at O8 r8
                  rw [show (wr.alloc (.cells #[.int .i64 x, .int .i64 (y - 64)] 58)).heap.size = wr.heap.size + 1 by simp] at r8
                  have HO8 := hidE O8
                  have HB8 := hidE ((HB.out.trans (BA.mono HB.out.size)).trans B8)
                  clear hT hTg hl1 hl2 O8 B8 BA HO HB hcc hflr
                  go_wp2_with (at_builtin; refine wpList_append_run2 rfl _ _ 34 34 rfl _ _ _ w8 rfl rfl r8 ?_)
                  go_roundw
                  case rel => exact ⟨p + 1, _, _, by omega, by go_num, rfl, HO8, HB8⟩
                  case measure => simp [intOf]; omega
                · rw [if_neg hpj] at hTg
                  rw [hTg] at hT
                  have dpj : ((j : Int) == (p : Int)) = false := by simp; omega
                  have BA : Below wr.heap.size wr (wr.alloc (.cells #[.int .i64 (F.getD j (0, 0)).1, .int .i64 (F.getD j (0, 0)).2] 58)) := (Below.refl _ _).alloc (Nat.le_refl _) _
                  obtain ⟨v8, w8, r8, O8, B8, _⟩ := owp_append Try.underlying34 infoRF (HO.out.grow BA) (Nat.le_trans HB.out.size BA.size) (F.getD j (0, 0)).1 (F.getD j (0, 0)).2 (by have := HMZ.out; omega)
                  have O8' : OwP 58 w3.heap.size w8 v8 ((take1 F p 64).take (j + 1)) := by rw [hT]; exact O8
                  obtain ⟨a8, c8, rfl, _⟩ := O8'.fls
                  rw [hl2] at O8' r8
                  rw [show (wr.alloc (.cells #[.int .i64 (F.getD j (0, 0)).1, .int .i64 (F.getD j (0, 0)).2] 58)).heap.size = wr.heap.size + 1 by simp] at r8
                  have HO8 := hidE O8'
                  have HB8 := hidE ((HB.out.trans (BA.mono HB.out.size)).trans B8)
                  clear hT hTg hl1 hl2 O8 O8' B8 BA HO HB hcc hflr hpj
                  generalize (F.getD j (0, 0)).1 = xj at *
                  generalize (F.getD j (0, 0)).2 = yj at *
                  go_wp2_with (at_builtin; refine wpList_append_run2 rfl _ _ 34 34 rfl _ _ _ w8 rfl rfl r8 ?_)
                  go_roundw
                  case rel => exact ⟨j + 1, _, _, by omega, by go_num, rfl, HO8, HB8⟩
                  case measure => simp [intOf]; omega
              · obtain rfl : j = m := by omega
                have e0' := (hcc p HPL.out).1
                rw [HHD.out] at e0'
                simp only at e0'
                have hTT : (take1 F p 64).take j = take1 F p 64 := List.take_of_length_le (by rw [take1_len, HFL.out]; exact Nat.le_refl _)
                have hO10 : OwP 58 (w.heap.size + 2) wr (.slice a10 j c10) (take1 F p 64) := by rw [← hTT]; exact HO.out.mono sz3.out
                have rv4 := rv3.out.below HB.out rv3.out.lt
                have rw4 := rw3.out.below HB.out rw3.out.lt
                have hlen : (gs ++ [(x, 64)]).length = gs.length + 1 := by rw [List.length_append]; rfl
                have HLV : Hid (LV w q R j (((wr.setCell ⟨w.heap.size, 2, none⟩ (.int .i64 x)).setCell ⟨w.heap.size, 3, none⟩ (.bool true)).setCell ⟨w.heap.size, 1, none⟩ (.int .i64 (cr - 64))) (.slice a10 j c10) (.slice a7' (gs ++ [(x, 64)]).length c7') (take1 F p 64) (nxt (x, y) t) (gs ++ [(x, 64)]) (cr - 64) x x true) :=
                  ⟨owp_set (owp_set (owp_set hO10 (by omega)) (by omega)) (by omega), owp_set (owp_set (owp_set (HO3.out.grow HB.out) (by omega)) (by omega)) (by omega), ((rv4.set2 x).set3 true).set1 (cr - 64), (Below.heap_setCell _ _ _ _ (show w.heap.size + 1 ≠ w.heap.size by omega)).trans ((Below.heap_setCell _ _ _ _ (show w.heap.size + 1 ≠ w.heap.size by omega)).trans ((Below.heap_setCell _ _ _ _ (show w.heap.size + 1 ≠ w.heap.size by omega)).trans rw4)), HII.out, .inl ⟨rfl, rfl⟩, HLX.out, HAA.out, HEE.out, C01.out.1, C01.out.2, HGL.out, (((be3.out.trans (HB.out.mono be3.out.size)).setCell (p := ⟨w.heap.size, 2, none⟩) (Nat.le_refl _) _).setCell (p := ⟨w.heap.size, 3, none⟩) (Nat.le_refl _) _).setCell (p := ⟨w.heap.size, 1, none⟩) (Nat.le_refl _) _, by have := sz3.out; have := HB.out.size; simp [World.setCell]; omega, by rw [take1_len]; exact HFL.out⟩
                have q0 := rv4.c0
                have q1 := rv4.c1
                have q2 := rv4.c2
                have q3 := rv4.c3
                have x1 := rv4.z 1
                have x2 := rv4.z 2
                have x3 := rv4.z 3
                clear hO10 rv4 rw4 hTT hcc hflr HO HB HII HEE
                go_wp2
                go_roundg (qsum (nxt (x, y) t))
                case measure => exact HMS.out
                case rel => exact ⟨_, _, gs ++ [(x, 64)], _, _, _, _, _, _, _, _, Nat.le_refl _, rfl, by first | rfl | (rw [hlen]), HLV⟩
        · have d64 : decide (64 < y) = false := decide_eq_false h64
          have HMN : Hid (min y 64 = y) := by show _ = _; omega
          have n1 : (1 : Int) ≤ y := by omega
          have n2 : (y : Int) ≤ y := by omega
          have ii' := inv_step ii hpl hhd
          simp only [HMN.out] at ii'
          by_cases hcp : cr < y
          · have dc : decide (cr < y) = true := decide_eq_true hcp
            rw [loopQ_stop hf0 (by simp only [HMN.out]; exact hcp)] at ee
            have HG := hidE (four_set gg2 be2 (.int .i64 q) (.int .i64 cr) (.int .i64 L) (.bool any))
            have HEE := hidE ee
            have HLS := hidE ls
            clear gg2 be2 ff2 rv2 rw2 hfl2 ee ls ii ii' li aa hpk hcc hp hhd hfa
            go_wp2
            refine bodyPost_ret (v := .tuple #[.agg #[.int .i64 q, .int .i64 cr, .int .i64 L, .bool any], .slice a7 gs.length c7]) (by simp [results, Try.results12, go_sem, s0, s1, s2, s3]) rfl ?_
            refine ⟨_, L, any, by rw [← HRR.out, ← HEE.out], by rw [← HRR.out, ← HEE.out]; exact HLS.out, by rw [← HRR.out, ← HEE.out]; exact HG.out.1, HG.out.2⟩
          · have dc : decide (cr < y) = false := decide_eq_false hcp
            rw [loopQ_go hf0 (by simp only [HMN.out]; exact hcp)] at ee
            simp only [HMN.out] at ee
            obtain ⟨v7', w3, hr3, O3, B3, _, K3⟩ := owp_append Try.underlying31 infoRG gg2 sz2 x y (by omega)
            obtain ⟨a7', c7', rfl, _⟩ := O3.fls
            have ff3 : OwP 58 (w.heap.size + 2) w3 (.slice (some ⟨g, off, none⟩) m c6) F := ff2.move fun k cur hk1 hk2 hk3 => K3 k (Array.getElem?_eq_some_iff.1 hk3).1 (fun e => by
              obtain ⟨_, cur2, e2⟩ := gg2.blk k e
              rw [hk3] at e2
              injection e2 with e2
              injection e2 with _ e3 _
              exact absurd e3 (by decide))
            obtain ⟨a6', c6', e6, hfl3⟩ := ff3.fls
            injection e6 with e61 e62 e63
            subst e61 e63
            clear e62
            have HFL3 := hidE hfl3
            have rv3 := hidE (rv2.below B3 (by omega))
            have rw3 := hidE (rw2.below B3 (by omega))
            have be3 := hidE (be2.trans (B3.mono (by omega)))
            have sz3 := hidE (Nat.le_trans sz2 B3.size)
            have HGL : Hid (((gs ++ [(x, y)]).length : Int) ≤ 2199023255552 - (cr - y)) := by rw [Hid, List.length_append]; show ((gs.length + 1 : Nat) : Int) ≤ _; omega
            have HO3 := hidE O3
            have HII := hidE ii'
            have HEE := hidE ee
            have HAA := hidE aa.nxt
            have HLX := hidE (head_inr ii)
            have HMS : Hid (qsum (nxt (x, y) t) < gk) := Nat.lt_of_lt_of_le (nxt_less (x, y) t (by simp only; omega)) hk
            have HHD := hidE hhd
            have HPL := hidE hpl
            have HFL := hidE fl
            have HOE := hidE (OwP.empty 58 w3.heap.size w3 (Nat.le_refl _))
            have hcw : IntKind.i64.wrap (cr - y) = cr - y := by rw [IntKind.wrap_i64]; omega
            have hyw : IntKind.i64.wrap (y - y) = y - y := by rw [IntKind.wrap_i64]; omega
            have C01 : Hid (0 ≤ cr - y ∧ cr - y ≤ 2199023255552) := ⟨by omega, by omega⟩
            clear gg2 be2 ff2 rv2 rw2 hfl2 hfl3 ff3 ee ls ii ii' li aa hpk hcc hp hhd hfa O3 B3 K3 c0 c1 gl sz sz2 hk hpl fl hfF s0 s1 s2 s3 y0 y1 y2 y3 z1 z2 z3 hf0
            go_wp2_with (at_builtin; refine wpList_append_run2 rfl _ _ 31 31 rfl _ _ _ w3 rfl rfl hr3 ?_; clear hr3)
            go_loopw [10, 11] (fun v10 vj wr => ∃ (j : Nat) (a10 : Option Addr) (c10 : Nat), j ≤ m ∧ vj = .int .i64 j ∧ v10 = .slice a10 j c10 ∧ Hid (OwP 58 w3.heap.size wr (.slice a10 j c10) ((take1 F p y).take j)) ∧ Hid (Below w3.heap.size w3 wr)) (fun _ vj _ => m - (intOf vj).toNat)
            case atStart => exact ⟨0, _, _, Nat.zero_le _, rfl, rfl, HOE, (Below.refl _ _).alloc (Nat.le_refl _) _⟩
            case round =>
              obtain ⟨j, a10, c10, hj, rfl, rfl, HO, HB⟩ := hrel
              have hm20 : m ≤ 20 := HMZ.out
              have hflr := HFL3.out.keep HB.out
              obtain ⟨g', off', e', hg', hcc⟩ := hflr.2.2.2 (by rw [HFL.out]; omega)
              injection e' with e'
              injection e' with e1 e2 e3
              subst e1 e2
              clear e3
              by_cases hjm : j < m
              · have d0' := (hcc j (by rw [HFL.out]; exact hjm)).1
                have d1' := (hcc j (by rw [HFL.out]; exact hjm)).2
                have j1 : (0 : Int) ≤ j := by omega
                have j2 : (j : Int) < m := by omega
                have hT : (take1 F p y).take (j + 1) = (take1 F p y).take j ++ [(take1 F p y).getD j (0, 0)] := take_snoc _ _ (by rw [take1_len, HFL.out]; exact hjm)
                have hTg : (take1 F p y).getD j (0, 0) = if p = j then (x, 0) else F.getD j (0, 0) := by
                  unfold take1
                  rw [getD_set _ _ _ _ HPL.out, HHD.out]
                  simp only [Int.sub_self]
                have hl1 : ((take1 F p y).take j).length = j := by rw [List.length_take, take1_len, HFL.out]; omega
                have hl2 : ((take1 F p y).take (j + 1)).length = j + 1 := by rw [List.length_take, take1_len, HFL.out]; omega
                by_cases hpj : p = j
                · subst hpj
                  rw [HHD.out] at d0' d1'
                  simp only at d0' d1'
                  rw [if_pos rfl] at hTg
                  rw [hTg] at hT
                  have BA : Below wr.heap.size wr (wr.alloc (.cells #[.int .i64 x, .int .i64 0] 58)) := (Below.refl _ _).alloc (Nat.le_refl _) _
                  obtain ⟨v8, w8, r8, O8, B8, _⟩ := owp_append Try.underlying34 infoRF (HO.out.grow BA) (Nat.le_trans HB.out.size BA.size) x 0 (by have := HMZ.out; omega)
                  rw [← hT] at O8
                  obtain ⟨a8, c8, rfl, _⟩ := O8.fls
                  rw [hl2] at O8 r8
                  rw [show (wr.alloc (.cells #[.int .i64 x, .int .i64 0] 58)).heap.size = wr.heap.size + 1 by simp] at r8
                  have HO8 := hidE O8
                  have HB8 := hidE ((HB.out.trans (BA.mono HB.out.size)).trans B8)
                  clear hT hTg hl1 hl2 O8 B8 BA HO HB hcc hflr
                  go_wp2_with (at_builtin; refine wpList_append_run2 rfl _ _ 34 34 rfl _ _ _ w8 rfl rfl r8 ?_)
                  go_roundw
                  case rel => exact ⟨p + 1, _, _, by omega, by go_num, rfl, HO8, HB8⟩
                  case measure => simp [intOf]; omega
                · rw [if_neg hpj] at hTg
                  rw [hTg] at hT
                  have dpj : ((j : Int) == (p : Int)) = false := by simp; omega
                  have BA : Below wr.heap.size wr (wr.alloc (.cells #[.int .i64 (F.getD j (0, 0)).1, .int .i64 (F.getD j (0, 0)).2] 58)) := (Below.refl _ _).alloc (Nat.le_refl _) _
                  obtain ⟨v8, w8, r8, O8, B8, _⟩ := owp_append Try.underlying34 infoRF (HO.out.grow BA) (Nat.le_trans HB.out.size BA.size) (F.getD j (0, 0)).1 (F.getD j (0, 0)).2 (by have := HMZ.out; omega)
                  have O8' : OwP 58 w3.heap.size w8 v8 ((take1 F p y).take (j + 1)) := by rw [hT]; exact O8
                  obtain ⟨a8, c8, rfl, _⟩ := O8'.fls
                  rw [hl2] at O8' r8
                  rw [show (wr.alloc (.cells #[.int .i64 (F.getD j (0, 0)).1, .int .i64 (F.getD j (0, 0)).2] 58)).heap.size = wr.heap.size + 1 by simp] at r8
                  have HO8 := hidE O8'
                  have HB8 := hidE ((HB.out.trans (BA.mono HB.out.size)).trans B8)
                  clear hT hTg hl1 hl2 O8 O8' B8 BA HO HB hcc hflr hpj
                  generalize (F.getD j (0, 0)).1 = xj at *
                  generalize (F.getD j (0, 0)).2 = yj at *
                  go_wp2_with (at_builtin; refine wpList_append_run2 rfl _ _ 34 34 rfl _ _ _ w8 rfl rfl r8 ?_)
                  go_roundw
                  case rel => exact ⟨j + 1, _, _, by omega, by go_num, rfl, HO8, HB8⟩
                  case measure => simp [intOf]; omega
              · obtain rfl : j = m := by omega
                have e0' := (hcc p HPL.out).1
                rw [HHD.out] at e0'
                simp only at e0'
                have hTT : (take1 F p y).take j = take1 F p y := List.take_of_length_le (by rw [take1_len, HFL.out]; exact Nat.le_refl _)
                have hO10 : OwP 58 (w.heap.size + 2) wr (.slice a10 j c10) (take1 F p y) := by rw [← hTT]; exact HO.out.mono sz3.out
                have rv4 := rv3.out.below HB.out rv3.out.lt
                have rw4 := rw3.out.below HB.out rw3.out.lt
                have hlen : (gs ++ [(x, y)]).length = gs.length + 1 := by rw [List.length_append]; rfl
                have HLV : Hid (LV w q R j (((wr.setCell ⟨w.heap.size, 2, none⟩ (.int .i64 x)).setCell ⟨w.heap.size, 3, none⟩ (.bool true)).setCell ⟨w.heap.size, 1, none⟩ (.int .i64 (cr - y))) (.slice a10 j c10) (.slice a7' (gs ++ [(x, y)]).length c7') (take1 F p y) (nxt (x, y) t) (gs ++ [(x, y)]) (cr - y) x x true) :=
                  ⟨owp_set (owp_set (owp_set hO10 (by omega)) (by omega)) (by omega), owp_set (owp_set (owp_set (HO3.out.grow HB.out) (by omega)) (by omega)) (by omega), ((rv4.set2 x).set3 true).set1 (cr - y), (Below.heap_setCell _ _ _ _ (show w.heap.size + 1 ≠ w.heap.size by omega)).trans ((Below.heap_setCell _ _ _ _ (show w.heap.size + 1 ≠ w.heap.size by omega)).trans ((Below.heap_setCell _ _ _ _ (show w.heap.size + 1 ≠ w.heap.size by omega)).trans rw4)), HII.out, .inl ⟨rfl, rfl⟩, HLX.out, HAA.out, HEE.out, C01.out.1, C01.out.2, HGL.out, (((be3.out.trans (HB.out.mono be3.out.size)).setCell (p := ⟨w.heap.size, 2, none⟩) (Nat.le_refl _) _).setCell (p := ⟨w.heap.size, 3, none⟩) (Nat.le_refl _) _).setCell (p := ⟨w.heap.size, 1, none⟩) (Nat.le_refl _) _, by have := sz3.out; have := HB.out.size; simp [World.setCell]; omega, by rw [take1_len]; exact HFL.out⟩
                have q0 := rv4.c0
                have q1 := rv4.c1
                have q2 := rv4.c2
                have q3 := rv4.c3
                have x1 := rv4.z 1
                have x2 := rv4.z 2
                have x3 := rv4.z 3
                clear hO10 rv4 rw4 hTT hcc hflr HO HB HII HEE
                go_wp2
                go_roundg (qsum (nxt (x, y) t))
                case measure => exact HMS.out
                case rel => exact ⟨_, _, gs ++ [(x, y)], _, _, _, _, _, _, _, _, Nat.le_refl _, rfl, by first | rfl | (rw [hlen]), HLV⟩
end Go.Proofs.Ytejjljhmlgjlhaa
