/- The document's clock: Set (written by clw.py). -/
import Derived.Test.YtofnnphpogpcdaaClV
import Derived.Deep.RegionWith
namespace Go.Proofs.Ytofnnphpogpcdaa
open Go.ChangeShapes Go.WideShapes Go.ChangeAt Go.RowKit
set_option linter.unusedVariables false

/-- What has been put in so far. -/
def InsA (d : Pr) (R : List Pr) (k : Nat) (b : Bool) (o : List Pr) : Prop := (b = false ∧ insL d R = o ++ insL d (R.drop k)) ∨ (b = true ∧ insL d R = o ++ R.drop k)
theorem InsA.start (d : Pr) (R : List Pr) : InsA d R 0 false [] := .inl ⟨rfl, rfl⟩
theorem drop_at {R : List Pr} {k : Nat} {p : Pr} (h : R[k]? = some p) : R.drop k = p :: R.drop (k + 1) := by
  obtain ⟨hk, e⟩ := List.getElem?_eq_some_iff.1 h
  rw [List.drop_eq_getElem_cons hk, e]
theorem InsA.now {d p : Pr} {R o : List Pr} {k : Nat} (h : InsA d R k false o) (hp : R[k]? = some p) (c : klt d p) : InsA d R (k + 1) true (o ++ [d] ++ [p]) := by
  rcases h with ⟨_, e⟩ | ⟨e, _⟩
  · refine .inr ⟨rfl, ?_⟩
    rw [e, drop_at hp]
    unfold insL
    rw [if_pos c]
    simp
  · cases e
theorem InsA.not {d p : Pr} {R o : List Pr} {k : Nat} (h : InsA d R k false o) (hp : R[k]? = some p) (c : ¬ klt d p) : InsA d R (k + 1) false (o ++ [p]) := by
  rcases h with ⟨_, e⟩ | ⟨e, _⟩
  · refine .inl ⟨rfl, ?_⟩
    rw [e, drop_at hp]
    conv => lhs; unfold insL
    rw [if_neg c]
    simp
  · cases e
theorem InsA.done {d p : Pr} {R o : List Pr} {k : Nat} (h : InsA d R k true o) (hp : R[k]? = some p) : InsA d R (k + 1) true (o ++ [p]) := by
  rcases h with ⟨e, _⟩ | ⟨_, e⟩
  · cases e
  · refine .inr ⟨rfl, ?_⟩
    rw [e, drop_at hp]
    simp
theorem InsA.len {d : Pr} {R o : List Pr} {k : Nat} {b : Bool} (h : InsA d R k b o) : o.length ≤ R.length + 1 := by
  rcases h with ⟨_, e⟩ | ⟨_, e⟩
  · have := congrArg List.length e
    rw [ins_len, List.length_append] at this; omega
  · have := congrArg List.length e
    rw [ins_len, List.length_append] at this; omega
theorem InsA.endF {d : Pr} {R o : List Pr} (h : InsA d R R.length false o) : insL d R = o ++ [d] := by
  rcases h with ⟨_, e⟩ | ⟨e, _⟩
  · rw [e, List.drop_length]; rfl
  · cases e
theorem InsA.endT {d : Pr} {R o : List Pr} (h : InsA d R R.length true o) : insL d R = o := by
  rcases h with ⟨e, _⟩ | ⟨_, e⟩
  · cases e
  · rw [e, List.drop_length, List.append_nil]
theorem three_new (w : World) (o1 o2 o3 : Obj) : (((w.alloc o1).alloc o2).alloc o3).heap[w.heap.size]? = some o1 ∧ (((w.alloc o1).alloc o2).alloc o3).heap[w.heap.size + 1]? = some o2 ∧ (((w.alloc o1).alloc o2).alloc o3).heap[w.heap.size + 1 + 1]? = some o3 := by
  obtain ⟨a, b⟩ := two_new w o1 o2
  refine ⟨(Below.heap_alloc _ _ _ (by simp; omega)).trans a, (Below.heap_alloc _ _ _ (by simp)).trans b, ?_⟩
  have := tblk_new ((w.alloc o1).alloc o2) o3
  rwa [show ((w.alloc o1).alloc o2).heap.size = w.heap.size + 1 + 1 by simp] at this
/-- The three blocks of Set. -/
structure TS (w : World) (now : Int) (v : Value) (d : Pr) (wr : World) : Prop where
  x : DB wr w.heap.size now v
  y : DB wr (w.heap.size + 1) 0 (.slice none 0 0)
  z : wr.heap[w.heap.size + 1 + 1]? = some (.cells #[.int .i64 d.1, .int .i64 d.2] 45)
  b : Below w.heap.size w wr
  s : w.heap.size + 3 ≤ wr.heap.size
theorem TS.keep {w : World} {now : Int} {v : Value} {d : Pr} {wr w' : World} (h : TS w now v d wr) (k : Below (w.heap.size + 3) wr w') : TS w now v d w' := ⟨h.x.keep k (by omega), h.y.keep k (by omega), (k.block _ (by omega)).trans h.z, h.b.trans (k.mono (by omega)), Nat.le_trans h.s k.size⟩
theorem set_app {w w3 wr : World} {now : Int} {v : Value} {d : Pr} {a6 : Option Addr} {l c6 : Nat} {o : List Pr} (HO : OwR 45 2 encD w3.heap.size wr (.slice a6 l c6) o) (hl : l = o.length) (HB : Below w3.heap.size w3 wr) (HT : TS w now v d wr) (hs : w.heap.size + 3 ≤ w3.heap.size) (p : Pr) (ho : o.length ≤ 1000000) :
    ∃ a7 c7 w7, (Builtin.append_ #[26, 26] 26 #[.slice a6 l c6, .slice (some ⟨wr.heap.size, 0, none⟩) 1 1]).run Try.prog (wr.alloc (.cells #[.int .i64 p.1, .int .i64 p.2] 45)) = .ok (.slice a7 (l + 1) c7) w7 ∧ OwR 45 2 encD w3.heap.size w7 (.slice a7 (l + 1) c7) (o ++ [p]) ∧ Below w3.heap.size w3 w7 ∧ TS w now v d w7 := by
  obtain ⟨v7, w7, r7, O7, B7, _⟩ := owr_append ED Try.underlying26 infoD rfl (by decide) HO HB.size p (by omega)
  obtain ⟨a7, c7, rfl, _, _⟩ := O7.rd ED
  have hlen : (o ++ [p]).length = l + 1 := by rw [List.length_append, hl]; rfl
  rw [hlen] at r7 O7
  exact ⟨a7, c7, w7, r7, O7, HB.trans B7, HT.keep (B7.mono hs)⟩
theorem below_drewN {B : Nat} {w w' : World} (h : Below B w w') (n : Nat) : Below B w (w'.drewN n) := ⟨h.os, h.tape, h.output, h.size, h.block⟩
theorem TS.drewN {w : World} {now : Int} {v : Value} {d : Pr} {wr : World} (h : TS w now v d wr) (n : Nat) : TS w now v d (wr.drewN n) := ⟨h.x, h.y, h.z, below_drewN h.b n, h.s⟩
theorem set_fin {w w3 wr : World} {now : Int} {v : Value} {d : Pr} {u : Value} {o : List Pr} (O : OwR 45 2 encD w3.heap.size wr u o) (T : TS w now v d wr) (hs : w.heap.size + 3 ≤ w3.heap.size) :
    OwR 45 2 encD w.heap.size (((wr.setCell ⟨w.heap.size, 1, none⟩ u).setCell ⟨w.heap.size + 1, 0, none⟩ (.int .i64 now)).setCell ⟨w.heap.size + 1, 1, none⟩ u) u o ∧ Below w.heap.size w (((wr.setCell ⟨w.heap.size, 1, none⟩ u).setCell ⟨w.heap.size + 1, 0, none⟩ (.int .i64 now)).setCell ⟨w.heap.size + 1, 1, none⟩ u) :=
  ⟨(owd_set (owd_set (owd_set O (by omega)) (by omega)) (by omega)).mono (by omega), ((T.b.setCell (p := ⟨w.heap.size, 1, none⟩) (Nat.le_refl _) _).setCell (p := ⟨w.heap.size + 1, 0, none⟩) (Nat.le_succ _) _).setCell (p := ⟨w.heap.size + 1, 1, none⟩) (Nat.le_succ _) _⟩
theorem set_cells {w wr : World} {now : Int} {v : Value} {d : Pr} (T : TS w now v d wr) : wr.cell? ⟨w.heap.size, 0, none⟩ = some (.int .i64 now) ∧ wr.cell? ⟨w.heap.size, 1, none⟩ = some v ∧ wr.frozen? ⟨w.heap.size, 1, none⟩ = false ∧ wr.cell? ⟨w.heap.size + 1, 0, none⟩ = some (.int .i64 0) ∧ wr.cell? ⟨w.heap.size + 1, 1, none⟩ = some (.slice none 0 0) ∧ wr.frozen? ⟨w.heap.size + 1, 0, none⟩ = false ∧ wr.frozen? ⟨w.heap.size + 1, 1, none⟩ = false :=
  ⟨T.x.c0, T.x.c1, T.x.z 1, T.y.c0, T.y.c1, T.y.z 0, T.y.z 1⟩
theorem snoc_len {o : List Pr} {l : Nat} (h : l = o.length) (p : Pr) : l + 1 = (o ++ [p]).length := by rw [List.length_append, h]; rfl
set_option maxRecDepth 100000 in
set_option maxHeartbeats 2000000 in
theorem set15_lo (now : Int) (L : List Pr) (a : Option Addr) (c : Nat) (id at' : Int) (w : World) (hL : RdR 2 encD w a c L) (hl : L.length ≤ 900000) (hat : decide (1099511627776 < at') = false) :
    Calls Try.prog 13 #[.agg #[.int .i64 now, .slice a L.length c], .int .i64 id, .int .i64 at'] w fun e w' => ∃ v, e = .returned (.agg #[.int .i64 now, v]) ∧ OwR 45 2 encD w.heap.size w' v (insL (id, at') (offL id L)) ∧ Below w.heap.size w w' := by
  have B0 : Below w.heap.size w (((w.alloc (.cells #[.int .i64 now, .slice a L.length c] 28)).alloc (.cells #[.int .i64 0, .slice none 0 0] 28)).alloc (.cells #[.int .i64 id, .int .i64 at'] 45)) := (((Below.refl _ _).alloc (Nat.le_refl _) _).alloc (by simp) _).alloc (by simp; omega) _
  obtain ⟨n1, n2, n3⟩ := three_new w (.cells #[.int .i64 now, .slice a L.length c] 28) (.cells #[.int .i64 0, .slice none 0 0] 28) (.cells #[.int .i64 id, .int .i64 at'] 45)
  have S0 : (((w.alloc (.cells #[.int .i64 now, .slice a L.length c] 28)).alloc (.cells #[.int .i64 0, .slice none 0 0] 28)).alloc (.cells #[.int .i64 id, .int .i64 at'] 45)).heap.size = w.heap.size + 3 := by simp
  have HT0 : Hid (TS w now (.slice a L.length c) (id, at') (((w.alloc (.cells #[.int .i64 now, .slice a L.length c] 28)).alloc (.cells #[.int .i64 0, .slice none 0 0] 28)).alloc (.cells #[.int .i64 id, .int .i64 at'] 45))) := ⟨n1, n2, n3, B0, by rw [S0]; exact Nat.le_refl _⟩
  have HW := hidE (without15_any L a c id _ (hL.keep B0) (by omega))
  rw [S0] at HW
  have c1 := HT0.out.x.c1
  obtain ⟨R, hR⟩ : ∃ R, R = offL id L := ⟨_, rfl⟩
  have HRL : Hid (R.length ≤ 900000) := by rw [hR]; exact Nat.le_trans (off_len _ _) hl
  rw [← hR] at HW ⊢
  obtain ⟨n, hn⟩ : ∃ n, n = R.length := ⟨_, rfl⟩
  rw [← hn] at HW HRL
  have HN : Hid (R.length = n) := hn.symm
  clear n1 n2 n3 S0 B0 hL hl hR hn
  generalize L.length = m at *
  generalize hasL id L = hb at *
  go_enter Try.func13, Try.ntmps13
  go_wp2_with fail
  refine HW.out.mono ?_
  rintro e w3 ⟨a', c', rfl, O, B⟩
  have HT3 := hidE (HT0.out.keep B)
  obtain ⟨a3, c3, e3, R3, _⟩ := O.rd ED
  rw [HN.out] at e3
  injection e3 with e31 e32 e33
  subst e31 e33
  clear e32
  have HF : Hid (∀ W, Below w3.heap.size w3 W → RdR 2 encD W a' c' R) := fun W b => R3.keep b
  have O0 : Hid (OwR 45 2 encD w3.heap.size (w3.alloc (.cells #[] 45)) (.slice (some ⟨w3.heap.size, 0, none⟩) 0 0) []) := OwR.empty _ _ _ _ _ (Nat.le_refl _)
  have HT4 := hidE (HT3.out.keep ((Below.refl _ _).alloc HT3.out.s (.cells #[] 45)))
  have HI0 := hidE (InsA.start (id, at') R)
  have HS3 := hidE HT3.out.s
  clear HW HT0 O R3 B c1 hat HT3
  go_wp2_with fail
  go_loopw [10, 11, 12] (fun v6 v7 vi wr => ∃ (k : Nat) (a6 : Option Addr) (c6 l : Nat) (b : Bool) (o : List Pr), k ≤ n ∧ vi = .int .i64 k ∧ v6 = .slice a6 l c6 ∧ v7 = .bool b ∧ Hid (l = o.length ∧ InsA (id, at') R k b o) ∧ Hid (OwR 45 2 encD w3.heap.size wr (.slice a6 l c6) o) ∧ Hid (Below w3.heap.size w3 wr) ∧ Hid (TS w now (.slice a m c) (id, at') wr)) (fun _ _ vi _ => n - (intOf vi).toNat)
  case atStart => exact ⟨0, _, _, 0, false, [], Nat.zero_le _, rfl, rfl, rfl, ⟨rfl, HI0⟩, O0, (Below.refl _ _).alloc (Nat.le_refl _) _, HT4⟩
  case round =>
    clear O0 HT4 HI0
    obtain ⟨k, a6, c6, l, b, o, hk, rfl, rfl, rfl, HI, HO, HB, HT⟩ := hrel
    by_cases hlt : k < n
    · have hfw := HF.out wr HB.out
      obtain ⟨p, hp⟩ : ∃ p, R[k]? = some p := ⟨R[k]'(by rw [HN.out]; exact hlt), List.getElem?_eq_getElem _⟩
      obtain ⟨g, off, rfl, hg, hc⟩ := hfw.at hp
      obtain ⟨d0, d1⟩ := hfw.d hp
      have q1 : (0 : Int) ≤ k := by omega
      have q2 : (k : Int) < n := by omega
      have q3 : n ≤ 900000 := HRL.out
      have y0 : wr.cell? ⟨w.heap.size + 1 + 1, 0, none⟩ = some (.int .i64 id) := tblk_cell HT.out.z rfl
      have y1 : wr.cell? ⟨w.heap.size + 1 + 1, 1, none⟩ = some (.int .i64 at') := tblk_cell HT.out.z rfl
      have HIL : Hid (o.length ≤ 900001) := by have := HI.out.2.len; rw [HN.out] at this; show o.length ≤ 900001; omega
      have HP := hidE hp
      clear hc hfw hg hp
      cases b with
      | true =>
        go_wp2_with fail
        go_quiet (fail)
        have HO8 : OwR 45 2 encD w3.heap.size (wr.drewN nq) (.slice a6 l c6) o := HO.out.move fun _ _ _ _ _ => rfl
        obtain ⟨a7, c7, w7, r7, O7, B7, T7⟩ := set_app HO8 HI.out.1 (below_drewN HB.out nq) (HT.out.drewN nq) HS3.out p (by have := HIL.out; omega)
        have HO7 := hidE O7
        have HI7 : Hid (l + 1 = (o ++ [p]).length ∧ InsA (id, at') R (k + 1) true (o ++ [p])) := ⟨snoc_len HI.out.1 p, HI.out.2.done HP.out⟩
        have HT7 := hidE T7
        have HB7 := hidE B7
        clear HT HO HI O7 B7 T7 HB HP y0 y1 HO8
        obtain ⟨x, y⟩ := p
        simp only at d0 d1 r7
        go_wp2_with (at_builtin; refine wpList_append_run2 rfl _ _ 26 26 rfl _ _ _ w7 rfl rfl r7 ?_; clear r7)
        go_roundw
        case rel => exact ⟨k + 1, _, _, l + 1, true, _, by omega, by go_num, rfl, rfl, HI7, HO7, HB7, HT7⟩
        case measure => simp [intOf]; omega
      | false =>
        have HA := hidE (fun W => ahead15_any (id, at') p W)
        by_cases hk2 : klt (id, at') p
        · have hd : decide (klt (id, at') p) = true := decide_eq_true hk2
          rw [hd] at HA
          have HI7 : Hid (l + 1 + 1 = (o ++ [(id, at')] ++ [p]).length ∧ InsA (id, at') R (k + 1) true (o ++ [(id, at')] ++ [p])) := ⟨snoc_len (snoc_len HI.out.1 _) p, HI.out.2.now HP.out hk2⟩
          clear hd hk2
          obtain ⟨x, y⟩ := p
          simp only at d0 d1 HA
          go_wp2_with fail
          go_region_with (go_at_call 23; refine (HA.out _).mono ?_; rintro e w5 ⟨rfl, B5⟩)
          all_goals
            have B5' : Below wr.heap.size wr w5 := ⟨B5.os, B5.tape, B5.output, B5.size, B5.block⟩
            have HB5 := HB.out.trans (B5'.mono HB.out.size)
            have T5 := HT.out.keep (B5'.mono HT.out.s)
            obtain ⟨a6', c6', w6, r6, O6, B6, T6⟩ := set_app (HO.out.grow B5') HI.out.1 HB5 T5 HS3.out (id, at') (by have := HIL.out; omega)
            have z0 : w5.cell? ⟨w.heap.size + 1 + 1, 0, none⟩ = some (.int .i64 id) := tblk_cell T5.z rfl
            have z1 : w5.cell? ⟨w.heap.size + 1 + 1, 1, none⟩ = some (.int .i64 at') := tblk_cell T5.z rfl
            obtain ⟨x0, x1⟩ := (HF.out w6 B6).d HP.out
            obtain ⟨a7, c7, w7, r7, O7, B7, T7⟩ := set_app O6 (snoc_len HI.out.1 _) B6 T6 HS3.out (x, y) (by have := HIL.out; rw [List.length_append]; simp; omega)
            have HO7 := hidE O7
            have HT7 := hidE T7
            have HB7 := hidE B7
            simp only at x0 x1 r6 r7
            clear HT HO HI O7 B7 T7 HB HP y0 y1 O6 B6 T6 HB5 T5 B5 B5' d0 d1 HA
            go_wp2_with (first | (at_builtin; refine wpList_append_run2 rfl _ _ 26 26 rfl _ _ _ w6 rfl rfl r6 ?_; clear r6) | (at_builtin; refine wpList_append_run2 rfl _ _ 26 26 rfl _ _ _ w7 rfl rfl r7 ?_; clear r7))
            go_roundw
            case rel => exact ⟨k + 1, _, _, l + 1 + 1, true, _, by omega, by go_num, rfl, rfl, HI7, HO7, HB7, HT7⟩
            case measure => simp [intOf]; omega
        · have hd : decide (klt (id, at') p) = false := decide_eq_false hk2
          rw [hd] at HA
          have HI7 : Hid (l + 1 = (o ++ [p]).length ∧ InsA (id, at') R (k + 1) false (o ++ [p])) := ⟨snoc_len HI.out.1 p, HI.out.2.not HP.out hk2⟩
          clear hd hk2
          obtain ⟨x, y⟩ := p
          simp only at d0 d1 HA
          go_wp2_with fail
          go_region_with (go_at_call 23; refine (HA.out _).mono ?_; rintro e w5 ⟨rfl, B5⟩)
          all_goals
            have B5' : Below wr.heap.size wr w5 := ⟨B5.os, B5.tape, B5.output, B5.size, B5.block⟩
            have HB5 := HB.out.trans (B5'.mono HB.out.size)
            have T5 := HT.out.keep (B5'.mono HT.out.s)
            obtain ⟨x0, x1⟩ := (HF.out w5 HB5).d HP.out
            obtain ⟨a7, c7, w7, r7, O7, B7, T7⟩ := set_app (HO.out.grow B5') HI.out.1 HB5 T5 HS3.out (x, y) (by have := HIL.out; omega)
            have HO7 := hidE O7
            have HT7 := hidE T7
            have HB7 := hidE B7
            simp only at x0 x1 r7
            clear HT HO HI O7 B7 T7 HB HP y0 y1 HB5 T5 B5 B5' d0 d1 HA
            go_wp2_with (at_builtin; refine wpList_append_run2 rfl _ _ 26 26 rfl _ _ _ w7 rfl rfl r7 ?_; clear r7)
            go_roundw
            case rel => exact ⟨k + 1, _, _, l + 1, false, _, by omega, by go_num, rfl, rfl, HI7, HO7, HB7, HT7⟩
            case measure => simp [intOf]; omega
    · obtain rfl : k = n := by omega
      have k1 := HT.out.x
      have y0 : wr.cell? ⟨w.heap.size + 1 + 1, 0, none⟩ = some (.int .i64 id) := tblk_cell HT.out.z rfl
      have y1 : wr.cell? ⟨w.heap.size + 1 + 1, 1, none⟩ = some (.int .i64 at') := tblk_cell HT.out.z rfl
      cases b with
      | true =>
        have HE : Hid (insL (id, at') R = o) := by have := HI.out.2; rw [← HN.out] at this; exact this.endT
        have HFN := hidE (set_fin HO.out HT.out HS3.out)
        obtain ⟨c0, c1, z1, d0, d1, f0, f1⟩ := set_cells HT.out
        clear HI HO HB HT k1 y0 y1 hlt
        go_wp2
        refine bodyPost_ret (v := .agg #[.int .i64 now, .slice a6 l c6]) (by simp [results, Try.results13, go_sem, d0, d1]) rfl ?_
        exact ⟨_, rfl, by rw [HE.out]; exact HFN.out.1, HFN.out.2⟩
      | false =>
        have HE : Hid (insL (id, at') R = o ++ [(id, at')]) := by have := HI.out.2; rw [← HN.out] at this; exact this.endF
        have hoL : o.length ≤ 900001 := by have := HI.out.2.len; rw [HN.out] at this; have := HRL.out; omega
        obtain ⟨a7, c7, w7, r7, O7, B7, T7⟩ := set_app HO.out HI.out.1 HB.out HT.out HS3.out (id, at') (by omega)
        have HFN := hidE (set_fin O7 T7 HS3.out)
        obtain ⟨c0, c1, z1, d0, d1, f0, f1⟩ := set_cells T7
        simp only at r7
        clear HI HO HB HT k1 hlt O7 B7 T7 hoL
        go_wp2_with (at_builtin; refine wpList_append_run2 rfl _ _ 26 26 rfl _ _ _ w7 rfl rfl r7 ?_; clear r7)
        refine bodyPost_ret (v := .agg #[.int .i64 now, .slice a7 (l + 1) c7]) (by simp [results, Try.results13, go_sem, d0, d1]) rfl ?_
        exact ⟨_, rfl, by rw [HE.out]; exact HFN.out.1, HFN.out.2⟩
end Go.Proofs.Ytofnnphpogpcdaa
