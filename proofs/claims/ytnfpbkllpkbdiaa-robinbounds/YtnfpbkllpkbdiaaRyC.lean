/- RobinBounds, walked. -/
import Derived.Test.YtnfpbkllpkbdiaaRyB
namespace Go.Proofs.Ytnfpbkllpkbdiaa
open Go.RowKit
set_option linter.unusedVariables false

theorem kq_bd {k : Nat} {q : Int} (hk : k ≤ 30) (h1 : 1 ≤ q) (h2 : q ≤ 4096) : 0 ≤ (k : Int) * q ∧ (k : Int) * q ≤ 122880 := by
  refine ⟨Int.mul_nonneg (by omega) (by omega), ?_⟩
  have : (k : Int) * q ≤ 30 * 4096 := Int.mul_le_mul (by omega) h2 (by omega) (by omega)
  omega
theorem kq_succ (k : Nat) (q : Int) : ((k + 1 : Nat) : Int) * q = (k : Int) * q + q := by
  show ((k : Int) + 1) * q = _
  rw [Int.add_mul, Int.one_mul]
theorem take_snocI (C : List Int) (i : Nat) (h : i < C.length) : C.take (i + 1) = C.take i ++ [C.getD i 0] := by
  rw [List.getD_eq_getElem?_getD, List.getElem?_eq_getElem h, List.take_succ_eq_append_getElem h]
  rfl
theorem getD_mem {C : List Int} {i : Nat} (h : i < C.length) : C.getD i 0 ∈ C := by
  rw [List.getD_eq_getElem?_getD, List.getElem?_eq_getElem h]
  exact List.getElem_mem h
theorem sml_mem {fs : List Fl} {i : Nat} (hI : ∀ f ∈ fs, InR f.1 ∧ InR f.2) (hi : i < (smlL 3000 fs fs.length).length) : InR ((smlL 3000 fs fs.length).getD i (0, 0)).1 ∧ InR ((smlL 3000 fs fs.length).getD i (0, 0)).2 ∧ ((smlL 3000 fs fs.length).getD i (0, 0)).2 ≤ 3000 := by
  have hm : (smlL 3000 fs fs.length).getD i (0, 0) ∈ smlL 3000 fs fs.length := by
    rw [List.getD_eq_getElem?_getD, List.getElem?_eq_getElem hi]
    exact List.getElem_mem hi
  generalize (smlL 3000 fs fs.length).getD i (0, 0) = g at *
  unfold smlL at hm
  obtain ⟨f, hf, rfl⟩ := List.mem_map.1 hm
  have h := hI f (List.mem_of_mem_take hf)
  unfold InR at *
  show (_ ∧ _) ∧ (_ ≤ min f.2 3000 ∧ min f.2 3000 ≤ _) ∧ min f.2 3000 ≤ 3000
  omega
set_option maxRecDepth 100000 in
set_option maxHeartbeats 4000000 in
theorem bounds_walk (q0 : Int) (fs : List Fl) (a1 : Option Addr) (c1 : Nat) (a2 : Option Addr) (len2 cap2 : Nat) (w : World) (hf : Fls w a1 c1 fs) (hI : ∀ f ∈ fs, InR f.1 ∧ InR f.2) (hM : NumS w a2 len2) :
    Calls Try.prog 3 #[.int .i64 q0, .slice a1 fs.length c1, .slice a2 len2 cap2] w fun e w' => e = .returned (.bool true) ∧ Below w.heap.size w w' := by
  have hmm := @ run_makeMap Try.prog
  have KI := Maps.int_keyed (P := Try.prog) (k := 3) Try.underlying3
  have HN : Hid (∀ n W, Calls Try.prog 4 #[.int .i64 n] W fun e w' => e = .returned (.pointer (some ⟨W.heap.size, 0, none⟩)) ∧ IsR w' W.heap.size (qB n) 0 9223372036854775807 ∧ w'.heap.size = W.heap.size + 1 ∧ Below W.heap.size W w') := fun n W => rbnew_any n W
  have HAL : Hid (∀ W, Calls Try.prog 5 #[] W fun e w' => e = .returned (.bool true) ∧ Below W.heap.size W w') := alive16_any
  have HSM : Hid (∀ W, Below w.heap.size w W → Calls Try.prog 6 #[.slice a1 fs.length c1, .int .i64 3000] W fun e w' => ∃ v, e = .returned v ∧ OwP 31 W.heap.size w' v (smlL 3000 fs fs.length) ∧ Below W.heap.size W w') := fun W b => small_any 3000 fs a1 c1 W (hf.keep b)
  have HSI := hidE (fun i hi => sml_mem (i := i) hI hi)
  have HSL := hidE (smlL_len 3000 fs fs.length)
  have HM : Hid (NumS w a2 len2) := hM
  have hmx : len2 ≤ 9223372036854775807 := by have h2 := hM.1; unfold maxLen at h2; omega
  obtain ⟨m0, hm0⟩ : ∃ m0, max q0 1 = m0 := ⟨_, rfl⟩
  obtain ⟨qq, hqq⟩ : ∃ r, min m0 4096 = r := ⟨_, rfl⟩
  have X0 := max_run q0 1 m0 hm0
  have X1 := min_run m0 4096 qq hqq
  have hq1 : 1 ≤ qq := by omega
  have hq2 : qq ≤ 4096 := by omega
  have HQ : Hid (qB qq = qq) := by show qB qq = qq; unfold qB; omega
  generalize smlL 3000 fs fs.length = X at *
  clear hm0 hqq hf hI hM
  go_enter Try.func3, Try.ntmps3
  go_wp2_with fail
  refine (HN.out q0 _).mono ?_
  rintro e w1 ⟨rfl, R1, hs1, B1⟩
  clear R1 hs1
  go_wp2_with fail
  refine (HAL.out _).mono ?_
  rintro e w2 ⟨rfl, B2⟩
  have HB2 : Hid (Below w.heap.size w w2) := B1.trans (B2.mono B1.size)
  clear HAL B1 B2
  by_cases h30 : 30 < len2
  · have d30 : decide (30 < len2) = true := decide_eq_true h30
    go_wp2
    go_ret
    exact ⟨rfl, HB2.out⟩
  have d30 : decide (30 < len2) = false := decide_eq_false h30
  go_wp2_with fail
  refine (HN.out qq _).mono ?_
  rintro e w3 ⟨rfl, R3, hs3, B3⟩
  clear HN hs3
  have BA : Below w3.heap.size w3 (w3.alloc (.map #[] 0)) := (Below.refl _ _).alloc (Nat.le_refl _) _
  have BA2 : Below (w3.alloc (.map #[] 0)).heap.size (w3.alloc (.map #[] 0)) ((w3.alloc (.map #[] 0)).alloc (.cells #[] 3)) := (Below.refl _ _).alloc (Nat.le_refl _) _
  have b3 : Below w.heap.size w w3 := HB2.out.trans (B3.mono HB2.out.size)
  have b4 := b3.trans (BA.mono b3.size)
  have S0 : SB w w2.heap.size w3.heap.size qq [] (.slice (some ⟨w3.heap.size + 1, 0, none⟩) 0 0) ((w3.alloc (.map #[] 0)).alloc (.cells #[] 3)) (fun _ => 0) 0 9223372036854775807 0 (.map []) 3000 := by
    have e : (w3.alloc (.map #[] 0)).heap.size = w3.heap.size + 1 := by simp
    rw [HQ.out] at R3
    refine ⟨(R3.below BA R3.lt).below BA2 (by rw [e]; have := R3.lt; omega), om_blk (World.ownsMap_made (H := Nat) w3 Try.prog 3 (plainElem Try.prog 3)) (BA2.block w3.heap.size (by rw [e]; omega)), MW.start _, (fun c hc => by cases hc), fun c _ => rfl, ?_, b4.trans (BA2.mono b4.size)⟩
    have := OI.empty w.heap.size (w3.alloc (.map #[] 0)) b4.size
    rw [e] at this
    exact this
  have HRM : Hid (w2.heap.size < w3.heap.size ∧ w.heap.size ≤ w2.heap.size) := ⟨R3.lt, HB2.out.size⟩
  have HS0 := hidE S0
  have HB5 := hidE S0.be
  clear R3 B3 BA BA2 b3 b4 S0 HB2
  go_wp2_with fail
  refine (HSM.out _ HB5.out).mono ?_
  rintro e w6 ⟨v47, rfl, O47, B6⟩
  have HA0 : Hid (SA w w2.heap.size w3.heap.size qq X v47 w6 [] (fun _ => 0) 0 (.map []) (.slice (some ⟨w3.heap.size + 1, 0, none⟩) 0 0)) := ⟨HS0.out.grow B6, ⟨O47.1, by
    rcases O47.2 with k | ⟨g, c, cur, hv, hB, r⟩
    · exact .inl k
    · exact .inr ⟨g, c, cur, hv, Nat.le_trans HB5.out.size hB, r⟩⟩, List.nodup_nil, fun c hc => by cases hc⟩
  obtain ⟨a47, c47, rfl, _⟩ := O47.fls
  obtain ⟨m, hm⟩ : ∃ m, m = X.length := ⟨_, rfl⟩
  have HMM : Hid (X.length = m) := hm.symm
  rw [← hm] at HA0 ⊢
  clear O47 B6 HS0 HB5 HSM hm
  generalize w2.heap.size = rb at *
  generalize w3.heap.size = mk at *
  go_wp2_with fail
  go_loopw [9, 49] (fun v9 vi wr => ∃ (i : Nat) (C : List Int) (U : Int → Int) (D : DataW Nat) (a9 : Option Addr) (c9 : Nat), i ≤ m ∧ vi = .int .i64 i ∧ v9 = .slice a9 C.length c9 ∧ Hid (C.length ≤ i) ∧ Hid (SA w rb mk qq X (.slice a47 m c47) wr C U i D (.slice a9 C.length c9))) (fun _ vi _ => m - (intOf vi).toNat)
  case atStart => exact ⟨0, [], _, _, _, _, Nat.zero_le _, rfl, rfl, Nat.le_refl _, HA0⟩
  case round =>
    clear HA0
    obtain ⟨i, C, U, D, a9, c9, hi, rfl, rfl, HL, HA⟩ := hrel
    by_cases hlt : i < m
    · obtain ⟨g, off, rfl, e0, e1⟩ := HA.out.fl.cell i (by rw [HMM.out]; exact hlt)
      have hin := HSI.out i (by rw [HMM.out]; exact hlt)
      have hm20 : m ≤ 20 := by have := HSL.out; rw [HMM.out] at this; exact this
      generalize (X.getD i (0, 0)).1 = x at *
      generalize (X.getD i (0, 0)).2 = y at *
      have m1 : (0 : Int) ≤ i := by omega
      have m2 : (i : Int) < m := by omega
      have BA : Below wr.heap.size wr (wr.alloc (.cells #[.int .i64 x, .int .i64 y] 31)) := (Below.refl _ _).alloc (Nat.le_refl _) _
      have HA2 := hidE (HA.out.grow BA)
      obtain ⟨z, hlk⟩ := HA2.out.look hin.1
      by_cases hx : x ∈ C
      · rw [decide_eq_true hx] at hlk
        have HA3 : Hid (SA w rb mk qq X (.slice (some ⟨g, off, none⟩) m c47) (wr.alloc (.cells #[.int .i64 x, .int .i64 y] 31)) C U (i + 1) D (.slice a9 C.length c9)) := ⟨⟨HA2.out.sb.ra, HA2.out.sb.om.mono (Nat.le_succ _), HA2.out.sb.mw, HA2.out.sb.un, HA2.out.sb.uz, HA2.out.sb.oi, HA2.out.sb.be⟩, HA2.out.fl, HA2.out.nd, HA2.out.ir⟩
        have HL3 : Hid (C.length ≤ i + 1) := Nat.le_succ_of_le HL.out
        clear BA HA HA2 HL hin
        go_wp2
        go_roundw
        case rel => exact ⟨i + 1, C, U, D, a9, c9, by omega, by go_num, rfl, HL3, HA3⟩
        case measure => simp [intOf]; omega
      · rw [decide_eq_false hx] at hlk
        obtain ⟨p, hp⟩ : ∃ p, max y 0 = p := ⟨_, rfl⟩
        have XM := max_run y 0 p hp
        have hpb : 0 ≤ p ∧ p ≤ 3000 := by have := hin.2; unfold InR at this; omega
        obtain ⟨w7, v8, w8, r7, r8, HA3, hg7⟩ := HA2.out.new (by have := HRM.out; omega) (by omega) (by have := HL.out; omega) hx hin.1 hpb
        have HA4 := hidE HA3
        obtain ⟨a8, c8, hv8, _⟩ := HA3.sb.oi.at
        have HL3 : Hid ((C ++ [x]).length ≤ i + 1) := by have := HL.out; show _ ≤ _; rw [List.length_append]; exact Nat.succ_le_succ this
        have e7 : w7.cell? ⟨wr.heap.size, 0, none⟩ = some (.int .i64 x) := by
          have hb : (wr.alloc (.cells #[.int .i64 x, .int .i64 y] 31)).heap[wr.heap.size]? = some (.cells #[.int .i64 x, .int .i64 y] 31) := tblk_new _ _
          exact tblk_cell ((put_keep HA2.out.sb.om hg7 hb).trans hb) rfl
        generalize C ++ [x] = C' at *
        subst hv8
        clear BA HA HA2 HA3 HL hin hp hpb hg7
        go_wp2_with (first | (at_mapUpdate; refine wpList_mapUpdate_run _ rfl _ _ _ 27 rfl _ _ _ w7 rfl rfl rfl r7 ?_) | (at_builtin; refine wpList_append_run2 rfl _ _ 28 28 rfl _ _ _ w8 rfl rfl r8 ?_))
        go_roundw
        case rel => exact ⟨i + 1, C', _, _, a8, c8, by omega, by go_num, rfl, HL3, HA4⟩
        case measure => simp [intOf]; omega
    · obtain rfl : i = m := by omega
      have hcl : C.length ≤ 20 := by have h1 := HL.out; have h2 := HSL.out; rw [HMM.out] at h2; omega
      have HSB := hidE HA.out.sb
      have HND := hidE HA.out.nd
      have HIR := hidE HA.out.ir
      have hi20 : i ≤ 20 := by have h2 := HSL.out; rw [HMM.out] at h2; exact h2
      have HI20 := hidE hi20
      clear HA HL HMM HSL HSI hlt hi hi20
      go_wp2_with fail
      go_loopw [14, 76] (fun v14 vk wr => ∃ (k : Nat) (U : Int → Int) (cr la : Int) (n : Nat) (D : DataW Nat) (T : Int), k ≤ len2 ∧ vk = .int .i64 k ∧ v14 = .int .i64 T ∧ Hid (SB w rb mk qq C (.slice a9 C.length c9) wr U cr la n D (3000 + 5100 * (k : Int))) ∧ Hid (n ≤ 21 + 5000 * k) ∧ Hid (0 ≤ cr ∧ cr < 64 ∧ T + cr = (k : Int) * qq)) (fun _ vk _ => len2 - (intOf vk).toNat)
      case atStart => exact ⟨0, _, 0, _, _, _, 0, Nat.zero_le _, rfl, rfl, by simpa using HSB, by have := HI20.out; show _ ≤ _; omega, by show _ ∧ _ ∧ _; simp⟩
      case round =>
        clear HSB HI20
        obtain ⟨k, U, cr, la, n, D, T, hk, rfl, rfl, HS, HNN, HT⟩ := hrel
        by_cases hlt : k < len2
        · obtain ⟨b2, off2, rfl, hb2, hc2⟩ := HM.out.2 (by omega)
          obtain ⟨a16, l16, c16, hcell, hN⟩ := hc2 k hlt
          have e16 : wr.cell? ⟨b2, off2 + k, none⟩ = some (.slice a16 l16 c16) := (HS.out.be.cell (p := ⟨b2, off2 + k, none⟩) hb2).trans hcell
          have HN16 : Hid (Nums w a16 l16) := hN
          have hl16 : l16 ≤ 9223372036854775807 := by have h2 := hN.1; unfold maxLen at h2; omega
          have k1 : (0 : Int) ≤ k := by omega
          have k2 : (k : Int) < len2 := by omega
          have k30 : k < 30 := by omega
          clear hc2 hcell hN
          go_wp2_with fail
          go_loopw [83] (fun vi wr2 => ∃ (i : Nat) (U : Int → Int) (n : Nat) (D : DataW Nat), i ≤ l16 ∧ vi = .int .i64 i ∧ Hid (SB w rb mk qq C (.slice a9 C.length c9) wr2 U cr la n D (3000 + 5100 * (k : Int) + 255 * ((min i 20 : Nat) : Int))) ∧ Hid (n ≤ 21 + 5000 * k + min i 20)) (fun vi _ => l16 - (intOf vi).toNat)
          case atStart => exact ⟨0, U, n, D, Nat.zero_le _, rfl, by simpa using HS, by simpa using HNN⟩
          case round =>
            clear HS HNN e16
            obtain ⟨i, U, n, D, hi, rfl, HS, HNN⟩ := hrel
            by_cases hli : i < l16
            · obtain ⟨g16, o16, rfl, hg16, hc16⟩ := HN16.out.2 (by omega)
              obtain ⟨z, hz⟩ := hc16 i hli
              have ez : wr.cell? ⟨g16, o16 + i, none⟩ = some (.int .i64 z) := (HS.out.be.cell (p := ⟨g16, o16 + i, none⟩) hg16).trans hz
              have m1 : (0 : Int) ≤ i := by omega
              have m2 : (i : Int) < l16 := by omega
              clear hc16 hz
              by_cases hic : i < C.length
              · have hx := getD_mem hic
                obtain ⟨g9, rfl, ex⟩ := HS.out.oi.cell i hic
                have hxr := HIR.out _ hx
                have hlk := HS.out.look hx hxr
                have hun := HS.out.un _ hx
                have hkey := Maps.keyOf_int_mk (P := Try.prog) (k := 3) Try.underlying3 (a := C.getD i 0) (WalkArith.wf_i64 hxr)
                obtain ⟨kk, hkk, hb⟩ := and_mask z 255 (by decide)
                have hb' : bits BinOp.and IntKind.i64 z 255 = (kk : Int) := hb
                have hi20 : i < 20 := by omega
                have hmn : min (i + 1) 20 = min i 20 + 1 := by omega
                have hmu : min i 20 ≤ 20 := by omega
                have hy0 : 0 ≤ U (C.getD i 0) + (kk : Int) ∧ U (C.getD i 0) + (kk : Int) ≤ 3000 + 5100 * (k : Int) + 255 * ((min (i + 1) 20 : Nat) : Int) := by rw [hmn]; omega
                have hwy : IntKind.i64.wrap (U (C.getD i 0) + (kk : Int)) = U (C.getD i 0) + (kk : Int) := by rw [IntKind.wrap_i64]; omega
                have hwf : (Lit.int .i64 (U (C.getD i 0) + (kk : Int))).wf = true := WalkArith.wf_i64 (by omega)
                obtain ⟨w7, r7, hown7, hg7⟩ := HS.out.om.update KI Try.underlying27 (by have := HNN.out; unfold maxLen; omega) hkey (plainElem_int Try.underlying3 hwf)
                have HS7 := hidE (HS.out.put (by have := HRM.out; omega) hx hown7 hg7 hy0 (by rw [hmn]; omega))
                have HN7 : Hid (n + 1 ≤ 21 + 5000 * k + min (i + 1) 20) := by have := HNN.out; show _ ≤ _; omega
                have dic : decide (i < C.length) = true := decide_eq_true hic
                have m3 : (i : Int) < C.length := by omega
                clear hmn hmu hy0 hun hb hxr hx HS HNN hown7 hg7 hkey hwf hi20
                generalize U (C.getD i 0) = ux at *
                generalize C.getD i 0 = x at *
                go_wp2_with (at_mapUpdate; refine wpList_mapUpdate_run _ rfl _ _ _ 27 rfl _ _ _ w7 rfl rfl rfl r7 ?_)
                go_roundw
                case rel => exact ⟨i + 1, _, n + 1, _, by omega, by go_num, HS7, HN7⟩
                case measure => simp [intOf]; omega
              · have HS7 := hidE (HS.out.mono (show 3000 + 5100 * (k : Int) + 255 * ((min i 20 : Nat) : Int) ≤ 3000 + 5100 * (k : Int) + 255 * ((min (i + 1) 20 : Nat) : Int) by omega) (Nat.le_refl _))
                have HN7 : Hid (n ≤ 21 + 5000 * k + min (i + 1) 20) := by have := HNN.out; show _ ≤ _; omega
                have dic : decide (i < C.length) = false := decide_eq_false hic
                clear HS HNN
                go_wp2
                go_roundw
                case rel => exact ⟨i + 1, _, n, _, by omega, by go_num, HS7, HN7⟩
                case measure => simp [intOf]; omega
            · obtain rfl : i = l16 := by omega
              have HS2 : Hid (SB w rb mk qq C (.slice a9 C.length c9) wr U cr la n D (3000 + 5100 * ((k + 1 : Nat) : Int))) := HS.out.mono (by omega) (Nat.le_refl _)
              have HN2 : Hid (n ≤ 41 + 5000 * k) := by have := HNN.out; show _ ≤ _; omega
              obtain ⟨wo, hwo⟩ : ∃ wo, wo = wr := ⟨_, rfl⟩
              subst hwo
              have O0 : Hid (OW wo.heap.size (wo.alloc (.cells #[] 31)) (.slice (some ⟨wo.heap.size, 0, none⟩) 0 0) ((C.take 0).map fun c => (c, U c))) := OW.empty _ _ (Nat.le_refl _)
              clear HS HNN HN16 hi hl16 hli
              go_wp2_with fail
              go_loopw [19, 105] (fun v19 vi wr2 => ∃ (i : Nat) (a19 : Option Addr) (c19 : Nat), i ≤ C.length ∧ vi = .int .i64 i ∧ v19 = .slice a19 i c19 ∧ Hid (OW wo.heap.size wr2 (.slice a19 i c19) ((C.take i).map fun c => (c, U c))) ∧ Hid (Below wo.heap.size wo wr2)) (fun _ vi _ => C.length - (intOf vi).toNat)
              case atStart => exact ⟨0, _, _, Nat.zero_le _, rfl, rfl, O0, (Below.refl _ _).alloc (Nat.le_refl _) _⟩
              case round =>
                clear O0
                obtain ⟨i, a19, c19, hi, rfl, rfl, HO, HB⟩ := hrel
                have HSw := hidE (HS2.out.grow HB.out)
                by_cases hic : i < C.length
                · have hx := getD_mem hic
                  obtain ⟨g9, rfl, ex⟩ := HSw.out.oi.cell i hic
                  have hlk := HSw.out.look hx (HIR.out _ hx)
                  have hln : ((C.take i).map fun c => ((c, U c) : Fl)).length = i := by rw [List.length_map, List.length_take]; omega
                  obtain ⟨v7, w7, r7, O7, B7⟩ := ow_append HO.out HB.out.size (C.getD i 0) (U (C.getD i 0)) (by rw [hln]; omega)
                  have e7 : ((C.take i).map fun c => ((c, U c) : Fl)) ++ [(C.getD i 0, U (C.getD i 0))] = (C.take (i + 1)).map fun c => (c, U c) := by
                    rw [take_snocI C i hic, List.map_append]; rfl
                  have hln7 : ((C.take (i + 1)).map fun c => ((c, U c) : Fl)).length = i + 1 := by rw [List.length_map, List.length_take]; omega
                  rw [e7] at O7
                  obtain ⟨a7, c7, hv7, _⟩ := O7.fls
                  rw [hln7] at hv7
                  subst hv7
                  have HO7 : Hid (OW wo.heap.size w7 (.slice a7 (i + 1) c7) ((C.take (i + 1)).map fun c => (c, U c))) := O7
                  have HB7 := hidE (HB.out.trans B7)
                  have m1 : (0 : Int) ≤ i := by omega
                  have m2 : (i : Int) < C.length := by omega
                  clear hln e7 hln7 O7 B7 HO HB hx HSw
                  generalize U (C.getD i 0) = ux at *
                  generalize C.getD i 0 = x at *
                  go_wp2_with (at_builtin; refine wpList_append_run2 rfl _ _ 22 22 rfl _ _ _ w7 rfl rfl r7 ?_)
                  go_roundw
                  case rel => exact ⟨i + 1, a7, c7, by omega, by go_num, rfl, HO7, HB7⟩
                  case measure => simp [intOf]; omega
                · obtain rfl : i = C.length := by omega
                  rw [List.take_length] at HO
                  obtain ⟨a', c', e', hfl⟩ := HO.out.fls
                  rw [List.length_map] at e'
                  injection e' with e1 e2 e3
                  subst e1 e3
                  have hT := HT.out
                  have HRd := hidE (rbround_any (C.map fun c => (c, U c)) a19 c19 rb qq cr la wr HSw.out.ra hfl (by rw [List.length_map]; exact hcl) (by omega) (by omega) hT.1 (by omega) (fun f hf => by
                    obtain ⟨c, hc, rfl⟩ := List.mem_map.1 hf
                    have := HSw.out.un c hc
                    show U c ≤ _
                    omega))
                  rw [List.length_map] at HRd
                  have HCR := hidE hT
                  clear hT e2 hfl HO HB HS2
                  go_wp2_with fail
                  refine HRd.out.mono ?_
                  rintro e w5 ⟨W, hW, v120, rfl, G5, R5, X5⟩
                  have HF : Hid (∃ G, (loopQ W (cr + qq) la []).2.2 = G ∧ Fair U G ∧ sumG G ≤ cr + qq ∧ (0 ≤ (loopQ W (cr + qq) la []).1 ∧ (loopQ W (cr + qq) la []).1 < 64) ∧ (((loopQ W (cr + qq) la []).1 = 0 ∧ ∀ c ∈ C, apG U G c = 0) ∨ ((∃ c ∈ C, 0 < apG U G c) ∧ sumG G = cr + qq - (loopQ W (cr + qq) la []).1)) ∧ ∀ c ∈ C, 0 ≤ apG U G c) := by
                    have hc0 : 0 ≤ cr + qq := by have := HCR.out.1; omega
                    have hQ := wait_qu hW HND.out HIR.out (fun c hc => (HSw.out.un c hc).1)
                    have hA := hW.ask (fun f hf => by
                      obtain ⟨c, hc, rfl⟩ := List.mem_map.1 hf
                      have := HSw.out.un c hc
                      show U c ≤ _
                      omega)
                    obtain ⟨G, g1, g2, g3, g4, g5⟩ := loopQ_fair (C := C) _ U W (cr + qq) la [] (Nat.le_refl _) hA hQ hc0
                    exact ⟨G, g1, g2, g3, loopQ_cr _ W (cr + qq) la [] (Nat.le_refl _) hA hc0, g5, g4⟩
                  have HS5 := hidE (HSw.out.round X5 R5 (by have := HRM.out; omega) (by have := HRM.out; omega))
                  obtain ⟨G, hG, hFair, hsum, hcr', hcase, hnn⟩ := HF.out
                  rw [hG] at G5
                  generalize (loopQ W (cr + qq) la []).1 = cr' at *
                  generalize (loopQ W (cr + qq) la []).2.1 = la' at *
                  have HG5 := hidE G5
                  have HFR := hidE hFair
                  have HCS := hidE hcase
                  have HNG := hidE hnn
                  have HSU := hidE hsum
                  have hgl : G.length ≤ 4200 := by have h1 := fair_len G U hFair; have h2 := HCR.out; omega
                  have HCP := hidE hcr'
                  obtain ⟨a120, c120, rfl⟩ := G5.form
                  generalize wr.heap.size = bx at *
                  clear HRd HF hG hFair hsum hcase hnn hcr' G5 R5 X5 hW HSw
                  go_wp2_with fail
                  go_loopw [22, 122] (fun v22 vj wr => ∃ (j n : Nat) (D : DataW Nat), j ≤ G.length ∧ vj = .int .i64 j ∧ v22 = .int .i64 (sumG (G.take j)) ∧ Hid (SB w rb mk qq C (.slice a9 C.length c9) wr (apG U (G.take j)) cr' la' n D (3000 + 5100 * ((k + 1 : Nat) : Int))) ∧ Hid (n ≤ 41 + 5000 * k + j) ∧ Hid (GO bx wr (.slice a120 G.length c120) G)) (fun _ vj _ => G.length - (intOf vj).toNat)
                  case atStart => exact ⟨0, n, D, Nat.zero_le _, rfl, rfl, HS5, HN2, HG5⟩
                  case round =>
                    clear HS5 HG5 HN2
                    obtain ⟨j, n, D, hj, rfl, rfl, HS, HNN, HG⟩ := hrel
                    by_cases hjl : j < G.length
                    · obtain ⟨g, c', e5, _, hlg, hcg⟩ := HG.out.at (by omega)
                      injection e5 with e51 e52 e53
                      subst e51 e53
                      clear e52
                      have d0 := (hcg j hjl).1
                      have d1 := (hcg j hjl).2
                      have hfa := fair_at G U j HFR.out hjl
                      have hst := sumG_take HFR.out j hj
                      have hsn := sumG_snoc G j hjl
                      have hap := apG_snoc U G j hjl
                      generalize G.getD j (0, 0) = gr at *
                      obtain ⟨x, y⟩ := gr
                      simp only at d0 d1 hfa hsn
                      have hx : x ∈ C := Classical.byContradiction fun q => by
                        have := HS.out.uz x q
                        omega
                      have hxr := HIR.out x hx
                      have hun := HS.out.un x hx
                      have BA : Below wr.heap.size wr (wr.alloc (.cells #[.int .i64 x, .int .i64 y] 36)) := (Below.refl _ _).alloc (Nat.le_refl _) _
                      have HS2 := hidE (HS.out.grow BA)
                      have HG2 := hidE (HG.out.grow BA)
                      have hlk := HS2.out.look hx hxr
                      have hkey := Maps.keyOf_int_mk (P := Try.prog) (k := 3) Try.underlying3 (a := x) (WalkArith.wf_i64 hxr)
                      rw [← ap1_eq] at hap
                      generalize hux : apG U (G.take j) = V at *
                      have hwf : (Lit.int .i64 (V x - y)).wf = true := WalkArith.wf_i64 (by omega)
                      obtain ⟨w7, r7, hown7, hg7⟩ := HS2.out.om.update KI Try.underlying27 (by have := HNN.out; unfold maxLen; omega) hkey (plainElem_int Try.underlying3 hwf)
                      have hs7 := HS2.out.put (by have := HRM.out; omega) hx hown7 hg7 (ub' := 3000 + 5100 * ((k + 1 : Nat) : Int)) (by omega) (Int.le_refl _)
                      rw [← hap] at hs7
                      have HS7 := hidE hs7
                      have HG7 : Hid (GO bx w7 (.slice (some ⟨g, 0, none⟩) G.length c120) G) := HG2.out.move fun k cur hk => put_keep HS2.out.om hg7 hk
                      have HN7 : Hid (n + 1 ≤ 41 + 5000 * k + (j + 1)) := by have := HNN.out; show _ ≤ _; omega
                      have e7 : w7.cell? ⟨wr.heap.size, 1, none⟩ = some (.int .i64 y) := by
                        have hb : (wr.alloc (.cells #[.int .i64 x, .int .i64 y] 36)).heap[wr.heap.size]? = some (.cells #[.int .i64 x, .int .i64 y] 36) := tblk_new _ _
                        exact tblk_cell ((put_keep HS2.out.om hg7 hb).trans hb) rfl
                      have f1 : decide (y < 1) = false := decide_eq_false (by omega)
                      have f2 : decide (64 < y) = false := decide_eq_false (by omega)
                      have f3 : decide (V x < y) = false := decide_eq_false (by omega)
                      have f4 : IntKind.i64.wrap (V x - y) = V x - y := by rw [IntKind.wrap_i64]; omega
                      have f5 : IntKind.i64.wrap (sumG (G.take j) + y) = sumG (G.take (j + 1)) := by rw [hsn, IntKind.wrap_i64]; omega
                      have m1 : (0 : Int) ≤ j := by omega
                      have m2 : (j : Int) < G.length := by omega
                      clear hfa hst hsn hap hux hun HS HG HS2 HG2 HNN hcg BA hkey hwf hown7 hg7 hx hxr hs7
                      generalize V x = vx at *
                      generalize sumG (G.take j) = sj at *
                      go_wp2_with (at_mapUpdate; refine wpList_mapUpdate_run _ rfl _ _ _ 27 rfl _ _ _ w7 rfl rfl rfl r7 ?_)
                      go_roundw
                      case rel => exact ⟨j + 1, n + 1, _, by omega, by go_num, by rfl, HS7, HN7, HG7⟩
                      case measure => simp [intOf]; omega
                    · obtain rfl : j = G.length := by omega
                      rw [List.take_length] at HS ⊢
                      have hkq := kq_bd (k := k) (by omega) hq1 hq2
                      have hsu := HSU.out
                      have hcr := HCR.out
                      have hcp := HCP.out
                      have hst := sumG_take HFR.out G.length (Nat.le_refl _)
                      rw [List.take_length] at hst
                      have HCD : Hid (Calls Try.prog 8 #[.pointer (some ⟨rb, 0, none⟩)] wr fun e w' => e = .returned (.int .i64 cr') ∧ wr = w') := (rbcredit_any rb qq cr' la' wr HS.out.ra).mono fun e w' ⟨h1, h2⟩ => ⟨h1, h2.symm⟩
                      have f1 : IntKind.i64.wrap (T + sumG G) = T + sumG G := by rw [IntKind.wrap_i64]; omega
                      have f2 : IntKind.i64.wrap (qq + 64) = qq + 64 := by rw [IntKind.wrap_i64]; omega
                      have f3 : decide (qq + 64 ≤ sumG G) = false := decide_eq_false (by omega)
                      have f4 : decide (64 ≤ cr') = false := decide_eq_false (by omega)
                      clear hkq hsu hcr hcp hst HG HFR
                      generalize hsg : sumG G = sg at *
                      clear hsg
                      go_wp2_with fail
                      refine HCD.out.mono ?_
                      rintro e w9 ⟨rfl, rfl⟩
                      clear HCD
                      obtain ⟨wb, hwb⟩ : ∃ wb, wb = wr := ⟨_, rfl⟩
                      subst hwb
                      have hom := HS.out.om
                      have hrb := hidE HS.out
                      have hhas := hidE (fun c => HS.out.mw.h c)
                      go_wp2_with (at_range; refine wpList_range_own _ rfl _ 27 rfl 3 3 KI Try.underlying27 _ mk n D rfl hom ?_; intro w0 hrg0 hg0 hs0)
                      go_frame
                      have HRG0 := hidE hrg0
                      have HB0 : Hid (Below wb.heap.size wb w0) := (Below.refl _ _).grown hg0 (Nat.le_refl _) (fun k e => by cases e)
                      have HS0 : Hid ((0 : Int) = seenS (apG U G) (Maps.has D) C) := (seenS_none _ _ _ (fun c hc => by rw [hhas.out c]; exact decide_eq_true hc)).symm
                      generalize apG U G = V at *
                      clear hrg0 hg0 hs0 hom HS
                      go_loopw [25] (fun v25 wr => ∃ (left : Lit → Bool) (cnt : Nat) (sm : Int), v25 = .int .i64 sm ∧ Hid (wr.ranges Try.prog 3 (plainElem Try.prog 3) mk wb.heap.size n D left cnt) ∧ Hid (sm = seenS V left C) ∧ Hid (Below wb.heap.size wb wr)) (fun _ wr => wr.rangeLeft mk wb.heap.size)
                      case atStart => exact ⟨_, _, 0, rfl, HRG0, HS0, HB0⟩
                      case round =>
                        clear HRG0 HS0 HB0
                        obtain ⟨left, cnt, sm, rfl, HRG, HSE, HB⟩ := hrel
                        have hrg := HRG.out
                        have hbd := seenS_bd (U := V) (left := left) (C := C) (b := 3000 + 5100 * ((k + 1 : Nat) : Int)) (by omega) hrb.out.un
                        have hbd2 : 0 ≤ sm ∧ sm ≤ 4000000 := by
                          have e := HSE.out
                          have h2 : (3000 + 5100 * ((k + 1 : Nat) : Int)) * (C.length : Int) ≤ 156000 * 20 := Int.mul_le_mul (by omega) (by omega) (by omega) (by omega)
                          omega
                        clear hbd
                        go_wp2_with (at_next; refine wpList_next_ranges_ii _ rfl _ rfl 3 3 .i64 .i64 KI Try.underlying3 Try.underlying3 mk wb.heap.size n D left cnt rfl hrg ?_ ?_)
                        · intro hc0 hl0
                          have hsu : sm = usum V C := HSE.out.trans (seenS_all V left C hl0)
                          have hzero := usum_zero (U := V) (C := C) (fun c hc => (hrb.out.un c hc).1)
                          have HSw := hidE (hrb.out.grow HB.out)
                          have HCD : Hid (Calls Try.prog 8 #[.pointer (some ⟨rb, 0, none⟩)] wr fun e w' => e = .returned (.int .i64 cr') ∧ wr = w') := (rbcredit_any rb qq cr' la' wr HSw.out.ra).mono fun e w' ⟨h1, h2⟩ => ⟨h1, h2.symm⟩
                          have HBW := hidE HSw.out.be
                          rw [← hsu] at hzero
                          by_cases hz : sm = 0
                          · have hall := hzero.1 hz
                            have hcr0 : cr' = 0 := by
                              rcases HCS.out with ⟨q, _⟩ | ⟨⟨c, hc, hp⟩, _⟩
                              · exact q
                              · have := hall c hc
                                omega
                            subst hcr0
                            subst hz
                            clear hzero hall hsu hrg HRG HSE hl0 hc0 hrb HB HSw hbd2 HCS HCP
                            go_wp2_with fail
                            refine HCD.out.mono ?_
                            rintro e w9 ⟨rfl, rfl⟩
                            go_wp2
                            go_ret
                            exact ⟨rfl, HBW.out⟩
                          · have hcase : sg = cr + qq - cr' := by
                              rcases HCS.out with ⟨_, q⟩ | ⟨_, q⟩
                              · exact absurd (hzero.2 q) hz
                              · exact q
                            have dz : (sm == 0) = false := by simpa using hz
                            have hkq := kq_bd (k := k + 1) (by omega) hq1 hq2
                            have hks := kq_succ k qq
                            have hcr := HCR.out
                            have hcp := HCP.out
                            have HT2 : Hid (0 ≤ cr' ∧ cr' < 64 ∧ T + sg + cr' = ((k + 1 : Nat) : Int) * qq) := ⟨hcp.1, hcp.2, by omega⟩
                            have HN9 : Hid (n ≤ 21 + 5000 * (k + 1)) := by have := HNN.out; show _ ≤ _; omega
                            obtain ⟨P, hP⟩ : ∃ P, P = ((k + 1 : Nat) : Int) * qq := ⟨_, rfl⟩
                            have f1 : IntKind.i64.wrap ((k : Int) + 1) = (k : Int) + 1 := by rw [IntKind.wrap_i64]; omega
                            have f2 : IntKind.i64.wrap (((k : Int) + 1) * qq) = P := by rw [show ((k : Int) + 1) * qq = P from hP.symm, IntKind.wrap_i64]; omega
                            have f3 : IntKind.i64.wrap (P - 64) = P - 64 := by rw [IntKind.wrap_i64]; omega
                            have f4 : decide (T + sg < P - 64) = false := decide_eq_false (by omega)
                            clear hzero hsu hrg HRG HSE hl0 hc0 hrb HB hbd2 HCS HCP hz hcase hkq hks hcr hcp hP HCD HNN
                            go_wp2
                            go_roundw
                            case rel => exact ⟨k + 1, V, cr', la', n, D, T + sg, by omega, by go_num, rfl, HSw, HN9, HT2⟩
                            case measure => simp [intOf]; omega
                        · intro x c w1 cnt1 hwx hwc hlx hat hrg1 hlt1 hg1 hs1 hen
                          have hx : x ∈ C := by
                            have h1 := Maps.has_true_of_atKey hat
                            rw [hhas.out x] at h1
                            exact of_decide_eq_true h1
                          have hc : V x = c := by
                            have h1 := hrb.out.mw.v x hx
                            rw [hat] at h1
                            injection h1 with h1
                            injection h1 with _ h1
                            exact h1.symm
                          have hux := hrb.out.un x hx
                          rw [hc] at hux
                          have HSE2 : Hid (sm + c = seenS V (fun z => left z && !z.sameKey (.int .i64 x)) C) := by
                            rw [Hid, seenS_step V left x hlx C HND.out hx, ← HSE.out, hc]
                          have HB1 : Hid (Below wb.heap.size wb w1) := HB.out.grown hg1 HB.out.size (fun k e => by cases e; exact Nat.le_refl _)
                          have HR1 := hidE hrg1
                          have HLT := hidE hlt1
                          have f1 : IntKind.i64.wrap (sm + c) = sm + c := by rw [IntKind.wrap_i64]; omega
                          clear hx hc hux hat hwx hwc hlx hg1 hs1 hbd2 HSE HB hlt1 hrg1
                          go_wp2
                          go_roundw
                          case rel => exact ⟨_, cnt1, sm + c, rfl, HR1, HSE2, HB1⟩
                          case measure =>
                            rw [HR1.out.left_eq, hrg.left_eq]
                            exact HLT.out
        · obtain rfl : k = len2 := by omega
          have HBE := hidE HS.out.be
          clear HS HNN HT
          go_wp2
          go_ret
          exact ⟨rfl, HBE.out⟩
end Go.Proofs.Ytnfpbkllpkbdiaa
