/- FieldBounds, walked. -/
import Derived.Test.YtflgjhknobnnaabDoorFcA
import Derived.Test.YtflgjhknobnnaabDoorFbB
namespace Go.Proofs.YtflgjhknobnnaabDoor
open Go.ChangeShapes Go.WideShapes Go.ChangeAt Go.RowKit
set_option linter.unusedVariables false

theorem rep_size {s : ByteArray} {c : UInt8} {k : Nat} (h : s.data.toList = repB c k) : s.size = k := by
  show s.data.toList.length = _
  rw [h]; simp [repB]

set_option maxRecDepth 100000 in
set_option maxHeartbeats 4000000 in
theorem fbounds_walk (n0 v0 c0 : Int) (w : World) (hM : MaxL w) : Calls Tryd.prog 8 #[.int .i64 n0, .int .i64 v0, .int .i64 c0] w fun e w' => e = .returned (.bool true) ∧ Below w.heap.size w w' := by
  obtain ⟨x, hx, hbx0⟩ := and_mask n0 127 (by decide)
  have hbx : bits BinOp.and IntKind.i64 n0 127 = (x : Int) := hbx0
  obtain ⟨y, hy, hby0⟩ := and_mask v0 127 (by decide)
  have hby : bits BinOp.and IntKind.i64 v0 127 = (y : Int) := hby0
  obtain ⟨z, hz, hbz0⟩ := and_mask c0 63 (by decide)
  have hbz : bits BinOp.and IntKind.i64 c0 63 = (z : Int) := hbz0
  clear hbx0 hby0 hbz0
  go_enter Tryd.func8, Tryd.ntmps8
  go_wp2_with fail
  refine (parsing_any _ hM).mono ?_
  rintro e w1 ⟨rfl, B1⟩
  go_wp2_with fail
  refine (looking_any _ (hM.below B1)).mono ?_
  rintro e w2 ⟨rfl, B2⟩
  have D2 := B1.trans (B2.mono B1.size)
  clear B1 B2
  go_wp2_with fail
  go_loop [7, 9] (fun vs vi => ∃ (i : Nat) (s : ByteArray), vi = .int .i64 i ∧ vs = .string s ∧ i ≤ x + 1 ∧ s.size ≤ 128 ∧ Hid (s.data.toList = repB 110 i)) (fun _ vi => x + 1 - (intOf vi).toNat)
  case atStart => exact ⟨0, ⟨#[]⟩, rfl, rfl, Nat.zero_le _, by decide, rfl⟩
  case round =>
    obtain ⟨i, s, rfl, rfl, hi, hs, hD⟩ := hrel
    by_cases hlt : i < x + 1
    · have hlt2 : (i : Int) < 1 + (x : Int) := by omega
      have hcat := fun W : World => run_string_add (P := Tryd.prog) (w := W) s ⟨#[110]⟩ (by omega) (show ((1 : Nat) : Int) ≤ 8388608 by decide)
      have HS : Hid ((s ++ (⟨#[110]⟩ : ByteArray)).data.toList = repB 110 (i + 1)) := rep_snoc s 110 i hD.out
      have HL : Hid ((s ++ (⟨#[110]⟩ : ByteArray)).size ≤ 128) := by rw [Hid, rep_size HS.out]; omega
      clear hD
      go_wp2
      go_round
      case rel => exact ⟨i + 1, _, by go_num, rfl, by omega, HL.out, HS⟩
      case measure => simp [intOf]; omega
    · have hge : ¬ (i : Int) < 1 + (x : Int) := by omega
      have hi' : i = x + 1 := by omega
      subst hi'
      have HN : Hid (s.data.toList = repB 110 (x + 1)) := hD
      clear hlt hi hD
      go_wp2_with fail
      go_loop [8, 10] (fun vs vi => ∃ (i : Nat) (t : ByteArray), vi = .int .i64 i ∧ vs = .string t ∧ i ≤ 900 + y ∧ t.size ≤ 1027 ∧ Hid (t.data.toList = repB 118 i)) (fun _ vi => 900 + y - (intOf vi).toNat)
      case atStart => exact ⟨0, ⟨#[]⟩, rfl, rfl, Nat.zero_le _, by decide, rfl⟩
      case round =>
        obtain ⟨i, t, rfl, rfl, hi, ht, hD⟩ := hrel
        by_cases hlt : i < 900 + y
        · have hlt2 : (i : Int) < 900 + (y : Int) := by omega
          have hcat := fun W : World => run_string_add (P := Tryd.prog) (w := W) t ⟨#[118]⟩ (by omega) (show ((1 : Nat) : Int) ≤ 8388608 by decide)
          have HS : Hid ((t ++ (⟨#[118]⟩ : ByteArray)).data.toList = repB 118 (i + 1)) := rep_snoc t 118 i hD.out
          have HL : Hid ((t ++ (⟨#[118]⟩ : ByteArray)).size ≤ 1027) := by rw [Hid, rep_size HS.out]; omega
          clear hD
          go_wp2
          go_round
          case rel => exact ⟨i + 1, _, by go_num, rfl, by omega, HL.out, HS⟩
          case measure => simp [intOf]; omega
        · have hge2 : ¬ (i : Int) < 900 + (y : Int) := by omega
          have hi' : i = 900 + y := by omega
          subst hi'
          have hcat1 := fun W : World => run_string_add (P := Tryd.prog) (w := W) s ⟨#[58]⟩ (by omega) (show ((1 : Nat) : Int) ≤ 8388608 by decide)
          have hcs : (s ++ (⟨#[58]⟩ : ByteArray)).size ≤ 129 := by rw [cat_size]; show s.size + 1 ≤ 129; omega
          have hcat2 := fun W : World => run_string_add (P := Tryd.prog) (w := W) (s ++ (⟨#[58]⟩ : ByteArray)) t (by omega) (by omega)
          have hcs2 : ((s ++ (⟨#[58]⟩ : ByteArray)) ++ t).size ≤ 1200 := by rw [cat_size]; omega
          have HO := okF_rep HN.out hD.out
          have HP0 := prs_rep HN.out hD.out
          have HPS : Hid (∀ W, MaxL W → Calls Tryd.prog 24 #[.string ((s ++ (⟨#[58]⟩ : ByteArray)) ++ t)] W fun e w' => e = .returned (.tuple #[.agg #[.string (if okF s t = true then (s, t, (0 : Int)) else (⟨#[]⟩, ⟨#[]⟩, 20)).1, .string (if okF s t = true then (s, t, (0 : Int)) else (⟨#[]⟩, ⟨#[]⟩, 20)).2.1], .int .i64 (if okF s t = true then (s, t, (0 : Int)) else (⟨#[]⟩, ⟨#[]⟩, 20)).2.2]) ∧ Below W.heap.size W w') := fun W m => by
            have k := parse_any ((s ++ (⟨#[58]⟩ : ByteArray)) ++ t) W (by omega) m
            rw [HP0] at k
            exact k
          have HR : Hid (∀ (W : World) (g : Nat), W.heap.size = g → Calls Tryd.prog 17 #[.slice (some ⟨g, 0, none⟩) 1 1] (W.alloc (.cells #[.string s, .string t] 34)) fun e w' => e = .returned (.bool (okF s t)) ∧ Below W.heap.size W w') := fun W g hg => by
            subst hg
            have k := right_any [(s, t)] (some ⟨W.heap.size, 0, none⟩) 1 (W.alloc (.cells #[.string s, .string t] 34)) (fds_new W s t) (fun f hf => by rw [List.mem_singleton.1 hf]; exact ⟨by show s.size ≤ _; omega, by show t.size ≤ _; omega⟩)
            rw [right_one] at k
            exact k.mono fun e w' q => ⟨q.1, ((Below.refl _ _).alloc (Nat.le_refl _) _).trans (q.2.mono (by simp))⟩
          have HOK : Hid (okF s t = (decide (x + 1 ≤ 100) && decide (900 + y ≤ 1000))) := HO
          have HM2 : Hid (MaxL w2) := hM.below D2
          clear hD HN HO HP0 hcs2 hlt hi
          generalize hq : s ++ (⟨#[58]⟩ : ByteArray) = q at *
          clear hq
          generalize hq2 : q ++ t = q2 at *
          clear hq2
          generalize okF s t = ok at *
          cases ok
          · have HPS2 : Hid (∀ W, MaxL W → Calls Tryd.prog 24 #[.string q2] W fun e w' => e = .returned (.tuple #[.agg #[.string ⟨#[]⟩, .string ⟨#[]⟩], .int .i64 20]) ∧ Below W.heap.size W w') := HPS.out
            clear HPS
            by_cases p1 : x + 1 ≤ 100
            · have p2 : ¬ 900 + y ≤ 1000 := by
                intro p2
                have h := HOK.out
                rw [decide_eq_true p1, decide_eq_true p2] at h
                cases h
              have r1 : (1 : Int) + (x : Int) ≤ 100 := by omega
              have r2 : ¬ (900 : Int) + (y : Int) ≤ 1000 := by omega
              clear p1 p2 HOK
              go_wp2_with fail
              refine (HPS2.out _ HM2.out).mono ?_
              rintro e w3 ⟨rfl, B3⟩
              have D3 := D2.trans (B3.mono D2.size)
              have G3 := BI.new w3 (.cells #[.string ⟨#[]⟩, .string ⟨#[]⟩] 34)
              clear B3 HPS2
              have E3 : Below w.heap.size w (w3.alloc (.cells #[.string ⟨#[]⟩, .string ⟨#[]⟩] 34)) := D3.alloc D3.size _
              go_wp2_with fail
              refine (HR.out _ (w3.heap.size + 1) (by simp)).mono ?_
              rintro e w5 ⟨rfl, B5⟩
              have D5 := E3.trans (B5.mono E3.size)
              clear B5 E3 G3 D3 HR D2
              have HB0 : Hid (Below w.heap.size w (w5.alloc (.cells #[] 34))) := D5.alloc D5.size _
              have HO0 : Hid (OwnF w.heap.size (w5.alloc (.cells #[] 34)) (.slice (some ⟨w5.heap.size, 0, none⟩) 0 0) (List.replicate 0 abF)) := OwnF.empty _ _ D5.size
              clear D5
              go_wp2_with fail
              go_loopw [14, 15] (fun v vi wl => ∃ (j c : Nat) (a : Option Addr), vi = .int .i64 j ∧ v = .slice a j c ∧ j ≤ z ∧ Hid (OwnF w.heap.size wl (.slice a j c) (List.replicate j abF)) ∧ Below w.heap.size w wl) (fun _ vi _ => z - (intOf vi).toNat)
              case atStart => exact ⟨0, 0, _, rfl, rfl, Nat.zero_le _, HO0, HB0.out⟩
              case round =>
                obtain ⟨j, c, a, rfl, rfl, hj, hO, hBl⟩ := hrel
                clear HO0 HB0
                by_cases hjt : j < z
                · have O1 := hO.out.keep ((Below.refl _ _).alloc (Nat.le_refl _) (.cells #[.string ⟨#[97]⟩, .string ⟨#[98]⟩] 34))
                  have E1 := hBl.alloc hBl.size (.cells #[.string ⟨#[97]⟩, .string ⟨#[98]⟩] 34)
                  obtain ⟨v6, w6, r6, O6, B6⟩ := ownF_append O1 (fds_new _ ⟨#[97]⟩ ⟨#[98]⟩) (by simp; omega) E1.size
                  have D6 := E1.trans B6
                  have eR : List.replicate j abF ++ [(⟨#[97]⟩, ⟨#[98]⟩)] = List.replicate (j + 1) abF := (List.replicate_succ' ..).symm
                  rw [eR] at O6
                  obtain ⟨a6, c6, e6, _⟩ := O6.form
                  rw [List.length_replicate] at e6
                  subst e6
                  have HO6 : Hid (OwnF w.heap.size w6 (.slice a6 (j + 1) c6) (List.replicate (j + 1) abF)) := O6
                  have HR6 : Hid _ := r6
                  clear O1 E1 r6 O6 B6 eR hO
                  go_wp2_with (at_builtin; refine wpList_append_run2 rfl _ _ 22 22 rfl _ _ _ w6 rfl rfl HR6.out ?_)
                  go_roundw
                  case rel => exact ⟨j + 1, c6, a6, by go_num, rfl, by omega, HO6, D6⟩
                  case measure => simp [intOf]; omega
                · have hj' : j = z := by omega
                  subst hj'
                  have hfd := hO.out.fds
                  have hbd : FBd 140737488355328 (List.replicate j abF) := fun f hf => by
                    rw [(List.mem_replicate.1 hf).2]; exact ⟨by decide, by decide⟩
                  have hlr : (List.replicate j abF).length = j := List.length_replicate
                  have k1 := right_any (List.replicate j abF) a c _ (by rw [hlr]; exact hfd) hbd
                  rw [hlr, ab_right] at k1
                  have HK1 : Hid _ := k1
                  have k2 : Hid (∀ W, Below _ _ W → Calls Tryd.prog 11 #[.slice a j c, .string ⟨#[65]⟩] W fun e w' => ∃ ao cv, e = .returned (.slice ao j cv) ∧ Below W.heap.size W w') := fun W b => by
                    have k := get_any (List.replicate j abF) a c ⟨#[65]⟩ W (by rw [hlr]; exact (hfd.keep b).mono b.size) hbd (by decide) (by rw [hlr]; omega)
                    rw [hlr, ab_get] at k
                    exact k.mono fun e w' ⟨ao, cv, h1, _, h3⟩ => ⟨ao, cv, h1, h3⟩
                  have hdd : Hid (decide (j ≤ 40) = decide ((j : Int) ≤ 40)) := by
                    rw [Hid]
                    by_cases q : j ≤ 40
                    · rw [decide_eq_true q, decide_eq_true (by omega)]
                    · rw [decide_eq_false q, decide_eq_false (by omega)]
                  have HDL : Hid _ := hBl
                  rw [hdd.out] at HK1
                  clear k1 hO hfd hbd hlr hjt hBl
                  go_wp2_with fail
                  refine Calls.mono HK1.out ?_
                  rintro e w7 ⟨rfl, B7⟩
                  go_wp2_with fail
                  refine (k2.out _ B7).mono ?_
                  rintro e w8 ⟨ao8, cv8, rfl, B8⟩
                  have C8 := B7.trans (B8.mono B7.size)
                  go_wp2
                  go_ret
                  exact ⟨ret_bool (by simp), HDL.out.trans (C8.mono HDL.out.size)⟩
            · have r1 : ¬ (1 : Int) + (x : Int) ≤ 100 := by omega
              clear p1 HOK
              go_wp2_with fail
              refine (HPS2.out _ HM2.out).mono ?_
              rintro e w3 ⟨rfl, B3⟩
              have D3 := D2.trans (B3.mono D2.size)
              have G3 := BI.new w3 (.cells #[.string ⟨#[]⟩, .string ⟨#[]⟩] 34)
              clear B3 HPS2
              have E3 : Below w.heap.size w (w3.alloc (.cells #[.string ⟨#[]⟩, .string ⟨#[]⟩] 34)) := D3.alloc D3.size _
              go_wp2_with fail
              refine (HR.out _ (w3.heap.size + 1) (by simp)).mono ?_
              rintro e w5 ⟨rfl, B5⟩
              have D5 := E3.trans (B5.mono E3.size)
              clear B5 E3 G3 D3 HR D2
              have HB0 : Hid (Below w.heap.size w (w5.alloc (.cells #[] 34))) := D5.alloc D5.size _
              have HO0 : Hid (OwnF w.heap.size (w5.alloc (.cells #[] 34)) (.slice (some ⟨w5.heap.size, 0, none⟩) 0 0) (List.replicate 0 abF)) := OwnF.empty _ _ D5.size
              clear D5
              go_wp2_with fail
              go_loopw [14, 15] (fun v vi wl => ∃ (j c : Nat) (a : Option Addr), vi = .int .i64 j ∧ v = .slice a j c ∧ j ≤ z ∧ Hid (OwnF w.heap.size wl (.slice a j c) (List.replicate j abF)) ∧ Below w.heap.size w wl) (fun _ vi _ => z - (intOf vi).toNat)
              case atStart => exact ⟨0, 0, _, rfl, rfl, Nat.zero_le _, HO0, HB0.out⟩
              case round =>
                obtain ⟨j, c, a, rfl, rfl, hj, hO, hBl⟩ := hrel
                clear HO0 HB0
                by_cases hjt : j < z
                · have O1 := hO.out.keep ((Below.refl _ _).alloc (Nat.le_refl _) (.cells #[.string ⟨#[97]⟩, .string ⟨#[98]⟩] 34))
                  have E1 := hBl.alloc hBl.size (.cells #[.string ⟨#[97]⟩, .string ⟨#[98]⟩] 34)
                  obtain ⟨v6, w6, r6, O6, B6⟩ := ownF_append O1 (fds_new _ ⟨#[97]⟩ ⟨#[98]⟩) (by simp; omega) E1.size
                  have D6 := E1.trans B6
                  have eR : List.replicate j abF ++ [(⟨#[97]⟩, ⟨#[98]⟩)] = List.replicate (j + 1) abF := (List.replicate_succ' ..).symm
                  rw [eR] at O6
                  obtain ⟨a6, c6, e6, _⟩ := O6.form
                  rw [List.length_replicate] at e6
                  subst e6
                  have HO6 : Hid (OwnF w.heap.size w6 (.slice a6 (j + 1) c6) (List.replicate (j + 1) abF)) := O6
                  have HR6 : Hid _ := r6
                  clear O1 E1 r6 O6 B6 eR hO
                  go_wp2_with (at_builtin; refine wpList_append_run2 rfl _ _ 22 22 rfl _ _ _ w6 rfl rfl HR6.out ?_)
                  go_roundw
                  case rel => exact ⟨j + 1, c6, a6, by go_num, rfl, by omega, HO6, D6⟩
                  case measure => simp [intOf]; omega
                · have hj' : j = z := by omega
                  subst hj'
                  have hfd := hO.out.fds
                  have hbd : FBd 140737488355328 (List.replicate j abF) := fun f hf => by
                    rw [(List.mem_replicate.1 hf).2]; exact ⟨by decide, by decide⟩
                  have hlr : (List.replicate j abF).length = j := List.length_replicate
                  have k1 := right_any (List.replicate j abF) a c _ (by rw [hlr]; exact hfd) hbd
                  rw [hlr, ab_right] at k1
                  have HK1 : Hid _ := k1
                  have k2 : Hid (∀ W, Below _ _ W → Calls Tryd.prog 11 #[.slice a j c, .string ⟨#[65]⟩] W fun e w' => ∃ ao cv, e = .returned (.slice ao j cv) ∧ Below W.heap.size W w') := fun W b => by
                    have k := get_any (List.replicate j abF) a c ⟨#[65]⟩ W (by rw [hlr]; exact (hfd.keep b).mono b.size) hbd (by decide) (by rw [hlr]; omega)
                    rw [hlr, ab_get] at k
                    exact k.mono fun e w' ⟨ao, cv, h1, _, h3⟩ => ⟨ao, cv, h1, h3⟩
                  have hdd : Hid (decide (j ≤ 40) = decide ((j : Int) ≤ 40)) := by
                    rw [Hid]
                    by_cases q : j ≤ 40
                    · rw [decide_eq_true q, decide_eq_true (by omega)]
                    · rw [decide_eq_false q, decide_eq_false (by omega)]
                  have HDL : Hid _ := hBl
                  rw [hdd.out] at HK1
                  clear k1 hO hfd hbd hlr hjt hBl
                  go_wp2_with fail
                  refine Calls.mono HK1.out ?_
                  rintro e w7 ⟨rfl, B7⟩
                  go_wp2_with fail
                  refine (k2.out _ B7).mono ?_
                  rintro e w8 ⟨ao8, cv8, rfl, B8⟩
                  have C8 := B7.trans (B8.mono B7.size)
                  go_wp2
                  go_ret
                  exact ⟨ret_bool (by simp), HDL.out.trans (C8.mono HDL.out.size)⟩
          · have HPS2 : Hid (∀ W, MaxL W → Calls Tryd.prog 24 #[.string q2] W fun e w' => e = .returned (.tuple #[.agg #[.string s, .string t], .int .i64 0]) ∧ Below W.heap.size W w') := HPS.out
            clear HPS
            have p12 : x + 1 ≤ 100 ∧ 900 + y ≤ 1000 := by
              have h := HOK.out.symm
              rw [Bool.and_eq_true] at h
              exact ⟨of_decide_eq_true h.1, of_decide_eq_true h.2⟩
            have r1 : (1 : Int) + (x : Int) ≤ 100 := by omega
            have r2 : (900 : Int) + (y : Int) ≤ 1000 := by omega
            clear p12 HOK
            go_wp2_with fail
            refine (HPS2.out _ HM2.out).mono ?_
            rintro e w3 ⟨rfl, B3⟩
            have D3 := D2.trans (B3.mono D2.size)
            have G3 := BI.new w3 (.cells #[.string s, .string t] 34)
            clear B3 HPS2
            have E3 : Below w.heap.size w (w3.alloc (.cells #[.string s, .string t] 34)) := D3.alloc D3.size _
            go_wp2_with fail
            refine (HR.out _ (w3.heap.size + 1) (by simp)).mono ?_
            rintro e w5 ⟨rfl, B5⟩
            have D5 := E3.trans (B5.mono E3.size)
            clear B5 E3 G3 D3 HR D2
            have HB0 : Hid (Below w.heap.size w (w5.alloc (.cells #[] 34))) := D5.alloc D5.size _
            have HO0 : Hid (OwnF w.heap.size (w5.alloc (.cells #[] 34)) (.slice (some ⟨w5.heap.size, 0, none⟩) 0 0) (List.replicate 0 abF)) := OwnF.empty _ _ D5.size
            clear D5
            go_wp2_with fail
            go_loopw [14, 15] (fun v vi wl => ∃ (j c : Nat) (a : Option Addr), vi = .int .i64 j ∧ v = .slice a j c ∧ j ≤ z ∧ Hid (OwnF w.heap.size wl (.slice a j c) (List.replicate j abF)) ∧ Below w.heap.size w wl) (fun _ vi _ => z - (intOf vi).toNat)
            case atStart => exact ⟨0, 0, _, rfl, rfl, Nat.zero_le _, HO0, HB0.out⟩
            case round =>
              obtain ⟨j, c, a, rfl, rfl, hj, hO, hBl⟩ := hrel
              clear HO0 HB0
              by_cases hjt : j < z
              · have O1 := hO.out.keep ((Below.refl _ _).alloc (Nat.le_refl _) (.cells #[.string ⟨#[97]⟩, .string ⟨#[98]⟩] 34))
                have E1 := hBl.alloc hBl.size (.cells #[.string ⟨#[97]⟩, .string ⟨#[98]⟩] 34)
                obtain ⟨v6, w6, r6, O6, B6⟩ := ownF_append O1 (fds_new _ ⟨#[97]⟩ ⟨#[98]⟩) (by simp; omega) E1.size
                have D6 := E1.trans B6
                have eR : List.replicate j abF ++ [(⟨#[97]⟩, ⟨#[98]⟩)] = List.replicate (j + 1) abF := (List.replicate_succ' ..).symm
                rw [eR] at O6
                obtain ⟨a6, c6, e6, _⟩ := O6.form
                rw [List.length_replicate] at e6
                subst e6
                have HO6 : Hid (OwnF w.heap.size w6 (.slice a6 (j + 1) c6) (List.replicate (j + 1) abF)) := O6
                have HR6 : Hid _ := r6
                clear O1 E1 r6 O6 B6 eR hO
                go_wp2_with (at_builtin; refine wpList_append_run2 rfl _ _ 22 22 rfl _ _ _ w6 rfl rfl HR6.out ?_)
                go_roundw
                case rel => exact ⟨j + 1, c6, a6, by go_num, rfl, by omega, HO6, D6⟩
                case measure => simp [intOf]; omega
              · have hj' : j = z := by omega
                subst hj'
                have hfd := hO.out.fds
                have hbd : FBd 140737488355328 (List.replicate j abF) := fun f hf => by
                  rw [(List.mem_replicate.1 hf).2]; exact ⟨by decide, by decide⟩
                have hlr : (List.replicate j abF).length = j := List.length_replicate
                have k1 := right_any (List.replicate j abF) a c _ (by rw [hlr]; exact hfd) hbd
                rw [hlr, ab_right] at k1
                have HK1 : Hid _ := k1
                have k2 : Hid (∀ W, Below _ _ W → Calls Tryd.prog 11 #[.slice a j c, .string ⟨#[65]⟩] W fun e w' => ∃ ao cv, e = .returned (.slice ao j cv) ∧ Below W.heap.size W w') := fun W b => by
                  have k := get_any (List.replicate j abF) a c ⟨#[65]⟩ W (by rw [hlr]; exact (hfd.keep b).mono b.size) hbd (by decide) (by rw [hlr]; omega)
                  rw [hlr, ab_get] at k
                  exact k.mono fun e w' ⟨ao, cv, h1, _, h3⟩ => ⟨ao, cv, h1, h3⟩
                have hdd : Hid (decide (j ≤ 40) = decide ((j : Int) ≤ 40)) := by
                  rw [Hid]
                  by_cases q : j ≤ 40
                  · rw [decide_eq_true q, decide_eq_true (by omega)]
                  · rw [decide_eq_false q, decide_eq_false (by omega)]
                have HDL : Hid _ := hBl
                rw [hdd.out] at HK1
                clear k1 hO hfd hbd hlr hjt hBl
                go_wp2_with fail
                refine Calls.mono HK1.out ?_
                rintro e w7 ⟨rfl, B7⟩
                go_wp2_with fail
                refine (k2.out _ B7).mono ?_
                rintro e w8 ⟨ao8, cv8, rfl, B8⟩
                have C8 := B7.trans (B8.mono B7.size)
                go_wp2
                go_ret
                exact ⟨ret_bool (by simp), HDL.out.trans (C8.mono HDL.out.size)⟩
end Go.Proofs.YtflgjhknobnnaabDoor
