/- RouteSwaps: the walk. -/
import Derived.Test.YtjfcoihfjjcooaaRtL
namespace Go.Proofs.Ytjfcoihfjjcooaa
open Go.RowKit
set_option linter.unusedVariables false

theorem path_short (s : ByteArray) (k : Nat) (h : k < s.size) (hq : (s[k].toNat : Int) = 63) : (pathL s.data.toList).length ≤ k := by
  rcases Nat.lt_or_ge k (pathL s.data.toList).length with c | c
  · have a := (pathL_parts s.data.toList).1 _ (List.getElem_mem c)
    obtain ⟨q, e⟩ := path_pre s.data.toList
    have h2 : k < s.data.toList.length := h
    have kk : s.data.toList[k]? = (pathL s.data.toList)[k]? := by
      conv => lhs; rw [e]
      rw [List.getElem?_append_left c]
    rw [List.getElem?_eq_getElem c, List.getElem?_eq_getElem h2] at kk
    have kk2 := Option.some.inj kk
    exfalso
    apply a
    rw [← kk2]
    apply UInt8.toNat_inj.1
    have : s[k] = s.data.toList[k] := rfl
    rw [← this]
    have e63 : (63 : UInt8).toNat = 63 := rfl
    omega
  · exact c
set_option maxRecDepth 100000 in
set_option maxHeartbeats 8000000 in
theorem swaps_walk (p s a q : ByteArray) (w : World) (hp : p.size ≤ maxLen) (hs : s.size ≤ maxLen) (ha : a.size ≤ 140737488355328) (hq : q.size ≤ 140737488355328) (hM : MaxL w) :
    Calls Try.prog 5 #[.string p, .string s, .string a, .string q] w fun e w' => e = .returned (.bool true) ∧ Below w.heap.size w w' := by
  have HA : Hid (Calls Try.prog 7 #[] w fun e w' => e = .returned (.bool true) ∧ Below w.heap.size w w') := alive11_any w hM
  have HP : Hid (∀ W, Calls Try.prog 14 #[.string p] W fun e w' => e = .returned (.bool (ptB p)) ∧ w' = W) := fun W => path_any p W hp
  have HS : Hid (∀ W, Calls Try.prog 14 #[.string s] W fun e w' => e = .returned (.bool (ptB s)) ∧ w' = W) := fun W => path_any s W hs
  have hpp := ptB_of (s := p)
  have hss := ptB_of (s := s)
  generalize ptB p = P at *
  generalize ptB s = S at *
  unfold maxLen at hp hs
  cases P
  · clear hpp hss hM
    go_enter Try.func5, Try.ntmps5
    go_wp2_with fail
    refine HA.out.mono ?_
    rintro e w1 ⟨rfl, B1⟩
    go_wp2_with fail
    refine (HP.out _).mono ?_
    rintro e w2 ⟨rfl, rfl⟩
    go_wp2
    go_ret
    exact ⟨rfl, B1⟩
  · cases S
    · clear hpp hss hM
      go_enter Try.func5, Try.ntmps5
      go_wp2_with fail
      refine HA.out.mono ?_
      rintro e w1 ⟨rfl, B1⟩
      go_wp2_with fail
      refine (HP.out _).mono ?_
      rintro e w2 ⟨rfl, rfl⟩
      go_wp2_with fail
      refine (HS.out _).mono ?_
      rintro e w2 ⟨rfl, rfl⟩
      go_wp2
      go_ret
      exact ⟨rfl, B1⟩
    · obtain ⟨hp0, hp1⟩ := hpp rfl
      obtain ⟨_, hs1⟩ := hss rfl
      clear hpp hss
      by_cases hl : a.size + q.size ≤ 300
      · have hl' : decide ((300 : Int) < (a.size : Int) + (q.size : Int)) = false := decide_eq_false (by omega)
        have HF : Hid (∀ x : ByteArray, x.size ≤ 4000 → ∀ W, Below w.heap.size w W → Calls Try.prog 12 #[.string p, .string x] W fun e w' => e = .returned (.bool (fitT p x)) ∧ Below w.heap.size w w') := fun x hx W b => (fits_any p x W (by omega) (by unfold maxLen; omega) (hM.below b)).mono fun e w' z => ⟨z.1, b.trans (z.2.mono b.size)⟩
        have HR : Hid (∀ y x : ByteArray, y.size ≤ 100 → x.size ≤ 4000 → ∀ W, Below w.heap.size w W → Calls Try.prog 10 #[.agg #[.string p, .string ⟨#[]⟩, .string y], .string x] W fun e w' => e = .returned (.tuple #[.string (rewB p y x).1, .bool (rewB p y x).2]) ∧ Below w.heap.size w w') := fun y x hy hx W b => (rewrite_any p _ y x W (by omega) (by unfold maxLen; omega) (by omega) (hM.below b)).mono fun e w' z => ⟨z.1, b.trans (z.2.mono b.size)⟩
        have HMt : Hid (∀ x : ByteArray, x.size ≤ 4000 → fitT p x = true → ∀ W, Below w.heap.size w W → ∀ b, W.heap[b]? = some (.cells #[.string p, .string ⟨#[]⟩, .string ⟨#[]⟩] 26) → Calls Try.prog 8 #[.slice (some ⟨b, 0, none⟩) 1 1, .string x] W fun e w' => e = .returned (.int .i64 0) ∧ Below w.heap.size w w') := fun x hx hf W b g hg => (match_any [⟨p, ⟨#[]⟩, ⟨#[]⟩⟩] _ 1 x W (one_rts hg) (fun r hr => by
            simp only [List.mem_cons, List.not_mem_nil, or_false] at hr
            subst hr
            exact ⟨show p.size ≤ _ by omega, show (⟨#[]⟩ : ByteArray).size ≤ _ by decide⟩) (by omega) (hM.below b)).mono fun e w' ⟨m, e1, e2, e3⟩ => ⟨by rw [e1, sw_one hf e2], b.trans (e3.mono b.size)⟩
        clear hM hp hs ha hq
        go_enter Try.func5, Try.ntmps5
        go_wp2_with fail
        refine HA.out.mono ?_
        rintro e w1 ⟨rfl, B1⟩
        go_wp2_with fail
        refine (HP.out _).mono ?_
        rintro e w2 ⟨rfl, rfl⟩
        go_wp2_with fail
        refine (HS.out _).mono ?_
        rintro e w2 ⟨rfl, rfl⟩
        clear HA HP HS
        go_wp2_with fail
        go_loop [10] (fun i => ∃ k : Nat, k ≤ p.size ∧ i = .int .i64 k ∧ Hid (∀ (j : Nat) (hj : j < p.size), j < k → (p[j].toNat : Int) ≠ 63)) (fun i => p.size - (intOf i).toNat)
        case atStart => exact ⟨0, Nat.zero_le _, rfl, fun j _ h => absurd h (Nat.not_lt_zero _)⟩
        case round =>
          obtain ⟨k, hk, rfl, hQ⟩ := hrel
          by_cases hlt : k < p.size
          · by_cases h63 : (p[k].toNat : Int) = 63
            · have h63' : ((p[k].toNat : Int) == 63) = true := by simp [h63]
              have hno : fitT p p = false := rf_far (Nat.lt_of_le_of_lt (path_short p k hlt h63) hlt)
              have H1 : Hid (∀ W, Below w.heap.size w W → Calls Try.prog 12 #[.string p, .string p] W fun e w' => e = .returned (.bool false) ∧ Below w.heap.size w w') := fun W b => by have k := HF.out p (by omega) W b; rwa [hno] at k
              clear h63 hno HF HR HMt hQ
              go_wp2_with fail
              refine (H1.out _ B1).mono ?_
              rintro e w3 ⟨rfl, B3⟩
              go_wp2
              go_ret
              exact ⟨rfl, B3⟩
            · have h63' : ((p[k].toNat : Int) == 63) = false := by simp [h63]
              have hQ2 : Hid (∀ (j : Nat) (hj : j < p.size), j < k + 1 → (p[j].toNat : Int) ≠ 63) := fun j hj hjk => by
                rcases Nat.lt_or_ge j k with g | g
                · exact hQ.out j hj g
                · have : j = k := by omega
                  subst this; exact h63
              clear h63 HF HR HMt
              go_wp2
              go_round
              case rel => exact ⟨k + 1, by omega, by go_num, hQ2⟩
              case measure => simp [intOf]; omega
          · have hqp : ∀ b ∈ p.data.toList, b ≠ 63 := no_q fun j hj => hQ.out j hj (by omega)
            have y1 : (⟨#[63]⟩ : ByteArray).size = 1 := rfl
            have y2 : (⟨#[47]⟩ : ByteArray).size = 1 := rfl
            have z1 := rt_sizes p ⟨#[47]⟩
            have z2 := rt_sizes (p ++ (⟨#[47]⟩ : ByteArray)) a
            have z3 := rt_sizes (p ++ (⟨#[47]⟩ : ByteArray) ++ a) ⟨#[63]⟩
            have z4 := rt_sizes (p ++ (⟨#[47]⟩ : ByteArray) ++ a ++ (⟨#[63]⟩ : ByteArray)) q
            have z5 := rt_sizes p a
            have z6 : (a.extract 1 a.size).size ≤ a.size := by rw [ByteArray.size_extract]; omega
            have c1 := fun W : World => rt_cat (P := Try.prog) p ⟨#[47]⟩ (by omega) W
            have c2 := fun W : World => rt_cat (P := Try.prog) (p ++ ⟨#[47]⟩) a (by omega) W
            have c3 := fun W : World => rt_cat (P := Try.prog) (p ++ ⟨#[47]⟩ ++ a) ⟨#[63]⟩ (by omega) W
            have c4 := fun W : World => rt_cat (P := Try.prog) (p ++ ⟨#[47]⟩ ++ a ++ ⟨#[63]⟩) q (by omega) W
            have c5 := fun W : World => rt_cat (P := Try.prog) p a (by omega) W
            have c6 := fun W : World => rt_cat (P := Try.prog) ⟨#[63]⟩ q (by omega) W
            have c7 := fun W : World => rt_cat (P := Try.prog) p (a.extract 1 a.size) (by omega) W
            have hT : tgtT p a q = p ++ (⟨#[47]⟩ : ByteArray) ++ a ++ (⟨#[63]⟩ : ByteArray) ++ q := rfl
            have hf1 : fitT p (tgtT p a q) = true := sw_fit hqp
            obtain ⟨J, jy, hJ1, hJ2, hJ3⟩ := sw_rew (p := p) (s := s) (a := a) (q := q) hqp hs1 hl
            obtain ⟨hJ4, hJ5⟩ := sw_pre hJ2
            obtain ⟨jn, hJ6, hJ7, hJ8⟩ := sw_suf (J := J) (q := q) (x := s.data.toList ++ jy) (by rw [hJ2, List.append_assoc])
            have R1 : Hid (∀ W, Below w.heap.size w W → Calls Try.prog 10 #[.agg #[.string p, .string ⟨#[]⟩, .string s], .string (tgtT p a q)] W fun e w' => e = .returned (.tuple #[.string J, .bool true]) ∧ Below w.heap.size w w') := fun W b => by have k := HR.out s (tgtT p a q) hs1 (by rw [tgtT_size]; omega) W b; rwa [hJ1] at k
            have R2 : Hid (∀ W, Below w.heap.size w W → Calls Try.prog 10 #[.agg #[.string p, .string ⟨#[]⟩, .string p], .string (p ++ a)] W fun e w' => e = .returned (.tuple #[.string (rewB p p (p ++ a)).1, .bool (rewB p p (p ++ a)).2]) ∧ Below w.heap.size w w') := fun W b => HR.out p (p ++ a) hp1 (by omega) W b
            have F1 : Hid (∀ W, Below w.heap.size w W → Calls Try.prog 12 #[.string p, .string (tgtT p a q)] W fun e w' => e = .returned (.bool true) ∧ Below w.heap.size w w') := fun W b => by have k := HF.out (tgtT p a q) (by rw [tgtT_size]; omega) W b; rwa [hf1] at k
            have F2 : Hid (∀ W, Below w.heap.size w W → Calls Try.prog 12 #[.string p, .string (p ++ a)] W fun e w' => e = .returned (.bool (fitT p (p ++ a))) ∧ Below w.heap.size w w') := fun W b => HF.out (p ++ a) (by omega) W b
            have M1 : Hid (∀ W, Below w.heap.size w W → Calls Try.prog 8 #[.slice (some ⟨W.heap.size, 0, none⟩) 1 1, .string (tgtT p a q)] (W.alloc (.cells #[.string p, .string ⟨#[]⟩, .string ⟨#[]⟩] 26)) fun e w' => e = .returned (.int .i64 0) ∧ Below w.heap.size w w') := fun W b => HMt.out (tgtT p a q) (by rw [tgtT_size]; omega) hf1 _ (b.alloc b.size _) _ (tblk_new _ _)
            have hwJ : wrap64 (wrap64 ((J.size : Int) - (q.size : Int)) - 1) = (jn : Int) := by unfold wrap64; omega
            have hX : (∀ b ∈ a.data.toList, b ≠ 63) → fitT p (p ++ a) = true → ∃ X, rewB p p (p ++ a) = (X, true) ∧ (p.data.toList.getLast? = some 47 → a.data.toList.head? = some 47 → X = p ++ a.extract 1 a.size) ∧ (¬ (p.data.toList.getLast? = some 47 ∧ a.data.toList.head? = some 47) → X = p ++ a) := fun h1 h2 => sw_same hqp h1 hp1 (by omega) h2
            have HX : Hid ((∀ b ∈ a.data.toList, b ≠ 63) → fitT p (p ++ a) = true → ∃ X, rewB p p (p ++ a) = (X, true) ∧ (p.data.toList.getLast? = some 47 → a.data.toList.head? = some 47 → X = p ++ a.extract 1 a.size) ∧ (¬ (p.data.toList.getLast? = some 47 ∧ a.data.toList.head? = some 47) → X = p ++ a)) := hX
            have HN : Hid (fitT p (p ++ a) = false → rewB p p (p ++ a) = (⟨#[]⟩, false)) := fun h => rew_no h
            have hJ9 : decide (J.size < s.size) = false := decide_eq_false (by omega)
            have hasz : Hid (a.size ≤ 300) := by rw [Hid]; omega
            obtain ⟨m, hm⟩ : ∃ m : Nat, m = p.size - 1 := ⟨_, rfl⟩
            have hix2 : m < p.size := by omega
            have hw : wrap64 ((p.size : Int) - 1) = (m : Int) := by unfold wrap64; omega
            have hls : Hid ((p.data.toList.getLast? = some 47) ↔ ((p[m]'hix2).toNat : Int) = 47) := jr_ends hm hp0 hix2
            rw [← hT] at c4
            clear y1 y2 z1 z2 z3 z4 z5 z6 hT hf1 hJ1 hJ2 hJ3 hJ7 hX HF HR HMt hQ hk hl hl' hp1 hs1 hqp hm
            generalize tgtT p a q = T at *
            generalize rewB p p (p ++ a) = R at *
            generalize fitT p (p ++ a) = FF at *
            generalize p ++ (⟨#[47]⟩ : ByteArray) = x1 at *
            generalize x1 ++ a = x2 at *
            generalize x2 ++ (⟨#[63]⟩ : ByteArray) = x3 at *
            generalize p ++ a.extract 1 a.size = pa1 at *
            generalize p ++ a = pa at *
            generalize (⟨#[63]⟩ : ByteArray) ++ q = qq at *
            go_wp2_with fail
            go_loop [12] (fun i => ∃ k : Nat, k ≤ a.size ∧ i = .int .i64 k ∧ Hid (∀ (j : Nat) (hj : j < a.size), j < k → (a[j].toNat : Int) ≠ 63)) (fun i => a.size - (intOf i).toNat)
            case atStart => exact ⟨0, Nat.zero_le _, rfl, fun j _ h => absurd h (Nat.not_lt_zero _)⟩
            case round =>
              obtain ⟨k2, hk2, rfl, hQa⟩ := hrel
              by_cases hlta : k2 < a.size
              · have hak := hasz.out
                by_cases h63 : (a[k2].toNat : Int) = 63
                · have h63' : ((a[k2].toNat : Int) == 63) = true := by simp [h63]
                  clear h63
                  go_wp2
                  go_ret
                  exact ⟨rfl, B1⟩
                · have h63' : ((a[k2].toNat : Int) == 63) = false := by simp [h63]
                  have hQ2 : Hid (∀ (j : Nat) (hj : j < a.size), j < k2 + 1 → (a[j].toNat : Int) ≠ 63) := fun j hj hjk => by
                    rcases Nat.lt_or_ge j k2 with g | g
                    · exact hQa.out j hj g
                    · have : j = k2 := by omega
                      subst this; exact h63
                  clear h63
                  go_wp2
                  go_round
                  case rel => exact ⟨k2 + 1, by omega, by go_num, hQ2⟩
                  case measure => simp [intOf]; omega
              · have hqa : ∀ b ∈ a.data.toList, b ≠ 63 := no_q fun j hj => hQa.out j hj (by omega)
                have HX2 := HX.out hqa
                clear HX hQa hqa hk2
                cases FF
                · obtain rfl := HN.out rfl
                  clear HN HX2 hls
                  go_wp2_with fail
                  refine (R1.out _ B1).mono ?_
                  rintro e w3 ⟨rfl, B3⟩
                  go_wp2_with fail
                  refine (R2.out _ B3).mono ?_
                  rintro e w4 ⟨rfl, B4⟩
                  clear R1 R2
                  go_wp2_with fail
                  refine (F2.out _ B4).mono ?_
                  rintro e w5 ⟨rfl, B5⟩
                  go_wp2_with fail
                  refine (F1.out _ B5).mono ?_
                  rintro e w6 ⟨rfl, B6⟩
                  go_wp2_with fail
                  refine (M1.out _ B6).mono ?_
                  rintro e w7 ⟨rfl, B7⟩
                  go_wp2
                  go_ret
                  exact ⟨rfl, B7⟩
                · obtain ⟨X, rfl, hX1, hX2⟩ := HX2 rfl
                  clear HN HX2
                  go_wp2_with fail
                  refine (R1.out _ B1).mono ?_
                  rintro e w3 ⟨rfl, B3⟩
                  go_wp2_with fail
                  refine (R2.out _ B3).mono ?_
                  rintro e w4 ⟨rfl, B4⟩
                  clear R1 R2
                  go_wp2_with fail
                  refine (F2.out _ B4).mono ?_
                  rintro e w5 ⟨rfl, B5⟩
                  clear F2 B3 B4
                  by_cases h47 : ((p[m]'hix2).toNat : Int) = 47
                  · have h47' : (((p[m]'hix2).toNat : Int) == 47) = true := by simp [h47]
                    have hX1' := hX1 (hls.out.2 h47)
                    rcases Nat.eq_zero_or_pos a.size with ha0 | ha0
                    · obtain rfl := hX2 (fun k => by rw [empty_of ha0] at k; cases k.2)
                      have ha0' : decide (0 < a.size) = false := decide_eq_false (by omega)
                      clear hX1 hX2 hX1' hls h47 ha0
                      go_wp2_with fail
                      refine (F1.out _ B5).mono ?_
                      rintro e w6 ⟨rfl, B6⟩
                      go_wp2_with fail
                      refine (M1.out _ B6).mono ?_
                      rintro e w7 ⟨rfl, B7⟩
                      go_wp2
                      go_ret
                      exact ⟨rfl, B7⟩
                    · have ha0' : decide (0 < a.size) = true := decide_eq_true ha0
                      by_cases h4 : ((a[0]'ha0).toNat : Int) = 47
                      · obtain rfl := hX1' (by rw [hd_eq a ha0]; exact (u8_iff _ 47 (by decide)).2 h4)
                        have h4' : (((a[0]'ha0).toNat : Int) == 47) = true := by simp [h4]
                        clear hX1 hX2 hX1' hls h47 h4
                        go_wp2_with fail
                        refine (F1.out _ B5).mono ?_
                        rintro e w6 ⟨rfl, B6⟩
                        go_wp2_with fail
                        refine (M1.out _ B6).mono ?_
                        rintro e w7 ⟨rfl, B7⟩
                        go_wp2
                        go_ret
                        exact ⟨rfl, B7⟩
                      · obtain rfl := hX2 (fun k => h4 (by have k2 := k.2; rw [hd_eq a ha0] at k2; exact (u8_iff _ 47 (by decide)).1 k2))
                        have h4' : (((a[0]'ha0).toNat : Int) == 47) = false := by simp [h4]
                        clear hX1 hX2 hX1' hls h47 h4
                        go_wp2_with fail
                        refine (F1.out _ B5).mono ?_
                        rintro e w6 ⟨rfl, B6⟩
                        go_wp2_with fail
                        refine (M1.out _ B6).mono ?_
                        rintro e w7 ⟨rfl, B7⟩
                        go_wp2
                        go_ret
                        exact ⟨rfl, B7⟩
                  · have h47' : (((p[m]'hix2).toNat : Int) == 47) = false := by simp [h47]
                    obtain rfl := hX2 (fun k => h47 (hls.out.1 k.1))
                    clear hX1 hX2 hls h47
                    go_wp2_with fail
                    refine (F1.out _ B5).mono ?_
                    rintro e w6 ⟨rfl, B6⟩
                    go_wp2_with fail
                    refine (M1.out _ B6).mono ?_
                    rintro e w7 ⟨rfl, B7⟩
                    go_wp2
                    go_ret
                    exact ⟨rfl, B7⟩
      · have hl' : decide ((300 : Int) < (a.size : Int) + (q.size : Int)) = true := decide_eq_true (by omega)
        clear hM
        go_enter Try.func5, Try.ntmps5
        go_wp2_with fail
        refine HA.out.mono ?_
        rintro e w1 ⟨rfl, B1⟩
        go_wp2_with fail
        refine (HP.out _).mono ?_
        rintro e w2 ⟨rfl, rfl⟩
        go_wp2_with fail
        refine (HS.out _).mono ?_
        rintro e w2 ⟨rfl, rfl⟩
        go_wp2
        go_ret
        exact ⟨rfl, B1⟩
end Go.Proofs.Ytjfcoihfjjcooaa
