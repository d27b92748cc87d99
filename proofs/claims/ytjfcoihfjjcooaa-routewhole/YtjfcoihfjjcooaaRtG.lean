/- RouteWhole: the walk. -/
import Derived.Test.YtjfcoihfjjcooaaRtF
import Derived.Laws.IdiomStrings
namespace Go.Proofs.Ytjfcoihfjjcooaa
open Go.RowKit
set_option linter.unusedVariables false

theorem rt_conv1 (W : World) (x : Int) (b : UInt8) (h : (b.toNat : Int) = x) : (convert 33 9 (.slice (some ⟨W.heap.size, 0, none⟩) 1 1)).run Try.prog (W.alloc (.cells #[.int .u8 x] 5)) = .ok (.string ⟨#[b]⟩) (W.alloc (.cells #[.int .u8 x] 5)) := by
  have k := run_convert_bytes_back (P := Try.prog) (W.alloc (.cells #[.int .u8 x] 5)) 33 9 5 ⟨W.heap.size, 0, none⟩ 1 [b] Try.underlying33 Try.underlying5 Try.underlying9 (fun j hj => by
    obtain rfl : j = 0 := by simpa using hj
    rw [Lib.add_plain]
    exact tblk_cell (tblk_new _ _) (by simp [h]))
  exact k
theorem rt_u8 {n : Int} (h : (Lit.int .u8 n).wf = true) : 0 ≤ n ∧ n < 256 := by
  simp [Lit.wf, IntKind.min, IntKind.max, IntKind.signed, IntKind.bits] at h
  omega
theorem rt_sizes (a b : ByteArray) : (a ++ b).size = a.size + b.size := ByteArray.size_append

set_option maxRecDepth 100000 in
set_option maxHeartbeats 4000000 in
theorem whole_walk (p t : ByteArray) (c : Int) (w : World) (hc : 0 ≤ c ∧ c < 256) (hp : p.size ≤ maxLen) (ht : t.size ≤ maxLen) (hM : MaxL w) :
    Calls Try.prog 6 #[.string p, .string t, .int .u8 c] w fun e w' => e = .returned (.bool true) ∧ Below w.heap.size w w' := by
  have HA : Hid (Calls Try.prog 7 #[] w fun e w' => e = .returned (.bool true) ∧ Below w.heap.size w w') := alive11_any w hM
  have HT : Hid (∀ W, Calls Try.prog 15 #[.string p] W fun e w' => e = .returned (.bool (tgB p)) ∧ w' = W) := fun W => rtgt_any p W hp
  have hpos := tgB_pos (s := p)
  unfold maxLen at hp ht
  generalize tgB p = T at *
  cases T
  · clear hpos hM
    go_enter Try.func6, Try.ntmps6
    go_wp2_with fail
    refine HA.out.mono ?_
    rintro e w1 ⟨rfl, B1⟩
    go_wp2_with fail
    refine (HT.out _).mono ?_
    rintro e w2 ⟨rfl, rfl⟩
    go_wp2
    go_ret
    exact ⟨rfl, B1⟩
  · have h0 : 0 < p.size := hpos rfl
    clear hpos
    by_cases hs : (p[0].toNat : Int) = 47
    · have hs' : ((p[0].toNat : Int) != 47) = false := by simp [hs]
      clear hs
      by_cases hl : p.size ≤ 100
      · have hl' : decide (100 < (p.size : Int)) = false := decide_eq_false (by omega)
        by_cases htl : t.size ≤ 200
        · have htl' : decide (200 < (t.size : Int)) = false := decide_eq_false (by omega)
          have HF : Hid (∀ x : ByteArray, x.size ≤ 4000 → ∀ W, Below w.heap.size w W → Calls Try.prog 12 #[.string p, .string x] W fun e w' => e = .returned (.bool (fitT p x)) ∧ Below w.heap.size w w') := fun x hx W b => (fits_any p x W (by omega) (by unfold maxLen; omega) (hM.below b)).mono fun e w' z => ⟨z.1, b.trans (z.2.mono b.size)⟩
          have HR : Hid (∀ W, Below w.heap.size w W → Calls Try.prog 10 #[.agg #[.string p, .string ⟨#[]⟩, .string ⟨#[47, 110]⟩], .string p] W fun e w' => e = .returned (.tuple #[.string (rewB p ⟨#[47, 110]⟩ p).1, .bool (rewB p ⟨#[47, 110]⟩ p).2]) ∧ Below w.heap.size w w') := fun W b => (rewrite_any p _ _ p W (by omega) (by unfold maxLen; omega) (by decide) (hM.below b)).mono fun e w' z => ⟨z.1, b.trans (z.2.mono b.size)⟩
          obtain ⟨cb, hcb⟩ : ∃ cb : UInt8, (cb.toNat : Int) = c := ⟨UInt8.ofNat c.toNat, by simp; omega⟩
          clear hM hp ht
          go_enter Try.func6, Try.ntmps6
          go_wp2_with fail
          refine HA.out.mono ?_
          rintro e w1 ⟨rfl, B1⟩
          go_wp2_with fail
          refine (HT.out _).mono ?_
          rintro e w2 ⟨rfl, rfl⟩
          clear HA HT
          go_wp2_with fail
          go_loop [7] (fun i => ∃ k : Nat, k ≤ p.size ∧ i = .int .i64 k ∧ Hid (∀ (j : Nat) (hj : j < p.size), j < k → (p[j].toNat : Int) ≠ 63)) (fun i => p.size - (intOf i).toNat)
          case atStart => exact ⟨0, Nat.zero_le _, rfl, fun j _ h => absurd h (Nat.not_lt_zero _)⟩
          case round =>
            obtain ⟨k, hk, rfl, hQ⟩ := hrel
            by_cases hlt : k < p.size
            · by_cases h63 : (p[k].toNat : Int) = 63
              · have h63' : ((p[k].toNat : Int) == 63) = true := by simp [h63]
                clear h63
                go_wp2
                go_ret
                exact ⟨rfl, B1⟩
              · have h63' : ((p[k].toNat : Int) == 63) = false := by simp [h63]
                have hQ2 : Hid (∀ (j : Nat) (hj : j < p.size), j < k + 1 → (p[j].toNat : Int) ≠ 63) := fun j hj hjk => by
                  rcases Nat.lt_or_ge j k with g | g
                  · exact hQ.out j hj g
                  · have : j = k := by omega
                    subst this; exact h63
                clear h63
                go_wp2
                go_round
                case rel => exact ⟨k + 1, by omega, by go_num, hQ2⟩
                case measure => simp [intOf]; omega
            · have hq : ∀ b ∈ p.data.toList, b ≠ 63 := no_q fun j hj => hQ.out j hj (by omega)
              obtain ⟨m, hm⟩ : ∃ m : Nat, m = p.size - 1 := ⟨_, rfl⟩
              have hix2 : m < p.size := by omega
              have hw : wrap64 ((p.size : Int) - 1) = (m : Int) := by unfold wrap64; omega
              have f1 : fitT p p = true := fit_self _ hq
              have f2 : fitT p (p ++ ⟨#[63]⟩ ++ t) = true := (fitT_app p ⟨#[63]⟩ t [63] rfl).trans (fit_q _ _ hq)
              have f3 : fitT p (p ++ ⟨#[47]⟩ ++ t) = true := (fitT_app p ⟨#[47]⟩ t [47] rfl).trans (fit_s _ _ hq)
              have f4 : fitT p (p.extract 0 m) = false := fit_less _ _ (by rw [rt_len, rt_len, ByteArray.size_extract]; omega)
              have f5 : c ≠ 47 → c ≠ 63 → fitT p (p ++ ⟨#[cb]⟩ ++ t) = (((p[m]'hix2).toNat : Int) == 47) := fun h1 h2 => by
                rw [fitT_app p ⟨#[cb]⟩ t [cb] rfl, List.singleton_append, fit_c _ _ _ hq (fun e => h1 (by rw [← hcb, e]; rfl)) (fun e => h2 (by rw [← hcb, e]; rfl)), last_eq p h0]
                subst hm
                exact u8_eq _ 47 (by decide)
              have f6 : rewB p ⟨#[47, 110]⟩ p = (⟨#[47, 110]⟩, true) := by
                unfold rewB
                have k := rew_self p.data.toList hq
                have e : (⟨#[47, 110]⟩ : ByteArray).data.toList = [47, 110] := rfl
                rw [e, k]
              have z1 := rt_sizes p ⟨#[63]⟩
              have z2 := rt_sizes (p ++ (⟨#[63]⟩ : ByteArray)) t
              have z3 := rt_sizes p ⟨#[47]⟩
              have z4 := rt_sizes (p ++ (⟨#[47]⟩ : ByteArray)) t
              have z5 := rt_sizes p ⟨#[cb]⟩
              have z6 := rt_sizes (p ++ (⟨#[cb]⟩ : ByteArray)) t
              have y1 : (⟨#[63]⟩ : ByteArray).size = 1 := rfl
              have y2 : (⟨#[47]⟩ : ByteArray).size = 1 := rfl
              have y3 : (⟨#[cb]⟩ : ByteArray).size = 1 := rfl
              have H1 : Hid (∀ W, Below w.heap.size w W → Calls Try.prog 12 #[.string p, .string p] W fun e w' => e = .returned (.bool true) ∧ Below w.heap.size w w') := fun W b => by have k := HF.out p (by omega) W b; rwa [f1] at k
              have H2 : Hid (∀ W, Below w.heap.size w W → Calls Try.prog 12 #[.string p, .string (p ++ ⟨#[63]⟩ ++ t)] W fun e w' => e = .returned (.bool true) ∧ Below w.heap.size w w') := fun W b => by have k := HF.out (p ++ ⟨#[63]⟩ ++ t) (by omega) W b; rwa [f2] at k
              have H3 : Hid (∀ W, Below w.heap.size w W → Calls Try.prog 12 #[.string p, .string (p ++ ⟨#[47]⟩ ++ t)] W fun e w' => e = .returned (.bool true) ∧ Below w.heap.size w w') := fun W b => by have k := HF.out (p ++ ⟨#[47]⟩ ++ t) (by omega) W b; rwa [f3] at k
              have H4 : Hid (∀ W, Below w.heap.size w W → Calls Try.prog 12 #[.string p, .string (p.extract 0 m)] W fun e w' => e = .returned (.bool false) ∧ Below w.heap.size w w') := fun W b => by have k := HF.out (p.extract 0 m) (by rw [ByteArray.size_extract]; omega) W b; rwa [f4] at k
              have H5 : Hid (c ≠ 47 → c ≠ 63 → ∀ W, Below w.heap.size w W → Calls Try.prog 12 #[.string p, .string (p ++ ⟨#[cb]⟩ ++ t)] W fun e w' => e = .returned (.bool (((p[m]'hix2).toNat : Int) == 47)) ∧ Below w.heap.size w w') := fun h1 h2 W b => by have k := HF.out (p ++ ⟨#[cb]⟩ ++ t) (by omega) W b; rwa [f5 h1 h2] at k
              rw [f6] at HR
              have c1 := fun W : World => rt_cat (P := Try.prog) p ⟨#[63]⟩ (by omega) W
              have c2 := fun W : World => rt_cat (P := Try.prog) (p ++ ⟨#[63]⟩) t (by omega) W
              have c3 := fun W : World => rt_cat (P := Try.prog) p ⟨#[47]⟩ (by omega) W
              have c4 := fun W : World => rt_cat (P := Try.prog) (p ++ ⟨#[47]⟩) t (by omega) W
              have c5 := fun W : World => rt_cat (P := Try.prog) p ⟨#[cb]⟩ (by omega) W
              have c6 := fun W : World => rt_cat (P := Try.prog) (p ++ ⟨#[cb]⟩) t (by omega) W
              have HCB : Hid ((cb.toNat : Int) = c) := hcb
              clear f1 f2 f3 f4 f5 f6 z1 z2 z3 z4 z5 z6 y1 y2 y3 HF hq hQ hcb hk htl hl hc hm
              generalize p ++ (⟨#[63]⟩ : ByteArray) = x1 at *
              generalize p ++ (⟨#[47]⟩ : ByteArray) = x3 at *
              generalize p ++ (⟨#[cb]⟩ : ByteArray) = x5 at *
              generalize x1 ++ t = x2 at *
              generalize x3 ++ t = x4 at *
              generalize x5 ++ t = x6 at *
              go_wp2_with fail
              refine (H1.out _ B1).mono ?_
              rintro e w3 ⟨rfl, B3⟩
              go_wp2_with fail
              refine (H2.out _ B3).mono ?_
              rintro e w4 ⟨rfl, B4⟩
              go_wp2_with fail
              refine (H3.out _ B4).mono ?_
              rintro e w5 ⟨rfl, B5⟩
              go_wp2_with fail
              refine (H4.out _ B5).mono ?_
              rintro e w6 ⟨rfl, B6⟩
              clear H1 H2 H3 H4 c1 c2 c3 c4 B1 B3 B4 B5
              by_cases h47 : c = 47
              · have h47' : (c == 47) = true := by simp [h47]
                clear h47 H5 c5 c6
                go_wp2
                go_ret
                exact ⟨rfl, B6⟩
              · have h47' : (c == 47) = false := by simp [h47]
                by_cases h63 : c = 63
                · have h63' : (c == 63) = true := by simp [h63]
                  clear h47 H5 c5 c6 h63
                  go_wp2
                  go_ret
                  exact ⟨rfl, B6⟩
                · have h63' : (c == 63) = false := by simp [h63]
                  have H6 : Hid (∀ W, Below w.heap.size w W → Calls Try.prog 12 #[.string p, .string x6] W fun e w' => e = .returned (.bool (((p[m]'hix2).toNat : Int) == 47)) ∧ Below w.heap.size w w') := H5.out h47 h63
                  clear h47 h63 H5
                  go_wp2_with fail
                  refine (HR.out _ B6).mono ?_
                  rintro e w7 ⟨rfl, B7⟩
                  have hcv := rt_conv1 w7 c cb HCB.out
                  go_wp2_with fail
                  refine (H6.out _ (B7.alloc B7.size _)).mono ?_
                  rintro e w8 ⟨rfl, B8⟩
                  go_wp2
                  go_ret
                  exact ⟨rfl, B8⟩
        · have htl' : decide (200 < (t.size : Int)) = true := decide_eq_true (by omega)
          clear hM
          go_enter Try.func6, Try.ntmps6
          go_wp2_with fail
          refine HA.out.mono ?_
          rintro e w1 ⟨rfl, B1⟩
          go_wp2_with fail
          refine (HT.out _).mono ?_
          rintro e w2 ⟨rfl, rfl⟩
          go_wp2
          go_ret
          exact ⟨rfl, B1⟩
      · have hl' : decide (100 < (p.size : Int)) = true := decide_eq_true (by omega)
        clear hM
        go_enter Try.func6, Try.ntmps6
        go_wp2_with fail
        refine HA.out.mono ?_
        rintro e w1 ⟨rfl, B1⟩
        go_wp2_with fail
        refine (HT.out _).mono ?_
        rintro e w2 ⟨rfl, rfl⟩
        go_wp2
        go_ret
        exact ⟨rfl, B1⟩
    · have hs' : ((p[0].toNat : Int) != 47) = true := by simp [hs]
      clear hs hM
      go_enter Try.func6, Try.ntmps6
      go_wp2_with fail
      refine HA.out.mono ?_
      rintro e w1 ⟨rfl, B1⟩
      go_wp2_with fail
      refine (HT.out _).mono ?_
      rintro e w2 ⟨rfl, rfl⟩
      go_wp2
      go_ret
      exact ⟨rfl, B1⟩
end Go.Proofs.Ytjfcoihfjjcooaa
