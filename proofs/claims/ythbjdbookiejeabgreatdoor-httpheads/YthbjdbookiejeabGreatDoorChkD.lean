/- Trailer lines. -/
import Derived.Test.YthbjdbookiejeabGreatDoorChkC
namespace Go.Proofs.YthbjdbookiejeabGreatDoor
open Go.RowKit
set_option linter.unusedVariables false

theorem trailL_ok : ∀ (r : Nat) (l : List UInt8), (trailL r l).1 ≠ 0 → (trailL r l).2 = 0 := by
  intro r
  induction r with
  | zero =>
    intro l h
    rcases cut_cases 256 l with ⟨i, hc, _, _⟩ | ⟨e, hc⟩
    · by_cases hi : i = 0
      · subst hi; rw [trailL_end hc]
      · cases hf : fldOk (l.take i)
        · rw [trailL_bad hc hi hf] at h; exact absurd rfl h
        · rw [trailL_many hc hi hf] at h; exact absurd rfl h
    · rw [trailL_miss hc] at h; exact absurd rfl h
  | succ r ih =>
    intro l h
    rcases cut_cases 256 l with ⟨i, hc, _, _⟩ | ⟨e, hc⟩
    · by_cases hi : i = 0
      · subst hi; rw [trailL_end hc]
      · cases hf : fldOk (l.take i)
        · rw [trailL_bad hc hi hf] at h; exact absurd rfl h
        · rw [trailL_next hc hi hf] at h ⊢
          unfold plusN at h ⊢
          by_cases h0 : (trailL r (l.drop (i + 2))).1 = 0
          · rw [if_pos h0] at h; exact absurd rfl h
          · rw [if_neg h0]
    · rw [trailL_miss hc] at h; exact absurd rfl h
theorem plusN_zero (r : Nat × Int) (h : r.1 ≠ 0 → r.2 = 0) : plusN 0 r = r := by
  unfold plusN
  obtain ⟨a, b⟩ := r
  by_cases h0 : a = 0
  · rw [if_pos h0]; rw [show a = 0 from h0]
  · rw [if_neg h0]; have h2 : b = 0 := h h0; rw [h2]; show (0 + a, (0 : Int)) = (a, 0); rw [Nat.zero_add]
theorem plusN_err (i : Nat) (e : Int) : plusN i (0, e) = (0, e) := rfl
theorem plusN_two (i : Nat) : plusN i (2, 0) = (i + 2, 0) := rfl
theorem prs_code (s : ByteArray) : (prs s).2.2 = 0 ∨ (prs s).2.2 = 20 := by
  unfold prs
  split
  · exact .inl rfl
  · exact .inr rfl

set_option maxRecDepth 100000 in
set_option maxHeartbeats 8000000 in
theorem trailer_any (b : List UInt8) (kb : Nat) (v : Value) (w : World) (hs : Src w kb v b) (hk : 0 < b.length → kb < w.heap.size) (hM : MaxL w) :
    Calls Tryz.prog 102 #[v] w fun e w' => e = .returned (.tuple #[.int .i64 ((trailL 40 b).1 : Nat), .int .i64 (trailL 40 b).2]) ∧ Below w.heap.size w w' := by
  have HS : Hid (Src w kb v b) := hs
  obtain ⟨a, c, rfl, h1, h2, h3⟩ := hs
  obtain ⟨n, hn⟩ : ∃ n, n = b.length := ⟨_, rfl⟩
  rw [← hn] at HS ⊢
  have HN : Hid (n = b.length) := hn
  have HK : Hid (0 < b.length → kb < w.heap.size) := hk
  rw [← hn] at h1
  unfold maxLen at h2
  have HM : Hid (MaxL w) := hM
  have HP0 : Hid (trailL 40 b = plusN 0 (trailL 40 (b.drop 0))) := (plusN_zero _ (trailL_ok 40 b)).symm
  generalize trailL 40 b = R at *
  clear hn h3 hk hM
  go_enter Tryz.func102, Tryz.ntmps102
  go_wp2_with fail
  go_loopw [4, 5] (fun va vc wr => ∃ at_ r q : Nat, at_ ≤ n ∧ q + r = 40 ∧ va = .int .i64 at_ ∧ vc = .int .i64 q ∧ Hid (R = plusN at_ (trailL r (b.drop at_))) ∧ Below w.heap.size w wr) (fun _ vc _ => 40 - (intOf vc).toNat)
  case atStart => exact ⟨0, 40, 0, Nat.zero_le _, rfl, rfl, rfl, HP0, Below.refl _ _⟩
  case round =>
    obtain ⟨at_, r, q, hat, hr, rfl, rfl, hR, hB⟩ := hrel
    clear HP0
    have HSA : Hid (∀ a' : Option Addr, (at_ < c → a' = a.map (fun x => x.add at_)) → Src wr kb (.slice a' (n - at_) (c - at_)) (b.drop at_)) := fun a' ha' => (HS.out.keep HK.out hB).cut (by have := HN.out; omega) ha'
    have HCU : Hid (∀ v', Src wr kb v' (b.drop at_) → Calls Tryz.prog 97 #[v', .int .i64 256] wr fun e w' => e = .returned (cutV 256 (b.drop at_)) ∧ w' = wr) := fun v' h => cut_any _ kb _ 256 wr h
    rcases cut_cases 256 (b.drop at_) with ⟨i, hcut, hil, _⟩ | ⟨er, hcut⟩
    · have hle : i ≤ 256 := cutAt_le 256 _ 0 i 0 (by decide) hcut
      rw [cutV_hit hcut] at HCU
      have hin : at_ + i + 2 ≤ n := by rw [List.length_drop] at hil; have := HN.out; omega
      by_cases hi : i = 0
      · subst hi
        have HE : Hid (R = (at_ + 2, 0)) := by rw [Hid, hR.out, trailL_end hcut, plusN_two]
        rw [List.take_zero] at HCU
        clear hcut hR hil
        go_wp2_with fail
        all_goals
          refine (HCU.out _ (by first | exact HSA.out _ (fun _ => rfl) | exact HSA.out _ (fun h => if_neg (by omega)) | exact HSA.out _ (fun h => by omega) | (have hx := HSA.out a (fun h => by omega); rw [show c - at_ = 0 by omega] at hx; exact hx))).mono ?_
          rintro e w1 ⟨rfl, rfl⟩
          go_wp2
          go_ret2
          exact ⟨by rw [HE.out]; go_num, hB⟩
      · have hT : Hid (∀ W, MaxL W → Calls Tryz.prog 42 #[.string ⟨((b.drop at_).take i).toArray⟩] W fun e w' => e = .returned (.tuple #[.agg #[.string (prs (tx ((b.drop at_).take i))).1, .string (prs (tx ((b.drop at_).take i))).2.1], .int .i64 (prs (tx ((b.drop at_).take i))).2.2]) ∧ Below W.heap.size W w') := fun W h => parse_any (tx ((b.drop at_).take i)) W (by rw [tx_size, List.length_take]; omega) h
        have hne : (⟨((b.drop at_).take i).toArray⟩ : ByteArray).toList.isEmpty = false := isEmpty_of (by show ¬ ((b.drop at_).take i).length = 0; rw [List.length_take]; omega)
        have hfd : fldOk ((b.drop at_).take i) = decide ((prs (tx ((b.drop at_).take i))).2.2 = 0) := rfl
        have hcode := prs_code (tx ((b.drop at_).take i))
        generalize prs (tx ((b.drop at_).take i)) = pq at *
        generalize (⟨((b.drop at_).take i).toArray⟩ : ByteArray) = T at *
        obtain ⟨q1, q2, q3⟩ := pq
        simp only at hT hfd hcode
        have hnz : ((i : Int) + 2 == 0) = false := by simp; omega
        have hM1 : Hid (MaxL wr) := HM.out.below hB
        rcases hcode with rfl | rfl
        · have hok : fldOk ((b.drop at_).take i) = true := by rw [hfd]; rfl
          clear hfd hil
          cases r with
          | zero =>
            have HE : Hid (R = (0, 3)) := by rw [Hid, hR.out, trailL_many hcut hi hok, plusN_err]
            obtain rfl : q = 40 := by omega
            clear hcut hR hok
            go_wp2_with fail
            all_goals
              refine (HCU.out _ (by first | exact HSA.out _ (fun _ => rfl) | exact HSA.out _ (fun h => if_neg (by omega)) | exact HSA.out _ (fun h => by omega) | (have hx := HSA.out a (fun h => by omega); rw [show c - at_ = 0 by omega] at hx; exact hx))).mono ?_
              rintro e w1 ⟨rfl, rfl⟩
              go_wp2_with fail
              refine (hT.out _ hM1.out).mono ?_
              rintro e w2 ⟨rfl, B2⟩
              have C2 := hB.trans (B2.mono hB.size)
              have C3 := C2.alloc C2.size (.cells #[.string q1, .string q2] 53)
              go_wp2
              go_ret2
              exact ⟨by rw [HE.out]; rfl, C3⟩
          | succ r =>
            have HE : Hid (R = plusN (at_ + i + 2) (trailL r (b.drop (at_ + i + 2)))) := by
              rw [Hid, hR.out, trailL_next hcut hi hok, plusN_plusN _ _ _ (by omega), List.drop_drop, ← Nat.add_assoc]
            have hq : ((q : Int) == 40) = false := by simp; omega
            have hq' : ¬ ((q : Int) = 40) := by omega
            clear hcut hR hok
            go_wp2_with fail
            all_goals
              refine (HCU.out _ (by first | exact HSA.out _ (fun _ => rfl) | exact HSA.out _ (fun h => if_neg (by omega)) | exact HSA.out _ (fun h => by omega) | (have hx := HSA.out a (fun h => by omega); rw [show c - at_ = 0 by omega] at hx; exact hx))).mono ?_
              rintro e w1 ⟨rfl, rfl⟩
              go_wp2_with fail
              refine (hT.out _ hM1.out).mono ?_
              rintro e w2 ⟨rfl, B2⟩
              have C2 := hB.trans (B2.mono hB.size)
              have C3 := C2.alloc C2.size (.cells #[.string q1, .string q2] 53)
              go_wp2
              go_roundw
              case rel => exact ⟨at_ + i + 2, r, q + 1, by omega, by omega, by go_num, by go_num, HE, C3⟩
              case measure => simp [intOf]; omega
        · have HE : Hid (R = (0, 20)) := by rw [Hid, hR.out, trailL_bad hcut hi (by rw [hfd]; rfl), plusN_err]
          clear hcut hR hil hfd
          go_wp2_with fail
          all_goals
            refine (HCU.out _ (by first | exact HSA.out _ (fun _ => rfl) | exact HSA.out _ (fun h => if_neg (by omega)) | exact HSA.out _ (fun h => by omega) | (have hx := HSA.out a (fun h => by omega); rw [show c - at_ = 0 by omega] at hx; exact hx))).mono ?_
            rintro e w1 ⟨rfl, rfl⟩
            go_wp2_with fail
            refine (hT.out _ hM1.out).mono ?_
            rintro e w2 ⟨rfl, B2⟩
            have C2 := hB.trans (B2.mono hB.size)
            have C3 := C2.alloc C2.size (.cells #[.string q1, .string q2] 53)
            go_wp2
            go_ret2
            exact ⟨by rw [HE.out]; rfl, C3⟩
    · rw [cutV_miss hcut] at HCU
      have HE : Hid (R = (0, er)) := by rw [Hid, hR.out, trailL_miss hcut, plusN_err]
      clear hcut hR
      by_cases h0 : er = 0
      · subst h0
        go_wp2_with fail
        all_goals
          refine (HCU.out _ (by first | exact HSA.out _ (fun _ => rfl) | exact HSA.out _ (fun h => if_neg (by omega)) | exact HSA.out _ (fun h => by omega) | (have hx := HSA.out a (fun h => by omega); rw [show c - at_ = 0 by omega] at hx; exact hx))).mono ?_
          rintro e w1 ⟨rfl, rfl⟩
          go_wp2
          go_ret2
          exact ⟨by rw [HE.out]; rfl, hB⟩
      · have h0' : (er != 0) = true := by simpa using h0
        go_wp2_with fail
        all_goals
          refine (HCU.out _ (by first | exact HSA.out _ (fun _ => rfl) | exact HSA.out _ (fun h => if_neg (by omega)) | exact HSA.out _ (fun h => by omega) | (have hx := HSA.out a (fun h => by omega); rw [show c - at_ = 0 by omega] at hx; exact hx))).mono ?_
          rintro e w1 ⟨rfl, rfl⟩
          go_wp2
          go_ret2
          exact ⟨by rw [HE.out]; rfl, hB⟩
end Go.Proofs.YthbjdbookiejeabGreatDoor
