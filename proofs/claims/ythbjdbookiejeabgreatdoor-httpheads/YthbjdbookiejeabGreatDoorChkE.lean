/- Decode. -/
import Derived.Test.YthbjdbookiejeabGreatDoorChkD
namespace Go.Proofs.YthbjdbookiejeabGreatDoor
open Go.RowKit
set_option linter.unusedVariables false

theorem decL_miss {f m : Nat} {l : List UInt8} {e : Int} (h : oneP m l = (e, 0, 0, 0)) : decL (f + 1) m l = ([], 0, e) := by
  rw [decL, h, if_pos rfl]
theorem decL_last {f m n : Nat} {l : List UInt8} (h : oneP m l = (0, n, 0, 0)) (hn : ¬ n = 0) : decL (f + 1) m l = plusD [] n ([], trailL 40 (l.drop n)) := by
  rw [decL, h, if_neg hn, if_pos rfl]
theorem decL_next {f m n o k : Nat} {l : List UInt8} (h : oneP m l = (0, n, o, k)) (hn : ¬ n = 0) (hk : ¬ k = 0) : decL (f + 1) m l = plusD ((l.drop o).take k) n (decL f (m - k) (l.drop n)) := by
  rw [decL, h, if_neg hn, if_neg hk]
theorem trailL_le : ∀ (r : Nat) (l : List UInt8), (trailL r l).1 ≤ l.length := by
  intro r
  induction r with
  | zero =>
    intro l
    rcases cut_cases 256 l with ⟨i, hc, hl, _⟩ | ⟨e, hc⟩
    · by_cases hi : i = 0
      · subst hi; rw [trailL_end hc]; exact hl
      · cases hf : fldOk (l.take i)
        · rw [trailL_bad hc hi hf]; exact Nat.zero_le _
        · rw [trailL_many hc hi hf]; exact Nat.zero_le _
    · rw [trailL_miss hc]; exact Nat.zero_le _
  | succ r ih =>
    intro l
    rcases cut_cases 256 l with ⟨i, hc, hl, _⟩ | ⟨e, hc⟩
    · by_cases hi : i = 0
      · subst hi; rw [trailL_end hc]; exact hl
      · cases hf : fldOk (l.take i)
        · rw [trailL_bad hc hi hf]; exact Nat.zero_le _
        · rw [trailL_next hc hi hf]
          have h := ih (l.drop (i + 2))
          rw [List.length_drop] at h
          unfold plusN
          split
          · exact Nat.zero_le _
          · show i + 2 + _ ≤ _; omega
    · rw [trailL_miss hc]; exact Nat.zero_le _
def okR (r : List UInt8 × Nat × Int) : Prop := (r.2.1 = 0 → r.1 = []) ∧ (r.2.1 ≠ 0 → r.2.2 = 0)
theorem okR_plusD (a : List UInt8) (i : Nat) (r : List UInt8 × Nat × Int) : okR (plusD a i r) := by
  unfold plusD okR
  by_cases h : r.2.1 = 0
  · rw [if_pos h]; exact ⟨fun _ => rfl, fun c => absurd rfl c⟩
  · rw [if_neg h]; exact ⟨fun c => by simp only at c; omega, fun _ => rfl⟩
theorem decL_ok (f m : Nat) (l : List UInt8) : okR (decL f m l) := by
  cases f with
  | zero => exact ⟨fun _ => rfl, fun c => absurd rfl c⟩
  | succ f =>
    rcases oneP_cases m l with ⟨e, h⟩ | ⟨i, h, _⟩ | ⟨i, k, h, hk, _⟩
    · rw [decL_miss h]; exact ⟨fun _ => rfl, fun c => absurd rfl c⟩
    · rw [decL_last h (by omega)]; exact okR_plusD _ _ _
    · rw [decL_next h (by omega) (by omega)]; exact okR_plusD _ _ _
theorem plusD_zero (r : List UInt8 × Nat × Int) (h : okR r) : plusD [] 0 r = r := by
  obtain ⟨a, n, e⟩ := r
  unfold plusD
  by_cases h0 : n = 0
  · rw [if_pos h0]
    have := h.1 h0
    simp only at this
    rw [this, h0]
  · rw [if_neg h0]
    have := h.2 h0
    simp only at this
    rw [this, List.nil_append, Nat.zero_add]
theorem plusD_err (a : List UInt8) (i : Nat) (e : Int) : plusD a i ([], 0, e) = ([], 0, e) := rfl

def DecQ (w : World) (R : List UInt8 × Nat × Int) (e : Ending) (w' : World) : Prop :=
  ∃ v', e = .returned (.tuple #[v', .int .i64 (R.2.1 : Nat), .int .i64 R.2.2]) ∧ Own w.heap.size w' v' R.1 ∧ Below w.heap.size w w'
theorem decq_no {w w' : World} {er : Int} (hB : Below w.heap.size w w') : DecQ w ([], 0, er) (.returned (.tuple #[.slice none 0 0, .int .i64 0, .int .i64 er])) w' :=
  ⟨_, rfl, Own.nil _ _, hB⟩

set_option maxRecDepth 100000 in
set_option maxHeartbeats 8000000 in
theorem decode_any (b : List UInt8) (kb : Nat) (v : Value) (most : Int) (w : World) (hs : Src w kb v b) (hk : 0 < b.length → kb < w.heap.size) (hM : MaxL w) (hlen : b.length ≤ 140737488355328) (hmost : most ≤ 9223372036854775807) :
    Calls Tryz.prog 67 #[v, .int .i64 most] w (DecQ w (decR most.toNat b)) := by
  have HS : Hid (Src w kb v b) := hs
  obtain ⟨a, c, rfl, h1, h2, h3⟩ := hs
  obtain ⟨n, hn⟩ : ∃ n, n = b.length := ⟨_, rfl⟩
  obtain ⟨M, hMM⟩ : ∃ M, M = most.toNat := ⟨_, rfl⟩
  rw [← hn] at HS ⊢
  rw [← hMM]
  have HN : Hid (n = b.length) := hn
  have HMM : Hid (max most 0 = (M : Int)) := by rw [Hid]; omega
  have hM63 : M ≤ 9223372036854775807 := by omega
  have HK : Hid (0 < b.length → kb < w.heap.size) := hk
  have HM : Hid (MaxL w) := hM
  rw [← hn] at h1 hlen
  unfold maxLen at h2
  have HP0 : Hid (decR M b = plusD [] 0 (decL (n + 1) (M - 0) (b.drop 0))) := by
    rw [Hid, HN.out]; exact (plusD_zero _ (decL_ok _ _ _)).symm
  generalize decR M b = R at *
  clear hn hMM h3 hk hM hmost
  have hcan : ∀ (wr : World) (at_ : Nat), at_ ≤ n → Below w.heap.size w wr → ∀ a' : Option Addr, (at_ < c → a' = a.map (fun x => x.add at_)) → Src wr kb (.slice a' (n - at_) (c - at_)) (b.drop at_) := fun wr at_ h1 hB a' ha' => (HS.out.keep HK.out hB).cut (by have := HN.out; omega) ha'
  have HCAN : Hid (∀ (wr : World) (at_ : Nat), at_ ≤ n → Below w.heap.size w wr → ∀ a' : Option Addr, (at_ < c → a' = a.map (fun x => x.add at_)) → Src wr kb (.slice a' (n - at_) (c - at_)) (b.drop at_)) := hcan
  clear hcan
  go_enter Tryz.func67, Tryz.ntmps67
  go_wp2_with fail
  go_loopw [7, 8] (fun v7 va wr => ∃ (at_ f : Nat) (acc : List UInt8), at_ ≤ n ∧ n < at_ + f ∧ acc.length ≤ at_ ∧ acc.length ≤ M ∧ va = .int .i64 at_ ∧ Own w.heap.size wr v7 acc ∧ Hid (R = plusD acc at_ (decL f (M - acc.length) (b.drop at_))) ∧ Below w.heap.size w wr) (fun _ va _ => n - (intOf va).toNat)
  case atStart => exact ⟨0, n + 1, [], Nat.zero_le _, by omega, Nat.le_refl _, Nat.zero_le _, rfl, Own.nil _ _, HP0, Below.refl _ _⟩
  case round =>
    obtain ⟨at_, f, acc, hat, hf, hacc, haM, rfl, hO, hR, hB⟩ := hrel
    clear HP0
    obtain ⟨f, rfl⟩ : ∃ f', f = f' + 1 := ⟨f - 1, by omega⟩
    obtain ⟨a7, c7, rfl, hn7⟩ := hO.form
    have hmm : max most 0 - (acc.length : Int) = ((M - acc.length : Nat) : Int) := by have := HMM.out; omega
    have hkw : Hid (0 < (b.drop at_).length → kb < wr.heap.size) := fun q => Nat.lt_of_lt_of_le (HK.out (by rw [List.length_drop] at q; omega)) hB.size
    have HONE : Hid (∀ v', Src wr kb v' (b.drop at_) → Calls Tryz.prog 101 #[v', .int .i64 ((M - acc.length : Nat) : Int)] wr (OneQ wr kb (b.drop at_) (oneP (M - acc.length) (b.drop at_)))) := fun v' h => one_any _ kb v' _ wr h hkw.out (by omega) (HM.out.below hB)
    have hcell : Hid (∀ a' : Option Addr, (at_ < c → a' = a.map (fun x => x.add at_)) → Src wr kb (.slice a' (n - at_) (c - at_)) (b.drop at_)) := HCAN.out wr at_ hat hB
    rcases oneP_cases (M - acc.length) (b.drop at_) with ⟨er, hone⟩ | ⟨i, hone, hil, _⟩ | ⟨i, k, hone, hk0, hkm, hil, _⟩
    · rw [hone] at HONE
      have HE : Hid (R = ([], 0, er)) := by rw [Hid, hR.out, decL_miss hone, plusD_err]
      clear hone hR
      by_cases h0 : er = 0
      · subst h0
        go_wp2_with fail
        all_goals
          refine (HONE.out _ (by first | exact hcell.out _ (fun _ => rfl) | exact hcell.out _ (fun h => if_neg (by omega)) | exact hcell.out _ (fun h => by omega) | (have hx := hcell.out a (fun h => by omega); rw [show c - at_ = 0 by omega] at hx; exact hx))).mono ?_
          rintro e w1 ⟨B1, ad, nd, cd, rfl, _, _⟩
          have C1 := hB.trans (B1.mono hB.size)
          go_wp2
          refine bodyPost_ret (v := .tuple #[.slice none 0 0, .int .i64 0, .int .i64 0]) (by simp [results, Tryz.results67, go_sem]) rfl ?_
          rw [HE.out]
          exact decq_no C1
      · have h0' : (er != 0) = true := by simpa using h0
        go_wp2_with fail
        all_goals
          refine (HONE.out _ (by first | exact hcell.out _ (fun _ => rfl) | exact hcell.out _ (fun h => if_neg (by omega)) | exact hcell.out _ (fun h => by omega) | (have hx := hcell.out a (fun h => by omega); rw [show c - at_ = 0 by omega] at hx; exact hx))).mono ?_
          rintro e w1 ⟨B1, ad, nd, cd, rfl, _, _⟩
          have C1 := hB.trans (B1.mono hB.size)
          go_wp2
          refine bodyPost_ret (v := .tuple #[.slice none 0 0, .int .i64 0, .int .i64 er]) (by simp [results, Tryz.results67, go_sem]) rfl ?_
          rw [HE.out]
          exact decq_no C1
    · rw [hone] at HONE
      rw [List.length_drop, ← HN.out] at hil
      have HE : Hid (R = plusD acc (at_ + i + 2) ([], trailL 40 (b.drop (at_ + i + 2)))) := by
        rw [Hid, hR.out, decL_last hone (by omega), plusD_plusD _ _ _ _ _ (by omega), List.append_nil, List.drop_drop, ← Nat.add_assoc]
      have htl := trailL_le 40 (b.drop (at_ + i + 2))
      have hto := trailL_ok 40 (b.drop (at_ + i + 2))
      rw [List.length_drop, ← HN.out] at htl
      have HTR : Hid (∀ (W : World) v', Below w.heap.size w W → Src W kb v' (b.drop (at_ + i + 2)) → Calls Tryz.prog 102 #[v'] W fun e w' => e = .returned (.tuple #[.int .i64 ((trailL 40 (b.drop (at_ + i + 2))).1 : Nat), .int .i64 (trailL 40 (b.drop (at_ + i + 2))).2]) ∧ Below W.heap.size W w') := fun W v' hW h => trailer_any _ kb v' W h (fun q => Nat.lt_of_lt_of_le (HK.out (by rw [List.length_drop] at q; omega)) hW.size) (HM.out.below hW)
      generalize trailL 40 (b.drop (at_ + i + 2)) = t at *
      obtain ⟨tn, te⟩ := t
      simp only at htl hto HTR
      clear hone hR
      by_cases ht : tn = 0
      · subst ht
        have HE2 : Hid (R = ([], 0, te)) := by rw [Hid, HE.out, plusD_err]
        clear hto HE
        by_cases h0 : te = 0
        · subst h0
          go_wp2_with fail
          all_goals
            refine (HONE.out _ (by first | exact hcell.out _ (fun _ => rfl) | exact hcell.out _ (fun h => if_neg (by omega)) | exact hcell.out _ (fun h => by omega) | (have hx := hcell.out a (fun h => by omega); rw [show c - at_ = 0 by omega] at hx; exact hx))).mono ?_
            rintro e w1 ⟨B1, ad, nd, cd, rfl, _, hD⟩
            obtain rfl : nd = 0 := hD.len.1.symm
            have C1 := hB.trans (B1.mono hB.size)
            have O1 := hO.keep B1
            have hc2 : Hid (∀ a' : Option Addr, (at_ + i + 2 < c → a' = a.map (fun x => x.add (at_ + i + 2))) → Src w1 kb (.slice a' (n - (at_ + i + 2)) (c - (at_ + i + 2))) (b.drop (at_ + i + 2))) := HCAN.out w1 _ (by omega) C1
            clear hD
            go_wp2_with fail
            all_goals
              refine (HTR.out _ _ C1 (by first | exact hc2.out _ (fun _ => rfl) | exact hc2.out _ (fun h => if_neg (by omega)) | exact hc2.out _ (fun h => by omega) | (have hx := hc2.out a (fun h => by omega); rw [show c - (at_ + i + 2) = 0 by omega] at hx; exact hx))).mono ?_
              rintro e w2 ⟨rfl, B2⟩
              have C2 := C1.trans (B2.mono C1.size)
              have O2 := O1.keep B2
              go_wp2
          
              refine bodyPost_ret (v := .tuple #[.slice none 0 0, .int .i64 0, .int .i64 0]) (by simp [results, Tryz.results67, go_sem]) rfl ?_
              rw [HE2.out]
              exact decq_no C2
        · have h0' : (te != 0) = true := by simpa using h0
          go_wp2_with fail
          all_goals
            refine (HONE.out _ (by first | exact hcell.out _ (fun _ => rfl) | exact hcell.out _ (fun h => if_neg (by omega)) | exact hcell.out _ (fun h => by omega) | (have hx := hcell.out a (fun h => by omega); rw [show c - at_ = 0 by omega] at hx; exact hx))).mono ?_
            rintro e w1 ⟨B1, ad, nd, cd, rfl, _, hD⟩
            obtain rfl : nd = 0 := hD.len.1.symm
            have C1 := hB.trans (B1.mono hB.size)
            have O1 := hO.keep B1
            have hc2 : Hid (∀ a' : Option Addr, (at_ + i + 2 < c → a' = a.map (fun x => x.add (at_ + i + 2))) → Src w1 kb (.slice a' (n - (at_ + i + 2)) (c - (at_ + i + 2))) (b.drop (at_ + i + 2))) := HCAN.out w1 _ (by omega) C1
            clear hD
            go_wp2_with fail
            all_goals
              refine (HTR.out _ _ C1 (by first | exact hc2.out _ (fun _ => rfl) | exact hc2.out _ (fun h => if_neg (by omega)) | exact hc2.out _ (fun h => by omega) | (have hx := hc2.out a (fun h => by omega); rw [show c - (at_ + i + 2) = 0 by omega] at hx; exact hx))).mono ?_
              rintro e w2 ⟨rfl, B2⟩
              have C2 := C1.trans (B2.mono C1.size)
              have O2 := O1.keep B2
              go_wp2
          
              refine bodyPost_ret (v := .tuple #[.slice none 0 0, .int .i64 0, .int .i64 te]) (by simp [results, Tryz.results67, go_sem]) rfl ?_
              rw [HE2.out]
              exact decq_no C2
      · obtain rfl : te = 0 := hto ht
        have HE2 : Hid (R = (acc, at_ + i + 2 + tn, 0)) := by
          rw [Hid, HE.out]
          unfold plusD
          rw [if_neg ht, List.append_nil]
        have ht' : ((tn : Int) == 0) = false := by simp; omega
        have ht'' : ¬ ((tn : Int) = 0) := by omega
        clear hto HE
        go_wp2_with fail
        all_goals
          refine (HONE.out _ (by first | exact hcell.out _ (fun _ => rfl) | exact hcell.out _ (fun h => if_neg (by omega)) | exact hcell.out _ (fun h => by omega) | (have hx := hcell.out a (fun h => by omega); rw [show c - at_ = 0 by omega] at hx; exact hx))).mono ?_
          rintro e w1 ⟨B1, ad, nd, cd, rfl, _, hD⟩
          obtain rfl : nd = 0 := hD.len.1.symm
          have C1 := hB.trans (B1.mono hB.size)
          have O1 := hO.keep B1
          have hc2 : Hid (∀ a' : Option Addr, (at_ + i + 2 < c → a' = a.map (fun x => x.add (at_ + i + 2))) → Src w1 kb (.slice a' (n - (at_ + i + 2)) (c - (at_ + i + 2))) (b.drop (at_ + i + 2))) := HCAN.out w1 _ (by omega) C1
          clear hD
          go_wp2_with fail
          all_goals
            refine (HTR.out _ _ C1 (by first | exact hc2.out _ (fun _ => rfl) | exact hc2.out _ (fun h => if_neg (by omega)) | exact hc2.out _ (fun h => by omega) | (have hx := hc2.out a (fun h => by omega); rw [show c - (at_ + i + 2) = 0 by omega] at hx; exact hx))).mono ?_
            rintro e w2 ⟨rfl, B2⟩
            have C2 := C1.trans (B2.mono C1.size)
            have O2 := O1.keep B2
            go_wp2
        
            refine bodyPost_ret (v := .tuple #[.slice a7 acc.length c7, .int .i64 ((at_ + i + 2 + tn : Nat) : Int), .int .i64 0]) (by simp [results, Tryz.results67, go_sem]; try omega) rfl ?_
            rw [HE2.out]
            exact ⟨_, rfl, O2, C2⟩
    · rw [hone] at HONE
      rw [List.length_drop, ← HN.out] at hil
      have HDL : Hid ((((b.drop at_).drop (i + 2)).take k).length = k) := by rw [Hid, List.length_take, List.length_drop, List.length_drop]; have := HN.out; omega
      have HE : Hid (R = plusD (acc ++ ((b.drop at_).drop (i + 2)).take k) (at_ + (i + 2 + k + 2)) (decL f (M - (acc ++ ((b.drop at_).drop (i + 2)).take k).length) (b.drop (at_ + (i + 2 + k + 2))))) := by
        have hdd : (b.drop at_).drop (i + 2 + k + 2) = b.drop (at_ + (i + 2 + k + 2)) := List.drop_drop
        rw [Hid, hR.out, decL_next hone (by omega) (by omega), plusD_plusD _ _ _ _ _ (by omega), List.length_append, HDL.out, Nat.sub_sub, hdd]
      clear hone hR
      go_wp2_with fail
      all_goals
        refine (HONE.out _ (by first | exact hcell.out _ (fun _ => rfl) | exact hcell.out _ (fun h => if_neg (by omega)) | exact hcell.out _ (fun h => by omega) | (have hx := hcell.out a (fun h => by omega); rw [show c - at_ = 0 by omega] at hx; exact hx))).mono ?_
        rintro e w1 ⟨B1, ad, nd, cd, rfl, hnd, hD⟩
        simp only at hD
        obtain rfl : nd = k := by rw [← HDL.out]; exact hD.len.1.symm
        have C1 := hB.trans (B1.mono hB.size)
        have hD1 : Src w1 kb (.slice ad nd cd) (((b.drop at_).drop (i + 2)).take nd) := hD.keep (fun q => hkw.out (by rw [List.length_drop]; have := HN.out; omega)) B1
        obtain ⟨v3, w3, r3, O3, B3⟩ := own_append (hO.keep B1) hD1 hnd (by rw [HDL.out]; omega) C1.size
        have C3 := C1.trans B3
        have HO3 : Hid (Own w.heap.size w3 v3 (acc ++ ((b.drop at_).drop (i + 2)).take nd)) := O3
        have hzk : ((nd : Int) == 0) = false := by simp; omega
        clear hD hD1 O3
        go_wp2_with (at_builtin; refine wpList_append_run2 rfl _ _ 22 22 rfl _ _ _ w3 rfl rfl r3 ?_)
        go_roundw
        case rel => exact ⟨at_ + (i + 2 + nd + 2), f, acc ++ ((b.drop at_).drop (i + 2)).take nd, by omega, by omega, by rw [List.length_append, HDL.out]; omega, by rw [List.length_append, HDL.out]; omega, by go_num, HO3.out, HE, C3⟩
        case measure => simp [intOf]; omega
end Go.Proofs.YthbjdbookiejeabGreatDoor
