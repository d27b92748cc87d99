/- One chunk. -/
import Derived.Test.YthbjdbookiejeabGreatDoorChkB
namespace Go.Proofs.YthbjdbookiejeabGreatDoor
open Go.RowKit
set_option linter.unusedVariables false

theorem src_none (w : World) (k : Nat) : Src w k (.slice none 0 0) [] := ⟨none, 0, rfl, Nat.le_refl _, Nat.zero_le _, fun h => absurd h (Nat.lt_irrefl _)⟩
/-- What 'one' answers: the bytes, how many it takes, the error. -/
def OneQ (w : World) (kb : Nat) (b : List UInt8) (p : Int × Nat × Nat × Nat) (e : Ending) (w' : World) : Prop :=
  Below w.heap.size w w' ∧ ∃ a n c, e = .returned (.tuple #[.slice a n c, .int .i64 (p.2.1 : Nat), .int .i64 p.1]) ∧ (a = none → c = 0) ∧ Src w kb (.slice a n c) ((b.drop p.2.2.1).take p.2.2.2)
theorem oneq_no {w w' : World} {kb : Nat} {b : List UInt8} {er : Int} (hB : Below w.heap.size w w') : OneQ w kb b (er, 0, 0, 0) (.returned (.tuple #[.slice none 0 0, .int .i64 0, .int .i64 er])) w' :=
  ⟨hB, none, 0, 0, rfl, fun _ => rfl, by rw [List.take_zero]; exact src_none w kb⟩
theorem oneq_end {w w' : World} {kb n : Nat} {b : List UInt8} (hB : Below w.heap.size w w') : OneQ w kb b (0, n, 0, 0) (.returned (.tuple #[.slice none 0 0, .int .i64 (n : Nat), .int .i64 0])) w' :=
  ⟨hB, none, 0, 0, rfl, fun _ => rfl, by rw [List.take_zero]; exact src_none w kb⟩

set_option maxRecDepth 100000 in
set_option maxHeartbeats 8000000 in
theorem one_any (b : List UInt8) (kb : Nat) (v : Value) (m : Nat) (w : World) (hs : Src w kb v b) (hk : 0 < b.length → kb < w.heap.size) (hm : m ≤ 9223372036854775807) (hM : MaxL w) :
    Calls Tryz.prog 101 #[v, .int .i64 (m : Int)] w (OneQ w kb b (oneP m b)) := by
  have HS : Hid (Src w kb v b) := hs
  obtain ⟨a, c, rfl, h1, h2, h3⟩ := hs
  obtain ⟨n, hn⟩ : ∃ n, n = b.length := ⟨_, rfl⟩
  rw [← hn] at HS ⊢
  have HN : Hid (n = b.length) := hn
  have HC : Hid (Calls Tryz.prog 97 #[.slice a n c, .int .i64 256] w fun e w' => e = .returned (cutV 256 b) ∧ w' = w) := cut_any b kb _ 256 w HS.out
  rw [← hn] at h1
  unfold maxLen at h2
  have HK : Hid (0 < b.length → kb < w.heap.size) := hk
  have H3 : Hid (0 < b.length → ∃ off, a = some ⟨kb, off, none⟩ ∧ ∀ (j : Nat) (hj : j < b.length), w.cell? ⟨kb, off + j, none⟩ = some (bv b[j])) := h3
  clear hn h3 hk
  rcases cut_cases 256 b with ⟨i, hcut, hil, _⟩ | ⟨er, hcut⟩
  · have hle : i ≤ 256 := cutAt_le 256 b 0 i 0 (by decide) hcut
    rw [cutV_hit hcut] at HC
    have HZ : Hid (Calls Tryz.prog 130 #[.string ⟨(b.take i).toArray⟩] w fun e w' => e = .returned (.tuple #[.int .i64 ((szO (b.take i)).getD 0 : Nat), .bool (szO (b.take i)).isSome]) ∧ Below w.heap.size w w') := sizeof_any (b.take i) w (by rw [List.length_take]; omega) hM
    have hin : i + 2 ≤ n := by have := HN.out; omega
    have E0 := oneP_hit (m := m) hcut
    generalize (⟨(b.take i).toArray⟩ : ByteArray) = T at *
    have hne : ((i : Int) + 2 == 0) = false := by simp; omega
    cases hz : szO (b.take i) with
    | none =>
      rw [hz] at E0 HZ
      rw [E0]
      show Calls Tryz.prog 101 #[.slice a n c, .int .i64 (m : Int)] w (OneQ w kb b (30, 0, 0, 0))
      clear hz E0 hcut hil
      go_enter Tryz.func101, Tryz.ntmps101
      go_wp2_with fail
      refine HC.out.mono ?_
      rintro e w1 ⟨rfl, rfl⟩
      go_wp2_with fail
      refine HZ.out.mono ?_
      rintro e w2 ⟨rfl, B2⟩
      go_wp2
      refine bodyPost_ret (v := .tuple #[.slice none 0 0, .int .i64 0, .int .i64 30]) (by simp [results, Tryz.results101, go_sem]) rfl (oneq_no B2)
    | some k =>
      rw [hz] at E0 HZ
      rw [oneK_some, ← HN.out] at E0
      have HZ2 : Hid (Calls Tryz.prog 130 #[.string T] w fun e w' => e = .returned (.tuple #[.int .i64 (k : Int), .bool true]) ∧ Below w.heap.size w w') := HZ
      clear HZ hz hcut hil
      by_cases g1 : m < k
      · rw [if_pos g1] at E0
        rw [E0]
        have i1 : (m : Int) < (k : Int) := by omega
        clear E0 g1
        go_enter Tryz.func101, Tryz.ntmps101
        go_wp2_with fail
        refine HC.out.mono ?_
        rintro e w1 ⟨rfl, rfl⟩
        go_wp2_with fail
        refine HZ2.out.mono ?_
        rintro e w2 ⟨rfl, B2⟩
        go_wp2
        refine bodyPost_ret (v := .tuple #[.slice none 0 0, .int .i64 0, .int .i64 2]) (by simp [results, Tryz.results101, go_sem]) rfl (oneq_no B2)
      · rw [if_neg g1] at E0
        have i1 : ¬ (m : Int) < (k : Int) := by omega
        by_cases g2 : k = 0
        · rw [if_pos g2] at E0
          rw [E0]
          subst g2
          clear E0 g1
          go_enter Tryz.func101, Tryz.ntmps101
          go_wp2_with fail
          refine HC.out.mono ?_
          rintro e w1 ⟨rfl, rfl⟩
          go_wp2_with fail
          refine HZ2.out.mono ?_
          rintro e w2 ⟨rfl, B2⟩
          go_wp2
          refine bodyPost_ret (v := .tuple #[.slice none 0 0, .int .i64 ((i : Int) + 2), .int .i64 0]) (by simp [results, Tryz.results101, go_sem]) rfl (oneq_end (n := i + 2) B2)
        · rw [if_neg g2] at E0
          have i2 : ((k : Int) == 0) = false := by simp; omega
          have i2' : ¬ ((k : Int) = 0) := by omega
          by_cases g3 : n - (i + 2) < k
          · rw [if_pos g3] at E0
            rw [E0]
            have i3 : (n : Int) - ((i : Int) + 2) < (k : Int) := by omega
            clear E0 g1 g2 g3
            go_enter Tryz.func101, Tryz.ntmps101
            go_wp2_with fail
            refine HC.out.mono ?_
            rintro e w1 ⟨rfl, rfl⟩
            go_wp2_with fail
            refine HZ2.out.mono ?_
            rintro e w2 ⟨rfl, B2⟩
            go_wp2
            refine bodyPost_ret (v := .tuple #[.slice none 0 0, .int .i64 0, .int .i64 0]) (by simp [results, Tryz.results101, go_sem]) rfl (oneq_no B2)
          · rw [if_neg g3] at E0
            have i3 : ¬ (n : Int) - ((i : Int) + 2) < (k : Int) := by omega
            have hnk : i + 2 + k ≤ n := by omega
            obtain ⟨off, rfl, _⟩ := H3.out (by have := HN.out; omega)
            have hcc : i + 2 < c := by omega
            have HEN : Hid (∀ W (v' : Value), Src W kb v' (b.drop (i + 2 + k)) → Calls Tryz.prog 131 #[v'] W fun e w' => e = .returned (.tuple #[.bool (endsP (b.drop (i + 2 + k))).1, .int .i64 (endsP (b.drop (i + 2 + k))).2]) ∧ ∃ n, w' = W.drewN n) := fun W v' h => ends_any _ kb v' W h
            have HD : Hid (Src w kb (.slice (some ⟨kb, off + (i + 2), none⟩) k (c - (i + 2))) ((b.drop (i + 2)).take k)) := by
              have x1 := HS.out.cut (m := i + 2) (a' := some ⟨kb, off + (i + 2), none⟩) (by have := HN.out; omega) (fun _ => by simp [addr_add])
              exact x1.take (by rw [List.length_drop]; have := HN.out; omega)
            have hx : (endsP (b.drop (i + 2 + k))).1 = true → (endsP (b.drop (i + 2 + k))).2 = 0 := by
              generalize b.drop (i + 2 + k) = d
              match d with
              | [] => simp [endsP]
              | [x] => by_cases hx : x = 13 <;> simp [endsP, hx]
              | x :: y :: r => by_cases hx : x = 13 <;> by_cases hy : y = 10 <;> simp [endsP, hx, hy]
            have hx2 : (endsP (b.drop (i + 2 + k))).1 = true → i + 2 + k + 2 ≤ n := by
              intro ht
              have : 2 ≤ (b.drop (i + 2 + k)).length := by
                match hd : b.drop (i + 2 + k) with
                | [] => rw [hd] at ht; simp [endsP] at ht
                | [x] => rw [hd] at ht; by_cases hx : x = 13 <;> simp [endsP, hx] at ht
                | x :: y :: r => simp
              rw [List.length_drop] at this
              have := HN.out
              omega
            generalize endsP (b.drop (i + 2 + k)) = p at *
            obtain ⟨p1, p2⟩ := p
            simp only at E0 HEN hx hx2
            clear g1 g2 g3 H3
            cases p1
            · rw [if_neg (by decide)] at E0
              rw [E0]
              clear E0 hx hx2
              go_enter Tryz.func101, Tryz.ntmps101
              go_wp2_with fail
              refine HC.out.mono ?_
              rintro e w1 ⟨rfl, rfl⟩
              go_wp2_with fail
              refine HZ2.out.mono ?_
              rintro e w2 ⟨rfl, B2⟩
              have HS2 : Hid (∀ nq (a' : Option Addr), (i + 2 + k < c → a' = (some (⟨kb, off, none⟩ : Addr)).map (fun x => x.add (i + 2 + k))) → Src (w2.drewN nq) kb (.slice a' (n - (i + 2 + k)) (c - (i + 2 + k))) (b.drop (i + 2 + k))) := fun nq a' ha' => ((HS.out.keep HK.out B2).cut (by have := HN.out; omega) ha').frame (by rw [drewN_heap])
              by_cases q0 : p2 = 0
              · subst q0
                go_wp2
                go_quiet (fail)
                go_wp2_with fail
                all_goals
                  refine (HEN.out _ _ (by first | exact HS2.out _ _ (fun _ => by simp [addr_add]) | exact HS2.out _ _ (fun h => by omega) | (have hx := HS2.out nq (some ⟨kb, off, none⟩) (fun h => by omega); rw [show c - (i + 2 + k) = 0 by omega] at hx; exact hx))).mono ?_
                  rintro e w3 ⟨rfl, nq2, rfl⟩
                  have C3 := (B2.trans (below_drewN w1.heap.size w2 nq)).trans (below_drewN w1.heap.size _ nq2)
                  go_wp2
                  refine bodyPost_ret (v := .tuple #[.slice none 0 0, .int .i64 0, .int .i64 0]) (by simp [results, Tryz.results101, go_sem]) rfl (oneq_no (by simpa using C3))
              · have q1 : (p2 != 0) = true := by simpa using q0
                go_wp2
                go_quiet (fail)
                go_wp2_with fail
                all_goals
                  refine (HEN.out _ _ (by first | exact HS2.out _ _ (fun _ => by simp [addr_add]) | exact HS2.out _ _ (fun h => by omega) | (have hx := HS2.out nq (some ⟨kb, off, none⟩) (fun h => by omega); rw [show c - (i + 2 + k) = 0 by omega] at hx; exact hx))).mono ?_
                  rintro e w3 ⟨rfl, nq2, rfl⟩
                  have C3 := (B2.trans (below_drewN w1.heap.size w2 nq)).trans (below_drewN w1.heap.size _ nq2)
                  go_wp2
                  refine bodyPost_ret (v := .tuple #[.slice none 0 0, .int .i64 0, .int .i64 p2]) (by simp [results, Tryz.results101, go_sem]) rfl (oneq_no (by simpa using C3))
            · rw [if_pos rfl] at E0
              rw [E0]
              obtain rfl : p2 = 0 := hx rfl
              have hn4 := hx2 rfl
              clear E0 hx hx2
              go_enter Tryz.func101, Tryz.ntmps101
              go_wp2_with fail
              refine HC.out.mono ?_
              rintro e w1 ⟨rfl, rfl⟩
              go_wp2_with fail
              refine HZ2.out.mono ?_
              rintro e w2 ⟨rfl, B2⟩
              have HS2 : Hid (∀ nq (a' : Option Addr), (i + 2 + k < c → a' = (some (⟨kb, off, none⟩ : Addr)).map (fun x => x.add (i + 2 + k))) → Src (w2.drewN nq) kb (.slice a' (n - (i + 2 + k)) (c - (i + 2 + k))) (b.drop (i + 2 + k))) := fun nq a' ha' => ((HS.out.keep HK.out B2).cut (by have := HN.out; omega) ha').frame (by rw [drewN_heap])
              go_wp2
              go_quiet (fail)
              go_wp2_with fail
              all_goals
                refine (HEN.out _ _ (by first | exact HS2.out _ _ (fun _ => by simp [addr_add]) | exact HS2.out _ _ (fun h => by omega) | (have hx := HS2.out nq (some ⟨kb, off, none⟩) (fun h => by omega); rw [show c - (i + 2 + k) = 0 by omega] at hx; exact hx))).mono ?_
                rintro e w3 ⟨rfl, nq2, rfl⟩
                have C3 := (B2.trans (below_drewN w1.heap.size w2 nq)).trans (below_drewN w1.heap.size _ nq2)
                go_wp2
                refine bodyPost_ret (v := .tuple #[.slice (some ⟨kb, off + (i + 2), none⟩) k (c - (i + 2)), .int .i64 ((i + 2 + k + 2 : Nat) : Int), .int .i64 0]) (by simp [results, Tryz.results101, go_sem]; try omega) rfl ⟨by simpa using C3, _, _, _, rfl, (fun h => by cases h), HD.out⟩
  · rw [cutV_miss hcut] at HC
    have E0 : oneP m b = (er, 0, 0, 0) := oneP_miss hcut
    rw [E0]
    clear E0 hcut
    by_cases h0 : er = 0
    · subst h0
      go_enter Tryz.func101, Tryz.ntmps101
      go_wp2_with fail
      refine HC.out.mono ?_
      rintro e w1 ⟨rfl, rfl⟩
      go_wp2
      refine bodyPost_ret (v := .tuple #[.slice none 0 0, .int .i64 0, .int .i64 0]) (by simp [results, Tryz.results101, go_sem]) rfl (oneq_no (Below.refl _ _))
    · have h0' : (er != 0) = true := by simpa using h0
      go_enter Tryz.func101, Tryz.ntmps101
      go_wp2_with fail
      refine HC.out.mono ?_
      rintro e w1 ⟨rfl, rfl⟩
      go_wp2
      refine bodyPost_ret (v := .tuple #[.slice none 0 0, .int .i64 0, .int .i64 er]) (by simp [results, Tryz.results101, go_sem]) rfl (oneq_no (Below.refl _ _))
end Go.Proofs.YthbjdbookiejeabGreatDoor
