/- Package http: a line of a head. -/
import Derived.Test.YthbjdbookiejeabGreatDoorHtA
namespace Go.Proofs.YthbjdbookiejeabGreatDoor
open Go.RowKit
set_option linter.unusedVariables false

/-- The room of a head, from a place on. -/
def roomL (b : List UInt8) (at_ : Nat) : List UInt8 := (b.take 2048).drop at_
def hcutV (b : List UInt8) (at_ : Nat) : Value := match cutAt 2048 0 (roomL b at_) with
  | (some i, _) => .tuple #[.string (tx ((roomL b at_).take i)), .int .i64 ((i : Int) + 2), .int .i64 0]
  | (none, e) => .tuple #[.string ⟨#[]⟩, .int .i64 0, .int .i64 (hst (fullB b) e)]
theorem hcutV_hit {b : List UInt8} {at_ i : Nat} {e : Int} (h : cutAt 2048 0 (roomL b at_) = (some i, e)) : hcutV b at_ = .tuple #[.string (tx ((roomL b at_).take i)), .int .i64 ((i : Int) + 2), .int .i64 0] := by
  unfold hcutV; rw [h]
theorem hcutV_miss {b : List UInt8} {at_ : Nat} {e : Int} (h : cutAt 2048 0 (roomL b at_) = (none, e)) : hcutV b at_ = .tuple #[.string ⟨#[]⟩, .int .i64 0, .int .i64 (hst (fullB b) e)] := by
  unfold hcutV; rw [h]
set_option maxRecDepth 100000 in
set_option maxHeartbeats 2000000 in
theorem hcut_any (b : List UInt8) (kb c : Nat) (a : Option Addr) (at_ : Nat) (w : World) (hs : Src w kb (.slice a b.length c) b) (hat : at_ ≤ min 2048 b.length) :
    Calls Tryz.prog 64 #[.slice a b.length c, .int .i64 (at_ : Nat)] w fun e w' => e = .returned (hcutV b at_) ∧ w' = w := by
  have hlen := hs.len
  obtain ⟨n, hn⟩ : ∃ n, n = b.length := ⟨_, rfl⟩
  obtain ⟨m, hm⟩ : ∃ m, m = min 2048 n := ⟨_, rfl⟩
  have hmin : min (n : Int) 2048 = (m : Int) := by omega
  have hR : roomL b at_ = (b.take m).drop at_ := by
    unfold roomL
    congr 1
    rw [hm, hn, ← List.take_eq_take_min]
  have HC : Hid (∀ v' : Value, Src w kb v' (roomL b at_) → Calls Tryz.prog 97 #[v', .int .i64 2048] w fun e w' => e = .returned (cutV 2048 (roomL b at_)) ∧ w' = w) := fun v' h => cut_any _ kb v' 2048 w h
  have hcell : Hid (∀ a' : Option Addr, (at_ < c → a' = a.map (fun x => x.add at_)) → Src w kb (.slice a' (m - at_) (c - at_)) (roomL b at_)) := fun a' ha' => by
    rw [hR]
    exact (hs.take (m := m) (by omega)).cut (by rw [List.length_take]; omega) ha'
  have hfull : fullB b = decide (m = 2048) := by unfold fullB; rw [decide_eq_decide]; omega
  rw [← hn] at hlen ⊢
  have hc1 : m ≤ c := by omega
  have hat1 : at_ ≤ m := by omega
  have hc2 : c ≤ maxLen := hlen.2.2
  unfold maxLen at hc2
  have hmn : m ≤ n := by omega
  have hm2 : m ≤ 2048 := by omega
  have hnc : n ≤ c := by omega
  clear hs hat hlen hn hR hm
  rcases cut_cases 2048 (roomL b at_) with ⟨i, hc, hl, _⟩ | ⟨e, hc⟩
  · rw [hcutV_hit hc]
    rw [cutV_hit hc] at HC
    have hi : i ≤ 2048 := cutAt_le 2048 _ 0 i 0 (by decide) hc
    have hi2 : (((i : Int) + 2) == 0) = false := by simp; omega
    have hi3 : ¬ ((i : Int) + 2) = 0 := by omega
    clear hc hl hfull
    show Calls Tryz.prog 64 #[.slice a n c, .int .i64 (at_ : Nat)] w fun e w' => e = .returned (.tuple #[.string ⟨((roomL b at_).take i).toArray⟩, .int .i64 ((i : Int) + 2), .int .i64 0]) ∧ w' = w
    generalize (⟨((roomL b at_).take i).toArray⟩ : ByteArray) = s at *
    go_enter Tryz.func64, Tryz.ntmps64
    go_wp2_with fail
    all_goals
      refine (HC.out _ (by first | (have hx := hcell.out a (fun h => by omega); rw [show c - at_ = 0 by omega] at hx; exact hx) | exact hcell.out _ (fun _ => rfl) | exact hcell.out _ (fun h => if_neg (by omega)) | exact hcell.out _ (fun h => by omega))).mono ?_
      rintro e w1 ⟨rfl, rfl⟩
      go_wp2
      go_ret3
      exact ⟨rfl, rfl⟩
  · rw [hcutV_miss hc]
    rw [cutV_miss hc] at HC
    clear hc
    by_cases he : e = 0
    · subst he
      by_cases hf : m = 2048
      · subst hf
        rw [hfull]
        show Calls Tryz.prog 64 #[.slice a n c, .int .i64 (at_ : Nat)] w fun e w' => e = .returned (.tuple #[.string ⟨#[]⟩, .int .i64 0, .int .i64 431]) ∧ w' = w
        clear hfull
        go_enter Tryz.func64, Tryz.ntmps64
        go_wp2_with fail
        all_goals
          refine (HC.out _ (by first | (have hx := hcell.out a (fun h => by omega); rw [show c - at_ = 0 by omega] at hx; exact hx) | exact hcell.out _ (fun _ => rfl) | exact hcell.out _ (fun h => if_neg (by omega)) | exact hcell.out _ (fun h => by omega))).mono ?_
          rintro e w1 ⟨rfl, rfl⟩
          go_wp2
          go_ret3
          exact ⟨rfl, rfl⟩
      · have hf2 : ((m : Int) == 2048) = false := by simp; omega
        have hf3 : ¬ (m : Int) = 2048 := by omega
        have e1 : hst (fullB b) 0 = 0 := by rw [hfull, decide_eq_false hf]; rfl
        rw [e1]
        clear hfull e1 hf
        go_enter Tryz.func64, Tryz.ntmps64
        go_wp2_with fail
        all_goals
          refine (HC.out _ (by first | (have hx := hcell.out a (fun h => by omega); rw [show c - at_ = 0 by omega] at hx; exact hx) | exact hcell.out _ (fun _ => rfl) | exact hcell.out _ (fun h => if_neg (by omega)) | exact hcell.out _ (fun h => by omega))).mono ?_
          rintro e w1 ⟨rfl, rfl⟩
          go_wp2
          go_ret3
          exact ⟨rfl, rfl⟩
    · have e1 : hst (fullB b) e = 400 := by unfold hst; rw [if_neg he]
      have he2 : (e != 0) = true := by simpa using he
      rw [e1]
      clear hfull e1
      go_enter Tryz.func64, Tryz.ntmps64
      go_wp2_with fail
      all_goals
        refine (HC.out _ (by first | (have hx := hcell.out a (fun h => by omega); rw [show c - at_ = 0 by omega] at hx; exact hx) | exact hcell.out _ (fun _ => rfl) | exact hcell.out _ (fun h => if_neg (by omega)) | exact hcell.out _ (fun h => by omega))).mono ?_
        rintro e w1 ⟨rfl, rfl⟩
        go_wp2
        go_ret3
        exact ⟨rfl, rfl⟩
end Go.Proofs.YthbjdbookiejeabGreatDoor
