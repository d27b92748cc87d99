/- Texts that the proof leans on, one behind the other: RnA RnB -/
import Derived.Test.YthmhaflkkigenaaGreatDoorTk
import Derived.Test.YthmhaflkkigenaaGreatDoorTr
import Derived.Test.YthmhaflkkigenaaGreatDoorTj
import Derived.Deep.QuietTactic
import Derived.BigQuiet
/- The reference's Name, Named and Find. -/
namespace Go.Proofs.YthmhaflkkigenaaGreatDoor
open Go.RowKit
set_option linter.unusedVariables false

theorem nm_lt {c : Int} (h : ltB c = true) : nmB c = true := by unfold nmB; rw [h]; rfl
theorem nameP_no {s : ByteArray} (k : Nat) (hk : k < s.size) (h : nmB (s[k].toNat : Int) = false) : nameP s = false := by
  unfold nameP
  rw [allB_false s k hk h, Bool.and_false]
theorem nameP_head {s : ByteArray} (hk : 0 < s.size) (h : ltB (s[0].toNat : Int) = false) : nameP s = false := by
  unfold nameP
  rw [headB_at s hk, h, Bool.and_false, Bool.false_and]
theorem nameP_end {s : ByteArray} (h1 : allB nmB s.data.toList = true) (h2 : 0 < s.size → headB s.data.toList = true) : nameP s = (decide ((1 : Int) ≤ (s.size : Int)) && decide ((s.size : Int) ≤ 30)) := by
  unfold nameP
  rw [h1, Bool.and_true]
  rcases Nat.eq_zero_or_pos s.size with q | q
  · rw [decide_eq_false (by omega), decide_eq_false (show ¬ (1 : Int) ≤ _ by omega), Bool.false_and, Bool.false_and, Bool.false_and]
  · rw [h2 q, Bool.and_true, decide_eq_true q, decide_eq_true (show (1 : Int) ≤ _ by omega), Bool.true_and, Bool.true_and]
    apply decide_eq_decide.2
    omega
set_option maxRecDepth 100000 in
set_option maxHeartbeats 2000000 in
theorem r9name_any (s : ByteArray) (w : World) (hs : s.size ≤ maxLen) : Calls Tryz.prog 9 #[.string s] w fun e w' => e = .returned (.bool (nameP s)) ∧ w' = w := by
  have D : Hid (∀ c W, Calls Tryz.prog 25 #[.int .u8 c] W fun e w' => e = .returned (.bool (spanP 48 57 c)) ∧ w' = W) := fun c W => rdig_any c W
  have HN : Hid (∀ (k : Nat) (hk : k < s.size), nmB (s[k].toNat : Int) = false → nameP s = false) := fun k hk h => nameP_no k hk h
  have HH : Hid (∀ (hk : 0 < s.size), ltB (s[0].toNat : Int) = false → nameP s = false) := fun hk h => nameP_head hk h
  have HE : Hid (allB nmB s.data.toList = true → (0 < s.size → headB s.data.toList = true) → nameP s = (decide ((1 : Int) ≤ (s.size : Int)) && decide ((s.size : Int) ≤ 30))) := nameP_end
  unfold maxLen at hs
  generalize nameP s = R at *
  go_enter Tryz.func9, Tryz.ntmps9
  go_wp2_with fail
  go_loop [3] (fun i => ∃ k : Nat, k ≤ s.size ∧ i = .int .i64 k ∧ Hid (allB nmB (s.data.toList.take k) = true) ∧ Hid (0 < k → headB s.data.toList = true)) (fun i => s.size - (intOf i).toNat)
  case atStart => exact ⟨0, Nat.zero_le _, rfl, rfl, fun h => absurd h (Nat.lt_irrefl _)⟩
  case round =>
    obtain ⟨k, hk, rfl, hA, hL⟩ := hrel
    by_cases hlt : k < s.size
    · have hsn := allB_snoc (p := nmB) s k hlt hA.out
      have hno := HN.out k hlt
      have hz : k = 0 → ltB (s[k].toNat : Int) = false → R = false := fun e h => by subst e; exact HH.out hlt h
      have hyes : ltB (s[k].toNat : Int) = true → k = 0 → headB s.data.toList = true := fun h e => by subst e; rw [headB_at s hlt]; exact h
      have HSN : Hid (nmB (s[k].toNat : Int) = true → allB nmB (s.data.toList.take (k + 1)) = true) := hsn
      have bd := s[k].toNat_lt
      by_cases hl : ltB (s[k].toNat : Int) = true
      · have q1 : Hid (allB nmB (s.data.toList.take (k + 1)) = true) := HSN.out (nm_lt hl)
        have q2 : Hid (0 < k + 1 → headB s.data.toList = true) := fun _ => by
          rcases Nat.eq_zero_or_pos k with e | e
          · exact hyes hl e
          · exact hL.out e
        unfold ltB at hl
        rw [Bool.and_eq_true, decide_eq_true_iff, decide_eq_true_iff] at hl
        obtain ⟨l1, l2⟩ := hl
        have l1' : decide (97 ≤ (s[k].toNat : Int)) = true := decide_eq_true l1
        have l2' : decide ((s[k].toNat : Int) ≤ 122) = true := decide_eq_true l2
        clear hsn hno hz hyes HSN l1 l2 HN HH HE bd
        go_wp2
        go_round
        case rel => exact ⟨k + 1, by omega, by go_num, q1, q2⟩
        case measure => simp [intOf]; omega
      · have hl2 : ltB (s[k].toNat : Int) = false := by cases e : ltB (s[k].toNat : Int); rfl; exact absurd e hl
        have hl3 : (decide (97 ≤ (s[k].toNat : Int)) && decide ((s[k].toNat : Int) ≤ 122)) = false := hl2
        have hnm : nmB (s[k].toNat : Int) = (spanP 48 57 (s[k].toNat : Int) || ((s[k].toNat : Int) == 45)) := by unfold nmB; rw [hl2, Bool.false_or]; rfl
        have q2 : Hid (0 < k → 0 < k + 1 → headB s.data.toList = true) := fun e _ => hL.out e
        have hz' : k = 0 → R = false := fun e => hz e hl2
        rw [hnm] at hno
        have HSN2 : Hid ((spanP 48 57 (s[k].toNat : Int) || ((s[k].toNat : Int) == 45)) = true → allB nmB (s.data.toList.take (k + 1)) = true) := by rw [Hid, ← hnm]; exact HSN.out
        clear hsn hz hyes HSN HN HH HE hl hl2 hnm hL
        by_cases l1 : 97 ≤ (s[k].toNat : Int)
        case' pos =>
          have l1' : decide (97 ≤ (s[k].toNat : Int)) = true := decide_eq_true l1
          have l2' : decide ((s[k].toNat : Int) ≤ 122) = false := by rw [l1', Bool.true_and] at hl3; exact hl3
        case' neg =>
          have l1' : decide (97 ≤ (s[k].toNat : Int)) = false := decide_eq_false l1
        all_goals
          clear l1 hl3
          rcases Nat.eq_zero_or_pos k with e0 | e0
          · obtain rfl := hz' e0
            have k0 : ((k : Int) == 0) = true := by simp [e0]
            clear hz' hno HSN2 q2 e0
            go_wp2
            go_ret
            exact ⟨rfl, rfl⟩
          · have k0 : ((k : Int) == 0) = false := beq_eq_false_iff_ne.2 (by omega)
            have q3 : Hid (0 < k + 1 → headB s.data.toList = true) := q2.out e0
            clear hz' q2
            cases hsp : spanP 48 57 (s[k].toNat : Int)
            · by_cases h45 : (s[k].toNat : Int) = 45
              · have n45 : ((s[k].toNat : Int) != 45) = false := by simp [h45]
                have q1 : Hid (allB nmB (s.data.toList.take (k + 1)) = true) := HSN2.out (by rw [h45]; rw [Bool.or_eq_true]; right; rfl)
                clear hno HSN2 h45
                go_wp2_with fail
                refine (D.out _ _).mono ?_
                rw [hsp]
                rintro e w2 ⟨rfl, rfl⟩
                go_wp2
                go_round
                case rel => exact ⟨k + 1, by omega, by go_num, q1, q3⟩
                case measure => simp [intOf]; omega
              · have n45 : ((s[k].toNat : Int) != 45) = true := by simp [h45]
                obtain rfl := hno (by rw [hsp, Bool.false_or]; exact beq_eq_false_iff_ne.2 h45)
                clear hno HSN2 h45
                go_wp2_with fail
                refine (D.out _ _).mono ?_
                rw [hsp]
                rintro e w2 ⟨rfl, rfl⟩
                go_wp2
                go_ret
                exact ⟨rfl, rfl⟩
            · have q1 : Hid (allB nmB (s.data.toList.take (k + 1)) = true) := HSN2.out (by rw [hsp]; rfl)
              clear hno HSN2
              go_wp2_with fail
              refine (D.out _ _).mono ?_
              rw [hsp]
              rintro e w2 ⟨rfl, rfl⟩
              go_wp2
              go_round
              case rel => exact ⟨k + 1, by omega, by go_num, q1, q3⟩
              case measure => simp [intOf]; omega
    · have hk' : k = s.size := by omega
      subst hk'
      have h := hA.out
      rw [List.take_of_length_le (show s.data.toList.length ≤ s.size from Nat.le_refl _)] at h
      have hR := HE.out h hL.out
      clear HE HN HH D h hA hL
      by_cases c1 : (1 : Int) ≤ (s.size : Int)
      · have c1' : decide ((1 : Int) ≤ (s.size : Int)) = true := decide_eq_true c1
        rw [c1', Bool.true_and] at hR
        subst hR
        go_wp2
        go_ret
        exact ⟨rfl, rfl⟩
      · have c1' : decide ((1 : Int) ≤ (s.size : Int)) = false := decide_eq_false c1
        rw [c1', Bool.false_and] at hR
        subst hR
        go_wp2
        go_ret
        exact ⟨rfl, rfl⟩

end Go.Proofs.YthmhaflkkigenaaGreatDoor

/- The reference's numbers and One. -/
namespace Go.Proofs.YthmhaflkkigenaaGreatDoor
open Go.ChangeShapes Go.WideShapes Go.ChangeAt Go.RowKit
set_option linter.unusedVariables false

theorem r9numbers_any (s : SlotP) (ha : Option Addr) (hc : Nat) (w : World) : Calls Tryz.prog 22 #[.agg (slotV s ha hc)] w fun e w' => ∃ b, e = .returned (.slice (some ⟨b, 0, none⟩) 6 6) ∧ w'.heap[b]? = some (.cells #[.int .i64 s.q, .int .i64 s.c, .int .i64 s.p, .int .i64 s.r, .int .i64 s.b, .int .i64 s.u] 3) ∧ w.heap.size ≤ b ∧ Below w.heap.size w w' := by
  obtain ⟨sn, sh, sq, sc, sp, sr, sb, su⟩ := s
  unfold slotV
  simp only
  go_enter Tryz.func22, Tryz.ntmps22
  go_wp2
  go_ret
  refine ⟨w.heap.size + 1, rfl, ?_, Nat.le_succ _, ((Below.refl _ _).alloc (Nat.le_refl _) _).alloc (by simp) _⟩
  have k := new_at (w.alloc (.cells #[.string sn, .slice ha sh.length hc, .int .i64 sq, .int .i64 sc, .int .i64 sp, .int .i64 sr, .int .i64 sb, .int .i64 su] 35)) (.cells #[.int .i64 sq, .int .i64 sc, .int .i64 sp, .int .i64 sr, .int .i64 sb, .int .i64 su] 3)
  rw [World.size_alloc] at k
  exact k
def mostL : List Int := [1048576, 64, 64, 1048576, 1048576, 1048576]
theorem numsP_len (s : SlotP) : (numsP s).length = 6 := rfl
theorem one_lo {s : SlotP} (k : Nat) (hk : k < 6) (h : (numsP s)[k]'hk < 1) : wrS s = true := by
  cases e : wrS s
  · have o := slot_ok e
    have := o.q
    have := o.c
    have := o.p
    have := o.r
    have := o.b
    have := o.u
    match k, hk with
    | 0, _ => have h' : s.q < 1 := h; omega
    | 1, _ => have h' : s.c < 1 := h; omega
    | 2, _ => have h' : s.p < 1 := h; omega
    | 3, _ => have h' : s.r < 1 := h; omega
    | 4, _ => have h' : s.b < 1 := h; omega
    | 5, _ => have h' : s.u < 1 := h; omega
  · rfl
theorem one_hi {s : SlotP} (k : Nat) (hk : k < 6) (h : mostL[k]'hk < (numsP s)[k]'hk) : wrS s = true := by
  cases e : wrS s
  · have o := slot_ok e
    have := o.q
    have := o.c
    have := o.p
    have := o.r
    have := o.b
    have := o.u
    match k, hk with
    | 0, _ => have h' : 1048576 < s.q := h; omega
    | 1, _ => have h' : 64 < s.c := h; omega
    | 2, _ => have h' : 64 < s.p := h; omega
    | 3, _ => have h' : 1048576 < s.r := h; omega
    | 4, _ => have h' : 1048576 < s.b := h; omega
    | 5, _ => have h' : 1048576 < s.u := h; omega
  · rfl
theorem one_no {s : SlotP} (h : s.q < 256 ∨ nameP s.n = false ∨ s.h.length < 1 ∨ 8 < s.h.length ∨ ∃ x ∈ s.h, whB x = true) : wrS s = true := by
  cases e : wrS s
  · have o := slot_ok e
    rcases h with h | h | h | h | ⟨x, hx, h⟩
    · have := o.q; omega
    · rw [o.name] at h; cases h
    · have := o.lo; omega
    · have := o.hi; omega
    · rw [o.host x hx] at h; cases h
  · rfl
theorem one_yes {s : SlotP} (h1 : ∀ (k : Nat) (hk : k < 6), 1 ≤ (numsP s)[k]'hk ∧ (numsP s)[k]'hk ≤ mostL[k]'hk) (h2 : 256 ≤ s.q) (h3 : nameP s.n = true) (h4 : 1 ≤ s.h.length) (h5 : s.h.length ≤ 8) (h6 : s.h.any whB = false) : wrS s = false := by
  have a0 : 1 ≤ s.q ∧ s.q ≤ 1048576 := h1 0 (by decide)
  have a1 : 1 ≤ s.c ∧ s.c ≤ 64 := h1 1 (by decide)
  have a2 : 1 ≤ s.p ∧ s.p ≤ 64 := h1 2 (by decide)
  have a3 : 1 ≤ s.r ∧ s.r ≤ 1048576 := h1 3 (by decide)
  have a4 : 1 ≤ s.b ∧ s.b ≤ 1048576 := h1 4 (by decide)
  have a5 : 1 ≤ s.u ∧ s.u ≤ 1048576 := h1 5 (by decide)
  unfold wrS rhB wiB
  rw [Bool.not_eq_false', h3, h6]
  simp only [Bool.and_eq_true, decide_eq_true_eq, Bool.not_false, and_true, true_and]
  omega
theorem nums_cell {W : World} {b k : Nat} {s : SlotP} (hk : k < 6) (h : W.heap[b]? = some (.cells #[.int .i64 s.q, .int .i64 s.c, .int .i64 s.p, .int .i64 s.r, .int .i64 s.b, .int .i64 s.u] 3)) : W.cell? ⟨b, k, none⟩ = some (.int .i64 ((numsP s)[k]'hk)) := by
  match k, hk with
  | 0, _ => exact ring_cell h rfl
  | 1, _ => exact ring_cell h rfl
  | 2, _ => exact ring_cell h rfl
  | 3, _ => exact ring_cell h rfl
  | 4, _ => exact ring_cell h rfl
  | 5, _ => exact ring_cell h rfl
theorem most_cell {W : World} {b k : Nat} (hk : k < 6) (h : W.heap[b]? = some (.cells #[.int .i64 1048576, .int .i64 64, .int .i64 64, .int .i64 1048576, .int .i64 1048576, .int .i64 1048576] 3)) : W.cell? ⟨b, k, none⟩ = some (.int .i64 (mostL[k]'hk)) := by
  match k, hk with
  | 0, _ => exact ring_cell h rfl
  | 1, _ => exact ring_cell h rfl
  | 2, _ => exact ring_cell h rfl
  | 3, _ => exact ring_cell h rfl
  | 4, _ => exact ring_cell h rfl
  | 5, _ => exact ring_cell h rfl
theorem rn_drewN (B : Nat) (w : World) (k : Nat) : Below B w (w.drewN k) := by refine ⟨?_, ?_, ?_, ?_, ?_⟩ <;> simp [World.drewN]
/-- A slot's texts are short. -/
structure UBd (s : SlotP) : Prop where
  n : s.n.size ≤ 1048576
  h : TBd 1048576 s.h

set_option maxRecDepth 100000 in
set_option maxHeartbeats 4000000 in
theorem r9one_any (s : SlotP) (ha : Option Addr) (hc : Nat) (w : World) (hT : Txs w.heap.size w (.slice ha s.h.length hc) s.h) (hb : UBd s) : Calls Tryz.prog 43 #[.agg (slotV s ha hc)] w fun e w' => e = .returned (.bool (!wrS s)) ∧ Below w.heap.size w w' := by
  have HLO : Hid (∀ (k : Nat) (hk : k < 6), (numsP s)[k]'hk < 1 → wrS s = true) := fun k hk h => one_lo k hk h
  have HHI : Hid (∀ (k : Nat) (hk : k < 6), mostL[k]'hk < (numsP s)[k]'hk → wrS s = true) := fun k hk h => one_hi k hk h
  have HNO : Hid (s.q < 256 ∨ nameP s.n = false ∨ s.h.length < 1 ∨ 8 < s.h.length ∨ (∃ x ∈ s.h, whB x = true) → wrS s = true) := one_no
  have HYES : Hid ((∀ (k : Nat) (hk : k < 6), 1 ≤ (numsP s)[k]'hk ∧ (numsP s)[k]'hk ≤ mostL[k]'hk) → 256 ≤ s.q → nameP s.n = true → 1 ≤ s.h.length → s.h.length ≤ 8 → s.h.any whB = false → wrS s = false) := one_yes
  have HN : Hid (∀ W, Calls Tryz.prog 9 #[.string s.n] W fun e w' => e = .returned (.bool (nameP s.n)) ∧ w' = W) := fun W => r9name_any s.n W (by have := hb.n; unfold maxLen; omega)
  have HNU : Hid (∀ W, Calls Tryz.prog 22 #[.agg (slotV s ha hc)] W fun e w' => ∃ b, e = .returned (.slice (some ⟨b, 0, none⟩) 6 6) ∧ w'.heap[b]? = some (.cells #[.int .i64 s.q, .int .i64 s.c, .int .i64 s.p, .int .i64 s.r, .int .i64 s.b, .int .i64 s.u] 3) ∧ W.heap.size ≤ b ∧ Below W.heap.size W w') := fun W => r9numbers_any s ha hc W
  have HTX : Hid (Txs w.heap.size w (.slice ha s.h.length hc) s.h) := hT
  have HUB : Hid (UBd s) := hb
  generalize wrS s = R at *
  clear hT hb
  unfold slotV at *
  go_enter Tryz.func43, Tryz.ntmps43
  go_wp2_with fail
  refine (HNU.out _).mono ?_
  rintro e w2 ⟨b, rfl, hnb, hbb, B2⟩
  have z0 : w2.heap[w.heap.size]? = some (.cells #[.string s.n, .slice ha s.h.length hc, .int .i64 s.q, .int .i64 s.c, .int .i64 s.p, .int .i64 s.r, .int .i64 s.b, .int .i64 s.u] 35) := (B2.block _ (by simp <;> omega)).trans ((Below.heap_alloc _ _ _ (by simp)).trans (new_at _ _))
  have z1 : w2.heap[w.heap.size + 1]? = some (.cells #[.int .i64 1048576, .int .i64 64, .int .i64 64, .int .i64 1048576, .int .i64 1048576, .int .i64 1048576] 3) := by
    refine (B2.block _ (by simp)).trans ?_
    have k := new_at (w.alloc (.cells #[.string s.n, .slice ha s.h.length hc, .int .i64 s.q, .int .i64 s.c, .int .i64 s.p, .int .i64 s.r, .int .i64 s.b, .int .i64 s.u] 35)) (.cells #[.int .i64 1048576, .int .i64 64, .int .i64 64, .int .i64 1048576, .int .i64 1048576, .int .i64 1048576] 3)
    rw [World.size_alloc] at k
    exact k
  have D2 : Below w.heap.size w w2 := (((Below.refl _ _).alloc (Nat.le_refl _) _).alloc (by simp) _).trans (B2.mono (by simp <;> omega))
  have Z0 : Hid (w2.heap[w.heap.size]? = some (.cells #[.string s.n, .slice ha s.h.length hc, .int .i64 s.q, .int .i64 s.c, .int .i64 s.p, .int .i64 s.r, .int .i64 s.b, .int .i64 s.u] 35)) := z0
  have HNB : Hid (w2.heap[b]? = some (.cells #[.int .i64 s.q, .int .i64 s.c, .int .i64 s.p, .int .i64 s.r, .int .i64 s.b, .int .i64 s.u] 3)) := hnb
  have Z1 : Hid (w2.heap[w.heap.size + 1]? = some (.cells #[.int .i64 1048576, .int .i64 64, .int .i64 64, .int .i64 1048576, .int .i64 1048576, .int .i64 1048576] 3)) := z1
  clear HNU hnb hbb B2 z0 z1
  go_wp2_with fail
  go_loopw [5] (fun v wr => ∃ k d : Nat, k ≤ 6 ∧ v = .int .i64 k ∧ wr = w2.drewN d ∧ Hid (∀ (j : Nat) (hj : j < 6), j < k → 1 ≤ (numsP s)[j]'hj ∧ (numsP s)[j]'hj ≤ mostL[j]'hj)) (fun v _ => 6 - (intOf v).toNat)
  case atStart => exact ⟨0, 0, Nat.zero_le _, rfl, by simp [World.drewN], fun j _ h => absurd h (Nat.not_lt_zero _)⟩
  case round =>
    obtain ⟨k, d, hk, rfl, rfl, hA⟩ := hrel
    by_cases hlt : k < 6
    · have t0 := nums_cell hlt HNB.out
      have t1 := most_cell hlt Z1.out
      have hlo := HLO.out k hlt
      have hhi := HHI.out k hlt
      have hsn : 1 ≤ (numsP s)[k]'hlt → (numsP s)[k]'hlt ≤ mostL[k]'hlt → Hid (∀ (j : Nat) (hj : j < 6), j < k + 1 → 1 ≤ (numsP s)[j]'hj ∧ (numsP s)[j]'hj ≤ mostL[j]'hj) := fun h1 h2 j hj hjk => by
        rcases Nat.lt_or_ge j k with q | q
        · exact hA.out j hj q
        · have : j = k := by omega
          subst this; exact ⟨h1, h2⟩
      have c1 : (0 : Int) ≤ (k : Int) := by omega
      have c2 : (k : Int) < 6 := by omega
      clear HLO HHI HNO HYES HN HTX HUB Z0 HNB Z1 hA
      generalize (numsP s)[k]'hlt = x at *
      generalize mostL[k]'hlt = y at *
      have B3 : ∀ n, Below w.heap.size w (w2.drewN n) := fun n => D2.trans (rn_drewN _ _ _)
      by_cases g1 : x < 1
      · have g1' : decide (x < 1) = true := decide_eq_true g1
        obtain rfl := hlo g1
        clear hlo hhi hsn g1
        go_wp2_with fail
        go_quiet (fail)
        go_wp2
        go_ret
        exact ⟨rfl, (B3 _).trans (rn_drewN _ _ _)⟩
      · have g1' : decide (x < 1) = false := decide_eq_false g1
        by_cases g2 : y < x
        · have g2' : decide (y < x) = true := decide_eq_true g2
          obtain rfl := hhi g2
          clear hlo hhi hsn g1 g2
          go_wp2_with fail
          go_quiet (fail)
          go_wp2
          go_ret
          exact ⟨rfl, (B3 _).trans (rn_drewN _ _ _)⟩
        · have g2' : decide (y < x) = false := decide_eq_false g2
          have q := hsn (by omega) (by omega)
          clear hlo hhi hsn g1 g2
          go_wp2_with fail
          go_quiet (fail)
          go_wp2
          go_roundw
          case rel => exact ⟨k + 1, _, by omega, by go_num, rfl, q⟩
          case measure => simp [intOf]; omega
    · have hk6 : k = 6 := by omega
      subst hk6
      have hall : ∀ (j : Nat) (hj : j < 6), 1 ≤ (numsP s)[j]'hj ∧ (numsP s)[j]'hj ≤ mostL[j]'hj := fun j hj => hA.out j hj hj
      have HYE := HYES.out hall
      have x0 : w2.cell? ⟨w.heap.size, 0, none⟩ = some (.string s.n) := ring_cell Z0.out rfl
      have x1 : w2.cell? ⟨w.heap.size, 1, none⟩ = some (.slice ha s.h.length hc) := ring_cell Z0.out rfl
      have x2 : w2.cell? ⟨w.heap.size, 2, none⟩ = some (.int .i64 s.q) := ring_cell Z0.out rfl
      have hlh : s.h.length ≤ 9223372036854775807 := by
        obtain ⟨a2, c2, e2, _, q2, q3, _⟩ := HTX.out
        unfold maxLen at q3
        omega
      have B3 : Below w.heap.size w (w2.drewN d) := D2.trans (rn_drewN _ _ _)
      clear HLO HHI HYES HNB Z1 hA hall hlt
      by_cases g1 : s.q < 256
      · have g1' : decide (s.q < 256) = true := decide_eq_true g1
        obtain rfl := HNO.out (.inl g1)
        clear HNO HYE HN HTX HUB Z0 g1
        go_wp2
        go_ret
        exact ⟨rfl, B3⟩
      · have g1' : decide (s.q < 256) = false := decide_eq_false g1
        cases hn : nameP s.n
        · obtain rfl := HNO.out (.inr (.inl hn))
          rw [hn] at HN
          clear HNO HYE HTX HUB Z0 g1 hn
          go_wp2_with fail
          refine (HN.out _).mono ?_
          rintro e w3 ⟨rfl, rfl⟩
          go_wp2
          go_ret
          exact ⟨rfl, B3⟩
        · rw [hn] at HN
          by_cases g4 : s.h.length < 1
          · have g4' : decide ((s.h.length : Int) < 1) = true := decide_eq_true (by omega)
            obtain rfl := HNO.out (.inr (.inr (.inl g4)))
            clear HNO HYE HTX HUB Z0 g1 g4 hn
            generalize s.h.length = lh at *
            go_wp2_with fail
            refine (HN.out _).mono ?_
            rintro e w3 ⟨rfl, rfl⟩
            go_wp2
            go_ret
            exact ⟨rfl, B3⟩
          · have g4' : decide ((s.h.length : Int) < 1) = false := decide_eq_false (by omega)
            by_cases g5 : 8 < s.h.length
            · have g5' : decide ((8 : Int) < (s.h.length : Int)) = true := decide_eq_true (by omega)
              obtain rfl := HNO.out (.inr (.inr (.inr (.inl g5))))
              clear HNO HYE HTX HUB Z0 g1 g4 g5 hn
              generalize s.h.length = lh at *
              go_wp2_with fail
              refine (HN.out _).mono ?_
              rintro e w3 ⟨rfl, rfl⟩
              go_wp2
              go_ret
              exact ⟨rfl, B3⟩
            · have g5' : decide ((8 : Int) < (s.h.length : Int)) = false := decide_eq_false (by omega)
              have HY2 : Hid (s.h.any whB = false → R = false) := HYE (by omega) hn (by omega) (by omega)
              have HN2 : Hid (∀ x ∈ s.h, whB x = true → R = true) := fun x hx h => HNO.out (.inr (.inr (.inr (.inr ⟨x, hx, h⟩))))
              have hlh8 : s.h.length ≤ 8 := by omega
              have hlh1 : 0 < s.h.length := by omega
              have HTW : Hid (∀ W, Below w2.heap.size w2 W → W.cell? ⟨w.heap.size, 1, none⟩ = some (.slice ha s.h.length hc)) := fun W b => ring_cell ((b.block _ (heap_lt Z0.out)).trans Z0.out) rfl
              obtain ⟨a2, c2, e2, _, _, q3, q4⟩ := HTX.out
              obtain ⟨rfl, _, rfl⟩ := slice_inj e2
              obtain ⟨gh, oh, rfl, hgh, hcc⟩ := q4 hlh1
              unfold maxLen at q3
              have HCC : Hid (∀ (j : Nat) (hj : j < s.h.length), w.cell? ⟨gh, oh + j, none⟩ = some (.string s.h[j])) := hcc
              have B20 : Below w2.heap.size w2 (w2.drewN d) := rn_drewN _ _ _
              clear HNO HYE HTX Z0 g1 g4 g5 hn q4 e2 hcc B3
              go_wp2_with fail
              refine (HN.out _).mono ?_
              rintro e w3 ⟨rfl, rfl⟩
              clear HN
              go_wp2_with fail
              go_loopw [6] (fun v wr => ∃ m : Nat, m ≤ s.h.length ∧ v = .int .i64 m ∧ Below w2.heap.size w2 wr ∧ Hid ((s.h.take m).any whB = false)) (fun v _ => s.h.length - (intOf v).toNat)
              case atStart => exact ⟨0, Nat.zero_le _, rfl, B20, rfl⟩
              case round =>
                obtain ⟨m, hm, rfl, hB, hA⟩ := hrel
                have y1 := HTW.out wr hB
                have D4 := D2.trans (hB.mono D2.size)
                by_cases hltm : m < s.h.length
                · have t1 := (D4.cell (p := ⟨gh, oh + m, none⟩) hgh).trans (HCC.out m hltm)
                  have HR : Hid (∀ W, Calls Tryz.prog 56 #[.string s.h[m]] W fun e w' => e = .returned (.tuple #[.string (hostP s.h[m]).1, .bool (hostP s.h[m]).2]) ∧ Below W.heap.size W w') := fun W => rhost_any s.h[m] W (by have := HUB.out.h _ (List.getElem_mem hltm); omega)
                  have hno := HN2.out s.h[m] (List.getElem_mem hltm)
                  have hsn := any_snoc (p := whB) hltm hA.out
                  have hwh : whB s.h[m] = (!(hostP s.h[m]).2 || !((hostP s.h[m]).1.toList == s.h[m].toList)) := rfl
                  rw [hwh] at hno hsn
                  have HWT : Hid (∀ W, Below w2.heap.size w2 W → W.cell? ⟨w.heap.size, 1, none⟩ = some (.slice (some ⟨gh, oh, none⟩) s.h.length hc) ∧ W.cell? ⟨gh, oh + m, none⟩ = some (.string s.h[m])) := fun W b => ⟨HTW.out W b, ((D2.trans (b.mono D2.size)).cell (p := ⟨gh, oh + m, none⟩) hgh).trans (HCC.out m hltm)⟩
                  clear HTW HCC HUB HY2 HN2 hwh hA
                  generalize hostP s.h[m] = hp at *
                  obtain ⟨hp1, hp2⟩ := hp
                  simp only at HR hno hsn
                  generalize s.h[m] = hx at *
                  cases hp2
                  · obtain rfl := hno rfl
                    clear hno hsn HWT
                    go_wp2_with fail
                    refine (HR.out _).mono ?_
                    rintro e w5 ⟨rfl, B5⟩
                    go_wp2
                    go_ret
                    exact ⟨rfl, D4.trans (B5.mono D4.size)⟩
                  · cases hb : (hp1.toList == hx.toList)
                    · obtain rfl := hno (by rw [hb]; rfl)
                      clear hno hsn
                      go_wp2_with fail
                      refine (HR.out _).mono ?_
                      rintro e w5 ⟨rfl, B5⟩
                      have C5 := hB.trans (B5.mono hB.size)
                      obtain ⟨u1, u2⟩ := HWT.out w5 C5
                      clear HWT
                      go_wp2
                      go_ret
                      exact ⟨rfl, D2.trans (C5.mono D2.size)⟩
                    · have q : Hid ((s.h.take (m + 1)).any whB = false) := hsn (by rw [hb]; rfl)
                      clear hno hsn
                      go_wp2_with fail
                      refine (HR.out _).mono ?_
                      rintro e w5 ⟨rfl, B5⟩
                      have C5 := hB.trans (B5.mono hB.size)
                      obtain ⟨u1, u2⟩ := HWT.out w5 C5
                      clear HWT
                      go_wp2
                      go_roundw
                      case rel => exact ⟨m + 1, by omega, by go_num, C5, q⟩
                      case measure => simp [intOf]; omega
                · have hm' : m = s.h.length := by omega
                  subst hm'
                  have h := hA.out
                  rw [List.take_of_length_le (Nat.le_refl _)] at h
                  obtain rfl := HY2.out h
                  clear h hA HY2 HN2 HUB HCC HTW
                  generalize s.h.length = lh at *
                  go_wp2
                  go_ret
                  exact ⟨rfl, D4⟩
end Go.Proofs.YthmhaflkkigenaaGreatDoor
