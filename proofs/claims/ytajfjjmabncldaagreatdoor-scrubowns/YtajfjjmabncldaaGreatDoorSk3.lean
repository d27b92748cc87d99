/- Texts that the proof leans on, one behind the other: LinA LinB HexR SpnA AllB SgnA SgnB SgnT SgnV FldA ChkA ChkB ChkC ChkD ChkE SgnG DecR LnA PrfC LnB LnK LnD LnE SufA LnG -/
import Derived.Test.YtajfjjmabncldaaGreatDoorSk2
import Derived.WalkSpells
import Derived.WalkLawsBesides
import Derived.WalkKit
import Derived.Laws.Pointers
import Derived.Laws.EntriesVeiled
import Derived.Lib.Bytealg
import Derived.Test.YtajfjjmabncldaaGreatDoorSk1
import Derived.Deep.RegionHeld3
import Derived.Deep.RegionWith
import Derived.Deep.QuietTactic
import Derived.Laws.RangeAny
import Derived.WalkSmall
/- Lines, byte by byte: where the first of them ends. -/
namespace Go.Proofs.YtajfjjmabncldaaGreatDoor
open Go.RowKit
set_option linter.unusedVariables false

/-- What Cut finds from place i on: where the line ends, the error. -/
def cutAt (m : Nat) : Nat → List UInt8 → Option Nat × Int
  | _, [] => (none, 0)
  | i, c :: l =>
    if c = 10 then (none, 20)
    else if c = 13 then
      (if l.head? = none then (none, 0) else if l.head? = some 10 then (some i, 0) else (none, 20))
    else if m ≤ i then (none, 2) else cutAt m (i + 1) l
def cutS (m : Nat) (b : List UInt8) : List UInt8 := match (cutAt m 0 b).1 with | some i => b.take i | none => []
def cutN (m : Nat) (b : List UInt8) : Nat := match (cutAt m 0 b).1 with | some i => i + 2 | none => 0
def cutE (m : Nat) (b : List UInt8) : Int := (cutAt m 0 b).2
theorem cut_hit {m k : Nat} {b : List UInt8} (h : cutAt m 0 b = (some k, 0)) : cutS m b = b.take k ∧ cutN m b = k + 2 ∧ cutE m b = 0 := by
  unfold cutS cutN cutE; rw [h]; exact ⟨rfl, rfl, rfl⟩
theorem cut_miss {m : Nat} {e : Int} {b : List UInt8} (h : cutAt m 0 b = (none, e)) : cutS m b = [] ∧ cutN m b = 0 ∧ cutE m b = e := by
  unfold cutS cutN cutE; rw [h]; exact ⟨rfl, rfl, rfl⟩
theorem drop_head (b : List UInt8) (k : Nat) (h : k < b.length) : b.drop k = b[k] :: b.drop (k + 1) := List.drop_eq_getElem_cons h
theorem cutAt_ten {m k : Nat} {b : List UInt8} (h : k < b.length) (hc : b[k] = 10) : cutAt m k (b.drop k) = (none, 20) := by
  rw [drop_head b k h, cutAt, if_pos hc]
theorem cutAt_bad {m k : Nat} {b : List UInt8} (h : k + 1 < b.length) (hc : b[k] = 13) (hd : b[k + 1] ≠ 10) : cutAt m k (b.drop k) = (none, 20) := by
  rw [drop_head b k (by omega), cutAt, hc, if_neg (by decide), if_pos rfl, drop_head b (k + 1) h, List.head?_cons, if_neg (by simp), if_neg (by simpa using hd)]
theorem cutAt_last {m k : Nat} {b : List UInt8} (h : k + 1 = b.length) (hc : b[k] = 13) : cutAt m k (b.drop k) = (none, 0) := by
  rw [drop_head b k (by omega), cutAt, hc, if_neg (by decide), if_pos rfl, List.drop_eq_nil_of_le (by omega), List.head?_nil, if_pos rfl]
theorem cutAt_end {m k : Nat} {b : List UInt8} (h : k + 1 < b.length) (hc : b[k] = 13) (hd : b[k + 1] = 10) : cutAt m k (b.drop k) = (some k, 0) := by
  rw [drop_head b k (by omega), cutAt, hc, if_neg (by decide), if_pos rfl, drop_head b (k + 1) h, List.head?_cons, if_neg (by simp), if_pos (by rw [hd])]
theorem cutAt_long {m k : Nat} {b : List UInt8} (h : k < b.length) (h1 : b[k] ≠ 10) (h2 : b[k] ≠ 13) (hm : m ≤ k) : cutAt m k (b.drop k) = (none, 2) := by
  rw [drop_head b k h, cutAt, if_neg h1, if_neg h2, if_pos hm]
theorem cutAt_next {m k : Nat} {b : List UInt8} (h : k < b.length) (h1 : b[k] ≠ 10) (h2 : b[k] ≠ 13) (hm : ¬ m ≤ k) : cutAt m k (b.drop k) = cutAt m (k + 1) (b.drop (k + 1)) := by
  rw [drop_head b k h, cutAt, if_neg h1, if_neg h2, if_neg hm]
theorem cutAt_fin {m k : Nat} {b : List UInt8} (h : b.length ≤ k) : cutAt m k (b.drop k) = (none, 0) := by
  rw [List.drop_eq_nil_of_le h, cutAt]
theorem head_app (l more : List UInt8) (h : l.head? ≠ none) : (l ++ more).head? = l.head? := by cases l with | nil => exact absurd rfl h | cons a l => rfl
/-- What is found in a beginning is found in more. -/
theorem cutAt_app (m : Nat) (more : List UInt8) : ∀ (l : List UInt8) (i : Nat), cutAt m i l ≠ (none, 0) → cutAt m i (l ++ more) = cutAt m i l
  | [], i, h => absurd rfl h
  | c :: l, i, h => by
    rw [List.cons_append, cutAt, cutAt]
    rw [cutAt] at h
    by_cases h1 : c = 10
    · rw [if_pos h1, if_pos h1]
    · rw [if_neg h1] at h; rw [if_neg h1, if_neg h1]
      by_cases h2 : c = 13
      · rw [if_pos h2] at h; rw [if_pos h2, if_pos h2]
        by_cases h3 : l.head? = none
        · rw [if_pos h3] at h; exact absurd rfl h
        · rw [head_app l more h3]
      · rw [if_neg h2] at h; rw [if_neg h2, if_neg h2]
        by_cases h3 : m ≤ i
        · rw [if_pos h3, if_pos h3]
        · rw [if_neg h3] at h; rw [if_neg h3, if_neg h3]; exact cutAt_app m more l (i + 1) h
/-- Where a line ends, its end stands. -/
theorem cutAt_some (m : Nat) : ∀ (l : List UInt8) (i k : Nat) (e : Int), cutAt m i l = (some k, e) → e = 0 ∧ ∃ j, k = i + j ∧ j + 2 ≤ l.length ∧ l.take (j + 2) = l.take j ++ [13, 10]
  | [], i, k, e, h => by simp [cutAt] at h
  | c :: l, i, k, e, h => by
    rw [cutAt] at h
    by_cases h1 : c = 10
    · rw [if_pos h1] at h; simp at h
    · rw [if_neg h1] at h
      by_cases h2 : c = 13
      · rw [if_pos h2] at h
        by_cases h3 : l.head? = none
        · rw [if_pos h3] at h; simp at h
        · rw [if_neg h3] at h
          by_cases h4 : l.head? = some 10
          · rw [if_pos h4] at h
            cases l with
            | nil => simp at h4
            | cons d l =>
              have : d = 10 := by simpa using h4
              subst this
              subst h2
              have h5 : i = k ∧ 0 = e := by simpa using h
              refine ⟨h5.2.symm, 0, by omega, by simp, by simp⟩
          · rw [if_neg h4] at h; simp at h
      · rw [if_neg h2] at h
        by_cases h3 : m ≤ i
        · rw [if_pos h3] at h; simp at h
        · rw [if_neg h3] at h
          obtain ⟨e0, j, hj, hl, ht⟩ := cutAt_some m l (i + 1) k e h
          refine ⟨e0, j + 1, by omega, by simp; omega, ?_⟩
          rw [show j + 1 + 2 = (j + 2) + 1 by omega, List.take_succ_cons, List.take_succ_cons, ht]; rfl
theorem cut_cases (m : Nat) (b : List UInt8) : (∃ k, cutAt m 0 b = (some k, 0) ∧ k + 2 ≤ b.length ∧ b.take (k + 2) = b.take k ++ [13, 10]) ∨ ∃ e, cutAt m 0 b = (none, e) := by
  rcases h : cutAt m 0 b with ⟨_ | k, e⟩
  · exact .inr ⟨e, rfl⟩
  · obtain ⟨rfl, j, hj, hl, ht⟩ := cutAt_some m b 0 k e h
    have : k = j := by omega
    subst this
    exact .inl ⟨k, rfl, hl, ht⟩
def plain (s : List UInt8) : Bool := s.all fun c => c != 13 && c != 10
theorem cutAt_plain (m : Nat) (rest : List UInt8) : ∀ (s : List UInt8) (i : Nat), i ≤ m → plain s = true → cutAt m i (s ++ 13 :: 10 :: rest) = if m < i + s.length then (none, 2) else (some (i + s.length), 0)
  | [], i, hi, h => by
    rw [List.nil_append, cutAt, if_neg (by decide), if_pos rfl, if_neg (by simp), if_pos (by simp), if_neg (by simp; omega)]
    simp
  | c :: s, i, hi, h => by
    have h' : (c ≠ 13 ∧ c ≠ 10) ∧ plain s = true := by simpa [plain] using h
    rw [List.cons_append, cutAt, if_neg h'.1.2, if_neg h'.1.1]
    by_cases hm : m ≤ i
    · rw [if_pos hm, if_pos (by simp; omega)]
    · rw [if_neg hm, cutAt_plain m rest s (i + 1) (by omega) h'.2]
      simp only [List.length_cons, Nat.add_assoc, Nat.add_comm 1]
theorem u8_ne {c : UInt8} {n : Nat} (h : ¬ (c.toNat : Int) = n) (hn : n < 256) : c ≠ UInt8.ofNat n := by
  intro e
  apply h
  rw [e]
  have : (UInt8.ofNat n).toNat = n := by simp; omega
  rw [this]
theorem conv_take {w : World} {k off c : Nat} {b : List UInt8} (h : ∀ (j : Nat) (hj : j < b.length), w.cell? ⟨k, off + j, none⟩ = some (bv b[j])) (i : Nat) (hi : i ≤ b.length) : (convert 23 9 (.slice (some ⟨k, off, none⟩) i c)).run Tryz.prog w = .ok (.string ⟨(b.take i).toArray⟩) w := by
  have hl : (b.take i).length = i := by rw [List.length_take]; omega
  have r := run_convert_bytes_back (P := Tryz.prog) w 23 9 5 ⟨k, off, none⟩ c (b.take i) Tryz.underlying23 Tryz.underlying5 Tryz.underlying9 (fun j hj => by rw [addr_add, List.getElem_take]; exact h j (by omega))
  rw [hl] at r
  exact r
end Go.Proofs.YtajfjjmabncldaaGreatDoor

/- Cut, of the program and of the reference. -/
namespace Go.Proofs.YtajfjjmabncldaaGreatDoor
open Go.RowKit
set_option linter.unusedVariables false

/-- What Cut answers. -/
def cutV (m : Nat) (b : List UInt8) : Value := .tuple #[.string ⟨(cutS m b).toArray⟩, .int .i64 (cutN m b : Nat), .int .i64 (cutE m b)]
theorem cutV_hit {m k : Nat} {b : List UInt8} (h : cutAt m 0 b = (some k, 0)) : cutV m b = .tuple #[.string ⟨(b.take k).toArray⟩, .int .i64 ((k : Int) + 2), .int .i64 0] := by
  obtain ⟨h1, h2, h3⟩ := cut_hit h
  unfold cutV; rw [h1, h2, h3]; rfl
theorem cutV_miss {m : Nat} {e : Int} {b : List UInt8} (h : cutAt m 0 b = (none, e)) : cutV m b = .tuple #[.string ⟨#[]⟩, .int .i64 0, .int .i64 e] := by
  obtain ⟨h1, h2, h3⟩ := cut_miss h
  unfold cutV; rw [h1, h2, h3]; rfl
theorem toNat_ne {c : UInt8} (n : Nat) (d : UInt8) (hd : d.toNat = n) (h : ¬ c = d) : ¬ (c.toNat : Int) = (n : Int) := by
  intro e
  apply h
  apply UInt8.toNat_inj.1
  omega

set_option maxHeartbeats 4000000 in
theorem cut_any (b : List UInt8) (kb : Nat) (v : Value) (most : Int) (w : World) (hs : Src w kb v b) :
    Calls Tryz.prog 167 #[v, .int .i64 most] w fun e w' => e = .returned (cutV most.toNat b) ∧ w' = w := by
  obtain ⟨a, c, rfl, h1, h2, h3⟩ := hs
  obtain ⟨n, hn⟩ : ∃ n, n = b.length := ⟨_, rfl⟩
  obtain ⟨m, hm⟩ : ∃ m, m = most.toNat := ⟨_, rfl⟩
  rw [← hm, ← hn]
  rw [← hn] at h1
  unfold maxLen at h2
  have HN : Hid (n = b.length) := hn
  have HM : Hid (m = most.toNat) := hm
  have H3 : Hid (0 < b.length → ∃ off, a = some ⟨kb, off, none⟩ ∧ ∀ (j : Nat) (hj : j < b.length), w.cell? ⟨kb, off + j, none⟩ = some (bv b[j])) := h3
  clear hn hm h3
  go_enter Tryz.func167, Tryz.ntmps167
  go_wp2
  go_loop [12] (fun vi => ∃ k : Nat, k ≤ n ∧ vi = .int .i64 k ∧ Hid (cutAt m 0 b = cutAt m k (b.drop k))) (fun vi => n - (intOf vi).toNat)
  case atStart => exact ⟨0, Nat.zero_le _, rfl, rfl⟩
  case round =>
    obtain ⟨k, hk, rfl, hA⟩ := hrel
    by_cases hlt : k < n
    · have hlb : k < b.length := by have := HN.out; omega
      obtain ⟨off, rfl, hc⟩ := H3.out (by omega)
      have q1 : w.cell? ⟨kb, off + k, none⟩ = some (.int .u8 (b[k].toNat : Int)) := hc k hlb
      by_cases t1 : b[k] = 10
      · have HR : Hid (cutV m b = .tuple #[.string ⟨#[]⟩, .int .i64 0, .int .i64 20]) := cutV_miss (hA.out.trans (cutAt_ten hlb t1))
        rw [t1] at q1
        have q2 : w.cell? ⟨kb, off + k, none⟩ = some (.int .u8 10) := q1
        clear q1 hc t1 hlb H3 hA
        go_wp2
        refine bodyPost_ret (v := .tuple #[.string ⟨#[]⟩, .int .i64 0, .int .i64 20]) (by simp [results, Tryz.results167, go_sem]) rfl ⟨?_, rfl⟩
        rw [HR.out]
      · by_cases t2 : b[k] = 13
        · rw [t2] at q1
          have q2 : w.cell? ⟨kb, off + k, none⟩ = some (.int .u8 13) := q1
          clear q1
          by_cases t3 : k + 1 < n
          · have hlb1 : k + 1 < b.length := by have := HN.out; omega
            have q3 : w.cell? ⟨kb, off + (k + 1), none⟩ = some (.int .u8 (b[k + 1].toNat : Int)) := hc (k + 1) hlb1
            have hl : ((k : Int) + 1 == (n : Int)) = false := by simp; omega
            have hl' : ((k : Int) == (n : Int) - 1) = false := by simp; omega
            by_cases t4 : b[k + 1] = 10
            · have HR : Hid (cutV m b = .tuple #[.string ⟨(b.take k).toArray⟩, .int .i64 ((k : Int) + 2), .int .i64 0]) := cutV_hit (hA.out.trans (cutAt_end hlb1 t2 t4))
              rw [t4] at q3
              have q4 : w.cell? ⟨kb, off + (k + 1), none⟩ = some (.int .u8 10) := q3
              have hcv := conv_take (c := c) hc k (by omega)
              clear q3 hc t1 t2 t4 hlb hlb1 H3 hA
              go_wp2
              refine bodyPost_ret (v := .tuple #[.string ⟨(b.take k).toArray⟩, .int .i64 ((k : Int) + 2), .int .i64 0]) (by simp [results, Tryz.results167, go_sem]) rfl ⟨?_, rfl⟩
              rw [HR.out]
            · have HR : Hid (cutV m b = .tuple #[.string ⟨#[]⟩, .int .i64 0, .int .i64 20]) := cutV_miss (hA.out.trans (cutAt_bad hlb1 t2 t4))
              have t5 := toNat_ne 10 10 rfl t4
              have t6 : ¬ ((b[k + 1].toNat : Int) = 10) := t5
              clear t5 hc t1 t2 t4 hlb H3 hA
              generalize (b[k + 1].toNat : Int) = y at *
              have t9 : (y != 10) = true := by simpa using t6
              clear hlb1
              go_wp2
              refine bodyPost_ret (v := .tuple #[.string ⟨#[]⟩, .int .i64 0, .int .i64 20]) (by simp [results, Tryz.results167, go_sem]) rfl ⟨?_, rfl⟩
              rw [HR.out]
          · have HR : Hid (cutV m b = .tuple #[.string ⟨#[]⟩, .int .i64 0, .int .i64 0]) := cutV_miss (hA.out.trans (cutAt_last (by have := HN.out; omega) t2))
            obtain rfl : n = k + 1 := by omega
            clear hc t1 t2 hlb H3 hA
            go_wp2
            refine bodyPost_ret (v := .tuple #[.string ⟨#[]⟩, .int .i64 0, .int .i64 0]) (by simp [results, Tryz.results167, go_sem]) rfl ⟨?_, rfl⟩
            rw [HR.out]
        · have t5 : ¬ ((b[k].toNat : Int) = 10) := toNat_ne 10 10 rfl t1
          have t6 : ¬ ((b[k].toNat : Int) = 13) := toNat_ne 13 13 rfl t2
          by_cases t7 : m ≤ k
          · have HR : Hid (cutV m b = .tuple #[.string ⟨#[]⟩, .int .i64 0, .int .i64 2]) := cutV_miss (hA.out.trans (cutAt_long hlb t1 t2 t7))
            have t8 : max most 0 ≤ (k : Int) := by have := HM.out; omega
            clear hc t1 t2 H3 hA
            generalize (b[k].toNat : Int) = y at *
            clear hlb
            go_wp2
            refine bodyPost_ret (v := .tuple #[.string ⟨#[]⟩, .int .i64 0, .int .i64 2]) (by simp [results, Tryz.results167, go_sem]) rfl ⟨?_, rfl⟩
            rw [HR.out]
          · have HX : Hid (cutAt m 0 b = cutAt m (k + 1) (b.drop (k + 1))) := hA.out.trans (cutAt_next hlb t1 t2 t7)
            have t8 : ¬ max most 0 ≤ (k : Int) := by have := HM.out; omega
            clear hc t1 t2 H3 hA
            generalize (b[k].toNat : Int) = y at *
            clear hlb
            go_wp2
            go_round
            case rel => exact ⟨k + 1, by omega, by go_num, HX⟩
            case measure => simp [intOf]; omega
    · have HR : Hid (cutV m b = .tuple #[.string ⟨#[]⟩, .int .i64 0, .int .i64 0]) := cutV_miss (hA.out.trans (cutAt_fin (by have := HN.out; omega)))
      go_wp2
      refine bodyPost_ret (v := .tuple #[.string ⟨#[]⟩, .int .i64 0, .int .i64 0]) (by simp [results, Tryz.results167, go_sem]) rfl ⟨?_, rfl⟩
      rw [HR.out]
end Go.Proofs.YtajfjjmabncldaaGreatDoor

/- What the reading of numbers answers of every text: sign's and the reference's. -/
namespace Go.Proofs.YtajfjjmabncldaaGreatDoor
open Go.RowKit
set_option linter.unusedVariables false

set_option maxHeartbeats 1000000 in
theorem number16 (s : ByteArray) (w : World) (hs : s.size ≤ maxLen) :
    Calls Tryz.prog 190 #[.string s, .int .i64 16, .int .i64 15] w fun e w' => e = .returned (.tuple #[.int .i64 (numI 16 15 s), .bool (numB 16 15 s)]) ∧ w' = w := by
  unfold maxLen at hs
  by_cases hz : s.size = 0
  · have he := empty_of hz
    subst he
    go_enter Tryz.func190, Tryz.ntmps190
    go_wp2
    go_ret2
    exact ⟨ret2_ib (num_out (.inl rfl)).1.symm (num_out (.inl rfl)).2.symm, rfl⟩
  · have hne := isEmpty_of hz
    by_cases hm : (15 : Int) < (s.size : Int)
    · have E : Hid (numI 16 15 s = 0 ∧ numB 16 15 s = false) := num_out (.inr (by omega))
      go_enter Tryz.func190, Tryz.ntmps190
      go_wp2
      go_ret2
      exact ⟨ret2_ib E.out.1.symm E.out.2.symm, rfl⟩
    · have hout : Hid (¬ (s.size = 0 ∨ 15 < s.size)) := by rw [Hid]; omega
      clear hz
      go_enter Tryz.func190, Tryz.ntmps190
      go_wp2
      go_loop [8, 21] (fun vn vi => ∃ k n : Nat, k ≤ s.size ∧ vi = .int .i64 k ∧ vn = .int .i64 n ∧ Hid (vN 16 (s.data.toList.take k) = some n)) (fun _ vi => s.size - (intOf vi).toNat)
      case atStart => exact ⟨0, 0, Nat.zero_le _, rfl, rfl, rfl⟩
      case round =>
        obtain ⟨k, n, hk, rfl, rfl, hv⟩ := hrel
        by_cases hlt : k < s.size
        · have bd := byte_bd s[k]
          have hn : n < 72057594037927936 := vN_take_lt 16 14 (by decide) s k (by omega) n hv.out
          have hd := dgI_bd (s[k].toNat : Int)
          have HD : Hid (((dgN s[k] : Nat) : Int) = dgI (s[k].toNat : Int)) := dgN_cast s[k]
          go_wp2_with fail
          refine (digit_any _ _ bd.1 bd.2).mono ?_
          rintro e w' ⟨rfl, rfl⟩
          by_cases hb : 16 ≤ dgI (s[k].toNat : Int)
          · have E : Hid (numI 16 15 s = 0 ∧ numB 16 15 s = false) := num_bad (vN_bad_at 16 s k hlt (by have := HD.out; omega))
            go_wp2
            go_ret2
            exact ⟨ret2_ib E.out.1.symm E.out.2.symm, rfl⟩
          · have E : Hid (vN 16 (s.data.toList.take (k + 1)) = some (n * 16 + dgN s[k])) := vN_next 16 s k hlt n hv.out (by have := HD.out; omega)
            go_wp2
            go_round
            case rel => exact ⟨k + 1, n * 16 + dgN s[k], by omega, by go_num, by have := HD.out; rw [Int.natCast_add, Int.natCast_mul, this]; rfl, E⟩
            case measure => simp [intOf]; omega
        · go_wp2
          go_ret2
          have hk' : k = s.size := by omega
          subst hk'
          have h := hv.out
          rw [List.take_of_length_le (by simp)] at h
          exact ⟨ret2_ib (num_ok hout.out h).1.symm (num_ok hout.out h).2.symm, rfl⟩

theorem hex_any (s : ByteArray) (w : World) (hs : s.size ≤ maxLen) :
    Calls Tryz.prog 198 #[.string s] w fun e w' => e = .returned (.tuple #[.int .i64 (numI 16 15 s), .bool (numB 16 15 s)]) ∧ w' = w := by
  go_enter Tryz.func198, Tryz.ntmps198
  go_wp2_with fail
  refine (number16 s _ hs).mono ?_
  rintro e w' ⟨rfl, rfl⟩
  go_wp2
  go_ret2
  exact ⟨rfl, rfl⟩

end Go.Proofs.YtajfjjmabncldaaGreatDoor

/- A span of bytes. -/
namespace Go.Proofs.YtajfjjmabncldaaGreatDoor
open Go.RowKit
set_option linter.unusedVariables false

def spanP (lo hi c : Int) : Bool := decide (lo ≤ c) && decide (c ≤ hi)
end Go.Proofs.YtajfjjmabncldaaGreatDoor

/- All bytes of a text. -/
namespace Go.Proofs.YtajfjjmabncldaaGreatDoor
open Go.RowKit
set_option linter.unusedVariables false

/-- All bytes of a text. -/
def allB (p : Int → Bool) (l : List UInt8) : Bool := l.all fun b => p (b.toNat : Int)

theorem allB_snoc {p : Int → Bool} (s : ByteArray) (k : Nat) (h : k < s.size) (ha : allB p (s.data.toList.take k) = true) (hc : p (s[k].toNat : Int) = true) : allB p (s.data.toList.take (k + 1)) = true := by
  rw [take_snoc s k h]; unfold allB at *; rw [List.all_append, ha]; simp [hc]
theorem allB_false {p : Int → Bool} (s : ByteArray) (k : Nat) (h : k < s.size) (hc : p (s[k].toNat : Int) = false) : allB p s.data.toList = false := by
  unfold allB
  rw [List.all_eq_false]
  exact ⟨s[k], by rw [show s[k] = s.data.toList[k]'(by simpa using h) from rfl]; exact List.getElem_mem _, by simp [hc]⟩

end Go.Proofs.YtajfjjmabncldaaGreatDoor

/- The closures of package sign: which bytes each lets stand. -/
namespace Go.Proofs.YtajfjjmabncldaaGreatDoor
open Go.RowKit
set_option linter.unusedVariables false

theorem sblk_lt {w : World} {b : Nat} {o : Obj} (h : w.heap[b]? = some o) : b < w.heap.size := (Array.getElem?_eq_some_iff.1 h).1
theorem sblk_new (w : World) (o : Obj) : (w.alloc o).heap[w.heap.size]? = some o := by
  show (w.heap.push o)[w.heap.size]? = _; simp
theorem sblk_alloc {w : World} {b : Nat} {o : Obj} (h : w.heap[b]? = some o) (o' : Obj) : (w.alloc o').heap[b]? = some o := by
  rw [Below.heap_alloc _ _ _ (sblk_lt h)]; exact h
theorem sblk_cell {w : World} {b i : Nat} {c : Array Value} {t : TypeId} {v : Value} (h : w.heap[b]? = some (.cells c t)) (hv : c[i]? = some v) : w.cell? ⟨b, i, none⟩ = some v := by
  simp [World.cell?, h, hv]
theorem sblk_below {w w' : World} {b : Nat} {o : Obj} (h : w.heap[b]? = some o) (k : Below w.heap.size w w') : w'.heap[b]? = some o := (k.block b (sblk_lt h)).trans h

/-- A byte from lo to hi. -/
theorem span_call (lo hi c : Int) (p q : Nat) (w : World) (h1 : w.heap[p]? = some (.cells #[.int .u8 lo] 5)) (h2 : w.heap[q]? = some (.cells #[.int .u8 hi] 5)) :
    Calls Tryz.prog 192 #[.int .u8 c, .pointer (some ⟨p, 0, none⟩), .pointer (some ⟨q, 0, none⟩)] w fun e w' => e = .returned (.bool (spanP lo hi c)) ∧ w' = w := by
  have c1 : w.cell? ⟨p, 0, none⟩ = some (.int .u8 lo) := sblk_cell h1 rfl
  have c2 : w.cell? ⟨q, 0, none⟩ = some (.int .u8 hi) := sblk_cell h2 rfl
  clear h1 h2
  unfold spanP
  by_cases k : lo ≤ c
  · rw [decide_eq_true k]
    go_enter Tryz.func192, Tryz.ntmps192
    go_wp2
    go_ret
    exact ⟨by simp, rfl⟩
  · rw [decide_eq_false k]
    go_enter Tryz.func192, Tryz.ntmps192
    go_wp2
    go_ret
    exact ⟨rfl, rfl⟩

/-- A byte of a text. -/
def amongP (s : ByteArray) (c : Int) : Bool := decide (0 ≤ Lib.indexByte s.data.toList c.toNat.toUInt8)
theorem indexByte_run (s : ByteArray) (c : Int) (w : World) : (callFunc 230 #[.string s, .int .u8 c]).run Tryz.prog w = .ok (.value (.int .i64 (Lib.indexByte s.data.toList c.toNat.toUInt8))) w := by
  rw [run_callFunc_extern Tryz.func230 (by kernel_rfl) (by kernel_rfl) (by kernel_rfl) (show Extern.find Tryz.f230 = some Extern.BytealgIndexByte.indexByte by kernel_rfl), Lib.run_indexByteString]
  rfl
theorem among_call (s : ByteArray) (c : Int) (p : Nat) (w : World) (h1 : w.heap[p]? = some (.cells #[.string s] 9)) :
    Calls Tryz.prog 193 #[.int .u8 c, .pointer (some ⟨p, 0, none⟩)] w fun e w' => e = .returned (.bool (amongP s c)) ∧ w' = w := by
  have c1 : w.cell? ⟨p, 0, none⟩ = some (.string s) := sblk_cell h1 rfl
  clear h1
  have hr := indexByte_run
  unfold amongP
  go_enter Tryz.func193, Tryz.ntmps193
  go_wp2
  go_ret
  exact ⟨by simp, rfl⟩

theorem span_any (lo hi : Int) (w : World) : Calls Tryz.prog 165 #[.int .u8 lo, .int .u8 hi] w fun e w' => ∃ p q : Nat, e = .returned (.func (.func 192) #[] #[.pointer (some ⟨p, 0, none⟩), .pointer (some ⟨q, 0, none⟩)]) ∧
    w'.heap[p]? = some (.cells #[.int .u8 lo] 5) ∧ w'.heap[q]? = some (.cells #[.int .u8 hi] 5) ∧ Below w.heap.size w w' := by
  have hmf : ∀ (fn : Fn) (first cap : Array Value) (w : World), (Instr.makeFunc fn first cap).run Tryz.prog w = .ok (.func fn first cap) w := fun _ _ _ _ => rfl
  go_enter Tryz.func165, Tryz.ntmps165
  go_wp2
  go_ret
  refine ⟨_, _, rfl, sblk_alloc (sblk_new _ _) _, ?_, ((Below.refl _ _).alloc (Nat.le_refl _) _).alloc (by simp) _⟩
  have h := sblk_new (w.alloc (.cells #[.int .u8 lo] 5)) (.cells #[.int .u8 hi] 5)
  rw [show (w.alloc (.cells #[.int .u8 lo] 5)).heap.size = w.heap.size + 1 from by simp] at h
  exact h

theorem among_any (s : ByteArray) (w : World) : Calls Tryz.prog 166 #[.string s] w fun e w' => ∃ p : Nat, e = .returned (.func (.func 193) #[] #[.pointer (some ⟨p, 0, none⟩)]) ∧
    w'.heap[p]? = some (.cells #[.string s] 9) ∧ Below w.heap.size w w' := by
  have hmf : ∀ (fn : Fn) (first cap : Array Value) (w : World), (Instr.makeFunc fn first cap).run Tryz.prog w = .ok (.func fn first cap) w := fun _ _ _ _ => rfl
  go_enter Tryz.func166, Tryz.ntmps166
  go_wp2
  go_ret
  exact ⟨_, rfl, sblk_new _ _, (Below.refl _ _).alloc (Nat.le_refl _) _⟩

theorem either_any (b n c : Nat) (w : World) : Calls Tryz.prog 164 #[.slice (some ⟨b, 0, none⟩) n c] w fun e w' => ∃ p : Nat, e = .returned (.func (.func 191) #[] #[.pointer (some ⟨p, 0, none⟩)]) ∧
    w'.heap[p]? = some (.cells #[.slice (some ⟨b, 0, none⟩) n c] 196) ∧ Below w.heap.size w w' := by
  have hmf : ∀ (fn : Fn) (first cap : Array Value) (w : World), (Instr.makeFunc fn first cap).run Tryz.prog w = .ok (.func fn first cap) w := fun _ _ _ _ => rfl
  go_enter Tryz.func164, Tryz.ntmps164
  go_wp2
  go_ret
  exact ⟨_, rfl, sblk_new _ _, (Below.refl _ _).alloc (Nat.le_refl _) _⟩

set_option maxHeartbeats 1000000 in
theorem all49 (s : ByteArray) (a : Value) (p : Int → Bool) (w : World) (hs : s.size ≤ maxLen)
    (hp : ∀ c : Int, 0 ≤ c → c < 256 → Calls Tryz.prog 191 #[.int .u8 c, a] w fun e w' => e = .returned (.bool (p c)) ∧ w' = w) :
    Calls Tryz.prog 163 #[.string s, .func (.func 191) #[] #[a]] w fun e w' => e = .returned (.bool (allB p s.data.toList)) ∧ w' = w := by
  unfold maxLen at hs
  have HP : Hid (∀ c : Int, 0 ≤ c → c < 256 → Calls Tryz.prog 191 #[.int .u8 c, a] w fun e w' => e = .returned (.bool (p c)) ∧ w' = w) := hp
  clear hp
  go_enter Tryz.func163, Tryz.ntmps163
  go_wp2
  go_loop [8] (fun i => ∃ k : Nat, k ≤ s.size ∧ i = .int .i64 k ∧ Hid (allB p (s.data.toList.take k) = true)) (fun i => s.size - (intOf i).toNat)
  case atStart => exact ⟨0, Nat.zero_le _, rfl, rfl⟩
  case round =>
    obtain ⟨k, hk, rfl, hA⟩ := hrel
    by_cases hlt : k < s.size
    · go_wp2_with fail
      refine (HP.out _ (by omega) (by have := s[k].toNat_lt; omega)).mono ?_
      rintro e w' ⟨rfl, rfl⟩
      cases hpc : p (s[k].toNat : Int)
      · have HC : Hid (p (s[k].toNat : Int) = false) := hpc
        clear hpc
        go_wp2
        go_ret
        exact ⟨ret_b (allB_false s k hlt HC.out).symm, rfl⟩
      · have HC : Hid (p (s[k].toNat : Int) = true) := hpc
        clear hpc
        go_wp2
        go_round
        case rel => exact ⟨k + 1, by omega, by go_num, allB_snoc s k hlt hA.out HC.out⟩
        case measure => simp [intOf]; omega
    · go_wp2
      go_ret
      have hk' : k = s.size := by omega
      subst hk'
      exact ⟨ret_b (by have h := hA.out; rw [List.take_of_length_le (by simp)] at h; exact h.symm), rfl⟩

set_option maxHeartbeats 1000000 in
theorem all50 (s : ByteArray) (a b : Value) (p : Int → Bool) (w : World) (hs : s.size ≤ maxLen)
    (hp : ∀ c : Int, 0 ≤ c → c < 256 → Calls Tryz.prog 192 #[.int .u8 c, a, b] w fun e w' => e = .returned (.bool (p c)) ∧ w' = w) :
    Calls Tryz.prog 163 #[.string s, .func (.func 192) #[] #[a, b]] w fun e w' => e = .returned (.bool (allB p s.data.toList)) ∧ w' = w := by
  unfold maxLen at hs
  have HP : Hid (∀ c : Int, 0 ≤ c → c < 256 → Calls Tryz.prog 192 #[.int .u8 c, a, b] w fun e w' => e = .returned (.bool (p c)) ∧ w' = w) := hp
  clear hp
  go_enter Tryz.func163, Tryz.ntmps163
  go_wp2
  go_loop [8] (fun i => ∃ k : Nat, k ≤ s.size ∧ i = .int .i64 k ∧ Hid (allB p (s.data.toList.take k) = true)) (fun i => s.size - (intOf i).toNat)
  case atStart => exact ⟨0, Nat.zero_le _, rfl, rfl⟩
  case round =>
    obtain ⟨k, hk, rfl, hA⟩ := hrel
    by_cases hlt : k < s.size
    · go_wp2_with fail
      refine (HP.out _ (by omega) (by have := s[k].toNat_lt; omega)).mono ?_
      rintro e w' ⟨rfl, rfl⟩
      cases hpc : p (s[k].toNat : Int)
      · have HC : Hid (p (s[k].toNat : Int) = false) := hpc
        clear hpc
        go_wp2
        go_ret
        exact ⟨ret_b (allB_false s k hlt HC.out).symm, rfl⟩
      · have HC : Hid (p (s[k].toNat : Int) = true) := hpc
        clear hpc
        go_wp2
        go_round
        case rel => exact ⟨k + 1, by omega, by go_num, allB_snoc s k hlt hA.out HC.out⟩
        case measure => simp [intOf]; omega
    · go_wp2
      go_ret
      have hk' : k = s.size := by omega
      subst hk'
      exact ⟨ret_b (by have h := hA.out; rw [List.take_of_length_le (by simp)] at h; exact h.symm), rfl⟩

end Go.Proofs.YtajfjjmabncldaaGreatDoor

/- Token, Value and Target: what each answers of every text. -/
namespace Go.Proofs.YtajfjjmabncldaaGreatDoor
open Go.RowKit
set_option linter.unusedVariables false

/-- A token's signs; the tab. -/
def sgn : ByteArray := ⟨#[33, 35, 36, 37, 38, 39, 42, 43, 45, 46, 94, 95, 96, 124, 126]⟩
def tab : ByteArray := ⟨#[9]⟩

/-- Which bytes these closures together let stand. -/
def tokP (c : Int) : Bool := spanP 97 122 c || spanP 65 90 c || spanP 48 57 c || amongP sgn c
set_option maxHeartbeats 2000000 in
theorem either4 (c : Int) (r b cap : Nat) (p0 q0 : Nat) (p1 q1 : Nat) (p2 q2 : Nat) (p3 : Nat) (w : World) (hr : w.heap[r]? = some (.cells #[.slice (some ⟨b, 0, none⟩) 4 cap] 196))
    (hb : w.heap[b]? = some (.cells #[.func (.func 192) #[] #[.pointer (some ⟨p0, 0, none⟩), .pointer (some ⟨q0, 0, none⟩)], .func (.func 192) #[] #[.pointer (some ⟨p1, 0, none⟩), .pointer (some ⟨q1, 0, none⟩)], .func (.func 192) #[] #[.pointer (some ⟨p2, 0, none⟩), .pointer (some ⟨q2, 0, none⟩)], .func (.func 193) #[] #[.pointer (some ⟨p3, 0, none⟩)]] 143)) (h0 : w.heap[p0]? = some (.cells #[.int .u8 97] 5)) (k0 : w.heap[q0]? = some (.cells #[.int .u8 122] 5)) (h1 : w.heap[p1]? = some (.cells #[.int .u8 65] 5)) (k1 : w.heap[q1]? = some (.cells #[.int .u8 90] 5)) (h2 : w.heap[p2]? = some (.cells #[.int .u8 48] 5)) (k2 : w.heap[q2]? = some (.cells #[.int .u8 57] 5)) (h3 : w.heap[p3]? = some (.cells #[.string sgn] 9)) :
    Calls Tryz.prog 191 #[.int .u8 c, .pointer (some ⟨r, 0, none⟩)] w fun e w' => e = .returned (.bool (tokP c)) ∧ w' = w := by
  have cr : w.cell? ⟨r, 0, none⟩ = some (.slice (some ⟨b, 0, none⟩) 4 cap) := sblk_cell hr rfl
  have b0 : w.cell? ⟨b, 0, none⟩ = some (.func (.func 192) #[] #[.pointer (some ⟨p0, 0, none⟩), .pointer (some ⟨q0, 0, none⟩)]) := sblk_cell hb rfl
  have b1 : w.cell? ⟨b, 1, none⟩ = some (.func (.func 192) #[] #[.pointer (some ⟨p1, 0, none⟩), .pointer (some ⟨q1, 0, none⟩)]) := sblk_cell hb rfl
  have b2 : w.cell? ⟨b, 2, none⟩ = some (.func (.func 192) #[] #[.pointer (some ⟨p2, 0, none⟩), .pointer (some ⟨q2, 0, none⟩)]) := sblk_cell hb rfl
  have b3 : w.cell? ⟨b, 3, none⟩ = some (.func (.func 193) #[] #[.pointer (some ⟨p3, 0, none⟩)]) := sblk_cell hb rfl
  clear hr hb
  unfold tokP
  go_enter Tryz.func191, Tryz.ntmps191
  go_wp2
  refine wp_loop_rounds 5 ?_
  rw [rounds_succ]
  go_wp2_with fail
  refine (span_call 97 122 c p0 q0 _ h0 k0).mono ?_
  rintro e w1 ⟨rfl, rfl⟩
  cases e0 : spanP 97 122 c
  case true =>
    go_wp2
    go_ret
    exact ⟨ret_b (by simp [e0]), rfl⟩
  case false =>
    go_wp2
    rw [rounds_succ]
    go_wp2_with fail
    refine (span_call 65 90 c p1 q1 _ h1 k1).mono ?_
    rintro e w1 ⟨rfl, rfl⟩
    cases e1 : spanP 65 90 c
    case true =>
      go_wp2
      go_ret
      exact ⟨ret_b (by simp [e1]), rfl⟩
    case false =>
      go_wp2
      rw [rounds_succ]
      go_wp2_with fail
      refine (span_call 48 57 c p2 q2 _ h2 k2).mono ?_
      rintro e w1 ⟨rfl, rfl⟩
      cases e2 : spanP 48 57 c
      case true =>
        go_wp2
        go_ret
        exact ⟨ret_b (by simp [e2]), rfl⟩
      case false =>
        go_wp2
        rw [rounds_succ]
        go_wp2_with fail
        refine (among_call sgn c p3 _ h3).mono ?_
        rintro e w1 ⟨rfl, rfl⟩
        cases e3 : amongP sgn c
        case true =>
          go_wp2
          go_ret
          exact ⟨ret_b (by simp [e3]), rfl⟩
        case false =>
          go_wp2
          rw [rounds_succ]
          go_wp2
          go_ret
          exact ⟨ret_b (by simp [e0, e1, e2, e3]), rfl⟩

/-- Which bytes these closures together let stand. -/
def valP (c : Int) : Bool := spanP 32 126 c || spanP 128 255 c || amongP tab c
set_option maxHeartbeats 2000000 in
theorem either3 (c : Int) (r b cap : Nat) (p0 q0 : Nat) (p1 q1 : Nat) (p2 : Nat) (w : World) (hr : w.heap[r]? = some (.cells #[.slice (some ⟨b, 0, none⟩) 3 cap] 196))
    (hb : w.heap[b]? = some (.cells #[.func (.func 192) #[] #[.pointer (some ⟨p0, 0, none⟩), .pointer (some ⟨q0, 0, none⟩)], .func (.func 192) #[] #[.pointer (some ⟨p1, 0, none⟩), .pointer (some ⟨q1, 0, none⟩)], .func (.func 193) #[] #[.pointer (some ⟨p2, 0, none⟩)]] 143)) (h0 : w.heap[p0]? = some (.cells #[.int .u8 32] 5)) (k0 : w.heap[q0]? = some (.cells #[.int .u8 126] 5)) (h1 : w.heap[p1]? = some (.cells #[.int .u8 128] 5)) (k1 : w.heap[q1]? = some (.cells #[.int .u8 255] 5)) (h2 : w.heap[p2]? = some (.cells #[.string tab] 9)) :
    Calls Tryz.prog 191 #[.int .u8 c, .pointer (some ⟨r, 0, none⟩)] w fun e w' => e = .returned (.bool (valP c)) ∧ w' = w := by
  have cr : w.cell? ⟨r, 0, none⟩ = some (.slice (some ⟨b, 0, none⟩) 3 cap) := sblk_cell hr rfl
  have b0 : w.cell? ⟨b, 0, none⟩ = some (.func (.func 192) #[] #[.pointer (some ⟨p0, 0, none⟩), .pointer (some ⟨q0, 0, none⟩)]) := sblk_cell hb rfl
  have b1 : w.cell? ⟨b, 1, none⟩ = some (.func (.func 192) #[] #[.pointer (some ⟨p1, 0, none⟩), .pointer (some ⟨q1, 0, none⟩)]) := sblk_cell hb rfl
  have b2 : w.cell? ⟨b, 2, none⟩ = some (.func (.func 193) #[] #[.pointer (some ⟨p2, 0, none⟩)]) := sblk_cell hb rfl
  clear hr hb
  unfold valP
  go_enter Tryz.func191, Tryz.ntmps191
  go_wp2
  refine wp_loop_rounds 4 ?_
  rw [rounds_succ]
  go_wp2_with fail
  refine (span_call 32 126 c p0 q0 _ h0 k0).mono ?_
  rintro e w1 ⟨rfl, rfl⟩
  cases e0 : spanP 32 126 c
  case true =>
    go_wp2
    go_ret
    exact ⟨ret_b (by simp [e0]), rfl⟩
  case false =>
    go_wp2
    rw [rounds_succ]
    go_wp2_with fail
    refine (span_call 128 255 c p1 q1 _ h1 k1).mono ?_
    rintro e w1 ⟨rfl, rfl⟩
    cases e1 : spanP 128 255 c
    case true =>
      go_wp2
      go_ret
      exact ⟨ret_b (by simp [e1]), rfl⟩
    case false =>
      go_wp2
      rw [rounds_succ]
      go_wp2_with fail
      refine (among_call tab c p2 _ h2).mono ?_
      rintro e w1 ⟨rfl, rfl⟩
      cases e2 : amongP tab c
      case true =>
        go_wp2
        go_ret
        exact ⟨ret_b (by simp [e2]), rfl⟩
      case false =>
        go_wp2
        rw [rounds_succ]
        go_wp2
        go_ret
        exact ⟨ret_b (by simp [e0, e1, e2]), rfl⟩

end Go.Proofs.YtajfjjmabncldaaGreatDoor

/- Token: what it answers of every text. -/
namespace Go.Proofs.YtajfjjmabncldaaGreatDoor
open Go.RowKit
set_option linter.unusedVariables false

set_option maxHeartbeats 2000000 in
theorem token_any (s : ByteArray) (w : World) (hs : s.size ≤ maxLen) :
    Calls Tryz.prog 132 #[.string s] w fun e w' => e = .returned (.bool (allB tokP s.data.toList && decide (0 < s.size))) ∧ Below w.heap.size w w' := by
  by_cases hz : s.size = 0
  · have he := empty_of hz
    subst he
    go_enter Tryz.func132, Tryz.ntmps132
    go_wp2
    go_ret
    exact ⟨rfl, Below.refl _ _⟩
  · have HZ : Hid (decide (0 < s.size) = true) := by rw [Hid]; simp; omega
    have hne := isEmpty_of hz
    clear hz
    rw [HZ.out]
    go_enter Tryz.func132, Tryz.ntmps132
    go_wp2_with fail
    refine (span_any 97 122 _).mono ?_
    rintro e w1 ⟨p0, q0, rfl, h0, k0, B1⟩
    go_wp2_with fail
    refine (span_any 65 90 _).mono ?_
    rintro e w2 ⟨p1, q1, rfl, h1, k1, B2⟩
    go_wp2_with fail
    refine (span_any 48 57 _).mono ?_
    rintro e w3 ⟨p2, q2, rfl, h2, k2, B3⟩
    go_wp2_with fail
    refine (among_any sgn _).mono ?_
    rintro e w4 ⟨p3, rfl, h3, B4⟩
    go_wp2_with fail
    have hb := sblk_new w4 (.cells #[.func (.func 192) #[] #[.pointer (some ⟨p0, 0, none⟩), .pointer (some ⟨q0, 0, none⟩)], .func (.func 192) #[] #[.pointer (some ⟨p1, 0, none⟩), .pointer (some ⟨q1, 0, none⟩)], .func (.func 192) #[] #[.pointer (some ⟨p2, 0, none⟩), .pointer (some ⟨q2, 0, none⟩)], .func (.func 193) #[] #[.pointer (some ⟨p3, 0, none⟩)]] 143)
    have B5 := (Below.refl w4.heap.size w4).alloc (Nat.le_refl _) (.cells #[.func (.func 192) #[] #[.pointer (some ⟨p0, 0, none⟩), .pointer (some ⟨q0, 0, none⟩)], .func (.func 192) #[] #[.pointer (some ⟨p1, 0, none⟩), .pointer (some ⟨q1, 0, none⟩)], .func (.func 192) #[] #[.pointer (some ⟨p2, 0, none⟩), .pointer (some ⟨q2, 0, none⟩)], .func (.func 193) #[] #[.pointer (some ⟨p3, 0, none⟩)]] 143)
    refine (either_any w4.heap.size 4 4 (w4.alloc (.cells #[.func (.func 192) #[] #[.pointer (some ⟨p0, 0, none⟩), .pointer (some ⟨q0, 0, none⟩)], .func (.func 192) #[] #[.pointer (some ⟨p1, 0, none⟩), .pointer (some ⟨q1, 0, none⟩)], .func (.func 192) #[] #[.pointer (some ⟨p2, 0, none⟩), .pointer (some ⟨q2, 0, none⟩)], .func (.func 193) #[] #[.pointer (some ⟨p3, 0, none⟩)]] 143))).mono ?_
    generalize w4.alloc (.cells #[.func (.func 192) #[] #[.pointer (some ⟨p0, 0, none⟩), .pointer (some ⟨q0, 0, none⟩)], .func (.func 192) #[] #[.pointer (some ⟨p1, 0, none⟩), .pointer (some ⟨q1, 0, none⟩)], .func (.func 192) #[] #[.pointer (some ⟨p2, 0, none⟩), .pointer (some ⟨q2, 0, none⟩)], .func (.func 193) #[] #[.pointer (some ⟨p3, 0, none⟩)]] 143) = w5 at *
    rintro e w6 ⟨r, rfl, hr, B6⟩
    have D4 := B5.trans (B6.mono B5.size)
    have D3 := B4.trans (D4.mono B4.size)
    have D2 := B3.trans (D3.mono B3.size)
    have D1 := B2.trans (D2.mono B2.size)
    have D0 := B1.trans (D1.mono B1.size)
    have H := fun c (_ : (0 : Int) ≤ c) (_ : c < 256) => either4 c r w4.heap.size 4 p0 q0 p1 q1 p2 q2 p3 w6 hr (sblk_below hb B6) (sblk_below h0 D1) (sblk_below k0 D1) (sblk_below h1 D2) (sblk_below k1 D2) (sblk_below h2 D3) (sblk_below k2 D3) (sblk_below h3 D4)
    have HA : Hid (Calls Tryz.prog 163 #[.string s, .func (.func 191) #[] #[.pointer (some ⟨r, 0, none⟩)]] w6 fun e w' => e = .returned (.bool (allB tokP s.data.toList)) ∧ w' = w6) := all49 s _ tokP w6 hs H
    clear H h0 k0 h1 k1 h2 k2 h3 hb hr B1 B2 B3 B4 B5 B6 D1 D2 D3 D4
    go_wp2_with fail
    refine HA.out.mono ?_
    rintro e w7 ⟨rfl, rfl⟩
    go_wp2
    go_ret
    exact ⟨ret_b (by simp), D0⟩
end Go.Proofs.YtajfjjmabncldaaGreatDoor

/- Token and Value: what each answers of every text. -/
namespace Go.Proofs.YtajfjjmabncldaaGreatDoor
open Go.RowKit
set_option linter.unusedVariables false

set_option maxHeartbeats 1000000 in
theorem value_any (s : ByteArray) (w : World) (hs : s.size ≤ maxLen) :
    Calls Tryz.prog 178 #[.string s] w fun e w' => e = .returned (.bool (allB valP s.data.toList)) ∧ Below w.heap.size w w' := by
  go_enter Tryz.func178, Tryz.ntmps178
  go_wp2_with fail
  refine (span_any 32 126 _).mono ?_
  rintro e w1 ⟨p0, q0, rfl, h0, k0, B1⟩
  go_wp2_with fail
  refine (span_any 128 255 _).mono ?_
  rintro e w2 ⟨p1, q1, rfl, h1, k1, B2⟩
  go_wp2_with fail
  refine (among_any tab _).mono ?_
  rintro e w3 ⟨p2, rfl, h2, B3⟩
  go_wp2_with fail
  have hb := sblk_new w3 (.cells #[.func (.func 192) #[] #[.pointer (some ⟨p0, 0, none⟩), .pointer (some ⟨q0, 0, none⟩)], .func (.func 192) #[] #[.pointer (some ⟨p1, 0, none⟩), .pointer (some ⟨q1, 0, none⟩)], .func (.func 193) #[] #[.pointer (some ⟨p2, 0, none⟩)]] 143)
  have B4 := (Below.refl w3.heap.size w3).alloc (Nat.le_refl _) (.cells #[.func (.func 192) #[] #[.pointer (some ⟨p0, 0, none⟩), .pointer (some ⟨q0, 0, none⟩)], .func (.func 192) #[] #[.pointer (some ⟨p1, 0, none⟩), .pointer (some ⟨q1, 0, none⟩)], .func (.func 193) #[] #[.pointer (some ⟨p2, 0, none⟩)]] 143)
  refine (either_any w3.heap.size 3 3 (w3.alloc (.cells #[.func (.func 192) #[] #[.pointer (some ⟨p0, 0, none⟩), .pointer (some ⟨q0, 0, none⟩)], .func (.func 192) #[] #[.pointer (some ⟨p1, 0, none⟩), .pointer (some ⟨q1, 0, none⟩)], .func (.func 193) #[] #[.pointer (some ⟨p2, 0, none⟩)]] 143))).mono ?_
  generalize w3.alloc (.cells #[.func (.func 192) #[] #[.pointer (some ⟨p0, 0, none⟩), .pointer (some ⟨q0, 0, none⟩)], .func (.func 192) #[] #[.pointer (some ⟨p1, 0, none⟩), .pointer (some ⟨q1, 0, none⟩)], .func (.func 193) #[] #[.pointer (some ⟨p2, 0, none⟩)]] 143) = w4 at *
  rintro e w5 ⟨r, rfl, hr, B5⟩
  have D3 := B4.trans (B5.mono B4.size)
  have D2 := B3.trans (D3.mono B3.size)
  have D1 := B2.trans (D2.mono B2.size)
  have D0 := B1.trans (D1.mono B1.size)
  have H := fun c (_ : (0 : Int) ≤ c) (_ : c < 256) => either3 c r w3.heap.size 3 p0 q0 p1 q1 p2 w5 hr (sblk_below hb B5) (sblk_below h0 D1) (sblk_below k0 D1) (sblk_below h1 D2) (sblk_below k1 D2) (sblk_below h2 D3)
  have HA : Hid (Calls Tryz.prog 163 #[.string s, .func (.func 191) #[] #[.pointer (some ⟨r, 0, none⟩)]] w5 fun e w' => e = .returned (.bool (allB valP s.data.toList)) ∧ w' = w5) := all49 s _ valP w5 hs H
  clear H h0 k0 h1 k1 h2 hb hr B1 B2 B3 B4 B5 D1 D2 D3
  go_wp2_with fail
  refine HA.out.mono ?_
  rintro e w6 ⟨rfl, rfl⟩
  go_wp2
  go_ret
  exact ⟨rfl, D0⟩


end Go.Proofs.YtajfjjmabncldaaGreatDoor

/- Fields: which are right; a line read and told. -/
namespace Go.Proofs.YtajfjjmabncldaaGreatDoor
open Go.RowKit
set_option linter.unusedVariables false

def eqT (a b : ByteArray) : Bool := a.toList == b.toList
def okName (n : ByteArray) : Bool := decide (n.size ≤ 100) && (allB tokP n.data.toList && decide (0 < n.size))
def okVal (v : ByteArray) : Bool := (decide (v.size ≤ 1000) && allB valP v.data.toList) && eqT (trimT v) v
def okF (n v : ByteArray) : Bool := okName n && okVal v
/-- A field, as a value. -/
def fv (n v : ByteArray) : Value := .agg #[.string n, .string v]

set_option maxHeartbeats 1000000 in
theorem rn_any (n : ByteArray) (w : World) (hs : n.size ≤ 140737488355328) : Calls Tryz.prog 161 #[.string n] w fun e w' => e = .returned (.bool (okName n)) ∧ Below w.heap.size w w' := by
  have HT := token_any n w (by unfold maxLen; omega)
  unfold okName
  generalize (allB tokP n.data.toList && decide (0 < n.size)) = t at *
  have HT2 : Hid (Calls Tryz.prog 132 #[.string n] w fun e w' => e = .returned (.bool t) ∧ Below w.heap.size w w') := HT
  clear HT
  by_cases h : n.size ≤ 100
  · have h' : (n.size : Int) ≤ 100 := by omega
    rw [decide_eq_true h, Bool.true_and]
    clear h
    go_enter Tryz.func161, Tryz.ntmps161
    go_wp2_with fail
    refine HT2.out.mono ?_
    rintro e w1 ⟨rfl, B1⟩
    go_wp2
    go_ret
    exact ⟨rfl, B1⟩
  · have h' : ¬ (n.size : Int) ≤ 100 := by omega
    rw [decide_eq_false h, Bool.false_and]
    clear h
    go_enter Tryz.func161, Tryz.ntmps161
    go_wp2
    go_ret
    exact ⟨rfl, Below.refl _ _⟩

set_option maxHeartbeats 1000000 in
theorem rv_any (v : ByteArray) (w : World) (hs : v.size ≤ 140737488355328) : Calls Tryz.prog 162 #[.string v] w fun e w' => e = .returned (.bool (okVal v)) ∧ Below w.heap.size w w' := by
  have HV := value_any v w (by unfold maxLen; omega)
  have HT := fun w => trim_any v w hs
  unfold okVal eqT
  by_cases h : v.size ≤ 1000
  · have h' : (v.size : Int) ≤ 1000 := by omega
    rw [decide_eq_true h, Bool.true_and]
    clear h
    generalize trimT v = T at *
    cases hv : allB valP v.data.toList
    · rw [hv] at HV
      have HV2 : Hid (Calls Tryz.prog 178 #[.string v] w fun e w' => e = .returned (.bool false) ∧ Below w.heap.size w w') := HV
      clear HV HT hv
      rw [Bool.false_and]
      go_enter Tryz.func162, Tryz.ntmps162
      go_wp2_with fail
      refine HV2.out.mono ?_
      rintro e w1 ⟨rfl, B1⟩
      go_wp2
      go_ret
      exact ⟨rfl, B1⟩
    · rw [hv] at HV
      have HV2 : Hid (Calls Tryz.prog 178 #[.string v] w fun e w' => e = .returned (.bool true) ∧ Below w.heap.size w w') := HV
      have HT2 : Hid (∀ w, Calls Tryz.prog 154 #[.string v] w fun e w' => e = .returned (.string T) ∧ Below w.heap.size w w') := HT
      clear HV HT hv
      rw [Bool.true_and]
      go_enter Tryz.func162, Tryz.ntmps162
      go_wp2_with fail
      refine HV2.out.mono ?_
      rintro e w1 ⟨rfl, B1⟩
      go_wp2_with fail
      refine (HT2.out w1).mono ?_
      rintro e w2 ⟨rfl, B2⟩
      go_wp2
      go_ret
      exact ⟨rfl, B1.trans (B2.mono B1.size)⟩
  · have h' : ¬ (v.size : Int) ≤ 1000 := by omega
    rw [decide_eq_false h, Bool.false_and, Bool.false_and]
    clear h HV HT
    go_enter Tryz.func162, Tryz.ntmps162
    go_wp2
    go_ret
    exact ⟨rfl, Below.refl _ _⟩

set_option maxHeartbeats 1000000 in
theorem wrong_any (n v : ByteArray) (w : World) (hn : n.size ≤ 140737488355328) (hv : v.size ≤ 140737488355328) : Calls Tryz.prog 129 #[.agg #[.string n, .string v]] w fun e w' => e = .returned (.bool (!okF n v)) ∧ Below w.heap.size w w' := by
  unfold okF
  have HN := fun w => rn_any n w hn
  have HV := fun w => rv_any v w hv
  generalize okName n = a at *
  generalize okVal v = b at *
  have HN2 : Hid (∀ w, Calls Tryz.prog 161 #[.string n] w fun e w' => e = .returned (.bool a) ∧ Below w.heap.size w w') := HN
  have HV2 : Hid (∀ w, Calls Tryz.prog 162 #[.string v] w fun e w' => e = .returned (.bool b) ∧ Below w.heap.size w w') := HV
  clear HN HV hn hv
  cases a
  · go_enter Tryz.func129, Tryz.ntmps129
    go_wp2_with fail
    refine (HN2.out _).mono ?_
    rintro e w1 ⟨rfl, B1⟩
    have C1 := ((Below.refl w.heap.size w).alloc (Nat.le_refl _) (.cells #[.string n, .string v] 34)).trans (B1.mono (by simp))
    go_wp2
    go_ret
    exact ⟨rfl, C1⟩
  · go_enter Tryz.func129, Tryz.ntmps129
    go_wp2_with fail
    refine (HN2.out _).mono ?_
    rintro e w1 ⟨rfl, B1⟩
    have C1 := ((Below.refl w.heap.size w).alloc (Nat.le_refl _) (.cells #[.string n, .string v] 34)).trans (B1.mono (by simp))
    have hc : w1.cell? ⟨w.heap.size, 1, none⟩ = some (.string v) := tblk_cell ((B1.block _ (by simp)).trans (tblk_new _ _)) rfl
    clear B1
    go_wp2_with fail
    refine (HV2.out _).mono ?_
    rintro e w2 ⟨rfl, B2⟩
    go_wp2
    go_ret
    exact ⟨by simp, C1.trans (B2.mono C1.size)⟩

/-- What Parse answers. -/
def prs (s : ByteArray) : ByteArray × ByteArray × Int :=
  if (Lib.cut s.data.toList [58]).2.2 && okF ⟨(Lib.cut s.data.toList [58]).1.toArray⟩ (trimT ⟨(Lib.cut s.data.toList [58]).2.1.toArray⟩) then (⟨(Lib.cut s.data.toList [58]).1.toArray⟩, trimT ⟨(Lib.cut s.data.toList [58]).2.1.toArray⟩, 0) else (⟨#[]⟩, ⟨#[]⟩, 20)
theorem cut_len (l : List UInt8) : (Lib.cut l [58]).1.length ≤ l.length ∧ (Lib.cut l [58]).2.1.length ≤ l.length := by
  unfold Lib.cut
  split
  · simp only [List.length_take, List.length_drop]; omega
  · simp

theorem drewN_heap (w : World) (k : Nat) : (w.drewN k).heap = w.heap := by simp [World.drewN]
theorem below_drewN (B : Nat) (w : World) (k : Nat) : Below B w (w.drewN k) := by refine ⟨?_, ?_, ?_, ?_, ?_⟩ <;> simp [World.drewN]
theorem tblk_z {w : World} {b i : Nat} {c : Array Value} {t : TypeId} (h : w.heap[b]? = some (.cells c t)) : w.frozen? ⟨b, i, none⟩ = false := by simp [World.frozen?, h]
/-- A field's block, written over. -/
theorem two_cells {w : World} {b : Nat} {x y : Value} {t : TypeId} (h : w.heap[b]? = some (.cells #[x, y] t)) (n v : ByteArray) :
    ((w.setCell ⟨b, 0, none⟩ (.string n)).setCell ⟨b, 1, none⟩ (.string v)).heap[b]? = some (.cells #[.string n, .string v] t) ∧
    ((w.setCell ⟨b, 0, none⟩ (.string n)).setCell ⟨b, 1, none⟩ (.string v)).cell? ⟨b, 0, none⟩ = some (.string n) ∧
    ((w.setCell ⟨b, 0, none⟩ (.string n)).setCell ⟨b, 1, none⟩ (.string v)).cell? ⟨b, 1, none⟩ = some (.string v) ∧ True := by
  have k : ((w.setCell ⟨b, 0, none⟩ (.string n)).setCell ⟨b, 1, none⟩ (.string v)).heap[b]? = some (.cells #[.string n, .string v] t) := by
    simp [World.setCell, Array.getElem?_modify, h]
  exact ⟨k, tblk_cell k rfl, tblk_cell k rfl, trivial⟩

set_option maxRecDepth 100000 in
set_option maxHeartbeats 2000000 in
theorem parse_any (s : ByteArray) (w : World) (hs : s.size < 4294967281) (hM : MaxL w) : Calls Tryz.prog 136 #[.string s] w fun e w' => e = .returned (.tuple #[.agg #[.string (prs s).1, .string (prs s).2.1], .int .i64 (prs s).2.2]) ∧ Below w.heap.size w w' := by
  obtain ⟨m, hm⟩ := hM
  have hlt : 1 < w.heap.size := MaxL.lt ⟨m, hm⟩
  have hcl := cut_len s.data.toList
  have hsz : s.data.toList.length = s.size := rfl
  unfold prs
  have HC : Hid (∀ w : World, w.cell? ⟨1, 0, none⟩ = some (.int .i64 m) → Calls Tryz.prog 147 #[.string s, .string ⟨#[58]⟩] w fun e w' => e = .returned (.tuple #[.string ⟨(Lib.cut s.data.toList [58]).1.toArray⟩, .string ⟨(Lib.cut s.data.toList [58]).2.1.toArray⟩, .bool (Lib.cut s.data.toList [58]).2.2]) ∧ ∃ n, w' = w.drewN n) := fun w hm => Tryz.strings_Cut s ⟨#[58]⟩ m w hs hm
  generalize (Lib.cut s.data.toList [58]) = c at *
  obtain ⟨c1, c2, c3⟩ := c
  simp only at hcl HC ⊢
  have hn : Hid ((⟨c1.toArray⟩ : ByteArray).size ≤ 140737488355328) := by rw [Hid]; show c1.length ≤ _; omega
  have hv : Hid ((⟨c2.toArray⟩ : ByteArray).size ≤ 140737488355328) := by rw [Hid]; show c2.length ≤ _; omega
  have hm2 : (w.alloc (.cells #[.string ⟨#[]⟩, .string ⟨#[]⟩] 34)).cell? ⟨1, 0, none⟩ = some (.int .i64 m) := by
    rw [← hm]; simp only [World.cell?]; rw [Below.heap_alloc _ _ _ hlt]
  have hvt := trimT_size ⟨c2.toArray⟩
  generalize (⟨c1.toArray⟩ : ByteArray) = n at *
  generalize (⟨c2.toArray⟩ : ByteArray) = v at *
  have hv2 : Hid ((trimT v).size ≤ 140737488355328) := by rw [Hid]; have := hv.out; omega
  clear hvt hm hs hcl hsz
  have HTR : Hid (∀ W, Calls Tryz.prog 154 #[.string v] W fun e w' => e = .returned (.string (trimT v)) ∧ Below W.heap.size W w') := fun W => trim_any v W hv.out
  have HWR2 : Hid (∀ W, Calls Tryz.prog 129 #[.agg #[.string n, .string (trimT v)]] W fun e w' => e = .returned (.bool (!okF n (trimT v))) ∧ Below W.heap.size W w') := fun W => wrong_any n (trimT v) W hn.out hv2.out
  generalize trimT v = T at *
  generalize okF n T = ok at *
  cases c3
  · rw [Bool.false_and, if_neg (by decide)]
    go_enter Tryz.func136, Tryz.ntmps136
    go_wp2_with fail
    refine (HC.out _ hm2).mono ?_
    rintro e w1 ⟨rfl, k, rfl⟩
    have hg : ((w.alloc (.cells #[.string ⟨#[]⟩, .string ⟨#[]⟩] 34)).drewN k).heap[w.heap.size]? = some (.cells #[.string ⟨#[]⟩, .string ⟨#[]⟩] 34) := by rw [drewN_heap]; exact tblk_new _ _
    have C1 : Below w.heap.size w ((w.alloc (.cells #[.string ⟨#[]⟩, .string ⟨#[]⟩] 34)).drewN k) := ((Below.refl _ _).alloc (Nat.le_refl _) _).trans (below_drewN _ _ _)
    generalize (w.alloc (.cells #[.string ⟨#[]⟩, .string ⟨#[]⟩] 34)).drewN k = w2 at *
    clear hm2 HC
    have HW := two_cells hg ⟨#[]⟩ ⟨#[]⟩
    have r0 := HW.2.1
    have r1 := HW.2.2.1
    have a0 : w2.cell? ⟨w.heap.size, 0, none⟩ = some (.string ⟨#[]⟩) := tblk_cell hg rfl
    have a1 : w2.cell? ⟨w.heap.size, 1, none⟩ = some (.string ⟨#[]⟩) := tblk_cell hg rfl
    have z0 : w2.frozen? ⟨w.heap.size, 0, none⟩ = false := tblk_z hg
    have z1 : w2.frozen? ⟨w.heap.size, 1, none⟩ = false := tblk_z hg
    have C2 : Hid (Below w.heap.size w ((w2.setCell ⟨w.heap.size, 0, none⟩ (.string ⟨#[]⟩)).setCell ⟨w.heap.size, 1, none⟩ (.string ⟨#[]⟩))) := (C1.setCell (p := ⟨w.heap.size, 0, none⟩) (Nat.le_refl _) _).setCell (p := ⟨w.heap.size, 1, none⟩) (Nat.le_refl _) _
    clear hg HW C1
    go_wp2
    refine bodyPost_ret (v := .tuple #[.agg #[.string ⟨#[]⟩, .string ⟨#[]⟩], .int .i64 20]) (by simp [results, Tryz.results136, go_sem, r0, r1]) rfl ⟨rfl, C2.out⟩
  · cases ok
    · rw [Bool.true_and, if_neg (by decide)]
      go_enter Tryz.func136, Tryz.ntmps136
      go_wp2_with fail
      refine (HC.out _ hm2).mono ?_
      rintro e w1 ⟨rfl, k, rfl⟩
      have hg : ((w.alloc (.cells #[.string ⟨#[]⟩, .string ⟨#[]⟩] 34)).drewN k).heap[w.heap.size]? = some (.cells #[.string ⟨#[]⟩, .string ⟨#[]⟩] 34) := by rw [drewN_heap]; exact tblk_new _ _
      have C1 : Below w.heap.size w ((w.alloc (.cells #[.string ⟨#[]⟩, .string ⟨#[]⟩] 34)).drewN k) := ((Below.refl _ _).alloc (Nat.le_refl _) _).trans (below_drewN _ _ _)
      generalize (w.alloc (.cells #[.string ⟨#[]⟩, .string ⟨#[]⟩] 34)).drewN k = w2 at *
      clear hm2 HC
      go_wp2_with fail
      refine (clone_any n _ (by have := hn.out; omega)).mono ?_
      rintro e w3 ⟨rfl, B3⟩
      have g3 := tblk_below hg B3
      have C3 := C1.trans (B3.mono C1.size)
      clear hg C1 B3
      go_wp2_with fail
      refine (HTR.out _).mono ?_
      rintro e w4 ⟨rfl, B4⟩
      have g4 := tblk_below g3 B4
      have C4 := C3.trans (B4.mono C3.size)
      clear g3 C3 B4
      have hl4 : w.heap.size < w4.heap.size := (Array.getElem?_eq_some_iff.1 g4).1
      go_wp2_with fail
      refine (HWR2.out _).mono ?_
      rintro e w5 ⟨rfl, B5⟩
      have B45 : Below w4.heap.size w4 w5 := ((Below.refl w4.heap.size w4).alloc (Nat.le_refl _) (.cells #[.string n, .string T] 34)).trans (B5.mono (by simp))
      have g5 := tblk_below g4 B45
      have f5 : w5.heap[w4.heap.size]? = some (.cells #[.string n, .string T] 34) := (B5.block _ (by simp)).trans (tblk_new _ _)
      have C5 := C4.trans (B45.mono C4.size)
      clear B5 B45 g4 C4 HWR2
      have a0 : w5.cell? ⟨w.heap.size, 0, none⟩ = some (.string ⟨#[]⟩) := tblk_cell g5 rfl
      have a1 : w5.cell? ⟨w.heap.size, 1, none⟩ = some (.string ⟨#[]⟩) := tblk_cell g5 rfl
      have b0 : w5.cell? ⟨w4.heap.size, 0, none⟩ = some (.string n) := tblk_cell f5 rfl
      have b1 : w5.cell? ⟨w4.heap.size, 1, none⟩ = some (.string T) := tblk_cell f5 rfl
      have z0 : w5.frozen? ⟨w.heap.size, 0, none⟩ = false := tblk_z g5
      have z1 : w5.frozen? ⟨w.heap.size, 1, none⟩ = false := tblk_z g5
      have HW := two_cells g5 ⟨#[]⟩ ⟨#[]⟩
      have r0 := HW.2.1
      have r1 := HW.2.2.1
      have C6 : Hid (Below w.heap.size w ((w5.setCell ⟨w.heap.size, 0, none⟩ (.string ⟨#[]⟩)).setCell ⟨w.heap.size, 1, none⟩ (.string ⟨#[]⟩))) := (C5.setCell (p := ⟨w.heap.size, 0, none⟩) (Nat.le_refl _) _).setCell (p := ⟨w.heap.size, 1, none⟩) (Nat.le_refl _) _
      clear g5 f5 HW C5
      go_wp2
      refine bodyPost_ret (v := .tuple #[.agg #[.string ⟨#[]⟩, .string ⟨#[]⟩], .int .i64 20]) (by simp [results, Tryz.results136, go_sem, r0, r1]) rfl ⟨rfl, C6.out⟩
    · rw [Bool.true_and, if_pos rfl]
      go_enter Tryz.func136, Tryz.ntmps136
      go_wp2_with fail
      refine (HC.out _ hm2).mono ?_
      rintro e w1 ⟨rfl, k, rfl⟩
      have hg : ((w.alloc (.cells #[.string ⟨#[]⟩, .string ⟨#[]⟩] 34)).drewN k).heap[w.heap.size]? = some (.cells #[.string ⟨#[]⟩, .string ⟨#[]⟩] 34) := by rw [drewN_heap]; exact tblk_new _ _
      have C1 : Below w.heap.size w ((w.alloc (.cells #[.string ⟨#[]⟩, .string ⟨#[]⟩] 34)).drewN k) := ((Below.refl _ _).alloc (Nat.le_refl _) _).trans (below_drewN _ _ _)
      generalize (w.alloc (.cells #[.string ⟨#[]⟩, .string ⟨#[]⟩] 34)).drewN k = w2 at *
      clear hm2 HC
      go_wp2_with fail
      refine (clone_any n _ (by have := hn.out; omega)).mono ?_
      rintro e w3 ⟨rfl, B3⟩
      have g3 := tblk_below hg B3
      have C3 := C1.trans (B3.mono C1.size)
      clear hg C1 B3
      go_wp2_with fail
      refine (HTR.out _).mono ?_
      rintro e w4 ⟨rfl, B4⟩
      have g4 := tblk_below g3 B4
      have C4 := C3.trans (B4.mono C3.size)
      clear g3 C3 B4
      have hl4 : w.heap.size < w4.heap.size := (Array.getElem?_eq_some_iff.1 g4).1
      go_wp2_with fail
      refine (HWR2.out _).mono ?_
      rintro e w5 ⟨rfl, B5⟩
      have B45 : Below w4.heap.size w4 w5 := ((Below.refl w4.heap.size w4).alloc (Nat.le_refl _) (.cells #[.string n, .string T] 34)).trans (B5.mono (by simp))
      have g5 := tblk_below g4 B45
      have f5 : w5.heap[w4.heap.size]? = some (.cells #[.string n, .string T] 34) := (B5.block _ (by simp)).trans (tblk_new _ _)
      have C5 := C4.trans (B45.mono C4.size)
      clear B5 B45 g4 C4 HWR2
      have a0 : w5.cell? ⟨w.heap.size, 0, none⟩ = some (.string ⟨#[]⟩) := tblk_cell g5 rfl
      have a1 : w5.cell? ⟨w.heap.size, 1, none⟩ = some (.string ⟨#[]⟩) := tblk_cell g5 rfl
      have b0 : w5.cell? ⟨w4.heap.size, 0, none⟩ = some (.string n) := tblk_cell f5 rfl
      have b1 : w5.cell? ⟨w4.heap.size, 1, none⟩ = some (.string T) := tblk_cell f5 rfl
      have z0 : w5.frozen? ⟨w.heap.size, 0, none⟩ = false := tblk_z g5
      have z1 : w5.frozen? ⟨w.heap.size, 1, none⟩ = false := tblk_z g5
      have HW := two_cells g5 n T
      have r0 := HW.2.1
      have r1 := HW.2.2.1
      have C6 : Hid (Below w.heap.size w ((w5.setCell ⟨w.heap.size, 0, none⟩ (.string n)).setCell ⟨w.heap.size, 1, none⟩ (.string T))) := (C5.setCell (p := ⟨w.heap.size, 0, none⟩) (Nat.le_refl _) _).setCell (p := ⟨w.heap.size, 1, none⟩) (Nat.le_refl _) _
      clear g5 f5 HW C5
      go_wp2
      refine bodyPost_ret (v := .tuple #[.agg #[.string n, .string T], .int .i64 0]) (by simp [results, Tryz.results136, go_sem, r0, r1]) rfl ⟨rfl, C6.out⟩

end Go.Proofs.YtajfjjmabncldaaGreatDoor

/- Bodies in chunks, byte by byte. -/
namespace Go.Proofs.YtajfjjmabncldaaGreatDoor
open Go.RowKit
set_option linter.unusedVariables false

theorem cutAt_le (m : Nat) : ∀ (l : List UInt8) (i k : Nat) (e : Int), i ≤ m → cutAt m i l = (some k, e) → k ≤ m
  | [], i, k, e, hi, h => by simp [cutAt] at h
  | c :: l, i, k, e, hi, h => by
    rw [cutAt] at h
    by_cases h1 : c = 10
    · rw [if_pos h1] at h; simp at h
    · rw [if_neg h1] at h
      by_cases h2 : c = 13
      · rw [if_pos h2] at h
        by_cases h3 : l.head? = none
        · rw [if_pos h3] at h; simp at h
        · rw [if_neg h3] at h
          by_cases h4 : l.head? = some 10
          · rw [if_pos h4] at h
            have : i = k ∧ 0 = e := by simpa using h
            omega
          · rw [if_neg h4] at h; simp at h
      · rw [if_neg h2] at h
        by_cases h3 : m ≤ i
        · rw [if_pos h3] at h; simp at h
        · rw [if_neg h3] at h
          exact cutAt_le m l (i + 1) k e (by omega) h

/-- The text of a line. -/
def tx (l : List UInt8) : ByteArray := ⟨l.toArray⟩
theorem tx_size (l : List UInt8) : (tx l).size = l.length := rfl
/-- The size that a chunk's line tells. -/
def szO (s : List UInt8) : Option Nat := if allB valP (Lib.cut s [59]).2.1 then numV 16 15 (tx (Lib.trimRightS (Lib.cut s [59]).1 [32, 9])) else none
/-- How a chunk's end stands. -/
def endsP (l : List UInt8) : Bool × Int :=
  match l with
  | [] => (false, 0)
  | c :: r => if c = 13 then (match r with | [] => (false, 0) | d :: _ => if d = 10 then (true, 0) else (false, 20)) else (false, 20)
/-- A chunk whose line ends at i and tells o: the error, how many bytes it takes, where its bytes begin, how many they are. -/
def oneK (m : Nat) (b : List UInt8) (i : Nat) (o : Option Nat) : Int × Nat × Nat × Nat :=
  match o with
  | none => (30, 0, 0, 0)
  | some k =>
    if m < k then (2, 0, 0, 0) else if k = 0 then (0, i + 2, 0, 0) else if b.length - (i + 2) < k then (0, 0, 0, 0)
    else if (endsP (b.drop (i + 2 + k))).1 then (0, i + 2 + k + 2, i + 2, k) else ((endsP (b.drop (i + 2 + k))).2, 0, 0, 0)
def oneP (m : Nat) (b : List UInt8) : Int × Nat × Nat × Nat :=
  match cutAt 256 0 b with
  | (none, e) => (e, 0, 0, 0)
  | (some i, _) => oneK m b i (szO (b.take i))
theorem oneP_hit {m i : Nat} {b : List UInt8} {e : Int} (h : cutAt 256 0 b = (some i, e)) : oneP m b = oneK m b i (szO (b.take i)) := by unfold oneP; rw [h]
theorem oneP_miss {m : Nat} {b : List UInt8} {e : Int} (h : cutAt 256 0 b = (none, e)) : oneP m b = (e, 0, 0, 0) := by unfold oneP; rw [h]
theorem oneK_some (m : Nat) (b : List UInt8) (i k : Nat) : oneK m b i (some k) = if m < k then (2, 0, 0, 0) else if k = 0 then (0, i + 2, 0, 0) else if b.length - (i + 2) < k then (0, 0, 0, 0) else if (endsP (b.drop (i + 2 + k))).1 then (0, i + 2 + k + 2, i + 2, k) else ((endsP (b.drop (i + 2 + k))).2, 0, 0, 0) := rfl
def fldOk (l : List UInt8) : Bool := decide ((prs (tx l)).2.2 = 0)
/-- What stands behind something. -/
def plusN (at_ : Nat) (r : Nat × Int) : Nat × Int := if r.1 = 0 then (0, r.2) else (at_ + r.1, 0)
/-- A trailer line, and what follows it. -/
def trK (l : List UInt8) (rest : Nat → Nat × Int) : Nat × Int :=
  match cutAt 256 0 l with
  | (none, e) => (0, e)
  | (some i, _) => if i = 0 then (2, 0) else if fldOk (l.take i) = false then (0, 20) else rest i
/-- The trailer lines, of which r more may come: how many bytes, the error. -/
def trailL : Nat → List UInt8 → Nat × Int
  | 0, l => trK l fun _ => (0, 3)
  | r + 1, l => trK l fun i => plusN (i + 2) (trailL r (l.drop (i + 2)))
theorem trK_miss {l : List UInt8} {e : Int} {f : Nat → Nat × Int} (h : cutAt 256 0 l = (none, e)) : trK l f = (0, e) := by unfold trK; rw [h]
theorem trK_end {l : List UInt8} {f : Nat → Nat × Int} (h : cutAt 256 0 l = (some 0, 0)) : trK l f = (2, 0) := by unfold trK; rw [h]; rfl
theorem trK_bad {i : Nat} {l : List UInt8} {f : Nat → Nat × Int} (h : cutAt 256 0 l = (some i, 0)) (hi : ¬ i = 0) (hf : fldOk (l.take i) = false) : trK l f = (0, 20) := by
  unfold trK; rw [h]; simp only; rw [if_neg hi, if_pos hf]
theorem trK_next {i : Nat} {l : List UInt8} {f : Nat → Nat × Int} (h : cutAt 256 0 l = (some i, 0)) (hi : ¬ i = 0) (hf : fldOk (l.take i) = true) : trK l f = f i := by
  unfold trK; rw [h]; simp only; rw [if_neg hi, if_neg (by rw [hf]; decide)]
theorem trailL_miss {r : Nat} {l : List UInt8} {e : Int} (h : cutAt 256 0 l = (none, e)) : trailL r l = (0, e) := by cases r <;> exact trK_miss h
theorem trailL_end {r : Nat} {l : List UInt8} (h : cutAt 256 0 l = (some 0, 0)) : trailL r l = (2, 0) := by cases r <;> exact trK_end h
theorem trailL_bad {r i : Nat} {l : List UInt8} (h : cutAt 256 0 l = (some i, 0)) (hi : ¬ i = 0) (hf : fldOk (l.take i) = false) : trailL r l = (0, 20) := by cases r <;> exact trK_bad h hi hf
theorem trailL_many {i : Nat} {l : List UInt8} (h : cutAt 256 0 l = (some i, 0)) (hi : ¬ i = 0) (hf : fldOk (l.take i) = true) : trailL 0 l = (0, 3) := trK_next h hi hf
theorem trailL_next {r i : Nat} {l : List UInt8} (h : cutAt 256 0 l = (some i, 0)) (hi : ¬ i = 0) (hf : fldOk (l.take i) = true) : trailL (r + 1) l = plusN (i + 2) (trailL r (l.drop (i + 2))) := trK_next h hi hf
def plusD (acc : List UInt8) (at_ : Nat) (r : List UInt8 × Nat × Int) : List UInt8 × Nat × Int := if r.2.1 = 0 then ([], 0, r.2.2) else (acc ++ r.1, at_ + r.2.1, 0)
/-- A body: its bytes, how many it takes, the error. -/
def decL : Nat → Nat → List UInt8 → List UInt8 × Nat × Int
  | 0, _, _ => ([], 0, 0)
  | f + 1, m, l =>
    if (oneP m l).2.1 = 0 then ([], 0, (oneP m l).1)
    else if (oneP m l).2.2.2 = 0 then plusD [] (oneP m l).2.1 ([], trailL 40 (l.drop (oneP m l).2.1))
    else plusD ((l.drop (oneP m l).2.2.1).take (oneP m l).2.2.2) (oneP m l).2.1 (decL f (m - (oneP m l).2.2.2) (l.drop (oneP m l).2.1))
def decR (m : Nat) (b : List UInt8) : List UInt8 × Nat × Int := decL (b.length + 1) m b

theorem plusD_plusD (a b : List UInt8) (i j : Nat) (r : List UInt8 × Nat × Int) (hj : 0 < j) : plusD a i (plusD b j r) = plusD (a ++ b) (i + j) r := by
  unfold plusD
  by_cases h : r.2.1 = 0
  · rw [if_pos h, if_pos rfl, if_pos h]
  · rw [if_neg h, if_neg (by simp only; omega), if_neg h]
    simp [List.append_assoc, Nat.add_assoc]
theorem plusN_plusN (i j : Nat) (r : Nat × Int) (hj : 0 < j) : plusN i (plusN j r) = plusN (i + j) r := by
  unfold plusN
  by_cases h : r.1 = 0
  · rw [if_pos h, if_pos rfl, if_pos h]
  · rw [if_neg h, if_neg (by simp only; omega), if_neg h]
    simp [Nat.add_assoc]

/-- What is told of a chunk. -/
theorem oneP_cases (m : Nat) (b : List UInt8) : (∃ e, oneP m b = (e, 0, 0, 0)) ∨ (∃ i, oneP m b = (0, i + 2, 0, 0) ∧ i + 2 ≤ b.length ∧ cutAt 256 0 b = (some i, 0) ∧ szO (b.take i) = some 0) ∨
    (∃ i k, oneP m b = (0, i + 2 + k + 2, i + 2, k) ∧ 0 < k ∧ k ≤ m ∧ i + 2 + k + 2 ≤ b.length ∧ cutAt 256 0 b = (some i, 0) ∧ szO (b.take i) = some k ∧ (endsP (b.drop (i + 2 + k))).1 = true) := by
  rcases cut_cases 256 b with ⟨i, h, hl, _⟩ | ⟨e, h⟩
  · rw [oneP_hit h, h]
    cases hz : szO (b.take i) with
    | none => exact .inl ⟨30, rfl⟩
    | some k =>
      rw [oneK_some]
      by_cases h1 : m < k
      · rw [if_pos h1]; exact .inl ⟨2, rfl⟩
      · rw [if_neg h1]
        by_cases h2 : k = 0
        · subst h2
          rw [if_pos rfl]; exact .inr (.inl ⟨i, rfl, hl, rfl, hz⟩)
        · rw [if_neg h2]
          by_cases h3 : b.length - (i + 2) < k
          · rw [if_pos h3]; exact .inl ⟨0, rfl⟩
          · rw [if_neg h3]
            by_cases h4 : (endsP (b.drop (i + 2 + k))).1 = true
            · rw [if_pos h4]
              refine .inr (.inr ⟨i, k, rfl, by omega, by omega, ?_, rfl, hz, h4⟩)
              have : 2 ≤ (b.drop (i + 2 + k)).length := by
                match hd : b.drop (i + 2 + k) with
                | [] => rw [hd] at h4; simp [endsP] at h4
                | [c] => rw [hd] at h4; by_cases hc : c = 13 <;> simp [endsP, hc] at h4
                | c :: d :: r => simp
              rw [List.length_drop] at this
              omega
            · rw [if_neg h4]; exact .inl ⟨_, rfl⟩
  · rw [oneP_miss h]; exact .inl ⟨e, rfl⟩
end Go.Proofs.YtajfjjmabncldaaGreatDoor

/- A chunk's size, its end. -/
namespace Go.Proofs.YtajfjjmabncldaaGreatDoor
open Go.RowKit
set_option linter.unusedVariables false

theorem cut59_len (l : List UInt8) : (Lib.cut l [59]).1.length ≤ l.length ∧ (Lib.cut l [59]).2.1.length ≤ l.length := by
  unfold Lib.cut
  split
  · simp only [List.length_take, List.length_drop]; omega
  · simp
theorem dropWhile_le (p : UInt8 → Bool) : ∀ l : List UInt8, (l.dropWhile p).length ≤ l.length
  | [] => Nat.le_refl _
  | b :: l => by
    rw [List.dropWhile_cons]
    split
    · have := dropWhile_le p l; rw [List.length_cons]; omega
    · exact Nat.le_refl _
theorem trimR_len (l cs : List UInt8) : (Lib.trimRightS l cs).length ≤ l.length := by
  unfold Lib.trimRightS
  rw [List.length_reverse]
  refine Nat.le_trans (dropWhile_le _ _) ?_
  rw [List.length_reverse]; exact Nat.le_refl _

set_option maxRecDepth 100000 in
set_option maxHeartbeats 2000000 in
theorem sizeof_any (l : List UInt8) (w : World) (hs : l.length ≤ 256) (hM : MaxL w) :
    Calls Tryz.prog 170 #[.string (tx l)] w fun e w' => e = .returned (.tuple #[.int .i64 ((szO l).getD 0 : Nat), .bool (szO l).isSome]) ∧ Below w.heap.size w w' := by
  obtain ⟨m, hm⟩ := hM
  have hcl := cut59_len l
  have htl := trimR_len (Lib.cut l [59]).1 [32, 9]
  have HC : Hid (Calls Tryz.prog 147 #[.string (tx l), .string ⟨#[59]⟩] w fun e w' => e = .returned (.tuple #[.string (tx (Lib.cut l [59]).1), .string (tx (Lib.cut l [59]).2.1), .bool (Lib.cut l [59]).2.2]) ∧ ∃ n, w' = w.drewN n) := Tryz.strings_Cut (tx l) ⟨#[59]⟩ m w (by rw [tx_size]; omega) hm
  unfold szO
  generalize Lib.cut l [59] = c at *
  obtain ⟨c1, c2, c3⟩ := c
  simp only at hcl htl HC ⊢
  have HV : Hid (∀ W, Calls Tryz.prog 178 #[.string (tx c2)] W fun e w' => e = .returned (.bool (allB valP c2)) ∧ Below W.heap.size W w') := fun W => value_any (tx c2) W (by rw [tx_size]; unfold maxLen; omega)
  have HT : Hid (∀ W, Calls Tryz.prog 146 #[.string (tx c1), .string ⟨#[32, 9]⟩] W fun e w' => e = .returned (.string (tx (Lib.trimRightS c1 [32, 9]))) ∧ Below W.heap.size W w') := fun W => Tryz.strings_TrimRight_laid (tx c1) ⟨#[32, 9]⟩ W (by rw [tx_size]; omega) (by decide) (ascii_of_all (by decide))
  have HX : Hid (∀ W, Calls Tryz.prog 198 #[.string (tx (Lib.trimRightS c1 [32, 9]))] W fun e w' => e = .returned (.tuple #[.int .i64 (numI 16 15 (tx (Lib.trimRightS c1 [32, 9]))), .bool (numB 16 15 (tx (Lib.trimRightS c1 [32, 9])))]) ∧ w' = W) := fun W => hex_any _ W (by rw [tx_size]; unfold maxLen; omega)
  unfold numI numB at HX
  generalize numV 16 15 (tx (Lib.trimRightS c1 [32, 9])) = nv at *
  generalize tx (Lib.trimRightS c1 [32, 9]) = t at *
  generalize tx c1 = s1 at *
  generalize tx c2 = s2 at *
  generalize tx l = s at *
  cases hv : allB valP c2
  · rw [hv] at HV
    rw [if_neg (by decide)]
    clear hv hcl htl hm
    go_enter Tryz.func170, Tryz.ntmps170
    go_wp2_with fail
    refine HC.out.mono ?_
    rintro e w1 ⟨rfl, n, rfl⟩
    have B1 := below_drewN w.heap.size w n
    go_wp2_with fail
    refine (HV.out _).mono ?_
    rintro e w2 ⟨rfl, B2⟩
    have C2 := B1.trans (B2.mono B1.size)
    go_wp2
    go_ret2
    exact ⟨rfl, C2⟩
  · rw [hv] at HV
    rw [if_pos rfl]
    clear hv hcl htl hm
    go_enter Tryz.func170, Tryz.ntmps170
    go_wp2_with fail
    refine HC.out.mono ?_
    rintro e w1 ⟨rfl, n, rfl⟩
    have B1 := below_drewN w.heap.size w n
    go_wp2_with fail
    refine (HV.out _).mono ?_
    rintro e w2 ⟨rfl, B2⟩
    have C2 := B1.trans (B2.mono B1.size)
    go_wp2_with fail
    refine (HT.out _).mono ?_
    rintro e w3 ⟨rfl, B3⟩
    have C3 := C2.trans (B3.mono C2.size)
    go_wp2_with fail
    refine (HX.out _).mono ?_
    rintro e w4 ⟨rfl, rfl⟩
    go_wp2
    go_ret2
    exact ⟨rfl, C3⟩

set_option maxRecDepth 100000 in
set_option maxHeartbeats 2000000 in
theorem ends_any (l : List UInt8) (k : Nat) (v : Value) (w : World) (hs : Src w k v l) :
    Calls Tryz.prog 171 #[v] w fun e w' => e = .returned (.tuple #[.bool (endsP l).1, .int .i64 (endsP l).2]) ∧ ∃ n, w' = w.drewN n := by
  obtain ⟨a, c, rfl, h1, h2, h3⟩ := hs
  match l, h3 with
  | [], _ =>
    show Calls Tryz.prog 171 #[.slice a 0 c] w fun e w' => e = .returned (.tuple #[.bool false, .int .i64 0]) ∧ ∃ n, w' = w.drewN n
    go_enter Tryz.func171, Tryz.ntmps171
    go_wp2_with fail
    refine wp_loop_rounds 1 ?_
    rw [rounds_succ]
    go_wp2
    go_ret2
    exact ⟨rfl, 0, (World.drewN_zero _).symm⟩
  | [x], h3 =>
    obtain ⟨off, rfl, hc⟩ := h3 (by simp)
    have q0 : w.cell? ⟨k, off, none⟩ = some (.int .u8 (x.toNat : Int)) := hc 0 (by simp)
    clear hc h3
    by_cases t : x = 13
    · subst t
      have q1 : w.cell? ⟨k, off, none⟩ = some (.int .u8 13) := q0
      clear q0
      show Calls Tryz.prog 171 #[.slice (some ⟨k, off, none⟩) 1 c] w fun e w' => e = .returned (.tuple #[.bool false, .int .i64 0]) ∧ ∃ n, w' = w.drewN n
      go_enter Tryz.func171, Tryz.ntmps171
      go_wp2_with fail
      refine wp_loop_rounds 2 ?_
      rw [rounds_succ]
      go_wp2
      go_quiet (fail)
      go_wp2
      rw [rounds_succ]
      go_wp2
      go_ret2
      exact ⟨rfl, _, rfl⟩
    · have e : endsP [x] = (false, 20) := by simp [endsP, t]
      rw [e]
      have t5 : ((x.toNat : Int) != 13) = true := by simpa using toNat_ne 13 13 rfl t
      have t6 : ((x.toNat : Int) != ((⟨#[13, 10]⟩ : ByteArray)[0].toNat : Int)) = true := t5
      clear e
      show Calls Tryz.prog 171 #[.slice (some ⟨k, off, none⟩) 1 c] w fun e w' => e = .returned (.tuple #[.bool false, .int .i64 20]) ∧ ∃ n, w' = w.drewN n
      generalize (x.toNat : Int) = X at *
      go_enter Tryz.func171, Tryz.ntmps171
      go_wp2_with fail
      refine wp_loop_rounds 1 ?_
      rw [rounds_succ]
      go_wp2
      go_quiet (fail)
      go_wp2
      go_ret2
      exact ⟨rfl, _, rfl⟩
  | x :: y :: r, h3 =>
    obtain ⟨off, rfl, hc⟩ := h3 (by simp)
    have q0 : w.cell? ⟨k, off, none⟩ = some (.int .u8 (x.toNat : Int)) := hc 0 (by simp)
    have q1 : w.cell? ⟨k, off + 1, none⟩ = some (.int .u8 (y.toNat : Int)) := hc 1 (by simp)
    clear hc h3
    obtain ⟨n, hn⟩ : ∃ n, n = (x :: y :: r).length := ⟨_, rfl⟩
    have hn2 : 2 ≤ n := by rw [hn]; simp
    rw [← hn] at h1 ⊢
    clear hn
    unfold maxLen at h2
    have hmin : min (n : Int) 2 = 2 := by omega
    by_cases t : x = 13
    · subst t
      have q2 : w.cell? ⟨k, off, none⟩ = some (.int .u8 13) := q0
      clear q0
      by_cases u : y = 10
      · subst u
        have q3 : w.cell? ⟨k, off + 1, none⟩ = some (.int .u8 10) := q1
        clear q1
        show Calls Tryz.prog 171 #[.slice (some ⟨k, off, none⟩) n c] w fun e w' => e = .returned (.tuple #[.bool true, .int .i64 0]) ∧ ∃ n, w' = w.drewN n
        go_enter Tryz.func171, Tryz.ntmps171
        go_wp2_with fail
        refine wp_loop_rounds 3 ?_
        rw [rounds_succ]
        go_wp2
        go_quiet (fail)
        go_wp2
        rw [rounds_succ]
        go_wp2
        go_quiet (fail)
        go_wp2
        rw [rounds_succ]
        go_wp2
        go_ret2
        exact ⟨by simp; omega, _, rfl⟩
      · have e : endsP (13 :: y :: r) = (false, 20) := by simp [endsP, u]
        rw [e]
        have t5 : ((y.toNat : Int) != 10) = true := by simpa using toNat_ne 10 10 rfl u
        have t6 : ((y.toNat : Int) != ((⟨#[13, 10]⟩ : ByteArray)[1].toNat : Int)) = true := t5
        clear e
        show Calls Tryz.prog 171 #[.slice (some ⟨k, off, none⟩) n c] w fun e w' => e = .returned (.tuple #[.bool false, .int .i64 20]) ∧ ∃ n, w' = w.drewN n
        generalize (y.toNat : Int) = Y at *
        go_enter Tryz.func171, Tryz.ntmps171
        go_wp2_with fail
        refine wp_loop_rounds 2 ?_
        rw [rounds_succ]
        go_wp2
        go_quiet (fail)
        go_wp2
        rw [rounds_succ]
        go_wp2
        go_quiet (fail)
        go_wp2
        go_ret2
        exact ⟨rfl, _, World.drewN_drewN _ _ _⟩
    · have e : endsP (x :: y :: r) = (false, 20) := by simp [endsP, t]
      rw [e]
      have t5 : ((x.toNat : Int) != 13) = true := by simpa using toNat_ne 13 13 rfl t
      have t6 : ((x.toNat : Int) != ((⟨#[13, 10]⟩ : ByteArray)[0].toNat : Int)) = true := t5
      clear e
      show Calls Tryz.prog 171 #[.slice (some ⟨k, off, none⟩) n c] w fun e w' => e = .returned (.tuple #[.bool false, .int .i64 20]) ∧ ∃ n, w' = w.drewN n
      generalize (x.toNat : Int) = X at *
      go_enter Tryz.func171, Tryz.ntmps171
      go_wp2_with fail
      refine wp_loop_rounds 1 ?_
      rw [rounds_succ]
      go_wp2
      go_quiet (fail)
      go_wp2
      go_ret2
      exact ⟨rfl, _, rfl⟩
end Go.Proofs.YtajfjjmabncldaaGreatDoor

/- One chunk. -/
namespace Go.Proofs.YtajfjjmabncldaaGreatDoor
open Go.RowKit
set_option linter.unusedVariables false

theorem src_none (w : World) (k : Nat) : Src w k (.slice none 0 0) [] := ⟨none, 0, rfl, Nat.le_refl _, Nat.zero_le _, fun h => absurd h (Nat.lt_irrefl _)⟩
/-- What 'one' answers: the bytes, how many it takes, the error. -/
def OneQ (w : World) (kb : Nat) (b : List UInt8) (p : Int × Nat × Nat × Nat) (e : Ending) (w' : World) : Prop :=
  Below w.heap.size w w' ∧ ∃ a n c, e = .returned (.tuple #[.slice a n c, .int .i64 (p.2.1 : Nat), .int .i64 p.1]) ∧ (a = none → c = 0) ∧ Src w kb (.slice a n c) ((b.drop p.2.2.1).take p.2.2.2)
theorem oneq_no {w w' : World} {kb : Nat} {b : List UInt8} {er : Int} (hB : Below w.heap.size w w') : OneQ w kb b (er, 0, 0, 0) (.returned (.tuple #[.slice none 0 0, .int .i64 0, .int .i64 er])) w' :=
  ⟨hB, none, 0, 0, rfl, fun _ => rfl, by rw [List.take_zero]; exact src_none w kb⟩
theorem oneq_end {w w' : World} {kb n : Nat} {b : List UInt8} (hB : Below w.heap.size w w') : OneQ w kb b (0, n, 0, 0) (.returned (.tuple #[.slice none 0 0, .int .i64 (n : Nat), .int .i64 0])) w' :=
  ⟨hB, none, 0, 0, rfl, fun _ => rfl, by rw [List.take_zero]; exact src_none w kb⟩

set_option maxRecDepth 100000 in
set_option maxHeartbeats 8000000 in
theorem one_any (b : List UInt8) (kb : Nat) (v : Value) (m : Nat) (w : World) (hs : Src w kb v b) (hk : 0 < b.length → kb < w.heap.size) (hm : m ≤ 9223372036854775807) (hM : MaxL w) :
    Calls Tryz.prog 143 #[v, .int .i64 (m : Int)] w (OneQ w kb b (oneP m b)) := by
  have HS : Hid (Src w kb v b) := hs
  obtain ⟨a, c, rfl, h1, h2, h3⟩ := hs
  obtain ⟨n, hn⟩ : ∃ n, n = b.length := ⟨_, rfl⟩
  rw [← hn] at HS ⊢
  have HN : Hid (n = b.length) := hn
  have HC : Hid (Calls Tryz.prog 167 #[.slice a n c, .int .i64 256] w fun e w' => e = .returned (cutV 256 b) ∧ w' = w) := cut_any b kb _ 256 w HS.out
  rw [← hn] at h1
  unfold maxLen at h2
  have HK : Hid (0 < b.length → kb < w.heap.size) := hk
  have H3 : Hid (0 < b.length → ∃ off, a = some ⟨kb, off, none⟩ ∧ ∀ (j : Nat) (hj : j < b.length), w.cell? ⟨kb, off + j, none⟩ = some (bv b[j])) := h3
  clear hn h3 hk
  rcases cut_cases 256 b with ⟨i, hcut, hil, _⟩ | ⟨er, hcut⟩
  · have hle : i ≤ 256 := cutAt_le 256 b 0 i 0 (by decide) hcut
    rw [cutV_hit hcut] at HC
    have HZ : Hid (Calls Tryz.prog 170 #[.string ⟨(b.take i).toArray⟩] w fun e w' => e = .returned (.tuple #[.int .i64 ((szO (b.take i)).getD 0 : Nat), .bool (szO (b.take i)).isSome]) ∧ Below w.heap.size w w') := sizeof_any (b.take i) w (by rw [List.length_take]; omega) hM
    have hin : i + 2 ≤ n := by have := HN.out; omega
    have E0 := oneP_hit (m := m) hcut
    generalize (⟨(b.take i).toArray⟩ : ByteArray) = T at *
    have hne : ((i : Int) + 2 == 0) = false := by simp; omega
    cases hz : szO (b.take i) with
    | none =>
      rw [hz] at E0 HZ
      rw [E0]
      show Calls Tryz.prog 143 #[.slice a n c, .int .i64 (m : Int)] w (OneQ w kb b (30, 0, 0, 0))
      clear hz E0 hcut hil
      go_enter Tryz.func143, Tryz.ntmps143
      go_wp2_with fail
      refine HC.out.mono ?_
      rintro e w1 ⟨rfl, rfl⟩
      go_wp2_with fail
      refine HZ.out.mono ?_
      rintro e w2 ⟨rfl, B2⟩
      go_wp2
      refine bodyPost_ret (v := .tuple #[.slice none 0 0, .int .i64 0, .int .i64 30]) (by simp [results, Tryz.results143, go_sem]) rfl (oneq_no B2)
    | some k =>
      rw [hz] at E0 HZ
      rw [oneK_some, ← HN.out] at E0
      have HZ2 : Hid (Calls Tryz.prog 170 #[.string T] w fun e w' => e = .returned (.tuple #[.int .i64 (k : Int), .bool true]) ∧ Below w.heap.size w w') := HZ
      clear HZ hz hcut hil
      by_cases g1 : m < k
      · rw [if_pos g1] at E0
        rw [E0]
        have i1 : (m : Int) < (k : Int) := by omega
        clear E0 g1
        go_enter Tryz.func143, Tryz.ntmps143
        go_wp2_with fail
        refine HC.out.mono ?_
        rintro e w1 ⟨rfl, rfl⟩
        go_wp2_with fail
        refine HZ2.out.mono ?_
        rintro e w2 ⟨rfl, B2⟩
        go_wp2
        refine bodyPost_ret (v := .tuple #[.slice none 0 0, .int .i64 0, .int .i64 2]) (by simp [results, Tryz.results143, go_sem]) rfl (oneq_no B2)
      · rw [if_neg g1] at E0
        have i1 : ¬ (m : Int) < (k : Int) := by omega
        by_cases g2 : k = 0
        · rw [if_pos g2] at E0
          rw [E0]
          subst g2
          clear E0 g1
          go_enter Tryz.func143, Tryz.ntmps143
          go_wp2_with fail
          refine HC.out.mono ?_
          rintro e w1 ⟨rfl, rfl⟩
          go_wp2_with fail
          refine HZ2.out.mono ?_
          rintro e w2 ⟨rfl, B2⟩
          go_wp2
          refine bodyPost_ret (v := .tuple #[.slice none 0 0, .int .i64 ((i : Int) + 2), .int .i64 0]) (by simp [results, Tryz.results143, go_sem]) rfl (oneq_end (n := i + 2) B2)
        · rw [if_neg g2] at E0
          have i2 : ((k : Int) == 0) = false := by simp; omega
          have i2' : ¬ ((k : Int) = 0) := by omega
          by_cases g3 : n - (i + 2) < k
          · rw [if_pos g3] at E0
            rw [E0]
            have i3 : (n : Int) - ((i : Int) + 2) < (k : Int) := by omega
            clear E0 g1 g2 g3
            go_enter Tryz.func143, Tryz.ntmps143
            go_wp2_with fail
            refine HC.out.mono ?_
            rintro e w1 ⟨rfl, rfl⟩
            go_wp2_with fail
            refine HZ2.out.mono ?_
            rintro e w2 ⟨rfl, B2⟩
            go_wp2
            refine bodyPost_ret (v := .tuple #[.slice none 0 0, .int .i64 0, .int .i64 0]) (by simp [results, Tryz.results143, go_sem]) rfl (oneq_no B2)
          · rw [if_neg g3] at E0
            have i3 : ¬ (n : Int) - ((i : Int) + 2) < (k : Int) := by omega
            have hnk : i + 2 + k ≤ n := by omega
            obtain ⟨off, rfl, _⟩ := H3.out (by have := HN.out; omega)
            have hcc : i + 2 < c := by omega
            have HEN : Hid (∀ W (v' : Value), Src W kb v' (b.drop (i + 2 + k)) → Calls Tryz.prog 171 #[v'] W fun e w' => e = .returned (.tuple #[.bool (endsP (b.drop (i + 2 + k))).1, .int .i64 (endsP (b.drop (i + 2 + k))).2]) ∧ ∃ n, w' = W.drewN n) := fun W v' h => ends_any _ kb v' W h
            have HD : Hid (Src w kb (.slice (some ⟨kb, off + (i + 2), none⟩) k (c - (i + 2))) ((b.drop (i + 2)).take k)) := by
              have x1 := HS.out.cut (m := i + 2) (a' := some ⟨kb, off + (i + 2), none⟩) (by have := HN.out; omega) (fun _ => by simp [addr_add])
              exact x1.take (by rw [List.length_drop]; have := HN.out; omega)
            have hx : (endsP (b.drop (i + 2 + k))).1 = true → (endsP (b.drop (i + 2 + k))).2 = 0 := by
              generalize b.drop (i + 2 + k) = d
              match d with
              | [] => simp [endsP]
              | [x] => by_cases hx : x = 13 <;> simp [endsP, hx]
              | x :: y :: r => by_cases hx : x = 13 <;> by_cases hy : y = 10 <;> simp [endsP, hx, hy]
            have hx2 : (endsP (b.drop (i + 2 + k))).1 = true → i + 2 + k + 2 ≤ n := by
              intro ht
              have : 2 ≤ (b.drop (i + 2 + k)).length := by
                match hd : b.drop (i + 2 + k) with
                | [] => rw [hd] at ht; simp [endsP] at ht
                | [x] => rw [hd] at ht; by_cases hx : x = 13 <;> simp [endsP, hx] at ht
                | x :: y :: r => simp
              rw [List.length_drop] at this
              have := HN.out
              omega
            generalize endsP (b.drop (i + 2 + k)) = p at *
            obtain ⟨p1, p2⟩ := p
            simp only at E0 HEN hx hx2
            clear g1 g2 g3 H3
            cases p1
            · rw [if_neg (by decide)] at E0
              rw [E0]
              clear E0 hx hx2
              go_enter Tryz.func143, Tryz.ntmps143
              go_wp2_with fail
              refine HC.out.mono ?_
              rintro e w1 ⟨rfl, rfl⟩
              go_wp2_with fail
              refine HZ2.out.mono ?_
              rintro e w2 ⟨rfl, B2⟩
              have HS2 : Hid (∀ nq (a' : Option Addr), (i + 2 + k < c → a' = (some (⟨kb, off, none⟩ : Addr)).map (fun x => x.add (i + 2 + k))) → Src (w2.drewN nq) kb (.slice a' (n - (i + 2 + k)) (c - (i + 2 + k))) (b.drop (i + 2 + k))) := fun nq a' ha' => ((HS.out.keep HK.out B2).cut (by have := HN.out; omega) ha').frame (by rw [drewN_heap])
              by_cases q0 : p2 = 0
              · subst q0
                go_wp2
                go_quiet (fail)
                go_wp2_with fail
                all_goals
                  refine (HEN.out _ _ (by first | exact HS2.out _ _ (fun _ => by simp [addr_add]) | exact HS2.out _ _ (fun h => by omega) | (have hx := HS2.out nq (some ⟨kb, off, none⟩) (fun h => by omega); rw [show c - (i + 2 + k) = 0 by omega] at hx; exact hx))).mono ?_
                  rintro e w3 ⟨rfl, nq2, rfl⟩
                  have C3 := (B2.trans (below_drewN w1.heap.size w2 nq)).trans (below_drewN w1.heap.size _ nq2)
                  go_wp2
                  refine bodyPost_ret (v := .tuple #[.slice none 0 0, .int .i64 0, .int .i64 0]) (by simp [results, Tryz.results143, go_sem]) rfl (oneq_no (by simpa using C3))
              · have q1 : (p2 != 0) = true := by simpa using q0
                go_wp2
                go_quiet (fail)
                go_wp2_with fail
                all_goals
                  refine (HEN.out _ _ (by first | exact HS2.out _ _ (fun _ => by simp [addr_add]) | exact HS2.out _ _ (fun h => by omega) | (have hx := HS2.out nq (some ⟨kb, off, none⟩) (fun h => by omega); rw [show c - (i + 2 + k) = 0 by omega] at hx; exact hx))).mono ?_
                  rintro e w3 ⟨rfl, nq2, rfl⟩
                  have C3 := (B2.trans (below_drewN w1.heap.size w2 nq)).trans (below_drewN w1.heap.size _ nq2)
                  go_wp2
                  refine bodyPost_ret (v := .tuple #[.slice none 0 0, .int .i64 0, .int .i64 p2]) (by simp [results, Tryz.results143, go_sem]) rfl (oneq_no (by simpa using C3))
            · rw [if_pos rfl] at E0
              rw [E0]
              obtain rfl : p2 = 0 := hx rfl
              have hn4 := hx2 rfl
              clear E0 hx hx2
              go_enter Tryz.func143, Tryz.ntmps143
              go_wp2_with fail
              refine HC.out.mono ?_
              rintro e w1 ⟨rfl, rfl⟩
              go_wp2_with fail
              refine HZ2.out.mono ?_
              rintro e w2 ⟨rfl, B2⟩
              have HS2 : Hid (∀ nq (a' : Option Addr), (i + 2 + k < c → a' = (some (⟨kb, off, none⟩ : Addr)).map (fun x => x.add (i + 2 + k))) → Src (w2.drewN nq) kb (.slice a' (n - (i + 2 + k)) (c - (i + 2 + k))) (b.drop (i + 2 + k))) := fun nq a' ha' => ((HS.out.keep HK.out B2).cut (by have := HN.out; omega) ha').frame (by rw [drewN_heap])
              go_wp2
              go_quiet (fail)
              go_wp2_with fail
              all_goals
                refine (HEN.out _ _ (by first | exact HS2.out _ _ (fun _ => by simp [addr_add]) | exact HS2.out _ _ (fun h => by omega) | (have hx := HS2.out nq (some ⟨kb, off, none⟩) (fun h => by omega); rw [show c - (i + 2 + k) = 0 by omega] at hx; exact hx))).mono ?_
                rintro e w3 ⟨rfl, nq2, rfl⟩
                have C3 := (B2.trans (below_drewN w1.heap.size w2 nq)).trans (below_drewN w1.heap.size _ nq2)
                go_wp2
                refine bodyPost_ret (v := .tuple #[.slice (some ⟨kb, off + (i + 2), none⟩) k (c - (i + 2)), .int .i64 ((i + 2 + k + 2 : Nat) : Int), .int .i64 0]) (by simp [results, Tryz.results143, go_sem]; try omega) rfl ⟨by simpa using C3, _, _, _, rfl, (fun h => by cases h), HD.out⟩
  · rw [cutV_miss hcut] at HC
    have E0 : oneP m b = (er, 0, 0, 0) := oneP_miss hcut
    rw [E0]
    clear E0 hcut
    by_cases h0 : er = 0
    · subst h0
      go_enter Tryz.func143, Tryz.ntmps143
      go_wp2_with fail
      refine HC.out.mono ?_
      rintro e w1 ⟨rfl, rfl⟩
      go_wp2
      refine bodyPost_ret (v := .tuple #[.slice none 0 0, .int .i64 0, .int .i64 0]) (by simp [results, Tryz.results143, go_sem]) rfl (oneq_no (Below.refl _ _))
    · have h0' : (er != 0) = true := by simpa using h0
      go_enter Tryz.func143, Tryz.ntmps143
      go_wp2_with fail
      refine HC.out.mono ?_
      rintro e w1 ⟨rfl, rfl⟩
      go_wp2
      refine bodyPost_ret (v := .tuple #[.slice none 0 0, .int .i64 0, .int .i64 er]) (by simp [results, Tryz.results143, go_sem]) rfl (oneq_no (Below.refl _ _))
end Go.Proofs.YtajfjjmabncldaaGreatDoor

/- Trailer lines. -/
namespace Go.Proofs.YtajfjjmabncldaaGreatDoor
open Go.RowKit
set_option linter.unusedVariables false

theorem trailL_ok : ∀ (r : Nat) (l : List UInt8), (trailL r l).1 ≠ 0 → (trailL r l).2 = 0 := by
  intro r
  induction r with
  | zero =>
    intro l h
    rcases cut_cases 256 l with ⟨i, hc, _, _⟩ | ⟨e, hc⟩
    · by_cases hi : i = 0
      · subst hi; rw [trailL_end hc]
      · cases hf : fldOk (l.take i)
        · rw [trailL_bad hc hi hf] at h; exact absurd rfl h
        · rw [trailL_many hc hi hf] at h; exact absurd rfl h
    · rw [trailL_miss hc] at h; exact absurd rfl h
  | succ r ih =>
    intro l h
    rcases cut_cases 256 l with ⟨i, hc, _, _⟩ | ⟨e, hc⟩
    · by_cases hi : i = 0
      · subst hi; rw [trailL_end hc]
      · cases hf : fldOk (l.take i)
        · rw [trailL_bad hc hi hf] at h; exact absurd rfl h
        · rw [trailL_next hc hi hf] at h ⊢
          unfold plusN at h ⊢
          by_cases h0 : (trailL r (l.drop (i + 2))).1 = 0
          · rw [if_pos h0] at h; exact absurd rfl h
          · rw [if_neg h0]
    · rw [trailL_miss hc] at h; exact absurd rfl h
theorem plusN_zero (r : Nat × Int) (h : r.1 ≠ 0 → r.2 = 0) : plusN 0 r = r := by
  unfold plusN
  obtain ⟨a, b⟩ := r
  by_cases h0 : a = 0
  · rw [if_pos h0]; rw [show a = 0 from h0]
  · rw [if_neg h0]; have h2 : b = 0 := h h0; rw [h2]; show (0 + a, (0 : Int)) = (a, 0); rw [Nat.zero_add]
theorem plusN_err (i : Nat) (e : Int) : plusN i (0, e) = (0, e) := rfl
theorem plusN_two (i : Nat) : plusN i (2, 0) = (i + 2, 0) := rfl
theorem prs_code (s : ByteArray) : (prs s).2.2 = 0 ∨ (prs s).2.2 = 20 := by
  unfold prs
  split
  · exact .inl rfl
  · exact .inr rfl

set_option maxRecDepth 100000 in
set_option maxHeartbeats 8000000 in
theorem trailer_any (b : List UInt8) (kb : Nat) (v : Value) (w : World) (hs : Src w kb v b) (hk : 0 < b.length → kb < w.heap.size) (hM : MaxL w) :
    Calls Tryz.prog 144 #[v] w fun e w' => e = .returned (.tuple #[.int .i64 ((trailL 40 b).1 : Nat), .int .i64 (trailL 40 b).2]) ∧ Below w.heap.size w w' := by
  have HS : Hid (Src w kb v b) := hs
  obtain ⟨a, c, rfl, h1, h2, h3⟩ := hs
  obtain ⟨n, hn⟩ : ∃ n, n = b.length := ⟨_, rfl⟩
  rw [← hn] at HS ⊢
  have HN : Hid (n = b.length) := hn
  have HK : Hid (0 < b.length → kb < w.heap.size) := hk
  rw [← hn] at h1
  unfold maxLen at h2
  have HM : Hid (MaxL w) := hM
  have HP0 : Hid (trailL 40 b = plusN 0 (trailL 40 (b.drop 0))) := (plusN_zero _ (trailL_ok 40 b)).symm
  generalize trailL 40 b = R at *
  clear hn h3 hk hM
  go_enter Tryz.func144, Tryz.ntmps144
  go_wp2_with fail
  go_loopw [4, 5] (fun va vc wr => ∃ at_ r q : Nat, at_ ≤ n ∧ q + r = 40 ∧ va = .int .i64 at_ ∧ vc = .int .i64 q ∧ Hid (R = plusN at_ (trailL r (b.drop at_))) ∧ Below w.heap.size w wr) (fun _ vc _ => 40 - (intOf vc).toNat)
  case atStart => exact ⟨0, 40, 0, Nat.zero_le _, rfl, rfl, rfl, HP0, Below.refl _ _⟩
  case round =>
    obtain ⟨at_, r, q, hat, hr, rfl, rfl, hR, hB⟩ := hrel
    clear HP0
    have HSA : Hid (∀ a' : Option Addr, (at_ < c → a' = a.map (fun x => x.add at_)) → Src wr kb (.slice a' (n - at_) (c - at_)) (b.drop at_)) := fun a' ha' => (HS.out.keep HK.out hB).cut (by have := HN.out; omega) ha'
    have HCU : Hid (∀ v', Src wr kb v' (b.drop at_) → Calls Tryz.prog 167 #[v', .int .i64 256] wr fun e w' => e = .returned (cutV 256 (b.drop at_)) ∧ w' = wr) := fun v' h => cut_any _ kb _ 256 wr h
    rcases cut_cases 256 (b.drop at_) with ⟨i, hcut, hil, _⟩ | ⟨er, hcut⟩
    · have hle : i ≤ 256 := cutAt_le 256 _ 0 i 0 (by decide) hcut
      rw [cutV_hit hcut] at HCU
      have hin : at_ + i + 2 ≤ n := by rw [List.length_drop] at hil; have := HN.out; omega
      by_cases hi : i = 0
      · subst hi
        have HE : Hid (R = (at_ + 2, 0)) := by rw [Hid, hR.out, trailL_end hcut, plusN_two]
        rw [List.take_zero] at HCU
        clear hcut hR hil
        go_wp2_with fail
        all_goals
          refine (HCU.out _ (by first | exact HSA.out _ (fun _ => rfl) | exact HSA.out _ (fun h => if_neg (by omega)) | exact HSA.out _ (fun h => by omega) | (have hx := HSA.out a (fun h => by omega); rw [show c - at_ = 0 by omega] at hx; exact hx))).mono ?_
          rintro e w1 ⟨rfl, rfl⟩
          go_wp2
          go_ret2
          exact ⟨by rw [HE.out]; go_num, hB⟩
      · have hT : Hid (∀ W, MaxL W → Calls Tryz.prog 136 #[.string ⟨((b.drop at_).take i).toArray⟩] W fun e w' => e = .returned (.tuple #[.agg #[.string (prs (tx ((b.drop at_).take i))).1, .string (prs (tx ((b.drop at_).take i))).2.1], .int .i64 (prs (tx ((b.drop at_).take i))).2.2]) ∧ Below W.heap.size W w') := fun W h => parse_any (tx ((b.drop at_).take i)) W (by rw [tx_size, List.length_take]; omega) h
        have hne : (⟨((b.drop at_).take i).toArray⟩ : ByteArray).toList.isEmpty = false := isEmpty_of (by show ¬ ((b.drop at_).take i).length = 0; rw [List.length_take]; omega)
        have hfd : fldOk ((b.drop at_).take i) = decide ((prs (tx ((b.drop at_).take i))).2.2 = 0) := rfl
        have hcode := prs_code (tx ((b.drop at_).take i))
        generalize prs (tx ((b.drop at_).take i)) = pq at *
        generalize (⟨((b.drop at_).take i).toArray⟩ : ByteArray) = T at *
        obtain ⟨q1, q2, q3⟩ := pq
        simp only at hT hfd hcode
        have hnz : ((i : Int) + 2 == 0) = false := by simp; omega
        have hM1 : Hid (MaxL wr) := HM.out.below hB
        rcases hcode with rfl | rfl
        · have hok : fldOk ((b.drop at_).take i) = true := by rw [hfd]; rfl
          clear hfd hil
          cases r with
          | zero =>
            have HE : Hid (R = (0, 3)) := by rw [Hid, hR.out, trailL_many hcut hi hok, plusN_err]
            obtain rfl : q = 40 := by omega
            clear hcut hR hok
            go_wp2_with fail
            all_goals
              refine (HCU.out _ (by first | exact HSA.out _ (fun _ => rfl) | exact HSA.out _ (fun h => if_neg (by omega)) | exact HSA.out _ (fun h => by omega) | (have hx := HSA.out a (fun h => by omega); rw [show c - at_ = 0 by omega] at hx; exact hx))).mono ?_
              rintro e w1 ⟨rfl, rfl⟩
              go_wp2_with fail
              refine (hT.out _ hM1.out).mono ?_
              rintro e w2 ⟨rfl, B2⟩
              have C2 := hB.trans (B2.mono hB.size)
              have C3 := C2.alloc C2.size (.cells #[.string q1, .string q2] 34)
              go_wp2
              go_ret2
              exact ⟨by rw [HE.out]; rfl, C3⟩
          | succ r =>
            have HE : Hid (R = plusN (at_ + i + 2) (trailL r (b.drop (at_ + i + 2)))) := by
              rw [Hid, hR.out, trailL_next hcut hi hok, plusN_plusN _ _ _ (by omega), List.drop_drop, ← Nat.add_assoc]
            have hq : ((q : Int) == 40) = false := by simp; omega
            have hq' : ¬ ((q : Int) = 40) := by omega
            clear hcut hR hok
            go_wp2_with fail
            all_goals
              refine (HCU.out _ (by first | exact HSA.out _ (fun _ => rfl) | exact HSA.out _ (fun h => if_neg (by omega)) | exact HSA.out _ (fun h => by omega) | (have hx := HSA.out a (fun h => by omega); rw [show c - at_ = 0 by omega] at hx; exact hx))).mono ?_
              rintro e w1 ⟨rfl, rfl⟩
              go_wp2_with fail
              refine (hT.out _ hM1.out).mono ?_
              rintro e w2 ⟨rfl, B2⟩
              have C2 := hB.trans (B2.mono hB.size)
              have C3 := C2.alloc C2.size (.cells #[.string q1, .string q2] 34)
              go_wp2
              go_roundw
              case rel => exact ⟨at_ + i + 2, r, q + 1, by omega, by omega, by go_num, by go_num, HE, C3⟩
              case measure => simp [intOf]; omega
        · have HE : Hid (R = (0, 20)) := by rw [Hid, hR.out, trailL_bad hcut hi (by rw [hfd]; rfl), plusN_err]
          clear hcut hR hil hfd
          go_wp2_with fail
          all_goals
            refine (HCU.out _ (by first | exact HSA.out _ (fun _ => rfl) | exact HSA.out _ (fun h => if_neg (by omega)) | exact HSA.out _ (fun h => by omega) | (have hx := HSA.out a (fun h => by omega); rw [show c - at_ = 0 by omega] at hx; exact hx))).mono ?_
            rintro e w1 ⟨rfl, rfl⟩
            go_wp2_with fail
            refine (hT.out _ hM1.out).mono ?_
            rintro e w2 ⟨rfl, B2⟩
            have C2 := hB.trans (B2.mono hB.size)
            have C3 := C2.alloc C2.size (.cells #[.string q1, .string q2] 34)
            go_wp2
            go_ret2
            exact ⟨by rw [HE.out]; rfl, C3⟩
    · rw [cutV_miss hcut] at HCU
      have HE : Hid (R = (0, er)) := by rw [Hid, hR.out, trailL_miss hcut, plusN_err]
      clear hcut hR
      by_cases h0 : er = 0
      · subst h0
        go_wp2_with fail
        all_goals
          refine (HCU.out _ (by first | exact HSA.out _ (fun _ => rfl) | exact HSA.out _ (fun h => if_neg (by omega)) | exact HSA.out _ (fun h => by omega) | (have hx := HSA.out a (fun h => by omega); rw [show c - at_ = 0 by omega] at hx; exact hx))).mono ?_
          rintro e w1 ⟨rfl, rfl⟩
          go_wp2
          go_ret2
          exact ⟨by rw [HE.out]; rfl, hB⟩
      · have h0' : (er != 0) = true := by simpa using h0
        go_wp2_with fail
        all_goals
          refine (HCU.out _ (by first | exact HSA.out _ (fun _ => rfl) | exact HSA.out _ (fun h => if_neg (by omega)) | exact HSA.out _ (fun h => by omega) | (have hx := HSA.out a (fun h => by omega); rw [show c - at_ = 0 by omega] at hx; exact hx))).mono ?_
          rintro e w1 ⟨rfl, rfl⟩
          go_wp2
          go_ret2
          exact ⟨by rw [HE.out]; rfl, hB⟩
end Go.Proofs.YtajfjjmabncldaaGreatDoor

/- Decode. -/
namespace Go.Proofs.YtajfjjmabncldaaGreatDoor
open Go.RowKit
set_option linter.unusedVariables false

theorem decL_miss {f m : Nat} {l : List UInt8} {e : Int} (h : oneP m l = (e, 0, 0, 0)) : decL (f + 1) m l = ([], 0, e) := by
  rw [decL, h, if_pos rfl]
theorem decL_last {f m n : Nat} {l : List UInt8} (h : oneP m l = (0, n, 0, 0)) (hn : ¬ n = 0) : decL (f + 1) m l = plusD [] n ([], trailL 40 (l.drop n)) := by
  rw [decL, h, if_neg hn, if_pos rfl]
theorem decL_next {f m n o k : Nat} {l : List UInt8} (h : oneP m l = (0, n, o, k)) (hn : ¬ n = 0) (hk : ¬ k = 0) : decL (f + 1) m l = plusD ((l.drop o).take k) n (decL f (m - k) (l.drop n)) := by
  rw [decL, h, if_neg hn, if_neg hk]
theorem trailL_le : ∀ (r : Nat) (l : List UInt8), (trailL r l).1 ≤ l.length := by
  intro r
  induction r with
  | zero =>
    intro l
    rcases cut_cases 256 l with ⟨i, hc, hl, _⟩ | ⟨e, hc⟩
    · by_cases hi : i = 0
      · subst hi; rw [trailL_end hc]; exact hl
      · cases hf : fldOk (l.take i)
        · rw [trailL_bad hc hi hf]; exact Nat.zero_le _
        · rw [trailL_many hc hi hf]; exact Nat.zero_le _
    · rw [trailL_miss hc]; exact Nat.zero_le _
  | succ r ih =>
    intro l
    rcases cut_cases 256 l with ⟨i, hc, hl, _⟩ | ⟨e, hc⟩
    · by_cases hi : i = 0
      · subst hi; rw [trailL_end hc]; exact hl
      · cases hf : fldOk (l.take i)
        · rw [trailL_bad hc hi hf]; exact Nat.zero_le _
        · rw [trailL_next hc hi hf]
          have h := ih (l.drop (i + 2))
          rw [List.length_drop] at h
          unfold plusN
          split
          · exact Nat.zero_le _
          · show i + 2 + _ ≤ _; omega
    · rw [trailL_miss hc]; exact Nat.zero_le _
def okR (r : List UInt8 × Nat × Int) : Prop := (r.2.1 = 0 → r.1 = []) ∧ (r.2.1 ≠ 0 → r.2.2 = 0)
theorem okR_plusD (a : List UInt8) (i : Nat) (r : List UInt8 × Nat × Int) : okR (plusD a i r) := by
  unfold plusD okR
  by_cases h : r.2.1 = 0
  · rw [if_pos h]; exact ⟨fun _ => rfl, fun c => absurd rfl c⟩
  · rw [if_neg h]; exact ⟨fun c => by simp only at c; omega, fun _ => rfl⟩
theorem decL_ok (f m : Nat) (l : List UInt8) : okR (decL f m l) := by
  cases f with
  | zero => exact ⟨fun _ => rfl, fun c => absurd rfl c⟩
  | succ f =>
    rcases oneP_cases m l with ⟨e, h⟩ | ⟨i, h, _⟩ | ⟨i, k, h, hk, _⟩
    · rw [decL_miss h]; exact ⟨fun _ => rfl, fun c => absurd rfl c⟩
    · rw [decL_last h (by omega)]; exact okR_plusD _ _ _
    · rw [decL_next h (by omega) (by omega)]; exact okR_plusD _ _ _
theorem plusD_zero (r : List UInt8 × Nat × Int) (h : okR r) : plusD [] 0 r = r := by
  obtain ⟨a, n, e⟩ := r
  unfold plusD
  by_cases h0 : n = 0
  · rw [if_pos h0]
    have := h.1 h0
    simp only at this
    rw [this, h0]
  · rw [if_neg h0]
    have := h.2 h0
    simp only at this
    rw [this, List.nil_append, Nat.zero_add]
theorem plusD_err (a : List UInt8) (i : Nat) (e : Int) : plusD a i ([], 0, e) = ([], 0, e) := rfl

def DecQ (w : World) (R : List UInt8 × Nat × Int) (e : Ending) (w' : World) : Prop :=
  ∃ v', e = .returned (.tuple #[v', .int .i64 (R.2.1 : Nat), .int .i64 R.2.2]) ∧ Own w.heap.size w' v' R.1 ∧ Below w.heap.size w w'
theorem decq_no {w w' : World} {er : Int} (hB : Below w.heap.size w w') : DecQ w ([], 0, er) (.returned (.tuple #[.slice none 0 0, .int .i64 0, .int .i64 er])) w' :=
  ⟨_, rfl, Own.nil _ _, hB⟩

set_option maxRecDepth 100000 in
set_option maxHeartbeats 8000000 in
theorem decode_any (b : List UInt8) (kb : Nat) (v : Value) (most : Int) (w : World) (hs : Src w kb v b) (hk : 0 < b.length → kb < w.heap.size) (hM : MaxL w) (hlen : b.length ≤ 140737488355328) (hmost : most ≤ 9223372036854775807) :
    Calls Tryz.prog 106 #[v, .int .i64 most] w (DecQ w (decR most.toNat b)) := by
  have HS : Hid (Src w kb v b) := hs
  obtain ⟨a, c, rfl, h1, h2, h3⟩ := hs
  obtain ⟨n, hn⟩ : ∃ n, n = b.length := ⟨_, rfl⟩
  obtain ⟨M, hMM⟩ : ∃ M, M = most.toNat := ⟨_, rfl⟩
  rw [← hn] at HS ⊢
  rw [← hMM]
  have HN : Hid (n = b.length) := hn
  have HMM : Hid (max most 0 = (M : Int)) := by rw [Hid]; omega
  have hM63 : M ≤ 9223372036854775807 := by omega
  have HK : Hid (0 < b.length → kb < w.heap.size) := hk
  have HM : Hid (MaxL w) := hM
  rw [← hn] at h1 hlen
  unfold maxLen at h2
  have HP0 : Hid (decR M b = plusD [] 0 (decL (n + 1) (M - 0) (b.drop 0))) := by
    rw [Hid, HN.out]; exact (plusD_zero _ (decL_ok _ _ _)).symm
  generalize decR M b = R at *
  clear hn hMM h3 hk hM hmost
  have hcan : ∀ (wr : World) (at_ : Nat), at_ ≤ n → Below w.heap.size w wr → ∀ a' : Option Addr, (at_ < c → a' = a.map (fun x => x.add at_)) → Src wr kb (.slice a' (n - at_) (c - at_)) (b.drop at_) := fun wr at_ h1 hB a' ha' => (HS.out.keep HK.out hB).cut (by have := HN.out; omega) ha'
  have HCAN : Hid (∀ (wr : World) (at_ : Nat), at_ ≤ n → Below w.heap.size w wr → ∀ a' : Option Addr, (at_ < c → a' = a.map (fun x => x.add at_)) → Src wr kb (.slice a' (n - at_) (c - at_)) (b.drop at_)) := hcan
  clear hcan
  go_enter Tryz.func106, Tryz.ntmps106
  go_wp2_with fail
  go_loopw [7, 8] (fun v7 va wr => ∃ (at_ f : Nat) (acc : List UInt8), at_ ≤ n ∧ n < at_ + f ∧ acc.length ≤ at_ ∧ acc.length ≤ M ∧ va = .int .i64 at_ ∧ Own w.heap.size wr v7 acc ∧ Hid (R = plusD acc at_ (decL f (M - acc.length) (b.drop at_))) ∧ Below w.heap.size w wr) (fun _ va _ => n - (intOf va).toNat)
  case atStart => exact ⟨0, n + 1, [], Nat.zero_le _, by omega, Nat.le_refl _, Nat.zero_le _, rfl, Own.nil _ _, HP0, Below.refl _ _⟩
  case round =>
    obtain ⟨at_, f, acc, hat, hf, hacc, haM, rfl, hO, hR, hB⟩ := hrel
    clear HP0
    obtain ⟨f, rfl⟩ : ∃ f', f = f' + 1 := ⟨f - 1, by omega⟩
    obtain ⟨a7, c7, rfl, hn7⟩ := hO.form
    have hmm : max most 0 - (acc.length : Int) = ((M - acc.length : Nat) : Int) := by have := HMM.out; omega
    have hkw : Hid (0 < (b.drop at_).length → kb < wr.heap.size) := fun q => Nat.lt_of_lt_of_le (HK.out (by rw [List.length_drop] at q; omega)) hB.size
    have HONE : Hid (∀ v', Src wr kb v' (b.drop at_) → Calls Tryz.prog 143 #[v', .int .i64 ((M - acc.length : Nat) : Int)] wr (OneQ wr kb (b.drop at_) (oneP (M - acc.length) (b.drop at_)))) := fun v' h => one_any _ kb v' _ wr h hkw.out (by omega) (HM.out.below hB)
    have hcell : Hid (∀ a' : Option Addr, (at_ < c → a' = a.map (fun x => x.add at_)) → Src wr kb (.slice a' (n - at_) (c - at_)) (b.drop at_)) := HCAN.out wr at_ hat hB
    rcases oneP_cases (M - acc.length) (b.drop at_) with ⟨er, hone⟩ | ⟨i, hone, hil, _⟩ | ⟨i, k, hone, hk0, hkm, hil, _⟩
    · rw [hone] at HONE
      have HE : Hid (R = ([], 0, er)) := by rw [Hid, hR.out, decL_miss hone, plusD_err]
      clear hone hR
      by_cases h0 : er = 0
      · subst h0
        go_wp2_with fail
        all_goals
          refine (HONE.out _ (by first | exact hcell.out _ (fun _ => rfl) | exact hcell.out _ (fun h => if_neg (by omega)) | exact hcell.out _ (fun h => by omega) | (have hx := hcell.out a (fun h => by omega); rw [show c - at_ = 0 by omega] at hx; exact hx))).mono ?_
          rintro e w1 ⟨B1, ad, nd, cd, rfl, _, _⟩
          have C1 := hB.trans (B1.mono hB.size)
          go_wp2
          refine bodyPost_ret (v := .tuple #[.slice none 0 0, .int .i64 0, .int .i64 0]) (by simp [results, Tryz.results106, go_sem]) rfl ?_
          rw [HE.out]
          exact decq_no C1
      · have h0' : (er != 0) = true := by simpa using h0
        go_wp2_with fail
        all_goals
          refine (HONE.out _ (by first | exact hcell.out _ (fun _ => rfl) | exact hcell.out _ (fun h => if_neg (by omega)) | exact hcell.out _ (fun h => by omega) | (have hx := hcell.out a (fun h => by omega); rw [show c - at_ = 0 by omega] at hx; exact hx))).mono ?_
          rintro e w1 ⟨B1, ad, nd, cd, rfl, _, _⟩
          have C1 := hB.trans (B1.mono hB.size)
          go_wp2
          refine bodyPost_ret (v := .tuple #[.slice none 0 0, .int .i64 0, .int .i64 er]) (by simp [results, Tryz.results106, go_sem]) rfl ?_
          rw [HE.out]
          exact decq_no C1
    · rw [hone] at HONE
      rw [List.length_drop, ← HN.out] at hil
      have HE : Hid (R = plusD acc (at_ + i + 2) ([], trailL 40 (b.drop (at_ + i + 2)))) := by
        rw [Hid, hR.out, decL_last hone (by omega), plusD_plusD _ _ _ _ _ (by omega), List.append_nil, List.drop_drop, ← Nat.add_assoc]
      have htl := trailL_le 40 (b.drop (at_ + i + 2))
      have hto := trailL_ok 40 (b.drop (at_ + i + 2))
      rw [List.length_drop, ← HN.out] at htl
      have HTR : Hid (∀ (W : World) v', Below w.heap.size w W → Src W kb v' (b.drop (at_ + i + 2)) → Calls Tryz.prog 144 #[v'] W fun e w' => e = .returned (.tuple #[.int .i64 ((trailL 40 (b.drop (at_ + i + 2))).1 : Nat), .int .i64 (trailL 40 (b.drop (at_ + i + 2))).2]) ∧ Below W.heap.size W w') := fun W v' hW h => trailer_any _ kb v' W h (fun q => Nat.lt_of_lt_of_le (HK.out (by rw [List.length_drop] at q; omega)) hW.size) (HM.out.below hW)
      generalize trailL 40 (b.drop (at_ + i + 2)) = t at *
      obtain ⟨tn, te⟩ := t
      simp only at htl hto HTR
      clear hone hR
      by_cases ht : tn = 0
      · subst ht
        have HE2 : Hid (R = ([], 0, te)) := by rw [Hid, HE.out, plusD_err]
        clear hto HE
        by_cases h0 : te = 0
        · subst h0
          go_wp2_with fail
          all_goals
            refine (HONE.out _ (by first | exact hcell.out _ (fun _ => rfl) | exact hcell.out _ (fun h => if_neg (by omega)) | exact hcell.out _ (fun h => by omega) | (have hx := hcell.out a (fun h => by omega); rw [show c - at_ = 0 by omega] at hx; exact hx))).mono ?_
            rintro e w1 ⟨B1, ad, nd, cd, rfl, _, hD⟩
            obtain rfl : nd = 0 := hD.len.1.symm
            have C1 := hB.trans (B1.mono hB.size)
            have O1 := hO.keep B1
            have hc2 : Hid (∀ a' : Option Addr, (at_ + i + 2 < c → a' = a.map (fun x => x.add (at_ + i + 2))) → Src w1 kb (.slice a' (n - (at_ + i + 2)) (c - (at_ + i + 2))) (b.drop (at_ + i + 2))) := HCAN.out w1 _ (by omega) C1
            clear hD
            go_wp2_with fail
            all_goals
              refine (HTR.out _ _ C1 (by first | exact hc2.out _ (fun _ => rfl) | exact hc2.out _ (fun h => if_neg (by omega)) | exact hc2.out _ (fun h => by omega) | (have hx := hc2.out a (fun h => by omega); rw [show c - (at_ + i + 2) = 0 by omega] at hx; exact hx))).mono ?_
              rintro e w2 ⟨rfl, B2⟩
              have C2 := C1.trans (B2.mono C1.size)
              have O2 := O1.keep B2
              go_wp2
          
              refine bodyPost_ret (v := .tuple #[.slice none 0 0, .int .i64 0, .int .i64 0]) (by simp [results, Tryz.results106, go_sem]) rfl ?_
              rw [HE2.out]
              exact decq_no C2
        · have h0' : (te != 0) = true := by simpa using h0
          go_wp2_with fail
          all_goals
            refine (HONE.out _ (by first | exact hcell.out _ (fun _ => rfl) | exact hcell.out _ (fun h => if_neg (by omega)) | exact hcell.out _ (fun h => by omega) | (have hx := hcell.out a (fun h => by omega); rw [show c - at_ = 0 by omega] at hx; exact hx))).mono ?_
            rintro e w1 ⟨B1, ad, nd, cd, rfl, _, hD⟩
            obtain rfl : nd = 0 := hD.len.1.symm
            have C1 := hB.trans (B1.mono hB.size)
            have O1 := hO.keep B1
            have hc2 : Hid (∀ a' : Option Addr, (at_ + i + 2 < c → a' = a.map (fun x => x.add (at_ + i + 2))) → Src w1 kb (.slice a' (n - (at_ + i + 2)) (c - (at_ + i + 2))) (b.drop (at_ + i + 2))) := HCAN.out w1 _ (by omega) C1
            clear hD
            go_wp2_with fail
            all_goals
              refine (HTR.out _ _ C1 (by first | exact hc2.out _ (fun _ => rfl) | exact hc2.out _ (fun h => if_neg (by omega)) | exact hc2.out _ (fun h => by omega) | (have hx := hc2.out a (fun h => by omega); rw [show c - (at_ + i + 2) = 0 by omega] at hx; exact hx))).mono ?_
              rintro e w2 ⟨rfl, B2⟩
              have C2 := C1.trans (B2.mono C1.size)
              have O2 := O1.keep B2
              go_wp2
          
              refine bodyPost_ret (v := .tuple #[.slice none 0 0, .int .i64 0, .int .i64 te]) (by simp [results, Tryz.results106, go_sem]) rfl ?_
              rw [HE2.out]
              exact decq_no C2
      · obtain rfl : te = 0 := hto ht
        have HE2 : Hid (R = (acc, at_ + i + 2 + tn, 0)) := by
          rw [Hid, HE.out]
          unfold plusD
          rw [if_neg ht, List.append_nil]
        have ht' : ((tn : Int) == 0) = false := by simp; omega
        have ht'' : ¬ ((tn : Int) = 0) := by omega
        clear hto HE
        go_wp2_with fail
        all_goals
          refine (HONE.out _ (by first | exact hcell.out _ (fun _ => rfl) | exact hcell.out _ (fun h => if_neg (by omega)) | exact hcell.out _ (fun h => by omega) | (have hx := hcell.out a (fun h => by omega); rw [show c - at_ = 0 by omega] at hx; exact hx))).mono ?_
          rintro e w1 ⟨B1, ad, nd, cd, rfl, _, hD⟩
          obtain rfl : nd = 0 := hD.len.1.symm
          have C1 := hB.trans (B1.mono hB.size)
          have O1 := hO.keep B1
          have hc2 : Hid (∀ a' : Option Addr, (at_ + i + 2 < c → a' = a.map (fun x => x.add (at_ + i + 2))) → Src w1 kb (.slice a' (n - (at_ + i + 2)) (c - (at_ + i + 2))) (b.drop (at_ + i + 2))) := HCAN.out w1 _ (by omega) C1
          clear hD
          go_wp2_with fail
          all_goals
            refine (HTR.out _ _ C1 (by first | exact hc2.out _ (fun _ => rfl) | exact hc2.out _ (fun h => if_neg (by omega)) | exact hc2.out _ (fun h => by omega) | (have hx := hc2.out a (fun h => by omega); rw [show c - (at_ + i + 2) = 0 by omega] at hx; exact hx))).mono ?_
            rintro e w2 ⟨rfl, B2⟩
            have C2 := C1.trans (B2.mono C1.size)
            have O2 := O1.keep B2
            go_wp2
        
            refine bodyPost_ret (v := .tuple #[.slice a7 acc.length c7, .int .i64 ((at_ + i + 2 + tn : Nat) : Int), .int .i64 0]) (by simp [results, Tryz.results106, go_sem]; try omega) rfl ?_
            rw [HE2.out]
            exact ⟨_, rfl, O2, C2⟩
    · rw [hone] at HONE
      rw [List.length_drop, ← HN.out] at hil
      have HDL : Hid ((((b.drop at_).drop (i + 2)).take k).length = k) := by rw [Hid, List.length_take, List.length_drop, List.length_drop]; have := HN.out; omega
      have HE : Hid (R = plusD (acc ++ ((b.drop at_).drop (i + 2)).take k) (at_ + (i + 2 + k + 2)) (decL f (M - (acc ++ ((b.drop at_).drop (i + 2)).take k).length) (b.drop (at_ + (i + 2 + k + 2))))) := by
        have hdd : (b.drop at_).drop (i + 2 + k + 2) = b.drop (at_ + (i + 2 + k + 2)) := List.drop_drop
        rw [Hid, hR.out, decL_next hone (by omega) (by omega), plusD_plusD _ _ _ _ _ (by omega), List.length_append, HDL.out, Nat.sub_sub, hdd]
      clear hone hR
      go_wp2_with fail
      all_goals
        refine (HONE.out _ (by first | exact hcell.out _ (fun _ => rfl) | exact hcell.out _ (fun h => if_neg (by omega)) | exact hcell.out _ (fun h => by omega) | (have hx := hcell.out a (fun h => by omega); rw [show c - at_ = 0 by omega] at hx; exact hx))).mono ?_
        rintro e w1 ⟨B1, ad, nd, cd, rfl, hnd, hD⟩
        simp only at hD
        obtain rfl : nd = k := by rw [← HDL.out]; exact hD.len.1.symm
        have C1 := hB.trans (B1.mono hB.size)
        have hD1 : Src w1 kb (.slice ad nd cd) (((b.drop at_).drop (i + 2)).take nd) := hD.keep (fun q => hkw.out (by rw [List.length_drop]; have := HN.out; omega)) B1
        obtain ⟨v3, w3, r3, O3, B3⟩ := own_append (hO.keep B1) hD1 hnd (by rw [HDL.out]; omega) C1.size
        have C3 := C1.trans B3
        have HO3 : Hid (Own w.heap.size w3 v3 (acc ++ ((b.drop at_).drop (i + 2)).take nd)) := O3
        have hzk : ((nd : Int) == 0) = false := by simp; omega
        clear hD hD1 O3
        go_wp2_with (at_builtin; refine wpList_append_run2 rfl _ _ 23 23 rfl _ _ _ w3 rfl rfl r3 ?_)
        go_roundw
        case rel => exact ⟨at_ + (i + 2 + nd + 2), f, acc ++ ((b.drop at_).drop (i + 2)).take nd, by omega, by omega, by rw [List.length_append, HDL.out]; omega, by rw [List.length_append, HDL.out]; omega, by go_num, HO3.out, HE, C3⟩
        case measure => simp [intOf]; omega
end Go.Proofs.YtajfjjmabncldaaGreatDoor

/- Target: what it answers of every text. -/
namespace Go.Proofs.YtajfjjmabncldaaGreatDoor
open Go.RowKit
set_option linter.unusedVariables false

def tgtP (s : ByteArray) : Bool := allB (spanP 33 126) s.data.toList && decide (0 < s.size)

set_option maxHeartbeats 1000000 in
theorem starget_any (s : ByteArray) (w : World) (hs : s.size ≤ maxLen) :
    Calls Tryz.prog 160 #[.string s] w fun e w' => e = .returned (.bool (tgtP s)) ∧ Below w.heap.size w w' := by
  unfold tgtP
  by_cases hz : s.size = 0
  · have he := empty_of hz
    subst he
    go_enter Tryz.func160, Tryz.ntmps160
    go_wp2
    go_ret
    exact ⟨rfl, Below.refl _ _⟩
  · have HZ : Hid (decide (0 < s.size) = true) := by rw [Hid]; simp; omega
    have hne := isEmpty_of hz
    clear hz
    rw [HZ.out]
    go_enter Tryz.func160, Tryz.ntmps160
    go_wp2_with fail
    refine (span_any 33 126 _).mono ?_
    rintro e w1 ⟨p0, q0, rfl, h0, k0, B1⟩
    have HA : Hid (Calls Tryz.prog 163 #[.string s, .func (.func 192) #[] #[.pointer (some ⟨p0, 0, none⟩), .pointer (some ⟨q0, 0, none⟩)]] w1 fun e w' => e = .returned (.bool (allB (spanP 33 126) s.data.toList)) ∧ w' = w1) := all50 s _ _ (spanP 33 126) w1 hs (fun c _ _ => span_call 33 126 c p0 q0 w1 h0 k0)
    clear h0 k0
    go_wp2_with fail
    refine HA.out.mono ?_
    rintro e w2 ⟨rfl, rfl⟩
    go_wp2
    go_ret
    exact ⟨ret_b (by simp), B1⟩

end Go.Proofs.YtajfjjmabncldaaGreatDoor

/- Decimal: what it answers of every text. -/
namespace Go.Proofs.YtajfjjmabncldaaGreatDoor
open Go.RowKit
set_option linter.unusedVariables false

set_option maxHeartbeats 1000000 in
theorem number10 (s : ByteArray) (w : World) (hs : s.size ≤ maxLen) :
    Calls Tryz.prog 190 #[.string s, .int .i64 10, .int .i64 18] w fun e w' => e = .returned (.tuple #[.int .i64 (numI 10 18 s), .bool (numB 10 18 s)]) ∧ w' = w := by
  unfold maxLen at hs
  by_cases hz : s.size = 0
  · have he := empty_of hz
    subst he
    go_enter Tryz.func190, Tryz.ntmps190
    go_wp2
    go_ret2
    exact ⟨ret2_ib (num_out (.inl rfl)).1.symm (num_out (.inl rfl)).2.symm, rfl⟩
  · have hne := isEmpty_of hz
    by_cases hm : (18 : Int) < (s.size : Int)
    · have E : Hid (numI 10 18 s = 0 ∧ numB 10 18 s = false) := num_out (.inr (by omega))
      go_enter Tryz.func190, Tryz.ntmps190
      go_wp2
      go_ret2
      exact ⟨ret2_ib E.out.1.symm E.out.2.symm, rfl⟩
    · have hout : Hid (¬ (s.size = 0 ∨ 18 < s.size)) := by rw [Hid]; omega
      clear hz
      go_enter Tryz.func190, Tryz.ntmps190
      go_wp2
      go_loop [8, 21] (fun vn vi => ∃ k n : Nat, k ≤ s.size ∧ vi = .int .i64 k ∧ vn = .int .i64 n ∧ Hid (vN 10 (s.data.toList.take k) = some n)) (fun _ vi => s.size - (intOf vi).toNat)
      case atStart => exact ⟨0, 0, Nat.zero_le _, rfl, rfl, rfl⟩
      case round =>
        obtain ⟨k, n, hk, rfl, rfl, hv⟩ := hrel
        by_cases hlt : k < s.size
        · have bd := byte_bd s[k]
          have hn : n < 100000000000000000 := vN_take_lt 10 17 (by decide) s k (by omega) n hv.out
          have hd := dgI_bd (s[k].toNat : Int)
          have HD : Hid (((dgN s[k] : Nat) : Int) = dgI (s[k].toNat : Int)) := dgN_cast s[k]
          go_wp2_with fail
          refine (digit_any _ _ bd.1 bd.2).mono ?_
          rintro e w' ⟨rfl, rfl⟩
          by_cases hb : 10 ≤ dgI (s[k].toNat : Int)
          · have E : Hid (numI 10 18 s = 0 ∧ numB 10 18 s = false) := num_bad (vN_bad_at 10 s k hlt (by have := HD.out; omega))
            go_wp2
            go_ret2
            exact ⟨ret2_ib E.out.1.symm E.out.2.symm, rfl⟩
          · have E : Hid (vN 10 (s.data.toList.take (k + 1)) = some (n * 10 + dgN s[k])) := vN_next 10 s k hlt n hv.out (by have := HD.out; omega)
            go_wp2
            go_round
            case rel => exact ⟨k + 1, n * 10 + dgN s[k], by omega, by go_num, by have := HD.out; rw [Int.natCast_add, Int.natCast_mul, this]; rfl, E⟩
            case measure => simp [intOf]; omega
        · go_wp2
          go_ret2
          have hk' : k = s.size := by omega
          subst hk'
          have h := hv.out
          rw [List.take_of_length_le (by simp)] at h
          exact ⟨ret2_ib (num_ok hout.out h).1.symm (num_ok hout.out h).2.symm, rfl⟩

theorem decimal_any (s : ByteArray) (w : World) (hs : s.size ≤ maxLen) :
    Calls Tryz.prog 156 #[.string s] w fun e w' => e = .returned (.tuple #[.int .i64 (numI 10 18 s), .bool (numB 10 18 s)]) ∧ w' = w := by
  go_enter Tryz.func156, Tryz.ntmps156
  go_wp2_with fail
  refine (number10 s _ hs).mono ?_
  rintro e w' ⟨rfl, rfl⟩
  go_wp2
  go_ret2
  exact ⟨rfl, rfl⟩

end Go.Proofs.YtajfjjmabncldaaGreatDoor

/- The small calls of package line: methods, targets, versions, codes, reasons. -/
namespace Go.Proofs.YtajfjjmabncldaaGreatDoor
open Go.RowKit
set_option linter.unusedVariables false

def eqS (a b : ByteArray) : Bool := a.toList == b.toList
def mthP (s : ByteArray) : Bool := decide (s.size ≤ 20) && (allB tokP s.data.toList && decide (0 < s.size))
theorem retb {x y : Bool} (h : x = y) : Ending.returned (.bool x) = .returned (.bool y) := by rw [h]

set_option maxHeartbeats 1000000 in
theorem method_any (s : ByteArray) (w : World) (hs : s.size ≤ maxLen) :
    Calls Tryz.prog 138 #[.string s] w fun e w' => e = .returned (.bool (mthP s)) ∧ Below w.heap.size w w' := by
  have HT : Hid (Calls Tryz.prog 132 #[.string s] w fun e w' => e = .returned (.bool (allB tokP s.data.toList && decide (0 < s.size))) ∧ Below w.heap.size w w') := token_any s w hs
  unfold mthP
  unfold maxLen at hs
  generalize (allB tokP s.data.toList && decide (0 < s.size)) = t at *
  by_cases h : s.size ≤ 20
  · have h' : (s.size : Int) ≤ 20 := by omega
    rw [decide_eq_true h, Bool.true_and]
    clear h
    go_enter Tryz.func138, Tryz.ntmps138
    go_wp2_with fail
    refine HT.out.mono ?_
    rintro e w1 ⟨rfl, B1⟩
    go_wp2
    go_ret
    exact ⟨rfl, B1⟩
  · have h' : ¬ (s.size : Int) ≤ 20 := by omega
    rw [decide_eq_false h, Bool.false_and]
    clear h HT
    go_enter Tryz.func138, Tryz.ntmps138
    go_wp2
    go_ret
    exact ⟨rfl, Below.refl _ _⟩

/-- A target of a method, however long. -/
def tarP (s m : ByteArray) : Bool := tgtP s && (decide (s.data.toList.head? = some 47) || (eqS s ⟨#[42]⟩ && eqS m ⟨#[79, 80, 84, 73, 79, 78, 83]⟩))
theorem lit_list (l : List UInt8) : (⟨l.toArray⟩ : ByteArray).toList = l := by rw [ByteArray.toList_eq]
theorem head_eq {s : ByteArray} (h : 0 < s.size) : decide (s.data.toList.head? = some 47) = ((s[0].toNat : Int) == 47) := by
  have e : s.data.toList.head? = some s[0] := by
    rw [List.head?_eq_getElem?, List.getElem?_eq_getElem (show 0 < s.data.toList.length from h)]; rfl
  rw [e]
  by_cases q : s[0] = 47
  · rw [q]; rfl
  · have q2 : ¬ (s[0].toNat : Int) = 47 := fun e => q (UInt8.toNat_inj.1 (show s[0].toNat = 47 by omega))
    rw [decide_eq_false (fun e => q (Option.some.inj e))]
    exact (beq_eq_false_iff_ne.2 q2).symm

set_option maxHeartbeats 1000000 in
theorem target_any (s m : ByteArray) (w : World) (hs : s.size ≤ maxLen) :
    Calls Tryz.prog 139 #[.string s, .string m] w fun e w' => e = .returned (.bool (tarP s m)) ∧ Below w.heap.size w w' := by
  have HT : Hid (Calls Tryz.prog 160 #[.string s] w fun e w' => e = .returned (.bool (tgtP s)) ∧ Below w.heap.size w w') := starget_any s w hs
  unfold tarP
  unfold maxLen at hs
  cases ht : tgtP s
  · rw [ht] at HT
    rw [Bool.false_and]
    clear ht
    go_enter Tryz.func139, Tryz.ntmps139
    go_wp2_with fail
    refine HT.out.mono ?_
    rintro e w1 ⟨rfl, B1⟩
    go_wp2
    go_ret
    exact ⟨rfl, B1⟩
  · rw [ht] at HT
    have hp : 0 < s.size := by
      unfold tgtP at ht
      rw [Bool.and_eq_true] at ht
      exact of_decide_eq_true ht.2
    rw [Bool.true_and, head_eq hp]
    have e1 : eqS s ⟨#[42]⟩ = (s.toList == [42]) := by unfold eqS; congr 1; exact lit_list _
    have e2 : eqS m ⟨#[79, 80, 84, 73, 79, 78, 83]⟩ = (m.toList == [79, 80, 84, 73, 79, 78, 83]) := by unfold eqS; congr 1; exact lit_list _
    rw [e1, e2]
    clear ht e1 e2
    have hp2 : (0 : Int) < (s.size : Int) := by omega
    cases h1 : ((s[0].toNat : Int) == 47)
    · cases h2 : (s.toList == [42])
      · go_enter Tryz.func139, Tryz.ntmps139
        go_wp2_with fail
        refine HT.out.mono ?_
        rintro e w1 ⟨rfl, B1⟩
        go_wp2
        go_ret
        exact ⟨rfl, B1⟩
      · go_enter Tryz.func139, Tryz.ntmps139
        go_wp2_with fail
        refine HT.out.mono ?_
        rintro e w1 ⟨rfl, B1⟩
        go_wp2
        go_ret
        exact ⟨retb (by simp), B1⟩
    · go_enter Tryz.func139, Tryz.ntmps139
      go_wp2_with fail
      refine HT.out.mono ?_
      rintro e w1 ⟨rfl, B1⟩
      go_wp2
      go_ret
      exact ⟨rfl, B1⟩

/-- The Minor of a version that is known. -/
def v10 : ByteArray := ⟨#[72, 84, 84, 80, 47, 49, 46, 48]⟩
def v11 : ByteArray := ⟨#[72, 84, 84, 80, 47, 49, 46, 49]⟩
def minP (s : ByteArray) : Int × Bool := if eqS s v10 = true then (0, true) else if eqS s v11 = true then (1, true) else (0, false)
theorem minor_any (s : ByteArray) (w : World) : Calls Tryz.prog 141 #[.string s] w fun e w' => e = .returned (.tuple #[.int .i64 (minP s).1, .bool (minP s).2]) ∧ w' = w := by
  unfold minP
  have e1 : eqS s v10 = (s.toList == [72, 84, 84, 80, 47, 49, 46, 48]) := by unfold eqS v10; congr 1; exact lit_list _
  have e2 : eqS s v11 = (s.toList == [72, 84, 84, 80, 47, 49, 46, 49]) := by unfold eqS v11; congr 1; exact lit_list _
  rw [e1, e2]
  clear e1 e2
  cases h1 : (s.toList == [72, 84, 84, 80, 47, 49, 46, 48])
  · cases h2 : (s.toList == [72, 84, 84, 80, 47, 49, 46, 49])
    · go_enter Tryz.func141, Tryz.ntmps141
      go_wp2
      go_ret2
      exact ⟨rfl, rfl⟩
    · go_enter Tryz.func141, Tryz.ntmps141
      go_wp2
      go_ret2
      exact ⟨rfl, rfl⟩
  · go_enter Tryz.func141, Tryz.ntmps141
    go_wp2
    go_ret2
    exact ⟨rfl, rfl⟩

def digP (c : Int) : Bool := decide (48 ≤ c) && decide (c ≤ 57)
theorem lisdigit_any (c : Int) (w : World) : Calls Tryz.prog 169 #[.int .u8 c] w fun e w' => e = .returned (.bool (digP c)) ∧ w' = w := by
  unfold digP
  by_cases a : 48 ≤ c
  · rw [decide_eq_true a]
    go_enter Tryz.func169, Tryz.ntmps169
    go_wp2
    go_ret
    exact ⟨retb (by simp), rfl⟩
  · rw [decide_eq_false a]
    go_enter Tryz.func169, Tryz.ntmps169
    go_wp2
    go_ret
    exact ⟨rfl, rfl⟩
end Go.Proofs.YtajfjjmabncldaaGreatDoor

/- A text without what it begins with. -/
namespace Go.Proofs.YtajfjjmabncldaaGreatDoor
open Go.RowKit
set_option linter.unusedVariables false

theorem cutprefix_sl (s p : ByteArray) (w : World) : Calls Tryz.prog 179 #[.string s, .string p] w fun e w' => e = .returned (.tuple #[.string (cutP s p), .bool (hasP s p)]) ∧ w' = w := by
  have H : Hid (∀ W, Calls Tryz.prog 117 #[.string s, .string p] W fun e w' => e = .returned (.bool (hasP s p)) ∧ w' = W) := fun W => hasprefix_any s p W
  unfold cutP
  cases h : hasP s p
  · rw [h] at H
    clear h
    go_enter Tryz.func179, Tryz.ntmps179
    go_wp2_with fail
    refine (H.out _).mono ?_
    rintro e w1 ⟨rfl, rfl⟩
    go_wp2
    go_ret2
    exact ⟨rfl, rfl⟩
  · rw [h] at H
    have hl : p.size ≤ s.size := by
      unfold hasP at h
      rw [Bool.and_eq_true] at h
      exact of_decide_eq_true h.1
    clear h
    go_enter Tryz.func179, Tryz.ntmps179
    go_wp2_with fail
    refine (H.out _).mono ?_
    rintro e w1 ⟨rfl, rfl⟩
    go_wp2
    go_ret2
    exact ⟨rfl, rfl⟩

theorem cutprefix_any (s p : ByteArray) (w : World) : Calls Tryz.prog 150 #[.string s, .string p] w fun e w' => e = .returned (.tuple #[.string (cutP s p), .bool (hasP s p)]) ∧ w' = w := by
  go_enter Tryz.func150, Tryz.ntmps150
  go_wp2_with fail
  refine (cutprefix_sl s p _).mono ?_
  rintro e w1 ⟨rfl, rfl⟩
  go_wp2
  go_ret2
  exact ⟨rfl, rfl⟩

end Go.Proofs.YtajfjjmabncldaaGreatDoor

/- Versions, codes, reasons: what the code of package line answers of every text. -/
namespace Go.Proofs.YtajfjjmabncldaaGreatDoor
open Go.RowKit
set_option linter.unusedVariables false

/-- A version of HTTP, known or not. -/
def http : ByteArray := ⟨#[72, 84, 84, 80, 47]⟩
def verN (l : List UInt8) : Bool := match l with
  | [a, b, c] => digP a.toNat && (((b.toNat : Int) == 46) && digP c.toNat)
  | _ => false
def verP (s : ByteArray) : Bool := hasP s http && verN (cutP s http).data.toList
theorem three_of {n : ByteArray} (h : n.size = 3) : ∃ a b c, n = ⟨#[a, b, c]⟩ := by
  obtain ⟨⟨l⟩⟩ := n
  match l, h with
  | [a, b, c], _ => exact ⟨a, b, c, rfl⟩
theorem verN_len {l : List UInt8} (h : ¬ l.length = 3) : verN l = false := by
  unfold verN
  split
  · exact absurd rfl h
  · rfl

set_option maxHeartbeats 1000000 in
theorem isversion_any (s : ByteArray) (w : World) : Calls Tryz.prog 140 #[.string s] w fun e w' => e = .returned (.bool (verP s)) ∧ w' = w := by
  have H : Hid (∀ W, Calls Tryz.prog 150 #[.string s, .string ⟨#[72, 84, 84, 80, 47]⟩] W fun e w' => e = .returned (.tuple #[.string (cutP s http), .bool (hasP s http)]) ∧ w' = W) := fun W => cutprefix_any s http W
  have D : Hid (∀ c W, Calls Tryz.prog 169 #[.int .u8 c] W fun e w' => e = .returned (.bool (digP c)) ∧ w' = W) := fun c W => lisdigit_any c W
  unfold verP
  generalize cutP s http = n at *
  cases h : hasP s http
  · rw [h] at H
    rw [Bool.false_and]
    clear h
    go_enter Tryz.func140, Tryz.ntmps140
    go_wp2_with fail
    refine (H.out _).mono ?_
    rintro e w1 ⟨rfl, rfl⟩
    go_wp2
    go_ret
    exact ⟨rfl, rfl⟩
  · rw [h] at H
    rw [Bool.true_and]
    clear h
    by_cases h3 : n.size = 3
    · obtain ⟨a, b, c, rfl⟩ := three_of h3
      clear h3
      unfold verN
      simp only
      clear D
      go_enter Tryz.func140, Tryz.ntmps140
      go_wp2_with fail
      refine (H.out _).mono ?_
      rintro e w1 ⟨rfl, rfl⟩
      go_wp2
      all_goals go_ret
      all_goals refine ⟨retb ?_, rfl⟩
      all_goals show _ = (digP (((⟨#[a, b, c]⟩ : ByteArray)[0]'(show 0 < 3 by decide)).toNat : Int) && (((((⟨#[a, b, c]⟩ : ByteArray)[1]'(show 1 < 3 by decide)).toNat : Int) == 46) && digP (((⟨#[a, b, c]⟩ : ByteArray)[2]'(show 2 < 3 by decide)).toNat : Int)))
      all_goals generalize (((⟨#[a, b, c]⟩ : ByteArray)[0]'(show 0 < 3 by decide)).toNat : Int) = x at *
      all_goals generalize (((⟨#[a, b, c]⟩ : ByteArray)[1]'(show 1 < 3 by decide)).toNat : Int) = y at *
      all_goals generalize (((⟨#[a, b, c]⟩ : ByteArray)[2]'(show 2 < 3 by decide)).toNat : Int) = z at *
      all_goals unfold digP
      all_goals (rw [Bool.eq_iff_iff]; simp; omega)
    · rw [verN_len (show ¬ n.data.toList.length = 3 from h3)]
      have h3' : ¬ (n.size : Int) = 3 := by omega
      clear h3
      go_enter Tryz.func140, Tryz.ntmps140
      go_wp2_with fail
      refine (H.out _).mono ?_
      rintro e w1 ⟨rfl, rfl⟩
      go_wp2
      go_ret
      exact ⟨rfl, rfl⟩
end Go.Proofs.YtajfjjmabncldaaGreatDoor

/- Package line: a block of five cells; the cut at a blank (split off LnC). -/
namespace Go.Proofs.YtajfjjmabncldaaGreatDoor
open Go.RowKit
set_option linter.unusedVariables false

theorem lbelow_drewN (B : Nat) (w : World) (k : Nat) : Below B w (w.drewN k) := by refine ⟨?_, ?_, ?_, ?_, ?_⟩ <;> simp [World.drewN]
theorem lblk_z {w : World} {b i : Nat} {c : Array Value} {t : TypeId} (h : w.heap[b]? = some (.cells c t)) : w.frozen? ⟨b, i, none⟩ = false := by simp [World.frozen?, h]
/-- A block of five cells, written over. -/
def five (w : World) (b : Nat) (v0 v1 v2 v3 v4 : Value) : World := ((((w.setCell ⟨b, 0, none⟩ v0).setCell ⟨b, 1, none⟩ v1).setCell ⟨b, 2, none⟩ v2).setCell ⟨b, 3, none⟩ v3).setCell ⟨b, 4, none⟩ v4
theorem five_cells {w : World} {b : Nat} {y0 y1 y2 y3 y4 : Value} {t : TypeId} (h : w.heap[b]? = some (.cells #[y0, y1, y2, y3, y4] t)) (v0 v1 v2 v3 v4 : Value) :
    (five w b v0 v1 v2 v3 v4).heap[b]? = some (.cells #[v0, v1, v2, v3, v4] t) := by
  simp [five, World.setCell, Array.getElem?_modify, h]
theorem five_below {B : Nat} {w w' : World} {b : Nat} (v0 v1 v2 v3 v4 : Value) (C : Below B w w') (hb : B ≤ b) : Below B w (five w' b v0 v1 v2 v3 v4) := by
  unfold five
  exact ((((C.setCell (p := ⟨b, 0, none⟩) hb _).setCell (p := ⟨b, 1, none⟩) hb _).setCell (p := ⟨b, 2, none⟩) hb _).setCell (p := ⟨b, 3, none⟩) hb _).setCell (p := ⟨b, 4, none⟩) hb _

/-- Cut at the first blank. -/
def bcut (s : ByteArray) : ByteArray × ByteArray × Bool := (⟨(Lib.cut s.data.toList [32]).1.toArray⟩, ⟨(Lib.cut s.data.toList [32]).2.1.toArray⟩, (Lib.cut s.data.toList [32]).2.2)
theorem bcut_any (s : ByteArray) (w : World) (hs : s.size < 4294967281) (hM : MaxL w) :
    Calls Tryz.prog 147 #[.string s, .string ⟨#[32]⟩] w fun e w' => e = .returned (.tuple #[.string (bcut s).1, .string (bcut s).2.1, .bool (bcut s).2.2]) ∧ Below w.heap.size w w' := by
  obtain ⟨m, hm⟩ := hM
  refine (Tryz.strings_Cut s ⟨#[32]⟩ m w hs hm).mono ?_
  rintro e w' ⟨rfl, k, rfl⟩
  exact ⟨rfl, lbelow_drewN _ _ _⟩
theorem lcut_len (l s : List UInt8) : (Lib.cut l s).1.length ≤ l.length ∧ (Lib.cut l s).2.1.length ≤ l.length := by
  unfold Lib.cut
  split <;> simp <;> omega
theorem bcut_len (s : ByteArray) : (bcut s).1.size ≤ s.size ∧ (bcut s).2.1.size ≤ s.size := lcut_len s.data.toList [32]
end Go.Proofs.YtajfjjmabncldaaGreatDoor

/- Request: what it answers of every text. -/
namespace Go.Proofs.YtajfjjmabncldaaGreatDoor
open Go.RowKit
set_option linter.unusedVariables false

/-- The parts between blanks, up to four. -/
def part4 (s : ByteArray) : List ByteArray := Lib.splitB ⟨#[32]⟩ 0 (min 4 (s.size + 1) - 1) s
theorem splitB_sizes (sep : ByteArray) : ∀ (k : Nat) (s : ByteArray), ∀ x ∈ Lib.splitB sep 0 k s, x.size ≤ s.size
  | 0, s, x, hx => by
    rw [Lib.splitB_zero] at hx
    simp at hx
    rw [hx]
    exact Nat.le_refl _
  | k + 1, s, x, hx => by
    unfold Lib.splitB at hx
    split at hx
    · simp at hx
      rw [hx]
      exact Nat.le_refl _
    · rcases List.mem_cons.1 hx with h | h
      · rw [h]; exact extract_le _ _ _
      · exact Nat.le_trans (splitB_sizes sep k _ x h) (extract_le _ _ _)
theorem part4_any (s : ByteArray) (w : World) (hs : s.size < 4294967281) (hM : MaxL w) :
    Calls Tryz.prog 137 #[.string s, .string ⟨#[32]⟩, .int .i64 4] w fun e w' => ∃ b c, e = .returned (.slice (some ⟨b, 0, none⟩) (part4 s).length c) ∧ Below w.heap.size w w' ∧ w.heap.size ≤ b ∧ (∀ i x, (part4 s)[i]? = some x → w'.cell? ⟨b, i, none⟩ = some (.string x)) := by
  obtain ⟨m, hm⟩ := hM
  refine (Tryz.strings_SplitN s ⟨#[32]⟩ 4 m w hs hm (by decide) (by decide) (by decide)).mono ?_
  rintro e w' ⟨rfl, rfl⟩
  refine ⟨w.heap.size, _, rfl, (Below.refl _ _).alloc (Nat.le_refl _) _, Nat.le_refl _, ?_⟩
  intro i x hx
  refine tblk_cell (tblk_new _ _) ?_
  unfold Lib.cellsOf
  have hi : i < (part4 s).length := (List.getElem?_eq_some_iff.1 hx).1
  unfold part4 at hx hi
  rw [List.getElem?_toArray, List.getElem?_append_left (by simpa using hi), List.getElem?_map, hx]
  rfl

structure Rq where
  method : ByteArray
  target : ByteArray
  minor : Int
  code : Int
def rqV (x : Rq) : Value := .agg #[.string x.method, .string x.target, .int .i64 x.minor, .slice none 0 0, .slice none 0 0]
def rqNo (c : Int) : Rq := ⟨⟨#[]⟩, ⟨#[]⟩, 0, c⟩
def rq3 (p0 p1 p2 : ByteArray) : Rq :=
  if mthP p0 = false then rqNo 400 else if tarP p1 p0 = false then rqNo 400 else if 512 < p1.size then rqNo 414 else if verP p2 = false then rqNo 400 else if (minP p2).2 = false then rqNo 505 else ⟨p0, p1, (minP p2).1, 0⟩
def rqP (s : ByteArray) : Rq := match part4 s with
  | [p0, p1, p2] => rq3 p0 p1 p2
  | _ => rqNo 400
/-- Request's own block, and the row of the three parts. -/
structure RQ (w : World) (b : Nat) (p0 p1 p2 : ByteArray) (W : World) : Prop where
  below : Below w.heap.size w W
  own : W.heap[w.heap.size]? = some (.cells #[.string ⟨#[]⟩, .string ⟨#[]⟩, .int .i64 0, .slice none 0 0, .slice none 0 0] 25)
  lt : b < W.heap.size
  ne : ¬ b = w.heap.size
  c0 : W.cell? ⟨b, 0, none⟩ = some (.string p0)
  c1 : W.cell? ⟨b, 1, none⟩ = some (.string p1)
  c2 : W.cell? ⟨b, 2, none⟩ = some (.string p2)
theorem RQ.drew {w W : World} {b : Nat} {p0 p1 p2 : ByteArray} (h : RQ w b p0 p1 p2 W) : RQ w b p0 p1 p2 W.drew := ⟨h.below.drew, h.own, h.lt, h.ne, h.c0, h.c1, h.c2⟩
theorem RQ.next {w W W' : World} {b : Nat} {p0 p1 p2 : ByteArray} (h : RQ w b p0 p1 p2 W) (k : Below W.heap.size W W') : RQ w b p0 p1 p2 W' :=
  ⟨h.below.trans (k.mono h.below.size), tblk_below h.own k, Nat.lt_of_lt_of_le h.lt k.size, h.ne, (k.cell (p := ⟨b, 0, none⟩) h.lt).trans h.c0, (k.cell (p := ⟨b, 1, none⟩) h.lt).trans h.c1, (k.cell (p := ⟨b, 2, none⟩) h.lt).trans h.c2⟩
theorem ne_of_le {w : World} {o : Obj} {b : Nat} (h : (w.alloc o).heap.size ≤ b) : ¬ b = w.heap.size := by simp at h; omega
theorem lcell_lt {w : World} {b : Nat} {i : Nat} {v : Value} (h : w.cell? ⟨b, i, none⟩ = some v) : b < w.heap.size := by
  unfold World.cell? at h
  rcases Nat.lt_or_ge b w.heap.size with c | c
  · exact c
  · simp [Array.getElem?_eq_none c] at h

set_option maxRecDepth 100000 in
set_option maxHeartbeats 4000000 in
theorem req_three (p0 p1 p2 s : ByteArray) (w : World) (hs : s.size < 4294967281) (hM : MaxL w) (hp : part4 s = [p0, p1, p2]) :
    Calls Tryz.prog 104 #[.string s] w fun e w' => e = .returned (.tuple #[rqV (rq3 p0 p1 p2), .int .i64 (rq3 p0 p1 p2).code]) ∧ Below w.heap.size w w' := by
  have q0 : p0.size ≤ s.size := splitB_sizes _ _ _ p0 (show p0 ∈ part4 s by rw [hp]; simp)
  have q1 : p1.size ≤ s.size := splitB_sizes _ _ _ p1 (show p1 ∈ part4 s by rw [hp]; simp)
  have q2 : p2.size ≤ s.size := splitB_sizes _ _ _ p2 (show p2 ∈ part4 s by rw [hp]; simp)
  have C0 : Below w.heap.size w (w.alloc (.cells #[.string ⟨#[]⟩, .string ⟨#[]⟩, .int .i64 0, .slice none 0 0, .slice none 0 0] 25)) := (Below.refl _ _).alloc (Nat.le_refl _) _
  have hg0 := tblk_new w (.cells #[.string ⟨#[]⟩, .string ⟨#[]⟩, .int .i64 0, .slice none 0 0, .slice none 0 0] 25)
  have H1 : Hid (Calls Tryz.prog 137 #[.string s, .string ⟨#[32]⟩, .int .i64 4] (w.alloc (.cells #[.string ⟨#[]⟩, .string ⟨#[]⟩, .int .i64 0, .slice none 0 0, .slice none 0 0] 25)) fun e w' => ∃ b c, e = .returned (.slice (some ⟨b, 0, none⟩) 3 c) ∧ RQ w b p0 p1 p2 w') := by
    refine (part4_any s _ hs (hM.below C0)).mono ?_
    rintro e w' ⟨b, c, he, B, hb, hc⟩
    rw [hp] at he hc
    have c0 := hc 0 p0 rfl
    exact ⟨b, c, he, C0.trans (B.mono C0.size), tblk_below hg0 B, lcell_lt c0, (ne_of_le hb), c0, hc 1 p1 rfl, hc 2 p2 rfl⟩
  have HM : Hid (∀ b W, RQ w b p0 p1 p2 W → Calls Tryz.prog 138 #[.string p0] W fun e w' => e = .returned (.bool (mthP p0)) ∧ RQ w b p0 p1 p2 w' ∧ w'.cell? ⟨b, 0, none⟩ = some (.string p0) ∧ w'.cell? ⟨b, 1, none⟩ = some (.string p1) ∧ w'.cell? ⟨b, 2, none⟩ = some (.string p2)) := fun b W i => (method_any _ W (by unfold maxLen; omega)).mono fun e w' z => ⟨z.1, i.next z.2, (i.next z.2).c0, (i.next z.2).c1, (i.next z.2).c2⟩
  have HT : Hid (∀ b W, RQ w b p0 p1 p2 W → Calls Tryz.prog 139 #[.string p1, .string p0] W fun e w' => e = .returned (.bool (tarP p1 p0)) ∧ RQ w b p0 p1 p2 w' ∧ w'.cell? ⟨b, 0, none⟩ = some (.string p0) ∧ w'.cell? ⟨b, 1, none⟩ = some (.string p1) ∧ w'.cell? ⟨b, 2, none⟩ = some (.string p2)) := fun b W i => (target_any _ _ W (by unfold maxLen; omega)).mono fun e w' z => ⟨z.1, i.next z.2, (i.next z.2).c0, (i.next z.2).c1, (i.next z.2).c2⟩
  have K0 : Hid (∀ b W, RQ w b p0 p1 p2 W → Calls Tryz.prog 44 #[.string p0] W fun e w' => e = .returned (.string p0) ∧ RQ w b p0 p1 p2 w' ∧ w'.cell? ⟨b, 0, none⟩ = some (.string p0) ∧ w'.cell? ⟨b, 1, none⟩ = some (.string p1) ∧ w'.cell? ⟨w.heap.size, 0, none⟩ = some (.string ⟨#[]⟩) ∧ w'.frozen? ⟨w.heap.size, 0, none⟩ = false ∧ w'.cell? ⟨w.heap.size, 1, none⟩ = some (.string ⟨#[]⟩) ∧ w'.frozen? ⟨w.heap.size, 1, none⟩ = false ∧ w'.cell? ⟨w.heap.size, 2, none⟩ = some (.int .i64 0) ∧ w'.frozen? ⟨w.heap.size, 2, none⟩ = false ∧ w'.cell? ⟨w.heap.size, 3, none⟩ = some (.slice none 0 0) ∧ w'.frozen? ⟨w.heap.size, 3, none⟩ = false ∧ w'.cell? ⟨w.heap.size, 4, none⟩ = some (.slice none 0 0) ∧ w'.frozen? ⟨w.heap.size, 4, none⟩ = false) := fun b W i => (clone_any _ W (by omega)).mono fun e w' z => ⟨z.1, i.next z.2, (i.next z.2).c0, (i.next z.2).c1, tblk_cell (i.next z.2).own rfl, lblk_z (i.next z.2).own, tblk_cell (i.next z.2).own rfl, lblk_z (i.next z.2).own, tblk_cell (i.next z.2).own rfl, lblk_z (i.next z.2).own, tblk_cell (i.next z.2).own rfl, lblk_z (i.next z.2).own, tblk_cell (i.next z.2).own rfl, lblk_z (i.next z.2).own⟩
  have K1 : Hid (∀ b W, RQ w b p0 p1 p2 W → Calls Tryz.prog 44 #[.string p1] W fun e w' => e = .returned (.string p1) ∧ RQ w b p0 p1 p2 w' ∧ w'.cell? ⟨b, 0, none⟩ = some (.string p0) ∧ w'.cell? ⟨b, 1, none⟩ = some (.string p1) ∧ w'.cell? ⟨w.heap.size, 0, none⟩ = some (.string ⟨#[]⟩) ∧ w'.frozen? ⟨w.heap.size, 0, none⟩ = false ∧ w'.cell? ⟨w.heap.size, 1, none⟩ = some (.string ⟨#[]⟩) ∧ w'.frozen? ⟨w.heap.size, 1, none⟩ = false ∧ w'.cell? ⟨w.heap.size, 2, none⟩ = some (.int .i64 0) ∧ w'.frozen? ⟨w.heap.size, 2, none⟩ = false ∧ w'.cell? ⟨w.heap.size, 3, none⟩ = some (.slice none 0 0) ∧ w'.frozen? ⟨w.heap.size, 3, none⟩ = false ∧ w'.cell? ⟨w.heap.size, 4, none⟩ = some (.slice none 0 0) ∧ w'.frozen? ⟨w.heap.size, 4, none⟩ = false) := fun b W i => (clone_any _ W (by omega)).mono fun e w' z => ⟨z.1, i.next z.2, (i.next z.2).c0, (i.next z.2).c1, tblk_cell (i.next z.2).own rfl, lblk_z (i.next z.2).own, tblk_cell (i.next z.2).own rfl, lblk_z (i.next z.2).own, tblk_cell (i.next z.2).own rfl, lblk_z (i.next z.2).own, tblk_cell (i.next z.2).own rfl, lblk_z (i.next z.2).own, tblk_cell (i.next z.2).own rfl, lblk_z (i.next z.2).own⟩
  have HV : Hid (∀ W, Calls Tryz.prog 140 #[.string p2] W fun e w' => e = .returned (.bool (verP p2)) ∧ w' = W) := fun W => isversion_any _ W
  have HN : Hid (∀ W, Calls Tryz.prog 141 #[.string p2] W fun e w' => e = .returned (.tuple #[.int .i64 (minP p2).1, .bool (minP p2).2]) ∧ w' = W) := fun W => minor_any _ W
  unfold rq3
  generalize mthP p0 = bm at *
  generalize tarP p1 p0 = bt at *
  generalize verP p2 = bv at *
  generalize minP p2 = mm at *
  obtain ⟨mi, kn⟩ := mm
  simp only at HN ⊢
  have hq : Hid (p1.size ≤ 4294967281) := by rw [Hid]; omega
  clear q0 q1 q2 hs hM hp C0 hg0
  cases bm
  · rw [if_pos rfl]
    go_enter Tryz.func104, Tryz.ntmps104
    go_wp2_with fail
    refine H1.out.mono ?_
    rintro e w1 ⟨b, c, rfl, I0⟩
    have s0 := I0.c0
    have s1 := I0.c1
    have s2 := I0.c2
    clear H1
    go_wp2_with fail
    refine wp_region_held_drew (S := (fun W => W.cell? ⟨b, 0, none⟩ = some (.string p0) ∧ W.cell? ⟨b, 1, none⟩ = some (.string p1) ∧ W.cell? ⟨b, 2, none⟩ = some (.string p2))) (by kernel_rfl) ⟨s0, s1, s2⟩ (fun hHeld => ?_)
    refine wpAnyH_take (i := 0) (oi := { dst := some 9, op := Op.move (Operand.tmp 4), type := 28, pos := "line.go:44", after := #[], guard := none }) (v := ?v0) rfl (by kernel_rfl) (by kernel_rfl) (by kernel_rfl) (fun _ _ _ h => h) (Or.inl ⟨by rfl, ?hy0⟩) hHeld ?rest0
    case hy0 => (intro w hSw; (try dsimp only at hSw); go_simp; try with_reducible rfl)
    try simp only [Act.put, List.setIfInBounds_toArray, List.set_cons_zero, List.set_cons_succ]
    refine wpAnyH_take (i := 1) (oi := { dst := some 10, op := Op.call { callee := Callee.builtin Builtin.len, args := #[Operand.tmp 9], argTypes := #[28] }, type := 3, pos := "line.go:44", after := #[{ on := 0, ground := Ground.data }], guard := none }) (v := ?v1) rfl (by kernel_rfl) (by kernel_rfl) (by kernel_rfl) (fun _ _ _ h => h) (Or.inl ⟨by rfl, ?hy1⟩) hHeld ?rest1
    case hy1 => (intro w hSw; (try dsimp only at hSw); go_simp; try with_reducible rfl)
    try simp only [Act.put, List.setIfInBounds_toArray, List.set_cons_zero, List.set_cons_succ]
    refine wpAnyH_take (i := 2) (oi := { dst := some 11, op := Op.binOp BinOp.neq 3 (Operand.tmp 10) (Operand.const (Value.int IntKind.i64 3)) 3, type := 4, pos := "line.go:44", after := #[{ on := 1, ground := Ground.data }], guard := none }) (v := ?v2) rfl (by kernel_rfl) (by kernel_rfl) (by kernel_rfl) (fun _ _ _ h => h) (Or.inl ⟨by rfl, ?hy2⟩) hHeld ?rest2
    case hy2 => (intro w hSw; (try dsimp only at hSw); go_simp; try with_reducible rfl)
    try simp only [Act.put, List.setIfInBounds_toArray, List.set_cons_zero, List.set_cons_succ]
    refine wpAnyH_take (i := 3) (oi := { dst := some 12, op := Op.move (Operand.tmp 11), type := 4, pos := "line.go:44", after := #[{ on := 2, ground := Ground.data }], guard := none }) (v := ?v3) rfl (by kernel_rfl) (by kernel_rfl) (by kernel_rfl) (fun _ _ _ h => h) (Or.inl ⟨by rfl, ?hy3⟩) hHeld ?rest3
    case hy3 => (intro w hSw; (try dsimp only at hSw); go_simp; try with_reducible rfl)
    try simp only [Act.put, List.setIfInBounds_toArray, List.set_cons_zero, List.set_cons_succ]
    refine wpAnyH_take (i := 4) (oi := { dst := some 13, op := Op.move (Operand.tmp 4), type := 28, pos := "line.go:44", after := #[{ on := 3, ground := Ground.guard }], guard := some (3, false) }) (v := ?v4) rfl (by kernel_rfl) (by kernel_rfl) (by kernel_rfl) (fun _ _ _ h => h) (Or.inl ⟨by rfl, ?hy4⟩) hHeld ?rest4
    case hy4 => (intro w hSw; (try dsimp only at hSw); go_simp; try with_reducible rfl)
    try simp only [Act.put, List.setIfInBounds_toArray, List.set_cons_zero, List.set_cons_succ]
    refine wpAnyH_take (i := 5) (oi := { dst := some 14, op := Op.indexAddr 28 (Operand.tmp 13) (Operand.const (Value.int IntKind.i64 0)), type := 0, pos := "line.go:44", after := #[{ on := 4, ground := Ground.data }, { on := 3, ground := Ground.guard }], guard := some (3, false) }) (v := ?v5) rfl (by kernel_rfl) (by kernel_rfl) (by kernel_rfl) (fun _ _ _ h => h) (Or.inl ⟨by rfl, ?hy5⟩) hHeld ?rest5
    case hy5 => (intro w hSw; (try dsimp only at hSw); go_simp; try with_reducible rfl)
    try simp only [Act.put, List.setIfInBounds_toArray, List.set_cons_zero, List.set_cons_succ]
    refine wpAnyH_take (i := 6) (oi := { dst := some 15, op := Op.load 9 (Operand.tmp 14), type := 9, pos := "line.go:44", after := #[{ on := 5, ground := Ground.data }, { on := 3, ground := Ground.guard }], guard := some (3, false) }) (v := ?v6) rfl (by kernel_rfl) (by kernel_rfl) (by kernel_rfl) (fun _ _ _ h => h) (Or.inl ⟨by rfl, ?hy6⟩) hHeld ?rest6
    case hy6 => (intro w hSw; (try dsimp only at hSw); go_simp; try with_reducible rfl)
    try simp only [Act.put, List.setIfInBounds_toArray, List.set_cons_zero, List.set_cons_succ]
    refine wpAnyH_ready (rs := [7]) (by kernel_rfl) (by simp) ?_
    refine AllReadyH.cons (o := { dst := some 16, op := Op.call { callee := Callee.value (Operand.func 138), args := #[Operand.tmp 15], argTypes := #[9] }, type := 4, pos := "line.go:44", after := #[{ on := 6, ground := Ground.data }, { on := 3, ground := Ground.chain }, { on := 3, ground := Ground.guard }], guard := some (3, false) }) rfl (fun K hK => ?_) AllReadyH.nil
    go_simp
    (go_at_call 138; refine (HM.out b _ (by first | assumption | exact RQ.drew I0 | exact RQ.drew (by assumption))).mono ?_; rintro e w' ⟨rfl, hI, hS0, hS1, hS2⟩)
    refine hK.out _ _ ⟨hS0, hS1, hS2⟩ (fun hHeld => ?_)
    clear hK K
    try simp only [Act.put, List.setIfInBounds_toArray, List.set_cons_zero, List.set_cons_succ]
    refine wpAnyH_take (i := 8) (oi := { dst := some 17, op := Op.unOp UnOp.not 4 (Operand.tmp 16), type := 4, pos := "line.go:44", after := #[{ on := 7, ground := Ground.data }, { on := 3, ground := Ground.guard }], guard := some (3, false) }) (v := ?v8) rfl (by kernel_rfl) (by kernel_rfl) (by kernel_rfl) (fun _ _ _ h => h) (Or.inl ⟨by rfl, ?hy8⟩) hHeld ?rest8
    case hy8 => (intro w hSw; (try dsimp only at hSw); go_simp; try with_reducible rfl)
    try simp only [Act.put, List.setIfInBounds_toArray, List.set_cons_zero, List.set_cons_succ]
    refine wpAnyH_take (i := 9) (oi := { dst := some 18, op := Op.pick (Operand.tmp 12) (Operand.const (Value.bool true)) (Operand.tmp 17), type := 4, pos := "line.go:44", after := #[{ on := 3, ground := Ground.data }, { on := 8, ground := Ground.data }], guard := none }) (v := ?v9) rfl (by kernel_rfl) (by kernel_rfl) (by kernel_rfl) (fun _ _ _ h => h) (Or.inl ⟨by rfl, ?hy9⟩) hHeld ?rest9
    case hy9 => (intro w hSw; (try dsimp only at hSw); go_simp; try with_reducible rfl)
    try simp only [Act.put, List.setIfInBounds_toArray, List.set_cons_zero, List.set_cons_succ]
    refine wpAnyH_take (i := 10) (oi := { dst := some 19, op := Op.move (Operand.tmp 18), type := 4, pos := "line.go:44", after := #[{ on := 9, ground := Ground.data }, { on := 7, ground := Ground.chain }], guard := none }) (v := ?v10) rfl (by kernel_rfl) (by kernel_rfl) (by kernel_rfl) (fun _ _ _ h => h) (Or.inl ⟨by rfl, ?hy10⟩) hHeld ?rest10
    case hy10 => (intro w hSw; (try dsimp only at hSw); go_simp; try with_reducible rfl)
    try simp only [Act.put, List.setIfInBounds_toArray, List.set_cons_zero, List.set_cons_succ]
    refine wpAnyH_take (i := 11) (oi := { dst := some 20, op := Op.move (Operand.tmp 4), type := 28, pos := "line.go:44", after := #[{ on := 10, ground := Ground.guard }], guard := some (10, false) }) (v := undef) rfl (by kernel_rfl) (by kernel_rfl) (by kernel_rfl) (fun _ _ _ h => h) (Or.inr ⟨by rfl, rfl⟩) hHeld ?rest11
    try simp only [Act.put, List.setIfInBounds_toArray, List.set_cons_zero, List.set_cons_succ]
    refine wpAnyH_take (i := 12) (oi := { dst := some 21, op := Op.indexAddr 28 (Operand.tmp 20) (Operand.const (Value.int IntKind.i64 1)), type := 0, pos := "line.go:44", after := #[{ on := 11, ground := Ground.data }, { on := 10, ground := Ground.guard }], guard := some (10, false) }) (v := undef) rfl (by kernel_rfl) (by kernel_rfl) (by kernel_rfl) (fun _ _ _ h => h) (Or.inr ⟨by rfl, rfl⟩) hHeld ?rest12
    try simp only [Act.put, List.setIfInBounds_toArray, List.set_cons_zero, List.set_cons_succ]
    refine wpAnyH_take (i := 13) (oi := { dst := some 22, op := Op.load 9 (Operand.tmp 21), type := 9, pos := "line.go:44", after := #[{ on := 12, ground := Ground.data }, { on := 10, ground := Ground.guard }], guard := some (10, false) }) (v := undef) rfl (by kernel_rfl) (by kernel_rfl) (by kernel_rfl) (fun _ _ _ h => h) (Or.inr ⟨by rfl, rfl⟩) hHeld ?rest13
    try simp only [Act.put, List.setIfInBounds_toArray, List.set_cons_zero, List.set_cons_succ]
    refine wpAnyH_take (i := 14) (oi := { dst := some 23, op := Op.move (Operand.tmp 4), type := 28, pos := "line.go:44", after := #[{ on := 10, ground := Ground.guard }], guard := some (10, false) }) (v := undef) rfl (by kernel_rfl) (by kernel_rfl) (by kernel_rfl) (fun _ _ _ h => h) (Or.inr ⟨by rfl, rfl⟩) hHeld ?rest14
    try simp only [Act.put, List.setIfInBounds_toArray, List.set_cons_zero, List.set_cons_succ]
    refine wpAnyH_take (i := 15) (oi := { dst := some 24, op := Op.indexAddr 28 (Operand.tmp 23) (Operand.const (Value.int IntKind.i64 0)), type := 0, pos := "line.go:44", after := #[{ on := 14, ground := Ground.data }, { on := 10, ground := Ground.guard }], guard := some (10, false) }) (v := undef) rfl (by kernel_rfl) (by kernel_rfl) (by kernel_rfl) (fun _ _ _ h => h) (Or.inr ⟨by rfl, rfl⟩) hHeld ?rest15
    try simp only [Act.put, List.setIfInBounds_toArray, List.set_cons_zero, List.set_cons_succ]
    refine wpAnyH_take (i := 16) (oi := { dst := some 25, op := Op.load 9 (Operand.tmp 24), type := 9, pos := "line.go:44", after := #[{ on := 15, ground := Ground.data }, { on := 10, ground := Ground.guard }], guard := some (10, false) }) (v := undef) rfl (by kernel_rfl) (by kernel_rfl) (by kernel_rfl) (fun _ _ _ h => h) (Or.inr ⟨by rfl, rfl⟩) hHeld ?rest16
    try simp only [Act.put, List.setIfInBounds_toArray, List.set_cons_zero, List.set_cons_succ]
    refine wpAnyH_take (i := 17) (oi := { dst := some 26, op := Op.call { callee := Callee.value (Operand.func 139), args := #[Operand.tmp 22, Operand.tmp 25], argTypes := #[9, 9] }, type := 4, pos := "line.go:44", after := #[{ on := 13, ground := Ground.data }, { on := 16, ground := Ground.data }, { on := 10, ground := Ground.chain }, { on := 10, ground := Ground.guard }], guard := some (10, false) }) (v := undef) rfl (by kernel_rfl) (by kernel_rfl) (by kernel_rfl) (fun _ _ _ h => h) (Or.inr ⟨by rfl, rfl⟩) hHeld ?rest17
    try simp only [Act.put, List.setIfInBounds_toArray, List.set_cons_zero, List.set_cons_succ]
    refine wpAnyH_take (i := 18) (oi := { dst := some 27, op := Op.unOp UnOp.not 4 (Operand.tmp 26), type := 4, pos := "line.go:44", after := #[{ on := 17, ground := Ground.data }, { on := 10, ground := Ground.guard }], guard := some (10, false) }) (v := undef) rfl (by kernel_rfl) (by kernel_rfl) (by kernel_rfl) (fun _ _ _ h => h) (Or.inr ⟨by rfl, rfl⟩) hHeld ?rest18
    try simp only [Act.put, List.setIfInBounds_toArray, List.set_cons_zero, List.set_cons_succ]
    refine wpAnyH_take (i := 19) (oi := { dst := some 28, op := Op.pick (Operand.tmp 19) (Operand.const (Value.bool true)) (Operand.tmp 27), type := 4, pos := "line.go:44", after := #[{ on := 10, ground := Ground.data }, { on := 18, ground := Ground.data }], guard := none }) (v := ?v19) rfl (by kernel_rfl) (by kernel_rfl) (by kernel_rfl) (fun _ _ _ h => h) (Or.inl ⟨by rfl, ?hy19⟩) hHeld ?rest19
    case hy19 => (intro w hSw; (try dsimp only at hSw); go_simp; try with_reducible rfl)
    try simp only [Act.put, List.setIfInBounds_toArray, List.set_cons_zero, List.set_cons_succ]
    refine wpAnyH_done (by kernel_rfl) ?_ _
    have HW := five_cells hI.own (.string ⟨#[]⟩) (.string ⟨#[]⟩) (.int .i64 0) (.slice none 0 0) (.slice none 0 0)
    have HB := five_below (.string ⟨#[]⟩) (.string ⟨#[]⟩) (.int .i64 0) (.slice none 0 0) (.slice none 0 0) hI.below (Nat.le_refl _)
    have a0 := tblk_cell (i := 0) hI.own rfl
    have z0 := lblk_z (i := 0) hI.own
    have a1 := tblk_cell (i := 1) hI.own rfl
    have z1 := lblk_z (i := 1) hI.own
    have a2 := tblk_cell (i := 2) hI.own rfl
    have z2 := lblk_z (i := 2) hI.own
    have a3 := tblk_cell (i := 3) hI.own rfl
    have z3 := lblk_z (i := 3) hI.own
    have a4 := tblk_cell (i := 4) hI.own rfl
    have z4 := lblk_z (i := 4) hI.own
    have r0 := tblk_cell (i := 0) HW rfl
    have r1 := tblk_cell (i := 1) HW rfl
    have r2 := tblk_cell (i := 2) HW rfl
    have r3 := tblk_cell (i := 3) HW rfl
    have r4 := tblk_cell (i := 4) HW rfl
    unfold five at r0 r1 r2 r3 r4 HB
    have HB' : Hid _ := HB
    clear HB HW
    go_wp2
    refine bodyPost_ret (v := .tuple #[.agg #[.string ⟨#[]⟩, .string ⟨#[]⟩, .int .i64 0, .slice none 0 0, .slice none 0 0], .int .i64 400]) (by simp [results, Tryz.results104, go_sem, r0, r1, r2, r3, r4]) rfl ⟨rfl, HB'.out⟩
  · rw [if_neg (by decide)]
    cases bt
    · rw [if_pos rfl]
      go_enter Tryz.func104, Tryz.ntmps104
      go_wp2_with fail
      refine H1.out.mono ?_
      rintro e w1 ⟨b, c, rfl, I0⟩
      have s0 := I0.c0
      have s1 := I0.c1
      have s2 := I0.c2
      clear H1
      go_wp2_with fail
      go_region_held3 (fun W => W.cell? ⟨b, 0, none⟩ = some (.string p0) ∧ W.cell? ⟨b, 1, none⟩ = some (.string p1) ∧ W.cell? ⟨b, 2, none⟩ = some (.string p2)) (go_keep) (first | (go_at_call 138; refine (HM.out b _ (by first | assumption | exact RQ.drew I0 | exact RQ.drew (by assumption))).mono ?_; rintro e w' ⟨rfl, hI, hS0, hS1, hS2⟩) | (go_at_call 139; refine (HT.out b _ (by first | assumption | exact RQ.drew I0 | exact RQ.drew (by assumption))).mono ?_; rintro e w' ⟨rfl, hI, hS0, hS1, hS2⟩))
      have HW := five_cells hI.own (.string ⟨#[]⟩) (.string ⟨#[]⟩) (.int .i64 0) (.slice none 0 0) (.slice none 0 0)
      have HB := five_below (.string ⟨#[]⟩) (.string ⟨#[]⟩) (.int .i64 0) (.slice none 0 0) (.slice none 0 0) hI.below (Nat.le_refl _)
      have a0 := tblk_cell (i := 0) hI.own rfl
      have z0 := lblk_z (i := 0) hI.own
      have a1 := tblk_cell (i := 1) hI.own rfl
      have z1 := lblk_z (i := 1) hI.own
      have a2 := tblk_cell (i := 2) hI.own rfl
      have z2 := lblk_z (i := 2) hI.own
      have a3 := tblk_cell (i := 3) hI.own rfl
      have z3 := lblk_z (i := 3) hI.own
      have a4 := tblk_cell (i := 4) hI.own rfl
      have z4 := lblk_z (i := 4) hI.own
      have r0 := tblk_cell (i := 0) HW rfl
      have r1 := tblk_cell (i := 1) HW rfl
      have r2 := tblk_cell (i := 2) HW rfl
      have r3 := tblk_cell (i := 3) HW rfl
      have r4 := tblk_cell (i := 4) HW rfl
      unfold five at r0 r1 r2 r3 r4 HB
      have HB' : Hid _ := HB
      clear HB HW
      go_wp2
      refine bodyPost_ret (v := .tuple #[.agg #[.string ⟨#[]⟩, .string ⟨#[]⟩, .int .i64 0, .slice none 0 0, .slice none 0 0], .int .i64 400]) (by simp [results, Tryz.results104, go_sem, r0, r1, r2, r3, r4]) rfl ⟨rfl, HB'.out⟩
    · rw [if_neg (by decide)]
      by_cases h5 : 512 < p1.size
      · rw [if_pos h5]
        have h5' : (512 : Int) < (p1.size : Int) := by omega
        clear h5
        go_enter Tryz.func104, Tryz.ntmps104
        go_wp2_with fail
        refine H1.out.mono ?_
        rintro e w1 ⟨b, c, rfl, I0⟩
        have s0 := I0.c0
        have s1 := I0.c1
        have s2 := I0.c2
        clear H1
        go_wp2_with fail
        go_region_held3 (fun W => W.cell? ⟨b, 0, none⟩ = some (.string p0) ∧ W.cell? ⟨b, 1, none⟩ = some (.string p1) ∧ W.cell? ⟨b, 2, none⟩ = some (.string p2)) (go_keep) (first | (go_at_call 138; refine (HM.out b _ (by first | assumption | exact RQ.drew I0 | exact RQ.drew (by assumption))).mono ?_; rintro e w' ⟨rfl, hI, hS0, hS1, hS2⟩) | (go_at_call 139; refine (HT.out b _ (by first | assumption | exact RQ.drew I0 | exact RQ.drew (by assumption))).mono ?_; rintro e w' ⟨rfl, hI, hS0, hS1, hS2⟩))
        have HW := five_cells hI.own (.string ⟨#[]⟩) (.string ⟨#[]⟩) (.int .i64 0) (.slice none 0 0) (.slice none 0 0)
        have HB := five_below (.string ⟨#[]⟩) (.string ⟨#[]⟩) (.int .i64 0) (.slice none 0 0) (.slice none 0 0) hI.below (Nat.le_refl _)
        have a0 := tblk_cell (i := 0) hI.own rfl
        have z0 := lblk_z (i := 0) hI.own
        have a1 := tblk_cell (i := 1) hI.own rfl
        have z1 := lblk_z (i := 1) hI.own
        have a2 := tblk_cell (i := 2) hI.own rfl
        have z2 := lblk_z (i := 2) hI.own
        have a3 := tblk_cell (i := 3) hI.own rfl
        have z3 := lblk_z (i := 3) hI.own
        have a4 := tblk_cell (i := 4) hI.own rfl
        have z4 := lblk_z (i := 4) hI.own
        have r0 := tblk_cell (i := 0) HW rfl
        have r1 := tblk_cell (i := 1) HW rfl
        have r2 := tblk_cell (i := 2) HW rfl
        have r3 := tblk_cell (i := 3) HW rfl
        have r4 := tblk_cell (i := 4) HW rfl
        unfold five at r0 r1 r2 r3 r4 HB
        have HB' : Hid _ := HB
        clear HB HW
        go_wp2
        refine bodyPost_ret (v := .tuple #[.agg #[.string ⟨#[]⟩, .string ⟨#[]⟩, .int .i64 0, .slice none 0 0, .slice none 0 0], .int .i64 414]) (by simp [results, Tryz.results104, go_sem, r0, r1, r2, r3, r4]) rfl ⟨rfl, HB'.out⟩
      · rw [if_neg h5]
        have h5' : ¬ (512 : Int) < (p1.size : Int) := by omega
        clear h5
        cases bv
        · rw [if_pos rfl]
          go_enter Tryz.func104, Tryz.ntmps104
          go_wp2_with fail
          refine H1.out.mono ?_
          rintro e w1 ⟨b, c, rfl, I0⟩
          have s0 := I0.c0
          have s1 := I0.c1
          have s2 := I0.c2
          clear H1
          go_wp2_with fail
          go_region_held3 (fun W => W.cell? ⟨b, 0, none⟩ = some (.string p0) ∧ W.cell? ⟨b, 1, none⟩ = some (.string p1) ∧ W.cell? ⟨b, 2, none⟩ = some (.string p2)) (go_keep) (first | (go_at_call 138; refine (HM.out b _ (by first | assumption | exact RQ.drew I0 | exact RQ.drew (by assumption))).mono ?_; rintro e w' ⟨rfl, hI, hS0, hS1, hS2⟩) | (go_at_call 139; refine (HT.out b _ (by first | assumption | exact RQ.drew I0 | exact RQ.drew (by assumption))).mono ?_; rintro e w' ⟨rfl, hI, hS0, hS1, hS2⟩))
          go_wp2_with fail
          refine (HV.out _).mono ?_
          rintro e w5 ⟨rfl, rfl⟩
          have HW := five_cells hI.own (.string ⟨#[]⟩) (.string ⟨#[]⟩) (.int .i64 0) (.slice none 0 0) (.slice none 0 0)
          have HB := five_below (.string ⟨#[]⟩) (.string ⟨#[]⟩) (.int .i64 0) (.slice none 0 0) (.slice none 0 0) hI.below (Nat.le_refl _)
          have a0 := tblk_cell (i := 0) hI.own rfl
          have z0 := lblk_z (i := 0) hI.own
          have a1 := tblk_cell (i := 1) hI.own rfl
          have z1 := lblk_z (i := 1) hI.own
          have a2 := tblk_cell (i := 2) hI.own rfl
          have z2 := lblk_z (i := 2) hI.own
          have a3 := tblk_cell (i := 3) hI.own rfl
          have z3 := lblk_z (i := 3) hI.own
          have a4 := tblk_cell (i := 4) hI.own rfl
          have z4 := lblk_z (i := 4) hI.own
          have r0 := tblk_cell (i := 0) HW rfl
          have r1 := tblk_cell (i := 1) HW rfl
          have r2 := tblk_cell (i := 2) HW rfl
          have r3 := tblk_cell (i := 3) HW rfl
          have r4 := tblk_cell (i := 4) HW rfl
          unfold five at r0 r1 r2 r3 r4 HB
          have HB' : Hid _ := HB
          clear HB HW
          go_wp2
          refine bodyPost_ret (v := .tuple #[.agg #[.string ⟨#[]⟩, .string ⟨#[]⟩, .int .i64 0, .slice none 0 0, .slice none 0 0], .int .i64 400]) (by simp [results, Tryz.results104, go_sem, r0, r1, r2, r3, r4]) rfl ⟨rfl, HB'.out⟩
        · rw [if_neg (by decide)]
          cases kn
          · rw [if_pos rfl]
            go_enter Tryz.func104, Tryz.ntmps104
            go_wp2_with fail
            refine H1.out.mono ?_
            rintro e w1 ⟨b, c, rfl, I0⟩
            have s0 := I0.c0
            have s1 := I0.c1
            have s2 := I0.c2
            clear H1
            go_wp2_with fail
            go_region_held3 (fun W => W.cell? ⟨b, 0, none⟩ = some (.string p0) ∧ W.cell? ⟨b, 1, none⟩ = some (.string p1) ∧ W.cell? ⟨b, 2, none⟩ = some (.string p2)) (go_keep) (first | (go_at_call 138; refine (HM.out b _ (by first | assumption | exact RQ.drew I0 | exact RQ.drew (by assumption))).mono ?_; rintro e w' ⟨rfl, hI, hS0, hS1, hS2⟩) | (go_at_call 139; refine (HT.out b _ (by first | assumption | exact RQ.drew I0 | exact RQ.drew (by assumption))).mono ?_; rintro e w' ⟨rfl, hI, hS0, hS1, hS2⟩))
            go_wp2_with fail
            refine (HV.out _).mono ?_
            rintro e w5 ⟨rfl, rfl⟩
            go_wp2_with fail
            refine (HN.out _).mono ?_
            rintro e w6 ⟨rfl, rfl⟩
            have HW := five_cells hI.own (.string ⟨#[]⟩) (.string ⟨#[]⟩) (.int .i64 0) (.slice none 0 0) (.slice none 0 0)
            have HB := five_below (.string ⟨#[]⟩) (.string ⟨#[]⟩) (.int .i64 0) (.slice none 0 0) (.slice none 0 0) hI.below (Nat.le_refl _)
            have a0 := tblk_cell (i := 0) hI.own rfl
            have z0 := lblk_z (i := 0) hI.own
            have a1 := tblk_cell (i := 1) hI.own rfl
            have z1 := lblk_z (i := 1) hI.own
            have a2 := tblk_cell (i := 2) hI.own rfl
            have z2 := lblk_z (i := 2) hI.own
            have a3 := tblk_cell (i := 3) hI.own rfl
            have z3 := lblk_z (i := 3) hI.own
            have a4 := tblk_cell (i := 4) hI.own rfl
            have z4 := lblk_z (i := 4) hI.own
            have r0 := tblk_cell (i := 0) HW rfl
            have r1 := tblk_cell (i := 1) HW rfl
            have r2 := tblk_cell (i := 2) HW rfl
            have r3 := tblk_cell (i := 3) HW rfl
            have r4 := tblk_cell (i := 4) HW rfl
            unfold five at r0 r1 r2 r3 r4 HB
            have HB' : Hid _ := HB
            clear HB HW
            go_wp2
            refine bodyPost_ret (v := .tuple #[.agg #[.string ⟨#[]⟩, .string ⟨#[]⟩, .int .i64 0, .slice none 0 0, .slice none 0 0], .int .i64 505]) (by simp [results, Tryz.results104, go_sem, r0, r1, r2, r3, r4]) rfl ⟨rfl, HB'.out⟩
          · rw [if_neg (by decide)]
            go_enter Tryz.func104, Tryz.ntmps104
            go_wp2_with fail
            refine H1.out.mono ?_
            rintro e w1 ⟨b, c, rfl, I0⟩
            have s0 := I0.c0
            have s1 := I0.c1
            have s2 := I0.c2
            clear H1
            go_wp2_with fail
            go_region_held3 (fun W => W.cell? ⟨b, 0, none⟩ = some (.string p0) ∧ W.cell? ⟨b, 1, none⟩ = some (.string p1) ∧ W.cell? ⟨b, 2, none⟩ = some (.string p2)) (go_keep) (first | (go_at_call 138; refine (HM.out b _ (by first | assumption | exact RQ.drew I0 | exact RQ.drew (by assumption))).mono ?_; rintro e w' ⟨rfl, hI, hS0, hS1, hS2⟩) | (go_at_call 139; refine (HT.out b _ (by first | assumption | exact RQ.drew I0 | exact RQ.drew (by assumption))).mono ?_; rintro e w' ⟨rfl, hI, hS0, hS1, hS2⟩))
            go_wp2_with fail
            refine (HV.out _).mono ?_
            rintro e w5 ⟨rfl, rfl⟩
            go_wp2_with fail
            refine (HN.out _).mono ?_
            rintro e w6 ⟨rfl, rfl⟩
            have nb := I0.ne
            have nb' : ¬ w.heap.size = b := fun e => nb e.symm
            have t0 := hI.c0
            have t1 := hI.c1
            go_wp2_with fail
            go_region_held3 (fun W => W.cell? ⟨b, 0, none⟩ = some (.string p0) ∧ W.cell? ⟨b, 1, none⟩ = some (.string p1)) (go_keep) (first | (go_at_call 44; refine (K0.out b _ (by first | assumption | exact RQ.drew (by assumption))).mono ?_; rintro e w' ⟨rfl, hI, hS0, hS1, d0, y0, d1, y1, d2, y2, d3, y3, d4, y4⟩) | (go_at_call 44; refine (K1.out b _ (by first | assumption | exact RQ.drew (by assumption))).mono ?_; rintro e w' ⟨rfl, hI, hS0, hS1, d0, y0, d1, y1, d2, y2, d3, y3, d4, y4⟩))
            have HW := five_cells hI.own (.string p0) (.string p1) (.int .i64 mi) (.slice none 0 0) (.slice none 0 0)
            have HB := five_below (.string p0) (.string p1) (.int .i64 mi) (.slice none 0 0) (.slice none 0 0) hI.below (Nat.le_refl _)
            have r0 := tblk_cell (i := 0) HW rfl
            have r1 := tblk_cell (i := 1) HW rfl
            have r2 := tblk_cell (i := 2) HW rfl
            have r3 := tblk_cell (i := 3) HW rfl
            have r4 := tblk_cell (i := 4) HW rfl
            unfold five at r0 r1 r2 r3 r4 HB
            have HB' : Hid _ := HB
            clear HB HW
            go_wp2
            refine bodyPost_ret (v := .tuple #[.agg #[.string p0, .string p1, .int .i64 mi, .slice none 0 0, .slice none 0 0], .int .i64 0]) (by simp [results, Tryz.results104, go_sem, r0, r1, r2, r3, r4]) rfl ⟨rfl, HB'.out⟩
end Go.Proofs.YtajfjjmabncldaaGreatDoor

/- Request, whole. -/
namespace Go.Proofs.YtajfjjmabncldaaGreatDoor
open Go.RowKit
set_option linter.unusedVariables false

set_option maxRecDepth 100000 in
set_option maxHeartbeats 4000000 in
theorem req_other (s : ByteArray) (w : World) (hs : s.size < 4294967281) (hM : MaxL w) (hp : ¬ (part4 s).length = 3) :
    Calls Tryz.prog 104 #[.string s] w fun e w' => e = .returned (.tuple #[rqV (rqNo 400), .int .i64 (rqNo 400).code]) ∧ Below w.heap.size w w' := by
  have C0 : Below w.heap.size w (w.alloc (.cells #[.string ⟨#[]⟩, .string ⟨#[]⟩, .int .i64 0, .slice none 0 0, .slice none 0 0] 25)) := (Below.refl _ _).alloc (Nat.le_refl _) _
  have hg0 := tblk_new w (.cells #[.string ⟨#[]⟩, .string ⟨#[]⟩, .int .i64 0, .slice none 0 0, .slice none 0 0] 25)
  have H1 : Hid (Calls Tryz.prog 137 #[.string s, .string ⟨#[32]⟩, .int .i64 4] (w.alloc (.cells #[.string ⟨#[]⟩, .string ⟨#[]⟩, .int .i64 0, .slice none 0 0, .slice none 0 0] 25)) fun e w' => ∃ b c, e = .returned (.slice (some ⟨b, 0, none⟩) (part4 s).length c) ∧ Below w.heap.size w w' ∧ w'.heap[w.heap.size]? = some (.cells #[.string ⟨#[]⟩, .string ⟨#[]⟩, .int .i64 0, .slice none 0 0, .slice none 0 0] 25)) := by
    refine (part4_any s _ hs (hM.below C0)).mono ?_
    rintro e w' ⟨b, c, he, B, hb, hc⟩
    exact ⟨b, c, he, C0.trans (B.mono C0.size), tblk_below hg0 B⟩
  have hn : ¬ (((part4 s).length : Nat) : Int) = 3 := by omega
  clear hp hs hM hg0 C0
  generalize (part4 s).length = n at *
  go_enter Tryz.func104, Tryz.ntmps104
  go_wp2_with fail
  refine H1.out.mono ?_
  rintro e w1 ⟨b, c, rfl, C1, hg1⟩
  clear H1
  go_wp2_with fail
  go_quiet (fail)
  have C2 := C1.trans (lbelow_drewN w.heap.size w1 nq)
  have hg2 : (w1.drewN nq).heap[w.heap.size]? = some (.cells #[.string ⟨#[]⟩, .string ⟨#[]⟩, .int .i64 0, .slice none 0 0, .slice none 0 0] 25) := hg1
  generalize w1.drewN nq = w2 at *
  have HW := five_cells hg2 (.string ⟨#[]⟩) (.string ⟨#[]⟩) (.int .i64 0) (.slice none 0 0) (.slice none 0 0)
  have HB := five_below (.string ⟨#[]⟩) (.string ⟨#[]⟩) (.int .i64 0) (.slice none 0 0) (.slice none 0 0) C2 (Nat.le_refl _)
  have a0 := tblk_cell (i := 0) hg2 rfl
  have z0 := lblk_z (i := 0) hg2
  have a1 := tblk_cell (i := 1) hg2 rfl
  have z1 := lblk_z (i := 1) hg2
  have a2 := tblk_cell (i := 2) hg2 rfl
  have z2 := lblk_z (i := 2) hg2
  have a3 := tblk_cell (i := 3) hg2 rfl
  have z3 := lblk_z (i := 3) hg2
  have a4 := tblk_cell (i := 4) hg2 rfl
  have z4 := lblk_z (i := 4) hg2
  have r0 := tblk_cell (i := 0) HW rfl
  have r1 := tblk_cell (i := 1) HW rfl
  have r2 := tblk_cell (i := 2) HW rfl
  have r3 := tblk_cell (i := 3) HW rfl
  have r4 := tblk_cell (i := 4) HW rfl
  unfold five at r0 r1 r2 r3 r4 HB
  have HB' : Hid _ := HB
  clear HB HW
  go_wp2
  refine bodyPost_ret (v := .tuple #[.agg #[.string ⟨#[]⟩, .string ⟨#[]⟩, .int .i64 0, .slice none 0 0, .slice none 0 0], .int .i64 400]) (by simp [results, Tryz.results104, go_sem, r0, r1, r2, r3, r4]) rfl ⟨rfl, HB'.out⟩

theorem lreq_any (s : ByteArray) (w : World) (hs : s.size < 4294967281) (hM : MaxL w) :
    Calls Tryz.prog 104 #[.string s] w fun e w' => e = .returned (.tuple #[rqV (rqP s), .int .i64 (rqP s).code]) ∧ Below w.heap.size w w' := by
  unfold rqP
  split
  · rename_i p0 p1 p2 h
    exact req_three p0 p1 p2 s w hs hM h
  · rename_i h
    refine req_other s w hs hM ?_
    intro h3
    match hl : part4 s, h3 with
    | [a, b, c], _ => exact h a b c hl
end Go.Proofs.YtajfjjmabncldaaGreatDoor

/- Texts that end with another. -/
namespace Go.Proofs.YtajfjjmabncldaaGreatDoor
open Go.RowKit
set_option linter.unusedVariables false

def hasS (s p : ByteArray) : Bool := decide (p.size ≤ s.size) && ((s.extract (s.size - p.size) s.size).toList == p.toList)
def cutX (s p : ByteArray) : ByteArray := if hasS s p = true then s.extract 0 (s.size - p.size) else s
theorem hassuffix_any (s p : ByteArray) (w : World) (hs : s.size ≤ maxLen) : Calls Tryz.prog 199 #[.string s, .string p] w fun e w' => e = .returned (.bool (hasS s p)) ∧ w' = w := by
  unfold hasS
  unfold maxLen at hs
  have hlo : p.size ≤ s.size → ((s.size : Int) - (p.size : Int) + 9223372036854775808) % 18446744073709551616 - 9223372036854775808 = ((s.size - p.size : Nat) : Int) := fun _ => by omega
  go_enter Tryz.func199, Tryz.ntmps199
  go_wp2
  · have h : p.size ≤ s.size := by assumption
    go_ret
    exact ⟨ret_b (by rw [decide_eq_true h, Bool.true_and]), rfl⟩
  · have h : ¬ p.size ≤ s.size := by assumption
    go_ret
    exact ⟨ret_b (by rw [decide_eq_false h, Bool.false_and]), rfl⟩
end Go.Proofs.YtajfjjmabncldaaGreatDoor

/- Host: what it answers of every text. -/
namespace Go.Proofs.YtajfjjmabncldaaGreatDoor
open Go.RowKit
set_option linter.unusedVariables false

theorem cutsuffix_sl (s p : ByteArray) (w : World) (hs : s.size ≤ maxLen) : Calls Tryz.prog 172 #[.string s, .string p] w fun e w' => e = .returned (.tuple #[.string (cutX s p), .bool (hasS s p)]) ∧ w' = w := by
  have H : Hid (∀ W, Calls Tryz.prog 199 #[.string s, .string p] W fun e w' => e = .returned (.bool (hasS s p)) ∧ w' = W) := fun W => hassuffix_any s p W hs
  unfold cutX
  unfold maxLen at hs
  cases h : hasS s p
  · rw [h] at H
    clear h
    go_enter Tryz.func172, Tryz.ntmps172
    go_wp2_with fail
    refine (H.out _).mono ?_
    rintro e w1 ⟨rfl, rfl⟩
    go_wp2
    go_ret2
    exact ⟨rfl, rfl⟩
  · rw [h] at H
    have hl : p.size ≤ s.size := by
      unfold hasS at h
      rw [Bool.and_eq_true] at h
      exact of_decide_eq_true h.1
    have hlo : ((s.size : Int) - (p.size : Int) + 9223372036854775808) % 18446744073709551616 - 9223372036854775808 = ((s.size - p.size : Nat) : Int) := by omega
    clear h
    go_enter Tryz.func172, Tryz.ntmps172
    go_wp2_with fail
    refine (H.out _).mono ?_
    rintro e w1 ⟨rfl, rfl⟩
    go_wp2
    go_ret2
    exact ⟨rfl, rfl⟩
theorem cutsuffix_any (s p : ByteArray) (w : World) (hs : s.size ≤ maxLen) : Calls Tryz.prog 145 #[.string s, .string p] w fun e w' => e = .returned (.tuple #[.string (cutX s p), .bool (hasS s p)]) ∧ w' = w := by
  go_enter Tryz.func145, Tryz.ntmps145
  go_wp2_with fail
  refine (cutsuffix_sl s p _ hs).mono ?_
  rintro e w1 ⟨rfl, rfl⟩
  go_wp2
  go_ret2
  exact ⟨rfl, rfl⟩

/-- A text without the digits at its end. -/
def noDig (s : ByteArray) : ByteArray := ⟨(Lib.trimRightS s.data.toList [48, 49, 50, 51, 52, 53, 54, 55, 56, 57]).toArray⟩
def portP (s : ByteArray) : ByteArray := if hasS (noDig s) ⟨#[58]⟩ = true then cutX (noDig s) ⟨#[58]⟩ else s
theorem drop_len (p : UInt8 → Bool) : ∀ l : List UInt8, (l.dropWhile p).length ≤ l.length
  | [] => Nat.le_refl _
  | a :: l => by
    rw [List.dropWhile_cons]
    split
    · exact Nat.le_succ_of_le (drop_len p l)
    · exact Nat.le_refl _
theorem noDig_size (s : ByteArray) : (noDig s).size ≤ s.size := by
  show (Lib.trimRightS s.data.toList _).length ≤ _
  unfold Lib.trimRightS
  rw [List.length_reverse]
  exact Nat.le_trans (drop_len _ _) (by rw [List.length_reverse]; exact Nat.le_refl _)
theorem digs_ascii : ∀ (j : Nat) (b : UInt8), ([48, 49, 50, 51, 52, 53, 54, 55, 56, 57] : List UInt8)[j]? = some b → b.toNat < 128 := by
  intro j b h
  have : b ∈ ([48, 49, 50, 51, 52, 53, 54, 55, 56, 57] : List UInt8) := List.mem_of_getElem? h
  simp at this
  rcases this with rfl | rfl | rfl | rfl | rfl | rfl | rfl | rfl | rfl | rfl <;> decide
theorem wport_any (s : ByteArray) (w : World) (hs : s.size ≤ maxLen) : Calls Tryz.prog 108 #[.string s] w fun e w' => e = .returned (.string (portP s)) ∧ Below w.heap.size w w' := by
  have hz := noDig_size s
  have H : Hid (∀ W, Calls Tryz.prog 146 #[.string s, .string ⟨#[48, 49, 50, 51, 52, 53, 54, 55, 56, 57]⟩] W fun e w' => e = .returned (.string (noDig s)) ∧ Below W.heap.size W w') := fun W => Tryz.strings_TrimRight_laid s ⟨#[48, 49, 50, 51, 52, 53, 54, 55, 56, 57]⟩ W (by unfold maxLen at hs; omega) (by decide) digs_ascii
  have HC : Hid (∀ W, Calls Tryz.prog 145 #[.string (noDig s), .string ⟨#[58]⟩] W fun e w' => e = .returned (.tuple #[.string (cutX (noDig s) ⟨#[58]⟩), .bool (hasS (noDig s) ⟨#[58]⟩)]) ∧ w' = W) := fun W => cutsuffix_any _ _ W (Nat.le_trans hz hs)
  unfold portP
  clear hz hs
  generalize cutX (noDig s) ⟨#[58]⟩ = x at *
  cases h : hasS (noDig s) ⟨#[58]⟩
  · rw [h] at HC
    clear h
    generalize noDig s = y at *
    go_enter Tryz.func108, Tryz.ntmps108
    go_wp2_with fail
    refine (H.out _).mono ?_
    rintro e w1 ⟨rfl, B1⟩
    go_wp2_with fail
    refine (HC.out _).mono ?_
    rintro e w2 ⟨rfl, rfl⟩
    go_wp2
    go_ret
    exact ⟨rfl, B1⟩
  · rw [h] at HC
    clear h
    generalize noDig s = y at *
    go_enter Tryz.func108, Tryz.ntmps108
    go_wp2_with fail
    refine (H.out _).mono ?_
    rintro e w1 ⟨rfl, B1⟩
    go_wp2_with fail
    refine (HC.out _).mono ?_
    rintro e w2 ⟨rfl, rfl⟩
    go_wp2
    go_ret
    exact ⟨rfl, B1⟩

/-- The signs of a host. -/
def hsP (r : Int) : Bool := (decide (97 ≤ r) && decide (r ≤ 122)) || ((decide (48 ≤ r) && decide (r ≤ 57)) || ((r == 45) || (r == 46)))
theorem hostsign_any (r : Int) (w : World) : Calls Tryz.prog 109 #[.int .i32 r] w fun e w' => e = .returned (.bool (hsP r)) ∧ w' = w := by
  go_enter Tryz.func109, Tryz.ntmps109
  go_wp2
  all_goals go_ret
  all_goals refine ⟨ret_b ?_, rfl⟩
  all_goals unfold hsP
  all_goals (rw [Bool.eq_iff_iff]; simp <;> omega)

/-- The host of a text. -/
def hostP (s : ByteArray) : ByteArray × Bool :=
  if (portP (foldS s)).size = 0 then (⟨#[]⟩, false) else if 64 < (portP (foldS s)).size then (⟨#[]⟩, false) else if allB hsP (portP (foldS s)).data.toList = false then (⟨#[]⟩, false) else (portP (foldS s), true)
theorem lfold_size (s : ByteArray) : (foldS s).size = s.size := by
  show (foldL s.data.toList).length = s.data.toList.length
  simp [foldL]
theorem ret2_sb {a c : ByteArray} {b d : Bool} (h : a = c) (k : b = d) : Ending.returned (.tuple #[.string a, .bool b]) = .returned (.tuple #[.string c, .bool d]) := by rw [h, k]
theorem hs_high {r : Nat} (h : 128 ≤ r) : hsP (r : Int) = false := by
  unfold hsP
  simp
  omega
theorem iter_below {B : Nat} {w : World} (h : B ≤ w.heap.size) (s : ByteArray) (pos : Nat) : Below B w (w.iter s pos) := (Below.refl _ _).alloc h _
set_option maxRecDepth 100000 in
set_option maxHeartbeats 4000000 in
theorem host_any (s : ByteArray) (w : World) (hs : s.size ≤ maxLen) :
    Calls Tryz.prog 68 #[.string s] w fun e w' => e = .returned (.tuple #[.string (hostP s).1, .bool (hostP s).2]) ∧ Below w.heap.size w w' := by
  have hfz : (foldS s).size ≤ maxLen := by rw [lfold_size]; exact hs
  have HF : Hid (∀ W, Calls Tryz.prog 61 #[.string s] W fun e w' => e = .returned (.string (foldS s)) ∧ Below W.heap.size W w') := fun W => fold_any s W hs
  have HP : Hid (∀ W, Calls Tryz.prog 108 #[.string (foldS s)] W fun e w' => e = .returned (.string (portP (foldS s))) ∧ Below W.heap.size W w') := fun W => wport_any _ W hfz
  have HS : Hid (∀ r W, Calls Tryz.prog 109 #[.int .i32 r] W fun e w' => e = .returned (.bool (hsP r)) ∧ w' = W) := fun r W => hostsign_any r W
  unfold hostP
  clear hfz hs
  generalize portP (foldS s) = h at *
  generalize foldS s = f at *
  by_cases h0 : h.size = 0
  · rw [if_pos h0]
    obtain rfl := empty_t h0
    clear h0 HS
    go_enter Tryz.func68, Tryz.ntmps68
    go_wp2_with fail
    refine (HF.out _).mono ?_
    rintro e w1 ⟨rfl, B1⟩
    go_wp2_with fail
    refine (HP.out _).mono ?_
    rintro e w2 ⟨rfl, B2⟩
    go_wp2
    go_ret2
    exact ⟨rfl, B1.trans (B2.mono B1.size)⟩
  · rw [if_neg h0]
    have he := isEmpty_t h0
    by_cases h6 : 64 < h.size
    · rw [if_pos h6]
      have h6' : (64 : Int) < (h.size : Int) := by omega
      clear h0 h6 HS
      go_enter Tryz.func68, Tryz.ntmps68
      go_wp2_with fail
      refine (HF.out _).mono ?_
      rintro e w1 ⟨rfl, B1⟩
      go_wp2_with fail
      refine (HP.out _).mono ?_
      rintro e w2 ⟨rfl, B2⟩
      go_wp2
      go_ret2
      exact ⟨rfl, B1.trans (B2.mono B1.size)⟩
    · rw [if_neg h6]
      generalize hE : (if allB hsP h.data.toList = false then ((⟨#[]⟩ : ByteArray), false) else (h, true)) = E
      have HE : Hid ((if allB hsP h.data.toList = false then ((⟨#[]⟩ : ByteArray), false) else (h, true)) = E) := hE
      clear hE
      obtain ⟨E1, E2⟩ := E
      have h6' : ¬ (64 : Int) < (h.size : Int) := by omega
      clear h0 h6
      go_enter Tryz.func68, Tryz.ntmps68
      go_wp2_with fail
      refine (HF.out _).mono ?_
      rintro e w1 ⟨rfl, B1⟩
      go_wp2_with fail
      refine (HP.out _).mono ?_
      rintro e w2 ⟨rfl, B2⟩
      have C2 : Hid (Below w.heap.size w w2 ∧ w.heap.size ≤ w2.heap.size) := ⟨B1.trans (B2.mono B1.size), (B1.trans (B2.mono B1.size)).size⟩
      clear B1 B2 HF HP
      go_wp2_with fail
      go_loopw [] (fun w' => ∃ pos : Nat, pos ≤ h.size ∧ w' = w2.iter h pos ∧ Hid (allB hsP (h.data.toList.take pos) = true)) (fun w' => h.size - w'.iterPos w2.heap.size)
      case atStart => exact ⟨0, Nat.zero_le _, rfl, rfl⟩
      case round =>
        obtain ⟨pos, hle, rfl, hA⟩ := hrel
        by_cases hp : pos < h.size
        · have hnx : ∀ ty, (Instr.next (.pointer (some ⟨w2.heap.size, 0, none⟩)) true ty).run Tryz.prog (w2.iter h pos) = _ := fun ty => run_next_any w2 h pos ty hp
          by_cases ha : (h[pos]'hp).toNat < 128
          · rw [decode_ascii h pos hp ha] at hnx
            simp only at hnx
            have HC := HS.out ((h[pos]'hp).toNat : Int)
            cases hc : hsP ((h[pos]'hp).toNat : Int)
            · have HX : Hid (allB hsP h.data.toList = false) := allB_false h pos hp hc
              rw [hc] at HC
              have HC' : Hid _ := HC
              clear HC hc ha
              go_wp2_with fail
              refine (HC'.out _).mono ?_
              rintro e w5 ⟨rfl, rfl⟩
              go_wp2
              go_ret2
              have k := HE.out
              rw [if_pos HX.out] at k
              exact ⟨ret2_sb (congrArg Prod.fst k) (congrArg Prod.snd k), C2.out.1.trans (iter_below C2.out.2 _ _)⟩
            · have HX : Hid (allB hsP (h.data.toList.take (pos + 1)) = true) := allB_snoc h pos hp hA.out hc
              rw [hc] at HC
              have HC' : Hid _ := HC
              clear HC hc ha
              go_wp2_with fail
              refine (HC'.out _).mono ?_
              rintro e w5 ⟨rfl, rfl⟩
              go_wp2
              go_roundw
              case rel => exact ⟨pos + 1, hp, rfl, HX⟩
              case measure => simp; omega
          · have hhi := (decode_high h pos hp (by omega)).1
            have HC := HS.out ((Utf8.decode h pos).1 : Int)
            rw [hs_high hhi] at HC
            have HX : Hid (allB hsP h.data.toList = false) := allB_false h pos hp (hs_high (by omega))
            have HC' : Hid _ := HC
            clear HC hhi ha
            go_wp2_with fail
            refine (HC'.out _).mono ?_
            rintro e w5 ⟨rfl, rfl⟩
            go_wp2
            go_ret2
            have k := HE.out
            rw [if_pos HX.out] at k
            exact ⟨ret2_sb (congrArg Prod.fst k) (congrArg Prod.snd k), C2.out.1.trans (iter_below C2.out.2 _ _)⟩
        · have hnx : ∀ ty, (Instr.next (.pointer (some ⟨w2.heap.size, 0, none⟩)) true ty).run Tryz.prog (w2.iter h pos) = _ := fun ty => run_next_end w2 h pos ty hp
          have HX : Hid (¬ allB hsP h.data.toList = false) := by
            have k := hA.out
            rw [List.take_of_length_le (show h.data.toList.length ≤ pos from Nat.le_of_not_lt hp)] at k
            rw [Hid, k]
            decide
          go_wp2
          go_ret2
          have k := HE.out
          rw [if_neg HX.out] at k
          exact ⟨ret2_sb (congrArg Prod.fst k) (congrArg Prod.snd k), C2.out.1.trans (iter_below C2.out.2 _ _)⟩
end Go.Proofs.YtajfjjmabncldaaGreatDoor
