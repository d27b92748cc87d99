/- Texts that the proof leans on, one behind the other: LinA LinB NumM Dig HexR TxtL TxtK SpnA AllB SgnA SgnB SgnT SgnV TxtT TrimA FldA ChkA ChkB ChkC ChkD ChkE TxtF TxtA TsA TxtB FsA CutA FsB -/
import Derived.Test.YtemmmdhmkegaaaaGreatDoorCb2
import Derived.WalkKit
import Derived.WalkSpells
import Derived.WalkLawsBesides
import Derived.Lib.Walk
import Derived.Lib.ItoaMem
import Derived.Laws.IdiomStrings
import Derived.Test.YtemmmdhmkegaaaaGreatDoorCb1
import Derived.Laws.Pointers
import Derived.Laws.EntriesVeiled
import Derived.Lib.Bytealg
import Derived.Lib.SmallJoins
import Derived.Test.YtemmmdhmkegaaaaGreatDoorRows
import Derived.Deep.SlicePairs
import Derived.Lib.SplitLaws
/- Lines, byte by byte: where the first of them ends. -/
namespace Go.Proofs.YtemmmdhmkegaaaaGreatDoor
open Go.RowKit
set_option linter.unusedVariables false

def cutAt (m : Nat) : Nat → List UInt8 → Option Nat × Int
  | _, [] => (none, 0)
  | i, c :: l =>
    if c = 10 then (none, 20)
    else if c = 13 then
      (if l.head? = none then (none, 0) else if l.head? = some 10 then (some i, 0) else (none, 20))
    else if m ≤ i then (none, 2) else cutAt m (i + 1) l
def cutS (m : Nat) (b : List UInt8) : List UInt8 := match (cutAt m 0 b).1 with | some i => b.take i | none => []
def cutN (m : Nat) (b : List UInt8) : Nat := match (cutAt m 0 b).1 with | some i => i + 2 | none => 0
def cutE (m : Nat) (b : List UInt8) : Int := (cutAt m 0 b).2
theorem cut_hit {m k : Nat} {b : List UInt8} (h : cutAt m 0 b = (some k, 0)) : cutS m b = b.take k ∧ cutN m b = k + 2 ∧ cutE m b = 0 := by
  unfold cutS cutN cutE; rw [h]; exact ⟨rfl, rfl, rfl⟩
theorem cut_miss {m : Nat} {e : Int} {b : List UInt8} (h : cutAt m 0 b = (none, e)) : cutS m b = [] ∧ cutN m b = 0 ∧ cutE m b = e := by
  unfold cutS cutN cutE; rw [h]; exact ⟨rfl, rfl, rfl⟩
theorem drop_head (b : List UInt8) (k : Nat) (h : k < b.length) : b.drop k = b[k] :: b.drop (k + 1) := List.drop_eq_getElem_cons h
theorem cutAt_ten {m k : Nat} {b : List UInt8} (h : k < b.length) (hc : b[k] = 10) : cutAt m k (b.drop k) = (none, 20) := by
  rw [drop_head b k h, cutAt, if_pos hc]
theorem cutAt_bad {m k : Nat} {b : List UInt8} (h : k + 1 < b.length) (hc : b[k] = 13) (hd : b[k + 1] ≠ 10) : cutAt m k (b.drop k) = (none, 20) := by
  rw [drop_head b k (by omega), cutAt, hc, if_neg (by decide), if_pos rfl, drop_head b (k + 1) h, List.head?_cons, if_neg (by simp), if_neg (by simpa using hd)]
theorem cutAt_last {m k : Nat} {b : List UInt8} (h : k + 1 = b.length) (hc : b[k] = 13) : cutAt m k (b.drop k) = (none, 0) := by
  rw [drop_head b k (by omega), cutAt, hc, if_neg (by decide), if_pos rfl, List.drop_eq_nil_of_le (by omega), List.head?_nil, if_pos rfl]
theorem cutAt_end {m k : Nat} {b : List UInt8} (h : k + 1 < b.length) (hc : b[k] = 13) (hd : b[k + 1] = 10) : cutAt m k (b.drop k) = (some k, 0) := by
  rw [drop_head b k (by omega), cutAt, hc, if_neg (by decide), if_pos rfl, drop_head b (k + 1) h, List.head?_cons, if_neg (by simp), if_pos (by rw [hd])]
theorem cutAt_long {m k : Nat} {b : List UInt8} (h : k < b.length) (h1 : b[k] ≠ 10) (h2 : b[k] ≠ 13) (hm : m ≤ k) : cutAt m k (b.drop k) = (none, 2) := by
  rw [drop_head b k h, cutAt, if_neg h1, if_neg h2, if_pos hm]
theorem cutAt_next {m k : Nat} {b : List UInt8} (h : k < b.length) (h1 : b[k] ≠ 10) (h2 : b[k] ≠ 13) (hm : ¬ m ≤ k) : cutAt m k (b.drop k) = cutAt m (k + 1) (b.drop (k + 1)) := by
  rw [drop_head b k h, cutAt, if_neg h1, if_neg h2, if_neg hm]
theorem cutAt_fin {m k : Nat} {b : List UInt8} (h : b.length ≤ k) : cutAt m k (b.drop k) = (none, 0) := by
  rw [List.drop_eq_nil_of_le h, cutAt]
theorem head_app (l more : List UInt8) (h : l.head? ≠ none) : (l ++ more).head? = l.head? := by cases l with | nil => exact absurd rfl h | cons a l => rfl
theorem cutAt_app (m : Nat) (more : List UInt8) : ∀ (l : List UInt8) (i : Nat), cutAt m i l ≠ (none, 0) → cutAt m i (l ++ more) = cutAt m i l
  | [], i, h => absurd rfl h
  | c :: l, i, h => by
    rw [List.cons_append, cutAt, cutAt]
    rw [cutAt] at h
    by_cases h1 : c = 10
    · rw [if_pos h1, if_pos h1]
    · rw [if_neg h1] at h; rw [if_neg h1, if_neg h1]
      by_cases h2 : c = 13
      · rw [if_pos h2] at h; rw [if_pos h2, if_pos h2]
        by_cases h3 : l.head? = none
        · rw [if_pos h3] at h; exact absurd rfl h
        · rw [head_app l more h3]
      · rw [if_neg h2] at h; rw [if_neg h2, if_neg h2]
        by_cases h3 : m ≤ i
        · rw [if_pos h3, if_pos h3]
        · rw [if_neg h3] at h; rw [if_neg h3, if_neg h3]; exact cutAt_app m more l (i + 1) h
theorem cutAt_some (m : Nat) : ∀ (l : List UInt8) (i k : Nat) (e : Int), cutAt m i l = (some k, e) → e = 0 ∧ ∃ j, k = i + j ∧ j + 2 ≤ l.length ∧ l.take (j + 2) = l.take j ++ [13, 10]
  | [], i, k, e, h => by simp [cutAt] at h
  | c :: l, i, k, e, h => by
    rw [cutAt] at h
    by_cases h1 : c = 10
    · rw [if_pos h1] at h; simp at h
    · rw [if_neg h1] at h
      by_cases h2 : c = 13
      · rw [if_pos h2] at h
        by_cases h3 : l.head? = none
        · rw [if_pos h3] at h; simp at h
        · rw [if_neg h3] at h
          by_cases h4 : l.head? = some 10
          · rw [if_pos h4] at h
            cases l with
            | nil => simp at h4
            | cons d l =>
              have : d = 10 := by simpa using h4
              subst this
              subst h2
              have h5 : i = k ∧ 0 = e := by simpa using h
              refine ⟨h5.2.symm, 0, by omega, by simp, by simp⟩
          · rw [if_neg h4] at h; simp at h
      · rw [if_neg h2] at h
        by_cases h3 : m ≤ i
        · rw [if_pos h3] at h; simp at h
        · rw [if_neg h3] at h
          obtain ⟨e0, j, hj, hl, ht⟩ := cutAt_some m l (i + 1) k e h
          refine ⟨e0, j + 1, by omega, by simp; omega, ?_⟩
          rw [show j + 1 + 2 = (j + 2) + 1 by omega, List.take_succ_cons, List.take_succ_cons, ht]; rfl
theorem cut_cases (m : Nat) (b : List UInt8) : (∃ k, cutAt m 0 b = (some k, 0) ∧ k + 2 ≤ b.length ∧ b.take (k + 2) = b.take k ++ [13, 10]) ∨ ∃ e, cutAt m 0 b = (none, e) := by
  rcases h : cutAt m 0 b with ⟨_ | k, e⟩
  · exact .inr ⟨e, rfl⟩
  · obtain ⟨rfl, j, hj, hl, ht⟩ := cutAt_some m b 0 k e h
    have : k = j := by omega
    subst this
    exact .inl ⟨k, rfl, hl, ht⟩
def plain (s : List UInt8) : Bool := s.all fun c => c != 13 && c != 10
theorem conv_take {w : World} {k off c : Nat} {b : List UInt8} (h : ∀ (j : Nat) (hj : j < b.length), w.cell? ⟨k, off + j, none⟩ = some (bv b[j])) (i : Nat) (hi : i ≤ b.length) : (convert 31 9 (.slice (some ⟨k, off, none⟩) i c)).run Tryz.prog w = .ok (.string ⟨(b.take i).toArray⟩) w := by
  have hl : (b.take i).length = i := by rw [List.length_take]; omega
  have r := run_convert_bytes_back (P := Tryz.prog) w 31 9 5 ⟨k, off, none⟩ c (b.take i) Tryz.underlying31 Tryz.underlying5 Tryz.underlying9 (fun j hj => by rw [addr_add, List.getElem_take]; exact h j (by omega))
  rw [hl] at r
  exact r
end Go.Proofs.YtemmmdhmkegaaaaGreatDoor

/- Cut, of the program and of the reference. -/
namespace Go.Proofs.YtemmmdhmkegaaaaGreatDoor
open Go.RowKit
set_option linter.unusedVariables false

def cutV (m : Nat) (b : List UInt8) : Value := .tuple #[.string ⟨(cutS m b).toArray⟩, .int .i64 (cutN m b : Nat), .int .i64 (cutE m b)]
theorem cutV_hit {m k : Nat} {b : List UInt8} (h : cutAt m 0 b = (some k, 0)) : cutV m b = .tuple #[.string ⟨(b.take k).toArray⟩, .int .i64 ((k : Int) + 2), .int .i64 0] := by
  obtain ⟨h1, h2, h3⟩ := cut_hit h
  unfold cutV; rw [h1, h2, h3]; rfl
theorem cutV_miss {m : Nat} {e : Int} {b : List UInt8} (h : cutAt m 0 b = (none, e)) : cutV m b = .tuple #[.string ⟨#[]⟩, .int .i64 0, .int .i64 e] := by
  obtain ⟨h1, h2, h3⟩ := cut_miss h
  unfold cutV; rw [h1, h2, h3]; rfl
theorem toNat_ne {c : UInt8} (n : Nat) (d : UInt8) (hd : d.toNat = n) (h : ¬ c = d) : ¬ (c.toNat : Int) = (n : Int) := by
  intro e
  apply h
  apply UInt8.toNat_inj.1
  omega

set_option maxHeartbeats 4000000 in
theorem cut_any (b : List UInt8) (kb : Nat) (v : Value) (most : Int) (w : World) (hs : Src w kb v b) :
    Calls Tryz.prog 138 #[v, .int .i64 most] w fun e w' => e = .returned (cutV most.toNat b) ∧ w' = w := by
  obtain ⟨a, c, rfl, h1, h2, h3⟩ := hs
  obtain ⟨n, hn⟩ : ∃ n, n = b.length := ⟨_, rfl⟩
  obtain ⟨m, hm⟩ : ∃ m, m = most.toNat := ⟨_, rfl⟩
  rw [← hm, ← hn]
  rw [← hn] at h1
  unfold maxLen at h2
  have HN : Hid (n = b.length) := hn
  have HM : Hid (m = most.toNat) := hm
  have H3 : Hid (0 < b.length → ∃ off, a = some ⟨kb, off, none⟩ ∧ ∀ (j : Nat) (hj : j < b.length), w.cell? ⟨kb, off + j, none⟩ = some (bv b[j])) := h3
  clear hn hm h3
  go_enter Tryz.func138, Tryz.ntmps138
  go_wp2
  go_loop [12] (fun vi => ∃ k : Nat, k ≤ n ∧ vi = .int .i64 k ∧ Hid (cutAt m 0 b = cutAt m k (b.drop k))) (fun vi => n - (intOf vi).toNat)
  case atStart => exact ⟨0, Nat.zero_le _, rfl, rfl⟩
  case round =>
    obtain ⟨k, hk, rfl, hA⟩ := hrel
    by_cases hlt : k < n
    · have hlb : k < b.length := by have := HN.out; omega
      obtain ⟨off, rfl, hc⟩ := H3.out (by omega)
      have q1 : w.cell? ⟨kb, off + k, none⟩ = some (.int .u8 (b[k].toNat : Int)) := hc k hlb
      by_cases t1 : b[k] = 10
      · have HR : Hid (cutV m b = .tuple #[.string ⟨#[]⟩, .int .i64 0, .int .i64 20]) := cutV_miss (hA.out.trans (cutAt_ten hlb t1))
        rw [t1] at q1
        have q2 : w.cell? ⟨kb, off + k, none⟩ = some (.int .u8 10) := q1
        clear q1 hc t1 hlb H3 hA
        go_wp2
        refine bodyPost_ret (v := .tuple #[.string ⟨#[]⟩, .int .i64 0, .int .i64 20]) (by simp [results, Tryz.results138, go_sem]) rfl ⟨?_, rfl⟩
        rw [HR.out]
      · by_cases t2 : b[k] = 13
        · rw [t2] at q1
          have q2 : w.cell? ⟨kb, off + k, none⟩ = some (.int .u8 13) := q1
          clear q1
          by_cases t3 : k + 1 < n
          · have hlb1 : k + 1 < b.length := by have := HN.out; omega
            have q3 : w.cell? ⟨kb, off + (k + 1), none⟩ = some (.int .u8 (b[k + 1].toNat : Int)) := hc (k + 1) hlb1
            have hl : ((k : Int) + 1 == (n : Int)) = false := by simp; omega
            have hl' : ((k : Int) == (n : Int) - 1) = false := by simp; omega
            by_cases t4 : b[k + 1] = 10
            · have HR : Hid (cutV m b = .tuple #[.string ⟨(b.take k).toArray⟩, .int .i64 ((k : Int) + 2), .int .i64 0]) := cutV_hit (hA.out.trans (cutAt_end hlb1 t2 t4))
              rw [t4] at q3
              have q4 : w.cell? ⟨kb, off + (k + 1), none⟩ = some (.int .u8 10) := q3
              have hcv := conv_take (c := c) hc k (by omega)
              clear q3 hc t1 t2 t4 hlb hlb1 H3 hA
              go_wp2
              refine bodyPost_ret (v := .tuple #[.string ⟨(b.take k).toArray⟩, .int .i64 ((k : Int) + 2), .int .i64 0]) (by simp [results, Tryz.results138, go_sem]) rfl ⟨?_, rfl⟩
              rw [HR.out]
            · have HR : Hid (cutV m b = .tuple #[.string ⟨#[]⟩, .int .i64 0, .int .i64 20]) := cutV_miss (hA.out.trans (cutAt_bad hlb1 t2 t4))
              have t5 := toNat_ne 10 10 rfl t4
              have t6 : ¬ ((b[k + 1].toNat : Int) = 10) := t5
              clear t5 hc t1 t2 t4 hlb H3 hA
              generalize (b[k + 1].toNat : Int) = y at *
              have t9 : (y != 10) = true := by simpa using t6
              clear hlb1
              go_wp2
              refine bodyPost_ret (v := .tuple #[.string ⟨#[]⟩, .int .i64 0, .int .i64 20]) (by simp [results, Tryz.results138, go_sem]) rfl ⟨?_, rfl⟩
              rw [HR.out]
          · have HR : Hid (cutV m b = .tuple #[.string ⟨#[]⟩, .int .i64 0, .int .i64 0]) := cutV_miss (hA.out.trans (cutAt_last (by have := HN.out; omega) t2))
            obtain rfl : n = k + 1 := by omega
            clear hc t1 t2 hlb H3 hA
            go_wp2
            refine bodyPost_ret (v := .tuple #[.string ⟨#[]⟩, .int .i64 0, .int .i64 0]) (by simp [results, Tryz.results138, go_sem]) rfl ⟨?_, rfl⟩
            rw [HR.out]
        · have t5 : ¬ ((b[k].toNat : Int) = 10) := toNat_ne 10 10 rfl t1
          have t6 : ¬ ((b[k].toNat : Int) = 13) := toNat_ne 13 13 rfl t2
          by_cases t7 : m ≤ k
          · have HR : Hid (cutV m b = .tuple #[.string ⟨#[]⟩, .int .i64 0, .int .i64 2]) := cutV_miss (hA.out.trans (cutAt_long hlb t1 t2 t7))
            have t8 : max most 0 ≤ (k : Int) := by have := HM.out; omega
            clear hc t1 t2 H3 hA
            generalize (b[k].toNat : Int) = y at *
            clear hlb
            go_wp2
            refine bodyPost_ret (v := .tuple #[.string ⟨#[]⟩, .int .i64 0, .int .i64 2]) (by simp [results, Tryz.results138, go_sem]) rfl ⟨?_, rfl⟩
            rw [HR.out]
          · have HX : Hid (cutAt m 0 b = cutAt m (k + 1) (b.drop (k + 1))) := hA.out.trans (cutAt_next hlb t1 t2 t7)
            have t8 : ¬ max most 0 ≤ (k : Int) := by have := HM.out; omega
            clear hc t1 t2 H3 hA
            generalize (b[k].toNat : Int) = y at *
            clear hlb
            go_wp2
            go_round
            case rel => exact ⟨k + 1, by omega, by go_num, HX⟩
            case measure => simp [intOf]; omega
    · have HR : Hid (cutV m b = .tuple #[.string ⟨#[]⟩, .int .i64 0, .int .i64 0]) := cutV_miss (hA.out.trans (cutAt_fin (by have := HN.out; omega)))
      go_wp2
      refine bodyPost_ret (v := .tuple #[.string ⟨#[]⟩, .int .i64 0, .int .i64 0]) (by simp [results, Tryz.results138, go_sem]) rfl ⟨?_, rfl⟩
      rw [HR.out]
end Go.Proofs.YtemmmdhmkegaaaaGreatDoor

/- Plain lemmas on the numbers that texts of digits are. -/
namespace Go.Proofs.YtemmmdhmkegaaaaGreatDoor
open Go.RowKit
set_option linter.unusedVariables false

def dgI (c : Int) : Int := if 48 ≤ c ∧ c ≤ 57 then c - 48 else if 97 ≤ c ∧ c ≤ 102 then c - 87 else if 65 ≤ c ∧ c ≤ 70 then c - 55 else 16
def dgN (b : UInt8) : Nat := (dgI (b.toNat : Int)).toNat
theorem dgI_bd (c : Int) : 0 ≤ dgI c ∧ dgI c ≤ 16 := by unfold dgI; split <;> (try split) <;> (try split) <;> omega
theorem dgN_cast (b : UInt8) : ((dgN b : Nat) : Int) = dgI (b.toNat : Int) := by unfold dgN; have := dgI_bd (b.toNat : Int); omega
def stepV (base : Nat) (o : Option Nat) (b : UInt8) : Option Nat := o.bind fun n => if dgN b < base then some (n * base + dgN b) else none
def vN (base : Nat) (l : List UInt8) : Option Nat := l.foldl (stepV base) (some 0)
theorem vN_snoc (base : Nat) (l : List UInt8) (b : UInt8) : vN base (l ++ [b]) = stepV base (vN base l) b := by
  unfold vN; rw [List.foldl_append]; rfl
theorem fold_none (base : Nat) : ∀ l : List UInt8, l.foldl (stepV base) none = none
  | [] => rfl
  | b :: l => by rw [List.foldl_cons]; exact fold_none base l
theorem vN_bad (base : Nat) (l l' : List UInt8) (b : UInt8) (h : ¬ dgN b < base) : vN base (l ++ b :: l') = none := by
  unfold vN
  rw [List.foldl_append, List.foldl_cons]
  have e : stepV base (l.foldl (stepV base) (some 0)) b = none := by
    cases l.foldl (stepV base) (some 0) with
    | none => rfl
    | some n => simp [stepV, h]
  rw [e, fold_none]
theorem drop_at (s : ByteArray) (k : Nat) (h : k < s.size) : s.data.toList = s.data.toList.take k ++ s[k] :: s.data.toList.drop (k + 1) := by
  have e : s[k] :: s.data.toList.drop (k + 1) = s.data.toList.drop k := (List.drop_eq_getElem_cons (by simpa using h)).symm
  rw [e, List.take_append_drop]
theorem vN_bad_at (base : Nat) (s : ByteArray) (k : Nat) (h : k < s.size) (hb : ¬ dgN s[k] < base) : vN base s.data.toList = none := by
  rw [drop_at s k h]; exact vN_bad base _ _ _ hb
theorem vN_next (base : Nat) (s : ByteArray) (k : Nat) (h : k < s.size) (n : Nat) (hv : vN base (s.data.toList.take k) = some n) (hb : dgN s[k] < base) : vN base (s.data.toList.take (k + 1)) = some (n * base + dgN s[k]) := by
  rw [take_snoc s k h, vN_snoc, hv]; simp [stepV, hb]
theorem fold_lt (base : Nat) : ∀ (l : List UInt8) (a n : Nat), l.foldl (stepV base) (some a) = some n → n < (a + 1) * base ^ l.length
  | [], a, n, h => by simp at h; simp; omega
  | b :: l, a, n, h => by
    rw [List.foldl_cons] at h
    by_cases hd : dgN b < base
    · have e : stepV base (some a) b = some (a * base + dgN b) := by simp [stepV, hd]
      rw [e] at h
      have k := fold_lt base l _ n h
      rw [List.length_cons, Nat.pow_succ]
      refine Nat.lt_of_lt_of_le k ?_
      have e2 : (a + 1) * (base ^ l.length * base) = ((a + 1) * base) * base ^ l.length := by rw [Nat.mul_comm (base ^ l.length) base, Nat.mul_assoc]
      rw [e2]
      refine Nat.mul_le_mul_right _ ?_
      rw [Nat.add_mul, Nat.one_mul]
      omega
    · have e : stepV base (some a) b = none := by simp [stepV, hd]
      rw [e, fold_none] at h
      cases h
theorem vN_lt (base : Nat) (l : List UInt8) (n : Nat) (h : vN base l = some n) : n < base ^ l.length := by
  have k := fold_lt base l 0 n h
  simpa using k
theorem vN_take_lt (base most : Nat) (hb : 1 ≤ base) (s : ByteArray) (k : Nat) (hk : k ≤ most) (n : Nat) (hv : vN base (s.data.toList.take k) = some n) : n < base ^ most := by
  refine Nat.lt_of_lt_of_le (vN_lt base _ n hv) (Nat.pow_le_pow_right hb ?_)
  exact Nat.le_trans (List.length_take_le _ _) hk

def numV (base most : Nat) (s : ByteArray) : Option Nat := if s.size = 0 ∨ most < s.size then none else vN base s.data.toList
def numI (base most : Nat) (s : ByteArray) : Int := ((numV base most s).getD 0 : Nat)
def numB (base most : Nat) (s : ByteArray) : Bool := (numV base most s).isSome
theorem num_out {base most : Nat} {s : ByteArray} (h : s.size = 0 ∨ most < s.size) : numI base most s = 0 ∧ numB base most s = false := by
  unfold numI numB numV; rw [if_pos h]; exact ⟨rfl, rfl⟩
theorem num_bad {base most : Nat} {s : ByteArray} (h : vN base s.data.toList = none) : numI base most s = 0 ∧ numB base most s = false := by
  unfold numI numB numV; rw [h]; split <;> exact ⟨rfl, rfl⟩
theorem num_ok {base most : Nat} {s : ByteArray} {n : Nat} (h : ¬ (s.size = 0 ∨ most < s.size)) (hv : vN base s.data.toList = some n) : numI base most s = n ∧ numB base most s = true := by
  unfold numI numB numV; rw [if_neg h, hv]; exact ⟨rfl, rfl⟩
theorem ret2_ib {x y : Int} {a b : Bool} (h : x = y) (k : a = b) : Ending.returned (.tuple #[.int .i64 x, .bool a]) = .returned (.tuple #[.int .i64 y, .bool b]) := by rw [h, k]
end Go.Proofs.YtemmmdhmkegaaaaGreatDoor

/- What a digit counts. -/
namespace Go.Proofs.YtemmmdhmkegaaaaGreatDoor
open Go.RowKit
set_option linter.unusedVariables false

theorem ret_i {k : IntKind} {a b : Int} (h : a = b) : Ending.returned (.int k a) = .returned (.int k b) := by rw [h]

set_option maxHeartbeats 1000000 in
theorem digit_any (c : Int) (w : World) (h0 : 0 ≤ c) (h1 : c < 256) : Calls Tryz.prog 202 #[.int .u8 c] w fun e w' => e = .returned (.int .i64 (dgI c)) ∧ w' = w := by
  by_cases a : 48 ≤ c
  · by_cases b : c ≤ 57
    · have E : Hid (c - 48 = dgI c) := by rw [Hid, dgI, if_pos ⟨a, b⟩]
      go_enter Tryz.func202, Tryz.ntmps202
      go_wp2
      go_ret
      exact ⟨ret_i (by rw [← E.out]), rfl⟩
    · by_cases d : 97 ≤ c
      · by_cases f : c ≤ 102
        · have E : Hid (c - 97 + 10 = dgI c) := by rw [Hid, dgI, if_neg (by omega), if_pos ⟨d, f⟩]; omega
          go_enter Tryz.func202, Tryz.ntmps202
          go_wp2
          go_ret
          exact ⟨ret_i (by rw [← E.out]), rfl⟩
        · have E : Hid (16 = dgI c) := by rw [Hid, dgI, if_neg (by omega), if_neg (by omega), if_neg (by omega)]
          have g : 65 ≤ c := by omega
          have g' : ¬ c ≤ 70 := by omega
          go_enter Tryz.func202, Tryz.ntmps202
          go_wp2
          go_ret
          exact ⟨ret_i E.out, rfl⟩
      · by_cases g : 65 ≤ c
        · by_cases g' : c ≤ 70
          · have E : Hid (c - 65 + 10 = dgI c) := by rw [Hid, dgI, if_neg (by omega), if_neg (by omega), if_pos ⟨g, g'⟩]; omega
            go_enter Tryz.func202, Tryz.ntmps202
            go_wp2
            go_ret
            exact ⟨ret_i (by rw [← E.out]), rfl⟩
          · have E : Hid (16 = dgI c) := by rw [Hid, dgI, if_neg (by omega), if_neg (by omega), if_neg (by omega)]
            go_enter Tryz.func202, Tryz.ntmps202
            go_wp2
            go_ret
            exact ⟨ret_i E.out, rfl⟩
        · have E : Hid (16 = dgI c) := by rw [Hid, dgI, if_neg (by omega), if_neg (by omega), if_neg (by omega)]
          go_enter Tryz.func202, Tryz.ntmps202
          go_wp2
          go_ret
          exact ⟨ret_i E.out, rfl⟩
  · have E : Hid (16 = dgI c) := by rw [Hid, dgI, if_neg (by omega), if_neg (by omega), if_neg (by omega)]
    have d : ¬ 97 ≤ c := by omega
    have g : ¬ 65 ≤ c := by omega
    go_enter Tryz.func202, Tryz.ntmps202
    go_wp2
    go_ret
    exact ⟨ret_i E.out, rfl⟩

end Go.Proofs.YtemmmdhmkegaaaaGreatDoor

/- What the reading of numbers answers of every text: sign's and the reference's. -/
namespace Go.Proofs.YtemmmdhmkegaaaaGreatDoor
open Go.RowKit
set_option linter.unusedVariables false

set_option maxHeartbeats 1000000 in
theorem number16 (s : ByteArray) (w : World) (hs : s.size ≤ maxLen) :
    Calls Tryz.prog 177 #[.string s, .int .i64 16, .int .i64 15] w fun e w' => e = .returned (.tuple #[.int .i64 (numI 16 15 s), .bool (numB 16 15 s)]) ∧ w' = w := by
  unfold maxLen at hs
  by_cases hz : s.size = 0
  · have he := empty_of hz
    subst he
    go_enter Tryz.func177, Tryz.ntmps177
    go_wp2
    go_ret2
    exact ⟨ret2_ib (num_out (.inl rfl)).1.symm (num_out (.inl rfl)).2.symm, rfl⟩
  · have hne := isEmpty_of hz
    by_cases hm : (15 : Int) < (s.size : Int)
    · have E : Hid (numI 16 15 s = 0 ∧ numB 16 15 s = false) := num_out (.inr (by omega))
      go_enter Tryz.func177, Tryz.ntmps177
      go_wp2
      go_ret2
      exact ⟨ret2_ib E.out.1.symm E.out.2.symm, rfl⟩
    · have hout : Hid (¬ (s.size = 0 ∨ 15 < s.size)) := by rw [Hid]; omega
      clear hz
      go_enter Tryz.func177, Tryz.ntmps177
      go_wp2
      go_loop [8, 21] (fun vn vi => ∃ k n : Nat, k ≤ s.size ∧ vi = .int .i64 k ∧ vn = .int .i64 n ∧ Hid (vN 16 (s.data.toList.take k) = some n)) (fun _ vi => s.size - (intOf vi).toNat)
      case atStart => exact ⟨0, 0, Nat.zero_le _, rfl, rfl, rfl⟩
      case round =>
        obtain ⟨k, n, hk, rfl, rfl, hv⟩ := hrel
        by_cases hlt : k < s.size
        · have bd := byte_bd s[k]
          have hn : n < 72057594037927936 := vN_take_lt 16 14 (by decide) s k (by omega) n hv.out
          have hd := dgI_bd (s[k].toNat : Int)
          have HD : Hid (((dgN s[k] : Nat) : Int) = dgI (s[k].toNat : Int)) := dgN_cast s[k]
          go_wp2_with fail
          refine (digit_any _ _ bd.1 bd.2).mono ?_
          rintro e w' ⟨rfl, rfl⟩
          by_cases hb : 16 ≤ dgI (s[k].toNat : Int)
          · have E : Hid (numI 16 15 s = 0 ∧ numB 16 15 s = false) := num_bad (vN_bad_at 16 s k hlt (by have := HD.out; omega))
            go_wp2
            go_ret2
            exact ⟨ret2_ib E.out.1.symm E.out.2.symm, rfl⟩
          · have E : Hid (vN 16 (s.data.toList.take (k + 1)) = some (n * 16 + dgN s[k])) := vN_next 16 s k hlt n hv.out (by have := HD.out; omega)
            go_wp2
            go_round
            case rel => exact ⟨k + 1, n * 16 + dgN s[k], by omega, by go_num, by have := HD.out; rw [Int.natCast_add, Int.natCast_mul, this]; rfl, E⟩
            case measure => simp [intOf]; omega
        · go_wp2
          go_ret2
          have hk' : k = s.size := by omega
          subst hk'
          have h := hv.out
          rw [List.take_of_length_le (by simp)] at h
          exact ⟨ret2_ib (num_ok hout.out h).1.symm (num_ok hout.out h).2.symm, rfl⟩

theorem hex_any (s : ByteArray) (w : World) (hs : s.size ≤ maxLen) :
    Calls Tryz.prog 179 #[.string s] w fun e w' => e = .returned (.tuple #[.int .i64 (numI 16 15 s), .bool (numB 16 15 s)]) ∧ w' = w := by
  go_enter Tryz.func179, Tryz.ntmps179
  go_wp2_with fail
  refine (number16 s _ hs).mono ?_
  rintro e w' ⟨rfl, rfl⟩
  go_wp2
  go_ret2
  exact ⟨rfl, rfl⟩

end Go.Proofs.YtemmmdhmkegaaaaGreatDoor

/- Small lemmas on blocks; the library's variable that a search may look at. -/
namespace Go.Proofs.YtemmmdhmkegaaaaGreatDoor
open Go.RowKit
set_option linter.unusedVariables false

theorem owns_below {w w' : World} {base : Nat} {e : TypeId} {size : Nat} {v : Value} {n : Nat} {xs : List Value} (h : w.ownsRow base e size v n xs) (b : Below w.heap.size w w') : w'.ownsRow base e size v n xs := by
  obtain ⟨h1, h2⟩ := h
  refine ⟨h1, ?_⟩
  rcases h2 with h2 | ⟨g, cap, cur, hv, hg, hh, r⟩
  · exact .inl h2
  · exact .inr ⟨g, cap, cur, hv, hg, (b.block g (Array.getElem?_eq_some_iff.1 hh).1).trans hh, r⟩
theorem tblk_cell {w : World} {b i : Nat} {c : Array Value} {t : TypeId} {v : Value} (h : w.heap[b]? = some (.cells c t)) (hv : c[i]? = some v) : w.cell? ⟨b, i, none⟩ = some v := by
  simp [World.cell?, h, hv]
theorem tblk_new (w : World) (o : Obj) : (w.alloc o).heap[w.heap.size]? = some o := by
  show (w.heap.push o)[w.heap.size]? = _; simp
theorem tblk_below {w w' : World} {b : Nat} {o : Obj} (h : w.heap[b]? = some o) (k : Below w.heap.size w w') : w'.heap[b]? = some o := (k.block b (Array.getElem?_eq_some_iff.1 h).1).trans h
theorem isEmpty_t {s : ByteArray} (h : ¬ s.size = 0) : s.toList.isEmpty = false := by
  rw [ByteArray.toList_eq, List.isEmpty_eq_false_iff]
  intro e
  exact h (congrArg List.length e)
theorem empty_t {s : ByteArray} (h : s.size = 0) : s = ⟨#[]⟩ := by
  obtain ⟨⟨l⟩⟩ := s
  cases l with
  | nil => rfl
  | cons a l => exact absurd (show (a :: l).length = 0 from h) (by simp)

def MaxL (w : World) : Prop := ∃ m, w.cell? ⟨0, 0, none⟩ = some (.int .i64 m)
theorem MaxL.lt {w : World} (h : MaxL w) : 0 < w.heap.size := by
  obtain ⟨m, h⟩ := h
  unfold World.cell? at h
  rcases Nat.lt_or_ge 0 w.heap.size with c | c
  · exact c
  · simp [Array.getElem?_eq_none c] at h
theorem MaxL.below {w w' : World} (h : MaxL w) (b : Below w.heap.size w w') : MaxL w' := by
  have k := h.lt
  obtain ⟨m, h⟩ := h
  exact ⟨m, (b.cell (p := ⟨0, 0, none⟩) k).trans h⟩
end Go.Proofs.YtemmmdhmkegaaaaGreatDoor

/- Clone. -/
namespace Go.Proofs.YtemmmdhmkegaaaaGreatDoor
open Go.RowKit
set_option linter.unusedVariables false

theorem clone_any (s : ByteArray) (w : World) (hs : s.size ≤ 281474976710656) : Calls Tryz.prog 109 #[.string s] w fun e w' => e = .returned (.string s) ∧ Below w.heap.size w w' := by
  go_enter Tryz.func109, Tryz.ntmps109
  go_wp2_with fail
  refine (Tryz.stringslite_Clone s _ hs).mono ?_
  rintro e w1 ⟨rfl, B1⟩
  go_wp2
  go_ret
  exact ⟨rfl, B1⟩
end Go.Proofs.YtemmmdhmkegaaaaGreatDoor

/- A span of bytes. -/
namespace Go.Proofs.YtemmmdhmkegaaaaGreatDoor
open Go.RowKit
set_option linter.unusedVariables false

def spanP (lo hi c : Int) : Bool := decide (lo ≤ c) && decide (c ≤ hi)
end Go.Proofs.YtemmmdhmkegaaaaGreatDoor

/- All bytes of a text. -/
namespace Go.Proofs.YtemmmdhmkegaaaaGreatDoor
open Go.RowKit
set_option linter.unusedVariables false

def allB (p : Int → Bool) (l : List UInt8) : Bool := l.all fun b => p (b.toNat : Int)

theorem allB_snoc {p : Int → Bool} (s : ByteArray) (k : Nat) (h : k < s.size) (ha : allB p (s.data.toList.take k) = true) (hc : p (s[k].toNat : Int) = true) : allB p (s.data.toList.take (k + 1)) = true := by
  rw [take_snoc s k h]; unfold allB at *; rw [List.all_append, ha]; simp [hc]
theorem allB_false {p : Int → Bool} (s : ByteArray) (k : Nat) (h : k < s.size) (hc : p (s[k].toNat : Int) = false) : allB p s.data.toList = false := by
  unfold allB
  rw [List.all_eq_false]
  exact ⟨s[k], by rw [show s[k] = s.data.toList[k]'(by simpa using h) from rfl]; exact List.getElem_mem _, by simp [hc]⟩

end Go.Proofs.YtemmmdhmkegaaaaGreatDoor

/- The closures of package sign: which bytes each lets stand. -/
namespace Go.Proofs.YtemmmdhmkegaaaaGreatDoor
open Go.RowKit
set_option linter.unusedVariables false

theorem sblk_lt {w : World} {b : Nat} {o : Obj} (h : w.heap[b]? = some o) : b < w.heap.size := (Array.getElem?_eq_some_iff.1 h).1
theorem sblk_new (w : World) (o : Obj) : (w.alloc o).heap[w.heap.size]? = some o := by
  show (w.heap.push o)[w.heap.size]? = _; simp
theorem sblk_alloc {w : World} {b : Nat} {o : Obj} (h : w.heap[b]? = some o) (o' : Obj) : (w.alloc o').heap[b]? = some o := by
  rw [Below.heap_alloc _ _ _ (sblk_lt h)]; exact h
theorem sblk_cell {w : World} {b i : Nat} {c : Array Value} {t : TypeId} {v : Value} (h : w.heap[b]? = some (.cells c t)) (hv : c[i]? = some v) : w.cell? ⟨b, i, none⟩ = some v := by
  simp [World.cell?, h, hv]
theorem sblk_below {w w' : World} {b : Nat} {o : Obj} (h : w.heap[b]? = some o) (k : Below w.heap.size w w') : w'.heap[b]? = some o := (k.block b (sblk_lt h)).trans h

theorem span_call (lo hi c : Int) (p q : Nat) (w : World) (h1 : w.heap[p]? = some (.cells #[.int .u8 lo] 5)) (h2 : w.heap[q]? = some (.cells #[.int .u8 hi] 5)) :
    Calls Tryz.prog 197 #[.int .u8 c, .pointer (some ⟨p, 0, none⟩), .pointer (some ⟨q, 0, none⟩)] w fun e w' => e = .returned (.bool (spanP lo hi c)) ∧ w' = w := by
  have c1 : w.cell? ⟨p, 0, none⟩ = some (.int .u8 lo) := sblk_cell h1 rfl
  have c2 : w.cell? ⟨q, 0, none⟩ = some (.int .u8 hi) := sblk_cell h2 rfl
  clear h1 h2
  unfold spanP
  by_cases k : lo ≤ c
  · rw [decide_eq_true k]
    go_enter Tryz.func197, Tryz.ntmps197
    go_wp2
    go_ret
    exact ⟨by simp, rfl⟩
  · rw [decide_eq_false k]
    go_enter Tryz.func197, Tryz.ntmps197
    go_wp2
    go_ret
    exact ⟨rfl, rfl⟩

def amongP (s : ByteArray) (c : Int) : Bool := decide (0 ≤ Lib.indexByte s.data.toList c.toNat.toUInt8)
theorem indexByte_run (s : ByteArray) (c : Int) (w : World) : (callFunc 227 #[.string s, .int .u8 c]).run Tryz.prog w = .ok (.value (.int .i64 (Lib.indexByte s.data.toList c.toNat.toUInt8))) w := by
  rw [run_callFunc_extern Tryz.func227 (by kernel_rfl) (by kernel_rfl) (by kernel_rfl) (show Extern.find Tryz.f227 = some Extern.BytealgIndexByte.indexByte by kernel_rfl), Lib.run_indexByteString]
  rfl
theorem among_call (s : ByteArray) (c : Int) (p : Nat) (w : World) (h1 : w.heap[p]? = some (.cells #[.string s] 9)) :
    Calls Tryz.prog 198 #[.int .u8 c, .pointer (some ⟨p, 0, none⟩)] w fun e w' => e = .returned (.bool (amongP s c)) ∧ w' = w := by
  have c1 : w.cell? ⟨p, 0, none⟩ = some (.string s) := sblk_cell h1 rfl
  clear h1
  have hr := indexByte_run
  unfold amongP
  go_enter Tryz.func198, Tryz.ntmps198
  go_wp2
  go_ret
  exact ⟨by simp, rfl⟩

theorem span_any (lo hi : Int) (w : World) : Calls Tryz.prog 172 #[.int .u8 lo, .int .u8 hi] w fun e w' => ∃ p q : Nat, e = .returned (.func (.func 197) #[] #[.pointer (some ⟨p, 0, none⟩), .pointer (some ⟨q, 0, none⟩)]) ∧
    w'.heap[p]? = some (.cells #[.int .u8 lo] 5) ∧ w'.heap[q]? = some (.cells #[.int .u8 hi] 5) ∧ Below w.heap.size w w' := by
  have hmf : ∀ (fn : Fn) (first cap : Array Value) (w : World), (Instr.makeFunc fn first cap).run Tryz.prog w = .ok (.func fn first cap) w := fun _ _ _ _ => rfl
  go_enter Tryz.func172, Tryz.ntmps172
  go_wp2
  go_ret
  refine ⟨_, _, rfl, sblk_alloc (sblk_new _ _) _, ?_, ((Below.refl _ _).alloc (Nat.le_refl _) _).alloc (by simp) _⟩
  have h := sblk_new (w.alloc (.cells #[.int .u8 lo] 5)) (.cells #[.int .u8 hi] 5)
  rw [show (w.alloc (.cells #[.int .u8 lo] 5)).heap.size = w.heap.size + 1 from by simp] at h
  exact h

theorem among_any (s : ByteArray) (w : World) : Calls Tryz.prog 173 #[.string s] w fun e w' => ∃ p : Nat, e = .returned (.func (.func 198) #[] #[.pointer (some ⟨p, 0, none⟩)]) ∧
    w'.heap[p]? = some (.cells #[.string s] 9) ∧ Below w.heap.size w w' := by
  have hmf : ∀ (fn : Fn) (first cap : Array Value) (w : World), (Instr.makeFunc fn first cap).run Tryz.prog w = .ok (.func fn first cap) w := fun _ _ _ _ => rfl
  go_enter Tryz.func173, Tryz.ntmps173
  go_wp2
  go_ret
  exact ⟨_, rfl, sblk_new _ _, (Below.refl _ _).alloc (Nat.le_refl _) _⟩

theorem either_any (b n c : Nat) (w : World) : Calls Tryz.prog 171 #[.slice (some ⟨b, 0, none⟩) n c] w fun e w' => ∃ p : Nat, e = .returned (.func (.func 196) #[] #[.pointer (some ⟨p, 0, none⟩)]) ∧
    w'.heap[p]? = some (.cells #[.slice (some ⟨b, 0, none⟩) n c] 219) ∧ Below w.heap.size w w' := by
  have hmf : ∀ (fn : Fn) (first cap : Array Value) (w : World), (Instr.makeFunc fn first cap).run Tryz.prog w = .ok (.func fn first cap) w := fun _ _ _ _ => rfl
  go_enter Tryz.func171, Tryz.ntmps171
  go_wp2
  go_ret
  exact ⟨_, rfl, sblk_new _ _, (Below.refl _ _).alloc (Nat.le_refl _) _⟩

set_option maxHeartbeats 1000000 in
theorem all49 (s : ByteArray) (a : Value) (p : Int → Bool) (w : World) (hs : s.size ≤ maxLen)
    (hp : ∀ c : Int, 0 ≤ c → c < 256 → Calls Tryz.prog 196 #[.int .u8 c, a] w fun e w' => e = .returned (.bool (p c)) ∧ w' = w) :
    Calls Tryz.prog 170 #[.string s, .func (.func 196) #[] #[a]] w fun e w' => e = .returned (.bool (allB p s.data.toList)) ∧ w' = w := by
  unfold maxLen at hs
  have HP : Hid (∀ c : Int, 0 ≤ c → c < 256 → Calls Tryz.prog 196 #[.int .u8 c, a] w fun e w' => e = .returned (.bool (p c)) ∧ w' = w) := hp
  clear hp
  go_enter Tryz.func170, Tryz.ntmps170
  go_wp2
  go_loop [8] (fun i => ∃ k : Nat, k ≤ s.size ∧ i = .int .i64 k ∧ Hid (allB p (s.data.toList.take k) = true)) (fun i => s.size - (intOf i).toNat)
  case atStart => exact ⟨0, Nat.zero_le _, rfl, rfl⟩
  case round =>
    obtain ⟨k, hk, rfl, hA⟩ := hrel
    by_cases hlt : k < s.size
    · go_wp2_with fail
      refine (HP.out _ (by omega) (by have := s[k].toNat_lt; omega)).mono ?_
      rintro e w' ⟨rfl, rfl⟩
      cases hpc : p (s[k].toNat : Int)
      · have HC : Hid (p (s[k].toNat : Int) = false) := hpc
        clear hpc
        go_wp2
        go_ret
        exact ⟨ret_b (allB_false s k hlt HC.out).symm, rfl⟩
      · have HC : Hid (p (s[k].toNat : Int) = true) := hpc
        clear hpc
        go_wp2
        go_round
        case rel => exact ⟨k + 1, by omega, by go_num, allB_snoc s k hlt hA.out HC.out⟩
        case measure => simp [intOf]; omega
    · go_wp2
      go_ret
      have hk' : k = s.size := by omega
      subst hk'
      exact ⟨ret_b (by have h := hA.out; rw [List.take_of_length_le (by simp)] at h; exact h.symm), rfl⟩

set_option maxHeartbeats 1000000 in
theorem all50 (s : ByteArray) (a b : Value) (p : Int → Bool) (w : World) (hs : s.size ≤ maxLen)
    (hp : ∀ c : Int, 0 ≤ c → c < 256 → Calls Tryz.prog 197 #[.int .u8 c, a, b] w fun e w' => e = .returned (.bool (p c)) ∧ w' = w) :
    Calls Tryz.prog 170 #[.string s, .func (.func 197) #[] #[a, b]] w fun e w' => e = .returned (.bool (allB p s.data.toList)) ∧ w' = w := by
  unfold maxLen at hs
  have HP : Hid (∀ c : Int, 0 ≤ c → c < 256 → Calls Tryz.prog 197 #[.int .u8 c, a, b] w fun e w' => e = .returned (.bool (p c)) ∧ w' = w) := hp
  clear hp
  go_enter Tryz.func170, Tryz.ntmps170
  go_wp2
  go_loop [8] (fun i => ∃ k : Nat, k ≤ s.size ∧ i = .int .i64 k ∧ Hid (allB p (s.data.toList.take k) = true)) (fun i => s.size - (intOf i).toNat)
  case atStart => exact ⟨0, Nat.zero_le _, rfl, rfl⟩
  case round =>
    obtain ⟨k, hk, rfl, hA⟩ := hrel
    by_cases hlt : k < s.size
    · go_wp2_with fail
      refine (HP.out _ (by omega) (by have := s[k].toNat_lt; omega)).mono ?_
      rintro e w' ⟨rfl, rfl⟩
      cases hpc : p (s[k].toNat : Int)
      · have HC : Hid (p (s[k].toNat : Int) = false) := hpc
        clear hpc
        go_wp2
        go_ret
        exact ⟨ret_b (allB_false s k hlt HC.out).symm, rfl⟩
      · have HC : Hid (p (s[k].toNat : Int) = true) := hpc
        clear hpc
        go_wp2
        go_round
        case rel => exact ⟨k + 1, by omega, by go_num, allB_snoc s k hlt hA.out HC.out⟩
        case measure => simp [intOf]; omega
    · go_wp2
      go_ret
      have hk' : k = s.size := by omega
      subst hk'
      exact ⟨ret_b (by have h := hA.out; rw [List.take_of_length_le (by simp)] at h; exact h.symm), rfl⟩

end Go.Proofs.YtemmmdhmkegaaaaGreatDoor

/- Token, Value and Target: what each answers of every text. -/
namespace Go.Proofs.YtemmmdhmkegaaaaGreatDoor
open Go.RowKit
set_option linter.unusedVariables false

def sgn : ByteArray := ⟨#[33, 35, 36, 37, 38, 39, 42, 43, 45, 46, 94, 95, 96, 124, 126]⟩
def tab : ByteArray := ⟨#[9]⟩

def tokP (c : Int) : Bool := spanP 97 122 c || spanP 65 90 c || spanP 48 57 c || amongP sgn c
set_option maxHeartbeats 2000000 in
theorem either4 (c : Int) (r b cap : Nat) (p0 q0 : Nat) (p1 q1 : Nat) (p2 q2 : Nat) (p3 : Nat) (w : World) (hr : w.heap[r]? = some (.cells #[.slice (some ⟨b, 0, none⟩) 4 cap] 219))
    (hb : w.heap[b]? = some (.cells #[.func (.func 197) #[] #[.pointer (some ⟨p0, 0, none⟩), .pointer (some ⟨q0, 0, none⟩)], .func (.func 197) #[] #[.pointer (some ⟨p1, 0, none⟩), .pointer (some ⟨q1, 0, none⟩)], .func (.func 197) #[] #[.pointer (some ⟨p2, 0, none⟩), .pointer (some ⟨q2, 0, none⟩)], .func (.func 198) #[] #[.pointer (some ⟨p3, 0, none⟩)]] 181)) (h0 : w.heap[p0]? = some (.cells #[.int .u8 97] 5)) (k0 : w.heap[q0]? = some (.cells #[.int .u8 122] 5)) (h1 : w.heap[p1]? = some (.cells #[.int .u8 65] 5)) (k1 : w.heap[q1]? = some (.cells #[.int .u8 90] 5)) (h2 : w.heap[p2]? = some (.cells #[.int .u8 48] 5)) (k2 : w.heap[q2]? = some (.cells #[.int .u8 57] 5)) (h3 : w.heap[p3]? = some (.cells #[.string sgn] 9)) :
    Calls Tryz.prog 196 #[.int .u8 c, .pointer (some ⟨r, 0, none⟩)] w fun e w' => e = .returned (.bool (tokP c)) ∧ w' = w := by
  have cr : w.cell? ⟨r, 0, none⟩ = some (.slice (some ⟨b, 0, none⟩) 4 cap) := sblk_cell hr rfl
  have b0 : w.cell? ⟨b, 0, none⟩ = some (.func (.func 197) #[] #[.pointer (some ⟨p0, 0, none⟩), .pointer (some ⟨q0, 0, none⟩)]) := sblk_cell hb rfl
  have b1 : w.cell? ⟨b, 1, none⟩ = some (.func (.func 197) #[] #[.pointer (some ⟨p1, 0, none⟩), .pointer (some ⟨q1, 0, none⟩)]) := sblk_cell hb rfl
  have b2 : w.cell? ⟨b, 2, none⟩ = some (.func (.func 197) #[] #[.pointer (some ⟨p2, 0, none⟩), .pointer (some ⟨q2, 0, none⟩)]) := sblk_cell hb rfl
  have b3 : w.cell? ⟨b, 3, none⟩ = some (.func (.func 198) #[] #[.pointer (some ⟨p3, 0, none⟩)]) := sblk_cell hb rfl
  clear hr hb
  unfold tokP
  go_enter Tryz.func196, Tryz.ntmps196
  go_wp2
  refine wp_loop_rounds 5 ?_
  rw [rounds_succ]
  go_wp2_with fail
  refine (span_call 97 122 c p0 q0 _ h0 k0).mono ?_
  rintro e w1 ⟨rfl, rfl⟩
  cases e0 : spanP 97 122 c
  case true =>
    go_wp2
    go_ret
    exact ⟨ret_b (by simp [e0]), rfl⟩
  case false =>
    go_wp2
    rw [rounds_succ]
    go_wp2_with fail
    refine (span_call 65 90 c p1 q1 _ h1 k1).mono ?_
    rintro e w1 ⟨rfl, rfl⟩
    cases e1 : spanP 65 90 c
    case true =>
      go_wp2
      go_ret
      exact ⟨ret_b (by simp [e1]), rfl⟩
    case false =>
      go_wp2
      rw [rounds_succ]
      go_wp2_with fail
      refine (span_call 48 57 c p2 q2 _ h2 k2).mono ?_
      rintro e w1 ⟨rfl, rfl⟩
      cases e2 : spanP 48 57 c
      case true =>
        go_wp2
        go_ret
        exact ⟨ret_b (by simp [e2]), rfl⟩
      case false =>
        go_wp2
        rw [rounds_succ]
        go_wp2_with fail
        refine (among_call sgn c p3 _ h3).mono ?_
        rintro e w1 ⟨rfl, rfl⟩
        cases e3 : amongP sgn c
        case true =>
          go_wp2
          go_ret
          exact ⟨ret_b (by simp [e3]), rfl⟩
        case false =>
          go_wp2
          rw [rounds_succ]
          go_wp2
          go_ret
          exact ⟨ret_b (by simp [e0, e1, e2, e3]), rfl⟩

def valP (c : Int) : Bool := spanP 32 126 c || spanP 128 255 c || amongP tab c
set_option maxHeartbeats 2000000 in
theorem either3 (c : Int) (r b cap : Nat) (p0 q0 : Nat) (p1 q1 : Nat) (p2 : Nat) (w : World) (hr : w.heap[r]? = some (.cells #[.slice (some ⟨b, 0, none⟩) 3 cap] 219))
    (hb : w.heap[b]? = some (.cells #[.func (.func 197) #[] #[.pointer (some ⟨p0, 0, none⟩), .pointer (some ⟨q0, 0, none⟩)], .func (.func 197) #[] #[.pointer (some ⟨p1, 0, none⟩), .pointer (some ⟨q1, 0, none⟩)], .func (.func 198) #[] #[.pointer (some ⟨p2, 0, none⟩)]] 181)) (h0 : w.heap[p0]? = some (.cells #[.int .u8 32] 5)) (k0 : w.heap[q0]? = some (.cells #[.int .u8 126] 5)) (h1 : w.heap[p1]? = some (.cells #[.int .u8 128] 5)) (k1 : w.heap[q1]? = some (.cells #[.int .u8 255] 5)) (h2 : w.heap[p2]? = some (.cells #[.string tab] 9)) :
    Calls Tryz.prog 196 #[.int .u8 c, .pointer (some ⟨r, 0, none⟩)] w fun e w' => e = .returned (.bool (valP c)) ∧ w' = w := by
  have cr : w.cell? ⟨r, 0, none⟩ = some (.slice (some ⟨b, 0, none⟩) 3 cap) := sblk_cell hr rfl
  have b0 : w.cell? ⟨b, 0, none⟩ = some (.func (.func 197) #[] #[.pointer (some ⟨p0, 0, none⟩), .pointer (some ⟨q0, 0, none⟩)]) := sblk_cell hb rfl
  have b1 : w.cell? ⟨b, 1, none⟩ = some (.func (.func 197) #[] #[.pointer (some ⟨p1, 0, none⟩), .pointer (some ⟨q1, 0, none⟩)]) := sblk_cell hb rfl
  have b2 : w.cell? ⟨b, 2, none⟩ = some (.func (.func 198) #[] #[.pointer (some ⟨p2, 0, none⟩)]) := sblk_cell hb rfl
  clear hr hb
  unfold valP
  go_enter Tryz.func196, Tryz.ntmps196
  go_wp2
  refine wp_loop_rounds 4 ?_
  rw [rounds_succ]
  go_wp2_with fail
  refine (span_call 32 126 c p0 q0 _ h0 k0).mono ?_
  rintro e w1 ⟨rfl, rfl⟩
  cases e0 : spanP 32 126 c
  case true =>
    go_wp2
    go_ret
    exact ⟨ret_b (by simp [e0]), rfl⟩
  case false =>
    go_wp2
    rw [rounds_succ]
    go_wp2_with fail
    refine (span_call 128 255 c p1 q1 _ h1 k1).mono ?_
    rintro e w1 ⟨rfl, rfl⟩
    cases e1 : spanP 128 255 c
    case true =>
      go_wp2
      go_ret
      exact ⟨ret_b (by simp [e1]), rfl⟩
    case false =>
      go_wp2
      rw [rounds_succ]
      go_wp2_with fail
      refine (among_call tab c p2 _ h2).mono ?_
      rintro e w1 ⟨rfl, rfl⟩
      cases e2 : amongP tab c
      case true =>
        go_wp2
        go_ret
        exact ⟨ret_b (by simp [e2]), rfl⟩
      case false =>
        go_wp2
        rw [rounds_succ]
        go_wp2
        go_ret
        exact ⟨ret_b (by simp [e0, e1, e2]), rfl⟩

end Go.Proofs.YtemmmdhmkegaaaaGreatDoor

/- Token: what it answers of every text. -/
namespace Go.Proofs.YtemmmdhmkegaaaaGreatDoor
open Go.RowKit
set_option linter.unusedVariables false

set_option maxHeartbeats 2000000 in
theorem token_any (s : ByteArray) (w : World) (hs : s.size ≤ maxLen) :
    Calls Tryz.prog 143 #[.string s] w fun e w' => e = .returned (.bool (allB tokP s.data.toList && decide (0 < s.size))) ∧ Below w.heap.size w w' := by
  by_cases hz : s.size = 0
  · have he := empty_of hz
    subst he
    go_enter Tryz.func143, Tryz.ntmps143
    go_wp2
    go_ret
    exact ⟨rfl, Below.refl _ _⟩
  · have HZ : Hid (decide (0 < s.size) = true) := by rw [Hid]; simp; omega
    have hne := isEmpty_of hz
    clear hz
    rw [HZ.out]
    go_enter Tryz.func143, Tryz.ntmps143
    go_wp2_with fail
    refine (span_any 97 122 _).mono ?_
    rintro e w1 ⟨p0, q0, rfl, h0, k0, B1⟩
    go_wp2_with fail
    refine (span_any 65 90 _).mono ?_
    rintro e w2 ⟨p1, q1, rfl, h1, k1, B2⟩
    go_wp2_with fail
    refine (span_any 48 57 _).mono ?_
    rintro e w3 ⟨p2, q2, rfl, h2, k2, B3⟩
    go_wp2_with fail
    refine (among_any sgn _).mono ?_
    rintro e w4 ⟨p3, rfl, h3, B4⟩
    go_wp2_with fail
    have hb := sblk_new w4 (.cells #[.func (.func 197) #[] #[.pointer (some ⟨p0, 0, none⟩), .pointer (some ⟨q0, 0, none⟩)], .func (.func 197) #[] #[.pointer (some ⟨p1, 0, none⟩), .pointer (some ⟨q1, 0, none⟩)], .func (.func 197) #[] #[.pointer (some ⟨p2, 0, none⟩), .pointer (some ⟨q2, 0, none⟩)], .func (.func 198) #[] #[.pointer (some ⟨p3, 0, none⟩)]] 181)
    have B5 := (Below.refl w4.heap.size w4).alloc (Nat.le_refl _) (.cells #[.func (.func 197) #[] #[.pointer (some ⟨p0, 0, none⟩), .pointer (some ⟨q0, 0, none⟩)], .func (.func 197) #[] #[.pointer (some ⟨p1, 0, none⟩), .pointer (some ⟨q1, 0, none⟩)], .func (.func 197) #[] #[.pointer (some ⟨p2, 0, none⟩), .pointer (some ⟨q2, 0, none⟩)], .func (.func 198) #[] #[.pointer (some ⟨p3, 0, none⟩)]] 181)
    refine (either_any w4.heap.size 4 4 (w4.alloc (.cells #[.func (.func 197) #[] #[.pointer (some ⟨p0, 0, none⟩), .pointer (some ⟨q0, 0, none⟩)], .func (.func 197) #[] #[.pointer (some ⟨p1, 0, none⟩), .pointer (some ⟨q1, 0, none⟩)], .func (.func 197) #[] #[.pointer (some ⟨p2, 0, none⟩), .pointer (some ⟨q2, 0, none⟩)], .func (.func 198) #[] #[.pointer (some ⟨p3, 0, none⟩)]] 181))).mono ?_
    generalize w4.alloc (.cells #[.func (.func 197) #[] #[.pointer (some ⟨p0, 0, none⟩), .pointer (some ⟨q0, 0, none⟩)], .func (.func 197) #[] #[.pointer (some ⟨p1, 0, none⟩), .pointer (some ⟨q1, 0, none⟩)], .func (.func 197) #[] #[.pointer (some ⟨p2, 0, none⟩), .pointer (some ⟨q2, 0, none⟩)], .func (.func 198) #[] #[.pointer (some ⟨p3, 0, none⟩)]] 181) = w5 at *
    rintro e w6 ⟨r, rfl, hr, B6⟩
    have D4 := B5.trans (B6.mono B5.size)
    have D3 := B4.trans (D4.mono B4.size)
    have D2 := B3.trans (D3.mono B3.size)
    have D1 := B2.trans (D2.mono B2.size)
    have D0 := B1.trans (D1.mono B1.size)
    have H := fun c (_ : (0 : Int) ≤ c) (_ : c < 256) => either4 c r w4.heap.size 4 p0 q0 p1 q1 p2 q2 p3 w6 hr (sblk_below hb B6) (sblk_below h0 D1) (sblk_below k0 D1) (sblk_below h1 D2) (sblk_below k1 D2) (sblk_below h2 D3) (sblk_below k2 D3) (sblk_below h3 D4)
    have HA : Hid (Calls Tryz.prog 170 #[.string s, .func (.func 196) #[] #[.pointer (some ⟨r, 0, none⟩)]] w6 fun e w' => e = .returned (.bool (allB tokP s.data.toList)) ∧ w' = w6) := all49 s _ tokP w6 hs H
    clear H h0 k0 h1 k1 h2 k2 h3 hb hr B1 B2 B3 B4 B5 B6 D1 D2 D3 D4
    go_wp2_with fail
    refine HA.out.mono ?_
    rintro e w7 ⟨rfl, rfl⟩
    go_wp2
    go_ret
    exact ⟨ret_b (by simp), D0⟩
end Go.Proofs.YtemmmdhmkegaaaaGreatDoor

/- Token and Value: what each answers of every text. -/
namespace Go.Proofs.YtemmmdhmkegaaaaGreatDoor
open Go.RowKit
set_option linter.unusedVariables false

set_option maxHeartbeats 1000000 in
theorem value_any (s : ByteArray) (w : World) (hs : s.size ≤ maxLen) :
    Calls Tryz.prog 178 #[.string s] w fun e w' => e = .returned (.bool (allB valP s.data.toList)) ∧ Below w.heap.size w w' := by
  go_enter Tryz.func178, Tryz.ntmps178
  go_wp2_with fail
  refine (span_any 32 126 _).mono ?_
  rintro e w1 ⟨p0, q0, rfl, h0, k0, B1⟩
  go_wp2_with fail
  refine (span_any 128 255 _).mono ?_
  rintro e w2 ⟨p1, q1, rfl, h1, k1, B2⟩
  go_wp2_with fail
  refine (among_any tab _).mono ?_
  rintro e w3 ⟨p2, rfl, h2, B3⟩
  go_wp2_with fail
  have hb := sblk_new w3 (.cells #[.func (.func 197) #[] #[.pointer (some ⟨p0, 0, none⟩), .pointer (some ⟨q0, 0, none⟩)], .func (.func 197) #[] #[.pointer (some ⟨p1, 0, none⟩), .pointer (some ⟨q1, 0, none⟩)], .func (.func 198) #[] #[.pointer (some ⟨p2, 0, none⟩)]] 181)
  have B4 := (Below.refl w3.heap.size w3).alloc (Nat.le_refl _) (.cells #[.func (.func 197) #[] #[.pointer (some ⟨p0, 0, none⟩), .pointer (some ⟨q0, 0, none⟩)], .func (.func 197) #[] #[.pointer (some ⟨p1, 0, none⟩), .pointer (some ⟨q1, 0, none⟩)], .func (.func 198) #[] #[.pointer (some ⟨p2, 0, none⟩)]] 181)
  refine (either_any w3.heap.size 3 3 (w3.alloc (.cells #[.func (.func 197) #[] #[.pointer (some ⟨p0, 0, none⟩), .pointer (some ⟨q0, 0, none⟩)], .func (.func 197) #[] #[.pointer (some ⟨p1, 0, none⟩), .pointer (some ⟨q1, 0, none⟩)], .func (.func 198) #[] #[.pointer (some ⟨p2, 0, none⟩)]] 181))).mono ?_
  generalize w3.alloc (.cells #[.func (.func 197) #[] #[.pointer (some ⟨p0, 0, none⟩), .pointer (some ⟨q0, 0, none⟩)], .func (.func 197) #[] #[.pointer (some ⟨p1, 0, none⟩), .pointer (some ⟨q1, 0, none⟩)], .func (.func 198) #[] #[.pointer (some ⟨p2, 0, none⟩)]] 181) = w4 at *
  rintro e w5 ⟨r, rfl, hr, B5⟩
  have D3 := B4.trans (B5.mono B4.size)
  have D2 := B3.trans (D3.mono B3.size)
  have D1 := B2.trans (D2.mono B2.size)
  have D0 := B1.trans (D1.mono B1.size)
  have H := fun c (_ : (0 : Int) ≤ c) (_ : c < 256) => either3 c r w3.heap.size 3 p0 q0 p1 q1 p2 w5 hr (sblk_below hb B5) (sblk_below h0 D1) (sblk_below k0 D1) (sblk_below h1 D2) (sblk_below k1 D2) (sblk_below h2 D3)
  have HA : Hid (Calls Tryz.prog 170 #[.string s, .func (.func 196) #[] #[.pointer (some ⟨r, 0, none⟩)]] w5 fun e w' => e = .returned (.bool (allB valP s.data.toList)) ∧ w' = w5) := all49 s _ valP w5 hs H
  clear H h0 k0 h1 k1 h2 hb hr B1 B2 B3 B4 B5 D1 D2 D3
  go_wp2_with fail
  refine HA.out.mono ?_
  rintro e w6 ⟨rfl, rfl⟩
  go_wp2
  go_ret
  exact ⟨rfl, D0⟩


end Go.Proofs.YtemmmdhmkegaaaaGreatDoor

/- Trim and Clone: what each answers of every text; the library's variable that a search may look at. -/
namespace Go.Proofs.YtemmmdhmkegaaaaGreatDoor
open Go.RowKit
set_option linter.unusedVariables false

def trimP (l : List UInt8) : List UInt8 := Lib.trimS l [32, 9]
def trimT (s : ByteArray) : ByteArray := ⟨(trimP s.data.toList).toArray⟩
theorem dropWhile_len (p : UInt8 → Bool) : ∀ l : List UInt8, (l.dropWhile p).length ≤ l.length
  | [] => Nat.le_refl _
  | b :: l => by
    rw [List.dropWhile_cons]
    split
    · have := dropWhile_len p l; rw [List.length_cons]; omega
    · exact Nat.le_refl _
theorem trimP_len (l : List UInt8) : (trimP l).length ≤ l.length := by
  unfold trimP Lib.trimS Lib.trimLeftS Lib.trimRightS
  refine Nat.le_trans (dropWhile_len _ _) ?_
  rw [List.length_reverse]
  refine Nat.le_trans (dropWhile_len _ _) ?_
  rw [List.length_reverse]; exact Nat.le_refl _
theorem trimT_size (s : ByteArray) : (trimT s).size ≤ s.size := trimP_len s.data.toList

theorem trim_any (s : ByteArray) (w : World) (hs : s.size ≤ 140737488355328) : Calls Tryz.prog 140 #[.string s] w fun e w' => e = .returned (.string (trimT s)) ∧ Below w.heap.size w w' := by
  have H1 : Hid (s.size ≤ 9223372036854775807) := by rw [Hid]; omega
  have H2 : Hid ((trimT s).size ≤ 281474976710656) := by rw [Hid]; have := trimT_size s; omega
  clear hs
  go_enter Tryz.func140, Tryz.ntmps140
  go_wp2_with fail
  refine (Tryz.strings_Trim_laid s ⟨#[32, 9]⟩ _ H1.out (by decide) (ascii_of_all (by decide))).mono ?_
  rintro e w1 ⟨rfl, B1⟩
  go_wp2_with fail
  refine (clone_any (trimT s) _ H2.out).mono ?_
  rintro e w2 ⟨rfl, B2⟩
  go_wp2
  go_ret
  exact ⟨rfl, B1.trans (B2.mono B1.size)⟩

end Go.Proofs.YtemmmdhmkegaaaaGreatDoor

/- Plain lemmas on trimmed texts. -/
namespace Go.Proofs.YtemmmdhmkegaaaaGreatDoor
open Go.RowKit
set_option linter.unusedVariables false

def blk (b : UInt8) : Bool := ([32, 9] : List UInt8).contains b
def NF (l : List UInt8) : Prop := ∀ b, l.head? = some b → blk b = false
def NL (l : List UInt8) : Prop := ∀ b, l.getLast? = some b → blk b = false
theorem trimP_eq (l : List UInt8) : trimP l = (l.reverse.dropWhile blk).reverse.dropWhile blk := rfl
theorem dw_same (l : List UInt8) (h : NF l) : l.dropWhile blk = l := by
  cases l with
  | nil => rfl
  | cons a l => rw [List.dropWhile_cons, if_neg (by rw [h a rfl]; decide)]
theorem dw_app (a l : List UInt8) (h : ∀ b ∈ a, blk b = true) : (a ++ l).dropWhile blk = l.dropWhile blk := by
  induction a with
  | nil => rfl
  | cons x a ih =>
    rw [List.cons_append, List.dropWhile_cons, if_pos (h x (.head _))]
    exact ih fun b hb => h b (.tail _ hb)
theorem dw_all (a : List UInt8) (h : ∀ b ∈ a, blk b = true) : a.dropWhile blk = [] := by
  have := dw_app a [] h
  rwa [List.append_nil] at this
theorem rev_front {l : List UInt8} (h : NL l) : NF l.reverse := by
  intro b hb
  rw [List.head?_reverse] at hb
  exact h b hb
theorem trim_around (a t q : List UInt8) (ha : ∀ b ∈ a, blk b = true) (hq : ∀ b ∈ q, blk b = true) (h1 : NF t) (h2 : NL t) : trimP (a ++ t ++ q) = t := by
  rw [trimP_eq, List.reverse_append, dw_app _ _ (fun b hb => hq b (List.mem_reverse.1 hb)), List.reverse_append]
  by_cases ht : t = []
  · subst ht
    rw [List.reverse_nil, List.nil_append, dw_all _ (fun b hb => ha b (List.mem_reverse.1 hb))]
    rfl
  · rw [dw_same (t.reverse ++ a.reverse)]
    · rw [← List.reverse_append, List.reverse_reverse, dw_app _ _ ha, dw_same _ h1]
    · intro b hb
      refine rev_front h2 b ?_
      cases h : t.reverse with
      | nil => exact absurd (List.reverse_eq_nil_iff.1 h) ht
      | cons c r => rw [h] at hb; exact hb
theorem bytes_eq {a b : ByteArray} (h : a.data.toList = b.data.toList) : a = b := by
  obtain ⟨⟨l⟩⟩ := a
  obtain ⟨⟨l'⟩⟩ := b
  simp at h
  rw [h]
def Around (t : ByteArray) (n : Nat) (x : ByteArray) : Prop := ∃ a q : List UInt8, (∀ b ∈ a, blk b = true) ∧ (∀ b ∈ q, blk b = true) ∧ x.data.toList = a ++ t.data.toList ++ q ∧ x.size = t.size + n
theorem Around.refl (t : ByteArray) : Around t 0 t := ⟨[], [], (fun _ h => by cases h), (fun _ h => by cases h), by simp, rfl⟩
theorem cat_size (a b : ByteArray) : (a ++ b).size = a.size + b.size := by
  show (a ++ b).data.toList.length = a.data.toList.length + b.data.toList.length
  rw [Joins.data_append, List.length_append]
theorem Around.ahead {t x : ByteArray} {n : Nat} (h : Around t n x) (b : UInt8) (hb : blk b = true) : Around t (n + 1) ((⟨#[b]⟩ : ByteArray) ++ x) := by
  obtain ⟨a, q, ha, hq, hx, hn⟩ := h
  refine ⟨b :: a, q, fun c hc => ?_, hq, ?_, ?_⟩
  · cases hc with
    | head => exact hb
    | tail _ hc => exact ha c hc
  · rw [Joins.data_append, hx]; simp
  · rw [cat_size, hn]; show 1 + _ = _; omega
theorem Around.behind {t x : ByteArray} {n : Nat} (h : Around t n x) (b : UInt8) (hb : blk b = true) : Around t (n + 1) (x ++ (⟨#[b]⟩ : ByteArray)) := by
  obtain ⟨a, q, ha, hq, hx, hn⟩ := h
  refine ⟨a, q ++ [b], ha, fun c hc => ?_, ?_, ?_⟩
  · rcases List.mem_append.1 hc with hc | hc
    · exact hq c hc
    · rw [List.mem_singleton.1 hc]; exact hb
  · rw [Joins.data_append, hx]; simp
  · rw [cat_size, hn]; rfl
end Go.Proofs.YtemmmdhmkegaaaaGreatDoor

/- Fields: which are right; a line read and told. -/
namespace Go.Proofs.YtemmmdhmkegaaaaGreatDoor
open Go.RowKit
set_option linter.unusedVariables false

def eqT (a b : ByteArray) : Bool := a.toList == b.toList
def okName (n : ByteArray) : Bool := decide (n.size ≤ 100) && (allB tokP n.data.toList && decide (0 < n.size))
def okVal (v : ByteArray) : Bool := (decide (v.size ≤ 1000) && allB valP v.data.toList) && eqT (trimT v) v
def okF (n v : ByteArray) : Bool := okName n && okVal v
def fv (n v : ByteArray) : Value := .agg #[.string n, .string v]

set_option maxHeartbeats 1000000 in
theorem rn_any (n : ByteArray) (w : World) (hs : n.size ≤ 140737488355328) : Calls Tryz.prog 165 #[.string n] w fun e w' => e = .returned (.bool (okName n)) ∧ Below w.heap.size w w' := by
  have HT := token_any n w (by unfold maxLen; omega)
  unfold okName
  generalize (allB tokP n.data.toList && decide (0 < n.size)) = t at *
  have HT2 : Hid (Calls Tryz.prog 143 #[.string n] w fun e w' => e = .returned (.bool t) ∧ Below w.heap.size w w') := HT
  clear HT
  by_cases h : n.size ≤ 100
  · have h' : (n.size : Int) ≤ 100 := by omega
    rw [decide_eq_true h, Bool.true_and]
    clear h
    go_enter Tryz.func165, Tryz.ntmps165
    go_wp2_with fail
    refine HT2.out.mono ?_
    rintro e w1 ⟨rfl, B1⟩
    go_wp2
    go_ret
    exact ⟨rfl, B1⟩
  · have h' : ¬ (n.size : Int) ≤ 100 := by omega
    rw [decide_eq_false h, Bool.false_and]
    clear h
    go_enter Tryz.func165, Tryz.ntmps165
    go_wp2
    go_ret
    exact ⟨rfl, Below.refl _ _⟩

set_option maxHeartbeats 1000000 in
theorem rv_any (v : ByteArray) (w : World) (hs : v.size ≤ 140737488355328) : Calls Tryz.prog 166 #[.string v] w fun e w' => e = .returned (.bool (okVal v)) ∧ Below w.heap.size w w' := by
  have HV := value_any v w (by unfold maxLen; omega)
  have HT := fun w => trim_any v w hs
  unfold okVal eqT
  by_cases h : v.size ≤ 1000
  · have h' : (v.size : Int) ≤ 1000 := by omega
    rw [decide_eq_true h, Bool.true_and]
    clear h
    generalize trimT v = T at *
    cases hv : allB valP v.data.toList
    · rw [hv] at HV
      have HV2 : Hid (Calls Tryz.prog 178 #[.string v] w fun e w' => e = .returned (.bool false) ∧ Below w.heap.size w w') := HV
      clear HV HT hv
      rw [Bool.false_and]
      go_enter Tryz.func166, Tryz.ntmps166
      go_wp2_with fail
      refine HV2.out.mono ?_
      rintro e w1 ⟨rfl, B1⟩
      go_wp2
      go_ret
      exact ⟨rfl, B1⟩
    · rw [hv] at HV
      have HV2 : Hid (Calls Tryz.prog 178 #[.string v] w fun e w' => e = .returned (.bool true) ∧ Below w.heap.size w w') := HV
      have HT2 : Hid (∀ w, Calls Tryz.prog 140 #[.string v] w fun e w' => e = .returned (.string T) ∧ Below w.heap.size w w') := HT
      clear HV HT hv
      rw [Bool.true_and]
      go_enter Tryz.func166, Tryz.ntmps166
      go_wp2_with fail
      refine HV2.out.mono ?_
      rintro e w1 ⟨rfl, B1⟩
      go_wp2_with fail
      refine (HT2.out w1).mono ?_
      rintro e w2 ⟨rfl, B2⟩
      go_wp2
      go_ret
      exact ⟨rfl, B1.trans (B2.mono B1.size)⟩
  · have h' : ¬ (v.size : Int) ≤ 1000 := by omega
    rw [decide_eq_false h, Bool.false_and, Bool.false_and]
    clear h HV HT
    go_enter Tryz.func166, Tryz.ntmps166
    go_wp2
    go_ret
    exact ⟨rfl, Below.refl _ _⟩

set_option maxHeartbeats 1000000 in
theorem wrong_any (n v : ByteArray) (w : World) (hn : n.size ≤ 140737488355328) (hv : v.size ≤ 140737488355328) : Calls Tryz.prog 141 #[.agg #[.string n, .string v]] w fun e w' => e = .returned (.bool (!okF n v)) ∧ Below w.heap.size w w' := by
  unfold okF
  have HN := fun w => rn_any n w hn
  have HV := fun w => rv_any v w hv
  generalize okName n = a at *
  generalize okVal v = b at *
  have HN2 : Hid (∀ w, Calls Tryz.prog 165 #[.string n] w fun e w' => e = .returned (.bool a) ∧ Below w.heap.size w w') := HN
  have HV2 : Hid (∀ w, Calls Tryz.prog 166 #[.string v] w fun e w' => e = .returned (.bool b) ∧ Below w.heap.size w w') := HV
  clear HN HV hn hv
  cases a
  · go_enter Tryz.func141, Tryz.ntmps141
    go_wp2_with fail
    refine (HN2.out _).mono ?_
    rintro e w1 ⟨rfl, B1⟩
    have C1 := ((Below.refl w.heap.size w).alloc (Nat.le_refl _) (.cells #[.string n, .string v] 121)).trans (B1.mono (by simp))
    go_wp2
    go_ret
    exact ⟨rfl, C1⟩
  · go_enter Tryz.func141, Tryz.ntmps141
    go_wp2_with fail
    refine (HN2.out _).mono ?_
    rintro e w1 ⟨rfl, B1⟩
    have C1 := ((Below.refl w.heap.size w).alloc (Nat.le_refl _) (.cells #[.string n, .string v] 121)).trans (B1.mono (by simp))
    have hc : w1.cell? ⟨w.heap.size, 1, none⟩ = some (.string v) := tblk_cell ((B1.block _ (by simp)).trans (tblk_new _ _)) rfl
    clear B1
    go_wp2_with fail
    refine (HV2.out _).mono ?_
    rintro e w2 ⟨rfl, B2⟩
    go_wp2
    go_ret
    exact ⟨by simp, C1.trans (B2.mono C1.size)⟩

def prs (s : ByteArray) : ByteArray × ByteArray × Int :=
  if (Lib.cut s.data.toList [58]).2.2 && okF ⟨(Lib.cut s.data.toList [58]).1.toArray⟩ (trimT ⟨(Lib.cut s.data.toList [58]).2.1.toArray⟩) then (⟨(Lib.cut s.data.toList [58]).1.toArray⟩, trimT ⟨(Lib.cut s.data.toList [58]).2.1.toArray⟩, 0) else (⟨#[]⟩, ⟨#[]⟩, 20)
theorem cut_len (l : List UInt8) : (Lib.cut l [58]).1.length ≤ l.length ∧ (Lib.cut l [58]).2.1.length ≤ l.length := by
  unfold Lib.cut
  split
  · simp only [List.length_take, List.length_drop]; omega
  · simp

theorem drewN_heap (w : World) (k : Nat) : (w.drewN k).heap = w.heap := by simp [World.drewN]
theorem below_drewN (B : Nat) (w : World) (k : Nat) : Below B w (w.drewN k) := by refine ⟨?_, ?_, ?_, ?_, ?_⟩ <;> simp [World.drewN]
theorem tblk_z {w : World} {b i : Nat} {c : Array Value} {t : TypeId} (h : w.heap[b]? = some (.cells c t)) : w.frozen? ⟨b, i, none⟩ = false := by simp [World.frozen?, h]
theorem two_cells {w : World} {b : Nat} {x y : Value} {t : TypeId} (h : w.heap[b]? = some (.cells #[x, y] t)) (n v : ByteArray) :
    ((w.setCell ⟨b, 0, none⟩ (.string n)).setCell ⟨b, 1, none⟩ (.string v)).heap[b]? = some (.cells #[.string n, .string v] t) ∧
    ((w.setCell ⟨b, 0, none⟩ (.string n)).setCell ⟨b, 1, none⟩ (.string v)).cell? ⟨b, 0, none⟩ = some (.string n) ∧
    ((w.setCell ⟨b, 0, none⟩ (.string n)).setCell ⟨b, 1, none⟩ (.string v)).cell? ⟨b, 1, none⟩ = some (.string v) ∧ True := by
  have k : ((w.setCell ⟨b, 0, none⟩ (.string n)).setCell ⟨b, 1, none⟩ (.string v)).heap[b]? = some (.cells #[.string n, .string v] t) := by
    simp [World.setCell, Array.getElem?_modify, h]
  exact ⟨k, tblk_cell k rfl, tblk_cell k rfl, trivial⟩

set_option maxRecDepth 100000 in
set_option maxHeartbeats 2000000 in
theorem parse_any (s : ByteArray) (w : World) (hs : s.size < 4294967281) (hM : MaxL w) : Calls Tryz.prog 103 #[.string s] w fun e w' => e = .returned (.tuple #[.agg #[.string (prs s).1, .string (prs s).2.1], .int .i64 (prs s).2.2]) ∧ Below w.heap.size w w' := by
  obtain ⟨m, hm⟩ := hM
  have hlt : 0 < w.heap.size := MaxL.lt ⟨m, hm⟩
  have hcl := cut_len s.data.toList
  have hsz : s.data.toList.length = s.size := rfl
  unfold prs
  have HC : Hid (∀ w : World, w.cell? ⟨0, 0, none⟩ = some (.int .i64 m) → Calls Tryz.prog 139 #[.string s, .string ⟨#[58]⟩] w fun e w' => e = .returned (.tuple #[.string ⟨(Lib.cut s.data.toList [58]).1.toArray⟩, .string ⟨(Lib.cut s.data.toList [58]).2.1.toArray⟩, .bool (Lib.cut s.data.toList [58]).2.2]) ∧ ∃ n, w' = w.drewN n) := fun w hm => Tryz.strings_Cut s ⟨#[58]⟩ m w hs hm
  generalize (Lib.cut s.data.toList [58]) = c at *
  obtain ⟨c1, c2, c3⟩ := c
  simp only at hcl HC ⊢
  have hn : Hid ((⟨c1.toArray⟩ : ByteArray).size ≤ 140737488355328) := by rw [Hid]; show c1.length ≤ _; omega
  have hv : Hid ((⟨c2.toArray⟩ : ByteArray).size ≤ 140737488355328) := by rw [Hid]; show c2.length ≤ _; omega
  have hm2 : (w.alloc (.cells #[.string ⟨#[]⟩, .string ⟨#[]⟩] 121)).cell? ⟨0, 0, none⟩ = some (.int .i64 m) := by
    rw [← hm]; simp only [World.cell?]; rw [Below.heap_alloc _ _ _ hlt]
  have hvt := trimT_size ⟨c2.toArray⟩
  generalize (⟨c1.toArray⟩ : ByteArray) = n at *
  generalize (⟨c2.toArray⟩ : ByteArray) = v at *
  have hv2 : Hid ((trimT v).size ≤ 140737488355328) := by rw [Hid]; have := hv.out; omega
  clear hvt hm hs hcl hsz
  have HTR : Hid (∀ W, Calls Tryz.prog 140 #[.string v] W fun e w' => e = .returned (.string (trimT v)) ∧ Below W.heap.size W w') := fun W => trim_any v W hv.out
  have HWR2 : Hid (∀ W, Calls Tryz.prog 141 #[.agg #[.string n, .string (trimT v)]] W fun e w' => e = .returned (.bool (!okF n (trimT v))) ∧ Below W.heap.size W w') := fun W => wrong_any n (trimT v) W hn.out hv2.out
  generalize trimT v = T at *
  generalize okF n T = ok at *
  cases c3
  · rw [Bool.false_and, if_neg (by decide)]
    go_enter Tryz.func103, Tryz.ntmps103
    go_wp2_with fail
    refine (HC.out _ hm2).mono ?_
    rintro e w1 ⟨rfl, k, rfl⟩
    have hg : ((w.alloc (.cells #[.string ⟨#[]⟩, .string ⟨#[]⟩] 121)).drewN k).heap[w.heap.size]? = some (.cells #[.string ⟨#[]⟩, .string ⟨#[]⟩] 121) := by rw [drewN_heap]; exact tblk_new _ _
    have C1 : Below w.heap.size w ((w.alloc (.cells #[.string ⟨#[]⟩, .string ⟨#[]⟩] 121)).drewN k) := ((Below.refl _ _).alloc (Nat.le_refl _) _).trans (below_drewN _ _ _)
    generalize (w.alloc (.cells #[.string ⟨#[]⟩, .string ⟨#[]⟩] 121)).drewN k = w2 at *
    clear hm2 HC
    have HW := two_cells hg ⟨#[]⟩ ⟨#[]⟩
    have r0 := HW.2.1
    have r1 := HW.2.2.1
    have a0 : w2.cell? ⟨w.heap.size, 0, none⟩ = some (.string ⟨#[]⟩) := tblk_cell hg rfl
    have a1 : w2.cell? ⟨w.heap.size, 1, none⟩ = some (.string ⟨#[]⟩) := tblk_cell hg rfl
    have z0 : w2.frozen? ⟨w.heap.size, 0, none⟩ = false := tblk_z hg
    have z1 : w2.frozen? ⟨w.heap.size, 1, none⟩ = false := tblk_z hg
    have C2 : Hid (Below w.heap.size w ((w2.setCell ⟨w.heap.size, 0, none⟩ (.string ⟨#[]⟩)).setCell ⟨w.heap.size, 1, none⟩ (.string ⟨#[]⟩))) := (C1.setCell (p := ⟨w.heap.size, 0, none⟩) (Nat.le_refl _) _).setCell (p := ⟨w.heap.size, 1, none⟩) (Nat.le_refl _) _
    clear hg HW C1
    go_wp2
    refine bodyPost_ret (v := .tuple #[.agg #[.string ⟨#[]⟩, .string ⟨#[]⟩], .int .i64 20]) (by simp [results, Tryz.results103, go_sem, r0, r1]) rfl ⟨rfl, C2.out⟩
  · cases ok
    · rw [Bool.true_and, if_neg (by decide)]
      go_enter Tryz.func103, Tryz.ntmps103
      go_wp2_with fail
      refine (HC.out _ hm2).mono ?_
      rintro e w1 ⟨rfl, k, rfl⟩
      have hg : ((w.alloc (.cells #[.string ⟨#[]⟩, .string ⟨#[]⟩] 121)).drewN k).heap[w.heap.size]? = some (.cells #[.string ⟨#[]⟩, .string ⟨#[]⟩] 121) := by rw [drewN_heap]; exact tblk_new _ _
      have C1 : Below w.heap.size w ((w.alloc (.cells #[.string ⟨#[]⟩, .string ⟨#[]⟩] 121)).drewN k) := ((Below.refl _ _).alloc (Nat.le_refl _) _).trans (below_drewN _ _ _)
      generalize (w.alloc (.cells #[.string ⟨#[]⟩, .string ⟨#[]⟩] 121)).drewN k = w2 at *
      clear hm2 HC
      go_wp2_with fail
      refine (clone_any n _ (by have := hn.out; omega)).mono ?_
      rintro e w3 ⟨rfl, B3⟩
      have g3 := tblk_below hg B3
      have C3 := C1.trans (B3.mono C1.size)
      clear hg C1 B3
      go_wp2_with fail
      refine (HTR.out _).mono ?_
      rintro e w4 ⟨rfl, B4⟩
      have g4 := tblk_below g3 B4
      have C4 := C3.trans (B4.mono C3.size)
      clear g3 C3 B4
      have hl4 : w.heap.size < w4.heap.size := (Array.getElem?_eq_some_iff.1 g4).1
      go_wp2_with fail
      refine (HWR2.out _).mono ?_
      rintro e w5 ⟨rfl, B5⟩
      have B45 : Below w4.heap.size w4 w5 := ((Below.refl w4.heap.size w4).alloc (Nat.le_refl _) (.cells #[.string n, .string T] 121)).trans (B5.mono (by simp))
      have g5 := tblk_below g4 B45
      have f5 : w5.heap[w4.heap.size]? = some (.cells #[.string n, .string T] 121) := (B5.block _ (by simp)).trans (tblk_new _ _)
      have C5 := C4.trans (B45.mono C4.size)
      clear B5 B45 g4 C4 HWR2
      have a0 : w5.cell? ⟨w.heap.size, 0, none⟩ = some (.string ⟨#[]⟩) := tblk_cell g5 rfl
      have a1 : w5.cell? ⟨w.heap.size, 1, none⟩ = some (.string ⟨#[]⟩) := tblk_cell g5 rfl
      have b0 : w5.cell? ⟨w4.heap.size, 0, none⟩ = some (.string n) := tblk_cell f5 rfl
      have b1 : w5.cell? ⟨w4.heap.size, 1, none⟩ = some (.string T) := tblk_cell f5 rfl
      have z0 : w5.frozen? ⟨w.heap.size, 0, none⟩ = false := tblk_z g5
      have z1 : w5.frozen? ⟨w.heap.size, 1, none⟩ = false := tblk_z g5
      have HW := two_cells g5 ⟨#[]⟩ ⟨#[]⟩
      have r0 := HW.2.1
      have r1 := HW.2.2.1
      have C6 : Hid (Below w.heap.size w ((w5.setCell ⟨w.heap.size, 0, none⟩ (.string ⟨#[]⟩)).setCell ⟨w.heap.size, 1, none⟩ (.string ⟨#[]⟩))) := (C5.setCell (p := ⟨w.heap.size, 0, none⟩) (Nat.le_refl _) _).setCell (p := ⟨w.heap.size, 1, none⟩) (Nat.le_refl _) _
      clear g5 f5 HW C5
      go_wp2
      refine bodyPost_ret (v := .tuple #[.agg #[.string ⟨#[]⟩, .string ⟨#[]⟩], .int .i64 20]) (by simp [results, Tryz.results103, go_sem, r0, r1]) rfl ⟨rfl, C6.out⟩
    · rw [Bool.true_and, if_pos rfl]
      go_enter Tryz.func103, Tryz.ntmps103
      go_wp2_with fail
      refine (HC.out _ hm2).mono ?_
      rintro e w1 ⟨rfl, k, rfl⟩
      have hg : ((w.alloc (.cells #[.string ⟨#[]⟩, .string ⟨#[]⟩] 121)).drewN k).heap[w.heap.size]? = some (.cells #[.string ⟨#[]⟩, .string ⟨#[]⟩] 121) := by rw [drewN_heap]; exact tblk_new _ _
      have C1 : Below w.heap.size w ((w.alloc (.cells #[.string ⟨#[]⟩, .string ⟨#[]⟩] 121)).drewN k) := ((Below.refl _ _).alloc (Nat.le_refl _) _).trans (below_drewN _ _ _)
      generalize (w.alloc (.cells #[.string ⟨#[]⟩, .string ⟨#[]⟩] 121)).drewN k = w2 at *
      clear hm2 HC
      go_wp2_with fail
      refine (clone_any n _ (by have := hn.out; omega)).mono ?_
      rintro e w3 ⟨rfl, B3⟩
      have g3 := tblk_below hg B3
      have C3 := C1.trans (B3.mono C1.size)
      clear hg C1 B3
      go_wp2_with fail
      refine (HTR.out _).mono ?_
      rintro e w4 ⟨rfl, B4⟩
      have g4 := tblk_below g3 B4
      have C4 := C3.trans (B4.mono C3.size)
      clear g3 C3 B4
      have hl4 : w.heap.size < w4.heap.size := (Array.getElem?_eq_some_iff.1 g4).1
      go_wp2_with fail
      refine (HWR2.out _).mono ?_
      rintro e w5 ⟨rfl, B5⟩
      have B45 : Below w4.heap.size w4 w5 := ((Below.refl w4.heap.size w4).alloc (Nat.le_refl _) (.cells #[.string n, .string T] 121)).trans (B5.mono (by simp))
      have g5 := tblk_below g4 B45
      have f5 : w5.heap[w4.heap.size]? = some (.cells #[.string n, .string T] 121) := (B5.block _ (by simp)).trans (tblk_new _ _)
      have C5 := C4.trans (B45.mono C4.size)
      clear B5 B45 g4 C4 HWR2
      have a0 : w5.cell? ⟨w.heap.size, 0, none⟩ = some (.string ⟨#[]⟩) := tblk_cell g5 rfl
      have a1 : w5.cell? ⟨w.heap.size, 1, none⟩ = some (.string ⟨#[]⟩) := tblk_cell g5 rfl
      have b0 : w5.cell? ⟨w4.heap.size, 0, none⟩ = some (.string n) := tblk_cell f5 rfl
      have b1 : w5.cell? ⟨w4.heap.size, 1, none⟩ = some (.string T) := tblk_cell f5 rfl
      have z0 : w5.frozen? ⟨w.heap.size, 0, none⟩ = false := tblk_z g5
      have z1 : w5.frozen? ⟨w.heap.size, 1, none⟩ = false := tblk_z g5
      have HW := two_cells g5 n T
      have r0 := HW.2.1
      have r1 := HW.2.2.1
      have C6 : Hid (Below w.heap.size w ((w5.setCell ⟨w.heap.size, 0, none⟩ (.string n)).setCell ⟨w.heap.size, 1, none⟩ (.string T))) := (C5.setCell (p := ⟨w.heap.size, 0, none⟩) (Nat.le_refl _) _).setCell (p := ⟨w.heap.size, 1, none⟩) (Nat.le_refl _) _
      clear g5 f5 HW C5
      go_wp2
      refine bodyPost_ret (v := .tuple #[.agg #[.string n, .string T], .int .i64 0]) (by simp [results, Tryz.results103, go_sem, r0, r1]) rfl ⟨rfl, C6.out⟩

end Go.Proofs.YtemmmdhmkegaaaaGreatDoor

/- Bodies in chunks, byte by byte. -/
namespace Go.Proofs.YtemmmdhmkegaaaaGreatDoor
open Go.RowKit
set_option linter.unusedVariables false

theorem cutAt_le (m : Nat) : ∀ (l : List UInt8) (i k : Nat) (e : Int), i ≤ m → cutAt m i l = (some k, e) → k ≤ m
  | [], i, k, e, hi, h => by simp [cutAt] at h
  | c :: l, i, k, e, hi, h => by
    rw [cutAt] at h
    by_cases h1 : c = 10
    · rw [if_pos h1] at h; simp at h
    · rw [if_neg h1] at h
      by_cases h2 : c = 13
      · rw [if_pos h2] at h
        by_cases h3 : l.head? = none
        · rw [if_pos h3] at h; simp at h
        · rw [if_neg h3] at h
          by_cases h4 : l.head? = some 10
          · rw [if_pos h4] at h
            have : i = k ∧ 0 = e := by simpa using h
            omega
          · rw [if_neg h4] at h; simp at h
      · rw [if_neg h2] at h
        by_cases h3 : m ≤ i
        · rw [if_pos h3] at h; simp at h
        · rw [if_neg h3] at h
          exact cutAt_le m l (i + 1) k e (by omega) h

def tx (l : List UInt8) : ByteArray := ⟨l.toArray⟩
theorem tx_size (l : List UInt8) : (tx l).size = l.length := rfl
def szO (s : List UInt8) : Option Nat := if allB valP (Lib.cut s [59]).2.1 then numV 16 15 (tx (Lib.trimRightS (Lib.cut s [59]).1 [32, 9])) else none
def endsP (l : List UInt8) : Bool × Int :=
  match l with
  | [] => (false, 0)
  | c :: r => if c = 13 then (match r with | [] => (false, 0) | d :: _ => if d = 10 then (true, 0) else (false, 20)) else (false, 20)
def oneK (m : Nat) (b : List UInt8) (i : Nat) (o : Option Nat) : Int × Nat × Nat × Nat :=
  match o with
  | none => (30, 0, 0, 0)
  | some k =>
    if m < k then (2, 0, 0, 0) else if k = 0 then (0, i + 2, 0, 0) else if b.length - (i + 2) < k then (0, 0, 0, 0)
    else if (endsP (b.drop (i + 2 + k))).1 then (0, i + 2 + k + 2, i + 2, k) else ((endsP (b.drop (i + 2 + k))).2, 0, 0, 0)
def oneP (m : Nat) (b : List UInt8) : Int × Nat × Nat × Nat :=
  match cutAt 256 0 b with
  | (none, e) => (e, 0, 0, 0)
  | (some i, _) => oneK m b i (szO (b.take i))
theorem oneP_hit {m i : Nat} {b : List UInt8} {e : Int} (h : cutAt 256 0 b = (some i, e)) : oneP m b = oneK m b i (szO (b.take i)) := by unfold oneP; rw [h]
theorem oneP_miss {m : Nat} {b : List UInt8} {e : Int} (h : cutAt 256 0 b = (none, e)) : oneP m b = (e, 0, 0, 0) := by unfold oneP; rw [h]
theorem oneK_some (m : Nat) (b : List UInt8) (i k : Nat) : oneK m b i (some k) = if m < k then (2, 0, 0, 0) else if k = 0 then (0, i + 2, 0, 0) else if b.length - (i + 2) < k then (0, 0, 0, 0) else if (endsP (b.drop (i + 2 + k))).1 then (0, i + 2 + k + 2, i + 2, k) else ((endsP (b.drop (i + 2 + k))).2, 0, 0, 0) := rfl
def fldOk (l : List UInt8) : Bool := decide ((prs (tx l)).2.2 = 0)
def plusN (at_ : Nat) (r : Nat × Int) : Nat × Int := if r.1 = 0 then (0, r.2) else (at_ + r.1, 0)
def trK (l : List UInt8) (rest : Nat → Nat × Int) : Nat × Int :=
  match cutAt 256 0 l with
  | (none, e) => (0, e)
  | (some i, _) => if i = 0 then (2, 0) else if fldOk (l.take i) = false then (0, 20) else rest i
def trailL : Nat → List UInt8 → Nat × Int
  | 0, l => trK l fun _ => (0, 3)
  | r + 1, l => trK l fun i => plusN (i + 2) (trailL r (l.drop (i + 2)))
theorem trK_miss {l : List UInt8} {e : Int} {f : Nat → Nat × Int} (h : cutAt 256 0 l = (none, e)) : trK l f = (0, e) := by unfold trK; rw [h]
theorem trK_end {l : List UInt8} {f : Nat → Nat × Int} (h : cutAt 256 0 l = (some 0, 0)) : trK l f = (2, 0) := by unfold trK; rw [h]; rfl
theorem trK_bad {i : Nat} {l : List UInt8} {f : Nat → Nat × Int} (h : cutAt 256 0 l = (some i, 0)) (hi : ¬ i = 0) (hf : fldOk (l.take i) = false) : trK l f = (0, 20) := by
  unfold trK; rw [h]; simp only; rw [if_neg hi, if_pos hf]
theorem trK_next {i : Nat} {l : List UInt8} {f : Nat → Nat × Int} (h : cutAt 256 0 l = (some i, 0)) (hi : ¬ i = 0) (hf : fldOk (l.take i) = true) : trK l f = f i := by
  unfold trK; rw [h]; simp only; rw [if_neg hi, if_neg (by rw [hf]; decide)]
theorem trailL_miss {r : Nat} {l : List UInt8} {e : Int} (h : cutAt 256 0 l = (none, e)) : trailL r l = (0, e) := by cases r <;> exact trK_miss h
theorem trailL_end {r : Nat} {l : List UInt8} (h : cutAt 256 0 l = (some 0, 0)) : trailL r l = (2, 0) := by cases r <;> exact trK_end h
theorem trailL_bad {r i : Nat} {l : List UInt8} (h : cutAt 256 0 l = (some i, 0)) (hi : ¬ i = 0) (hf : fldOk (l.take i) = false) : trailL r l = (0, 20) := by cases r <;> exact trK_bad h hi hf
theorem trailL_many {i : Nat} {l : List UInt8} (h : cutAt 256 0 l = (some i, 0)) (hi : ¬ i = 0) (hf : fldOk (l.take i) = true) : trailL 0 l = (0, 3) := trK_next h hi hf
theorem trailL_next {r i : Nat} {l : List UInt8} (h : cutAt 256 0 l = (some i, 0)) (hi : ¬ i = 0) (hf : fldOk (l.take i) = true) : trailL (r + 1) l = plusN (i + 2) (trailL r (l.drop (i + 2))) := trK_next h hi hf
def plusD (acc : List UInt8) (at_ : Nat) (r : List UInt8 × Nat × Int) : List UInt8 × Nat × Int := if r.2.1 = 0 then ([], 0, r.2.2) else (acc ++ r.1, at_ + r.2.1, 0)
def decL : Nat → Nat → List UInt8 → List UInt8 × Nat × Int
  | 0, _, _ => ([], 0, 0)
  | f + 1, m, l =>
    if (oneP m l).2.1 = 0 then ([], 0, (oneP m l).1)
    else if (oneP m l).2.2.2 = 0 then plusD [] (oneP m l).2.1 ([], trailL 40 (l.drop (oneP m l).2.1))
    else plusD ((l.drop (oneP m l).2.2.1).take (oneP m l).2.2.2) (oneP m l).2.1 (decL f (m - (oneP m l).2.2.2) (l.drop (oneP m l).2.1))
def decR (m : Nat) (b : List UInt8) : List UInt8 × Nat × Int := decL (b.length + 1) m b

theorem plusD_plusD (a b : List UInt8) (i j : Nat) (r : List UInt8 × Nat × Int) (hj : 0 < j) : plusD a i (plusD b j r) = plusD (a ++ b) (i + j) r := by
  unfold plusD
  by_cases h : r.2.1 = 0
  · rw [if_pos h, if_pos rfl, if_pos h]
  · rw [if_neg h, if_neg (by simp only; omega), if_neg h]
    simp [List.append_assoc, Nat.add_assoc]
theorem plusN_plusN (i j : Nat) (r : Nat × Int) (hj : 0 < j) : plusN i (plusN j r) = plusN (i + j) r := by
  unfold plusN
  by_cases h : r.1 = 0
  · rw [if_pos h, if_pos rfl, if_pos h]
  · rw [if_neg h, if_neg (by simp only; omega), if_neg h]
    simp [Nat.add_assoc]

theorem oneP_cases (m : Nat) (b : List UInt8) : (∃ e, oneP m b = (e, 0, 0, 0)) ∨ (∃ i, oneP m b = (0, i + 2, 0, 0) ∧ i + 2 ≤ b.length ∧ cutAt 256 0 b = (some i, 0) ∧ szO (b.take i) = some 0) ∨
    (∃ i k, oneP m b = (0, i + 2 + k + 2, i + 2, k) ∧ 0 < k ∧ k ≤ m ∧ i + 2 + k + 2 ≤ b.length ∧ cutAt 256 0 b = (some i, 0) ∧ szO (b.take i) = some k ∧ (endsP (b.drop (i + 2 + k))).1 = true) := by
  rcases cut_cases 256 b with ⟨i, h, hl, _⟩ | ⟨e, h⟩
  · rw [oneP_hit h, h]
    cases hz : szO (b.take i) with
    | none => exact .inl ⟨30, rfl⟩
    | some k =>
      rw [oneK_some]
      by_cases h1 : m < k
      · rw [if_pos h1]; exact .inl ⟨2, rfl⟩
      · rw [if_neg h1]
        by_cases h2 : k = 0
        · subst h2
          rw [if_pos rfl]; exact .inr (.inl ⟨i, rfl, hl, rfl, hz⟩)
        · rw [if_neg h2]
          by_cases h3 : b.length - (i + 2) < k
          · rw [if_pos h3]; exact .inl ⟨0, rfl⟩
          · rw [if_neg h3]
            by_cases h4 : (endsP (b.drop (i + 2 + k))).1 = true
            · rw [if_pos h4]
              refine .inr (.inr ⟨i, k, rfl, by omega, by omega, ?_, rfl, hz, h4⟩)
              have : 2 ≤ (b.drop (i + 2 + k)).length := by
                match hd : b.drop (i + 2 + k) with
                | [] => rw [hd] at h4; simp [endsP] at h4
                | [c] => rw [hd] at h4; by_cases hc : c = 13 <;> simp [endsP, hc] at h4
                | c :: d :: r => simp
              rw [List.length_drop] at this
              omega
            · rw [if_neg h4]; exact .inl ⟨_, rfl⟩
  · rw [oneP_miss h]; exact .inl ⟨e, rfl⟩
end Go.Proofs.YtemmmdhmkegaaaaGreatDoor

/- A chunk's size, its end. -/
namespace Go.Proofs.YtemmmdhmkegaaaaGreatDoor
open Go.RowKit
set_option linter.unusedVariables false

theorem cut59_len (l : List UInt8) : (Lib.cut l [59]).1.length ≤ l.length ∧ (Lib.cut l [59]).2.1.length ≤ l.length := by
  unfold Lib.cut
  split
  · simp only [List.length_take, List.length_drop]; omega
  · simp
theorem dropWhile_le (p : UInt8 → Bool) : ∀ l : List UInt8, (l.dropWhile p).length ≤ l.length
  | [] => Nat.le_refl _
  | b :: l => by
    rw [List.dropWhile_cons]
    split
    · have := dropWhile_le p l; rw [List.length_cons]; omega
    · exact Nat.le_refl _
theorem trimR_len (l cs : List UInt8) : (Lib.trimRightS l cs).length ≤ l.length := by
  unfold Lib.trimRightS
  rw [List.length_reverse]
  refine Nat.le_trans (dropWhile_le _ _) ?_
  rw [List.length_reverse]; exact Nat.le_refl _

set_option maxRecDepth 100000 in
set_option maxHeartbeats 2000000 in
theorem sizeof_any (l : List UInt8) (w : World) (hs : l.length ≤ 256) (hM : MaxL w) :
    Calls Tryz.prog 150 #[.string (tx l)] w fun e w' => e = .returned (.tuple #[.int .i64 ((szO l).getD 0 : Nat), .bool (szO l).isSome]) ∧ Below w.heap.size w w' := by
  obtain ⟨m, hm⟩ := hM
  have hcl := cut59_len l
  have htl := trimR_len (Lib.cut l [59]).1 [32, 9]
  have HC : Hid (Calls Tryz.prog 139 #[.string (tx l), .string ⟨#[59]⟩] w fun e w' => e = .returned (.tuple #[.string (tx (Lib.cut l [59]).1), .string (tx (Lib.cut l [59]).2.1), .bool (Lib.cut l [59]).2.2]) ∧ ∃ n, w' = w.drewN n) := Tryz.strings_Cut (tx l) ⟨#[59]⟩ m w (by rw [tx_size]; omega) hm
  unfold szO
  generalize Lib.cut l [59] = c at *
  obtain ⟨c1, c2, c3⟩ := c
  simp only at hcl htl HC ⊢
  have HV : Hid (∀ W, Calls Tryz.prog 178 #[.string (tx c2)] W fun e w' => e = .returned (.bool (allB valP c2)) ∧ Below W.heap.size W w') := fun W => value_any (tx c2) W (by rw [tx_size]; unfold maxLen; omega)
  have HT : Hid (∀ W, Calls Tryz.prog 180 #[.string (tx c1), .string ⟨#[32, 9]⟩] W fun e w' => e = .returned (.string (tx (Lib.trimRightS c1 [32, 9]))) ∧ Below W.heap.size W w') := fun W => Tryz.strings_TrimRight_laid (tx c1) ⟨#[32, 9]⟩ W (by rw [tx_size]; omega) (by decide) (ascii_of_all (by decide))
  have HX : Hid (∀ W, Calls Tryz.prog 179 #[.string (tx (Lib.trimRightS c1 [32, 9]))] W fun e w' => e = .returned (.tuple #[.int .i64 (numI 16 15 (tx (Lib.trimRightS c1 [32, 9]))), .bool (numB 16 15 (tx (Lib.trimRightS c1 [32, 9])))]) ∧ w' = W) := fun W => hex_any _ W (by rw [tx_size]; unfold maxLen; omega)
  unfold numI numB at HX
  generalize numV 16 15 (tx (Lib.trimRightS c1 [32, 9])) = nv at *
  generalize tx (Lib.trimRightS c1 [32, 9]) = t at *
  generalize tx c1 = s1 at *
  generalize tx c2 = s2 at *
  generalize tx l = s at *
  cases hv : allB valP c2
  · rw [hv] at HV
    rw [if_neg (by decide)]
    clear hv hcl htl hm
    go_enter Tryz.func150, Tryz.ntmps150
    go_wp2_with fail
    refine HC.out.mono ?_
    rintro e w1 ⟨rfl, n, rfl⟩
    have B1 := below_drewN w.heap.size w n
    go_wp2_with fail
    refine (HV.out _).mono ?_
    rintro e w2 ⟨rfl, B2⟩
    have C2 := B1.trans (B2.mono B1.size)
    go_wp2
    go_ret2
    exact ⟨rfl, C2⟩
  · rw [hv] at HV
    rw [if_pos rfl]
    clear hv hcl htl hm
    go_enter Tryz.func150, Tryz.ntmps150
    go_wp2_with fail
    refine HC.out.mono ?_
    rintro e w1 ⟨rfl, n, rfl⟩
    have B1 := below_drewN w.heap.size w n
    go_wp2_with fail
    refine (HV.out _).mono ?_
    rintro e w2 ⟨rfl, B2⟩
    have C2 := B1.trans (B2.mono B1.size)
    go_wp2_with fail
    refine (HT.out _).mono ?_
    rintro e w3 ⟨rfl, B3⟩
    have C3 := C2.trans (B3.mono C2.size)
    go_wp2_with fail
    refine (HX.out _).mono ?_
    rintro e w4 ⟨rfl, rfl⟩
    go_wp2
    go_ret2
    exact ⟨rfl, C3⟩

set_option maxRecDepth 100000 in
set_option maxHeartbeats 2000000 in
theorem ends_any (l : List UInt8) (k : Nat) (v : Value) (w : World) (hs : Src w k v l) :
    Calls Tryz.prog 151 #[v] w fun e w' => e = .returned (.tuple #[.bool (endsP l).1, .int .i64 (endsP l).2]) ∧ ∃ n, w' = w.drewN n := by
  obtain ⟨a, c, rfl, h1, h2, h3⟩ := hs
  match l, h3 with
  | [], _ =>
    show Calls Tryz.prog 151 #[.slice a 0 c] w fun e w' => e = .returned (.tuple #[.bool false, .int .i64 0]) ∧ ∃ n, w' = w.drewN n
    go_enter Tryz.func151, Tryz.ntmps151
    go_wp2_with fail
    refine wp_loop_rounds 1 ?_
    rw [rounds_succ]
    go_wp2
    go_ret2
    exact ⟨rfl, 0, (World.drewN_zero _).symm⟩
  | [x], h3 =>
    obtain ⟨off, rfl, hc⟩ := h3 (by simp)
    have q0 : w.cell? ⟨k, off, none⟩ = some (.int .u8 (x.toNat : Int)) := hc 0 (by simp)
    clear hc h3
    by_cases t : x = 13
    · subst t
      have q1 : w.cell? ⟨k, off, none⟩ = some (.int .u8 13) := q0
      clear q0
      show Calls Tryz.prog 151 #[.slice (some ⟨k, off, none⟩) 1 c] w fun e w' => e = .returned (.tuple #[.bool false, .int .i64 0]) ∧ ∃ n, w' = w.drewN n
      go_enter Tryz.func151, Tryz.ntmps151
      go_wp2_with fail
      refine wp_loop_rounds 2 ?_
      rw [rounds_succ]
      go_wp2
      go_quiet (fail)
      go_wp2
      rw [rounds_succ]
      go_wp2
      go_ret2
      exact ⟨rfl, _, rfl⟩
    · have e : endsP [x] = (false, 20) := by simp [endsP, t]
      rw [e]
      have t5 : ((x.toNat : Int) != 13) = true := by simpa using toNat_ne 13 13 rfl t
      have t6 : ((x.toNat : Int) != ((⟨#[13, 10]⟩ : ByteArray)[0].toNat : Int)) = true := t5
      clear e
      show Calls Tryz.prog 151 #[.slice (some ⟨k, off, none⟩) 1 c] w fun e w' => e = .returned (.tuple #[.bool false, .int .i64 20]) ∧ ∃ n, w' = w.drewN n
      generalize (x.toNat : Int) = X at *
      go_enter Tryz.func151, Tryz.ntmps151
      go_wp2_with fail
      refine wp_loop_rounds 1 ?_
      rw [rounds_succ]
      go_wp2
      go_quiet (fail)
      go_wp2
      go_ret2
      exact ⟨rfl, _, rfl⟩
  | x :: y :: r, h3 =>
    obtain ⟨off, rfl, hc⟩ := h3 (by simp)
    have q0 : w.cell? ⟨k, off, none⟩ = some (.int .u8 (x.toNat : Int)) := hc 0 (by simp)
    have q1 : w.cell? ⟨k, off + 1, none⟩ = some (.int .u8 (y.toNat : Int)) := hc 1 (by simp)
    clear hc h3
    obtain ⟨n, hn⟩ : ∃ n, n = (x :: y :: r).length := ⟨_, rfl⟩
    have hn2 : 2 ≤ n := by rw [hn]; simp
    rw [← hn] at h1 ⊢
    clear hn
    unfold maxLen at h2
    have hmin : min (n : Int) 2 = 2 := by omega
    by_cases t : x = 13
    · subst t
      have q2 : w.cell? ⟨k, off, none⟩ = some (.int .u8 13) := q0
      clear q0
      by_cases u : y = 10
      · subst u
        have q3 : w.cell? ⟨k, off + 1, none⟩ = some (.int .u8 10) := q1
        clear q1
        show Calls Tryz.prog 151 #[.slice (some ⟨k, off, none⟩) n c] w fun e w' => e = .returned (.tuple #[.bool true, .int .i64 0]) ∧ ∃ n, w' = w.drewN n
        go_enter Tryz.func151, Tryz.ntmps151
        go_wp2_with fail
        refine wp_loop_rounds 3 ?_
        rw [rounds_succ]
        go_wp2
        go_quiet (fail)
        go_wp2
        rw [rounds_succ]
        go_wp2
        go_quiet (fail)
        go_wp2
        rw [rounds_succ]
        go_wp2
        go_ret2
        exact ⟨by simp; omega, _, rfl⟩
      · have e : endsP (13 :: y :: r) = (false, 20) := by simp [endsP, u]
        rw [e]
        have t5 : ((y.toNat : Int) != 10) = true := by simpa using toNat_ne 10 10 rfl u
        have t6 : ((y.toNat : Int) != ((⟨#[13, 10]⟩ : ByteArray)[1].toNat : Int)) = true := t5
        clear e
        show Calls Tryz.prog 151 #[.slice (some ⟨k, off, none⟩) n c] w fun e w' => e = .returned (.tuple #[.bool false, .int .i64 20]) ∧ ∃ n, w' = w.drewN n
        generalize (y.toNat : Int) = Y at *
        go_enter Tryz.func151, Tryz.ntmps151
        go_wp2_with fail
        refine wp_loop_rounds 2 ?_
        rw [rounds_succ]
        go_wp2
        go_quiet (fail)
        go_wp2
        rw [rounds_succ]
        go_wp2
        go_quiet (fail)
        go_wp2
        go_ret2
        exact ⟨rfl, _, World.drewN_drewN _ _ _⟩
    · have e : endsP (x :: y :: r) = (false, 20) := by simp [endsP, t]
      rw [e]
      have t5 : ((x.toNat : Int) != 13) = true := by simpa using toNat_ne 13 13 rfl t
      have t6 : ((x.toNat : Int) != ((⟨#[13, 10]⟩ : ByteArray)[0].toNat : Int)) = true := t5
      clear e
      show Calls Tryz.prog 151 #[.slice (some ⟨k, off, none⟩) n c] w fun e w' => e = .returned (.tuple #[.bool false, .int .i64 20]) ∧ ∃ n, w' = w.drewN n
      generalize (x.toNat : Int) = X at *
      go_enter Tryz.func151, Tryz.ntmps151
      go_wp2_with fail
      refine wp_loop_rounds 1 ?_
      rw [rounds_succ]
      go_wp2
      go_quiet (fail)
      go_wp2
      go_ret2
      exact ⟨rfl, _, rfl⟩
end Go.Proofs.YtemmmdhmkegaaaaGreatDoor

/- One chunk. -/
namespace Go.Proofs.YtemmmdhmkegaaaaGreatDoor
open Go.RowKit
set_option linter.unusedVariables false

theorem src_none (w : World) (k : Nat) : Src w k (.slice none 0 0) [] := ⟨none, 0, rfl, Nat.le_refl _, Nat.zero_le _, fun h => absurd h (Nat.lt_irrefl _)⟩
def OneQ (w : World) (kb : Nat) (b : List UInt8) (p : Int × Nat × Nat × Nat) (e : Ending) (w' : World) : Prop :=
  Below w.heap.size w w' ∧ ∃ a n c, e = .returned (.tuple #[.slice a n c, .int .i64 (p.2.1 : Nat), .int .i64 p.1]) ∧ (a = none → c = 0) ∧ Src w kb (.slice a n c) ((b.drop p.2.2.1).take p.2.2.2)
theorem oneq_no {w w' : World} {kb : Nat} {b : List UInt8} {er : Int} (hB : Below w.heap.size w w') : OneQ w kb b (er, 0, 0, 0) (.returned (.tuple #[.slice none 0 0, .int .i64 0, .int .i64 er])) w' :=
  ⟨hB, none, 0, 0, rfl, fun _ => rfl, by rw [List.take_zero]; exact src_none w kb⟩
theorem oneq_end {w w' : World} {kb n : Nat} {b : List UInt8} (hB : Below w.heap.size w w') : OneQ w kb b (0, n, 0, 0) (.returned (.tuple #[.slice none 0 0, .int .i64 (n : Nat), .int .i64 0])) w' :=
  ⟨hB, none, 0, 0, rfl, fun _ => rfl, by rw [List.take_zero]; exact src_none w kb⟩

set_option maxRecDepth 100000 in
set_option maxHeartbeats 8000000 in
theorem one_any (b : List UInt8) (kb : Nat) (v : Value) (m : Nat) (w : World) (hs : Src w kb v b) (hk : 0 < b.length → kb < w.heap.size) (hm : m ≤ 9223372036854775807) (hM : MaxL w) :
    Calls Tryz.prog 114 #[v, .int .i64 (m : Int)] w (OneQ w kb b (oneP m b)) := by
  have HS : Hid (Src w kb v b) := hs
  obtain ⟨a, c, rfl, h1, h2, h3⟩ := hs
  obtain ⟨n, hn⟩ : ∃ n, n = b.length := ⟨_, rfl⟩
  rw [← hn] at HS ⊢
  have HN : Hid (n = b.length) := hn
  have HC : Hid (Calls Tryz.prog 138 #[.slice a n c, .int .i64 256] w fun e w' => e = .returned (cutV 256 b) ∧ w' = w) := cut_any b kb _ 256 w HS.out
  rw [← hn] at h1
  unfold maxLen at h2
  have HK : Hid (0 < b.length → kb < w.heap.size) := hk
  have H3 : Hid (0 < b.length → ∃ off, a = some ⟨kb, off, none⟩ ∧ ∀ (j : Nat) (hj : j < b.length), w.cell? ⟨kb, off + j, none⟩ = some (bv b[j])) := h3
  clear hn h3 hk
  rcases cut_cases 256 b with ⟨i, hcut, hil, _⟩ | ⟨er, hcut⟩
  · have hle : i ≤ 256 := cutAt_le 256 b 0 i 0 (by decide) hcut
    rw [cutV_hit hcut] at HC
    have HZ : Hid (Calls Tryz.prog 150 #[.string ⟨(b.take i).toArray⟩] w fun e w' => e = .returned (.tuple #[.int .i64 ((szO (b.take i)).getD 0 : Nat), .bool (szO (b.take i)).isSome]) ∧ Below w.heap.size w w') := sizeof_any (b.take i) w (by rw [List.length_take]; omega) hM
    have hin : i + 2 ≤ n := by have := HN.out; omega
    have E0 := oneP_hit (m := m) hcut
    generalize (⟨(b.take i).toArray⟩ : ByteArray) = T at *
    have hne : ((i : Int) + 2 == 0) = false := by simp; omega
    cases hz : szO (b.take i) with
    | none =>
      rw [hz] at E0 HZ
      rw [E0]
      show Calls Tryz.prog 114 #[.slice a n c, .int .i64 (m : Int)] w (OneQ w kb b (30, 0, 0, 0))
      clear hz E0 hcut hil
      go_enter Tryz.func114, Tryz.ntmps114
      go_wp2_with fail
      refine HC.out.mono ?_
      rintro e w1 ⟨rfl, rfl⟩
      go_wp2_with fail
      refine HZ.out.mono ?_
      rintro e w2 ⟨rfl, B2⟩
      go_wp2
      refine bodyPost_ret (v := .tuple #[.slice none 0 0, .int .i64 0, .int .i64 30]) (by simp [results, Tryz.results114, go_sem]) rfl (oneq_no B2)
    | some k =>
      rw [hz] at E0 HZ
      rw [oneK_some, ← HN.out] at E0
      have HZ2 : Hid (Calls Tryz.prog 150 #[.string T] w fun e w' => e = .returned (.tuple #[.int .i64 (k : Int), .bool true]) ∧ Below w.heap.size w w') := HZ
      clear HZ hz hcut hil
      by_cases g1 : m < k
      · rw [if_pos g1] at E0
        rw [E0]
        have i1 : (m : Int) < (k : Int) := by omega
        clear E0 g1
        go_enter Tryz.func114, Tryz.ntmps114
        go_wp2_with fail
        refine HC.out.mono ?_
        rintro e w1 ⟨rfl, rfl⟩
        go_wp2_with fail
        refine HZ2.out.mono ?_
        rintro e w2 ⟨rfl, B2⟩
        go_wp2
        refine bodyPost_ret (v := .tuple #[.slice none 0 0, .int .i64 0, .int .i64 2]) (by simp [results, Tryz.results114, go_sem]) rfl (oneq_no B2)
      · rw [if_neg g1] at E0
        have i1 : ¬ (m : Int) < (k : Int) := by omega
        by_cases g2 : k = 0
        · rw [if_pos g2] at E0
          rw [E0]
          subst g2
          clear E0 g1
          go_enter Tryz.func114, Tryz.ntmps114
          go_wp2_with fail
          refine HC.out.mono ?_
          rintro e w1 ⟨rfl, rfl⟩
          go_wp2_with fail
          refine HZ2.out.mono ?_
          rintro e w2 ⟨rfl, B2⟩
          go_wp2
          refine bodyPost_ret (v := .tuple #[.slice none 0 0, .int .i64 ((i : Int) + 2), .int .i64 0]) (by simp [results, Tryz.results114, go_sem]) rfl (oneq_end (n := i + 2) B2)
        · rw [if_neg g2] at E0
          have i2 : ((k : Int) == 0) = false := by simp; omega
          have i2' : ¬ ((k : Int) = 0) := by omega
          by_cases g3 : n - (i + 2) < k
          · rw [if_pos g3] at E0
            rw [E0]
            have i3 : (n : Int) - ((i : Int) + 2) < (k : Int) := by omega
            clear E0 g1 g2 g3
            go_enter Tryz.func114, Tryz.ntmps114
            go_wp2_with fail
            refine HC.out.mono ?_
            rintro e w1 ⟨rfl, rfl⟩
            go_wp2_with fail
            refine HZ2.out.mono ?_
            rintro e w2 ⟨rfl, B2⟩
            go_wp2
            refine bodyPost_ret (v := .tuple #[.slice none 0 0, .int .i64 0, .int .i64 0]) (by simp [results, Tryz.results114, go_sem]) rfl (oneq_no B2)
          · rw [if_neg g3] at E0
            have i3 : ¬ (n : Int) - ((i : Int) + 2) < (k : Int) := by omega
            have hnk : i + 2 + k ≤ n := by omega
            obtain ⟨off, rfl, _⟩ := H3.out (by have := HN.out; omega)
            have hcc : i + 2 < c := by omega
            have HEN : Hid (∀ W (v' : Value), Src W kb v' (b.drop (i + 2 + k)) → Calls Tryz.prog 151 #[v'] W fun e w' => e = .returned (.tuple #[.bool (endsP (b.drop (i + 2 + k))).1, .int .i64 (endsP (b.drop (i + 2 + k))).2]) ∧ ∃ n, w' = W.drewN n) := fun W v' h => ends_any _ kb v' W h
            have HD : Hid (Src w kb (.slice (some ⟨kb, off + (i + 2), none⟩) k (c - (i + 2))) ((b.drop (i + 2)).take k)) := by
              have x1 := HS.out.cut (m := i + 2) (a' := some ⟨kb, off + (i + 2), none⟩) (by have := HN.out; omega) (fun _ => by simp [addr_add])
              exact x1.take (by rw [List.length_drop]; have := HN.out; omega)
            have hx : (endsP (b.drop (i + 2 + k))).1 = true → (endsP (b.drop (i + 2 + k))).2 = 0 := by
              generalize b.drop (i + 2 + k) = d
              match d with
              | [] => simp [endsP]
              | [x] => by_cases hx : x = 13 <;> simp [endsP, hx]
              | x :: y :: r => by_cases hx : x = 13 <;> by_cases hy : y = 10 <;> simp [endsP, hx, hy]
            have hx2 : (endsP (b.drop (i + 2 + k))).1 = true → i + 2 + k + 2 ≤ n := by
              intro ht
              have : 2 ≤ (b.drop (i + 2 + k)).length := by
                match hd : b.drop (i + 2 + k) with
                | [] => rw [hd] at ht; simp [endsP] at ht
                | [x] => rw [hd] at ht; by_cases hx : x = 13 <;> simp [endsP, hx] at ht
                | x :: y :: r => simp
              rw [List.length_drop] at this
              have := HN.out
              omega
            generalize endsP (b.drop (i + 2 + k)) = p at *
            obtain ⟨p1, p2⟩ := p
            simp only at E0 HEN hx hx2
            clear g1 g2 g3 H3
            cases p1
            · rw [if_neg (by decide)] at E0
              rw [E0]
              clear E0 hx hx2
              go_enter Tryz.func114, Tryz.ntmps114
              go_wp2_with fail
              refine HC.out.mono ?_
              rintro e w1 ⟨rfl, rfl⟩
              go_wp2_with fail
              refine HZ2.out.mono ?_
              rintro e w2 ⟨rfl, B2⟩
              have HS2 : Hid (∀ nq (a' : Option Addr), (i + 2 + k < c → a' = (some (⟨kb, off, none⟩ : Addr)).map (fun x => x.add (i + 2 + k))) → Src (w2.drewN nq) kb (.slice a' (n - (i + 2 + k)) (c - (i + 2 + k))) (b.drop (i + 2 + k))) := fun nq a' ha' => ((HS.out.keep HK.out B2).cut (by have := HN.out; omega) ha').frame (by rw [drewN_heap])
              by_cases q0 : p2 = 0
              · subst q0
                go_wp2
                go_quiet (fail)
                go_wp2_with fail
                all_goals
                  refine (HEN.out _ _ (by first | exact HS2.out _ _ (fun _ => by simp [addr_add]) | exact HS2.out _ _ (fun h => by omega) | (have hx := HS2.out nq (some ⟨kb, off, none⟩) (fun h => by omega); rw [show c - (i + 2 + k) = 0 by omega] at hx; exact hx))).mono ?_
                  rintro e w3 ⟨rfl, nq2, rfl⟩
                  have C3 := (B2.trans (below_drewN w1.heap.size w2 nq)).trans (below_drewN w1.heap.size _ nq2)
                  go_wp2
                  refine bodyPost_ret (v := .tuple #[.slice none 0 0, .int .i64 0, .int .i64 0]) (by simp [results, Tryz.results114, go_sem]) rfl (oneq_no (by simpa using C3))
              · have q1 : (p2 != 0) = true := by simpa using q0
                go_wp2
                go_quiet (fail)
                go_wp2_with fail
                all_goals
                  refine (HEN.out _ _ (by first | exact HS2.out _ _ (fun _ => by simp [addr_add]) | exact HS2.out _ _ (fun h => by omega) | (have hx := HS2.out nq (some ⟨kb, off, none⟩) (fun h => by omega); rw [show c - (i + 2 + k) = 0 by omega] at hx; exact hx))).mono ?_
                  rintro e w3 ⟨rfl, nq2, rfl⟩
                  have C3 := (B2.trans (below_drewN w1.heap.size w2 nq)).trans (below_drewN w1.heap.size _ nq2)
                  go_wp2
                  refine bodyPost_ret (v := .tuple #[.slice none 0 0, .int .i64 0, .int .i64 p2]) (by simp [results, Tryz.results114, go_sem]) rfl (oneq_no (by simpa using C3))
            · rw [if_pos rfl] at E0
              rw [E0]
              obtain rfl : p2 = 0 := hx rfl
              have hn4 := hx2 rfl
              clear E0 hx hx2
              go_enter Tryz.func114, Tryz.ntmps114
              go_wp2_with fail
              refine HC.out.mono ?_
              rintro e w1 ⟨rfl, rfl⟩
              go_wp2_with fail
              refine HZ2.out.mono ?_
              rintro e w2 ⟨rfl, B2⟩
              have HS2 : Hid (∀ nq (a' : Option Addr), (i + 2 + k < c → a' = (some (⟨kb, off, none⟩ : Addr)).map (fun x => x.add (i + 2 + k))) → Src (w2.drewN nq) kb (.slice a' (n - (i + 2 + k)) (c - (i + 2 + k))) (b.drop (i + 2 + k))) := fun nq a' ha' => ((HS.out.keep HK.out B2).cut (by have := HN.out; omega) ha').frame (by rw [drewN_heap])
              go_wp2
              go_quiet (fail)
              go_wp2_with fail
              all_goals
                refine (HEN.out _ _ (by first | exact HS2.out _ _ (fun _ => by simp [addr_add]) | exact HS2.out _ _ (fun h => by omega) | (have hx := HS2.out nq (some ⟨kb, off, none⟩) (fun h => by omega); rw [show c - (i + 2 + k) = 0 by omega] at hx; exact hx))).mono ?_
                rintro e w3 ⟨rfl, nq2, rfl⟩
                have C3 := (B2.trans (below_drewN w1.heap.size w2 nq)).trans (below_drewN w1.heap.size _ nq2)
                go_wp2
                refine bodyPost_ret (v := .tuple #[.slice (some ⟨kb, off + (i + 2), none⟩) k (c - (i + 2)), .int .i64 ((i + 2 + k + 2 : Nat) : Int), .int .i64 0]) (by simp [results, Tryz.results114, go_sem]; try omega) rfl ⟨by simpa using C3, _, _, _, rfl, (fun h => by cases h), HD.out⟩
  · rw [cutV_miss hcut] at HC
    have E0 : oneP m b = (er, 0, 0, 0) := oneP_miss hcut
    rw [E0]
    clear E0 hcut
    by_cases h0 : er = 0
    · subst h0
      go_enter Tryz.func114, Tryz.ntmps114
      go_wp2_with fail
      refine HC.out.mono ?_
      rintro e w1 ⟨rfl, rfl⟩
      go_wp2
      refine bodyPost_ret (v := .tuple #[.slice none 0 0, .int .i64 0, .int .i64 0]) (by simp [results, Tryz.results114, go_sem]) rfl (oneq_no (Below.refl _ _))
    · have h0' : (er != 0) = true := by simpa using h0
      go_enter Tryz.func114, Tryz.ntmps114
      go_wp2_with fail
      refine HC.out.mono ?_
      rintro e w1 ⟨rfl, rfl⟩
      go_wp2
      refine bodyPost_ret (v := .tuple #[.slice none 0 0, .int .i64 0, .int .i64 er]) (by simp [results, Tryz.results114, go_sem]) rfl (oneq_no (Below.refl _ _))
end Go.Proofs.YtemmmdhmkegaaaaGreatDoor

/- Trailer lines. -/
namespace Go.Proofs.YtemmmdhmkegaaaaGreatDoor
open Go.RowKit
set_option linter.unusedVariables false

theorem trailL_ok : ∀ (r : Nat) (l : List UInt8), (trailL r l).1 ≠ 0 → (trailL r l).2 = 0 := by
  intro r
  induction r with
  | zero =>
    intro l h
    rcases cut_cases 256 l with ⟨i, hc, _, _⟩ | ⟨e, hc⟩
    · by_cases hi : i = 0
      · subst hi; rw [trailL_end hc]
      · cases hf : fldOk (l.take i)
        · rw [trailL_bad hc hi hf] at h; exact absurd rfl h
        · rw [trailL_many hc hi hf] at h; exact absurd rfl h
    · rw [trailL_miss hc] at h; exact absurd rfl h
  | succ r ih =>
    intro l h
    rcases cut_cases 256 l with ⟨i, hc, _, _⟩ | ⟨e, hc⟩
    · by_cases hi : i = 0
      · subst hi; rw [trailL_end hc]
      · cases hf : fldOk (l.take i)
        · rw [trailL_bad hc hi hf] at h; exact absurd rfl h
        · rw [trailL_next hc hi hf] at h ⊢
          unfold plusN at h ⊢
          by_cases h0 : (trailL r (l.drop (i + 2))).1 = 0
          · rw [if_pos h0] at h; exact absurd rfl h
          · rw [if_neg h0]
    · rw [trailL_miss hc] at h; exact absurd rfl h
theorem plusN_zero (r : Nat × Int) (h : r.1 ≠ 0 → r.2 = 0) : plusN 0 r = r := by
  unfold plusN
  obtain ⟨a, b⟩ := r
  by_cases h0 : a = 0
  · rw [if_pos h0]; rw [show a = 0 from h0]
  · rw [if_neg h0]; have h2 : b = 0 := h h0; rw [h2]; show (0 + a, (0 : Int)) = (a, 0); rw [Nat.zero_add]
theorem plusN_err (i : Nat) (e : Int) : plusN i (0, e) = (0, e) := rfl
theorem plusN_two (i : Nat) : plusN i (2, 0) = (i + 2, 0) := rfl
theorem prs_code (s : ByteArray) : (prs s).2.2 = 0 ∨ (prs s).2.2 = 20 := by
  unfold prs
  split
  · exact .inl rfl
  · exact .inr rfl

set_option maxRecDepth 100000 in
set_option maxHeartbeats 8000000 in
theorem trailer_any (b : List UInt8) (kb : Nat) (v : Value) (w : World) (hs : Src w kb v b) (hk : 0 < b.length → kb < w.heap.size) (hM : MaxL w) :
    Calls Tryz.prog 115 #[v] w fun e w' => e = .returned (.tuple #[.int .i64 ((trailL 40 b).1 : Nat), .int .i64 (trailL 40 b).2]) ∧ Below w.heap.size w w' := by
  have HS : Hid (Src w kb v b) := hs
  obtain ⟨a, c, rfl, h1, h2, h3⟩ := hs
  obtain ⟨n, hn⟩ : ∃ n, n = b.length := ⟨_, rfl⟩
  rw [← hn] at HS ⊢
  have HN : Hid (n = b.length) := hn
  have HK : Hid (0 < b.length → kb < w.heap.size) := hk
  rw [← hn] at h1
  unfold maxLen at h2
  have HM : Hid (MaxL w) := hM
  have HP0 : Hid (trailL 40 b = plusN 0 (trailL 40 (b.drop 0))) := (plusN_zero _ (trailL_ok 40 b)).symm
  generalize trailL 40 b = R at *
  clear hn h3 hk hM
  go_enter Tryz.func115, Tryz.ntmps115
  go_wp2_with fail
  go_loopw [4, 5] (fun va vc wr => ∃ at_ r q : Nat, at_ ≤ n ∧ q + r = 40 ∧ va = .int .i64 at_ ∧ vc = .int .i64 q ∧ Hid (R = plusN at_ (trailL r (b.drop at_))) ∧ Below w.heap.size w wr) (fun _ vc _ => 40 - (intOf vc).toNat)
  case atStart => exact ⟨0, 40, 0, Nat.zero_le _, rfl, rfl, rfl, HP0, Below.refl _ _⟩
  case round =>
    obtain ⟨at_, r, q, hat, hr, rfl, rfl, hR, hB⟩ := hrel
    clear HP0
    have HSA : Hid (∀ a' : Option Addr, (at_ < c → a' = a.map (fun x => x.add at_)) → Src wr kb (.slice a' (n - at_) (c - at_)) (b.drop at_)) := fun a' ha' => (HS.out.keep HK.out hB).cut (by have := HN.out; omega) ha'
    have HCU : Hid (∀ v', Src wr kb v' (b.drop at_) → Calls Tryz.prog 138 #[v', .int .i64 256] wr fun e w' => e = .returned (cutV 256 (b.drop at_)) ∧ w' = wr) := fun v' h => cut_any _ kb _ 256 wr h
    rcases cut_cases 256 (b.drop at_) with ⟨i, hcut, hil, _⟩ | ⟨er, hcut⟩
    · have hle : i ≤ 256 := cutAt_le 256 _ 0 i 0 (by decide) hcut
      rw [cutV_hit hcut] at HCU
      have hin : at_ + i + 2 ≤ n := by rw [List.length_drop] at hil; have := HN.out; omega
      by_cases hi : i = 0
      · subst hi
        have HE : Hid (R = (at_ + 2, 0)) := by rw [Hid, hR.out, trailL_end hcut, plusN_two]
        rw [List.take_zero] at HCU
        clear hcut hR hil
        go_wp2_with fail
        all_goals
          refine (HCU.out _ (by first | exact HSA.out _ (fun _ => rfl) | exact HSA.out _ (fun h => if_neg (by omega)) | exact HSA.out _ (fun h => by omega) | (have hx := HSA.out a (fun h => by omega); rw [show c - at_ = 0 by omega] at hx; exact hx))).mono ?_
          rintro e w1 ⟨rfl, rfl⟩
          go_wp2
          go_ret2
          exact ⟨by rw [HE.out]; go_num, hB⟩
      · have hT : Hid (∀ W, MaxL W → Calls Tryz.prog 103 #[.string ⟨((b.drop at_).take i).toArray⟩] W fun e w' => e = .returned (.tuple #[.agg #[.string (prs (tx ((b.drop at_).take i))).1, .string (prs (tx ((b.drop at_).take i))).2.1], .int .i64 (prs (tx ((b.drop at_).take i))).2.2]) ∧ Below W.heap.size W w') := fun W h => parse_any (tx ((b.drop at_).take i)) W (by rw [tx_size, List.length_take]; omega) h
        have hne : (⟨((b.drop at_).take i).toArray⟩ : ByteArray).toList.isEmpty = false := isEmpty_of (by show ¬ ((b.drop at_).take i).length = 0; rw [List.length_take]; omega)
        have hfd : fldOk ((b.drop at_).take i) = decide ((prs (tx ((b.drop at_).take i))).2.2 = 0) := rfl
        have hcode := prs_code (tx ((b.drop at_).take i))
        generalize prs (tx ((b.drop at_).take i)) = pq at *
        generalize (⟨((b.drop at_).take i).toArray⟩ : ByteArray) = T at *
        obtain ⟨q1, q2, q3⟩ := pq
        simp only at hT hfd hcode
        have hnz : ((i : Int) + 2 == 0) = false := by simp; omega
        have hM1 : Hid (MaxL wr) := HM.out.below hB
        rcases hcode with rfl | rfl
        · have hok : fldOk ((b.drop at_).take i) = true := by rw [hfd]; rfl
          clear hfd hil
          cases r with
          | zero =>
            have HE : Hid (R = (0, 3)) := by rw [Hid, hR.out, trailL_many hcut hi hok, plusN_err]
            obtain rfl : q = 40 := by omega
            clear hcut hR hok
            go_wp2_with fail
            all_goals
              refine (HCU.out _ (by first | exact HSA.out _ (fun _ => rfl) | exact HSA.out _ (fun h => if_neg (by omega)) | exact HSA.out _ (fun h => by omega) | (have hx := HSA.out a (fun h => by omega); rw [show c - at_ = 0 by omega] at hx; exact hx))).mono ?_
              rintro e w1 ⟨rfl, rfl⟩
              go_wp2_with fail
              refine (hT.out _ hM1.out).mono ?_
              rintro e w2 ⟨rfl, B2⟩
              have C2 := hB.trans (B2.mono hB.size)
              have C3 := C2.alloc C2.size (.cells #[.string q1, .string q2] 121)
              go_wp2
              go_ret2
              exact ⟨by rw [HE.out]; rfl, C3⟩
          | succ r =>
            have HE : Hid (R = plusN (at_ + i + 2) (trailL r (b.drop (at_ + i + 2)))) := by
              rw [Hid, hR.out, trailL_next hcut hi hok, plusN_plusN _ _ _ (by omega), List.drop_drop, ← Nat.add_assoc]
            have hq : ((q : Int) == 40) = false := by simp; omega
            have hq' : ¬ ((q : Int) = 40) := by omega
            clear hcut hR hok
            go_wp2_with fail
            all_goals
              refine (HCU.out _ (by first | exact HSA.out _ (fun _ => rfl) | exact HSA.out _ (fun h => if_neg (by omega)) | exact HSA.out _ (fun h => by omega) | (have hx := HSA.out a (fun h => by omega); rw [show c - at_ = 0 by omega] at hx; exact hx))).mono ?_
              rintro e w1 ⟨rfl, rfl⟩
              go_wp2_with fail
              refine (hT.out _ hM1.out).mono ?_
              rintro e w2 ⟨rfl, B2⟩
              have C2 := hB.trans (B2.mono hB.size)
              have C3 := C2.alloc C2.size (.cells #[.string q1, .string q2] 121)
              go_wp2
              go_roundw
              case rel => exact ⟨at_ + i + 2, r, q + 1, by omega, by omega, by go_num, by go_num, HE, C3⟩
              case measure => simp [intOf]; omega
        · have HE : Hid (R = (0, 20)) := by rw [Hid, hR.out, trailL_bad hcut hi (by rw [hfd]; rfl), plusN_err]
          clear hcut hR hil hfd
          go_wp2_with fail
          all_goals
            refine (HCU.out _ (by first | exact HSA.out _ (fun _ => rfl) | exact HSA.out _ (fun h => if_neg (by omega)) | exact HSA.out _ (fun h => by omega) | (have hx := HSA.out a (fun h => by omega); rw [show c - at_ = 0 by omega] at hx; exact hx))).mono ?_
            rintro e w1 ⟨rfl, rfl⟩
            go_wp2_with fail
            refine (hT.out _ hM1.out).mono ?_
            rintro e w2 ⟨rfl, B2⟩
            have C2 := hB.trans (B2.mono hB.size)
            have C3 := C2.alloc C2.size (.cells #[.string q1, .string q2] 121)
            go_wp2
            go_ret2
            exact ⟨by rw [HE.out]; rfl, C3⟩
    · rw [cutV_miss hcut] at HCU
      have HE : Hid (R = (0, er)) := by rw [Hid, hR.out, trailL_miss hcut, plusN_err]
      clear hcut hR
      by_cases h0 : er = 0
      · subst h0
        go_wp2_with fail
        all_goals
          refine (HCU.out _ (by first | exact HSA.out _ (fun _ => rfl) | exact HSA.out _ (fun h => if_neg (by omega)) | exact HSA.out _ (fun h => by omega) | (have hx := HSA.out a (fun h => by omega); rw [show c - at_ = 0 by omega] at hx; exact hx))).mono ?_
          rintro e w1 ⟨rfl, rfl⟩
          go_wp2
          go_ret2
          exact ⟨by rw [HE.out]; rfl, hB⟩
      · have h0' : (er != 0) = true := by simpa using h0
        go_wp2_with fail
        all_goals
          refine (HCU.out _ (by first | exact HSA.out _ (fun _ => rfl) | exact HSA.out _ (fun h => if_neg (by omega)) | exact HSA.out _ (fun h => by omega) | (have hx := HSA.out a (fun h => by omega); rw [show c - at_ = 0 by omega] at hx; exact hx))).mono ?_
          rintro e w1 ⟨rfl, rfl⟩
          go_wp2
          go_ret2
          exact ⟨by rw [HE.out]; rfl, hB⟩
end Go.Proofs.YtemmmdhmkegaaaaGreatDoor

/- Decode. -/
namespace Go.Proofs.YtemmmdhmkegaaaaGreatDoor
open Go.RowKit
set_option linter.unusedVariables false

theorem decL_miss {f m : Nat} {l : List UInt8} {e : Int} (h : oneP m l = (e, 0, 0, 0)) : decL (f + 1) m l = ([], 0, e) := by
  rw [decL, h, if_pos rfl]
theorem decL_last {f m n : Nat} {l : List UInt8} (h : oneP m l = (0, n, 0, 0)) (hn : ¬ n = 0) : decL (f + 1) m l = plusD [] n ([], trailL 40 (l.drop n)) := by
  rw [decL, h, if_neg hn, if_pos rfl]
theorem decL_next {f m n o k : Nat} {l : List UInt8} (h : oneP m l = (0, n, o, k)) (hn : ¬ n = 0) (hk : ¬ k = 0) : decL (f + 1) m l = plusD ((l.drop o).take k) n (decL f (m - k) (l.drop n)) := by
  rw [decL, h, if_neg hn, if_neg hk]
theorem trailL_le : ∀ (r : Nat) (l : List UInt8), (trailL r l).1 ≤ l.length := by
  intro r
  induction r with
  | zero =>
    intro l
    rcases cut_cases 256 l with ⟨i, hc, hl, _⟩ | ⟨e, hc⟩
    · by_cases hi : i = 0
      · subst hi; rw [trailL_end hc]; exact hl
      · cases hf : fldOk (l.take i)
        · rw [trailL_bad hc hi hf]; exact Nat.zero_le _
        · rw [trailL_many hc hi hf]; exact Nat.zero_le _
    · rw [trailL_miss hc]; exact Nat.zero_le _
  | succ r ih =>
    intro l
    rcases cut_cases 256 l with ⟨i, hc, hl, _⟩ | ⟨e, hc⟩
    · by_cases hi : i = 0
      · subst hi; rw [trailL_end hc]; exact hl
      · cases hf : fldOk (l.take i)
        · rw [trailL_bad hc hi hf]; exact Nat.zero_le _
        · rw [trailL_next hc hi hf]
          have h := ih (l.drop (i + 2))
          rw [List.length_drop] at h
          unfold plusN
          split
          · exact Nat.zero_le _
          · show i + 2 + _ ≤ _; omega
    · rw [trailL_miss hc]; exact Nat.zero_le _
def okR (r : List UInt8 × Nat × Int) : Prop := (r.2.1 = 0 → r.1 = []) ∧ (r.2.1 ≠ 0 → r.2.2 = 0)
theorem okR_plusD (a : List UInt8) (i : Nat) (r : List UInt8 × Nat × Int) : okR (plusD a i r) := by
  unfold plusD okR
  by_cases h : r.2.1 = 0
  · rw [if_pos h]; exact ⟨fun _ => rfl, fun c => absurd rfl c⟩
  · rw [if_neg h]; exact ⟨fun c => by simp only at c; omega, fun _ => rfl⟩
theorem decL_ok (f m : Nat) (l : List UInt8) : okR (decL f m l) := by
  cases f with
  | zero => exact ⟨fun _ => rfl, fun c => absurd rfl c⟩
  | succ f =>
    rcases oneP_cases m l with ⟨e, h⟩ | ⟨i, h, _⟩ | ⟨i, k, h, hk, _⟩
    · rw [decL_miss h]; exact ⟨fun _ => rfl, fun c => absurd rfl c⟩
    · rw [decL_last h (by omega)]; exact okR_plusD _ _ _
    · rw [decL_next h (by omega) (by omega)]; exact okR_plusD _ _ _
theorem plusD_zero (r : List UInt8 × Nat × Int) (h : okR r) : plusD [] 0 r = r := by
  obtain ⟨a, n, e⟩ := r
  unfold plusD
  by_cases h0 : n = 0
  · rw [if_pos h0]
    have := h.1 h0
    simp only at this
    rw [this, h0]
  · rw [if_neg h0]
    have := h.2 h0
    simp only at this
    rw [this, List.nil_append, Nat.zero_add]
theorem plusD_err (a : List UInt8) (i : Nat) (e : Int) : plusD a i ([], 0, e) = ([], 0, e) := rfl

def DecQ (w : World) (R : List UInt8 × Nat × Int) (e : Ending) (w' : World) : Prop :=
  ∃ v', e = .returned (.tuple #[v', .int .i64 (R.2.1 : Nat), .int .i64 R.2.2]) ∧ Own w.heap.size w' v' R.1 ∧ Below w.heap.size w w'
theorem decq_no {w w' : World} {er : Int} (hB : Below w.heap.size w w') : DecQ w ([], 0, er) (.returned (.tuple #[.slice none 0 0, .int .i64 0, .int .i64 er])) w' :=
  ⟨_, rfl, Own.nil _ _, hB⟩

set_option maxRecDepth 100000 in
set_option maxHeartbeats 8000000 in
theorem decode_any (b : List UInt8) (kb : Nat) (v : Value) (most : Int) (w : World) (hs : Src w kb v b) (hk : 0 < b.length → kb < w.heap.size) (hM : MaxL w) (hlen : b.length ≤ 140737488355328) (hmost : most ≤ 9223372036854775807) :
    Calls Tryz.prog 82 #[v, .int .i64 most] w (DecQ w (decR most.toNat b)) := by
  have HS : Hid (Src w kb v b) := hs
  obtain ⟨a, c, rfl, h1, h2, h3⟩ := hs
  obtain ⟨n, hn⟩ : ∃ n, n = b.length := ⟨_, rfl⟩
  obtain ⟨M, hMM⟩ : ∃ M, M = most.toNat := ⟨_, rfl⟩
  rw [← hn] at HS ⊢
  rw [← hMM]
  have HN : Hid (n = b.length) := hn
  have HMM : Hid (max most 0 = (M : Int)) := by rw [Hid]; omega
  have hM63 : M ≤ 9223372036854775807 := by omega
  have HK : Hid (0 < b.length → kb < w.heap.size) := hk
  have HM : Hid (MaxL w) := hM
  rw [← hn] at h1 hlen
  unfold maxLen at h2
  have HP0 : Hid (decR M b = plusD [] 0 (decL (n + 1) (M - 0) (b.drop 0))) := by
    rw [Hid, HN.out]; exact (plusD_zero _ (decL_ok _ _ _)).symm
  generalize decR M b = R at *
  clear hn hMM h3 hk hM hmost
  have hcan : ∀ (wr : World) (at_ : Nat), at_ ≤ n → Below w.heap.size w wr → ∀ a' : Option Addr, (at_ < c → a' = a.map (fun x => x.add at_)) → Src wr kb (.slice a' (n - at_) (c - at_)) (b.drop at_) := fun wr at_ h1 hB a' ha' => (HS.out.keep HK.out hB).cut (by have := HN.out; omega) ha'
  have HCAN : Hid (∀ (wr : World) (at_ : Nat), at_ ≤ n → Below w.heap.size w wr → ∀ a' : Option Addr, (at_ < c → a' = a.map (fun x => x.add at_)) → Src wr kb (.slice a' (n - at_) (c - at_)) (b.drop at_)) := hcan
  clear hcan
  go_enter Tryz.func82, Tryz.ntmps82
  go_wp2_with fail
  go_loopw [7, 8] (fun v7 va wr => ∃ (at_ f : Nat) (acc : List UInt8), at_ ≤ n ∧ n < at_ + f ∧ acc.length ≤ at_ ∧ acc.length ≤ M ∧ va = .int .i64 at_ ∧ Own w.heap.size wr v7 acc ∧ Hid (R = plusD acc at_ (decL f (M - acc.length) (b.drop at_))) ∧ Below w.heap.size w wr) (fun _ va _ => n - (intOf va).toNat)
  case atStart => exact ⟨0, n + 1, [], Nat.zero_le _, by omega, Nat.le_refl _, Nat.zero_le _, rfl, Own.nil _ _, HP0, Below.refl _ _⟩
  case round =>
    obtain ⟨at_, f, acc, hat, hf, hacc, haM, rfl, hO, hR, hB⟩ := hrel
    clear HP0
    obtain ⟨f, rfl⟩ : ∃ f', f = f' + 1 := ⟨f - 1, by omega⟩
    obtain ⟨a7, c7, rfl, hn7⟩ := hO.form
    have hmm : max most 0 - (acc.length : Int) = ((M - acc.length : Nat) : Int) := by have := HMM.out; omega
    have hkw : Hid (0 < (b.drop at_).length → kb < wr.heap.size) := fun q => Nat.lt_of_lt_of_le (HK.out (by rw [List.length_drop] at q; omega)) hB.size
    have HONE : Hid (∀ v', Src wr kb v' (b.drop at_) → Calls Tryz.prog 114 #[v', .int .i64 ((M - acc.length : Nat) : Int)] wr (OneQ wr kb (b.drop at_) (oneP (M - acc.length) (b.drop at_)))) := fun v' h => one_any _ kb v' _ wr h hkw.out (by omega) (HM.out.below hB)
    have hcell : Hid (∀ a' : Option Addr, (at_ < c → a' = a.map (fun x => x.add at_)) → Src wr kb (.slice a' (n - at_) (c - at_)) (b.drop at_)) := HCAN.out wr at_ hat hB
    rcases oneP_cases (M - acc.length) (b.drop at_) with ⟨er, hone⟩ | ⟨i, hone, hil, _⟩ | ⟨i, k, hone, hk0, hkm, hil, _⟩
    · rw [hone] at HONE
      have HE : Hid (R = ([], 0, er)) := by rw [Hid, hR.out, decL_miss hone, plusD_err]
      clear hone hR
      by_cases h0 : er = 0
      · subst h0
        go_wp2_with fail
        all_goals
          refine (HONE.out _ (by first | exact hcell.out _ (fun _ => rfl) | exact hcell.out _ (fun h => if_neg (by omega)) | exact hcell.out _ (fun h => by omega) | (have hx := hcell.out a (fun h => by omega); rw [show c - at_ = 0 by omega] at hx; exact hx))).mono ?_
          rintro e w1 ⟨B1, ad, nd, cd, rfl, _, _⟩
          have C1 := hB.trans (B1.mono hB.size)
          go_wp2
          refine bodyPost_ret (v := .tuple #[.slice none 0 0, .int .i64 0, .int .i64 0]) (by simp [results, Tryz.results82, go_sem]) rfl ?_
          rw [HE.out]
          exact decq_no C1
      · have h0' : (er != 0) = true := by simpa using h0
        go_wp2_with fail
        all_goals
          refine (HONE.out _ (by first | exact hcell.out _ (fun _ => rfl) | exact hcell.out _ (fun h => if_neg (by omega)) | exact hcell.out _ (fun h => by omega) | (have hx := hcell.out a (fun h => by omega); rw [show c - at_ = 0 by omega] at hx; exact hx))).mono ?_
          rintro e w1 ⟨B1, ad, nd, cd, rfl, _, _⟩
          have C1 := hB.trans (B1.mono hB.size)
          go_wp2
          refine bodyPost_ret (v := .tuple #[.slice none 0 0, .int .i64 0, .int .i64 er]) (by simp [results, Tryz.results82, go_sem]) rfl ?_
          rw [HE.out]
          exact decq_no C1
    · rw [hone] at HONE
      rw [List.length_drop, ← HN.out] at hil
      have HE : Hid (R = plusD acc (at_ + i + 2) ([], trailL 40 (b.drop (at_ + i + 2)))) := by
        rw [Hid, hR.out, decL_last hone (by omega), plusD_plusD _ _ _ _ _ (by omega), List.append_nil, List.drop_drop, ← Nat.add_assoc]
      have htl := trailL_le 40 (b.drop (at_ + i + 2))
      have hto := trailL_ok 40 (b.drop (at_ + i + 2))
      rw [List.length_drop, ← HN.out] at htl
      have HTR : Hid (∀ (W : World) v', Below w.heap.size w W → Src W kb v' (b.drop (at_ + i + 2)) → Calls Tryz.prog 115 #[v'] W fun e w' => e = .returned (.tuple #[.int .i64 ((trailL 40 (b.drop (at_ + i + 2))).1 : Nat), .int .i64 (trailL 40 (b.drop (at_ + i + 2))).2]) ∧ Below W.heap.size W w') := fun W v' hW h => trailer_any _ kb v' W h (fun q => Nat.lt_of_lt_of_le (HK.out (by rw [List.length_drop] at q; omega)) hW.size) (HM.out.below hW)
      generalize trailL 40 (b.drop (at_ + i + 2)) = t at *
      obtain ⟨tn, te⟩ := t
      simp only at htl hto HTR
      clear hone hR
      by_cases ht : tn = 0
      · subst ht
        have HE2 : Hid (R = ([], 0, te)) := by rw [Hid, HE.out, plusD_err]
        clear hto HE
        by_cases h0 : te = 0
        · subst h0
          go_wp2_with fail
          all_goals
            refine (HONE.out _ (by first | exact hcell.out _ (fun _ => rfl) | exact hcell.out _ (fun h => if_neg (by omega)) | exact hcell.out _ (fun h => by omega) | (have hx := hcell.out a (fun h => by omega); rw [show c - at_ = 0 by omega] at hx; exact hx))).mono ?_
            rintro e w1 ⟨B1, ad, nd, cd, rfl, _, hD⟩
            obtain rfl : nd = 0 := hD.len.1.symm
            have C1 := hB.trans (B1.mono hB.size)
            have O1 := hO.keep B1
            have hc2 : Hid (∀ a' : Option Addr, (at_ + i + 2 < c → a' = a.map (fun x => x.add (at_ + i + 2))) → Src w1 kb (.slice a' (n - (at_ + i + 2)) (c - (at_ + i + 2))) (b.drop (at_ + i + 2))) := HCAN.out w1 _ (by omega) C1
            clear hD
            go_wp2_with fail
            all_goals
              refine (HTR.out _ _ C1 (by first | exact hc2.out _ (fun _ => rfl) | exact hc2.out _ (fun h => if_neg (by omega)) | exact hc2.out _ (fun h => by omega) | (have hx := hc2.out a (fun h => by omega); rw [show c - (at_ + i + 2) = 0 by omega] at hx; exact hx))).mono ?_
              rintro e w2 ⟨rfl, B2⟩
              have C2 := C1.trans (B2.mono C1.size)
              have O2 := O1.keep B2
              go_wp2
          
              refine bodyPost_ret (v := .tuple #[.slice none 0 0, .int .i64 0, .int .i64 0]) (by simp [results, Tryz.results82, go_sem]) rfl ?_
              rw [HE2.out]
              exact decq_no C2
        · have h0' : (te != 0) = true := by simpa using h0
          go_wp2_with fail
          all_goals
            refine (HONE.out _ (by first | exact hcell.out _ (fun _ => rfl) | exact hcell.out _ (fun h => if_neg (by omega)) | exact hcell.out _ (fun h => by omega) | (have hx := hcell.out a (fun h => by omega); rw [show c - at_ = 0 by omega] at hx; exact hx))).mono ?_
            rintro e w1 ⟨B1, ad, nd, cd, rfl, _, hD⟩
            obtain rfl : nd = 0 := hD.len.1.symm
            have C1 := hB.trans (B1.mono hB.size)
            have O1 := hO.keep B1
            have hc2 : Hid (∀ a' : Option Addr, (at_ + i + 2 < c → a' = a.map (fun x => x.add (at_ + i + 2))) → Src w1 kb (.slice a' (n - (at_ + i + 2)) (c - (at_ + i + 2))) (b.drop (at_ + i + 2))) := HCAN.out w1 _ (by omega) C1
            clear hD
            go_wp2_with fail
            all_goals
              refine (HTR.out _ _ C1 (by first | exact hc2.out _ (fun _ => rfl) | exact hc2.out _ (fun h => if_neg (by omega)) | exact hc2.out _ (fun h => by omega) | (have hx := hc2.out a (fun h => by omega); rw [show c - (at_ + i + 2) = 0 by omega] at hx; exact hx))).mono ?_
              rintro e w2 ⟨rfl, B2⟩
              have C2 := C1.trans (B2.mono C1.size)
              have O2 := O1.keep B2
              go_wp2
          
              refine bodyPost_ret (v := .tuple #[.slice none 0 0, .int .i64 0, .int .i64 te]) (by simp [results, Tryz.results82, go_sem]) rfl ?_
              rw [HE2.out]
              exact decq_no C2
      · obtain rfl : te = 0 := hto ht
        have HE2 : Hid (R = (acc, at_ + i + 2 + tn, 0)) := by
          rw [Hid, HE.out]
          unfold plusD
          rw [if_neg ht, List.append_nil]
        have ht' : ((tn : Int) == 0) = false := by simp; omega
        have ht'' : ¬ ((tn : Int) = 0) := by omega
        clear hto HE
        go_wp2_with fail
        all_goals
          refine (HONE.out _ (by first | exact hcell.out _ (fun _ => rfl) | exact hcell.out _ (fun h => if_neg (by omega)) | exact hcell.out _ (fun h => by omega) | (have hx := hcell.out a (fun h => by omega); rw [show c - at_ = 0 by omega] at hx; exact hx))).mono ?_
          rintro e w1 ⟨B1, ad, nd, cd, rfl, _, hD⟩
          obtain rfl : nd = 0 := hD.len.1.symm
          have C1 := hB.trans (B1.mono hB.size)
          have O1 := hO.keep B1
          have hc2 : Hid (∀ a' : Option Addr, (at_ + i + 2 < c → a' = a.map (fun x => x.add (at_ + i + 2))) → Src w1 kb (.slice a' (n - (at_ + i + 2)) (c - (at_ + i + 2))) (b.drop (at_ + i + 2))) := HCAN.out w1 _ (by omega) C1
          clear hD
          go_wp2_with fail
          all_goals
            refine (HTR.out _ _ C1 (by first | exact hc2.out _ (fun _ => rfl) | exact hc2.out _ (fun h => if_neg (by omega)) | exact hc2.out _ (fun h => by omega) | (have hx := hc2.out a (fun h => by omega); rw [show c - (at_ + i + 2) = 0 by omega] at hx; exact hx))).mono ?_
            rintro e w2 ⟨rfl, B2⟩
            have C2 := C1.trans (B2.mono C1.size)
            have O2 := O1.keep B2
            go_wp2
        
            refine bodyPost_ret (v := .tuple #[.slice a7 acc.length c7, .int .i64 ((at_ + i + 2 + tn : Nat) : Int), .int .i64 0]) (by simp [results, Tryz.results82, go_sem]; try omega) rfl ?_
            rw [HE2.out]
            exact ⟨_, rfl, O2, C2⟩
    · rw [hone] at HONE
      rw [List.length_drop, ← HN.out] at hil
      have HDL : Hid ((((b.drop at_).drop (i + 2)).take k).length = k) := by rw [Hid, List.length_take, List.length_drop, List.length_drop]; have := HN.out; omega
      have HE : Hid (R = plusD (acc ++ ((b.drop at_).drop (i + 2)).take k) (at_ + (i + 2 + k + 2)) (decL f (M - (acc ++ ((b.drop at_).drop (i + 2)).take k).length) (b.drop (at_ + (i + 2 + k + 2))))) := by
        have hdd : (b.drop at_).drop (i + 2 + k + 2) = b.drop (at_ + (i + 2 + k + 2)) := List.drop_drop
        rw [Hid, hR.out, decL_next hone (by omega) (by omega), plusD_plusD _ _ _ _ _ (by omega), List.length_append, HDL.out, Nat.sub_sub, hdd]
      clear hone hR
      go_wp2_with fail
      all_goals
        refine (HONE.out _ (by first | exact hcell.out _ (fun _ => rfl) | exact hcell.out _ (fun h => if_neg (by omega)) | exact hcell.out _ (fun h => by omega) | (have hx := hcell.out a (fun h => by omega); rw [show c - at_ = 0 by omega] at hx; exact hx))).mono ?_
        rintro e w1 ⟨B1, ad, nd, cd, rfl, hnd, hD⟩
        simp only at hD
        obtain rfl : nd = k := by rw [← HDL.out]; exact hD.len.1.symm
        have C1 := hB.trans (B1.mono hB.size)
        have hD1 : Src w1 kb (.slice ad nd cd) (((b.drop at_).drop (i + 2)).take nd) := hD.keep (fun q => hkw.out (by rw [List.length_drop]; have := HN.out; omega)) B1
        obtain ⟨v3, w3, r3, O3, B3⟩ := own_append (hO.keep B1) hD1 hnd (by rw [HDL.out]; omega) C1.size
        have C3 := C1.trans B3
        have HO3 : Hid (Own w.heap.size w3 v3 (acc ++ ((b.drop at_).drop (i + 2)).take nd)) := O3
        have hzk : ((nd : Int) == 0) = false := by simp; omega
        clear hD hD1 O3
        go_wp2_with (at_builtin; refine wpList_append_run2 rfl _ _ 31 31 rfl _ _ _ w3 rfl rfl r3 ?_)
        go_roundw
        case rel => exact ⟨at_ + (i + 2 + nd + 2), f, acc ++ ((b.drop at_).drop (i + 2)).take nd, by omega, by omega, by rw [List.length_append, HDL.out]; omega, by rw [List.length_append, HDL.out]; omega, by go_num, HO3.out, HE, C3⟩
        case measure => simp [intOf]; omega
end Go.Proofs.YtemmmdhmkegaaaaGreatDoor

/- Fold: what it answers of every text. -/
namespace Go.Proofs.YtemmmdhmkegaaaaGreatDoor
open Go.RowKit
set_option linter.unusedVariables false

def bvT (b : UInt8) : Value := .int .u8 (b.toNat : Int)
def foldB (b : UInt8) : UInt8 := if 65 ≤ (b.toNat : Int) ∧ (b.toNat : Int) ≤ 90 then (b.toNat + 32).toUInt8 else b
def foldL (l : List UInt8) : List UInt8 := l.map foldB
def foldS (s : ByteArray) : ByteArray := ⟨(foldL s.data.toList).toArray⟩
theorem foldB_yes {b : UInt8} (h0 : 65 ≤ (b.toNat : Int)) (h1 : (b.toNat : Int) ≤ 90) : bvT (foldB b) = .int .u8 ((b.toNat : Int) + 32) := by
  unfold bvT foldB
  rw [if_pos ⟨h0, h1⟩]
  have : (b.toNat + 32).toUInt8.toNat = b.toNat + 32 := by simp; omega
  rw [this]; rfl
theorem foldB_no {b : UInt8} (h : ¬ (65 ≤ (b.toNat : Int) ∧ (b.toNat : Int) ≤ 90)) : foldB b = b := by unfold foldB; rw [if_neg h]

def rowT (l : List UInt8) (z : List Value) : Array Value := (l.map bvT ++ z).toArray
def InRow (w : World) (b : Nat) (l : List UInt8) (z : List Value) : Prop := w.heap[b]? = some (.cells (rowT l z) 5 ((rowT l z).size, (rowT l z).size + 1))
theorem rowT_size (l : List UInt8) (z : List Value) : (rowT l z).size = l.length + z.length := by simp [rowT]
theorem rowT_at (l : List UInt8) (z : List Value) (j : Nat) (h : j < l.length) : (rowT l z)[j]? = some (bvT l[j]) := by
  unfold rowT
  rw [List.getElem?_toArray, List.getElem?_append_left (by simpa using h)]
  simp [h]
theorem InRow.cell {w : World} {b : Nat} {l : List UInt8} {z : List Value} (h : InRow w b l z) (j : Nat) (hj : j < l.length) : w.cell? ⟨b, j, none⟩ = some (.int .u8 (l[j].toNat : Int)) := by
  have k := rowT_at l z j hj
  unfold InRow at h
  simp [World.cell?, h, k]; rfl
theorem InRow.z {w : World} {b : Nat} {l : List UInt8} {z : List Value} (h : InRow w b l z) (j : Nat) (hj : j < l.length) : w.frozen? ⟨b, j, none⟩ = false := by
  unfold InRow at h
  have := rowT_size l z
  simp [World.frozen?, h]; omega
theorem InRow.set {w : World} {b : Nat} {l : List UInt8} {z : List Value} (h : InRow w b l z) (j : Nat) (hj : j < l.length) (x : UInt8) : InRow (w.setCell ⟨b, j, none⟩ (bvT x)) b (l.set j x) z := by
  have e : (rowT l z).setIfInBounds j (bvT x) = rowT (l.set j x) z := by
    unfold rowT
    rw [List.setIfInBounds_toArray, List.set_append_left _ _ (by simpa using hj), List.map_set]
  have es : (rowT (l.set j x) z).size = (rowT l z).size := by rw [rowT_size, rowT_size, List.length_set]
  unfold InRow at *
  rw [es, ← e]
  simp [World.setCell, Array.getElem?_modify, h]
theorem InRow.new (w : World) (s : ByteArray) (cap : Nat) : InRow (w.alloc (.cells (bytesRow s cap) 5 ((bytesRow s cap).size, (bytesRow s cap).size + 1))) w.heap.size s.data.toList (List.replicate (cap - s.size) (.int .u8 0)) := by
  have e : bytesRow s cap = rowT s.data.toList (List.replicate (cap - s.size) (.int .u8 0)) := by
    unfold bytesRow rowT
    apply Array.toList_inj.1
    simp [bvT]
    try rfl
  unfold InRow
  rw [← e]
  show (w.heap.push _)[w.heap.size]? = _
  simp

theorem foldL_take (l : List UInt8) (k : Nat) (h : k < l.length) : (foldL (l.take k) ++ l.drop k).set k (foldB l[k]) = foldL (l.take (k + 1)) ++ l.drop (k + 1) := by
  have hl : (foldL (l.take k)).length = k := by simp [foldL]; omega
  rw [List.drop_eq_getElem_cons h, List.set_append_right _ _ (by omega), hl, Nat.sub_self, List.set_cons_zero, List.take_succ_eq_append_getElem h]
  unfold foldL
  rw [List.map_append, List.append_assoc]; rfl
theorem foldL_at (l : List UInt8) (k : Nat) (h : k < l.length) : (foldL (l.take k) ++ l.drop k)[k]? = some l[k] := by
  have hl : (foldL (l.take k)).length = k := by simp [foldL]; omega
  rw [List.getElem?_append_right (by omega), hl, Nat.sub_self, List.drop_eq_getElem_cons h]; rfl
theorem foldL_len (l : List UInt8) (k : Nat) (h : k ≤ l.length) : (foldL (l.take k) ++ l.drop k).length = l.length := by simp [foldL]; omega

theorem fold_set_same (s : ByteArray) (k : Nat) (h : k < s.size) : (foldL (s.data.toList.take k) ++ s.data.toList.drop k).set k s[k] = foldL (s.data.toList.take k) ++ s.data.toList.drop k := by
  have h1 := foldL_at s.data.toList k h
  have hl : k < (foldL (s.data.toList.take k) ++ s.data.toList.drop k).length := (List.getElem?_eq_some_iff.1 h1).1
  rw [List.getElem?_eq_getElem hl] at h1
  have e : (foldL (s.data.toList.take k) ++ s.data.toList.drop k)[k] = s[k] := Option.some.inj h1
  rw [← e]
  exact List.set_getElem_self hl

set_option maxRecDepth 100000 in
set_option maxHeartbeats 2000000 in
theorem fold_any (s : ByteArray) (w : World) (hs : s.size ≤ maxLen) :
    Calls Tryz.prog 161 #[.string s] w fun e w' => e = .returned (.string (foldS s)) ∧ Below w.heap.size w w' := by
  unfold maxLen at hs
  have hcv := run_bytes_of_string (P := Tryz.prog) w 9 31 5 s Tryz.underlying9 Tryz.underlying31 Tryz.underlying5
  have hrow : InRow ((w.alloc (.cells (bytesRow s (grownCap w s.size 0 5)) 5 ((bytesRow s (grownCap w s.size 0 5)).size, (bytesRow s (grownCap w s.size 0 5)).size + 1))).drew) w.heap.size s.data.toList (List.replicate (grownCap w s.size 0 5 - s.size) (.int .u8 0)) := InRow.new w s _
  generalize List.replicate (grownCap w s.size 0 5 - s.size) (Value.int .u8 0) = z at *
  go_enter Tryz.func161, Tryz.ntmps161
  go_wp2_with fail
  have HB : Below w.heap.size w ((w.alloc (.cells (bytesRow s (grownCap w s.size 0 5)) 5 ((bytesRow s (grownCap w s.size 0 5)).size, (bytesRow s (grownCap w s.size 0 5)).size + 1))).drew) := ((Below.refl _ _).alloc (Nat.le_refl _) _).drew
  clear hcv
  generalize grownCap w s.size 0 5 = cap at *
  go_loopw [9] (fun vi wr => ∃ k : Nat, k ≤ s.size ∧ vi = .int .i64 k ∧ InRow wr w.heap.size (foldL (s.data.toList.take k) ++ s.data.toList.drop k) z ∧ Below w.heap.size w wr) (fun vi _ => s.size - (intOf vi).toNat)
  case atStart => exact ⟨0, Nat.zero_le _, rfl, hrow, HB⟩
  case round =>
    obtain ⟨k, hk, rfl, hr, hB⟩ := hrel
    clear hrow HB
    by_cases hlt : k < s.size
    · have hlen : s.data.toList.length = s.size := rfl
      have hl2 : k < (foldL (s.data.toList.take k) ++ s.data.toList.drop k).length := by rw [foldL_len _ _ (by omega)]; omega
      have e1 : (foldL (s.data.toList.take k) ++ s.data.toList.drop k)[k] = s[k] := by
        have h1 := foldL_at s.data.toList k (by omega)
        rw [List.getElem?_eq_getElem hl2] at h1
        exact Option.some.inj h1
      have hc := hr.cell k hl2
      have hz := hr.z k hl2
      rw [e1] at hc
      have HS : Hid (∀ x : UInt8, x = foldB s[k] → InRow (wr.setCell ⟨w.heap.size, k, none⟩ (bvT x)) w.heap.size (foldL (s.data.toList.take (k + 1)) ++ s.data.toList.drop (k + 1)) z) := fun x hx => by
        have h1 := hr.set k hl2 x
        rw [hx] at h1
        rw [← foldL_take s.data.toList k (by omega), hx]
        exact h1
      have HR : Hid (InRow wr w.heap.size (foldL (s.data.toList.take k) ++ s.data.toList.drop k) z) := hr
      have HF : Hid (s.data.toList.length = s.size) := hlen
      clear hr e1 hl2 hlen
      by_cases a : 65 ≤ (s[k].toNat : Int)
      · by_cases b : (s[k].toNat : Int) ≤ 90
        · go_wp2
          go_roundw
          case rel => exact ⟨k + 1, by omega, by go_num, by rw [← foldB_yes a b]; exact HS.out _ rfl, hB.setCell (Nat.le_refl _) _⟩
          case measure => simp [intOf]; omega
        · go_wp2
          go_roundw
          case rel =>
            refine ⟨k + 1, by omega, by go_num, ?_, hB⟩
            rw [← foldL_take s.data.toList k (by have := HF.out; omega), show s.data.toList[k]'(by have := HF.out; omega) = s[k] from rfl, foldB_no (by omega), fold_set_same s k hlt]
            exact HR.out
          case measure => simp [intOf]; omega
      · go_wp2
        go_roundw
        case rel =>
          refine ⟨k + 1, by omega, by go_num, ?_, hB⟩
          rw [← foldL_take s.data.toList k (by have := HF.out; omega), show s.data.toList[k]'(by have := HF.out; omega) = s[k] from rfl, foldB_no (by omega), fold_set_same s k hlt]
          exact HR.out
        case measure => simp [intOf]; omega
    · have hk' : k = s.size := by omega
      subst hk'
      have hlen : s.data.toList.length = s.size := rfl
      rw [List.take_of_length_le (by omega), List.drop_of_length_le (by omega), List.append_nil] at hr
      have hfl : (foldL s.data.toList).length = s.size := by unfold foldL; rw [List.length_map]; rfl
      have hcv : (convert 31 9 (.slice (some ⟨w.heap.size, 0, none⟩) s.size cap)).run Tryz.prog wr = .ok (.string (foldS s)) wr := by
        have h := run_convert_bytes_back (P := Tryz.prog) wr 31 9 5 ⟨w.heap.size, 0, none⟩ cap (foldL s.data.toList) Tryz.underlying31 Tryz.underlying5 Tryz.underlying9 (fun j hj => by
          rw [Lib.add_plain]; rw [Nat.zero_add]; exact hr.cell j hj)
        rw [hfl] at h
        exact h
      clear hr hlen hfl
      go_wp2
      go_ret
      exact ⟨rfl, hB⟩

end Go.Proofs.YtemmmdhmkegaaaaGreatDoor

/- Same: what it answers of every two texts. -/
namespace Go.Proofs.YtemmmdhmkegaaaaGreatDoor
open Go.RowKit
set_option linter.unusedVariables false

theorem same_any (a b : ByteArray) (w : World) (ha : a.size ≤ maxLen) (hb : b.size ≤ maxLen) :
    Calls Tryz.prog 135 #[.string a, .string b] w fun e w' => e = .returned (.bool ((foldS a).toList == (foldS b).toList)) ∧ Below w.heap.size w w' := by
  go_enter Tryz.func135, Tryz.ntmps135
  go_wp2_with fail
  refine (fold_any a _ ha).mono ?_
  rintro e w1 ⟨rfl, B1⟩
  go_wp2_with fail
  refine (fold_any b _ hb).mono ?_
  rintro e w2 ⟨rfl, B2⟩
  go_wp2
  go_ret
  exact ⟨rfl, B1.trans (B2.mono B1.size)⟩
end Go.Proofs.YtemmmdhmkegaaaaGreatDoor

/- Rows of texts in memory. -/
namespace Go.Proofs.YtemmmdhmkegaaaaGreatDoor
open Go.ChangeShapes Go.WideShapes Go.ChangeAt Go.RowKit
set_option linter.unusedVariables false

def TBd (N : Nat) (xs : List ByteArray) : Prop := ∀ x ∈ xs, x.size ≤ N
theorem info9 : (Tryz.prog.info? 9).map (fun i => (i.zero, i.size, i.bytes)) = some (some (.string ByteArray.empty), 1, 16) := by kernel_rfl
def Txs (B : Nat) (w : World) (v : Value) (xs : List ByteArray) : Prop := ∃ a c, v = .slice a xs.length c ∧ (a = none → c = 0) ∧ xs.length ≤ c ∧ c ≤ maxLen ∧ (0 < xs.length → ∃ g off, a = some ⟨g, off, none⟩ ∧ g < B ∧ ∀ (j : Nat) (hj : j < xs.length), w.cell? ⟨g, off + j, none⟩ = some (.string xs[j]))
theorem Txs.keep {B : Nat} {w w' : World} {v : Value} {xs : List ByteArray} (h : Txs B w v xs) (b : Below B w w') : Txs B w' v xs := by
  obtain ⟨a, c, e, h1, h2, h3, h4⟩ := h
  refine ⟨a, c, e, h1, h2, h3, fun hp => ?_⟩
  obtain ⟨g, off, ea, hg, hc⟩ := h4 hp
  exact ⟨g, off, ea, hg, fun j hj => (b.cell (p := ⟨g, off + j, none⟩) hg).trans (hc j hj)⟩
theorem Txs.mono {B C : Nat} {w : World} {v : Value} {xs : List ByteArray} (h : Txs B w v xs) (b : B ≤ C) : Txs C w v xs := by
  obtain ⟨a, c, e, h1, h2, h3, h4⟩ := h
  refine ⟨a, c, e, h1, h2, h3, fun hp => ?_⟩
  obtain ⟨g, off, ea, hg, hc⟩ := h4 hp
  exact ⟨g, off, ea, Nat.lt_of_lt_of_le hg b, hc⟩
theorem Txs.len {B : Nat} {w : World} {a : Option Addr} {n c : Nat} {xs : List ByteArray} (h : Txs B w (.slice a n c) xs) : xs.length = n ∧ n ≤ c ∧ c ≤ maxLen := by
  obtain ⟨a', c', e, h1, h2, h3, _⟩ := h
  obtain ⟨rfl, rfl, rfl⟩ := slice_inj e
  exact ⟨rfl, h2, h3⟩

def OwnT (B : Nat) (w : World) (v : Value) (xs : List ByteArray) : Prop := w.ownsRow B 9 1 v xs.length (xs.map Value.string)
theorem rowT_one (xs : List ByteArray) : ∀ v ∈ xs.map Value.string, v.oneCell' = true := by
  intro v hv
  obtain ⟨b, _, rfl⟩ := List.mem_map.1 hv
  rfl
theorem OwnT.form {B : Nat} {w : World} {v : Value} {xs : List ByteArray} (h : OwnT B w v xs) : ∃ a c, v = .slice a xs.length c ∧ (a = none → c = 0) := by
  obtain ⟨h1, ⟨h2, h3⟩ | ⟨g, c, cur, hv, _⟩⟩ := h
  · exact ⟨none, 0, by rw [h2, h3], fun _ => rfl⟩
  · exact ⟨_, c, hv, fun e => by cases e⟩
theorem OwnT.txs {B : Nat} {w : World} {v : Value} {xs : List ByteArray} (h : OwnT B w v xs) : Txs w.heap.size w v xs := by
  have h0 := h
  obtain ⟨h1, ⟨h2, h3⟩ | ⟨g, c, cur, hv, hB, hg, hl, hm, hs, ht⟩⟩ := h
  · exact ⟨none, 0, by rw [h2, h3], fun _ => rfl, by omega, Nat.zero_le _, fun q => by omega⟩
  · refine ⟨_, c, hv, (fun e => by cases e), hl, hm, fun _ => ⟨g, 0, rfl, heap_lt hg, fun j hj => ?_⟩⟩
    have k := (hv ▸ h0 : w.ownsRow B 9 1 (.slice (some ⟨g, 0, none⟩) xs.length c) xs.length (xs.map Value.string)).cellAt j (by omega)
    rw [Nat.zero_add, k, List.getElem?_map, List.getElem?_eq_getElem hj]; rfl
theorem OwnT.keep {B : Nat} {w w' : World} {v : Value} {xs : List ByteArray} (h : OwnT B w v xs) (b : Below w.heap.size w w') : OwnT B w' v xs := owns_below h b
theorem owns_mono {B C : Nat} {w : World} {e : TypeId} {size : Nat} {v : Value} {n : Nat} {xs : List Value} (h : w.ownsRow B e size v n xs) (hC : C ≤ B) : w.ownsRow C e size v n xs := by
  obtain ⟨h1, h2⟩ := h
  refine ⟨h1, ?_⟩
  rcases h2 with h2 | ⟨g, cap, cur, hv, hg, r⟩
  · exact .inl h2
  · exact .inr ⟨g, cap, cur, hv, Nat.le_trans hC hg, r⟩
theorem OwnT.mono {B C : Nat} {w : World} {v : Value} {xs : List ByteArray} (h : OwnT B w v xs) (hC : C ≤ B) : OwnT C w v xs := owns_mono h hC
theorem OwnT.nil (B : Nat) (w : World) : OwnT B w (.slice none 0 0) [] := World.ownsRow_nil _ _ _ _
theorem OwnT.empty (B : Nat) (w : World) (hB : B ≤ w.heap.size) : OwnT B (w.alloc (.cells #[] 9)) (.slice (some ⟨w.heap.size, 0, none⟩) 0 0) [] :=
  ⟨rfl, .inr ⟨w.heap.size, 0, #[], rfl, hB, new_at _ _, Nat.le_refl _, by decide, rfl, rfl⟩⟩
theorem ownT_append {B C : Nat} {w : World} {v : Value} {X Y : List ByteArray} {a : Option Addr} {n c : Nat} (h : OwnT B w v X) (hs : Txs C w (.slice a n c) Y) (hmax : X.length + Y.length ≤ 4294967296) (hB : B ≤ w.heap.size) :
    ∃ v' w', (Builtin.append_ #[141, 141] 141 #[v, .slice a n c]).run Tryz.prog w = .ok v' w' ∧ OwnT B w' v' (X ++ Y) ∧ Below B w w' := by
  obtain ⟨i, hi, hz0, hz1, hz2⟩ := info_parts info9
  obtain ⟨a', c', e, hnil, h1, h2, h3⟩ := hs
  obtain ⟨e1, e2, e3⟩ := slice_inj e
  subst e1 e2 e3
  have hmx : X.length + Y.length ≤ maxLen := by unfold maxLen; omega
  cases a with
  | none =>
    have hc := hnil rfl
    have hy : Y = [] := by
      rcases Nat.eq_zero_or_pos Y.length with q | q
      · exact List.eq_nil_of_length_eq_zero q
      · obtain ⟨_, _, q, _⟩ := h3 q; cases q
    subst hy hc
    exact ⟨v, w, run_append_owned_none w B 141 141 9 i 1 Tryz.underlying141 hi v _ _ h, by rw [List.append_nil]; exact h, Below.refl _ _⟩
  | some ad =>
    obtain ⟨v', w', hr, q1, q2, q3, q4⟩ := run_append_own_at (P := Tryz.prog) w B 141 141 9 i (.string ByteArray.empty) 1 16 Tryz.underlying141 hi hz0 hz1 hz2 rfl (by decide) v X.length (X.map Value.string) h ad Y.length c (Y.map Value.string) (by rw [List.length_map]; omega)
      (fun j u hj => by
        rw [List.getElem?_map] at hj
        obtain ⟨x, hx, rfl⟩ := Option.map_eq_some_iff.1 hj
        have hjl := (List.getElem?_eq_some_iff.1 hx).1
        obtain ⟨k, off, ha, _, hc⟩ := h3 (by omega)
        have : ad = ⟨k, off, none⟩ := by simpa using ha
        subst this
        rw [addr_add, hc j hjl, (List.getElem?_eq_some_iff.1 hx).2]) (rowT_one _) hmx (by omega) hB
    refine ⟨v', w', hr, ?_, (Below.refl _ _).grown q2 hB (fun q hq => (h.lt q hq).1)⟩
    unfold OwnT
    rw [List.length_append, List.map_append]; exact q1
theorem one_txs (w : World) (x : ByteArray) (C : Nat) (h : w.heap.size < C) : Txs C (w.alloc (.cells #[.string x] 9)) (.slice (some ⟨w.heap.size, 0, none⟩) 1 1) [x] :=
  ⟨_, 1, rfl, (fun e => by cases e), Nat.le_refl _, by decide, fun _ => ⟨w.heap.size, 0, rfl, h, fun j hj => by
    have : j = 0 := by simpa using hj
    subst this
    exact tblk_cell (tblk_new _ _) rfl⟩⟩
end Go.Proofs.YtemmmdhmkegaaaaGreatDoor

/- Trim and Split: what each answers of every text. -/
namespace Go.Proofs.YtemmmdhmkegaaaaGreatDoor
open Go.RowKit
set_option linter.unusedVariables false

def pieces (s : ByteArray) : List ByteArray := Lib.splitB ⟨#[44]⟩ 0 (Lib.countB s ⟨#[44]⟩) s
def keepT (ps : List ByteArray) : List ByteArray := (ps.map trimT).filter fun p => !decide (p.size = 0)
theorem keepT_snoc (ps : List ByteArray) (p : ByteArray) : keepT (ps ++ [p]) = keepT ps ++ (if (trimT p).size = 0 then [] else [trimT p]) := by
  unfold keepT
  rw [List.map_append, List.filter_append]
  congr 1
  by_cases h : (trimT p).size = 0
  · rw [if_pos h]
    simp only [List.map_cons, List.map_nil, List.filter_cons, List.filter_nil, decide_eq_true h, Bool.not_true, Bool.false_eq_true, if_false]
  · rw [if_neg h]
    simp only [List.map_cons, List.map_nil, List.filter_cons, List.filter_nil, decide_eq_false h, Bool.not_false, if_true]
theorem keepT_len (ps : List ByteArray) : (keepT ps).length ≤ ps.length := by
  unfold keepT
  refine Nat.le_trans (List.length_filter_le _ _) ?_
  rw [List.length_map]; exact Nat.le_refl _

theorem pieces_len (s : ByteArray) : (pieces s).length ≤ s.size + 2 := by
  have h1 := Lib.splitB_length_le ⟨#[44]⟩ 0 (Lib.countB s ⟨#[44]⟩) s
  have h2 : Lib.countB s ⟨#[44]⟩ ≤ s.size + 1 := Lib.count_le s.data.toList [44]
  unfold pieces; omega

set_option maxRecDepth 100000 in
set_option maxHeartbeats 4000000 in
theorem split_core (s : ByteArray) (ps : List ByteArray) (hpe : pieces s = ps) (w : World) (hs : s.size < 4294967281) (hlen : ps.length = Lib.countB s ⟨#[44]⟩ + 1) (hps : ∀ p ∈ ps, p.size ≤ 140737488355328) (hM : MaxL w) :
    Calls Tryz.prog 137 #[.string s] w fun e w' => ∃ ao cv, e = .returned (.slice ao (keepT ps).length cv) ∧ w'.ownsRow (w.heap.size + 1) 9 1 (.slice ao (keepT ps).length cv) (keepT ps).length ((keepT ps).map Value.string) ∧ Below w.heap.size w w' := by
  obtain ⟨m, hm⟩ := hM
  obtain ⟨i0, hi, hz0, hz1, hz2⟩ := info_parts info9
  have HM : Hid (w.cell? ⟨0, 0, none⟩ = some (.int .i64 m)) := hm
  have HL := pieces_len s
  rw [hpe] at HL
  have HPE : Hid (pieces s = ps) := hpe
  clear hm hpe
  go_enter Tryz.func137, Tryz.ntmps137
  go_wp2_with fail
  refine (Tryz.strings_Split s ⟨#[44]⟩ m _ hs HM.out (by decide)).mono ?_
  rw [← hlen]
  rintro e w1 ⟨rfl, hw1⟩
  have hpc : w1.heap[w.heap.size]? = some (.cells (ps.map Value.string).toArray 9) := by rw [hw1, ← HPE.out]; exact tblk_new _ _
  have hB1 : Below w.heap.size w w1 := by rw [hw1]; exact (Below.refl _ _).alloc (Nat.le_refl _) _
  have hs1 : w.heap.size + 1 ≤ w1.heap.size := by rw [hw1]; simp
  clear hw1 HM hlen HPE
  go_wp2_with fail
  go_loopw [3, 9] (fun v vi wr => ∃ (k : Nat) (ao : Option Addr) (cv : Nat), k ≤ ps.length ∧ vi = .int .i64 k ∧ v = .slice ao (keepT (ps.take k)).length cv ∧ wr.ownsRow (w.heap.size + 1) 9 1 v (keepT (ps.take k)).length ((keepT (ps.take k)).map Value.string) ∧ wr.heap[w.heap.size]? = some (.cells (ps.map Value.string).toArray 9) ∧ w.heap.size + 1 ≤ wr.heap.size ∧ Below w.heap.size w wr) (fun _ vi _ => ps.length - (intOf vi).toNat)
  case atStart => exact ⟨0, none, 0, Nat.zero_le _, rfl, rfl, World.ownsRow_nil _ _ _ _, hpc, hs1, hB1⟩
  case round =>
    obtain ⟨k, ao, cv, hk, rfl, rfl, hown, hpr, hsr, hB⟩ := hrel
    clear hpc hs1 hB1
    by_cases hlt : k < ps.length
    · have hcell : wr.cell? ⟨w.heap.size, k, none⟩ = some (.string ps[k]) := tblk_cell hpr (by rw [List.getElem?_toArray, List.getElem?_map, List.getElem?_eq_getElem hlt]; rfl)
      have hp := hps ps[k] (List.getElem_mem hlt)
      have hsn : Hid (keepT (ps.take (k + 1)) = keepT (ps.take k) ++ (if (trimT ps[k]).size = 0 then [] else [trimT ps[k]])) := by
        rw [Hid, List.take_succ_eq_append_getElem hlt, keepT_snoc]
      have hkl : (keepT (ps.take k)).length ≤ k := Nat.le_trans (keepT_len _) (List.length_take_le _ _)
      generalize ps[k] = p at *
      go_wp2_with fail
      refine (trim_any p _ hp).mono ?_
      rintro e w2 ⟨rfl, B2⟩
      have hown2 := owns_below hown B2
      have hpr2 := tblk_below hpr B2
      have hB2 := hB.trans (B2.mono hB.size)
      have hs2 : w.heap.size + 1 ≤ w2.heap.size := Nat.le_trans hsr B2.size
      clear hown hpr hB B2 hcell
      generalize trimT p = x at *
      by_cases hz : x.size = 0
      · have hsn2 : Hid (keepT (ps.take (k + 1)) = keepT (ps.take k)) := by rw [Hid, hsn.out, if_pos hz, List.append_nil]
        have he := empty_t hz
        clear hsn
        subst he
        go_wp2
        go_roundw
        case rel => exact ⟨k + 1, ao, cv, by omega, by go_num, by rw [hsn2.out], by rw [hsn2.out]; exact hown2, hpr2, hs2, hB2⟩
        case measure => simp [intOf]; omega
      · have hsn2 : Hid (keepT (ps.take (k + 1)) = keepT (ps.take k) ++ [x]) := by rw [Hid, hsn.out, if_neg hz]
        have hne := isEmpty_t hz
        clear hsn hz
        have hkn : (keepT (ps.take k)).length ≤ 4294967283 := by omega
        generalize keepT (ps.take k) = K at *
        go_wp2_with (first
          | (at_builtin; refine wpList_append_own _ rfl _ _ 141 rfl (w.heap.size + 1) 9 i0 (.string ByteArray.empty) 1 16 Tryz.underlying141 hi hz0 hz1 hz2 rfl (by decide) _ _ _ rfl (hown2.alloc _) ⟨w2.heap.size, 0, none⟩ 1 1 [.string x] rfl rfl (cell_one_new _ _ _) (fun x hx => by simp at hx; subst hx; rfl) (by unfold maxLen; omega) (by omega) (by simp; omega) ?_; intro v' w3 hown' hgrow3 hnil3))
        go_roundw
        case rel =>
          obtain ⟨g3, cap3, hv3⟩ : ∃ g3 cap3, v' = .slice (some ⟨g3, 0, none⟩) (K.length + 1) cap3 := by
            rcases hown'.2 with ⟨_, h⟩ | ⟨g3, cap3, _, h, _⟩
            · omega
            · exact ⟨g3, cap3, h⟩
          have hb3 : Below (w.heap.size + 1) w2 w3 := ((Below.refl _ _).alloc hs2 _).grown hgrow3 (by simp; omega) (fun q hq => (hown2.lt q hq).1)
          exact ⟨k + 1, some ⟨g3, 0, none⟩, cap3, by omega, by go_num, by rw [hv3, hsn2.out, List.length_append]; rfl, by rw [hsn2.out, List.map_append, List.length_append]; exact hown', (hb3.block _ (Nat.lt_succ_self _)).trans hpr2, Nat.le_trans hs2 hb3.size, hB2.trans (hb3.mono (Nat.le_succ _))⟩
        case measure => simp [intOf]; omega
    · go_wp2
      go_ret
      have hk' : k = ps.length := by omega
      subst hk'
      rw [List.take_length] at *
      exact ⟨ao, cv, rfl, hown, hB⟩

theorem split_any (s : ByteArray) (w : World) (hs : s.size < 4294967281) (hlen : (pieces s).length = Lib.countB s ⟨#[44]⟩ + 1) (hps : ∀ p ∈ pieces s, p.size ≤ 140737488355328) (hM : MaxL w) :
    Calls Tryz.prog 137 #[.string s] w fun e w' => ∃ ao cv, e = .returned (.slice ao (keepT (pieces s)).length cv) ∧ w'.ownsRow (w.heap.size + 1) 9 1 (.slice ao (keepT (pieces s)).length cv) (keepT (pieces s)).length ((keepT (pieces s)).map Value.string) ∧ Below w.heap.size w w' :=
  split_core s (pieces s) rfl w hs hlen hps hM
end Go.Proofs.YtemmmdhmkegaaaaGreatDoor

/- Rows of texts and of fields in memory. -/
namespace Go.Proofs.YtemmmdhmkegaaaaGreatDoor
open Go.ChangeShapes Go.WideShapes Go.ChangeAt Go.RowKit
set_option linter.unusedVariables false

abbrev Fs := List (ByteArray × ByteArray)
def Fds (B : Nat) (w : World) (v : Value) (fs : Fs) : Prop := ∃ a c, v = .slice a fs.length c ∧ (a = none → c = 0) ∧ fs.length ≤ c ∧ c ≤ maxLen ∧ (0 < fs.length → ∃ g off, a = some ⟨g, off, none⟩ ∧ g < B ∧ ∀ (j : Nat) (hj : j < fs.length), w.cell? ⟨g, off + j * 2, none⟩ = some (.string fs[j].1) ∧ w.cell? ⟨g, off + j * 2 + 1, none⟩ = some (.string fs[j].2))
theorem Fds.keep {B : Nat} {w w' : World} {v : Value} {fs : Fs} (h : Fds B w v fs) (b : Below B w w') : Fds B w' v fs := by
  obtain ⟨a, c, e, h1, h2, h3, h4⟩ := h
  refine ⟨a, c, e, h1, h2, h3, fun hp => ?_⟩
  obtain ⟨g, off, ea, hg, hc⟩ := h4 hp
  exact ⟨g, off, ea, hg, fun j hj => ⟨(b.cell (p := ⟨g, off + j * 2, none⟩) hg).trans (hc j hj).1, (b.cell (p := ⟨g, off + j * 2 + 1, none⟩) hg).trans (hc j hj).2⟩⟩
theorem Fds.mono {B C : Nat} {w : World} {v : Value} {fs : Fs} (h : Fds B w v fs) (b : B ≤ C) : Fds C w v fs := by
  obtain ⟨a, c, e, h1, h2, h3, h4⟩ := h
  refine ⟨a, c, e, h1, h2, h3, fun hp => ?_⟩
  obtain ⟨g, off, ea, hg, hc⟩ := h4 hp
  exact ⟨g, off, ea, Nat.lt_of_lt_of_le hg b, hc⟩
theorem Fds.len {B : Nat} {w : World} {a : Option Addr} {n c : Nat} {fs : Fs} (h : Fds B w (.slice a n c) fs) : fs.length = n ∧ n ≤ c ∧ c ≤ maxLen := by
  obtain ⟨a', c', e, h1, h2, h3, _⟩ := h
  obtain ⟨rfl, rfl, rfl⟩ := slice_inj e
  exact ⟨rfl, h2, h3⟩
def rowF (fs : Fs) : List Value := fs.flatMap fun f => [.string f.1, .string f.2]
def OwnF (B : Nat) (w : World) (v : Value) (fs : Fs) : Prop := w.ownsRow B 121 2 v fs.length (rowF fs)
theorem rowF_len (fs : Fs) : (rowF fs).length = fs.length * 2 := by
  induction fs with
  | nil => rfl
  | cons f l ih =>
    show ([Value.string f.1, .string f.2] ++ rowF l).length = _
    have e : (f :: l).length = l.length + 1 := rfl
    have e2 : ([Value.string f.1, .string f.2] : List Value).length = 2 := rfl
    rw [List.length_append, ih, e, e2]; omega
theorem rowF_app (x y : Fs) : rowF (x ++ y) = rowF x ++ rowF y := by unfold rowF; rw [List.flatMap_append]
theorem rowF_at : ∀ (fs : Fs) (j : Nat) (hj : j < fs.length), (rowF fs)[j * 2]? = some (.string fs[j].1) ∧ (rowF fs)[j * 2 + 1]? = some (.string fs[j].2)
  | f :: l, 0, _ => ⟨rfl, rfl⟩
  | f :: l, j + 1, h => by
    have k := rowF_at l j (by simpa using h)
    have e1 : (j + 1) * 2 = j * 2 + 1 + 1 := by omega
    rw [e1]
    exact k
theorem rowF_one (fs : Fs) : ∀ v ∈ rowF fs, v.oneCell' = true := by
  intro v hv
  unfold rowF at hv
  obtain ⟨f, _, hf⟩ := List.mem_flatMap.1 hv
  simp at hf
  rcases hf with rfl | rfl <;> rfl
theorem OwnF.form {B : Nat} {w : World} {v : Value} {fs : Fs} (h : OwnF B w v fs) : ∃ a c, v = .slice a fs.length c ∧ (a = none → c = 0) := by
  obtain ⟨h1, ⟨h2, h3⟩ | ⟨g, c, cur, hv, _⟩⟩ := h
  · exact ⟨none, 0, by rw [h2, h3], fun _ => rfl⟩
  · exact ⟨_, c, hv, fun e => by cases e⟩
theorem OwnF.fds {B : Nat} {w : World} {v : Value} {fs : Fs} (h : OwnF B w v fs) : Fds w.heap.size w v fs := by
  have h0 := h
  obtain ⟨h1, ⟨h2, h3⟩ | ⟨g, c, cur, hv, hB, hg, hl, hm, hs, ht⟩⟩ := h
  · exact ⟨none, 0, by rw [h2, h3], fun _ => rfl, by omega, Nat.zero_le _, fun q => by omega⟩
  · refine ⟨_, c, hv, (fun e => by cases e), hl, hm, fun _ => ⟨g, 0, rfl, heap_lt hg, fun j hj => ?_⟩⟩
    have k := (hv ▸ h0 : w.ownsRow B 121 2 (.slice (some ⟨g, 0, none⟩) fs.length c) fs.length (rowF fs))
    have r := rowF_at fs j hj
    rw [Nat.zero_add]
    exact ⟨(k.cellAt (j * 2) (by omega)).trans r.1, (k.cellAt (j * 2 + 1) (by omega)).trans r.2⟩
theorem OwnF.keep {B : Nat} {w w' : World} {v : Value} {fs : Fs} (h : OwnF B w v fs) (b : Below w.heap.size w w') : OwnF B w' v fs := owns_below h b
theorem OwnF.mono {B C : Nat} {w : World} {v : Value} {fs : Fs} (h : OwnF B w v fs) (hC : C ≤ B) : OwnF C w v fs := owns_mono h hC
theorem OwnF.nil (B : Nat) (w : World) : OwnF B w (.slice none 0 0) [] := World.ownsRow_nil _ _ _ _
theorem OwnF.empty (B : Nat) (w : World) (hB : B ≤ w.heap.size) : OwnF B (w.alloc (.cells #[] 121)) (.slice (some ⟨w.heap.size, 0, none⟩) 0 0) [] :=
  ⟨rfl, .inr ⟨w.heap.size, 0, #[], rfl, hB, new_at _ _, Nat.le_refl _, by decide, rfl, rfl⟩⟩
theorem infoF : (Tryz.prog.info? 121).map (fun i => (i.zero, i.size, i.bytes)) = some (some (.agg #[.string ByteArray.empty, .string ByteArray.empty]), 2, 32) := by kernel_rfl
theorem ownF_append {B C : Nat} {w : World} {v : Value} {X Y : Fs} {a : Option Addr} {n c : Nat} (h : OwnF B w v X) (hs : Fds C w (.slice a n c) Y) (hmax : X.length + Y.length ≤ 4294967296) (hB : B ≤ w.heap.size) :
    ∃ v' w', (Builtin.append_ #[41, 41] 41 #[v, .slice a n c]).run Tryz.prog w = .ok v' w' ∧ OwnF B w' v' (X ++ Y) ∧ Below B w w' := by
  obtain ⟨i, hi, hz0, hz1, hz2⟩ := info_parts infoF
  obtain ⟨a', c', e, hnil, h1, h2, h3⟩ := hs
  obtain ⟨e1, e2, e3⟩ := slice_inj e
  subst e1 e2 e3
  have hmx : X.length + Y.length ≤ maxLen := by unfold maxLen; omega
  cases a with
  | none =>
    have hc := hnil rfl
    have hy : Y = [] := by
      rcases Nat.eq_zero_or_pos Y.length with q | q
      · exact List.eq_nil_of_length_eq_zero q
      · obtain ⟨_, _, q, _⟩ := h3 q; cases q
    subst hy hc
    exact ⟨v, w, run_append_owned_none w B 41 41 121 i 2 Tryz.underlying41 hi v _ _ h, by rw [List.append_nil]; exact h, Below.refl _ _⟩
  | some ad =>
    obtain ⟨v', w', hr, q1, q2, q3, q4⟩ := run_append_own_at (P := Tryz.prog) w B 41 41 121 i (.agg #[.string ByteArray.empty, .string ByteArray.empty]) 2 32 Tryz.underlying41 hi hz0 hz1 hz2 rfl (by decide) v X.length (rowF X) h ad Y.length c (rowF Y) (rowF_len Y)
      (fun j u hj => by
        have hjl := (List.getElem?_eq_some_iff.1 hj).1
        rw [rowF_len] at hjl
        obtain ⟨k, off, ha, _, hc⟩ := h3 (by omega)
        have : ad = ⟨k, off, none⟩ := by simpa using ha
        subst this
        rw [addr_add]
        have r := rowF_at Y (j / 2) (by omega)
        have q := hc (j / 2) (by omega)
        rcases Nat.mod_two_eq_zero_or_one j with m | m
        · have e1 : j / 2 * 2 = j := by omega
          rw [e1] at r q
          rw [q.1, ← r.1, hj]
        · have e1 : j / 2 * 2 + 1 = j := by omega
          have e2 : off + j / 2 * 2 + 1 = off + j := by omega
          rw [e1] at r
          rw [e2] at q
          rw [q.2, ← r.2, hj]) (rowF_one _) hmx (by omega) hB
    refine ⟨v', w', hr, ?_, (Below.refl _ _).grown q2 hB (fun q hq => (h.lt q hq).1)⟩
    unfold OwnF
    rw [List.length_append, rowF_app]; exact q1
end Go.Proofs.YtemmmdhmkegaaaaGreatDoor

/- The parts of a list, byte by byte. -/
namespace Go.Proofs.YtemmmdhmkegaaaaGreatDoor
open Go.RowKit
set_option linter.unusedVariables false

def cuts : List UInt8 → List UInt8 → List (List UInt8)
  | acc, [] => [acc]
  | acc, b :: l => if b = 44 then acc :: cuts [] l else cuts (acc ++ [b]) l
theorem cuts_miss : ∀ (l acc : List UInt8), Lib.index l [44] = -1 → cuts acc l = [acc ++ l]
  | [], acc, _ => by simp [cuts]
  | b :: l, acc, h => by
    rw [Lib.index] at h
    by_cases hb : b = 44
    · subst hb; simp [List.isPrefixOf] at h
    · have hp : ([44] : List UInt8).isPrefixOf (b :: l) = false := by simp [List.isPrefixOf, Ne.symm hb]
      rw [hp] at h
      have hge := Lib.index_ge l [44]
      have hm : Lib.index l [44] = -1 := by
        by_cases e : Lib.index l [44] = -1
        · exact e
        · rw [if_neg (by decide), if_neg (fun q => e (beq_iff_eq.1 q))] at h; omega
      rw [cuts, if_neg hb, cuts_miss l _ hm]; simp
theorem cuts_hit : ∀ (l acc : List UInt8) (i : Nat), Lib.index l [44] = i → cuts acc l = (acc ++ l.take i) :: cuts [] (l.drop (i + 1))
  | [], acc, i, h => by simp [Lib.index] at h
  | b :: l, acc, i, h => by
    rw [Lib.index] at h
    by_cases hb : b = 44
    · subst hb
      have : i = 0 := by simp [List.isPrefixOf] at h; omega
      subst this
      simp [cuts]
    · have hp : ([44] : List UInt8).isPrefixOf (b :: l) = false := by simp [List.isPrefixOf, Ne.symm hb]
      rw [hp, if_neg (by decide)] at h
      have hge := Lib.index_ge l [44]
      by_cases e : Lib.index l [44] = -1
      · rw [if_pos (beq_iff_eq.2 e)] at h; omega
      · rw [if_neg (fun q => e (beq_iff_eq.1 q))] at h
        obtain ⟨j, rfl⟩ : ∃ j, i = j + 1 := ⟨i - 1, by omega⟩
        rw [cuts, if_neg hb, cuts_hit l _ j (by omega)]
        simp
theorem split_cuts : ∀ (k : Nat) (s : ByteArray), Lib.countB s ⟨#[44]⟩ = k → (Lib.splitB ⟨#[44]⟩ 0 k s).map (·.data.toList) = cuts [] s.data.toList
  | 0, s, hk => by
    rcases Lib.indexB_cases s ⟨#[44]⟩ with hix | ⟨i, hix, _⟩
    · rw [cuts_miss _ _ hix]; rfl
    · have := Lib.countB_hit s ⟨#[44]⟩ i (by decide) hix; omega
  | k + 1, s, hk => by
    rcases Lib.indexB_cases s ⟨#[44]⟩ with hix | ⟨i, hix, _⟩
    · rw [Lib.countB_miss s _ hix] at hk; omega
    · rw [Lib.splitB_hit _ 0 k s i hix, List.map_cons, split_cuts k _ (by have := Lib.countB_hit s ⟨#[44]⟩ i (by decide) hix; omega), cuts_hit _ _ i hix, Lib.extract_from_zero, Lib.extract_to_end]
      rfl
theorem pieces_cuts (s : ByteArray) : (pieces s).map (·.data.toList) = cuts [] s.data.toList := split_cuts _ s rfl
theorem pieces_length (s : ByteArray) : (pieces s).length = Lib.countB s ⟨#[44]⟩ + 1 := Lib.splitB_all ⟨#[44]⟩ (by decide) 0 _ s rfl
theorem cuts_len : ∀ (l acc : List UInt8), ∀ p ∈ cuts acc l, p.length ≤ acc.length + l.length
  | [], acc, p, h => by
    rw [cuts, List.mem_singleton] at h
    rw [h]; simp
  | b :: l, acc, p, h => by
    rw [cuts] at h
    split at h
    · cases h with
      | head => simp
      | tail _ h => have := cuts_len l [] p h; simp at this ⊢; omega
    · have := cuts_len l (acc ++ [b]) p h
      simp at this ⊢; omega
theorem pieces_size (s : ByteArray) : ∀ p ∈ pieces s, p.size ≤ s.size := by
  intro p hp
  have h : p.data.toList ∈ cuts [] s.data.toList := by rw [← pieces_cuts]; exact List.mem_map.2 ⟨p, hp, rfl⟩
  have k := cuts_len _ _ _ h
  have k2 : p.size = p.data.toList.length := rfl
  have k3 : s.size = s.data.toList.length := rfl
  simp at k k2 k3
  omega
theorem map_data_inj {a b : List ByteArray} (h : a.map (·.data.toList) = b.map (·.data.toList)) : a = b := by
  induction a generalizing b with
  | nil => cases b with
    | nil => rfl
    | cons _ _ => cases h
  | cons x a ih => cases b with
    | nil => cases h
    | cons y b =>
      rw [List.map_cons, List.map_cons] at h
      injection h with h1 h2
      rw [bytes_eq h1, ih h2]

def Scan (s : ByteArray) (ps : List ByteArray) (f k : Nat) : Prop := f ≤ k ∧ k ≤ s.size ∧ ps.map (·.data.toList) ++ cuts ((s.data.toList.take k).drop f) (s.data.toList.drop k) = cuts [] s.data.toList
theorem Scan.start (s : ByteArray) : Scan s [] 0 0 := ⟨Nat.le_refl _, Nat.zero_le _, by simp⟩
theorem Scan.go {s : ByteArray} {ps : List ByteArray} {f k : Nat} (h : Scan s ps f k) (hk : k < s.size) (hb : s[k] ≠ 44) : Scan s ps f (k + 1) := by
  obtain ⟨h1, _, h3⟩ := h
  have hk' : k < s.data.toList.length := hk
  refine ⟨by omega, hk, ?_⟩
  rw [List.drop_eq_getElem_cons hk', cuts, if_neg (show s.data.toList[k] ≠ 44 from hb)] at h3
  rw [← h3, List.take_succ_eq_append_getElem hk', List.drop_append_of_le_length (by rw [List.length_take]; omega)]
theorem Scan.cut {s : ByteArray} {ps : List ByteArray} {f k : Nat} (h : Scan s ps f k) (hk : k < s.size) (hb : s[k] = 44) : Scan s (ps ++ [s.extract f k]) (k + 1) (k + 1) := by
  obtain ⟨h1, _, h3⟩ := h
  have hk' : k < s.data.toList.length := hk
  refine ⟨Nat.le_refl _, hk, ?_⟩
  rw [List.drop_eq_getElem_cons hk', cuts, if_pos (show s.data.toList[k] = 44 from hb)] at h3
  have hd : List.drop (k + 1) (List.take (k + 1) s.data.toList) = [] := List.drop_eq_nil_of_le (by rw [List.length_take]; omega)
  rw [← h3, hd, List.map_append, List.map_cons, List.map_nil, Lib.extract_data, ← List.drop_take, List.append_assoc, List.singleton_append]
theorem Scan.fin {s : ByteArray} {ps : List ByteArray} {f : Nat} (h : Scan s ps f s.size) : ps ++ [s.extract f s.size] = pieces s := by
  obtain ⟨h1, _, h3⟩ := h
  have hd : List.drop s.size s.data.toList = [] := List.drop_eq_nil_of_le (Nat.le_refl _)
  rw [hd, cuts] at h3
  refine map_data_inj ?_
  rw [pieces_cuts, ← h3, List.map_append, List.map_cons, List.map_nil, Lib.extract_data, List.drop_take]
end Go.Proofs.YtemmmdhmkegaaaaGreatDoor

/- Get and List: what each answers of fields. -/
namespace Go.Proofs.YtemmmdhmkegaaaaGreatDoor
open Go.ChangeShapes Go.WideShapes Go.ChangeAt Go.RowKit
set_option linter.unusedVariables false

def smT (a b : ByteArray) : Bool := (foldS a).toList == (foldS b).toList
def getF (fs : Fs) (n : ByteArray) : List ByteArray := (fs.filter fun f => smT f.1 n).map (·.2)
def splT (s : ByteArray) : List ByteArray := keepT (pieces s)
def splA (xs : List ByteArray) : List ByteArray := xs.flatMap splT
def listF (fs : Fs) (n : ByteArray) : List ByteArray := splA (getF fs n)
theorem getF_snoc (fs : Fs) (f : ByteArray × ByteArray) (n : ByteArray) : getF (fs ++ [f]) n = getF fs n ++ (if smT f.1 n = true then [f.2] else []) := by
  unfold getF
  rw [List.filter_append, List.map_append]
  congr 1
  cases h : smT f.1 n <;> simp [h]
theorem getF_len (fs : Fs) (n : ByteArray) : (getF fs n).length ≤ fs.length := by
  unfold getF
  rw [List.length_map]
  exact List.length_filter_le _ _
theorem getF_mem {fs : Fs} {n x : ByteArray} (h : x ∈ getF fs n) : ∃ f ∈ fs, f.2 = x := by
  unfold getF at h
  obtain ⟨f, hf, rfl⟩ := List.mem_map.1 h
  exact ⟨f, (List.mem_filter.1 hf).1, rfl⟩
def FBd (N : Nat) (fs : Fs) : Prop := ∀ f ∈ fs, f.1.size ≤ N ∧ f.2.size ≤ N
theorem getF_bd {N : Nat} {fs : Fs} {n : ByteArray} (h : FBd N fs) : TBd N (getF fs n) := fun x hx => by
  obtain ⟨f, hf, rfl⟩ := getF_mem hx
  exact (h f hf).2
theorem same_sm (a b : ByteArray) (w : World) (ha : a.size ≤ maxLen) (hb : b.size ≤ maxLen) :
    Calls Tryz.prog 135 #[.string a, .string b] w fun e w' => e = .returned (.bool (smT a b)) ∧ Below w.heap.size w w' := same_any a b w ha hb

set_option maxRecDepth 100000 in
set_option maxHeartbeats 1000000 in
theorem get_any (fs : Fs) (a : Option Addr) (c : Nat) (name : ByteArray) (w : World) (hf : Fds w.heap.size w (.slice a fs.length c) fs) (hb : FBd 140737488355328 fs) (hn : name.size ≤ 140737488355328) (hl : fs.length ≤ 16777216) :
    Calls Tryz.prog 136 #[.slice a fs.length c, .string name] w fun e w' => ∃ ao cv, e = .returned (.slice ao (getF fs name).length cv) ∧ OwnT w.heap.size w' (.slice ao (getF fs name).length cv) (getF fs name) ∧ Below w.heap.size w w' := by
  have hlm := hf.len
  unfold maxLen at hlm
  have HN : Hid (name.size ≤ maxLen) := by rw [Hid]; unfold maxLen; omega
  rcases Nat.eq_zero_or_pos fs.length with h0 | hp
  · have he : fs = [] := List.eq_nil_of_length_eq_zero h0
    subst he
    clear hf hb hn hl h0 hlm HN
    go_enter Tryz.func136, Tryz.ntmps136
    go_wp2_with fail
    refine wp_loop_rounds 1 ?_
    rw [rounds_succ]
    go_wp2
    go_ret
    exact ⟨none, 0, rfl, OwnT.nil _ _, Below.refl _ _⟩
  · obtain ⟨a', c', e, hnil, h1, h2, h3⟩ := hf
    obtain ⟨rfl, _, rfl⟩ := slice_inj e
    obtain ⟨g, off, rfl, hg, hc⟩ := h3 hp
    have HC : Hid (∀ (j : Nat) (hj : j < fs.length), w.cell? ⟨g, off + j * 2, none⟩ = some (.string fs[j].1) ∧ w.cell? ⟨g, off + j * 2 + 1, none⟩ = some (.string fs[j].2)) := hc
    have HBD : Hid (FBd 140737488355328 fs) := hb
    clear e hnil h1 h2 h3 hn hlm hc hb
    go_enter Tryz.func136, Tryz.ntmps136
    go_wp2_with fail
    go_loopw [5, 10] (fun v vi wr => ∃ (k : Nat) (ao : Option Addr) (cv : Nat), k ≤ fs.length ∧ vi = .int .i64 k ∧ v = .slice ao (getF (fs.take k) name).length cv ∧ OwnT w.heap.size wr v (getF (fs.take k) name) ∧ Below w.heap.size w wr) (fun _ vi _ => fs.length - (intOf vi).toNat)
    case atStart => exact ⟨0, none, 0, Nat.zero_le _, rfl, rfl, OwnT.nil _ _, Below.refl _ _⟩
    case round =>
      obtain ⟨k, ao, cv, hk, rfl, rfl, hown, hB⟩ := hrel
      by_cases hlt : k < fs.length
      · have hc1 := (hB.cell (p := ⟨g, off + k * 2, none⟩) hg).trans (HC.out k hlt).1
        have hc2 := (hB.cell (p := ⟨g, off + k * 2 + 1, none⟩) hg).trans (HC.out k hlt).2
        have hsz := HBD.out fs[k] (List.getElem_mem hlt)
        have hsn : Hid (getF (fs.take (k + 1)) name = getF (fs.take k) name ++ (if smT fs[k].1 name = true then [fs[k].2] else [])) := by
          rw [Hid, List.take_succ_eq_append_getElem hlt, getF_snoc]
        have hkl : (getF (fs.take k) name).length ≤ k := Nat.le_trans (getF_len _ _) (List.length_take_le _ _)
        generalize fs[k] = f at *
        obtain ⟨fn, fv⟩ := f
        simp only at hc1 hc2 hsz hsn
        have hs1 : Hid (fn.size ≤ maxLen) := by rw [Hid]; unfold maxLen; omega
        have hs2 : Hid (fv.size ≤ 281474976710656) := by rw [Hid]; omega
        have HS : Hid (∀ W, Calls Tryz.prog 135 #[.string fn, .string name] W fun e w' => e = .returned (.bool (smT fn name)) ∧ Below W.heap.size W w') := fun W => same_sm fn name W hs1.out HN.out
        generalize smT fn name = b at *
        have HO : Hid (OwnT w.heap.size wr (.slice ao (getF (fs.take k) name).length cv) (getF (fs.take k) name)) := hown
        have HKL : Hid ((getF (fs.take k) name).length ≤ 16777216) := by rw [Hid]; omega
        clear hsz hown hkl
        generalize getF (fs.take k) name = K at *
        go_wp2_with fail
        refine (HS.out _).mono ?_
        rintro e w2 ⟨rfl, B2⟩
        have g2 : w2.heap[wr.heap.size]? = some (.cells #[.string fn, .string fv] 121) := tblk_below (tblk_new _ _) B2
        have C2 : Below wr.heap.size wr w2 := ((Below.refl _ _).alloc (Nat.le_refl _) _).trans (B2.mono (by simp))
        have own2 := HO.out.keep C2
        have hB2 := hB.trans (C2.mono hB.size)
        have c1 : w2.cell? ⟨wr.heap.size, 1, none⟩ = some (.string fv) := tblk_cell g2 rfl
        clear g2 B2 C2 hB HO hc1 hc2 HS
        cases b
        · have hsn2 : Hid (getF (fs.take (k + 1)) name = K) := by rw [Hid, hsn.out, if_neg (by decide), List.append_nil]
          clear hsn
          go_wp2
          go_roundw
          case rel => exact ⟨k + 1, ao, cv, by omega, by go_num, by rw [hsn2.out], by rw [hsn2.out]; exact own2, hB2⟩
          case measure => simp [intOf]; omega
        · have hsn2 : Hid (getF (fs.take (k + 1)) name = K ++ [fv]) := by rw [Hid, hsn.out, if_pos rfl]
          clear hsn
          go_wp2_with fail
          refine (clone_any fv _ hs2.out).mono ?_
          rintro e w3 ⟨rfl, B3⟩
          have own3 := (own2.keep B3).keep ((Below.refl _ _).alloc (Nat.le_refl _) (.cells #[.string fv] 9))
          have hB3 := hB2.trans (B3.mono hB2.size)
          obtain ⟨v4, w4, r4, own4, B4⟩ := ownT_append own3 (one_txs w3 fv _ (Nat.lt_succ_self _)) (by have := HKL.out; simp; omega) (by have := hB3.size; simp; omega)
          have hB4 : Below w.heap.size w w4 := (hB3.alloc hB3.size _).trans B4
          obtain ⟨a4, c4, rfl, _⟩ := own4.form
          have HO4 : Hid (OwnT w.heap.size w4 (.slice a4 (K ++ [fv]).length c4) (K ++ [fv])) := own4
          have HR : Hid ((Builtin.append_ #[141, 141] 141 #[.slice ao K.length cv, .slice (some ⟨w3.heap.size, 0, none⟩) 1 1]).run Tryz.prog (w3.alloc (.cells #[.string fv] 9)) = .ok (.slice a4 (K ++ [fv]).length c4) w4) := r4
          clear own2 own3 own4 B3 B4 hB2 hB3 r4 c1
          have HL : Hid ((K ++ [fv]).length = (getF (fs.take (k + 1)) name).length) := by rw [Hid, hsn2.out]
          generalize (K ++ [fv]).length = L at *
          go_wp2_with (at_builtin; refine wpList_append_run2 rfl _ _ 141 141 rfl _ _ _ w4 rfl rfl HR.out ?_)
          go_roundw
          case rel => exact ⟨k + 1, a4, c4, by omega, by go_num, by rw [HL.out], by rw [hsn2.out]; exact HO4.out, hB4⟩
          case measure => simp [intOf]; omega
      · go_wp2
        go_ret
        have hk' : k = fs.length := by omega
        subst hk'
        rw [List.take_length] at *
        exact ⟨ao, cv, rfl, hown, hB⟩
end Go.Proofs.YtemmmdhmkegaaaaGreatDoor
