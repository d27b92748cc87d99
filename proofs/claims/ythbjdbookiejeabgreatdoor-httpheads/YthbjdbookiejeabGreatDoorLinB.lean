/- Cut, of the program and of the reference. -/
import Derived.Test.YthbjdbookiejeabGreatDoorLinA
namespace Go.Proofs.YthbjdbookiejeabGreatDoor
open Go.RowKit
set_option linter.unusedVariables false

/-- What Cut answers. -/
def cutV (m : Nat) (b : List UInt8) : Value := .tuple #[.string ⟨(cutS m b).toArray⟩, .int .i64 (cutN m b : Nat), .int .i64 (cutE m b)]
theorem cutV_hit {m k : Nat} {b : List UInt8} (h : cutAt m 0 b = (some k, 0)) : cutV m b = .tuple #[.string ⟨(b.take k).toArray⟩, .int .i64 ((k : Int) + 2), .int .i64 0] := by
  obtain ⟨h1, h2, h3⟩ := cut_hit h
  unfold cutV; rw [h1, h2, h3]; rfl
theorem cutV_miss {m : Nat} {e : Int} {b : List UInt8} (h : cutAt m 0 b = (none, e)) : cutV m b = .tuple #[.string ⟨#[]⟩, .int .i64 0, .int .i64 e] := by
  obtain ⟨h1, h2, h3⟩ := cut_miss h
  unfold cutV; rw [h1, h2, h3]; rfl
theorem toNat_ne {c : UInt8} (n : Nat) (d : UInt8) (hd : d.toNat = n) (h : ¬ c = d) : ¬ (c.toNat : Int) = (n : Int) := by
  intro e
  apply h
  apply UInt8.toNat_inj.1
  omega

set_option maxHeartbeats 4000000 in
theorem cut_any (b : List UInt8) (kb : Nat) (v : Value) (most : Int) (w : World) (hs : Src w kb v b) :
    Calls Tryz.prog 97 #[v, .int .i64 most] w fun e w' => e = .returned (cutV most.toNat b) ∧ w' = w := by
  obtain ⟨a, c, rfl, h1, h2, h3⟩ := hs
  obtain ⟨n, hn⟩ : ∃ n, n = b.length := ⟨_, rfl⟩
  obtain ⟨m, hm⟩ : ∃ m, m = most.toNat := ⟨_, rfl⟩
  rw [← hm, ← hn]
  rw [← hn] at h1
  unfold maxLen at h2
  have HN : Hid (n = b.length) := hn
  have HM : Hid (m = most.toNat) := hm
  have H3 : Hid (0 < b.length → ∃ off, a = some ⟨kb, off, none⟩ ∧ ∀ (j : Nat) (hj : j < b.length), w.cell? ⟨kb, off + j, none⟩ = some (bv b[j])) := h3
  clear hn hm h3
  go_enter Tryz.func97, Tryz.ntmps97
  go_wp2
  go_loop [12] (fun vi => ∃ k : Nat, k ≤ n ∧ vi = .int .i64 k ∧ Hid (cutAt m 0 b = cutAt m k (b.drop k))) (fun vi => n - (intOf vi).toNat)
  case atStart => exact ⟨0, Nat.zero_le _, rfl, rfl⟩
  case round =>
    obtain ⟨k, hk, rfl, hA⟩ := hrel
    by_cases hlt : k < n
    · have hlb : k < b.length := by have := HN.out; omega
      obtain ⟨off, rfl, hc⟩ := H3.out (by omega)
      have q1 : w.cell? ⟨kb, off + k, none⟩ = some (.int .u8 (b[k].toNat : Int)) := hc k hlb
      by_cases t1 : b[k] = 10
      · have HR : Hid (cutV m b = .tuple #[.string ⟨#[]⟩, .int .i64 0, .int .i64 20]) := cutV_miss (hA.out.trans (cutAt_ten hlb t1))
        rw [t1] at q1
        have q2 : w.cell? ⟨kb, off + k, none⟩ = some (.int .u8 10) := q1
        clear q1 hc t1 hlb H3 hA
        go_wp2
        refine bodyPost_ret (v := .tuple #[.string ⟨#[]⟩, .int .i64 0, .int .i64 20]) (by simp [results, Tryz.results97, go_sem]) rfl ⟨?_, rfl⟩
        rw [HR.out]
      · by_cases t2 : b[k] = 13
        · rw [t2] at q1
          have q2 : w.cell? ⟨kb, off + k, none⟩ = some (.int .u8 13) := q1
          clear q1
          by_cases t3 : k + 1 < n
          · have hlb1 : k + 1 < b.length := by have := HN.out; omega
            have q3 : w.cell? ⟨kb, off + (k + 1), none⟩ = some (.int .u8 (b[k + 1].toNat : Int)) := hc (k + 1) hlb1
            have hl : ((k : Int) + 1 == (n : Int)) = false := by simp; omega
            have hl' : ((k : Int) == (n : Int) - 1) = false := by simp; omega
            by_cases t4 : b[k + 1] = 10
            · have HR : Hid (cutV m b = .tuple #[.string ⟨(b.take k).toArray⟩, .int .i64 ((k : Int) + 2), .int .i64 0]) := cutV_hit (hA.out.trans (cutAt_end hlb1 t2 t4))
              rw [t4] at q3
              have q4 : w.cell? ⟨kb, off + (k + 1), none⟩ = some (.int .u8 10) := q3
              have hcv := conv_take (c := c) hc k (by omega)
              clear q3 hc t1 t2 t4 hlb hlb1 H3 hA
              go_wp2
              refine bodyPost_ret (v := .tuple #[.string ⟨(b.take k).toArray⟩, .int .i64 ((k : Int) + 2), .int .i64 0]) (by simp [results, Tryz.results97, go_sem]) rfl ⟨?_, rfl⟩
              rw [HR.out]
            · have HR : Hid (cutV m b = .tuple #[.string ⟨#[]⟩, .int .i64 0, .int .i64 20]) := cutV_miss (hA.out.trans (cutAt_bad hlb1 t2 t4))
              have t5 := toNat_ne 10 10 rfl t4
              have t6 : ¬ ((b[k + 1].toNat : Int) = 10) := t5
              clear t5 hc t1 t2 t4 hlb H3 hA
              generalize (b[k + 1].toNat : Int) = y at *
              have t9 : (y != 10) = true := by simpa using t6
              clear hlb1
              go_wp2
              refine bodyPost_ret (v := .tuple #[.string ⟨#[]⟩, .int .i64 0, .int .i64 20]) (by simp [results, Tryz.results97, go_sem]) rfl ⟨?_, rfl⟩
              rw [HR.out]
          · have HR : Hid (cutV m b = .tuple #[.string ⟨#[]⟩, .int .i64 0, .int .i64 0]) := cutV_miss (hA.out.trans (cutAt_last (by have := HN.out; omega) t2))
            obtain rfl : n = k + 1 := by omega
            clear hc t1 t2 hlb H3 hA
            go_wp2
            refine bodyPost_ret (v := .tuple #[.string ⟨#[]⟩, .int .i64 0, .int .i64 0]) (by simp [results, Tryz.results97, go_sem]) rfl ⟨?_, rfl⟩
            rw [HR.out]
        · have t5 : ¬ ((b[k].toNat : Int) = 10) := toNat_ne 10 10 rfl t1
          have t6 : ¬ ((b[k].toNat : Int) = 13) := toNat_ne 13 13 rfl t2
          by_cases t7 : m ≤ k
          · have HR : Hid (cutV m b = .tuple #[.string ⟨#[]⟩, .int .i64 0, .int .i64 2]) := cutV_miss (hA.out.trans (cutAt_long hlb t1 t2 t7))
            have t8 : max most 0 ≤ (k : Int) := by have := HM.out; omega
            clear hc t1 t2 H3 hA
            generalize (b[k].toNat : Int) = y at *
            clear hlb
            go_wp2
            refine bodyPost_ret (v := .tuple #[.string ⟨#[]⟩, .int .i64 0, .int .i64 2]) (by simp [results, Tryz.results97, go_sem]) rfl ⟨?_, rfl⟩
            rw [HR.out]
          · have HX : Hid (cutAt m 0 b = cutAt m (k + 1) (b.drop (k + 1))) := hA.out.trans (cutAt_next hlb t1 t2 t7)
            have t8 : ¬ max most 0 ≤ (k : Int) := by have := HM.out; omega
            clear hc t1 t2 H3 hA
            generalize (b[k].toNat : Int) = y at *
            clear hlb
            go_wp2
            go_round
            case rel => exact ⟨k + 1, by omega, by go_num, HX⟩
            case measure => simp [intOf]; omega
    · have HR : Hid (cutV m b = .tuple #[.string ⟨#[]⟩, .int .i64 0, .int .i64 0]) := cutV_miss (hA.out.trans (cutAt_fin (by have := HN.out; omega)))
      go_wp2
      refine bodyPost_ret (v := .tuple #[.string ⟨#[]⟩, .int .i64 0, .int .i64 0]) (by simp [results, Tryz.results97, go_sem]) rfl ⟨?_, rfl⟩
      rw [HR.out]
end Go.Proofs.YthbjdbookiejeabGreatDoor
