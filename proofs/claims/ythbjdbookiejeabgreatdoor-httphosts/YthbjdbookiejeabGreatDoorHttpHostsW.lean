/- Whatever the texts and the version, HttpHosts answers true: a request of HTTP/1.1 has just one Host field, one of HTTP/1.0 at most one, and it has a host, else 400; no condition. -/
import Derived.Test.YthbjdbookiejeabGreatDoorKc
import Derived.Test.YthbjdbookiejeabGreatDoorKl
import Derived.Test.YthbjdbookiejeabGreatDoorKh
import Derived.Test.YthbjdbookiejeabGreatDoorKd
import Derived.Lib.SmallJoins
import Derived.SizedLaws
import Derived.Deep.Strs
import Derived.Test.YthbjdbookiejeabGreatDoorRows
import Derived.Test.YthbjdbookiejeabGreatDoorCards
import Derived.Test.YthbjdbookiejeabGreatDoorTie
import Derived.Test.YthbjdbookiejeabGreatDoorKf
import Derived.WalkKit
import Derived.ProofKit
import Derived.OpenShut
import Derived.ShutString
import Derived.ChangeOld
import Derived.Below
import Derived.LaidMore
import Derived.Lay
import Derived.Stop.Joined
import Derived.SevenTiedAt
import Derived.Shelf.Vars
import Derived.Deep.DeepHandedRow
import Derived.Deep.DeepWitnessRowRef
/- The reference's Token, Value and Target: what each answers of every text. -/
namespace Go.Proofs.YthbjdbookiejeabGreatDoor
open Go.RowKit
set_option linter.unusedVariables false

/-- A byte, as a number: 256 cases. -/
theorem byte_all {P : Int → Prop} (h : ∀ n : Nat, n < 256 → P (n : Int)) (c : Int) (h0 : 0 ≤ c) (h1 : c < 256) : P c := by
  obtain ⟨n, rfl⟩ := Int.eq_ofNat_of_zero_le h0
  exact h n (by omega)
def letP (c : Int) : Bool := spanP 97 122 c || spanP 65 90 c
def tokL : List Int := [33, 35, 36, 37, 38, 39, 42, 43, 45, 46, 94, 95, 96, 124, 126]
theorem tok_iff (c : Int) (h0 : 0 ≤ c) (h1 : c < 256) : tokP c = (tokL.any (fun x => c == x) || (letP c || spanP 48 57 c)) :=
  byte_all (P := fun c => tokP c = (tokL.any (fun x => c == x) || (letP c || spanP 48 57 c))) (by decide +kernel) c h0 h1
theorem val_iff (c : Int) (h0 : 0 ≤ c) (h1 : c < 256) : valP c = !((decide (c < 32) && !decide (c = 9)) || decide (c = 127)) :=
  byte_all (P := fun c => valP c = !((decide (c < 32) && !decide (c = 9)) || decide (c = 127))) (by decide +kernel) c h0 h1

theorem letter_any (c : Int) (w : World) : Calls Tryz.prog 126 #[.int .u8 c] w fun e w' => e = .returned (.bool (letP c)) ∧ w' = w := by
  unfold letP spanP
  by_cases a : 97 ≤ c
  · by_cases b : c ≤ 122
    · go_enter Tryz.func126, Tryz.ntmps126
      go_wp2
      go_ret
      exact ⟨ret_b (by simp [a, b]), rfl⟩
    · have d : ¬ c ≤ 90 := by omega
      have f : 65 ≤ c := by omega
      go_enter Tryz.func126, Tryz.ntmps126
      go_wp2
      go_ret
      exact ⟨ret_b (by simp [b, d]), rfl⟩
  · by_cases f : 65 ≤ c
    · by_cases d : c ≤ 90
      · go_enter Tryz.func126, Tryz.ntmps126
        go_wp2
        go_ret
        exact ⟨ret_b (by simp), rfl⟩
      · go_enter Tryz.func126, Tryz.ntmps126
        go_wp2
        go_ret
        exact ⟨ret_b (by simp [d]; omega), rfl⟩
    · go_enter Tryz.func126, Tryz.ntmps126
      go_wp2
      go_ret
      exact ⟨ret_b (by simp; omega), rfl⟩

theorem rdig_any (c : Int) (w : World) : Calls Tryz.prog 93 #[.int .u8 c] w fun e w' => e = .returned (.bool (spanP 48 57 c)) ∧ w' = w := by
  unfold spanP
  by_cases a : 48 ≤ c
  · by_cases b : c ≤ 57
    · go_enter Tryz.func93, Tryz.ntmps93
      go_wp2
      go_ret
      exact ⟨ret_b (by simp [a, b]), rfl⟩
    · go_enter Tryz.func93, Tryz.ntmps93
      go_wp2
      go_ret
      exact ⟨ret_b (by simp [b]), rfl⟩
  · go_enter Tryz.func93, Tryz.ntmps93
    go_wp2
    go_ret
    exact ⟨ret_b (by simp; omega), rfl⟩

set_option maxHeartbeats 4000000 in
theorem tokenByte_any (c : Int) (w : World) (h0 : 0 ≤ c) (h1 : c < 256) : Calls Tryz.prog 92 #[.int .u8 c] w fun e w' => e = .returned (.bool (tokP c)) ∧ w' = w := by
  by_cases k0 : c = 33
  · subst k0
    go_enter Tryz.func92, Tryz.ntmps92
    go_wp2
    go_ret
    exact ⟨ret_b (by decide +kernel), rfl⟩
  by_cases k1 : c = 35
  · subst k1
    go_enter Tryz.func92, Tryz.ntmps92
    go_wp2
    go_ret
    exact ⟨ret_b (by decide +kernel), rfl⟩
  by_cases k2 : c = 36
  · subst k2
    go_enter Tryz.func92, Tryz.ntmps92
    go_wp2
    go_ret
    exact ⟨ret_b (by decide +kernel), rfl⟩
  by_cases k3 : c = 37
  · subst k3
    go_enter Tryz.func92, Tryz.ntmps92
    go_wp2
    go_ret
    exact ⟨ret_b (by decide +kernel), rfl⟩
  by_cases k4 : c = 38
  · subst k4
    go_enter Tryz.func92, Tryz.ntmps92
    go_wp2
    go_ret
    exact ⟨ret_b (by decide +kernel), rfl⟩
  by_cases k5 : c = 39
  · subst k5
    go_enter Tryz.func92, Tryz.ntmps92
    go_wp2
    go_ret
    exact ⟨ret_b (by decide +kernel), rfl⟩
  by_cases k6 : c = 42
  · subst k6
    go_enter Tryz.func92, Tryz.ntmps92
    go_wp2
    go_ret
    exact ⟨ret_b (by decide +kernel), rfl⟩
  by_cases k7 : c = 43
  · subst k7
    go_enter Tryz.func92, Tryz.ntmps92
    go_wp2
    go_ret
    exact ⟨ret_b (by decide +kernel), rfl⟩
  by_cases k8 : c = 45
  · subst k8
    go_enter Tryz.func92, Tryz.ntmps92
    go_wp2
    go_ret
    exact ⟨ret_b (by decide +kernel), rfl⟩
  by_cases k9 : c = 46
  · subst k9
    go_enter Tryz.func92, Tryz.ntmps92
    go_wp2
    go_ret
    exact ⟨ret_b (by decide +kernel), rfl⟩
  by_cases k10 : c = 94
  · subst k10
    go_enter Tryz.func92, Tryz.ntmps92
    go_wp2
    go_ret
    exact ⟨ret_b (by decide +kernel), rfl⟩
  by_cases k11 : c = 95
  · subst k11
    go_enter Tryz.func92, Tryz.ntmps92
    go_wp2
    go_ret
    exact ⟨ret_b (by decide +kernel), rfl⟩
  by_cases k12 : c = 96
  · subst k12
    go_enter Tryz.func92, Tryz.ntmps92
    go_wp2
    go_ret
    exact ⟨ret_b (by decide +kernel), rfl⟩
  by_cases k13 : c = 124
  · subst k13
    go_enter Tryz.func92, Tryz.ntmps92
    go_wp2
    go_ret
    exact ⟨ret_b (by decide +kernel), rfl⟩
  by_cases k14 : c = 126
  · subst k14
    go_enter Tryz.func92, Tryz.ntmps92
    go_wp2
    go_ret
    exact ⟨ret_b (by decide +kernel), rfl⟩
  have E : Hid (tokP c = (letP c || spanP 48 57 c)) := by rw [Hid, tok_iff c h0 h1]; simp [tokL, k0, k1, k2, k3, k4, k5, k6, k7, k8, k9, k10, k11, k12, k13, k14]
  have m0 : (c == 33) = false := beq_eq_false_iff_ne.2 k0
  have m1 : (c == 35) = false := beq_eq_false_iff_ne.2 k1
  have m2 : (c == 36) = false := beq_eq_false_iff_ne.2 k2
  have m3 : (c == 37) = false := beq_eq_false_iff_ne.2 k3
  have m4 : (c == 38) = false := beq_eq_false_iff_ne.2 k4
  have m5 : (c == 39) = false := beq_eq_false_iff_ne.2 k5
  have m6 : (c == 42) = false := beq_eq_false_iff_ne.2 k6
  have m7 : (c == 43) = false := beq_eq_false_iff_ne.2 k7
  have m8 : (c == 45) = false := beq_eq_false_iff_ne.2 k8
  have m9 : (c == 46) = false := beq_eq_false_iff_ne.2 k9
  have m10 : (c == 94) = false := beq_eq_false_iff_ne.2 k10
  have m11 : (c == 95) = false := beq_eq_false_iff_ne.2 k11
  have m12 : (c == 96) = false := beq_eq_false_iff_ne.2 k12
  have m13 : (c == 124) = false := beq_eq_false_iff_ne.2 k13
  have m14 : (c == 126) = false := beq_eq_false_iff_ne.2 k14
  rw [E.out]
  clear E k0 k1 k2 k3 k4 k5 k6 k7 k8 k9 k10 k11 k12 k13 k14
  cases hl : letP c
  · have HL : Hid (letP c = false) := hl
    clear hl
    go_enter Tryz.func92, Tryz.ntmps92
    go_wp2_with fail
    refine (letter_any c _).mono ?_
    rw [HL.out]
    rintro e w1 ⟨rfl, rfl⟩
    go_wp2_with fail
    refine (rdig_any c _).mono ?_
    rintro e w1 ⟨rfl, rfl⟩
    go_wp2
    go_ret
    exact ⟨ret_b (by simp), rfl⟩
  · have HL : Hid (letP c = true) := hl
    clear hl
    go_enter Tryz.func92, Tryz.ntmps92
    go_wp2_with fail
    refine (letter_any c _).mono ?_
    rw [HL.out]
    rintro e w1 ⟨rfl, rfl⟩
    go_wp2
    go_ret
    exact ⟨ret_b (by simp), rfl⟩
end Go.Proofs.YthbjdbookiejeabGreatDoor

/- The reference's loops; then Token, Value and Target themselves. -/
namespace Go.Proofs.YthbjdbookiejeabGreatDoor
open Go.RowKit
set_option linter.unusedVariables false

set_option maxHeartbeats 1000000 in
theorem rToken_any (s : ByteArray) (w : World) (hs : s.size ≤ maxLen) :
    Calls Tryz.prog 59 #[.string s] w fun e w' => e = .returned (.bool (allB tokP s.data.toList && decide (0 < s.size))) ∧ w' = w := by
  unfold maxLen at hs
  go_enter Tryz.func59, Tryz.ntmps59
  go_wp2
  go_loop [3] (fun i => ∃ k : Nat, k ≤ s.size ∧ i = .int .i64 k ∧ Hid (allB tokP (s.data.toList.take k) = true)) (fun i => s.size - (intOf i).toNat)
  case atStart => exact ⟨0, Nat.zero_le _, rfl, rfl⟩
  case round =>
    obtain ⟨k, hk, rfl, hA⟩ := hrel
    by_cases hlt : k < s.size
    · have bd := byte_bd s[k]
      go_wp2_with fail
      refine (tokenByte_any _ _ bd.1 bd.2).mono ?_
      rintro e w' ⟨rfl, rfl⟩
      cases hpc : tokP (s[k].toNat : Int)
      · have HC : Hid (tokP (s[k].toNat : Int) = false) := hpc
        clear hpc
        go_wp2
        go_ret
        exact ⟨ret_b (by rw [allB_false s k hlt HC.out]; rfl), rfl⟩
      · have HC : Hid (tokP (s[k].toNat : Int) = true) := hpc
        clear hpc
        go_wp2
        go_round
        case rel => exact ⟨k + 1, by omega, by go_num, allB_snoc s k hlt hA.out HC.out⟩
        case measure => simp [intOf]; omega
    · go_wp2
      go_ret
      have hk' : k = s.size := by omega
      subst hk'
      exact ⟨ret_b (by have h := hA.out; rw [List.take_of_length_le (by simp)] at h; rw [h]; simp), rfl⟩

set_option maxHeartbeats 1000000 in
theorem rValue_any (s : ByteArray) (w : World) (hs : s.size ≤ maxLen) :
    Calls Tryz.prog 18 #[.string s] w fun e w' => e = .returned (.bool (allB valP s.data.toList)) ∧ w' = w := by
  unfold maxLen at hs
  go_enter Tryz.func18, Tryz.ntmps18
  go_wp2
  go_loop [3] (fun i => ∃ k : Nat, k ≤ s.size ∧ i = .int .i64 k ∧ Hid (allB valP (s.data.toList.take k) = true)) (fun i => s.size - (intOf i).toNat)
  case atStart => exact ⟨0, Nat.zero_le _, rfl, rfl⟩
  case round =>
    obtain ⟨k, hk, rfl, hA⟩ := hrel
    by_cases hlt : k < s.size
    · have bd := byte_bd s[k]
      have hv : Hid (valP (s[k].toNat : Int) = _) := val_iff _ bd.1 bd.2
      by_cases a : (s[k].toNat : Int) < 32
      · by_cases b : (s[k].toNat : Int) = 9
        · have HC : Hid (valP (s[k].toNat : Int) = true) := by rw [Hid, b]; decide +kernel
          have b1 : ((s[k].toNat : Int) != 9) = false := by simp [b]
          have b2 : ((s[k].toNat : Int) == 127) = false := by simp [b]
          clear b hv
          go_wp2
          go_round
          case rel => exact ⟨k + 1, by omega, by go_num, allB_snoc s k hlt hA.out HC.out⟩
          case measure => simp [intOf]; omega
        · have HC : Hid (valP (s[k].toNat : Int) = false) := by rw [Hid, hv.out]; simp [a, b]
          have b1 : ((s[k].toNat : Int) != 9) = true := by simp [b]
          clear b hv
          go_wp2
          go_ret
          exact ⟨ret_b (allB_false s k hlt HC.out).symm, rfl⟩
      · by_cases b : (s[k].toNat : Int) = 127
        · have HC : Hid (valP (s[k].toNat : Int) = false) := by rw [Hid, hv.out]; simp [b]
          have b2 : ((s[k].toNat : Int) == 127) = true := by simp [b]
          clear b hv
          go_wp2
          go_ret
          exact ⟨ret_b (allB_false s k hlt HC.out).symm, rfl⟩
        · have HC : Hid (valP (s[k].toNat : Int) = true) := by rw [Hid, hv.out]; simp [a, b]
          have b2 : ((s[k].toNat : Int) == 127) = false := by simp [b]
          clear b hv
          go_wp2
          go_round
          case rel => exact ⟨k + 1, by omega, by go_num, allB_snoc s k hlt hA.out HC.out⟩
          case measure => simp [intOf]; omega
    · go_wp2
      go_ret
      have hk' : k = s.size := by omega
      subst hk'
      exact ⟨ret_b (by have h := hA.out; rw [List.take_of_length_le (by simp)] at h; exact h.symm), rfl⟩

end Go.Proofs.YthbjdbookiejeabGreatDoor

/- HttpHosts walked. -/
namespace Go.Proofs.YthbjdbookiejeabGreatDoor
open Go.RowKit
set_option linter.unusedVariables false

theorem str_ne {a b : ByteArray} (h : ¬ a = b) : (a.toList != b.toList) = true := by
  rw [bne_iff_ne, ByteArray.toList_eq, ByteArray.toList_eq]
  intro e
  exact h (ByteArray.ext (Array.toList_inj.1 e))

set_option maxRecDepth 100000 in
set_option maxHeartbeats 8000000 in
theorem hosts8_walk (hs : List ByteArray) (a : Option Addr) (len cap : Nat) (old : Bool) (w : World) (hT : Txs w.heap.size w (.slice a len cap) hs) (hL : Lv w) :
    Calls Tryz.prog 6 #[.slice a len cap, .bool old] w fun e w' => e = .returned (.bool true) ∧ Below w.heap.size w w' := by
  have HA : Hid (Calls Tryz.prog 9 #[] w fun e w' => e = .returned (.bool true) ∧ Below w.heap.size w w') := asking_any w hL
  have hlen := hT.len
  by_cases hbig : 4 < len
  · have hb2 : (4 : Int) < (len : Int) := by omega
    clear hT hL hlen
    go_enter Tryz.func6, Tryz.ntmps6
    go_wp2_with fail
    refine HA.out.mono ?_
    rintro e w1 ⟨rfl, B1⟩
    go_wp2
    go_ret
    exact ⟨rfl, B1⟩
  have hb2 : ¬ (4 : Int) < (len : Int) := by omega
  have HL : Hid (Lv w) := hL
  obtain ⟨hl1, hl2, hl3⟩ := hlen
  subst hl1
  have HLE : Hid (hs.length ≤ 4) := by rw [Hid]; omega
  unfold maxLen at hl3
  clear hL
  rcases Nat.eq_zero_or_pos hs.length with h0 | hp
  · have he : hs = [] := List.eq_nil_of_length_eq_zero h0
    subst he
    clear hT hl2 hl3 h0 hbig hb2
    have HCO : Hid (∀ h ∈ ([] : List ByteArray), HostC h) := fun h hh => by cases hh
    obtain ⟨hs, hhs⟩ : ∃ hs : List ByteArray, hs = [] := ⟨_, rfl⟩
    have HWT : Hid ((⟨#[]⟩ : ByteArray) = lastN hs) := by rw [hhs]; exact rfl
    rw [← hhs] at HLE HCO
    have hl0 : ([] : List ByteArray).length = 0 := rfl
    rw [hl0]
    cases old
    · obtain ⟨old, hold⟩ : ∃ old : Bool, old = false := ⟨_, rfl⟩
      have HSD0 : Hid ((⟨#[71, 69, 84, 32, 47, 32, 72, 84, 84, 80, 47, 49, 46, 49, 13, 10]⟩ : ByteArray).data.toList = hostsB old hs) := by rw [Hid, hold, hhs]; rfl
      have HG : Hid (false = ((decide (hs.length = 1) || (old && decide (hs.length = 0))) && okAll hs)) := by rw [Hid, hold, hhs]; rfl
      obtain ⟨s, hs0⟩ : ∃ s : ByteArray, s = ⟨#[71, 69, 84, 32, 47, 32, 72, 84, 84, 80, 47, 49, 46, 49, 13, 10]⟩ := ⟨_, rfl⟩
      have HSD : Hid (s.data.toList = hostsB old hs) := by rw [hs0]; exact HSD0
      have hsz : s.size ≤ 444 := by rw [hs0]; decide
      clear HSD0
      go_enter Tryz.func6, Tryz.ntmps6
      go_wp2_with fail
      refine HA.out.mono ?_
      rintro e wr ⟨rfl, hB⟩
      clear HA
      go_wp2_with fail
      refine wp_loop_rounds 1 ?_
      rw [rounds_succ]
      rw [← hs0]
      clear hs0 hhs hold
      obtain ⟨S2, hS2⟩ : ∃ S2 : ByteArray, S2 = s ++ ⟨#[13, 10]⟩ := ⟨_, rfl⟩
      have hcat : ∀ W : World, (Op.stringOp .add s ⟨#[13, 10]⟩).run Tryz.prog W = .ok (.string S2) W := fun W => by rw [hS2]; exact sum_run W s ⟨#[13, 10]⟩ (by show s.size + 2 ≤ _; omega)
      have hS2d : S2.data.toList = hostsB old hs ++ [13, 10] := by rw [hS2, ByteArray.data_append, Array.toList_append, HSD.out]
      have hS2s : S2.size = s.size + 2 := by rw [hS2, ByteArray.size_append]; rfl
      have hbl : (hostsB old hs).length = s.size := by rw [← HSD.out]; rfl
      obtain ⟨v1, w1, r1, S1, B1, _⟩ := conv_src wr S2 (by rw [hS2s]; unfold maxLen; omega)
      have C1 := hB.trans (B1.mono hB.size)
      rw [hS2d] at S1
      have hlt1 : 0 < (hostsB old hs ++ [13, 10]).length → wr.heap.size < w1.heap.size := fun _ => by assumption
      have hlen1 : (hostsB old hs ++ [13, 10]).length = s.size + 2 := by rw [List.length_append, hbl]; rfl
      obtain ⟨a1, c1, rfl, q1, q2, q3⟩ := id S1
      have hcv : (convert 9 22 (.string S2)).run Tryz.prog wr = .ok (.slice a1 (s.size + 2) c1) w1 := by rw [← hlen1]; exact r1
      have HRQ : Hid (Calls Tryz.prog 11 #[.slice a1 (s.size + 2) c1] w1 (ReqR w1 (reqQ (hostsB old hs ++ [13, 10])))) := by
        have k := hreq_any (hostsB old hs ++ [13, 10]) wr.heap.size c1 a1 w1 S1 hlt1 (HL.out.below C1).max (by rw [hlen1]; omega)
        rw [hlen1] at k
        exact k
      have hq := reqQ_hosts old hs HLE.out HCO.out
      have hHQ : hostsOk hs (miOf old) = true → hostQ (hostFs hs) = lastN hs := hostQ_hosts old hs
      rw [hbl] at hq
      rw [hosts_same] at hq hHQ
      rw [← HG.out] at hq hHQ
      have HFB : Hid (FBd 1000 (hostFs hs)) := fun f hf => by
        obtain ⟨h, hh, rfl⟩ := List.mem_map.1 hf
        exact ⟨show (4 : Nat) ≤ 1000 by decide, by have := (HCO.out h hh).sz; simp only; omega⟩
      have HFL : Hid ((hostFs hs).length ≤ 1024) := by
        rw [Hid]; unfold hostFs; rw [List.length_map]; have := HLE.out; omega
      have hwt := HWT.out
      have HSZ : Hid (s.size ≤ 444) := hsz
      clear r1 S1 B1 q1 q2 q3 hS2 hS2d hS2s hbl hlt1 hlen1 hB HSD HG HWT
      rw [if_neg (by decide)] at hq
      rw [hq] at HRQ
      unfold ReqR rdV rdNo at HRQ
      simp only at HRQ
      clear hq hHQ hwt
      go_wp2_with fail
      refine HRQ.out.mono ?_
      rintro e w2 ⟨fa, ba, fc, bc, rfl, _, _, B2⟩
      have C2 := (C1.trans (B2.mono C1.size)).alloc (C1.trans (B2.mono C1.size)).size (.cells #[.string ⟨#[]⟩, .string ⟨#[]⟩, .int .i64 0, .slice fa 0 fc, .slice ba 0 bc] 26)
      clear B2 HRQ C1
      go_wp2
      go_ret
      exact ⟨rfl, C2⟩
    · obtain ⟨old, hold⟩ : ∃ old : Bool, old = true := ⟨_, rfl⟩
      have HSD0 : Hid ((⟨#[71, 69, 84, 32, 47, 32, 72, 84, 84, 80, 47, 49, 46, 48, 13, 10]⟩ : ByteArray).data.toList = hostsB old hs) := by rw [Hid, hold, hhs]; rfl
      have HG : Hid (true = ((decide (hs.length = 1) || (old && decide (hs.length = 0))) && okAll hs)) := by rw [Hid, hold, hhs]; rfl
      have hmi : miOf old = 0 := by rw [hold]; rfl
      obtain ⟨s, hs0⟩ : ∃ s : ByteArray, s = ⟨#[71, 69, 84, 32, 47, 32, 72, 84, 84, 80, 47, 49, 46, 48, 13, 10]⟩ := ⟨_, rfl⟩
      have HSD : Hid (s.data.toList = hostsB old hs) := by rw [hs0]; exact HSD0
      have hsz : s.size ≤ 444 := by rw [hs0]; decide
      clear HSD0
      go_enter Tryz.func6, Tryz.ntmps6
      go_wp2_with fail
      refine HA.out.mono ?_
      rintro e wr ⟨rfl, hB⟩
      clear HA
      go_wp2_with fail
      refine wp_loop_rounds 1 ?_
      rw [rounds_succ]
      rw [← hs0]
      clear hs0 hhs hold hmi
      obtain ⟨S2, hS2⟩ : ∃ S2 : ByteArray, S2 = s ++ ⟨#[13, 10]⟩ := ⟨_, rfl⟩
      have hcat : ∀ W : World, (Op.stringOp .add s ⟨#[13, 10]⟩).run Tryz.prog W = .ok (.string S2) W := fun W => by rw [hS2]; exact sum_run W s ⟨#[13, 10]⟩ (by show s.size + 2 ≤ _; omega)
      have hS2d : S2.data.toList = hostsB old hs ++ [13, 10] := by rw [hS2, ByteArray.data_append, Array.toList_append, HSD.out]
      have hS2s : S2.size = s.size + 2 := by rw [hS2, ByteArray.size_append]; rfl
      have hbl : (hostsB old hs).length = s.size := by rw [← HSD.out]; rfl
      obtain ⟨v1, w1, r1, S1, B1, _⟩ := conv_src wr S2 (by rw [hS2s]; unfold maxLen; omega)
      have C1 := hB.trans (B1.mono hB.size)
      rw [hS2d] at S1
      have hlt1 : 0 < (hostsB old hs ++ [13, 10]).length → wr.heap.size < w1.heap.size := fun _ => by assumption
      have hlen1 : (hostsB old hs ++ [13, 10]).length = s.size + 2 := by rw [List.length_append, hbl]; rfl
      obtain ⟨a1, c1, rfl, q1, q2, q3⟩ := id S1
      have hcv : (convert 9 22 (.string S2)).run Tryz.prog wr = .ok (.slice a1 (s.size + 2) c1) w1 := by rw [← hlen1]; exact r1
      have HRQ : Hid (Calls Tryz.prog 11 #[.slice a1 (s.size + 2) c1] w1 (ReqR w1 (reqQ (hostsB old hs ++ [13, 10])))) := by
        have k := hreq_any (hostsB old hs ++ [13, 10]) wr.heap.size c1 a1 w1 S1 hlt1 (HL.out.below C1).max (by rw [hlen1]; omega)
        rw [hlen1] at k
        exact k
      have hq := reqQ_hosts old hs HLE.out HCO.out
      have hHQ : hostsOk hs (miOf old) = true → hostQ (hostFs hs) = lastN hs := hostQ_hosts old hs
      rw [hbl] at hq
      rw [hosts_same] at hq hHQ
      rw [← HG.out] at hq hHQ
      have HFB : Hid (FBd 1000 (hostFs hs)) := fun f hf => by
        obtain ⟨h, hh, rfl⟩ := List.mem_map.1 hf
        exact ⟨show (4 : Nat) ≤ 1000 by decide, by have := (HCO.out h hh).sz; simp only; omega⟩
      have HFL : Hid ((hostFs hs).length ≤ 1024) := by
        rw [Hid]; unfold hostFs; rw [List.length_map]; have := HLE.out; omega
      have hwt := HWT.out
      have HSZ : Hid (s.size ≤ 444) := hsz
      clear r1 S1 B1 q1 q2 q3 hS2 hS2d hS2s hbl hlt1 hlen1 hB HSD HG HWT
      rw [if_pos rfl] at hq
      have hHQ2 := hHQ rfl
      rw [hq] at HRQ
      unfold ReqR rdV at HRQ
      simp only at HRQ
      have hsum : IntKind.i64.wrap ((s.size : Int) + 2) = ((s.size + 2 : Nat) : Int) := by simp [IntKind.wrap, IntKind.bits, IntKind.signed]; omega
      have HHO : Hid (∀ (W : World) (fa ba : Option Addr) (fc bc : Nat), Fds W.heap.size W (.slice fa (hostFs hs).length fc) (hostFs hs) → Calls Tryz.prog 20 #[.agg #[.string ⟨#[71, 69, 84]⟩, .string ⟨#[47]⟩, .int .i64 (miOf old), .slice fa (hostFs hs).length fc, .slice ba 0 bc]] W fun e w' => e = .returned (.string ⟨#[]⟩) ∧ Below W.heap.size W w') := fun W fa ba fc bc F => by
        have k := hhost_any ⟨#[71, 69, 84]⟩ ⟨#[47]⟩ (miOf old) (hostFs hs) fa ba fc 0 bc W F HFB.out HFL.out
        rw [hHQ2, ← hwt] at k
        exact k
      have HHS : Hid (∀ (B : Nat) (W : World) (v : Value), OwnF B W v (hostFs hs) → Fds W.heap.size W v (hostFs hs)) := fun B W v O => O.fds
      clear hq hHQ hHQ2 hwt
      generalize hostFs hs = fs at *
      generalize fs.length = fl at *
      generalize miOf old = mi at *
      generalize s.size + 2 = n2 at *
      clear hsz
      go_wp2_with fail
      refine HRQ.out.mono ?_
      rintro e w2 ⟨fa, ba, fc, bc, rfl, F2, _, B2⟩
      have U3 : Below w2.heap.size w2 (w2.alloc (.cells #[.string ⟨#[71, 69, 84]⟩, .string ⟨#[47]⟩, .int .i64 mi, .slice fa fl fc, .slice ba 0 bc] 26)) := (Below.refl _ _).alloc (Nat.le_refl _) _
      have C2 := C1.trans (B2.mono C1.size)
      have C3 := C2.alloc C2.size (.cells #[.string ⟨#[71, 69, 84]⟩, .string ⟨#[47]⟩, .int .i64 mi, .slice fa fl fc, .slice ba 0 bc] 26)
      have hr3 := tblk_new w2 (.cells #[.string ⟨#[71, 69, 84]⟩, .string ⟨#[47]⟩, .int .i64 mi, .slice fa fl fc, .slice ba 0 bc] 26)
      have HF3 : Hid (Fds (w2.alloc (.cells #[.string ⟨#[71, 69, 84]⟩, .string ⟨#[47]⟩, .int .i64 mi, .slice fa fl fc, .slice ba 0 bc] 26)).heap.size (w2.alloc (.cells #[.string ⟨#[71, 69, 84]⟩, .string ⟨#[47]⟩, .int .i64 mi, .slice fa fl fc, .slice ba 0 bc] 26)) (.slice fa fl fc) fs) := HHS.out _ _ _ (F2.keep U3)
      have e0 := tblk_cell (i := 0) hr3 rfl
      have e1 := tblk_cell (i := 1) hr3 rfl
      have e2 := tblk_cell (i := 2) hr3 rfl
      have e3 := tblk_cell (i := 3) hr3 rfl
      have e4 := tblk_cell (i := 4) hr3 rfl
      clear B2 HRQ C1 C2 U3 hr3 F2
      go_wp2_with fail
      clear e0 e1 e2 e3 e4
      refine (HHO.out _ fa ba fc bc HF3.out).mono ?_
      rintro e w4 ⟨rfl, B4⟩
      have C4 := C3.trans (B4.mono C3.size)
      go_wp2
      go_ret
      exact ⟨rfl, C4⟩
  · obtain ⟨a', c', e, _, h1, h2, h3⟩ := hT
    obtain ⟨rfl, _, rfl⟩ := slice_inj e
    obtain ⟨g0, off, rfl, hg0, hc⟩ := h3 hp
    have HC : Hid (∀ (j : Nat) (hj : j < hs.length), w.cell? ⟨g0, off + j, none⟩ = some (.string hs[j])) := hc
    clear e h1 h2 h3 hc
    obtain ⟨n, hn⟩ : ∃ n, n = hs.length := ⟨_, rfl⟩
    obtain ⟨p1, hp1⟩ : ∃ p1 : Bool, ((n : Int) == 1) = p1 := ⟨_, rfl⟩
    have hp0 : ((n : Int) == 0) = false := by simp; omega
    have HP1 : Hid (p1 = (decide (hs.length = 1) || (old && decide (hs.length = 0)))) := by
      rw [Hid, ← hp1, ← hn, decide_eq_false (show ¬ n = 0 by omega), Bool.and_false, Bool.or_false, Bool.eq_iff_iff]
      simp
      omega
    have HN : Hid (n = hs.length) := hn
    have hn4 : n ≤ 4 := by omega
    have hn1 : 1 ≤ n := by omega
    rw [← hn]
    clear hn hp hbig hb2 hl2 hl3
    have hb2 : ¬ (4 : Int) < (n : Int) := by omega
    cases old
    · cases p1
      · have HF0 : Hid ((⟨#[71, 69, 84, 32, 47, 32, 72, 84, 84, 80, 47, 49, 46, 49, 13, 10]⟩ : ByteArray).data.toList = hostsB false (hs.take 0)) := rfl
        go_enter Tryz.func6, Tryz.ntmps6
        go_wp2_with fail
        refine HA.out.mono ?_
        rintro e w1 ⟨rfl, B1⟩
        clear HA
        go_wp2_with fail
        go_loopw [5, 6, 7, 34] (fun v5 v6 v7 vi wr => ∃ (k : Nat) (s : ByteArray) (g : Bool) (wt : ByteArray), k ≤ n ∧ vi = .int .i64 k ∧ v5 = .string s ∧ v6 = .bool g ∧ v7 = .string wt ∧ s.size ≤ 16 + 107 * k ∧ Hid (s.data.toList = hostsB false (hs.take k)) ∧ Hid (g = (false && okAll (hs.take k))) ∧ Hid (wt = lastN (hs.take k)) ∧ Hid (∀ h ∈ hs.take k, HostC h) ∧ Below w.heap.size w wr) (fun _ _ _ vi _ => n - (intOf vi).toNat)
        case atStart => exact ⟨0, ⟨#[71, 69, 84, 32, 47, 32, 72, 84, 84, 80, 47, 49, 46, 49, 13, 10]⟩, false, ⟨#[]⟩, Nat.zero_le _, rfl, rfl, rfl, rfl, by decide, HF0, rfl, rfl, (fun h hh => by cases hh), B1⟩
        case round =>
          obtain ⟨k, s, g, wt, hk, rfl, rfl, rfl, rfl, hsz0, HSK, HGK, HWK, HCK, hB⟩ := hrel
          have hsz : s.size ≤ 444 := by omega
          by_cases hlt : k < n
          · have hltl : k < hs.length := by rw [← HN.out]; exact hlt
            have hc1 := (hB.cell (p := ⟨g0, off + k, none⟩) hg0).trans (HC.out k hltl)
            have htk : hs.take (k + 1) = hs.take k ++ [hs[k]] := List.take_succ_eq_append_getElem hltl
            have HTK : Hid _ := htk
            clear htk
            generalize hs[k] = h at *
            by_cases hh : 100 < h.size
            · have hh2 : (100 : Int) < (h.size : Int) := by omega
              clear HSK HGK HWK HCK HTK HF0
              go_wp2
              go_ret
              exact ⟨rfl, hB⟩
            have hh2 : ¬ (100 : Int) < (h.size : Int) := by omega
            have HTR : Hid (∀ W, Calls Tryz.prog 17 #[.string h] W fun e w' => e = .returned (.string (trimT h)) ∧ w' = W) := fun W => rtrim_any h W (by omega)
            have HVA : Hid (∀ W, Calls Tryz.prog 18 #[.string h] W fun e w' => e = .returned (.bool (allB valP h.data.toList)) ∧ w' = W) := fun W => rValue_any h W (by unfold maxLen; omega)
            have HHO : Hid (∀ W, Calls Tryz.prog 19 #[.string h] W fun e w' => e = .returned (.tuple #[.string (hostP h).1, .bool (hostP h).2]) ∧ Below W.heap.size W w') := fun W => host_any h W (by unfold maxLen; omega)
            by_cases htr : trimT h = h
            · rw [htr] at HTR
              cases hva : allB valP h.data.toList
              · rw [hva] at HVA
                clear HSK HGK HWK HCK HTK HF0 HHO
                go_wp2_with fail
                refine (HTR.out _).mono ?_
                rintro e w2 ⟨rfl, rfl⟩
                go_wp2_with fail
                refine (HVA.out _).mono ?_
                rintro e w3 ⟨rfl, rfl⟩
                go_wp2
                go_ret
                exact ⟨rfl, hB⟩
              · rw [hva] at HVA
                have HCO : Hid (HostC h) := ⟨by omega, htr, hva⟩
                have c1 := fun W : World => sum_run W s ⟨#[104, 79, 83, 84, 58]⟩ (by show _ + 5 ≤ _; omega)
                have c2 := fun W : World => sum_run W (s ++ ⟨#[104, 79, 83, 84, 58]⟩) h (by rw [ByteArray.size_append]; show _ + 5 + _ ≤ _; omega)
                have c3 := fun W : World => sum_run W (s ++ ⟨#[104, 79, 83, 84, 58]⟩ ++ h) ⟨#[13, 10]⟩ (by rw [ByteArray.size_append, ByteArray.size_append]; show _ + 5 + _ + 2 ≤ _; omega)
                have HS1 : Hid ((s ++ ⟨#[104, 79, 83, 84, 58]⟩ ++ h ++ ⟨#[13, 10]⟩ : ByteArray).data.toList = hostsB false (hs.take (k + 1))) := by
                  rw [Hid, HTK.out]
                  have e : hostsB false (hs.take k ++ [h]) = hostsB false (hs.take k) ++ (linF tHOST h [] ++ [13, 10]) := by
                    unfold hostsB hLines
                    rw [List.map_append, flatL_app]
                    simp [flatL]
                  rw [e, ← HSK.out]
                  simp only [ByteArray.data_append, Array.toList_append, List.append_assoc]
                  rfl
                have HS2 : Hid ((s ++ ⟨#[104, 79, 83, 84, 58]⟩ ++ h ++ ⟨#[13, 10]⟩ : ByteArray).size ≤ 16 + 107 * (k + 1)) := by
                  rw [Hid, ByteArray.size_append, ByteArray.size_append, ByteArray.size_append]
                  show s.size + 5 + h.size + 2 ≤ _
                  omega
                have HG1 : Hid ((g && (hostP h).2) = (false && okAll (hs.take (k + 1)))) := by rw [Hid, HTK.out, okAll_snoc, HGK.out, Bool.and_assoc]
                have HW1 : Hid ((hostP h).1 = lastN (hs.take (k + 1))) := by rw [Hid, HTK.out, lastN_snoc]
                have HC1 : Hid (∀ x ∈ hs.take (k + 1), HostC x) := by
                  rw [Hid, HTK.out]
                  intro x hx
                  rcases List.mem_append.1 hx with q | q
                  · exact HCK.out x q
                  · rw [List.mem_singleton.1 q]; exact HCO.out
                generalize hostP h = hp at *
                obtain ⟨hp1', hp2'⟩ := hp
                simp only at HHO HG1 HW1
                clear HSK HGK HWK HCK HTK HF0 HCO htr hva
                go_wp2_with fail
                refine (HTR.out _).mono ?_
                rintro e w2 ⟨rfl, rfl⟩
                go_wp2_with fail
                refine (HVA.out _).mono ?_
                rintro e w3 ⟨rfl, rfl⟩
                go_wp2_with fail
                refine (HHO.out _).mono ?_
                rintro e w4 ⟨rfl, B4⟩
                have hB4 := hB.trans (B4.mono hB.size)
                clear HTR HVA HHO B4 hB hc1
                cases g
                · go_wp2
                  go_roundw
                  case rel => exact ⟨k + 1, _, false, hp1', by omega, by go_num, rfl, rfl, rfl, HS2.out, HS1, HG1, HW1, HC1, hB4⟩
                  case measure => simp [intOf]; omega
                · go_wp2
                  go_roundw
                  case rel => exact ⟨k + 1, _, hp2', hp1', by omega, by go_num, rfl, rfl, rfl, HS2.out, HS1, HG1, HW1, HC1, hB4⟩
                  case measure => simp [intOf]; omega
            · have hne : (trimT h).toList ≠ h.toList := by
                rw [ByteArray.toList_eq, ByteArray.toList_eq]
                intro e
                exact htr (ByteArray.ext (Array.toList_inj.1 e))
              have hne2 := str_ne htr
              clear HSK HGK HWK HCK HTK HF0 HHO HVA
              generalize trimT h = th at *
              go_wp2_with fail
              refine (HTR.out _).mono ?_
              rintro e w2 ⟨rfl, rfl⟩
              go_wp2
              go_ret
              exact ⟨rfl, hB⟩
          · have hk' : k = n := by omega
            subst hk'
            have e1 : hs.take k = hs := by rw [HN.out]; exact List.take_length
            rw [e1] at HSK HGK HWK HCK
            have HSD : Hid (s.data.toList = hostsB false hs) := HSK
            have HWT : Hid (wt = lastN hs) := HWK
            have HCO : Hid (∀ h ∈ hs, HostC h) := HCK
            have HG : Hid (g = ((decide (hs.length = 1) || (false && decide (hs.length = 0))) && okAll hs)) := by rw [Hid, ← HP1.out]; exact HGK.out
            clear e1 hsz0
            obtain ⟨S2, hS2⟩ : ∃ S2 : ByteArray, S2 = s ++ ⟨#[13, 10]⟩ := ⟨_, rfl⟩
            have hcat : ∀ W : World, (Op.stringOp .add s ⟨#[13, 10]⟩).run Tryz.prog W = .ok (.string S2) W := fun W => by rw [hS2]; exact sum_run W s ⟨#[13, 10]⟩ (by show s.size + 2 ≤ _; omega)
            have hS2d : S2.data.toList = hostsB false hs ++ [13, 10] := by rw [hS2, ByteArray.data_append, Array.toList_append, HSD.out]
            have hS2s : S2.size = s.size + 2 := by rw [hS2, ByteArray.size_append]; rfl
            have hbl : (hostsB false hs).length = s.size := by rw [← HSD.out]; rfl
            obtain ⟨v1, w1, r1, S1, B1, _⟩ := conv_src wr S2 (by rw [hS2s]; unfold maxLen; omega)
            have C1 := hB.trans (B1.mono hB.size)
            rw [hS2d] at S1
            have hlt1 : 0 < (hostsB false hs ++ [13, 10]).length → wr.heap.size < w1.heap.size := fun _ => by assumption
            have hlen1 : (hostsB false hs ++ [13, 10]).length = s.size + 2 := by rw [List.length_append, hbl]; rfl
            obtain ⟨a1, c1, rfl, q1, q2, q3⟩ := id S1
            have hcv : (convert 9 22 (.string S2)).run Tryz.prog wr = .ok (.slice a1 (s.size + 2) c1) w1 := by rw [← hlen1]; exact r1
            have HRQ : Hid (Calls Tryz.prog 11 #[.slice a1 (s.size + 2) c1] w1 (ReqR w1 (reqQ (hostsB false hs ++ [13, 10])))) := by
              have k := hreq_any (hostsB false hs ++ [13, 10]) wr.heap.size c1 a1 w1 S1 hlt1 (HL.out.below C1).max (by rw [hlen1]; omega)
              rw [hlen1] at k
              exact k
            have hq := reqQ_hosts false hs HLE.out HCO.out
            have hHQ : hostsOk hs (miOf false) = true → hostQ (hostFs hs) = lastN hs := hostQ_hosts false hs
            rw [hbl] at hq
            rw [hosts_same] at hq hHQ
            rw [← HG.out] at hq hHQ
            have HFB : Hid (FBd 1000 (hostFs hs)) := fun f hf => by
              obtain ⟨h, hh, rfl⟩ := List.mem_map.1 hf
              exact ⟨show (4 : Nat) ≤ 1000 by decide, by have := (HCO.out h hh).sz; simp only; omega⟩
            have HFL : Hid ((hostFs hs).length ≤ 1024) := by
              rw [Hid]; unfold hostFs; rw [List.length_map]; have := HLE.out; omega
            have hwt := HWT.out
            have HSZ : Hid (s.size ≤ 444) := hsz
            clear r1 S1 B1 q1 q2 q3 hS2 hS2d hS2s hbl hlt1 hlen1 hB HSD HG HWT
            cases g
            · rw [if_neg (by decide)] at hq
              rw [hq] at HRQ
              unfold ReqR rdV rdNo at HRQ
              simp only at HRQ
              clear hq hHQ hwt
              go_wp2_with fail
              refine HRQ.out.mono ?_
              rintro e w2 ⟨fa, ba, fc, bc, rfl, _, _, B2⟩
              have C2 := (C1.trans (B2.mono C1.size)).alloc (C1.trans (B2.mono C1.size)).size (.cells #[.string ⟨#[]⟩, .string ⟨#[]⟩, .int .i64 0, .slice fa 0 fc, .slice ba 0 bc] 26)
              clear B2 HRQ C1
              go_wp2
              go_ret
              exact ⟨rfl, C2⟩
            · rw [if_pos rfl] at hq
              have hHQ2 := hHQ rfl
              rw [hq] at HRQ
              unfold ReqR rdV at HRQ
              simp only at HRQ
              have hsum : IntKind.i64.wrap ((s.size : Int) + 2) = ((s.size + 2 : Nat) : Int) := by simp [IntKind.wrap, IntKind.bits, IntKind.signed]; omega
              have HHO : Hid (∀ (W : World) (fa ba : Option Addr) (fc bc : Nat), Fds W.heap.size W (.slice fa (hostFs hs).length fc) (hostFs hs) → Calls Tryz.prog 20 #[.agg #[.string ⟨#[71, 69, 84]⟩, .string ⟨#[47]⟩, .int .i64 (miOf false), .slice fa (hostFs hs).length fc, .slice ba 0 bc]] W fun e w' => e = .returned (.string wt) ∧ Below W.heap.size W w') := fun W fa ba fc bc F => by
                have k := hhost_any ⟨#[71, 69, 84]⟩ ⟨#[47]⟩ (miOf false) (hostFs hs) fa ba fc 0 bc W F HFB.out HFL.out
                rw [hHQ2, ← hwt] at k
                exact k
              have HHS : Hid (∀ (B : Nat) (W : World) (v : Value), OwnF B W v (hostFs hs) → Fds W.heap.size W v (hostFs hs)) := fun B W v O => O.fds
              clear hq hHQ hHQ2 hwt
              generalize hostFs hs = fs at *
              generalize fs.length = fl at *
              generalize miOf false = mi at *
              generalize s.size + 2 = n2 at *
              clear hsz
              go_wp2_with fail
              refine HRQ.out.mono ?_
              rintro e w2 ⟨fa, ba, fc, bc, rfl, F2, _, B2⟩
              have U3 : Below w2.heap.size w2 (w2.alloc (.cells #[.string ⟨#[71, 69, 84]⟩, .string ⟨#[47]⟩, .int .i64 mi, .slice fa fl fc, .slice ba 0 bc] 26)) := (Below.refl _ _).alloc (Nat.le_refl _) _
              have C2 := C1.trans (B2.mono C1.size)
              have C3 := C2.alloc C2.size (.cells #[.string ⟨#[71, 69, 84]⟩, .string ⟨#[47]⟩, .int .i64 mi, .slice fa fl fc, .slice ba 0 bc] 26)
              have hr3 := tblk_new w2 (.cells #[.string ⟨#[71, 69, 84]⟩, .string ⟨#[47]⟩, .int .i64 mi, .slice fa fl fc, .slice ba 0 bc] 26)
              have HF3 : Hid (Fds (w2.alloc (.cells #[.string ⟨#[71, 69, 84]⟩, .string ⟨#[47]⟩, .int .i64 mi, .slice fa fl fc, .slice ba 0 bc] 26)).heap.size (w2.alloc (.cells #[.string ⟨#[71, 69, 84]⟩, .string ⟨#[47]⟩, .int .i64 mi, .slice fa fl fc, .slice ba 0 bc] 26)) (.slice fa fl fc) fs) := HHS.out _ _ _ (F2.keep U3)
              have e0 := tblk_cell (i := 0) hr3 rfl
              have e1 := tblk_cell (i := 1) hr3 rfl
              have e2 := tblk_cell (i := 2) hr3 rfl
              have e3 := tblk_cell (i := 3) hr3 rfl
              have e4 := tblk_cell (i := 4) hr3 rfl
              clear B2 HRQ C1 C2 U3 hr3 F2
              go_wp2_with fail
              clear e0 e1 e2 e3 e4
              refine (HHO.out _ fa ba fc bc HF3.out).mono ?_
              rintro e w4 ⟨rfl, B4⟩
              have C4 := C3.trans (B4.mono C3.size)
              go_wp2
              go_ret
              exact ⟨rfl, C4⟩
      · have HF0 : Hid ((⟨#[71, 69, 84, 32, 47, 32, 72, 84, 84, 80, 47, 49, 46, 49, 13, 10]⟩ : ByteArray).data.toList = hostsB false (hs.take 0)) := rfl
        go_enter Tryz.func6, Tryz.ntmps6
        go_wp2_with fail
        refine HA.out.mono ?_
        rintro e w1 ⟨rfl, B1⟩
        clear HA
        go_wp2_with fail
        go_loopw [5, 6, 7, 34] (fun v5 v6 v7 vi wr => ∃ (k : Nat) (s : ByteArray) (g : Bool) (wt : ByteArray), k ≤ n ∧ vi = .int .i64 k ∧ v5 = .string s ∧ v6 = .bool g ∧ v7 = .string wt ∧ s.size ≤ 16 + 107 * k ∧ Hid (s.data.toList = hostsB false (hs.take k)) ∧ Hid (g = (true && okAll (hs.take k))) ∧ Hid (wt = lastN (hs.take k)) ∧ Hid (∀ h ∈ hs.take k, HostC h) ∧ Below w.heap.size w wr) (fun _ _ _ vi _ => n - (intOf vi).toNat)
        case atStart => exact ⟨0, ⟨#[71, 69, 84, 32, 47, 32, 72, 84, 84, 80, 47, 49, 46, 49, 13, 10]⟩, true, ⟨#[]⟩, Nat.zero_le _, rfl, rfl, rfl, rfl, by decide, HF0, rfl, rfl, (fun h hh => by cases hh), B1⟩
        case round =>
          obtain ⟨k, s, g, wt, hk, rfl, rfl, rfl, rfl, hsz0, HSK, HGK, HWK, HCK, hB⟩ := hrel
          have hsz : s.size ≤ 444 := by omega
          by_cases hlt : k < n
          · have hltl : k < hs.length := by rw [← HN.out]; exact hlt
            have hc1 := (hB.cell (p := ⟨g0, off + k, none⟩) hg0).trans (HC.out k hltl)
            have htk : hs.take (k + 1) = hs.take k ++ [hs[k]] := List.take_succ_eq_append_getElem hltl
            have HTK : Hid _ := htk
            clear htk
            generalize hs[k] = h at *
            by_cases hh : 100 < h.size
            · have hh2 : (100 : Int) < (h.size : Int) := by omega
              clear HSK HGK HWK HCK HTK HF0
              go_wp2
              go_ret
              exact ⟨rfl, hB⟩
            have hh2 : ¬ (100 : Int) < (h.size : Int) := by omega
            have HTR : Hid (∀ W, Calls Tryz.prog 17 #[.string h] W fun e w' => e = .returned (.string (trimT h)) ∧ w' = W) := fun W => rtrim_any h W (by omega)
            have HVA : Hid (∀ W, Calls Tryz.prog 18 #[.string h] W fun e w' => e = .returned (.bool (allB valP h.data.toList)) ∧ w' = W) := fun W => rValue_any h W (by unfold maxLen; omega)
            have HHO : Hid (∀ W, Calls Tryz.prog 19 #[.string h] W fun e w' => e = .returned (.tuple #[.string (hostP h).1, .bool (hostP h).2]) ∧ Below W.heap.size W w') := fun W => host_any h W (by unfold maxLen; omega)
            by_cases htr : trimT h = h
            · rw [htr] at HTR
              cases hva : allB valP h.data.toList
              · rw [hva] at HVA
                clear HSK HGK HWK HCK HTK HF0 HHO
                go_wp2_with fail
                refine (HTR.out _).mono ?_
                rintro e w2 ⟨rfl, rfl⟩
                go_wp2_with fail
                refine (HVA.out _).mono ?_
                rintro e w3 ⟨rfl, rfl⟩
                go_wp2
                go_ret
                exact ⟨rfl, hB⟩
              · rw [hva] at HVA
                have HCO : Hid (HostC h) := ⟨by omega, htr, hva⟩
                have c1 := fun W : World => sum_run W s ⟨#[104, 79, 83, 84, 58]⟩ (by show _ + 5 ≤ _; omega)
                have c2 := fun W : World => sum_run W (s ++ ⟨#[104, 79, 83, 84, 58]⟩) h (by rw [ByteArray.size_append]; show _ + 5 + _ ≤ _; omega)
                have c3 := fun W : World => sum_run W (s ++ ⟨#[104, 79, 83, 84, 58]⟩ ++ h) ⟨#[13, 10]⟩ (by rw [ByteArray.size_append, ByteArray.size_append]; show _ + 5 + _ + 2 ≤ _; omega)
                have HS1 : Hid ((s ++ ⟨#[104, 79, 83, 84, 58]⟩ ++ h ++ ⟨#[13, 10]⟩ : ByteArray).data.toList = hostsB false (hs.take (k + 1))) := by
                  rw [Hid, HTK.out]
                  have e : hostsB false (hs.take k ++ [h]) = hostsB false (hs.take k) ++ (linF tHOST h [] ++ [13, 10]) := by
                    unfold hostsB hLines
                    rw [List.map_append, flatL_app]
                    simp [flatL]
                  rw [e, ← HSK.out]
                  simp only [ByteArray.data_append, Array.toList_append, List.append_assoc]
                  rfl
                have HS2 : Hid ((s ++ ⟨#[104, 79, 83, 84, 58]⟩ ++ h ++ ⟨#[13, 10]⟩ : ByteArray).size ≤ 16 + 107 * (k + 1)) := by
                  rw [Hid, ByteArray.size_append, ByteArray.size_append, ByteArray.size_append]
                  show s.size + 5 + h.size + 2 ≤ _
                  omega
                have HG1 : Hid ((g && (hostP h).2) = (true && okAll (hs.take (k + 1)))) := by rw [Hid, HTK.out, okAll_snoc, HGK.out, Bool.and_assoc]
                have HW1 : Hid ((hostP h).1 = lastN (hs.take (k + 1))) := by rw [Hid, HTK.out, lastN_snoc]
                have HC1 : Hid (∀ x ∈ hs.take (k + 1), HostC x) := by
                  rw [Hid, HTK.out]
                  intro x hx
                  rcases List.mem_append.1 hx with q | q
                  · exact HCK.out x q
                  · rw [List.mem_singleton.1 q]; exact HCO.out
                generalize hostP h = hp at *
                obtain ⟨hp1', hp2'⟩ := hp
                simp only at HHO HG1 HW1
                clear HSK HGK HWK HCK HTK HF0 HCO htr hva
                go_wp2_with fail
                refine (HTR.out _).mono ?_
                rintro e w2 ⟨rfl, rfl⟩
                go_wp2_with fail
                refine (HVA.out _).mono ?_
                rintro e w3 ⟨rfl, rfl⟩
                go_wp2_with fail
                refine (HHO.out _).mono ?_
                rintro e w4 ⟨rfl, B4⟩
                have hB4 := hB.trans (B4.mono hB.size)
                clear HTR HVA HHO B4 hB hc1
                cases g
                · go_wp2
                  go_roundw
                  case rel => exact ⟨k + 1, _, false, hp1', by omega, by go_num, rfl, rfl, rfl, HS2.out, HS1, HG1, HW1, HC1, hB4⟩
                  case measure => simp [intOf]; omega
                · go_wp2
                  go_roundw
                  case rel => exact ⟨k + 1, _, hp2', hp1', by omega, by go_num, rfl, rfl, rfl, HS2.out, HS1, HG1, HW1, HC1, hB4⟩
                  case measure => simp [intOf]; omega
            · have hne : (trimT h).toList ≠ h.toList := by
                rw [ByteArray.toList_eq, ByteArray.toList_eq]
                intro e
                exact htr (ByteArray.ext (Array.toList_inj.1 e))
              have hne2 := str_ne htr
              clear HSK HGK HWK HCK HTK HF0 HHO HVA
              generalize trimT h = th at *
              go_wp2_with fail
              refine (HTR.out _).mono ?_
              rintro e w2 ⟨rfl, rfl⟩
              go_wp2
              go_ret
              exact ⟨rfl, hB⟩
          · have hk' : k = n := by omega
            subst hk'
            have e1 : hs.take k = hs := by rw [HN.out]; exact List.take_length
            rw [e1] at HSK HGK HWK HCK
            have HSD : Hid (s.data.toList = hostsB false hs) := HSK
            have HWT : Hid (wt = lastN hs) := HWK
            have HCO : Hid (∀ h ∈ hs, HostC h) := HCK
            have HG : Hid (g = ((decide (hs.length = 1) || (false && decide (hs.length = 0))) && okAll hs)) := by rw [Hid, ← HP1.out]; exact HGK.out
            clear e1 hsz0
            obtain ⟨S2, hS2⟩ : ∃ S2 : ByteArray, S2 = s ++ ⟨#[13, 10]⟩ := ⟨_, rfl⟩
            have hcat : ∀ W : World, (Op.stringOp .add s ⟨#[13, 10]⟩).run Tryz.prog W = .ok (.string S2) W := fun W => by rw [hS2]; exact sum_run W s ⟨#[13, 10]⟩ (by show s.size + 2 ≤ _; omega)
            have hS2d : S2.data.toList = hostsB false hs ++ [13, 10] := by rw [hS2, ByteArray.data_append, Array.toList_append, HSD.out]
            have hS2s : S2.size = s.size + 2 := by rw [hS2, ByteArray.size_append]; rfl
            have hbl : (hostsB false hs).length = s.size := by rw [← HSD.out]; rfl
            obtain ⟨v1, w1, r1, S1, B1, _⟩ := conv_src wr S2 (by rw [hS2s]; unfold maxLen; omega)
            have C1 := hB.trans (B1.mono hB.size)
            rw [hS2d] at S1
            have hlt1 : 0 < (hostsB false hs ++ [13, 10]).length → wr.heap.size < w1.heap.size := fun _ => by assumption
            have hlen1 : (hostsB false hs ++ [13, 10]).length = s.size + 2 := by rw [List.length_append, hbl]; rfl
            obtain ⟨a1, c1, rfl, q1, q2, q3⟩ := id S1
            have hcv : (convert 9 22 (.string S2)).run Tryz.prog wr = .ok (.slice a1 (s.size + 2) c1) w1 := by rw [← hlen1]; exact r1
            have HRQ : Hid (Calls Tryz.prog 11 #[.slice a1 (s.size + 2) c1] w1 (ReqR w1 (reqQ (hostsB false hs ++ [13, 10])))) := by
              have k := hreq_any (hostsB false hs ++ [13, 10]) wr.heap.size c1 a1 w1 S1 hlt1 (HL.out.below C1).max (by rw [hlen1]; omega)
              rw [hlen1] at k
              exact k
            have hq := reqQ_hosts false hs HLE.out HCO.out
            have hHQ : hostsOk hs (miOf false) = true → hostQ (hostFs hs) = lastN hs := hostQ_hosts false hs
            rw [hbl] at hq
            rw [hosts_same] at hq hHQ
            rw [← HG.out] at hq hHQ
            have HFB : Hid (FBd 1000 (hostFs hs)) := fun f hf => by
              obtain ⟨h, hh, rfl⟩ := List.mem_map.1 hf
              exact ⟨show (4 : Nat) ≤ 1000 by decide, by have := (HCO.out h hh).sz; simp only; omega⟩
            have HFL : Hid ((hostFs hs).length ≤ 1024) := by
              rw [Hid]; unfold hostFs; rw [List.length_map]; have := HLE.out; omega
            have hwt := HWT.out
            have HSZ : Hid (s.size ≤ 444) := hsz
            clear r1 S1 B1 q1 q2 q3 hS2 hS2d hS2s hbl hlt1 hlen1 hB HSD HG HWT
            cases g
            · rw [if_neg (by decide)] at hq
              rw [hq] at HRQ
              unfold ReqR rdV rdNo at HRQ
              simp only at HRQ
              clear hq hHQ hwt
              go_wp2_with fail
              refine HRQ.out.mono ?_
              rintro e w2 ⟨fa, ba, fc, bc, rfl, _, _, B2⟩
              have C2 := (C1.trans (B2.mono C1.size)).alloc (C1.trans (B2.mono C1.size)).size (.cells #[.string ⟨#[]⟩, .string ⟨#[]⟩, .int .i64 0, .slice fa 0 fc, .slice ba 0 bc] 26)
              clear B2 HRQ C1
              go_wp2
              go_ret
              exact ⟨rfl, C2⟩
            · rw [if_pos rfl] at hq
              have hHQ2 := hHQ rfl
              rw [hq] at HRQ
              unfold ReqR rdV at HRQ
              simp only at HRQ
              have hsum : IntKind.i64.wrap ((s.size : Int) + 2) = ((s.size + 2 : Nat) : Int) := by simp [IntKind.wrap, IntKind.bits, IntKind.signed]; omega
              have HHO : Hid (∀ (W : World) (fa ba : Option Addr) (fc bc : Nat), Fds W.heap.size W (.slice fa (hostFs hs).length fc) (hostFs hs) → Calls Tryz.prog 20 #[.agg #[.string ⟨#[71, 69, 84]⟩, .string ⟨#[47]⟩, .int .i64 (miOf false), .slice fa (hostFs hs).length fc, .slice ba 0 bc]] W fun e w' => e = .returned (.string wt) ∧ Below W.heap.size W w') := fun W fa ba fc bc F => by
                have k := hhost_any ⟨#[71, 69, 84]⟩ ⟨#[47]⟩ (miOf false) (hostFs hs) fa ba fc 0 bc W F HFB.out HFL.out
                rw [hHQ2, ← hwt] at k
                exact k
              have HHS : Hid (∀ (B : Nat) (W : World) (v : Value), OwnF B W v (hostFs hs) → Fds W.heap.size W v (hostFs hs)) := fun B W v O => O.fds
              clear hq hHQ hHQ2 hwt
              generalize hostFs hs = fs at *
              generalize fs.length = fl at *
              generalize miOf false = mi at *
              generalize s.size + 2 = n2 at *
              clear hsz
              go_wp2_with fail
              refine HRQ.out.mono ?_
              rintro e w2 ⟨fa, ba, fc, bc, rfl, F2, _, B2⟩
              have U3 : Below w2.heap.size w2 (w2.alloc (.cells #[.string ⟨#[71, 69, 84]⟩, .string ⟨#[47]⟩, .int .i64 mi, .slice fa fl fc, .slice ba 0 bc] 26)) := (Below.refl _ _).alloc (Nat.le_refl _) _
              have C2 := C1.trans (B2.mono C1.size)
              have C3 := C2.alloc C2.size (.cells #[.string ⟨#[71, 69, 84]⟩, .string ⟨#[47]⟩, .int .i64 mi, .slice fa fl fc, .slice ba 0 bc] 26)
              have hr3 := tblk_new w2 (.cells #[.string ⟨#[71, 69, 84]⟩, .string ⟨#[47]⟩, .int .i64 mi, .slice fa fl fc, .slice ba 0 bc] 26)
              have HF3 : Hid (Fds (w2.alloc (.cells #[.string ⟨#[71, 69, 84]⟩, .string ⟨#[47]⟩, .int .i64 mi, .slice fa fl fc, .slice ba 0 bc] 26)).heap.size (w2.alloc (.cells #[.string ⟨#[71, 69, 84]⟩, .string ⟨#[47]⟩, .int .i64 mi, .slice fa fl fc, .slice ba 0 bc] 26)) (.slice fa fl fc) fs) := HHS.out _ _ _ (F2.keep U3)
              have e0 := tblk_cell (i := 0) hr3 rfl
              have e1 := tblk_cell (i := 1) hr3 rfl
              have e2 := tblk_cell (i := 2) hr3 rfl
              have e3 := tblk_cell (i := 3) hr3 rfl
              have e4 := tblk_cell (i := 4) hr3 rfl
              clear B2 HRQ C1 C2 U3 hr3 F2
              go_wp2_with fail
              clear e0 e1 e2 e3 e4
              refine (HHO.out _ fa ba fc bc HF3.out).mono ?_
              rintro e w4 ⟨rfl, B4⟩
              have C4 := C3.trans (B4.mono C3.size)
              go_wp2
              go_ret
              exact ⟨rfl, C4⟩
    · cases p1
      · have HF0 : Hid ((⟨#[71, 69, 84, 32, 47, 32, 72, 84, 84, 80, 47, 49, 46, 48, 13, 10]⟩ : ByteArray).data.toList = hostsB true (hs.take 0)) := rfl
        go_enter Tryz.func6, Tryz.ntmps6
        go_wp2_with fail
        refine HA.out.mono ?_
        rintro e w1 ⟨rfl, B1⟩
        clear HA
        go_wp2_with fail
        go_loopw [5, 6, 7, 34] (fun v5 v6 v7 vi wr => ∃ (k : Nat) (s : ByteArray) (g : Bool) (wt : ByteArray), k ≤ n ∧ vi = .int .i64 k ∧ v5 = .string s ∧ v6 = .bool g ∧ v7 = .string wt ∧ s.size ≤ 16 + 107 * k ∧ Hid (s.data.toList = hostsB true (hs.take k)) ∧ Hid (g = (false && okAll (hs.take k))) ∧ Hid (wt = lastN (hs.take k)) ∧ Hid (∀ h ∈ hs.take k, HostC h) ∧ Below w.heap.size w wr) (fun _ _ _ vi _ => n - (intOf vi).toNat)
        case atStart => exact ⟨0, ⟨#[71, 69, 84, 32, 47, 32, 72, 84, 84, 80, 47, 49, 46, 48, 13, 10]⟩, false, ⟨#[]⟩, Nat.zero_le _, rfl, rfl, rfl, rfl, by decide, HF0, rfl, rfl, (fun h hh => by cases hh), B1⟩
        case round =>
          obtain ⟨k, s, g, wt, hk, rfl, rfl, rfl, rfl, hsz0, HSK, HGK, HWK, HCK, hB⟩ := hrel
          have hsz : s.size ≤ 444 := by omega
          by_cases hlt : k < n
          · have hltl : k < hs.length := by rw [← HN.out]; exact hlt
            have hc1 := (hB.cell (p := ⟨g0, off + k, none⟩) hg0).trans (HC.out k hltl)
            have htk : hs.take (k + 1) = hs.take k ++ [hs[k]] := List.take_succ_eq_append_getElem hltl
            have HTK : Hid _ := htk
            clear htk
            generalize hs[k] = h at *
            by_cases hh : 100 < h.size
            · have hh2 : (100 : Int) < (h.size : Int) := by omega
              clear HSK HGK HWK HCK HTK HF0
              go_wp2
              go_ret
              exact ⟨rfl, hB⟩
            have hh2 : ¬ (100 : Int) < (h.size : Int) := by omega
            have HTR : Hid (∀ W, Calls Tryz.prog 17 #[.string h] W fun e w' => e = .returned (.string (trimT h)) ∧ w' = W) := fun W => rtrim_any h W (by omega)
            have HVA : Hid (∀ W, Calls Tryz.prog 18 #[.string h] W fun e w' => e = .returned (.bool (allB valP h.data.toList)) ∧ w' = W) := fun W => rValue_any h W (by unfold maxLen; omega)
            have HHO : Hid (∀ W, Calls Tryz.prog 19 #[.string h] W fun e w' => e = .returned (.tuple #[.string (hostP h).1, .bool (hostP h).2]) ∧ Below W.heap.size W w') := fun W => host_any h W (by unfold maxLen; omega)
            by_cases htr : trimT h = h
            · rw [htr] at HTR
              cases hva : allB valP h.data.toList
              · rw [hva] at HVA
                clear HSK HGK HWK HCK HTK HF0 HHO
                go_wp2_with fail
                refine (HTR.out _).mono ?_
                rintro e w2 ⟨rfl, rfl⟩
                go_wp2_with fail
                refine (HVA.out _).mono ?_
                rintro e w3 ⟨rfl, rfl⟩
                go_wp2
                go_ret
                exact ⟨rfl, hB⟩
              · rw [hva] at HVA
                have HCO : Hid (HostC h) := ⟨by omega, htr, hva⟩
                have c1 := fun W : World => sum_run W s ⟨#[104, 79, 83, 84, 58]⟩ (by show _ + 5 ≤ _; omega)
                have c2 := fun W : World => sum_run W (s ++ ⟨#[104, 79, 83, 84, 58]⟩) h (by rw [ByteArray.size_append]; show _ + 5 + _ ≤ _; omega)
                have c3 := fun W : World => sum_run W (s ++ ⟨#[104, 79, 83, 84, 58]⟩ ++ h) ⟨#[13, 10]⟩ (by rw [ByteArray.size_append, ByteArray.size_append]; show _ + 5 + _ + 2 ≤ _; omega)
                have HS1 : Hid ((s ++ ⟨#[104, 79, 83, 84, 58]⟩ ++ h ++ ⟨#[13, 10]⟩ : ByteArray).data.toList = hostsB true (hs.take (k + 1))) := by
                  rw [Hid, HTK.out]
                  have e : hostsB true (hs.take k ++ [h]) = hostsB true (hs.take k) ++ (linF tHOST h [] ++ [13, 10]) := by
                    unfold hostsB hLines
                    rw [List.map_append, flatL_app]
                    simp [flatL]
                  rw [e, ← HSK.out]
                  simp only [ByteArray.data_append, Array.toList_append, List.append_assoc]
                  rfl
                have HS2 : Hid ((s ++ ⟨#[104, 79, 83, 84, 58]⟩ ++ h ++ ⟨#[13, 10]⟩ : ByteArray).size ≤ 16 + 107 * (k + 1)) := by
                  rw [Hid, ByteArray.size_append, ByteArray.size_append, ByteArray.size_append]
                  show s.size + 5 + h.size + 2 ≤ _
                  omega
                have HG1 : Hid ((g && (hostP h).2) = (false && okAll (hs.take (k + 1)))) := by rw [Hid, HTK.out, okAll_snoc, HGK.out, Bool.and_assoc]
                have HW1 : Hid ((hostP h).1 = lastN (hs.take (k + 1))) := by rw [Hid, HTK.out, lastN_snoc]
                have HC1 : Hid (∀ x ∈ hs.take (k + 1), HostC x) := by
                  rw [Hid, HTK.out]
                  intro x hx
                  rcases List.mem_append.1 hx with q | q
                  · exact HCK.out x q
                  · rw [List.mem_singleton.1 q]; exact HCO.out
                generalize hostP h = hp at *
                obtain ⟨hp1', hp2'⟩ := hp
                simp only at HHO HG1 HW1
                clear HSK HGK HWK HCK HTK HF0 HCO htr hva
                go_wp2_with fail
                refine (HTR.out _).mono ?_
                rintro e w2 ⟨rfl, rfl⟩
                go_wp2_with fail
                refine (HVA.out _).mono ?_
                rintro e w3 ⟨rfl, rfl⟩
                go_wp2_with fail
                refine (HHO.out _).mono ?_
                rintro e w4 ⟨rfl, B4⟩
                have hB4 := hB.trans (B4.mono hB.size)
                clear HTR HVA HHO B4 hB hc1
                cases g
                · go_wp2
                  go_roundw
                  case rel => exact ⟨k + 1, _, false, hp1', by omega, by go_num, rfl, rfl, rfl, HS2.out, HS1, HG1, HW1, HC1, hB4⟩
                  case measure => simp [intOf]; omega
                · go_wp2
                  go_roundw
                  case rel => exact ⟨k + 1, _, hp2', hp1', by omega, by go_num, rfl, rfl, rfl, HS2.out, HS1, HG1, HW1, HC1, hB4⟩
                  case measure => simp [intOf]; omega
            · have hne : (trimT h).toList ≠ h.toList := by
                rw [ByteArray.toList_eq, ByteArray.toList_eq]
                intro e
                exact htr (ByteArray.ext (Array.toList_inj.1 e))
              have hne2 := str_ne htr
              clear HSK HGK HWK HCK HTK HF0 HHO HVA
              generalize trimT h = th at *
              go_wp2_with fail
              refine (HTR.out _).mono ?_
              rintro e w2 ⟨rfl, rfl⟩
              go_wp2
              go_ret
              exact ⟨rfl, hB⟩
          · have hk' : k = n := by omega
            subst hk'
            have e1 : hs.take k = hs := by rw [HN.out]; exact List.take_length
            rw [e1] at HSK HGK HWK HCK
            have HSD : Hid (s.data.toList = hostsB true hs) := HSK
            have HWT : Hid (wt = lastN hs) := HWK
            have HCO : Hid (∀ h ∈ hs, HostC h) := HCK
            have HG : Hid (g = ((decide (hs.length = 1) || (true && decide (hs.length = 0))) && okAll hs)) := by rw [Hid, ← HP1.out]; exact HGK.out
            clear e1 hsz0
            obtain ⟨S2, hS2⟩ : ∃ S2 : ByteArray, S2 = s ++ ⟨#[13, 10]⟩ := ⟨_, rfl⟩
            have hcat : ∀ W : World, (Op.stringOp .add s ⟨#[13, 10]⟩).run Tryz.prog W = .ok (.string S2) W := fun W => by rw [hS2]; exact sum_run W s ⟨#[13, 10]⟩ (by show s.size + 2 ≤ _; omega)
            have hS2d : S2.data.toList = hostsB true hs ++ [13, 10] := by rw [hS2, ByteArray.data_append, Array.toList_append, HSD.out]
            have hS2s : S2.size = s.size + 2 := by rw [hS2, ByteArray.size_append]; rfl
            have hbl : (hostsB true hs).length = s.size := by rw [← HSD.out]; rfl
            obtain ⟨v1, w1, r1, S1, B1, _⟩ := conv_src wr S2 (by rw [hS2s]; unfold maxLen; omega)
            have C1 := hB.trans (B1.mono hB.size)
            rw [hS2d] at S1
            have hlt1 : 0 < (hostsB true hs ++ [13, 10]).length → wr.heap.size < w1.heap.size := fun _ => by assumption
            have hlen1 : (hostsB true hs ++ [13, 10]).length = s.size + 2 := by rw [List.length_append, hbl]; rfl
            obtain ⟨a1, c1, rfl, q1, q2, q3⟩ := id S1
            have hcv : (convert 9 22 (.string S2)).run Tryz.prog wr = .ok (.slice a1 (s.size + 2) c1) w1 := by rw [← hlen1]; exact r1
            have HRQ : Hid (Calls Tryz.prog 11 #[.slice a1 (s.size + 2) c1] w1 (ReqR w1 (reqQ (hostsB true hs ++ [13, 10])))) := by
              have k := hreq_any (hostsB true hs ++ [13, 10]) wr.heap.size c1 a1 w1 S1 hlt1 (HL.out.below C1).max (by rw [hlen1]; omega)
              rw [hlen1] at k
              exact k
            have hq := reqQ_hosts true hs HLE.out HCO.out
            have hHQ : hostsOk hs (miOf true) = true → hostQ (hostFs hs) = lastN hs := hostQ_hosts true hs
            rw [hbl] at hq
            rw [hosts_same] at hq hHQ
            rw [← HG.out] at hq hHQ
            have HFB : Hid (FBd 1000 (hostFs hs)) := fun f hf => by
              obtain ⟨h, hh, rfl⟩ := List.mem_map.1 hf
              exact ⟨show (4 : Nat) ≤ 1000 by decide, by have := (HCO.out h hh).sz; simp only; omega⟩
            have HFL : Hid ((hostFs hs).length ≤ 1024) := by
              rw [Hid]; unfold hostFs; rw [List.length_map]; have := HLE.out; omega
            have hwt := HWT.out
            have HSZ : Hid (s.size ≤ 444) := hsz
            clear r1 S1 B1 q1 q2 q3 hS2 hS2d hS2s hbl hlt1 hlen1 hB HSD HG HWT
            cases g
            · rw [if_neg (by decide)] at hq
              rw [hq] at HRQ
              unfold ReqR rdV rdNo at HRQ
              simp only at HRQ
              clear hq hHQ hwt
              go_wp2_with fail
              refine HRQ.out.mono ?_
              rintro e w2 ⟨fa, ba, fc, bc, rfl, _, _, B2⟩
              have C2 := (C1.trans (B2.mono C1.size)).alloc (C1.trans (B2.mono C1.size)).size (.cells #[.string ⟨#[]⟩, .string ⟨#[]⟩, .int .i64 0, .slice fa 0 fc, .slice ba 0 bc] 26)
              clear B2 HRQ C1
              go_wp2
              go_ret
              exact ⟨rfl, C2⟩
            · rw [if_pos rfl] at hq
              have hHQ2 := hHQ rfl
              rw [hq] at HRQ
              unfold ReqR rdV at HRQ
              simp only at HRQ
              have hsum : IntKind.i64.wrap ((s.size : Int) + 2) = ((s.size + 2 : Nat) : Int) := by simp [IntKind.wrap, IntKind.bits, IntKind.signed]; omega
              have HHO : Hid (∀ (W : World) (fa ba : Option Addr) (fc bc : Nat), Fds W.heap.size W (.slice fa (hostFs hs).length fc) (hostFs hs) → Calls Tryz.prog 20 #[.agg #[.string ⟨#[71, 69, 84]⟩, .string ⟨#[47]⟩, .int .i64 (miOf true), .slice fa (hostFs hs).length fc, .slice ba 0 bc]] W fun e w' => e = .returned (.string wt) ∧ Below W.heap.size W w') := fun W fa ba fc bc F => by
                have k := hhost_any ⟨#[71, 69, 84]⟩ ⟨#[47]⟩ (miOf true) (hostFs hs) fa ba fc 0 bc W F HFB.out HFL.out
                rw [hHQ2, ← hwt] at k
                exact k
              have HHS : Hid (∀ (B : Nat) (W : World) (v : Value), OwnF B W v (hostFs hs) → Fds W.heap.size W v (hostFs hs)) := fun B W v O => O.fds
              clear hq hHQ hHQ2 hwt
              generalize hostFs hs = fs at *
              generalize fs.length = fl at *
              generalize miOf true = mi at *
              generalize s.size + 2 = n2 at *
              clear hsz
              go_wp2_with fail
              refine HRQ.out.mono ?_
              rintro e w2 ⟨fa, ba, fc, bc, rfl, F2, _, B2⟩
              have U3 : Below w2.heap.size w2 (w2.alloc (.cells #[.string ⟨#[71, 69, 84]⟩, .string ⟨#[47]⟩, .int .i64 mi, .slice fa fl fc, .slice ba 0 bc] 26)) := (Below.refl _ _).alloc (Nat.le_refl _) _
              have C2 := C1.trans (B2.mono C1.size)
              have C3 := C2.alloc C2.size (.cells #[.string ⟨#[71, 69, 84]⟩, .string ⟨#[47]⟩, .int .i64 mi, .slice fa fl fc, .slice ba 0 bc] 26)
              have hr3 := tblk_new w2 (.cells #[.string ⟨#[71, 69, 84]⟩, .string ⟨#[47]⟩, .int .i64 mi, .slice fa fl fc, .slice ba 0 bc] 26)
              have HF3 : Hid (Fds (w2.alloc (.cells #[.string ⟨#[71, 69, 84]⟩, .string ⟨#[47]⟩, .int .i64 mi, .slice fa fl fc, .slice ba 0 bc] 26)).heap.size (w2.alloc (.cells #[.string ⟨#[71, 69, 84]⟩, .string ⟨#[47]⟩, .int .i64 mi, .slice fa fl fc, .slice ba 0 bc] 26)) (.slice fa fl fc) fs) := HHS.out _ _ _ (F2.keep U3)
              have e0 := tblk_cell (i := 0) hr3 rfl
              have e1 := tblk_cell (i := 1) hr3 rfl
              have e2 := tblk_cell (i := 2) hr3 rfl
              have e3 := tblk_cell (i := 3) hr3 rfl
              have e4 := tblk_cell (i := 4) hr3 rfl
              clear B2 HRQ C1 C2 U3 hr3 F2
              go_wp2_with fail
              clear e0 e1 e2 e3 e4
              refine (HHO.out _ fa ba fc bc HF3.out).mono ?_
              rintro e w4 ⟨rfl, B4⟩
              have C4 := C3.trans (B4.mono C3.size)
              go_wp2
              go_ret
              exact ⟨rfl, C4⟩
      · have HF0 : Hid ((⟨#[71, 69, 84, 32, 47, 32, 72, 84, 84, 80, 47, 49, 46, 48, 13, 10]⟩ : ByteArray).data.toList = hostsB true (hs.take 0)) := rfl
        go_enter Tryz.func6, Tryz.ntmps6
        go_wp2_with fail
        refine HA.out.mono ?_
        rintro e w1 ⟨rfl, B1⟩
        clear HA
        go_wp2_with fail
        go_loopw [5, 6, 7, 34] (fun v5 v6 v7 vi wr => ∃ (k : Nat) (s : ByteArray) (g : Bool) (wt : ByteArray), k ≤ n ∧ vi = .int .i64 k ∧ v5 = .string s ∧ v6 = .bool g ∧ v7 = .string wt ∧ s.size ≤ 16 + 107 * k ∧ Hid (s.data.toList = hostsB true (hs.take k)) ∧ Hid (g = (true && okAll (hs.take k))) ∧ Hid (wt = lastN (hs.take k)) ∧ Hid (∀ h ∈ hs.take k, HostC h) ∧ Below w.heap.size w wr) (fun _ _ _ vi _ => n - (intOf vi).toNat)
        case atStart => exact ⟨0, ⟨#[71, 69, 84, 32, 47, 32, 72, 84, 84, 80, 47, 49, 46, 48, 13, 10]⟩, true, ⟨#[]⟩, Nat.zero_le _, rfl, rfl, rfl, rfl, by decide, HF0, rfl, rfl, (fun h hh => by cases hh), B1⟩
        case round =>
          obtain ⟨k, s, g, wt, hk, rfl, rfl, rfl, rfl, hsz0, HSK, HGK, HWK, HCK, hB⟩ := hrel
          have hsz : s.size ≤ 444 := by omega
          by_cases hlt : k < n
          · have hltl : k < hs.length := by rw [← HN.out]; exact hlt
            have hc1 := (hB.cell (p := ⟨g0, off + k, none⟩) hg0).trans (HC.out k hltl)
            have htk : hs.take (k + 1) = hs.take k ++ [hs[k]] := List.take_succ_eq_append_getElem hltl
            have HTK : Hid _ := htk
            clear htk
            generalize hs[k] = h at *
            by_cases hh : 100 < h.size
            · have hh2 : (100 : Int) < (h.size : Int) := by omega
              clear HSK HGK HWK HCK HTK HF0
              go_wp2
              go_ret
              exact ⟨rfl, hB⟩
            have hh2 : ¬ (100 : Int) < (h.size : Int) := by omega
            have HTR : Hid (∀ W, Calls Tryz.prog 17 #[.string h] W fun e w' => e = .returned (.string (trimT h)) ∧ w' = W) := fun W => rtrim_any h W (by omega)
            have HVA : Hid (∀ W, Calls Tryz.prog 18 #[.string h] W fun e w' => e = .returned (.bool (allB valP h.data.toList)) ∧ w' = W) := fun W => rValue_any h W (by unfold maxLen; omega)
            have HHO : Hid (∀ W, Calls Tryz.prog 19 #[.string h] W fun e w' => e = .returned (.tuple #[.string (hostP h).1, .bool (hostP h).2]) ∧ Below W.heap.size W w') := fun W => host_any h W (by unfold maxLen; omega)
            by_cases htr : trimT h = h
            · rw [htr] at HTR
              cases hva : allB valP h.data.toList
              · rw [hva] at HVA
                clear HSK HGK HWK HCK HTK HF0 HHO
                go_wp2_with fail
                refine (HTR.out _).mono ?_
                rintro e w2 ⟨rfl, rfl⟩
                go_wp2_with fail
                refine (HVA.out _).mono ?_
                rintro e w3 ⟨rfl, rfl⟩
                go_wp2
                go_ret
                exact ⟨rfl, hB⟩
              · rw [hva] at HVA
                have HCO : Hid (HostC h) := ⟨by omega, htr, hva⟩
                have c1 := fun W : World => sum_run W s ⟨#[104, 79, 83, 84, 58]⟩ (by show _ + 5 ≤ _; omega)
                have c2 := fun W : World => sum_run W (s ++ ⟨#[104, 79, 83, 84, 58]⟩) h (by rw [ByteArray.size_append]; show _ + 5 + _ ≤ _; omega)
                have c3 := fun W : World => sum_run W (s ++ ⟨#[104, 79, 83, 84, 58]⟩ ++ h) ⟨#[13, 10]⟩ (by rw [ByteArray.size_append, ByteArray.size_append]; show _ + 5 + _ + 2 ≤ _; omega)
                have HS1 : Hid ((s ++ ⟨#[104, 79, 83, 84, 58]⟩ ++ h ++ ⟨#[13, 10]⟩ : ByteArray).data.toList = hostsB true (hs.take (k + 1))) := by
                  rw [Hid, HTK.out]
                  have e : hostsB true (hs.take k ++ [h]) = hostsB true (hs.take k) ++ (linF tHOST h [] ++ [13, 10]) := by
                    unfold hostsB hLines
                    rw [List.map_append, flatL_app]
                    simp [flatL]
                  rw [e, ← HSK.out]
                  simp only [ByteArray.data_append, Array.toList_append, List.append_assoc]
                  rfl
                have HS2 : Hid ((s ++ ⟨#[104, 79, 83, 84, 58]⟩ ++ h ++ ⟨#[13, 10]⟩ : ByteArray).size ≤ 16 + 107 * (k + 1)) := by
                  rw [Hid, ByteArray.size_append, ByteArray.size_append, ByteArray.size_append]
                  show s.size + 5 + h.size + 2 ≤ _
                  omega
                have HG1 : Hid ((g && (hostP h).2) = (true && okAll (hs.take (k + 1)))) := by rw [Hid, HTK.out, okAll_snoc, HGK.out, Bool.and_assoc]
                have HW1 : Hid ((hostP h).1 = lastN (hs.take (k + 1))) := by rw [Hid, HTK.out, lastN_snoc]
                have HC1 : Hid (∀ x ∈ hs.take (k + 1), HostC x) := by
                  rw [Hid, HTK.out]
                  intro x hx
                  rcases List.mem_append.1 hx with q | q
                  · exact HCK.out x q
                  · rw [List.mem_singleton.1 q]; exact HCO.out
                generalize hostP h = hp at *
                obtain ⟨hp1', hp2'⟩ := hp
                simp only at HHO HG1 HW1
                clear HSK HGK HWK HCK HTK HF0 HCO htr hva
                go_wp2_with fail
                refine (HTR.out _).mono ?_
                rintro e w2 ⟨rfl, rfl⟩
                go_wp2_with fail
                refine (HVA.out _).mono ?_
                rintro e w3 ⟨rfl, rfl⟩
                go_wp2_with fail
                refine (HHO.out _).mono ?_
                rintro e w4 ⟨rfl, B4⟩
                have hB4 := hB.trans (B4.mono hB.size)
                clear HTR HVA HHO B4 hB hc1
                cases g
                · go_wp2
                  go_roundw
                  case rel => exact ⟨k + 1, _, false, hp1', by omega, by go_num, rfl, rfl, rfl, HS2.out, HS1, HG1, HW1, HC1, hB4⟩
                  case measure => simp [intOf]; omega
                · go_wp2
                  go_roundw
                  case rel => exact ⟨k + 1, _, hp2', hp1', by omega, by go_num, rfl, rfl, rfl, HS2.out, HS1, HG1, HW1, HC1, hB4⟩
                  case measure => simp [intOf]; omega
            · have hne : (trimT h).toList ≠ h.toList := by
                rw [ByteArray.toList_eq, ByteArray.toList_eq]
                intro e
                exact htr (ByteArray.ext (Array.toList_inj.1 e))
              have hne2 := str_ne htr
              clear HSK HGK HWK HCK HTK HF0 HHO HVA
              generalize trimT h = th at *
              go_wp2_with fail
              refine (HTR.out _).mono ?_
              rintro e w2 ⟨rfl, rfl⟩
              go_wp2
              go_ret
              exact ⟨rfl, hB⟩
          · have hk' : k = n := by omega
            subst hk'
            have e1 : hs.take k = hs := by rw [HN.out]; exact List.take_length
            rw [e1] at HSK HGK HWK HCK
            have HSD : Hid (s.data.toList = hostsB true hs) := HSK
            have HWT : Hid (wt = lastN hs) := HWK
            have HCO : Hid (∀ h ∈ hs, HostC h) := HCK
            have HG : Hid (g = ((decide (hs.length = 1) || (true && decide (hs.length = 0))) && okAll hs)) := by rw [Hid, ← HP1.out]; exact HGK.out
            clear e1 hsz0
            obtain ⟨S2, hS2⟩ : ∃ S2 : ByteArray, S2 = s ++ ⟨#[13, 10]⟩ := ⟨_, rfl⟩
            have hcat : ∀ W : World, (Op.stringOp .add s ⟨#[13, 10]⟩).run Tryz.prog W = .ok (.string S2) W := fun W => by rw [hS2]; exact sum_run W s ⟨#[13, 10]⟩ (by show s.size + 2 ≤ _; omega)
            have hS2d : S2.data.toList = hostsB true hs ++ [13, 10] := by rw [hS2, ByteArray.data_append, Array.toList_append, HSD.out]
            have hS2s : S2.size = s.size + 2 := by rw [hS2, ByteArray.size_append]; rfl
            have hbl : (hostsB true hs).length = s.size := by rw [← HSD.out]; rfl
            obtain ⟨v1, w1, r1, S1, B1, _⟩ := conv_src wr S2 (by rw [hS2s]; unfold maxLen; omega)
            have C1 := hB.trans (B1.mono hB.size)
            rw [hS2d] at S1
            have hlt1 : 0 < (hostsB true hs ++ [13, 10]).length → wr.heap.size < w1.heap.size := fun _ => by assumption
            have hlen1 : (hostsB true hs ++ [13, 10]).length = s.size + 2 := by rw [List.length_append, hbl]; rfl
            obtain ⟨a1, c1, rfl, q1, q2, q3⟩ := id S1
            have hcv : (convert 9 22 (.string S2)).run Tryz.prog wr = .ok (.slice a1 (s.size + 2) c1) w1 := by rw [← hlen1]; exact r1
            have HRQ : Hid (Calls Tryz.prog 11 #[.slice a1 (s.size + 2) c1] w1 (ReqR w1 (reqQ (hostsB true hs ++ [13, 10])))) := by
              have k := hreq_any (hostsB true hs ++ [13, 10]) wr.heap.size c1 a1 w1 S1 hlt1 (HL.out.below C1).max (by rw [hlen1]; omega)
              rw [hlen1] at k
              exact k
            have hq := reqQ_hosts true hs HLE.out HCO.out
            have hHQ : hostsOk hs (miOf true) = true → hostQ (hostFs hs) = lastN hs := hostQ_hosts true hs
            rw [hbl] at hq
            rw [hosts_same] at hq hHQ
            rw [← HG.out] at hq hHQ
            have HFB : Hid (FBd 1000 (hostFs hs)) := fun f hf => by
              obtain ⟨h, hh, rfl⟩ := List.mem_map.1 hf
              exact ⟨show (4 : Nat) ≤ 1000 by decide, by have := (HCO.out h hh).sz; simp only; omega⟩
            have HFL : Hid ((hostFs hs).length ≤ 1024) := by
              rw [Hid]; unfold hostFs; rw [List.length_map]; have := HLE.out; omega
            have hwt := HWT.out
            have HSZ : Hid (s.size ≤ 444) := hsz
            clear r1 S1 B1 q1 q2 q3 hS2 hS2d hS2s hbl hlt1 hlen1 hB HSD HG HWT
            cases g
            · rw [if_neg (by decide)] at hq
              rw [hq] at HRQ
              unfold ReqR rdV rdNo at HRQ
              simp only at HRQ
              clear hq hHQ hwt
              go_wp2_with fail
              refine HRQ.out.mono ?_
              rintro e w2 ⟨fa, ba, fc, bc, rfl, _, _, B2⟩
              have C2 := (C1.trans (B2.mono C1.size)).alloc (C1.trans (B2.mono C1.size)).size (.cells #[.string ⟨#[]⟩, .string ⟨#[]⟩, .int .i64 0, .slice fa 0 fc, .slice ba 0 bc] 26)
              clear B2 HRQ C1
              go_wp2
              go_ret
              exact ⟨rfl, C2⟩
            · rw [if_pos rfl] at hq
              have hHQ2 := hHQ rfl
              rw [hq] at HRQ
              unfold ReqR rdV at HRQ
              simp only at HRQ
              have hsum : IntKind.i64.wrap ((s.size : Int) + 2) = ((s.size + 2 : Nat) : Int) := by simp [IntKind.wrap, IntKind.bits, IntKind.signed]; omega
              have HHO : Hid (∀ (W : World) (fa ba : Option Addr) (fc bc : Nat), Fds W.heap.size W (.slice fa (hostFs hs).length fc) (hostFs hs) → Calls Tryz.prog 20 #[.agg #[.string ⟨#[71, 69, 84]⟩, .string ⟨#[47]⟩, .int .i64 (miOf true), .slice fa (hostFs hs).length fc, .slice ba 0 bc]] W fun e w' => e = .returned (.string wt) ∧ Below W.heap.size W w') := fun W fa ba fc bc F => by
                have k := hhost_any ⟨#[71, 69, 84]⟩ ⟨#[47]⟩ (miOf true) (hostFs hs) fa ba fc 0 bc W F HFB.out HFL.out
                rw [hHQ2, ← hwt] at k
                exact k
              have HHS : Hid (∀ (B : Nat) (W : World) (v : Value), OwnF B W v (hostFs hs) → Fds W.heap.size W v (hostFs hs)) := fun B W v O => O.fds
              clear hq hHQ hHQ2 hwt
              generalize hostFs hs = fs at *
              generalize fs.length = fl at *
              generalize miOf true = mi at *
              generalize s.size + 2 = n2 at *
              clear hsz
              go_wp2_with fail
              refine HRQ.out.mono ?_
              rintro e w2 ⟨fa, ba, fc, bc, rfl, F2, _, B2⟩
              have U3 : Below w2.heap.size w2 (w2.alloc (.cells #[.string ⟨#[71, 69, 84]⟩, .string ⟨#[47]⟩, .int .i64 mi, .slice fa fl fc, .slice ba 0 bc] 26)) := (Below.refl _ _).alloc (Nat.le_refl _) _
              have C2 := C1.trans (B2.mono C1.size)
              have C3 := C2.alloc C2.size (.cells #[.string ⟨#[71, 69, 84]⟩, .string ⟨#[47]⟩, .int .i64 mi, .slice fa fl fc, .slice ba 0 bc] 26)
              have hr3 := tblk_new w2 (.cells #[.string ⟨#[71, 69, 84]⟩, .string ⟨#[47]⟩, .int .i64 mi, .slice fa fl fc, .slice ba 0 bc] 26)
              have HF3 : Hid (Fds (w2.alloc (.cells #[.string ⟨#[71, 69, 84]⟩, .string ⟨#[47]⟩, .int .i64 mi, .slice fa fl fc, .slice ba 0 bc] 26)).heap.size (w2.alloc (.cells #[.string ⟨#[71, 69, 84]⟩, .string ⟨#[47]⟩, .int .i64 mi, .slice fa fl fc, .slice ba 0 bc] 26)) (.slice fa fl fc) fs) := HHS.out _ _ _ (F2.keep U3)
              have e0 := tblk_cell (i := 0) hr3 rfl
              have e1 := tblk_cell (i := 1) hr3 rfl
              have e2 := tblk_cell (i := 2) hr3 rfl
              have e3 := tblk_cell (i := 3) hr3 rfl
              have e4 := tblk_cell (i := 4) hr3 rfl
              clear B2 HRQ C1 C2 U3 hr3 F2
              go_wp2_with fail
              clear e0 e1 e2 e3 e4
              refine (HHO.out _ fa ba fc bc HF3.out).mono ?_
              rintro e w4 ⟨rfl, B4⟩
              have C4 := C3.trans (B4.mono C3.size)
              go_wp2
              go_ret
              exact ⟨rfl, C4⟩
end Go.Proofs.YthbjdbookiejeabGreatDoor

/- Texts that came in. -/
namespace Go.Proofs.YthbjdbookiejeabGreatDoor
open Go.ChangeShapes Go.WideShapes Go.ChangeAt Go.RowKit
set_option linter.unusedVariables false

/-- Texts that came in. -/
def datT {H : Type} (x : ByteArray) : DataW H := .lit (.string x.data.toList)
theorem open_texts {H : Type} {enc : TypeId × Value → H} {w : World} {base : Nat} {held : Bool} {a : Option Addr} {len cap : Nat} {x : DataW H × List MemPlace}
    (h : ∃ fuel, DataW.trod enc Tryz.prog w base (fun _ => true) held fuel 39 (Value.slice a len cap).cells.toList = some x) :
    ∃ xs : List ByteArray, Txs w.heap.size w (.slice a len cap) xs ∧ ((x.1 = .nil ∧ xs = []) ∨ ∃ sp, x.1 = .slice (xs.map datT) sp) := by
  obtain ⟨fuel, hf⟩ := h
  rcases Go.Deep.open_strs Tryz.underlying39 Tryz.underlying9 (by kernel_rfl) hf with ⟨hcs, hx⟩ | ⟨ad, l, c, m, Sx, hcs, hb, hl, hm, hmm, hx, hc⟩
  · simp [Value.cells] at hcs
    obtain ⟨rfl, rfl, rfl⟩ := hcs
    exact ⟨[], ⟨none, 0, rfl, fun _ => rfl, Nat.le_refl _, Nat.zero_le _, fun h => absurd h (Nat.lt_irrefl _)⟩, .inl ⟨by rw [hx], rfl⟩⟩
  · simp [Value.cells] at hcs
    obtain ⟨rfl, rfl, rfl⟩ := hcs
    have hmm' : m = cap := by simpa using hmm
    subst hmm'
    have hln : ((List.range len).map Sx).length = len := by simp
    refine ⟨(List.range len).map Sx, ⟨_, _, by rw [hln], (fun e => by cases e), by rw [hln]; exact hl, hm, fun hp => ?_⟩, .inr ⟨(List.range (m - len)).map fun j => .lit (.string (Sx (len + j)).data.toList), ?_⟩⟩
    · rw [hln] at hp
      obtain ⟨b, off, spot⟩ := ad
      have hspot : spot = none := by simpa [Addr.add] using World.cell?_spot (hc 0 (by omega)).1
      subst hspot
      have hcc : ∀ i, i < m → World.cell? w ⟨b, off + i, none⟩ = some (.string (Sx i)) := fun i hi => by
        have k := (hc i hi).1
        rw [addr_add] at k
        exact k
      refine ⟨b, off, rfl, ?_, fun j hj => ?_⟩
      · have k := hcc 0 (by omega)
        unfold World.cell? at k
        rcases Nat.lt_or_ge b w.heap.size with g | g
        · exact g
        · simp [Array.getElem?_eq_none g] at k
      · rw [hln] at hj
        have e : ((List.range len).map Sx)[j]'(by rw [hln]; exact hj) = Sx j := by simp
        rw [e]
        exact hcc j (by omega)
    · rw [hx, List.map_map]; rfl
end Go.Proofs.YthbjdbookiejeabGreatDoor

/- Whatever the texts and the version, HttpHosts answers true: a request of HTTP/1.1 has just one Host field, one of HTTP/1.0 at most one, and it has a host, else 400; no condition. -/
namespace Go.Proofs.YthbjdbookiejeabGreatDoor.httpHosts
open Go.ChangeShapes Go.WideShapes Go.ChangeAt Go.RowKit
open Go.ChangeMaps (open_string shut_string)
set_option linter.unusedVariables false

theorem own : ownKnob Tryz.prog.godebug = none := by kernel_rfl
theorem laidOut : laidOutB Tryz.prog = true := by kernel_rfl
theorem maxL_of {W : World} (hsh : W.ShapedOpen Tryz.prog) : MaxL W :=
  cell_of_shapedOpen_int (P := Tryz.prog) (g := 0) (t := 3) (zero := #[.int .i64 0]) hsh (of_decide_eq_true (by kernel_rfl)) (by kernel_rfl) rfl (by kernel_rfl) (by kernel_rfl) Tryz.underlying3
noncomputable def laidWorld (os : Os) : World := World.laidAll Tryz.prog os Rows.httpHostsRow.laid
theorem laid_met (os : Os) : laidMetH Tryz.prog Rows.httpHostsRow.laid ((laidWorld os).forCall (fun _ _ => 0) ⟨#[], #[.slice none 0 0, .bool false], []⟩).memory := by
  rw [MakeChecks.laidMetH_plain _ _ _ (by kernel_rfl)]
  exact laidMet_laidAll _ (by kernel_rfl) (by kernel_rfl)
set_option maxRecDepth 100000 in
theorem lifted (os : Os) (started : os.Started) (H : Type) (enc : TypeId × Value → H) (F : Stop.Interp) :
    ReturnsInHanded {} Tryz.checked os 6 .any ((OpenSpec.ofChange Rows.httpHostsSpec).preRow enc Tryz.prog Tryz.f6 Rows.httpHostsRow.domain false Rows.httpHostsRow.laid) (((OpenSpec.ofChange Rows.httpHostsSpec).at F).post enc Tryz.prog Tryz.f6 false true false false) := by
  obtain ⟨places, hx⟩ := (⟨[], by kernel_rfl⟩ : ∃ places, DataW.whole enc Tryz.prog ((laidWorld os).forCall (fun _ _ => 0) ⟨#[], #[.slice none 0 0, .bool false], []⟩).memory Tryz.f6.params.toList Rows.httpHostsSpec.vars false (#[.slice none 0 0, .bool false] : Array Value).toList 8 = some ([.nil, .lit (.bool false)], [], places))
  refine returnsInHanded_of_row (C := Tryz.checked) (s := OpenSpec.ofChange Rows.httpHostsSpec) own started (by kernel_rfl) Tryz.func6
    (witness_row_atRef (enc := enc) (C := Tryz.checked) false (laidWorld os) #[.slice none 0 0, .bool false] rfl (by kernel_rfl) (by kernel_rfl) (by kernel_rfl)
      (OpenSpec.preRow_of_cond 8 hx (by kernel_rfl) (fun k hk => by cases hk) (by kernel_rfl) (laid_met os))) ?_
  intro W base args ds gs before hval0 hW _ hcond hsz hlaid hsh _
  have hM := maxL_of hsh
  clear hsh
  have hval : ∀ (j : Nat) t v, Tryz.f6.params[j]? = some t → args[j]? = some v → Value.okWide Tryz.prog W .any base t v := hval0
  have hW' := hW
  obtain ⟨p, q, hA0, hV, rfl, hfz, hnd⟩ := hW
  have hA : DataW.TrodAll enc Tryz.prog W 0 (fun _ => true) true Tryz.f6.params.toList args.toList ds p := hA0
  rw [Tryz.params6] at hA hval
  obtain ⟨v0, vs0, d0, ds0, p0, q0, hargs, rfl, rfl, h0, r0⟩ := trodAll_cons hA
  obtain ⟨v1, vs1, d1, ds1, p1, q1, rfl, rfl, rfl, h1, r1⟩ := trodAll_cons r0
  obtain ⟨rfl, rfl, rfl⟩ := trodAll_nil r1
  obtain rfl : args = #[v0, v1] := by cases args; simp_all
  obtain ⟨rfl, rfl⟩ := trodVars_none hV
  obtain ⟨a0, len0, cap0, rfl⟩ := okWide_slice Tryz.underlying39 (hval 0 39 v0 rfl rfl)
  have k0 := h0
  have lt0 : ∀ x ∈ p0, x.block < W.heap.size := by obtain ⟨m, hm⟩ := k0; exact DataW.trod_lt m _ _ _ hm
  obtain ⟨ss0, w0, x0⟩ := open_texts h0
  obtain ⟨a1, rfl, rfl, rfl⟩ := open_bool Tryz.underlying4 (hval 1 4 v1 rfl rfl) h1
  clear hA0 hval0
  have hP := pow_of (l := Rows.httpHostsRow.laid) (by kernel_rfl) hlaid
  refine (hosts8_walk ss0 a0 len0 cap0 a1 W w0 ⟨hM, hP⟩).mono fun e W' ⟨he, bel⟩ => ?_
  subst he
  exact ⟨_, rfl, _, _, _, [], _, [], hW', trodAll_mk1 (shut_bool Tryz.underlying4 _), (trodAll_cons_mk (Below.trod laidOut (by kernel_rfl) (of_decide_eq_true (by kernel_rfl)) k0 bel lt0) (trodAll_cons_mk (shut_bool Tryz.underlying4 a1) trodAll_mk0)), rfl, bel.frame _, fun h => by cases h⟩

theorem over : Rows.HttpHostsSaid :=
  OpenClaim.holds_of_cond 6 Tryz.f6 rfl rfl rfl rfl rfl rfl rfl ⟨rfl, rfl, rfl, rfl, rfl⟩ rfl rfl rfl rfl rfl (by kernel_rfl) Tryz.func6 (by kernel_rfl)
    (of_decide_eq_true (by kernel_rfl)) (by unfold Func.isWrapper; first | (rw [if_pos (by decide +kernel)]; kernel_rfl) | (rw [if_neg (by decide +kernel)]; exact ⟨rfl, rfl⟩))
    (fun os started H enc _ F => by rw [OpenClaim.pre_eq_preRow]; exact lifted os started H enc F)

end Go.Proofs.YthbjdbookiejeabGreatDoor.httpHosts
namespace Go.Proofs.YthbjdbookiejeabGreatDoor
/-- The statement: the tied card. -/
theorem httpHosts_holds : Rows.HttpHostsCardSaid :=
  Claim7.holds_tied_plain_at .later [] _ _ _ _
    httpHosts.over (fun _ h => by cases h) (by kernel_rfl) (fun _ h => by cases h) httpHosts_row_tie rfl ⟨rfl, rfl⟩ (by kernel_rfl) rfl
    (fun f fn hf hfn => by
      obtain rfl : f = 6 := Option.some.inj ((show Tryz.prog.funcNamed "tollbar/tollbarlaw08.HttpHosts" = some 6 by kernel_rfl).symm.trans hf) |>.symm
      obtain rfl : fn = Tryz.f6 := (Option.some.inj (Tryz.func6.symm.trans hfn)).symm
      exact ⟨by kernel_rfl, fun j t ht => by
        rw [Tryz.params6] at ht
        have hm : t ∈ [39, 4] := by simpa using Array.mem_of_getElem? ht
        have hall : ([39, 4].all fun u => !Tryz.prog.wantsStandIn u) = true := by kernel_rfl
        exact (show Tryz.prog.wantsStandIn t = false by simpa using List.all_eq_true.1 hall t hm)⟩)
    (by kernel_rfl)
#print axioms httpHosts_holds
end Go.Proofs.YthbjdbookiejeabGreatDoor
