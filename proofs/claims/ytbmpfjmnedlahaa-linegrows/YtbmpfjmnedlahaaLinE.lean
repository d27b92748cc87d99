/- LineGrows, walked. -/
import Derived.Test.YtbmpfjmnedlahaaLinC
namespace Go.Proofs.Ytbmpfjmnedlahaa
open Go.RowKit
set_option linter.unusedVariables false

/-- Two lists of bytes, one behind the other, in new memory. -/
theorem two_src {w : World} {kb kc len cap lenc capc : Nat} {a ac : Option Addr} {b c : List UInt8} (hb : Src w kb (.slice a len cap) b) (hkb : 0 < b.length → kb < w.heap.size) (hc : Src w kc (.slice ac lenc capc) c) (hkc : 0 < c.length → kc < w.heap.size) (hnb : a = none → cap = 0) (hnc : ac = none → capc = 0) (hsum : b.length + c.length ≤ 140737488355328) :
    ∃ v2 w2 g3 n3 c3 w3, (Builtin.append_ #[22, 22] 22 #[.slice (some ⟨w.heap.size, 0, none⟩) 0 0, .slice a len cap]).run Try.prog (w.alloc (.cells #[] 5)) = .ok v2 w2 ∧
      (Builtin.append_ #[22, 22] 22 #[v2, .slice ac lenc capc]).run Try.prog w2 = .ok (.slice (some ⟨g3, 0, none⟩) n3 c3) w3 ∧ Src w3 g3 (.slice (some ⟨g3, 0, none⟩) n3 c3) (b ++ c) ∧ w.heap.size ≤ g3 ∧ g3 < w3.heap.size ∧ Below w.heap.size w w3 := by
  have BA : Below w.heap.size w (w.alloc (.cells #[] 5)) := (Below.refl _ _).alloc (Nat.le_refl _) _
  have S := hb.keep hkb BA
  have T := hc.keep hkc BA
  obtain ⟨v2, w2, g2, r2, A2, hg2, K2⟩ := acc_append (Acc.empty w) S hnb (by simp; omega)
  have B2 : Below w.heap.size w w2 := BA.trans (K2.below BA.size (fun k hk e => by omega))
  have hw : w.heap.size < (w.alloc (.cells #[] 5)).heap.size := by simp
  have T2 : Src w2 kc (.slice ac lenc capc) c := hc.keep hkc B2
  obtain ⟨v3, w3, g3, r3, A3, hg3, K3⟩ := acc_append A2 T2 hnc (by simp; omega)
  have hg2' : w.heap.size ≤ g2 := by omega
  have hk2 := K2.size
  obtain ⟨c3, rfl⟩ := A3.form
  exact ⟨v2, w2, g3, _, c3, w3, r2, r3, A3.src, by omega, A3.lt, B2.trans (K3.below B2.size (fun k hk e => by omega))⟩
theorem cutV_app (m : Nat) (b c : List UInt8) (h : cutAt m 0 b ≠ (none, 0)) : cutV m (b ++ c) = cutV m b := by
  have k := cutAt_app m c b 0 h
  unfold cutV cutS cutN cutE
  rw [k]
  rcases cut_cases m b with ⟨i, e, hl, _⟩ | ⟨e, he⟩
  · rw [e]
    simp only
    rw [List.take_append_of_le_length (by omega)]
  · rw [he]

set_option maxHeartbeats 4000000 in
theorem grows_walk (kb len cap : Nat) (a : Option Addr) (b : List UInt8) (kc lenc capc : Nat) (ac : Option Addr) (c : List UInt8) (most : Int) (w : World) (hb : Src w kb (.slice a len cap) b) (hkb : 0 < b.length → kb < w.heap.size) (hnb : a = none → cap = 0) (hc : Src w kc (.slice ac lenc capc) c) (hkc : 0 < c.length → kc < w.heap.size) (hnc : ac = none → capc = 0) :
    Calls Try.prog 4 #[.slice a len cap, .slice ac lenc capc, .int .i64 most] w fun e w' => e = .returned (.bool true) ∧ Below w.heap.size w w' := by
  have hlb := hb.len.1
  have hlc := hc.len.1
  go_enter Try.func4, Try.ntmps4
  go_wp2_with fail
  refine (cutting_any _).mono ?_
  rintro e w1 ⟨rfl, B1⟩
  by_cases hlen : len ≤ 3000 ∧ lenc ≤ 3000
  · obtain ⟨g1, g2⟩ := hlen
    have hk1 : 0 < b.length → kb < w1.heap.size := fun q => Nat.lt_of_lt_of_le (hkb q) B1.size
    obtain ⟨v2, w2, g3, n3, c3, w3, r2, r3, S3, hg3, hg3', B3⟩ := two_src (hb.keep hkb B1) hk1 (hc.keep hkc B1) (fun q => Nat.lt_of_lt_of_le (hkc q) B1.size) hnb hnc (by omega)
    have C3 := B1.trans (B3.mono B1.size)
    have SB := hb.keep hkb C3
    have HB : Hid (Calls Try.prog 6 #[.slice a len cap, .int .i64 most] w3 fun e w' => e = .returned (cutV most.toNat b) ∧ w' = w3) := cut_any b kb _ most w3 SB
    have HA : Hid (Calls Try.prog 6 #[.slice (some ⟨g3, 0, none⟩) n3 c3, .int .i64 most] w3 fun e w' => e = .returned (cutV most.toNat (b ++ c)) ∧ w' = w3) := cut_any (b ++ c) g3 _ most w3 S3
    have HV : Hid (cutAt most.toNat 0 b ≠ (none, 0) → cutV most.toNat (b ++ c) = cutV most.toNat b) := cutV_app _ _ _
    have i1 : (len : Int) ≤ 3000 := by omega
    have i2 : (lenc : Int) ≤ 3000 := by omega
    clear hb hc hkc hk1 B1 B3 S3 hg3 hg3' hnb hnc
    generalize cutV most.toNat (b ++ c) = vA at *
    have HSB : Hid (Src w3 kb (.slice a len cap) b) := SB
    clear SB
    rcases cut_cases most.toNat b with ⟨k, hk, hkl, htk⟩ | ⟨er, he⟩
    · have hv := HV.out (by rw [hk]; simp)
      have HVB := cutV_hit hk
      rw [hv] at HA
      rw [HVB] at HA HB
      obtain ⟨a', c', e', _, hcm, hcell⟩ := HSB.out
      injection e' with e1 e2 e3
      subst e1 e3
      obtain ⟨off, rfl, hc⟩ := hcell (by omega)
      have hcv := conv_take (c := cap) hc (k + 2) hkl
      rw [htk] at hcv
      have hcv2 : (convert 22 9 (.slice (some ⟨kb, off, none⟩) (k + 2) cap)).run Try.prog w3 = .ok (.string (⟨(b.take k).toArray⟩ ++ ⟨#[13, 10]⟩)) w3 := by rw [cat_data]; exact hcv
      have hs1 := sum_run w3 ⟨(b.take k).toArray⟩ ⟨#[13, 10]⟩ (by show (b.take k).length + 2 ≤ _; rw [List.length_take]; omega)
      have hks : k + 2 ≤ len := by omega
      have hz : (⟨(b.take k).toArray⟩ : ByteArray).size = k := by show (b.take k).length = k; rw [List.length_take]; omega
      have hcap : len ≤ cap := by omega
      have hcap2 : cap ≤ 9223372036854775807 := by unfold maxLen at hcm; omega
      have hn0 : (0 : Int) < (k : Int) + 2 := by omega
      clear hcell hc htk hkl hv HVB HV hk HSB hcm hlb hlc hcv e2
      generalize (⟨(b.take k).toArray⟩ : ByteArray) = T at *
      go_wp2_with (first | (at_builtin; refine wpList_append_run rfl _ _ 22 rfl _ _ _ w2 rfl rfl r2 ?_) | (at_builtin; refine wpList_append_run rfl _ _ 22 rfl _ _ _ w3 rfl rfl r3 ?_))
      refine HB.out.mono ?_
      rintro e w4 ⟨rfl, rfl⟩
      go_wp2_with fail
      refine HA.out.mono ?_
      rintro e w5 ⟨rfl, rfl⟩
      go_wp2
      go_ret
      exact ⟨ret_bool (by simp), C3⟩
    · have HVB := cutV_miss he
      rw [HVB] at HB
      have hr : er = 0 ∨ (er ≠ 0 ∧ vA = .tuple #[.string ⟨#[]⟩, .int .i64 0, .int .i64 er]) := by
        by_cases h0 : er = 0
        · exact .inl h0
        · exact .inr ⟨h0, by rw [← HVB]; exact HV.out (by rw [he]; simpa using h0)⟩
      clear HVB HV he HSB hlb hlc
      rcases hr with rfl | ⟨h0, rfl⟩
      · go_wp2_with (first | (at_builtin; refine wpList_append_run rfl _ _ 22 rfl _ _ _ w2 rfl rfl r2 ?_) | (at_builtin; refine wpList_append_run rfl _ _ 22 rfl _ _ _ w3 rfl rfl r3 ?_))
        refine HB.out.mono ?_
        rintro e w4 ⟨rfl, rfl⟩
        go_wp2
        go_ret
        exact ⟨rfl, C3⟩
      · have h0' : (er != 0) = true := by simpa using h0
        go_wp2_with (first | (at_builtin; refine wpList_append_run rfl _ _ 22 rfl _ _ _ w2 rfl rfl r2 ?_) | (at_builtin; refine wpList_append_run rfl _ _ 22 rfl _ _ _ w3 rfl rfl r3 ?_))
        refine HB.out.mono ?_
        rintro e w4 ⟨rfl, rfl⟩
        go_wp2_with fail
        refine HA.out.mono ?_
        rintro e w5 ⟨rfl, rfl⟩
        go_wp2
        go_ret
        exact ⟨rfl, C3⟩
  · have hor : (3000 : Int) < (len : Int) ∨ ((len : Int) ≤ 3000 ∧ (3000 : Int) < (lenc : Int)) := by omega
    clear hb hc hkb hkc hnb hnc hlen hlb hlc
    rcases hor with h | ⟨h, h'⟩
    · go_wp2
      go_ret
      exact ⟨rfl, B1⟩
    · go_wp2
      go_ret
      exact ⟨rfl, B1⟩
end Go.Proofs.Ytbmpfjmnedlahaa
