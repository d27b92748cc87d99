/- RouteSwaps: plain facts. -/
import Derived.Test.YtjfcoihfjjcooaaRtE
import Derived.Test.YtjfcoihfjjcooaaRtI
namespace Go.Proofs.Ytjfcoihfjjcooaa
open Go.RowKit
set_option linter.unusedVariables false

def tgtT (p a q : ByteArray) : ByteArray := p ++ ⟨#[47]⟩ ++ a ++ ⟨#[63]⟩ ++ q
theorem tgtT_data (p a q : ByteArray) : (tgtT p a q).data.toList = p.data.toList ++ (47 :: (a.data.toList ++ 63 :: q.data.toList)) := by
  unfold tgtT
  rw [app_data, app_data, app_data, app_data]
  show ((p.data.toList ++ [47]) ++ a.data.toList ++ [63]) ++ q.data.toList = _
  simp
theorem tgtT_size (p a q : ByteArray) : (tgtT p a q).size = p.size + a.size + q.size + 2 := by
  rw [← rt_len, tgtT_data]
  simp
  have h1 : p.data.size = p.size := rfl
  have h2 : a.data.size = a.size := rfl
  have h3 : q.data.size = q.size := rfl
  omega
theorem sw_fit {p a q : ByteArray} (hp : ∀ b ∈ p.data.toList, b ≠ 63) : fitT p (tgtT p a q) = true := by
  unfold fitT
  rw [tgtT_data]
  exact fit_s _ _ hp
/-- What is swapped in stands ahead, the query behind. -/
theorem sw_rew {p s a q : ByteArray} (hp : ∀ b ∈ p.data.toList, b ≠ 63) (hs : s.size ≤ 100) (hl : a.size + q.size ≤ 300) :
    ∃ (J : ByteArray) (y : List UInt8), rewB p s (tgtT p a q) = (J, true) ∧ J.data.toList = s.data.toList ++ (y ++ 63 :: q.data.toList) ∧ J.size ≤ 512 := by
  have hr : (restB p (tgtT p a q)).data.toList = 47 :: (a.data.toList ++ 63 :: q.data.toList) := by rw [restB_data, tgtT_data, List.drop_left]
  have e : ∃ y, (joinB s (restB p (tgtT p a q))).data.toList = s.data.toList ++ (y ++ 63 :: q.data.toList) ∧ y.length ≤ a.size + 1 := by
    show ∃ y, joinR s.data.toList (restB p (tgtT p a q)).data.toList = s.data.toList ++ (y ++ 63 :: q.data.toList) ∧ y.length ≤ a.size + 1
    rw [hr]
    unfold joinR
    by_cases h : s.data.toList.getLast? = some 47
    · rw [if_pos h, if_pos (show (47 :: (a.data.toList ++ 63 :: q.data.toList)).head? = some 47 from rfl)]
      exact ⟨a.data.toList, rfl, by rw [rt_len]; omega⟩
    · rw [if_neg h, if_neg (fun k => k.2.1 rfl)]
      exact ⟨47 :: a.data.toList, rfl, by rw [List.length_cons, rt_len]; exact Nat.le_refl _⟩
  obtain ⟨y, e1, e2⟩ := e
  have z : (joinB s (restB p (tgtT p a q))).size ≤ 512 := by
    rw [← rt_len, e1, List.length_append, List.length_append, List.length_cons, rt_len, rt_len]
    omega
  exact ⟨_, y, rew_yes (sw_fit hp) (by omega), e1, z⟩
theorem sw_pre {J s : ByteArray} {x : List UInt8} (h : J.data.toList = s.data.toList ++ x) : s.size ≤ J.size ∧ ((J.extract 0 s.size).toList == s.toList) = true := by
  have k := congrArg List.length h
  rw [List.length_append, rt_len, rt_len] at k
  refine ⟨by omega, ?_⟩
  have e := rt_ext J 0 s.size
  rw [h, List.drop_zero, ← rt_len s, List.take_left] at e
  rw [ByteArray.toList_eq, ByteArray.toList_eq]
  show ((J.extract 0 s.data.toList.length).data.toList == s.data.toList) = true
  rw [e]
  exact beq_self_eq_true _
theorem sw_suf {J q : ByteArray} {x : List UInt8} (h : J.data.toList = x ++ 63 :: q.data.toList) : ∃ n : Nat, n ≤ J.size ∧ (J.size : Int) - (q.size : Int) - 1 = n ∧ ((J.extract n J.size).toList == ((⟨#[63]⟩ : ByteArray) ++ q).toList) = true := by
  have k := congrArg List.length h
  rw [List.length_append, List.length_cons, rt_len, rt_len] at k
  refine ⟨x.length, by omega, by omega, ?_⟩
  have e := rt_ext J x.length J.size
  rw [← rt_len J, List.take_length, h, List.drop_left] at e
  rw [ByteArray.toList_eq, ByteArray.toList_eq, app_data]
  have e2 : (J.extract x.length J.size).data.toList = 63 :: q.data.toList := by
    rw [← rt_len J, h]; exact e
  rw [e2]
  show ((63 :: q.data.toList) == [63] ++ q.data.toList) = true
  exact beq_self_eq_true _
theorem sw_same {p a : ByteArray} (hp : ∀ b ∈ p.data.toList, b ≠ 63) (ha : ∀ b ∈ a.data.toList, b ≠ 63) (hz : p.size ≤ 100) (hl : a.size ≤ 300) (hf : fitT p (p ++ a) = true) :
    ∃ X, rewB p p (p ++ a) = (X, true) ∧ (p.data.toList.getLast? = some 47 → a.data.toList.head? = some 47 → X = p ++ a.extract 1 a.size) ∧ (¬ (p.data.toList.getLast? = some 47 ∧ a.data.toList.head? = some 47) → X = p ++ a) := by
  have hr : restB p (p ++ a) = a := rt_eq (by rw [restB_data, app_data, List.drop_left])
  have hf2 := hf
  unfold fitT at hf
  rw [app_data, fit_app _ _ hp, pathL_all _ ha] at hf
  have e : joinB p a = (if p.data.toList.getLast? = some 47 ∧ a.data.toList.head? = some 47 then p ++ a.extract 1 a.size else p ++ a) := by
    by_cases h1 : p.data.toList.getLast? = some 47
    · by_cases h2 : a.data.toList.head? = some 47
      · rw [if_pos ⟨h1, h2⟩]
        apply rt_eq
        rw [app_data, rt_ext, ← rt_len a, List.take_length]
        show joinR _ _ = _
        unfold joinR
        rw [if_pos h1, if_pos h2]
      · rw [if_neg (fun k => h2 k.2)]
        apply rt_eq
        rw [app_data]
        show joinR _ _ = _
        unfold joinR
        rw [if_pos h1, if_neg h2]
    · rw [if_neg (fun k => h1 k.1)]
      apply rt_eq
      rw [app_data]
      show joinR _ _ = _
      unfold joinR
      rw [if_neg h1, if_neg (fun k => by
        have h1' : (p.data.toList.getLast? == some 47) = false := by rw [beq_eq_false_iff_ne]; exact h1
        rw [h1', Bool.false_or, Bool.or_eq_true, decide_eq_true_iff, beq_iff_eq] at hf
        rcases hf with hf | hf
        · rw [hf] at k; exact k.1 rfl
        · exact k.2.1 hf)]
  have z : (joinB p a).size ≤ 512 := by
    rw [e]
    split
    · rw [rt_sizes, ByteArray.size_extract]; omega
    · rw [rt_sizes]; omega
  refine ⟨joinB p a, ?_, fun h1 h2 => by rw [e, if_pos ⟨h1, h2⟩], fun h => by rw [e, if_neg h]⟩
  have k := rew_yes (s := p) hf2 (by rw [hr]; omega)
  rw [hr] at k
  exact k
theorem sw_one {p t : ByteArray} {m : Int} (hf : fitT p t = true) (h : Best [⟨p, ⟨#[]⟩, ⟨#[]⟩⟩] t 1 m) : m = 0 := by
  have a : Best [⟨p, ⟨#[]⟩, ⟨#[]⟩⟩] t 1 ((0 : Nat) : Int) := (Best.zero _ _).first (by simp) hf
  exact Best.one h a
theorem one_rts {W : World} {b : Nat} {p : ByteArray} (h : W.heap[b]? = some (.cells #[.string p, .string ⟨#[]⟩, .string ⟨#[]⟩] 26)) : Rts W.heap.size W (.slice (some ⟨b, 0, none⟩) 1 1) [⟨p, ⟨#[]⟩, ⟨#[]⟩⟩] := by
  refine ⟨_, 1, rfl, (fun e => by cases e), Nat.le_refl _, by decide, fun _ => ⟨b, 0, rfl, (Array.getElem?_eq_some_iff.1 h).1, fun j hj => ?_⟩⟩
  have hj2 : j < 1 := hj
  obtain rfl : j = 0 := by omega
  exact ⟨tblk_cell h rfl, tblk_cell h rfl, tblk_cell h rfl⟩
/-- A path of at most 100 bytes. -/
def ptB (s : ByteArray) : Bool := tgB s && (((s.data.toList.head? == some 47)) && decide (s.size ≤ 100))
theorem ptB_of {s : ByteArray} (h : ptB s = true) : 0 < s.size ∧ s.size ≤ 100 := by
  unfold ptB at h
  rw [Bool.and_eq_true, Bool.and_eq_true] at h
  exact ⟨tgB_pos h.1, of_decide_eq_true h.2.2⟩
set_option maxHeartbeats 1000000 in
theorem path_any (s : ByteArray) (w : World) (hs : s.size ≤ maxLen) :
    Calls Try.prog 14 #[.string s] w fun e w' => e = .returned (.bool (ptB s)) ∧ w' = w := by
  have HT : Hid (∀ W, Calls Try.prog 15 #[.string s] W fun e w' => e = .returned (.bool (tgB s)) ∧ w' = W) := fun W => rtgt_any s W hs
  have hpos := tgB_pos (s := s)
  unfold ptB
  unfold maxLen at hs
  generalize tgB s = T at *
  cases T
  · rw [Bool.false_and]
    clear hpos
    go_enter Try.func14, Try.ntmps14
    go_wp2_with fail
    refine (HT.out _).mono ?_
    rintro e w2 ⟨rfl, rfl⟩
    go_wp2
    go_ret
    exact ⟨rfl, rfl⟩
  · have h0 := hpos rfl
    rw [Bool.true_and, hd_eq s h0, show (some s[0] == some (47 : UInt8)) = ((s[0].toNat : Int) == 47) from u8_eq _ 47 (by decide)]
    clear hpos
    cases hb : ((s[0].toNat : Int) == 47)
    · rw [Bool.false_and]
      go_enter Try.func14, Try.ntmps14
      go_wp2_with fail
      refine (HT.out _).mono ?_
      rintro e w2 ⟨rfl, rfl⟩
      go_wp2
      go_ret
      exact ⟨rfl, rfl⟩
    · rw [Bool.true_and]
      by_cases hl : s.size ≤ 100
      · have hl' : (s.size : Int) ≤ 100 := by omega
        rw [decide_eq_true hl]
        clear hl
        go_enter Try.func14, Try.ntmps14
        go_wp2_with fail
        refine (HT.out _).mono ?_
        rintro e w2 ⟨rfl, rfl⟩
        go_wp2
        go_ret
        exact ⟨rfl, rfl⟩
      · have hl' : decide ((s.size : Int) ≤ 100) = false := decide_eq_false (by omega)
        rw [decide_eq_false hl]
        clear hl
        go_enter Try.func14, Try.ntmps14
        go_wp2_with fail
        refine (HT.out _).mono ?_
        rintro e w2 ⟨rfl, rfl⟩
        go_wp2
        go_ret
        exact ⟨rfl, rfl⟩
end Go.Proofs.Ytjfcoihfjjcooaa
