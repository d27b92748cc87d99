/- Package http: the body behind a head. -/
import Derived.Test.YthbjdbookiejeabGreatDoorHtB
namespace Go.Proofs.YthbjdbookiejeabGreatDoor
open Go.RowKit
set_option linter.unusedVariables false

theorem OwnF.kept {B : Nat} {w w' : World} {v : Value} {fs : Fs} (h : OwnF B w v fs) (hk : ∀ k, B ≤ k → k < w.heap.size → w'.heap[k]? = w.heap[k]?) : OwnF B w' v fs := by
  obtain ⟨h1, h2 | ⟨g, cap, cur, hv, hg, hh, r⟩⟩ := h
  · exact ⟨h1, .inl h2⟩
  · exact ⟨h1, .inr ⟨g, cap, cur, hv, hg, (hk g hg (heap_lt hh)).trans hh, r⟩⟩
theorem Own.kept {B : Nat} {w w' : World} {v : Value} {X : List UInt8} (h : Own B w v X) (hk : ∀ k, B ≤ k → k < w.heap.size → w'.heap[k]? = w.heap[k]?) : Own B w' v X := by
  obtain ⟨h1, h2 | ⟨g, cap, cur, hv, hg, hh, r⟩⟩ := h
  · exact ⟨h1, .inl h2⟩
  · exact ⟨h1, .inr ⟨g, cap, cur, hv, hg, (hk g hg (heap_lt hh)).trans hh, r⟩⟩

theorem decL_le : ∀ (f m : Nat) (l : List UInt8), (decL f m l).2.1 ≤ l.length := by
  intro f
  induction f with
  | zero => intro m l; exact Nat.zero_le _
  | succ f ih =>
    intro m l
    rcases oneP_cases m l with ⟨e, h⟩ | ⟨i, h, hl, _⟩ | ⟨i, k, h, hk, hm, hl, _⟩
    · rw [decL_miss h]; exact Nat.zero_le _
    · rw [decL_last h (by omega)]
      have q := trailL_le 40 (l.drop (i + 2))
      rw [List.length_drop] at q
      unfold plusD
      split
      · exact Nat.zero_le _
      · simp only; omega
    · rw [decL_next h (by omega) (by omega)]
      have q := ih (m - k) (l.drop (i + 2 + k + 2))
      rw [List.length_drop] at q
      unfold plusD
      split
      · exact Nat.zero_le _
      · simp only; omega
theorem decR_le (m : Nat) (l : List UInt8) : (decR m l).2.1 ≤ l.length := decL_le _ _ _

set_option maxRecDepth 100000 in
set_option maxHeartbeats 2000000 in
theorem bclone_any (b : List UInt8) (kb n c : Nat) (a : Option Addr) (w : World) (hs : Src w kb (.slice a n c) b) (hk : 0 < b.length → kb < w.heap.size) (hlen : b.length ≤ 1048576) :
    Calls Tryz.prog 68 #[.slice a n c] w fun e w' => ∃ v', e = .returned v' ∧ Own w.heap.size w' v' b ∧ Below w.heap.size w w' := by
  have hl := hs.len
  cases a with
  | none =>
    have hb : b = [] := by
      obtain ⟨a', c', e, h1, h2, h3⟩ := hs
      rcases Nat.eq_zero_or_pos b.length with q | q
      · exact List.eq_nil_of_length_eq_zero q
      · obtain ⟨off, q1, _⟩ := h3 q
        obtain ⟨e1, _, _⟩ := slice_inj e
        rw [← e1] at q1
        cases q1
    subst hb
    clear hs hk hl hlen
    have hnil : ∀ W : World, (binOp .eql 22 (.slice none n c) (.slice none 0 0)).run Tryz.prog W = .ok (.bool true) W := fun W => Lib.run_eql_slice_nil W 22 5 none n c 0 0 Tryz.underlying22
    go_enter Tryz.func68, Tryz.ntmps68
    go_wp2
    go_ret
    exact ⟨_, rfl, Own.nil _ _, Below.refl _ _⟩
  | some ad =>
    have U0 : Below w.heap.size w (w.alloc (.cells #[] 5)) := (Below.refl _ _).alloc (Nat.le_refl _) _
    obtain ⟨v2, w2, r2, O2, B2⟩ := own_append (Own.empty w.heap.size w (Nat.le_refl _)) (hs.keep hk U0) (fun e => by cases e) (by simp only [List.length_nil]; omega) (by simp)
    have HR : Hid _ := r2
    have HO : Hid (Own w.heap.size w2 v2 ([] ++ b)) := O2
    have HB : Hid (Below w.heap.size w w2) := U0.trans B2
    clear hs hk hl hlen U0 r2 O2 B2
    obtain ⟨bk, off, sp⟩ := ad
    have hnil : ∀ W : World, (binOp .eql 22 (.slice (some ⟨bk, off, sp⟩) n c) (.slice none 0 0)).run Tryz.prog W = .ok (.bool false) W := fun W => Lib.run_eql_slice_nil W 22 5 _ n c 0 0 Tryz.underlying22
    go_enter Tryz.func68, Tryz.ntmps68
    go_wp2_with (at_builtin; refine wpList_append_run2 rfl _ _ 22 22 rfl _ _ _ w2 rfl rfl HR.out ?_)
    go_ret
    exact ⟨_, rfl, HO.out, HB.out⟩

theorem bstat_any (e : Int) (w : World) : Calls Tryz.prog 33 #[.int .i64 e] w fun r w' => r = .returned (.int .i64 (bodySt e)) ∧ w' = w := by
  unfold bodySt
  by_cases h0 : e = 0
  · subst h0
    rw [if_pos rfl]
    go_enter Tryz.func33, Tryz.ntmps33
    go_wp2
    go_ret
    exact ⟨rfl, rfl⟩
  · have h0' : (e == 0) = false := by simpa using h0
    rw [if_neg h0]
    by_cases h2 : e = 2
    · subst h2
      rw [if_pos rfl]
      go_enter Tryz.func33, Tryz.ntmps33
      go_wp2
      go_ret
      exact ⟨rfl, rfl⟩
    · have h2' : (e == 2) = false := by simpa using h2
      rw [if_neg h2]
      go_enter Tryz.func33, Tryz.ntmps33
      go_wp2
      go_ret
      exact ⟨rfl, rfl⟩

set_option maxRecDepth 100000 in
set_option maxHeartbeats 4000000 in
theorem body_any (b : List UInt8) (kb c : Nat) (a : Option Addr) (head sz : Nat) (coded : Bool) (w : World) (hs : Src w kb (.slice a b.length c) b) (hk : 0 < b.length → kb < w.heap.size) (hM : MaxL w) (hh : head ≤ b.length) (hlen : b.length ≤ 1048576) (hsz : sz ≤ 1048576) :
    Calls Tryz.prog 32 #[.slice a b.length c, .int .i64 (head : Nat), .int .i64 (sz : Nat), .bool coded] w (DecQ w (bodyQ b head (sz : Nat) coded)) := by
  have hl := hs.len
  have hl3 : c ≤ maxLen := hl.2.2
  have HK : Hid (0 < (b.drop head).length → kb < w.heap.size) := fun q => hk (by rw [List.length_drop] at q; omega)
  have HC : Hid (∀ a' : Option Addr, (head < c → a' = a.map (fun x => x.add head)) → Src w kb (.slice a' (b.length - head) (c - head)) (b.drop head)) := fun a' ha' => hs.cut hh ha'
  have HLD : Hid ((b.drop head).length = b.length - head) := List.length_drop
  have hnc : b.length ≤ c := by omega
  unfold maxLen at hl3
  have HQ : Hid (bodyQ b head (sz : Nat) coded = if coded = true then (if (decR 4096 (b.drop head)).2.1 = 0 then ([], 0, (decR 4096 (b.drop head)).2.2) else ((decR 4096 (b.drop head)).1, head + (decR 4096 (b.drop head)).2.1, 0)) else if ((b.length - head : Nat) : Int) < ((sz : Nat) : Int) then ([], 0, 0) else ((b.drop head).take sz, head + sz, 0)) := rfl
  have HM : Hid (MaxL w) := hM
  have HOK : Hid (okR (decR 4096 (b.drop head))) := decL_ok _ _ _
  have HLE : Hid ((decR 4096 (b.drop head)).2.1 ≤ b.length - head) := by
    rw [Hid, ← HLD.out]; exact decR_le _ _
  clear hs hk hM hl
  generalize bodyQ b head (sz : Nat) coded = Q at *
  cases coded
  · rw [if_neg (by decide)] at HQ
    by_cases hlt : ((b.length - head : Nat) : Int) < ((sz : Nat) : Int)
    · rw [if_pos hlt] at HQ
      generalize b.length = n at *
      clear HOK HLE
      go_enter Tryz.func32, Tryz.ntmps32
      go_wp2
      all_goals
        refine bodyPost_ret (v := .tuple #[.slice none 0 0, .int .i64 0, .int .i64 0]) (by simp [results, Tryz.results32, go_sem]) rfl ?_
        rw [HQ.out]
        exact decq_no (Below.refl _ _)
    · rw [if_neg hlt] at HQ
      have hle : sz ≤ b.length - head := by omega
      have HCL : Hid (∀ (a' : Option Addr) (c' : Nat), Src w kb (.slice a' sz c') ((b.drop head).take sz) → Calls Tryz.prog 68 #[.slice a' sz c'] w fun e w' => ∃ v', e = .returned v' ∧ Own w.heap.size w' v' ((b.drop head).take sz) ∧ Below w.heap.size w w') := fun a' c' h =>
        bclone_any _ kb _ _ a' w h (fun q => HK.out (by rw [List.length_take] at q; omega)) (by rw [List.length_take, HLD.out]; omega)
      have hcell : Hid (∀ a' : Option Addr, (head < c → a' = a.map (fun x => x.add head)) → Src w kb (.slice a' sz (c - head)) ((b.drop head).take sz)) := fun a' ha' => (HC.out a' ha').take (by rw [HLD.out]; exact hle)
      have hsum : IntKind.i64.wrap ((head : Int) + (sz : Int)) = ((head + sz : Nat) : Int) := by simp [IntKind.wrap, IntKind.bits, IntKind.signed]; omega
      generalize (b.drop head).take sz = X at *
      generalize b.length = n at *
      clear HOK HLE HC HK HLD HM
      go_enter Tryz.func32, Tryz.ntmps32
      go_wp2_with fail
      all_goals
        refine (HCL.out _ _ (by first | (have hx := hcell.out a (fun h => by omega); rw [show c - head = 0 by omega] at hx; exact hx) | exact hcell.out _ (fun _ => rfl) | exact hcell.out _ (fun h => if_neg (by omega)) | exact hcell.out _ (fun h => by omega))).mono ?_
        rintro e w1 ⟨v1, rfl, O1, B1⟩
        obtain ⟨a1, c1, rfl, _⟩ := O1.form
        have HO : Hid (Own w.heap.size w1 (.slice a1 X.length c1) X) := O1
        clear O1
        generalize X.length = xl at *
        go_wp2
        refine bodyPost_ret (v := .tuple #[.slice a1 xl c1, .int .i64 ((head + sz : Nat) : Int), .int .i64 0]) (by simp [results, Tryz.results32, go_sem]) rfl ?_
        rw [HQ.out]
        exact ⟨_, rfl, HO.out, B1⟩
  · rw [if_pos rfl] at HQ
    have HD : Hid (∀ v' : Value, Src w kb v' (b.drop head) → Calls Tryz.prog 67 #[v', .int .i64 4096] w (DecQ w (decR 4096 (b.drop head)))) := fun v' h =>
      decode_any _ kb v' 4096 w h HK.out HM.out (by rw [HLD.out]; omega) (by decide)
    have hcell : Hid (∀ a' : Option Addr, (head < c → a' = a.map (fun x => x.add head)) → Src w kb (.slice a' (b.length - head) (c - head)) (b.drop head)) := HC.out
    clear HC HK HLD HM
    generalize decR 4096 (b.drop head) = D at *
    obtain ⟨D1, D2, D3⟩ := D
    simp only at HQ HLE
    generalize b.length = n at *
    by_cases h0 : D2 = 0
    · subst h0
      rw [if_pos rfl] at HQ
      go_enter Tryz.func32, Tryz.ntmps32
      go_wp2_with fail
      all_goals
        refine (HD.out _ (by first | (have hx := hcell.out a (fun h => by omega); rw [show c - head = 0 by omega] at hx; exact hx) | exact hcell.out _ (fun _ => rfl) | exact hcell.out _ (fun h => if_neg (by omega)) | exact hcell.out _ (fun h => by omega))).mono ?_
        rintro e w1 ⟨v1, rfl, O1, B1⟩
        obtain ⟨a1, c1, rfl, _⟩ := O1.form
        clear O1
        simp only
        generalize D1.length = xl at *
        go_wp2
        refine bodyPost_ret (v := .tuple #[.slice none 0 0, .int .i64 0, .int .i64 D3]) (by simp [results, Tryz.results32, go_sem]) rfl ?_
        rw [HQ.out]
        exact decq_no B1
    · rw [if_neg h0] at HQ
      have h0' : ¬ ((D2 : Nat) : Int) = 0 := by omega
      have h0'' : (((D2 : Nat) : Int) == 0) = false := by simpa using h0'
      have hle : D2 ≤ n - head := HLE.out
      have hsum : IntKind.i64.wrap ((head : Int) + (D2 : Int)) = ((head + D2 : Nat) : Int) := by simp [IntKind.wrap, IntKind.bits, IntKind.signed]; omega
      go_enter Tryz.func32, Tryz.ntmps32
      go_wp2_with fail
      all_goals
        refine (HD.out _ (by first | (have hx := hcell.out a (fun h => by omega); rw [show c - head = 0 by omega] at hx; exact hx) | exact hcell.out _ (fun _ => rfl) | exact hcell.out _ (fun h => if_neg (by omega)) | exact hcell.out _ (fun h => by omega))).mono ?_
        rintro e w1 ⟨v1, rfl, O1, B1⟩
        obtain ⟨a1, c1, rfl, _⟩ := O1.form
        have HO : Hid (Own w.heap.size w1 (.slice a1 D1.length c1) D1) := O1
        clear O1
        simp only
        generalize D1.length = xl at *
        go_wp2
        refine bodyPost_ret (v := .tuple #[.slice a1 xl c1, .int .i64 ((head + D2 : Nat) : Int), .int .i64 0]) (by simp [results, Tryz.results32, go_sem]) rfl ?_
        rw [HQ.out]
        exact ⟨_, rfl, HO.out, B1⟩
end Go.Proofs.YthbjdbookiejeabGreatDoor
