/- The reference's fields: which are right; a line read. -/
import Derived.Test.YtbmpfjmnedlahabDoorFldA
import Derived.Test.YtbmpfjmnedlahabDoorSgnD
import Derived.Test.YtbmpfjmnedlahabDoorRefA
import Derived.Deep.QuietTactic
import Derived.BigQuiet
import Derived.Deep.RegionHeld3
namespace Go.Proofs.YtbmpfjmnedlahabDoor
open Go.RowKit
set_option linter.unusedVariables false

set_option maxRecDepth 100000 in
set_option maxHeartbeats 4000000 in
theorem r4one_any (n v : ByteArray) (w : World) (hn : n.size ≤ 140737488355328) (hv : v.size ≤ 140737488355328) : Calls Tryd.prog 61 #[.agg #[.string n, .string v]] w fun e w' => e = .returned (.bool (okF n v)) ∧ Below w.heap.size w w' := by
  unfold okF okName okVal eqT
  have HT : Hid (∀ w, Calls Tryd.prog 86 #[.string n] w fun e w' => e = .returned (.bool (allB tokP n.data.toList && decide (0 < n.size))) ∧ w' = w) := fun w => rToken_any n w (by unfold maxLen; omega)
  have HV : Hid (∀ w, Calls Tryd.prog 58 #[.string v] w fun e w' => e = .returned (.bool (allB valP v.data.toList)) ∧ w' = w) := fun w => rValue_any v w (by unfold maxLen; omega)
  have HR : Hid (∀ w, Calls Tryd.prog 60 #[.string v] w fun e w' => e = .returned (.string (trimT v)) ∧ w' = w) := fun w => rtrim_any v w hv
  generalize (allB tokP n.data.toList && decide (0 < n.size)) = t at *
  generalize allB valP v.data.toList = u at *
  generalize trimT v = T at *
  clear hn hv
  cases t
  · rw [Bool.and_false, Bool.false_and]
    clear HV HR
    go_enter Tryd.func61, Tryd.ntmps61
    go_wp2
    go_quiet (first | (go_at_call 86; exact Calls.quiet_of_same (HT.out _)) | (go_at_call 58; exact Calls.quiet_of_same (HV.out _)) | (go_at_call 60; exact Calls.quiet_of_same (HR.out _)))
    go_wp2
    go_ret
    exact ⟨by rfl, ((Below.refl _ _).alloc (Nat.le_refl _) _).trans (below_drewN _ _ _)⟩
  · rw [Bool.and_true]
    by_cases h1 : n.size ≤ 100
    · have k1 : (n.size : Int) ≤ 100 := by omega
      rw [decide_eq_true h1, Bool.true_and]
      cases u
      · rw [Bool.and_false, Bool.false_and]
        clear HR h1
        go_enter Tryd.func61, Tryd.ntmps61
        go_wp2
        go_quiet (first | (go_at_call 86; exact Calls.quiet_of_same (HT.out _)) | (go_at_call 58; exact Calls.quiet_of_same (HV.out _)) | (go_at_call 60; exact Calls.quiet_of_same (HR.out _)))
        go_wp2
        go_ret
        exact ⟨by rfl, ((Below.refl _ _).alloc (Nat.le_refl _) _).trans (below_drewN _ _ _)⟩
      · rw [Bool.and_true]
        by_cases he : T.toList == v.toList
        · rw [he, Bool.and_true]
          by_cases h2 : v.size ≤ 1000
          · have k2 : (v.size : Int) ≤ 1000 := by omega
            rw [decide_eq_true h2]
            clear h1 h2
            go_enter Tryd.func61, Tryd.ntmps61
            go_wp2
            go_quiet (first | (go_at_call 86; exact Calls.quiet_of_same (HT.out _)) | (go_at_call 58; exact Calls.quiet_of_same (HV.out _)) | (go_at_call 60; exact Calls.quiet_of_same (HR.out _)))
            go_wp2
            go_ret
            exact ⟨by rfl, ((Below.refl _ _).alloc (Nat.le_refl _) _).trans (below_drewN _ _ _)⟩
          · have k2 : decide ((v.size : Int) ≤ 1000) = false := decide_eq_false (by omega)
            rw [decide_eq_false h2]
            clear h1 h2
            go_enter Tryd.func61, Tryd.ntmps61
            go_wp2
            go_quiet (first | (go_at_call 86; exact Calls.quiet_of_same (HT.out _)) | (go_at_call 58; exact Calls.quiet_of_same (HV.out _)) | (go_at_call 60; exact Calls.quiet_of_same (HR.out _)))
            go_wp2
            go_ret
            exact ⟨by rfl, ((Below.refl _ _).alloc (Nat.le_refl _) _).trans (below_drewN _ _ _)⟩
        · have he' : (T.toList == v.toList) = false := by simpa using he
          rw [he', Bool.and_false]
          clear h1 he
          go_enter Tryd.func61, Tryd.ntmps61
          go_wp2
          go_quiet (first | (go_at_call 86; exact Calls.quiet_of_same (HT.out _)) | (go_at_call 58; exact Calls.quiet_of_same (HV.out _)) | (go_at_call 60; exact Calls.quiet_of_same (HR.out _)))
          go_wp2
          go_ret
          exact ⟨by rfl, ((Below.refl _ _).alloc (Nat.le_refl _) _).trans (below_drewN _ _ _)⟩
    · have k1 : decide ((n.size : Int) ≤ 100) = false := decide_eq_false (by omega)
      rw [decide_eq_false h1, Bool.false_and]
      clear HV HR h1
      go_enter Tryd.func61, Tryd.ntmps61
      go_wp2
      go_quiet (first | (go_at_call 86; exact Calls.quiet_of_same (HT.out _)) | (go_at_call 58; exact Calls.quiet_of_same (HV.out _)) | (go_at_call 60; exact Calls.quiet_of_same (HR.out _)))
      go_wp2
      go_ret
      exact ⟨by rfl, ((Below.refl _ _).alloc (Nat.le_refl _) _).trans (below_drewN _ _ _)⟩

theorem index_at : ∀ (l : List UInt8) (k : Nat), (∀ b ∈ l.take k, b ≠ 58) → l[k]? = some 58 → Lib.index l [58] = k
  | [], k, _, h => by simp at h
  | b :: l, 0, _, h => by
    have : b = 58 := by simpa using h
    subst this
    simp [Lib.index, List.isPrefixOf]
  | b :: l, k + 1, hn, h => by
    have hb : b ≠ 58 := hn b (by simp)
    have ih := index_at l k (fun c hc => hn c (by rw [List.take_succ_cons]; exact .tail _ hc)) (by simpa using h)
    have hp : ([58] : List UInt8).isPrefixOf (b :: l) = false := by simp [List.isPrefixOf, Ne.symm hb]
    rw [Lib.index, hp, ih, if_neg (by decide), if_neg (by simp)]
    omega
theorem index_no : ∀ (l : List UInt8), (∀ b ∈ l, b ≠ 58) → Lib.index l [58] = -1
  | [], _ => by simp [Lib.index]
  | b :: l, hn => by
    have hb : b ≠ 58 := hn b (.head _)
    have ih := index_no l (fun c hc => hn c (.tail _ hc))
    have hp : ([58] : List UInt8).isPrefixOf (b :: l) = false := by simp [List.isPrefixOf, Ne.symm hb]
    rw [Lib.index, hp, ih]
    simp
theorem prs_no (s : ByteArray) (h : ∀ b ∈ s.data.toList, b ≠ 58) : prs s = (⟨#[]⟩, ⟨#[]⟩, 20) := by
  unfold prs Lib.cut
  rw [index_no _ h]
  simp
theorem prs_at (s : ByteArray) (k : Nat) (hk : k < s.size) (h : ∀ b ∈ s.data.toList.take k, b ≠ 58) (hb : s[k] = 58) :
    prs s = if okF (s.extract 0 k) (trimT (s.extract (k + 1) s.size)) then (s.extract 0 k, trimT (s.extract (k + 1) s.size), 0) else (⟨#[]⟩, ⟨#[]⟩, 20) := by
  have hk' : k < s.data.toList.length := hk
  have hi := index_at s.data.toList k h (by rw [List.getElem?_eq_getElem hk']; exact congrArg some hb)
  have e1 : (⟨(s.data.toList.take k).toArray⟩ : ByteArray) = s.extract 0 k := bytes_eq (by rw [ext_data]; simp)
  have e2 : (⟨(s.data.toList.drop (k + 1)).toArray⟩ : ByteArray) = s.extract (k + 1) s.size := bytes_eq (by rw [ext_data, List.take_of_length_le (show s.data.toList.length ≤ s.size from Nat.le_refl _)])
  have hc : Lib.cut s.data.toList [58] = (s.data.toList.take k, s.data.toList.drop (k + 1), true) := by
    unfold Lib.cut
    rw [hi, if_pos (by omega)]
    rfl
  unfold prs
  rw [hc]
  simp only [Bool.true_and, e1, e2]

set_option maxRecDepth 100000 in
set_option maxHeartbeats 4000000 in
theorem rparse_any (s : ByteArray) (w : World) (hs : s.size < 4294967281) : Calls Tryd.prog 36 #[.string s] w fun e w' => e = .returned (.tuple #[.agg #[.string (prs s).1, .string (prs s).2.1], .bool (decide ((prs s).2.2 = 0))]) ∧ Below w.heap.size w w' := by
  go_enter Tryd.func36, Tryd.ntmps36
  go_wp2_with fail
  go_loopw [4] (fun vi wr => ∃ k : Nat, k ≤ s.size ∧ vi = .int .i64 k ∧ Hid (∀ b ∈ s.data.toList.take k, b ≠ 58) ∧ wr.heap[w.heap.size]? = some (.cells #[.string ⟨#[]⟩, .string ⟨#[]⟩] 64) ∧ Below w.heap.size w wr) (fun vi _ => s.size - (intOf vi).toNat)
  case atStart => exact ⟨0, Nat.zero_le _, rfl, (fun b hb => by simp at hb), tblk_new _ _, (Below.refl _ _).alloc (Nat.le_refl _) _⟩
  case round =>
    obtain ⟨k, hk, rfl, hno, hg, hB⟩ := hrel
    have a0 : wr.cell? ⟨w.heap.size, 0, none⟩ = some (.string ⟨#[]⟩) := tblk_cell hg rfl
    have a1 : wr.cell? ⟨w.heap.size, 1, none⟩ = some (.string ⟨#[]⟩) := tblk_cell hg rfl
    have z0 : wr.frozen? ⟨w.heap.size, 0, none⟩ = false := tblk_z hg
    have z1 : wr.frozen? ⟨w.heap.size, 1, none⟩ = false := tblk_z hg
    by_cases hlt : k < s.size
    · by_cases hb : (s[k].toNat : Int) = 58
      · have hb' : s[k] = 58 := by
          apply UInt8.toNat_inj.1
          show s[k].toNat = 58
          omega
        have HP : Hid (prs s = if okF (s.extract 0 k) (trimT (s.extract (k + 1) s.size)) then (s.extract 0 k, trimT (s.extract (k + 1) s.size), 0) else (⟨#[]⟩, ⟨#[]⟩, 20)) := prs_at s k hlt hno.out hb'
        have hx1 : Hid ((s.extract 0 k).size ≤ 140737488355328) := by rw [Hid, ByteArray.size_extract]; omega
        have hx2 : Hid ((s.extract (k + 1) s.size).size ≤ 140737488355328) := by rw [Hid, ByteArray.size_extract]; omega
        have hx3 : Hid ((trimT (s.extract (k + 1) s.size)).size ≤ 140737488355328) := by rw [Hid]; have := hx2.out; have := trimT_size (s.extract (k + 1) s.size); omega
        have HR : Hid (∀ w, Calls Tryd.prog 60 #[.string (s.extract (k + 1) s.size)] w fun e w' => e = .returned (.string (trimT (s.extract (k + 1) s.size))) ∧ w' = w) := fun w => rtrim_any _ w hx2.out
        have HO : Hid (∀ w, Calls Tryd.prog 61 #[.agg #[.string (s.extract 0 k), .string (trimT (s.extract (k + 1) s.size))]] w fun e w' => e = .returned (.bool (okF (s.extract 0 k) (trimT (s.extract (k + 1) s.size)))) ∧ Below w.heap.size w w') := fun w => r4one_any _ _ w hx1.out hx3.out
        generalize trimT (s.extract (k + 1) s.size) = T at *
        have q1 : (k : Int) + 1 ≤ (s.size : Int) := by omega
        have q2 : (0 : Int) ≤ (k : Int) + 1 := by omega
        have q3 : (k : Int) ≤ (s.size : Int) := by omega
        have q4 : IntKind.i64.wrap ((k : Int) + 1) = (k : Int) + 1 := by rw [IntKind.wrap_i64]; omega
        have q5 : ((k : Int) + 1).toNat = k + 1 := by omega
        go_wp2
        go_region_held3 (fun _ => True) (go_keep) (first | (go_at_call 60; refine (HR.out _).mono ?_; rintro e w' ⟨rfl, rfl⟩))
        all_goals
          have gW : ((wr.alloc (.cells #[.string (s.extract 0 k), .string T] 64)).drew).heap[w.heap.size]? = some (.cells #[.string ⟨#[]⟩, .string ⟨#[]⟩] 64) := (Below.heap_alloc _ _ _ (Array.getElem?_eq_some_iff.1 hg).1).trans hg
          have fW : ((wr.alloc (.cells #[.string (s.extract 0 k), .string T] 64)).drew).heap[wr.heap.size]? = some (.cells #[.string (s.extract 0 k), .string T] 64) := tblk_new _ _
          have CW : Below w.heap.size w ((wr.alloc (.cells #[.string (s.extract 0 k), .string T] 64)).drew) := (hB.alloc hB.size _).drew
          generalize (wr.alloc (.cells #[.string (s.extract 0 k), .string T] 64)).drew = W at *
          clear a0 a1 z0 z1 hg hB
          have b0 : W.cell? ⟨wr.heap.size, 0, none⟩ = some (.string (s.extract 0 k)) := tblk_cell fW rfl
          have b1 : W.cell? ⟨wr.heap.size, 1, none⟩ = some (.string T) := tblk_cell fW rfl
          generalize s.extract 0 k = nm at *
          generalize okF nm T = ok at *
          go_wp2_with fail
          refine (HO.out _).mono ?_
          rintro e w5 ⟨rfl, B5⟩
          have g5 := tblk_below gW B5
          have f5 := tblk_below fW B5
          have C5 := CW.trans (B5.mono CW.size)
          clear b0 b1 gW fW CW B5
          have a0 : w5.cell? ⟨w.heap.size, 0, none⟩ = some (.string ⟨#[]⟩) := tblk_cell g5 rfl
          have a1 : w5.cell? ⟨w.heap.size, 1, none⟩ = some (.string ⟨#[]⟩) := tblk_cell g5 rfl
          have b0 : w5.cell? ⟨wr.heap.size, 0, none⟩ = some (.string nm) := tblk_cell f5 rfl
          have b1 : w5.cell? ⟨wr.heap.size, 1, none⟩ = some (.string T) := tblk_cell f5 rfl
          have z0 : w5.frozen? ⟨w.heap.size, 0, none⟩ = false := tblk_z g5
          have z1 : w5.frozen? ⟨w.heap.size, 1, none⟩ = false := tblk_z g5
          cases ok
          · have HW := two_cells g5 ⟨#[]⟩ ⟨#[]⟩
            have r0 := HW.2.1
            have r1 := HW.2.2.1
            have C6 : Hid (Below w.heap.size w ((w5.setCell ⟨w.heap.size, 0, none⟩ (.string ⟨#[]⟩)).setCell ⟨w.heap.size, 1, none⟩ (.string ⟨#[]⟩))) := (C5.setCell (p := ⟨w.heap.size, 0, none⟩) (Nat.le_refl _) _).setCell (p := ⟨w.heap.size, 1, none⟩) (Nat.le_refl _) _
            clear g5 f5 HW C5
            go_wp2
            refine bodyPost_ret (v := .tuple #[.agg #[.string ⟨#[]⟩, .string ⟨#[]⟩], .bool false]) (by simp [results, Tryd.results36, go_sem, r0, r1]) rfl ⟨?_, C6.out⟩
            rw [HP.out]; rfl
          · have HW := two_cells g5 nm T
            have r0 := HW.2.1
            have r1 := HW.2.2.1
            have C6 : Hid (Below w.heap.size w ((w5.setCell ⟨w.heap.size, 0, none⟩ (.string nm)).setCell ⟨w.heap.size, 1, none⟩ (.string T))) := (C5.setCell (p := ⟨w.heap.size, 0, none⟩) (Nat.le_refl _) _).setCell (p := ⟨w.heap.size, 1, none⟩) (Nat.le_refl _) _
            clear g5 f5 HW C5
            go_wp2
            refine bodyPost_ret (v := .tuple #[.agg #[.string nm, .string T], .bool true]) (by simp [results, Tryd.results36, go_sem, r0, r1]) rfl ⟨?_, C6.out⟩
            rw [HP.out]; rfl
      · have hb' : ¬ ((s[k].toNat : Int) == 58) = true := by simpa using hb
        go_wp2
        go_roundw
        case rel =>
          refine ⟨k + 1, by omega, by go_num, ?_, hg, hB⟩
          intro b hm
          have hk' : k < s.data.toList.length := hlt
          rw [List.take_succ_eq_append_getElem hk'] at hm
          rcases List.mem_append.1 hm with hm | hm
          · exact hno.out b hm
          · rw [List.mem_singleton.1 hm]
            intro c
            exact hb (by rw [show s[k] = s.data.toList[k] from rfl, c]; rfl)
        case measure => simp [intOf]; omega
    · have hP : Hid (prs s = (⟨#[]⟩, ⟨#[]⟩, 20)) := prs_no s (by have h := hno.out; rwa [List.take_of_length_le (show s.data.toList.length ≤ k by show s.size ≤ k; omega)] at h)
      have HW := two_cells hg ⟨#[]⟩ ⟨#[]⟩
      have r0 := HW.2.1
      have r1 := HW.2.2.1
      have C2 : Hid (Below w.heap.size w ((wr.setCell ⟨w.heap.size, 0, none⟩ (.string ⟨#[]⟩)).setCell ⟨w.heap.size, 1, none⟩ (.string ⟨#[]⟩))) := (hB.setCell (p := ⟨w.heap.size, 0, none⟩) (Nat.le_refl _) _).setCell (p := ⟨w.heap.size, 1, none⟩) (Nat.le_refl _) _
      clear hg HW hB
      go_wp2
      refine bodyPost_ret (v := .tuple #[.agg #[.string ⟨#[]⟩, .string ⟨#[]⟩], .bool false]) (by simp [results, Tryd.results36, go_sem, r0, r1]) rfl ⟨?_, C2.out⟩
      rw [hP.out]; rfl
end Go.Proofs.YtbmpfjmnedlahabDoor
