/- Texts that the proof leans on, one behind the other: SpnA RDgA LhA RefB LhB -/
import Derived.Test.YthmhaflkkigenaaGreatDoorTb
/- A span of bytes. -/
namespace Go.Proofs.YthmhaflkkigenaaGreatDoor
open Go.RowKit
set_option linter.unusedVariables false

def spanP (lo hi c : Int) : Bool := decide (lo ≤ c) && decide (c ≤ hi)
end Go.Proofs.YthmhaflkkigenaaGreatDoor

/- The reference's Digit. -/
namespace Go.Proofs.YthmhaflkkigenaaGreatDoor
open Go.RowKit
set_option linter.unusedVariables false

theorem rdig_any (c : Int) (w : World) : Calls Tryz.prog 25 #[.int .u8 c] w fun e w' => e = .returned (.bool (spanP 48 57 c)) ∧ w' = w := by
  unfold spanP
  by_cases a : 48 ≤ c
  · by_cases b : c ≤ 57
    · go_enter Tryz.func25, Tryz.ntmps25
      go_wp2
      go_ret
      exact ⟨ret_b (by simp [a, b]), rfl⟩
    · go_enter Tryz.func25, Tryz.ntmps25
      go_wp2
      go_ret
      exact ⟨ret_b (by simp [b]), rfl⟩
  · go_enter Tryz.func25, Tryz.ntmps25
    go_wp2
    go_ret
    exact ⟨ret_b (by simp; omega), rfl⟩

end Go.Proofs.YthmhaflkkigenaaGreatDoor

/- Hosts, plain: what the reference's Host answers is what Host answers. -/
namespace Go.Proofs.YthmhaflkkigenaaGreatDoor
open Go.RowKit
set_option linter.unusedVariables false

def isDg (b : UInt8) : Bool := ([48, 49, 50, 51, 52, 53, 54, 55, 56, 57] : List UInt8).contains b
def endL (l : List UInt8) : List UInt8 := match l.reverse.dropWhile isDg with
  | [] => l
  | c :: r => if c = 58 then r.reverse else l
theorem foldB_dig (b : UInt8) : isDg (foldB b) = isDg b := by
  have h : ∀ n : Fin 256, isDg (foldB (UInt8.ofNat n.val)) = isDg (UInt8.ofNat n.val) := by decide +kernel
  have k := h ⟨b.toNat, b.toNat_lt⟩
  simpa using k
theorem foldB_col (b : UInt8) : foldB b = 58 ↔ b = 58 := by
  have h : ∀ n : Fin 256, (foldB (UInt8.ofNat n.val) = 58 ↔ UInt8.ofNat n.val = 58) := by decide +kernel
  have k := h ⟨b.toNat, b.toNat_lt⟩
  simpa using k
theorem dw_fold : ∀ l : List UInt8, (l.map foldB).dropWhile isDg = (l.dropWhile isDg).map foldB
  | [] => rfl
  | b :: l => by
    rw [List.map_cons, List.dropWhile_cons, List.dropWhile_cons, foldB_dig]
    split
    · exact dw_fold l
    · rfl
theorem lext_data (x : ByteArray) (i j : Nat) : (x.extract i j).data.toList = (x.data.toList.take j).drop i := by
  rw [Lib.extract_data, List.drop_take]
theorem lbytes_eq {a b : ByteArray} (h : a.data.toList = b.data.toList) : a = b := ByteArray.ext (Array.toList_inj.1 h)
theorem hasS_last (l : List UInt8) (c : UInt8) : hasS ⟨(l ++ [c]).toArray⟩ ⟨#[58]⟩ = decide (c = 58) := by
  unfold hasS
  have e1 : (⟨(l ++ [c]).toArray⟩ : ByteArray).size = l.length + 1 := by show (l ++ [c]).toArray.size = _; simp
  have e2 : (⟨#[58]⟩ : ByteArray).size = 1 := rfl
  rw [e1, e2, decide_eq_true (by omega), Bool.true_and]
  have e3 : ((⟨(l ++ [c]).toArray⟩ : ByteArray).extract (l.length + 1 - 1) (l.length + 1)).toList = [c] := by
    rw [ByteArray.toList_eq, lext_data]
    show ((l ++ [c]).take (l.length + 1)).drop (l.length + 1 - 1) = [c]
    rw [List.take_of_length_le (by simp), Nat.add_sub_cancel, List.drop_left]
  rw [e3, ByteArray.toList_eq]
  show ([c] == [58]) = _
  simp [Bool.beq_eq_decide_eq]
theorem cutX_last (l : List UInt8) : cutX ⟨(l ++ [58]).toArray⟩ ⟨#[58]⟩ = ⟨l.toArray⟩ := by
  unfold cutX
  rw [hasS_last, if_pos (by decide)]
  have e1 : (⟨(l ++ [58]).toArray⟩ : ByteArray).size = l.length + 1 := by show (l ++ [58]).toArray.size = _; simp
  have e2 : (⟨#[58]⟩ : ByteArray).size = 1 := rfl
  rw [e1, e2, Nat.add_sub_cancel]
  refine lbytes_eq ?_
  rw [lext_data]
  show ((l ++ [58]).take l.length).drop 0 = l
  rw [List.take_left]; rfl
theorem port_fold (s : ByteArray) : portP (foldS s) = ⟨(foldL (endL s.data.toList)).toArray⟩ := by
  have e0 : noDig (foldS s) = ⟨(((s.data.toList.reverse.dropWhile isDg).map foldB).reverse).toArray⟩ := by
    unfold noDig foldS Lib.trimRightS
    have e : (foldL s.data.toList).reverse = (s.data.toList.reverse).map foldB := by unfold foldL; rw [List.map_reverse]
    show (⟨(((foldL s.data.toList).reverse.dropWhile isDg).reverse).toArray⟩ : ByteArray) = _
    rw [e, dw_fold]
  unfold portP endL
  rw [e0]
  cases h : s.data.toList.reverse.dropWhile isDg with
  | nil =>
    rw [if_neg (by decide)]
    rfl
  | cons c r =>
    have e1 : ((c :: r).map foldB).reverse = (r.reverse.map foldB) ++ [foldB c] := by rw [List.map_cons, List.reverse_cons, List.map_reverse]
    rw [e1, hasS_last]
    by_cases hc : c = 58
    · subst hc
      have e2 : foldB 58 = 58 := by decide
      rw [e2, if_pos (by decide), cutX_last]
      simp only [if_true]
      rfl
    · rw [if_neg (by rw [decide_eq_false (fun k => hc ((foldB_col c).1 k))]; decide)]
      simp only [if_neg hc]
      rfl
theorem dw_all_true (p : UInt8 → Bool) : ∀ (a l : List UInt8), (∀ b ∈ a, p b = true) → (a ++ l).dropWhile p = l.dropWhile p
  | [], l, _ => rfl
  | x :: a, l, h => by
    rw [List.cons_append, List.dropWhile_cons, if_pos (h x (List.mem_cons_self ..))]
    exact dw_all_true p a l (fun b hb => h b (List.mem_cons_of_mem _ hb))
/-- The end that is found from behind. -/
theorem end_at (l : List UInt8) (j : Nat) (hj : j ≤ l.length) (hd : ∀ b ∈ l.drop j, isDg b = true) (hn : j = 0 ∨ ∃ i, ∃ h : i < l.length, j = i + 1 ∧ isDg l[i] = false) :
    (j = 0 → endL l = l) ∧ (∀ i (h : i < l.length), j = i + 1 → endL l = if l[i] = 58 then l.take i else l) := by
  have e : l.reverse.dropWhile isDg = (l.take j).reverse.dropWhile isDg := by
    have k : l.reverse = (l.drop j).reverse ++ (l.take j).reverse := by rw [← List.reverse_append, List.take_append_drop]
    rw [k, dw_all_true]
    intro b hb
    exact hd b (List.mem_reverse.1 hb)
  constructor
  · rintro rfl
    unfold endL
    rw [e]
    rfl
  · rintro i h rfl
    have hi : isDg l[i] = false := by
      rcases hn with k | ⟨i', h', k1, k2⟩
      · omega
      · obtain rfl : i = i' := by omega
        exact k2
    unfold endL
    rw [e, List.take_succ_eq_append_getElem h, List.reverse_append, List.reverse_singleton, List.singleton_append, List.dropWhile_cons, if_neg (by rw [hi]; decide)]
    simp only
    by_cases hc : l[i] = 58
    · rw [if_pos hc, if_pos hc, List.reverse_reverse]
    · rw [if_neg hc, if_neg hc]
/-- What the reference answers of what is left. -/
def refO (o : ByteArray) : ByteArray × Bool := if allB hsP o.data.toList = false then (⟨#[]⟩, false) else if o.size = 0 then (⟨#[]⟩, false) else if 64 < o.size then (⟨#[]⟩, false) else (o, true)
theorem host_ref (s : ByteArray) : hostP s = refO ⟨(foldL (endL s.data.toList)).toArray⟩ := by
  unfold hostP refO
  rw [port_fold]
  generalize (⟨(foldL (endL s.data.toList)).toArray⟩ : ByteArray) = o
  by_cases h1 : o.size = 0
  · rw [if_pos h1]
    by_cases h2 : allB hsP o.data.toList = false
    · rw [if_pos h2]
    · rw [if_neg h2, if_pos h1]
  · rw [if_neg h1]
    by_cases h3 : 64 < o.size
    · rw [if_pos h3]
      by_cases h2 : allB hsP o.data.toList = false
      · rw [if_pos h2]
      · rw [if_neg h2, if_neg h1, if_pos h3]
    · rw [if_neg h3]
      by_cases h2 : allB hsP o.data.toList = false
      · rw [if_pos h2, if_pos h2]
      · rw [if_neg h2, if_neg h2, if_neg h1, if_neg h3]
theorem hs_fold (b : UInt8) (h : hsP (b.toNat : Int) = true) : foldB b = b := by
  have k : ∀ n : Fin 256, hsP ((UInt8.ofNat n.val).toNat : Int) = true → foldB (UInt8.ofNat n.val) = UInt8.ofNat n.val := by decide +kernel
  have q := k ⟨b.toNat, b.toNat_lt⟩
  simp only [UInt8.ofNat_toNat] at q
  exact q h
/-- A host's host is itself. -/
theorem host_again (s : ByteArray) (h : (hostP s).2 = true) : hostP ((hostP s).1 ++ ⟨#[58, 56, 48]⟩) = ((hostP s).1, true) := by
  have hr : refO (hostP s).1 = ((hostP s).1, true) ∧ allB hsP (hostP s).1.data.toList = true := by
    rw [host_ref] at h ⊢
    generalize (⟨(foldL (endL s.data.toList)).toArray⟩ : ByteArray) = o at *
    unfold refO at h ⊢
    by_cases h2 : allB hsP o.data.toList = false
    · rw [if_pos h2] at h; cases h
    · rw [if_neg h2] at h ⊢
      by_cases h1 : o.size = 0
      · rw [if_pos h1] at h; cases h
      · rw [if_neg h1] at h ⊢
        by_cases h3 : 64 < o.size
        · rw [if_pos h3] at h; cases h
        · rw [if_neg h3]
          simp only
          exact ⟨by rw [if_neg h2, if_neg h1, if_neg h3], by simpa using h2⟩
  obtain ⟨hr1, hr2⟩ := hr
  generalize (hostP s).1 = o at *
  rw [host_ref]
  have e : endL (o ++ ⟨#[58, 56, 48]⟩ : ByteArray).data.toList = o.data.toList := by
    have e1 : (o ++ ⟨#[58, 56, 48]⟩ : ByteArray).data.toList = o.data.toList ++ [58, 56, 48] := by rw [ByteArray.data_append, Array.toList_append]
    rw [e1]
    have ed : (o.data.toList ++ [58, 56, 48]).reverse.dropWhile isDg = 58 :: o.data.toList.reverse := by
      rw [List.reverse_append]
      show (48 :: 56 :: 58 :: o.data.toList.reverse).dropWhile isDg = _
      rw [List.dropWhile_cons, if_pos (by decide), List.dropWhile_cons, if_pos (by decide), List.dropWhile_cons, if_neg (by decide)]
    unfold endL
    rw [ed]
    simp
  rw [e]
  have e2 : foldL o.data.toList = o.data.toList := by
    unfold foldL
    unfold allB at hr2
    rw [List.all_eq_true] at hr2
    have k : ∀ b ∈ o.data.toList, foldB b = id b := fun b hb => hs_fold b (hr2 b hb)
    rw [List.map_congr_left k, List.map_id]
  rw [e2]
  exact hr1
end Go.Proofs.YthmhaflkkigenaaGreatDoor

/- The reference's Fold. -/
namespace Go.Proofs.YthmhaflkkigenaaGreatDoor
open Go.RowKit
set_option linter.unusedVariables false

theorem info5 : (Tryz.prog.info? 5).map (fun i => (i.zero, i.size, i.bytes)) = some (some (.int .u8 0), 1, 1) := by kernel_rfl
theorem owns_bytes {w : World} {base g cv : Nat} {l : List UInt8} (h : w.ownsRow base 5 1 (.slice (some ⟨g, 0, none⟩) l.length cv) l.length (l.map bvT)) :
    (convert 69 9 (.slice (some ⟨g, 0, none⟩) l.length cv)).run Tryz.prog w = .ok (.string ⟨l.toArray⟩) w :=
  run_convert_bytes_back (P := Tryz.prog) w 69 9 5 ⟨g, 0, none⟩ cv l Tryz.underlying69 Tryz.underlying5 Tryz.underlying9 (fun j hj => by
    rw [Lib.add_plain, Nat.zero_add]
    have k := h.cellAt j (by omega)
    rw [k, List.getElem?_map, List.getElem?_eq_getElem hj]; rfl)
theorem lit0 (w : World) (e : TypeId) : (w.alloc (.cells #[] e)).ownsRow w.heap.size e 1 (.slice (some ⟨w.heap.size, 0, none⟩) 0 0) 0 [] :=
  ⟨rfl, .inr ⟨w.heap.size, 0, #[], rfl, Nat.le_refl _, tblk_new _ _, Nat.le_refl _, by decide, rfl, rfl⟩⟩
theorem foldL_snoc (l : List UInt8) (k : Nat) (h : k < l.length) : (foldL (l.take (k + 1))).map bvT = (foldL (l.take k)).map bvT ++ [bvT (foldB l[k])] := by
  unfold foldL
  rw [List.take_succ_eq_append_getElem h, List.map_append, List.map_append]; rfl
theorem foldL_length (l : List UInt8) (k : Nat) (h : k ≤ l.length) : (foldL (l.take k)).length = k := by simp [foldL]; omega

set_option maxRecDepth 100000 in
set_option maxHeartbeats 4000000 in
theorem rfold_any (s : ByteArray) (w : World) (hs : s.size ≤ 4294967281) : Calls Tryz.prog 66 #[.string s] w fun e w' => e = .returned (.string (foldS s)) ∧ Below w.heap.size w w' := by
  obtain ⟨i0, hi, hz0, hz1, hz2⟩ := info_parts info5
  have hlen : s.data.toList.length = s.size := rfl
  have HL : Hid (s.data.toList.length = s.size) := hlen
  clear hlen
  go_enter Tryz.func66, Tryz.ntmps66
  go_wp2_with fail
  go_loopw [3, 4] (fun v vi wr => ∃ k g cv : Nat, k ≤ s.size ∧ vi = .int .i64 k ∧ v = .slice (some ⟨g, 0, none⟩) k cv ∧ Hid (wr.ownsRow w.heap.size 5 1 v k ((foldL (s.data.toList.take k)).map bvT)) ∧ Below w.heap.size w wr) (fun _ vi _ => s.size - (intOf vi).toNat)
  case atStart => exact ⟨0, w.heap.size, 0, Nat.zero_le _, rfl, rfl, lit0 w 5, (Below.refl _ _).alloc (Nat.le_refl _) _⟩
  case round =>
    obtain ⟨k, g, cv, hk, rfl, rfl, hown, hB⟩ := hrel
    by_cases hlt : k < s.size
    · have hsn : Hid ((foldL (s.data.toList.take (k + 1))).map bvT = (foldL (s.data.toList.take k)).map bvT ++ [bvT (foldB s[k])]) := foldL_snoc _ k hlt
      have bd := s[k].toNat_lt
      by_cases h1 : 65 ≤ (s[k].toNat : Int)
      · by_cases h2 : (s[k].toNat : Int) ≤ 90
        · rw [foldB_yes h1 h2] at hsn
          generalize (foldL (s.data.toList.take k)).map bvT = K at *
          go_wp2_with (first
            | (at_builtin; refine wpList_append_own _ rfl _ _ 69 rfl w.heap.size 5 i0 (.int .u8 0) 1 1 Tryz.underlying69 hi hz0 hz1 hz2 rfl (by decide) _ _ _ rfl (hown.out.alloc _) ⟨wr.heap.size, 0, none⟩ 1 1 [.int .u8 ((s[k].toNat : Int) + 32)] rfl rfl (cell_one_new _ _ _) (fun x hx => by simp at hx; subst hx; rfl) (by unfold maxLen; omega) (by omega) (by have := hB.size; simp; omega) ?_; intro v' w3 hown' hgrow3 hnil3))
          go_roundw
          case rel =>
            obtain ⟨g3, cap3, hv3⟩ : ∃ g3 cap3, v' = .slice (some ⟨g3, 0, none⟩) (k + 1) cap3 := by
              rcases hown'.2 with ⟨_, h⟩ | ⟨g3, cap3, _, h, _⟩
              · omega
              · exact ⟨g3, cap3, h⟩
            have hb3 : Below w.heap.size wr w3 := ((Below.refl _ _).alloc hB.size _).grown hgrow3 (by have := hB.size; simp; omega) (fun q hq => (hown.out.lt q hq).1)
            exact ⟨k + 1, g3, cap3, by omega, by go_num, hv3, by rw [hsn.out]; exact hown', hB.trans hb3⟩
          case measure => simp [intOf]; omega
        · have hno : ¬ (65 ≤ (s[k].toNat : Int) ∧ (s[k].toNat : Int) ≤ 90) := fun h => h2 h.2
          rw [foldB_no hno] at hsn
          clear hno
          generalize (foldL (s.data.toList.take k)).map bvT = K at *
          go_wp2_with (first
            | (at_builtin; refine wpList_append_own _ rfl _ _ 69 rfl w.heap.size 5 i0 (.int .u8 0) 1 1 Tryz.underlying69 hi hz0 hz1 hz2 rfl (by decide) _ _ _ rfl (hown.out.alloc _) ⟨wr.heap.size, 0, none⟩ 1 1 [.int .u8 (s[k].toNat : Int)] rfl rfl (cell_one_new _ _ _) (fun x hx => by simp at hx; subst hx; rfl) (by unfold maxLen; omega) (by omega) (by have := hB.size; simp; omega) ?_; intro v' w3 hown' hgrow3 hnil3))
          go_roundw
          case rel =>
            obtain ⟨g3, cap3, hv3⟩ : ∃ g3 cap3, v' = .slice (some ⟨g3, 0, none⟩) (k + 1) cap3 := by
              rcases hown'.2 with ⟨_, h⟩ | ⟨g3, cap3, _, h, _⟩
              · omega
              · exact ⟨g3, cap3, h⟩
            have hb3 : Below w.heap.size wr w3 := ((Below.refl _ _).alloc hB.size _).grown hgrow3 (by have := hB.size; simp; omega) (fun q hq => (hown.out.lt q hq).1)
            exact ⟨k + 1, g3, cap3, by omega, by go_num, hv3, by rw [hsn.out]; exact hown', hB.trans hb3⟩
          case measure => simp [intOf]; omega
      · have hno : ¬ (65 ≤ (s[k].toNat : Int) ∧ (s[k].toNat : Int) ≤ 90) := fun h => h1 h.1
        rw [foldB_no hno] at hsn
        clear hno
        generalize (foldL (s.data.toList.take k)).map bvT = K at *
        go_wp2_with (first
          | (at_builtin; refine wpList_append_own _ rfl _ _ 69 rfl w.heap.size 5 i0 (.int .u8 0) 1 1 Tryz.underlying69 hi hz0 hz1 hz2 rfl (by decide) _ _ _ rfl (hown.out.alloc _) ⟨wr.heap.size, 0, none⟩ 1 1 [.int .u8 (s[k].toNat : Int)] rfl rfl (cell_one_new _ _ _) (fun x hx => by simp at hx; subst hx; rfl) (by unfold maxLen; omega) (by omega) (by have := hB.size; simp; omega) ?_; intro v' w3 hown' hgrow3 hnil3))
        go_roundw
        case rel =>
          obtain ⟨g3, cap3, hv3⟩ : ∃ g3 cap3, v' = .slice (some ⟨g3, 0, none⟩) (k + 1) cap3 := by
            rcases hown'.2 with ⟨_, h⟩ | ⟨g3, cap3, _, h, _⟩
            · omega
            · exact ⟨g3, cap3, h⟩
          have hb3 : Below w.heap.size wr w3 := ((Below.refl _ _).alloc hB.size _).grown hgrow3 (by have := hB.size; simp; omega) (fun q hq => (hown.out.lt q hq).1)
          exact ⟨k + 1, g3, cap3, by omega, by go_num, hv3, by rw [hsn.out]; exact hown', hB.trans hb3⟩
        case measure => simp [intOf]; omega
    · have hke : k = s.size := by omega
      subst hke
      have hcv := owns_bytes (l := foldL s.data.toList) (w := wr) (base := w.heap.size) (g := g) (cv := cv) (by
        have h := hown.out
        rw [← HL.out, List.take_length] at h
        unfold foldL at h ⊢
        rw [List.length_map]
        exact h)
      have hll : (foldL s.data.toList).length = s.size := by unfold foldL; rw [List.length_map]; exact HL.out
      rw [hll] at hcv
      clear hown hll
      go_wp2
      go_ret
      exact ⟨rfl, hB⟩

end Go.Proofs.YthmhaflkkigenaaGreatDoor

/- The reference's Host. -/
namespace Go.Proofs.YthmhaflkkigenaaGreatDoor
open Go.RowKit
set_option linter.unusedVariables false

theorem isDg_span (b : UInt8) : isDg b = spanP 48 57 (b.toNat : Int) := by
  have h : ∀ n : Fin 256, isDg (UInt8.ofNat n.val) = spanP 48 57 ((UInt8.ofNat n.val).toNat : Int) := by decide +kernel
  have k := h ⟨b.toNat, b.toNat_lt⟩
  simpa using k
theorem col_of {b : UInt8} (h : (b.toNat : Int) = 58) : b = 58 := UInt8.toNat_inj.1 (by have e : (58 : UInt8).toNat = 58 := rfl; omega)
theorem ncol_of {b : UInt8} (h : ¬ (b.toNat : Int) = 58) : ¬ b = 58 := fun k => h (by rw [k]; rfl)
/-- All behind j are digits. -/
def DigF (s : ByteArray) (j : Nat) : Prop := ∀ i, j ≤ i → ∀ h : i < s.size, spanP 48 57 (s[i].toNat : Int) = true
theorem digF_drop {s : ByteArray} {j : Nat} (h : DigF s j) : ∀ b ∈ s.data.toList.drop j, isDg b = true := by
  intro b hb
  obtain ⟨k, hk, e⟩ := List.mem_iff_getElem.1 hb
  rw [List.length_drop] at hk
  rw [List.getElem_drop] at e
  rw [isDg_span, ← e]
  exact h (j + k) (Nat.le_add_right _ _) (show j + k < s.data.toList.length by omega)
theorem digF_pre {s : ByteArray} {i : Nat} (h : DigF s (i + 1)) (hi : i < s.size) (hd : spanP 48 57 (s[i].toNat : Int) = true) : DigF s i := by
  intro k hk h'
  by_cases e : k = i
  · subst e; exact hd
  · exact h k (by omega) h'
theorem end_none {s : ByteArray} (h : DigF s 0) : endL s.data.toList = s.data.toList := (end_at s.data.toList 0 (Nat.zero_le _) (digF_drop h) (Or.inl rfl)).1 rfl
theorem end_hit {s : ByteArray} {i : Nat} (hi : i < s.size) (h : DigF s (i + 1)) (hd : spanP 48 57 (s[i].toNat : Int) = false) (hc : (s[i].toNat : Int) = 58) : endL s.data.toList = s.data.toList.take i := by
  have k := (end_at s.data.toList (i + 1) hi (digF_drop h) (Or.inr ⟨i, hi, rfl, by rw [isDg_span]; exact hd⟩)).2 i hi rfl
  rw [k]
  exact if_pos (col_of hc)
theorem end_miss {s : ByteArray} {i : Nat} (hi : i < s.size) (h : DigF s (i + 1)) (hd : spanP 48 57 (s[i].toNat : Int) = false) (hc : ¬ (s[i].toNat : Int) = 58) : endL s.data.toList = s.data.toList := by
  have k := (end_at s.data.toList (i + 1) hi (digF_drop h) (Or.inr ⟨i, hi, rfl, by rw [isDg_span]; exact hd⟩)).2 i hi rfl
  rw [k]
  exact if_neg (ncol_of hc)
theorem fold_end {s : ByteArray} {i : Nat} (e : endL s.data.toList = s.data.toList.take i) : (⟨(foldL (endL s.data.toList)).toArray⟩ : ByteArray) = foldS (s.extract 0 i) := by
  unfold foldS
  rw [lext_data, e]; rfl
theorem fold_whole {s : ByteArray} (e : endL s.data.toList = s.data.toList) : (⟨(foldL (endL s.data.toList)).toArray⟩ : ByteArray) = foldS s := by
  unfold foldS
  rw [e]

set_option maxRecDepth 100000 in
set_option maxHeartbeats 4000000 in
theorem rhost_any (s : ByteArray) (w : World) (hs : s.size ≤ 4294967281) : Calls Tryz.prog 56 #[.string s] w fun e w' => e = .returned (.tuple #[.string (hostP s).1, .bool (hostP s).2]) ∧ Below w.heap.size w w' := by
  have D : Hid (∀ c W, Calls Tryz.prog 25 #[.int .u8 c] W fun e w' => e = .returned (.bool (spanP 48 57 c)) ∧ w' = W) := fun c W => rdig_any c W
  have HF : Hid (∀ n W, Calls Tryz.prog 66 #[.string (s.extract 0 n)] W fun e w' => e = .returned (.string (foldS (s.extract 0 n))) ∧ Below W.heap.size W w') := fun n W => rfold_any _ W (Nat.le_trans (extract_le _ _ _) hs)
  have HG : Hid (∀ W, Calls Tryz.prog 66 #[.string s] W fun e w' => e = .returned (.string (foldS s)) ∧ Below W.heap.size W w') := fun W => rfold_any _ W hs
  have HY : Hid ((foldS s).size ≤ 4294967281) := by rw [Hid, lfold_size]; exact hs
  have HZ : Hid (∀ n, (foldS (s.extract 0 n)).size ≤ 4294967281) := fun n => by rw [lfold_size]; exact Nat.le_trans (extract_le _ _ _) hs
  rw [host_ref]
  generalize hX : refO ⟨(foldL (endL s.data.toList)).toArray⟩ = X
  have HX : Hid (refO ⟨(foldL (endL s.data.toList)).toArray⟩ = X) := hX
  clear hX
  obtain ⟨X1, X2⟩ := X
  go_enter Tryz.func56, Tryz.ntmps56
  go_wp2_with fail
  go_loopw [5] (fun v wr => ∃ j : Nat, j ≤ s.size ∧ v = .int .i64 ((j : Int) - 1) ∧ Hid (DigF s j) ∧ Hid (wr = w)) (fun v _ => (intOf v + 1).toNat)
  case atStart => exact ⟨s.size, Nat.le_refl _, rfl, fun i h1 h2 => absurd h2 (by omega), rfl⟩
  case round =>
    obtain ⟨j, hj, rfl, hD, hW⟩ := hrel
    have ew := hW.out
    subst ew
    clear hW
    rcases Nat.eq_zero_or_pos j with rfl | hpos
    · have e0 : (((0 : Nat) : Int) - 1) = -1 := rfl
      rw [e0]
      clear e0
      have HE := fold_whole (end_none hD.out)
      rw [HE] at HX
      clear HE hD
      go_wp2_with fail
      refine (HG.out _).mono ?_
      rintro e w1 ⟨rfl, C1⟩
      have hz := HY.out
      generalize foldS s = o at *
      clear HF HZ HG HY
      go_wp2_with fail
      go_loopw [7] (fun v wr => ∃ k : Nat, k ≤ o.size ∧ v = .int .i64 k ∧ Hid (allB hsP (o.data.toList.take k) = true) ∧ Hid (wr = w1)) (fun v _ => o.size - (intOf v).toNat)
      case atStart => exact ⟨0, Nat.zero_le _, rfl, rfl, rfl⟩
      case round =>
        obtain ⟨k, hk, rfl, hA, hW⟩ := hrel
        have ew := hW.out
        subst ew
        clear hW
        by_cases hlt : k < o.size
        · have hF0 := allB_false (p := hsP) o k hlt
          have hT0 := allB_snoc (p := hsP) o k hlt hA.out
          have hF : Hid (hsP (o[k].toNat : Int) = false → allB hsP o.data.toList = false) := hF0
          have hT : Hid (hsP (o[k].toNat : Int) = true → allB hsP (o.data.toList.take (k + 1)) = true) := hT0
          clear hF0 hT0 hA
          have bd := o[k].toNat_lt
          by_cases h97 : 97 ≤ (o[k].toNat : Int)
          · by_cases h122 : (o[k].toNat : Int) ≤ 122
            · have hR := hT.out (by unfold hsP; simp; omega)
              go_wp2
              go_roundw
              case rel => exact ⟨k + 1, hlt, by go_num, hR, by first | exact rfl | exact True.intro⟩
              case measure => simp [intOf]; omega
            · have hR := hF.out (by unfold hsP; simp; omega)
              have hsp : spanP 48 57 (o[k].toNat : Int) = false := by unfold spanP; simp; omega
              have n45 : ((o[k].toNat : Int) != 45) = true := by simp; omega
              have n46 : ((o[k].toNat : Int) != 46) = true := by simp; omega
              go_wp2_with fail
              refine (D.out _ _).mono ?_
              rw [hsp]
              rintro e w2 ⟨rfl, rfl⟩
              go_wp2
              go_ret2
              have kk := HX.out
              unfold refO at kk
              rw [if_pos hR] at kk
              exact ⟨ret2_sb (congrArg Prod.fst kk) (congrArg Prod.snd kk), C1⟩
          · cases hsp : spanP 48 57 (o[k].toNat : Int)
            · by_cases h45 : (o[k].toNat : Int) = 45
              · have hR := hT.out (by unfold hsP; simp; omega)
                have n45 : ((o[k].toNat : Int) != 45) = false := by simp; omega
                clear h45
                go_wp2_with fail
                refine (D.out _ _).mono ?_
                rw [hsp]
                rintro e w2 ⟨rfl, rfl⟩
                go_wp2
                go_roundw
                case rel => exact ⟨k + 1, hlt, by go_num, hR, by first | exact rfl | exact True.intro⟩
                case measure => simp [intOf]; omega
              · by_cases h46 : (o[k].toNat : Int) = 46
                · have hR := hT.out (by unfold hsP; simp; omega)
                  have n45 : ((o[k].toNat : Int) != 45) = true := by simp; omega
                  have n46 : ((o[k].toNat : Int) != 46) = false := by simp; omega
                  clear h45 h46
                  go_wp2_with fail
                  refine (D.out _ _).mono ?_
                  rw [hsp]
                  rintro e w2 ⟨rfl, rfl⟩
                  go_wp2
                  go_roundw
                  case rel => exact ⟨k + 1, hlt, by go_num, hR, by first | exact rfl | exact True.intro⟩
                  case measure => simp [intOf]; omega
                · have hR := hF.out (by unfold spanP at hsp; unfold hsP; simp at hsp ⊢; omega)
                  have n45 : ((o[k].toNat : Int) != 45) = true := by simp; omega
                  have n46 : ((o[k].toNat : Int) != 46) = true := by simp; omega
                  clear h45 h46
                  go_wp2_with fail
                  refine (D.out _ _).mono ?_
                  rw [hsp]
                  rintro e w2 ⟨rfl, rfl⟩
                  go_wp2
                  go_ret2
                  have kk := HX.out
                  unfold refO at kk
                  rw [if_pos hR] at kk
                  exact ⟨ret2_sb (congrArg Prod.fst kk) (congrArg Prod.snd kk), C1⟩
            · have hR := hT.out (by unfold spanP at hsp; unfold hsP; simp at hsp ⊢; omega)
              go_wp2_with fail
              refine (D.out _ _).mono ?_
              rw [hsp]
              rintro e w2 ⟨rfl, rfl⟩
              go_wp2
              go_roundw
              case rel => exact ⟨k + 1, hlt, by go_num, hR, by first | exact rfl | exact True.intro⟩
              case measure => simp [intOf]; omega
        · have hke : k = o.size := by omega
          subst hke
          have hR : Hid (¬ allB hsP o.data.toList = false) := by
            have q := hA.out
            rw [List.take_of_length_le (show o.data.toList.length ≤ o.size from Nat.le_refl _)] at q
            rw [Hid, q]
            decide
          clear hA
          by_cases h0 : o.size = 0
          · have h0' : (o.size : Int) = 0 := by omega
            go_wp2
            go_ret2
            have kk := HX.out
            unfold refO at kk
            rw [if_neg hR.out, if_pos h0] at kk
            exact ⟨ret2_sb (congrArg Prod.fst kk) (congrArg Prod.snd kk), C1⟩
          · have h0' : ¬ (o.size : Int) = 0 := by omega
            by_cases h6 : 64 < o.size
            · have h6' : (64 : Int) < (o.size : Int) := by omega
              go_wp2
              go_ret2
              have kk := HX.out
              unfold refO at kk
              rw [if_neg hR.out, if_neg h0, if_pos h6] at kk
              exact ⟨ret2_sb (congrArg Prod.fst kk) (congrArg Prod.snd kk), C1⟩
            · have h6' : ¬ (64 : Int) < (o.size : Int) := by omega
              go_wp2
              go_ret2
              have kk := HX.out
              unfold refO at kk
              rw [if_neg hR.out, if_neg h0, if_neg h6] at kk
              exact ⟨ret2_sb (congrArg Prod.fst kk) (congrArg Prod.snd kk), C1⟩
    · obtain ⟨i, rfl⟩ : ∃ i, j = i + 1 := ⟨j - 1, by omega⟩
      have ei : (((i + 1 : Nat) : Int) - 1) = (i : Int) := by omega
      rw [ei]
      clear ei hpos
      have hi : i < s.size := hj
      cases hd : spanP 48 57 (s[i].toNat : Int)
      · by_cases hc : (s[i].toNat : Int) = 58
        · have HE := fold_end (end_hit hi hD.out hd hc)
          rw [HE] at HX
          have c58 : ((s[i].toNat : Int) == 58) = true := by simp; omega
          clear HE hD hc
          go_wp2_with fail
          refine (D.out _ _).mono ?_
          rw [hd]
          rintro e w2 ⟨rfl, rfl⟩
          go_wp2_with fail
          refine (HF.out _ _).mono ?_
          rintro e w1 ⟨rfl, C1⟩
          have hz := HZ.out i
          generalize foldS (s.extract 0 i) = o at *
          clear HF HZ HG HY
          go_wp2_with fail
          go_loopw [7] (fun v wr => ∃ k : Nat, k ≤ o.size ∧ v = .int .i64 k ∧ Hid (allB hsP (o.data.toList.take k) = true) ∧ Hid (wr = w1)) (fun v _ => o.size - (intOf v).toNat)
          case atStart => exact ⟨0, Nat.zero_le _, rfl, rfl, rfl⟩
          case round =>
            obtain ⟨k, hk, rfl, hA, hW⟩ := hrel
            have ew := hW.out
            subst ew
            clear hW
            by_cases hlt : k < o.size
            · have hF0 := allB_false (p := hsP) o k hlt
              have hT0 := allB_snoc (p := hsP) o k hlt hA.out
              have hF : Hid (hsP (o[k].toNat : Int) = false → allB hsP o.data.toList = false) := hF0
              have hT : Hid (hsP (o[k].toNat : Int) = true → allB hsP (o.data.toList.take (k + 1)) = true) := hT0
              clear hF0 hT0 hA
              have bd := o[k].toNat_lt
              by_cases h97 : 97 ≤ (o[k].toNat : Int)
              · by_cases h122 : (o[k].toNat : Int) ≤ 122
                · have hR := hT.out (by unfold hsP; simp; omega)
                  go_wp2
                  go_roundw
                  case rel => exact ⟨k + 1, hlt, by go_num, hR, by first | exact rfl | exact True.intro⟩
                  case measure => simp [intOf]; omega
                · have hR := hF.out (by unfold hsP; simp; omega)
                  have hsp : spanP 48 57 (o[k].toNat : Int) = false := by unfold spanP; simp; omega
                  have n45 : ((o[k].toNat : Int) != 45) = true := by simp; omega
                  have n46 : ((o[k].toNat : Int) != 46) = true := by simp; omega
                  go_wp2_with fail
                  refine (D.out _ _).mono ?_
                  rw [hsp]
                  rintro e w2 ⟨rfl, rfl⟩
                  go_wp2
                  go_ret2
                  have kk := HX.out
                  unfold refO at kk
                  rw [if_pos hR] at kk
                  exact ⟨ret2_sb (congrArg Prod.fst kk) (congrArg Prod.snd kk), C1⟩
              · cases hsp : spanP 48 57 (o[k].toNat : Int)
                · by_cases h45 : (o[k].toNat : Int) = 45
                  · have hR := hT.out (by unfold hsP; simp; omega)
                    have n45 : ((o[k].toNat : Int) != 45) = false := by simp; omega
                    clear h45
                    go_wp2_with fail
                    refine (D.out _ _).mono ?_
                    rw [hsp]
                    rintro e w2 ⟨rfl, rfl⟩
                    go_wp2
                    go_roundw
                    case rel => exact ⟨k + 1, hlt, by go_num, hR, by first | exact rfl | exact True.intro⟩
                    case measure => simp [intOf]; omega
                  · by_cases h46 : (o[k].toNat : Int) = 46
                    · have hR := hT.out (by unfold hsP; simp; omega)
                      have n45 : ((o[k].toNat : Int) != 45) = true := by simp; omega
                      have n46 : ((o[k].toNat : Int) != 46) = false := by simp; omega
                      clear h45 h46
                      go_wp2_with fail
                      refine (D.out _ _).mono ?_
                      rw [hsp]
                      rintro e w2 ⟨rfl, rfl⟩
                      go_wp2
                      go_roundw
                      case rel => exact ⟨k + 1, hlt, by go_num, hR, by first | exact rfl | exact True.intro⟩
                      case measure => simp [intOf]; omega
                    · have hR := hF.out (by unfold spanP at hsp; unfold hsP; simp at hsp ⊢; omega)
                      have n45 : ((o[k].toNat : Int) != 45) = true := by simp; omega
                      have n46 : ((o[k].toNat : Int) != 46) = true := by simp; omega
                      clear h45 h46
                      go_wp2_with fail
                      refine (D.out _ _).mono ?_
                      rw [hsp]
                      rintro e w2 ⟨rfl, rfl⟩
                      go_wp2
                      go_ret2
                      have kk := HX.out
                      unfold refO at kk
                      rw [if_pos hR] at kk
                      exact ⟨ret2_sb (congrArg Prod.fst kk) (congrArg Prod.snd kk), C1⟩
                · have hR := hT.out (by unfold spanP at hsp; unfold hsP; simp at hsp ⊢; omega)
                  go_wp2_with fail
                  refine (D.out _ _).mono ?_
                  rw [hsp]
                  rintro e w2 ⟨rfl, rfl⟩
                  go_wp2
                  go_roundw
                  case rel => exact ⟨k + 1, hlt, by go_num, hR, by first | exact rfl | exact True.intro⟩
                  case measure => simp [intOf]; omega
            · have hke : k = o.size := by omega
              subst hke
              have hR : Hid (¬ allB hsP o.data.toList = false) := by
                have q := hA.out
                rw [List.take_of_length_le (show o.data.toList.length ≤ o.size from Nat.le_refl _)] at q
                rw [Hid, q]
                decide
              clear hA
              by_cases h0 : o.size = 0
              · have h0' : (o.size : Int) = 0 := by omega
                go_wp2
                go_ret2
                have kk := HX.out
                unfold refO at kk
                rw [if_neg hR.out, if_pos h0] at kk
                exact ⟨ret2_sb (congrArg Prod.fst kk) (congrArg Prod.snd kk), C1⟩
              · have h0' : ¬ (o.size : Int) = 0 := by omega
                by_cases h6 : 64 < o.size
                · have h6' : (64 : Int) < (o.size : Int) := by omega
                  go_wp2
                  go_ret2
                  have kk := HX.out
                  unfold refO at kk
                  rw [if_neg hR.out, if_neg h0, if_pos h6] at kk
                  exact ⟨ret2_sb (congrArg Prod.fst kk) (congrArg Prod.snd kk), C1⟩
                · have h6' : ¬ (64 : Int) < (o.size : Int) := by omega
                  go_wp2
                  go_ret2
                  have kk := HX.out
                  unfold refO at kk
                  rw [if_neg hR.out, if_neg h0, if_neg h6] at kk
                  exact ⟨ret2_sb (congrArg Prod.fst kk) (congrArg Prod.snd kk), C1⟩
        · have HE := fold_whole (end_miss hi hD.out hd hc)
          rw [HE] at HX
          have c58 : ((s[i].toNat : Int) == 58) = false := by simp; omega
          clear HE hD hc
          go_wp2_with fail
          refine (D.out _ _).mono ?_
          rw [hd]
          rintro e w2 ⟨rfl, rfl⟩
          go_wp2_with fail
          refine (HG.out _).mono ?_
          rintro e w1 ⟨rfl, C1⟩
          have hz := HY.out
          generalize foldS s = o at *
          clear HF HZ HG HY
          go_wp2_with fail
          go_loopw [7] (fun v wr => ∃ k : Nat, k ≤ o.size ∧ v = .int .i64 k ∧ Hid (allB hsP (o.data.toList.take k) = true) ∧ Hid (wr = w1)) (fun v _ => o.size - (intOf v).toNat)
          case atStart => exact ⟨0, Nat.zero_le _, rfl, rfl, rfl⟩
          case round =>
            obtain ⟨k, hk, rfl, hA, hW⟩ := hrel
            have ew := hW.out
            subst ew
            clear hW
            by_cases hlt : k < o.size
            · have hF0 := allB_false (p := hsP) o k hlt
              have hT0 := allB_snoc (p := hsP) o k hlt hA.out
              have hF : Hid (hsP (o[k].toNat : Int) = false → allB hsP o.data.toList = false) := hF0
              have hT : Hid (hsP (o[k].toNat : Int) = true → allB hsP (o.data.toList.take (k + 1)) = true) := hT0
              clear hF0 hT0 hA
              have bd := o[k].toNat_lt
              by_cases h97 : 97 ≤ (o[k].toNat : Int)
              · by_cases h122 : (o[k].toNat : Int) ≤ 122
                · have hR := hT.out (by unfold hsP; simp; omega)
                  go_wp2
                  go_roundw
                  case rel => exact ⟨k + 1, hlt, by go_num, hR, by first | exact rfl | exact True.intro⟩
                  case measure => simp [intOf]; omega
                · have hR := hF.out (by unfold hsP; simp; omega)
                  have hsp : spanP 48 57 (o[k].toNat : Int) = false := by unfold spanP; simp; omega
                  have n45 : ((o[k].toNat : Int) != 45) = true := by simp; omega
                  have n46 : ((o[k].toNat : Int) != 46) = true := by simp; omega
                  go_wp2_with fail
                  refine (D.out _ _).mono ?_
                  rw [hsp]
                  rintro e w2 ⟨rfl, rfl⟩
                  go_wp2
                  go_ret2
                  have kk := HX.out
                  unfold refO at kk
                  rw [if_pos hR] at kk
                  exact ⟨ret2_sb (congrArg Prod.fst kk) (congrArg Prod.snd kk), C1⟩
              · cases hsp : spanP 48 57 (o[k].toNat : Int)
                · by_cases h45 : (o[k].toNat : Int) = 45
                  · have hR := hT.out (by unfold hsP; simp; omega)
                    have n45 : ((o[k].toNat : Int) != 45) = false := by simp; omega
                    clear h45
                    go_wp2_with fail
                    refine (D.out _ _).mono ?_
                    rw [hsp]
                    rintro e w2 ⟨rfl, rfl⟩
                    go_wp2
                    go_roundw
                    case rel => exact ⟨k + 1, hlt, by go_num, hR, by first | exact rfl | exact True.intro⟩
                    case measure => simp [intOf]; omega
                  · by_cases h46 : (o[k].toNat : Int) = 46
                    · have hR := hT.out (by unfold hsP; simp; omega)
                      have n45 : ((o[k].toNat : Int) != 45) = true := by simp; omega
                      have n46 : ((o[k].toNat : Int) != 46) = false := by simp; omega
                      clear h45 h46
                      go_wp2_with fail
                      refine (D.out _ _).mono ?_
                      rw [hsp]
                      rintro e w2 ⟨rfl, rfl⟩
                      go_wp2
                      go_roundw
                      case rel => exact ⟨k + 1, hlt, by go_num, hR, by first | exact rfl | exact True.intro⟩
                      case measure => simp [intOf]; omega
                    · have hR := hF.out (by unfold spanP at hsp; unfold hsP; simp at hsp ⊢; omega)
                      have n45 : ((o[k].toNat : Int) != 45) = true := by simp; omega
                      have n46 : ((o[k].toNat : Int) != 46) = true := by simp; omega
                      clear h45 h46
                      go_wp2_with fail
                      refine (D.out _ _).mono ?_
                      rw [hsp]
                      rintro e w2 ⟨rfl, rfl⟩
                      go_wp2
                      go_ret2
                      have kk := HX.out
                      unfold refO at kk
                      rw [if_pos hR] at kk
                      exact ⟨ret2_sb (congrArg Prod.fst kk) (congrArg Prod.snd kk), C1⟩
                · have hR := hT.out (by unfold spanP at hsp; unfold hsP; simp at hsp ⊢; omega)
                  go_wp2_with fail
                  refine (D.out _ _).mono ?_
                  rw [hsp]
                  rintro e w2 ⟨rfl, rfl⟩
                  go_wp2
                  go_roundw
                  case rel => exact ⟨k + 1, hlt, by go_num, hR, by first | exact rfl | exact True.intro⟩
                  case measure => simp [intOf]; omega
            · have hke : k = o.size := by omega
              subst hke
              have hR : Hid (¬ allB hsP o.data.toList = false) := by
                have q := hA.out
                rw [List.take_of_length_le (show o.data.toList.length ≤ o.size from Nat.le_refl _)] at q
                rw [Hid, q]
                decide
              clear hA
              by_cases h0 : o.size = 0
              · have h0' : (o.size : Int) = 0 := by omega
                go_wp2
                go_ret2
                have kk := HX.out
                unfold refO at kk
                rw [if_neg hR.out, if_pos h0] at kk
                exact ⟨ret2_sb (congrArg Prod.fst kk) (congrArg Prod.snd kk), C1⟩
              · have h0' : ¬ (o.size : Int) = 0 := by omega
                by_cases h6 : 64 < o.size
                · have h6' : (64 : Int) < (o.size : Int) := by omega
                  go_wp2
                  go_ret2
                  have kk := HX.out
                  unfold refO at kk
                  rw [if_neg hR.out, if_neg h0, if_pos h6] at kk
                  exact ⟨ret2_sb (congrArg Prod.fst kk) (congrArg Prod.snd kk), C1⟩
                · have h6' : ¬ (64 : Int) < (o.size : Int) := by omega
                  go_wp2
                  go_ret2
                  have kk := HX.out
                  unfold refO at kk
                  rw [if_neg hR.out, if_neg h0, if_neg h6] at kk
                  exact ⟨ret2_sb (congrArg Prod.fst kk) (congrArg Prod.snd kk), C1⟩
      · have hN : Hid (DigF s i) := digF_pre hD.out hi hd
        go_wp2_with fail
        refine (D.out _ _).mono ?_
        rw [hd]
        rintro e w2 ⟨rfl, rfl⟩
        clear HF HZ HG HY HX D hD
        go_wp2
        go_roundw
        case rel => exact ⟨i, Nat.le_of_lt hi, rfl, hN, by first | exact rfl | exact True.intro⟩
        case measure => simp [intOf]
end Go.Proofs.YthmhaflkkigenaaGreatDoor
