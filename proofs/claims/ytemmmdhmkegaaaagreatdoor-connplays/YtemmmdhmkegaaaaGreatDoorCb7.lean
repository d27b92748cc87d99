/- Texts that the proof leans on, one behind the other: LhA RefB LhB RefC FsD RDig RDec FrD FrR RqE IdxC RHex ChkN ChkO -/
import Derived.Test.YtemmmdhmkegaaaaGreatDoorCb4
import Derived.Test.YtemmmdhmkegaaaaGreatDoorCb3
import Derived.Test.YtemmmdhmkegaaaaGreatDoorCb6
import Derived.Lib.IndexMore
import Derived.Lib.SplitLaws
/- Hosts, plain: what the reference's Host answers is what Host answers. -/
namespace Go.Proofs.YtemmmdhmkegaaaaGreatDoor
open Go.RowKit
set_option linter.unusedVariables false

def isDg (b : UInt8) : Bool := ([48, 49, 50, 51, 52, 53, 54, 55, 56, 57] : List UInt8).contains b
def endL (l : List UInt8) : List UInt8 := match l.reverse.dropWhile isDg with
  | [] => l
  | c :: r => if c = 58 then r.reverse else l
theorem foldB_dig (b : UInt8) : isDg (foldB b) = isDg b := by
  have h : ∀ n : Fin 256, isDg (foldB (UInt8.ofNat n.val)) = isDg (UInt8.ofNat n.val) := by decide +kernel
  have k := h ⟨b.toNat, b.toNat_lt⟩
  simpa using k
theorem foldB_col (b : UInt8) : foldB b = 58 ↔ b = 58 := by
  have h : ∀ n : Fin 256, (foldB (UInt8.ofNat n.val) = 58 ↔ UInt8.ofNat n.val = 58) := by decide +kernel
  have k := h ⟨b.toNat, b.toNat_lt⟩
  simpa using k
theorem dw_fold : ∀ l : List UInt8, (l.map foldB).dropWhile isDg = (l.dropWhile isDg).map foldB
  | [] => rfl
  | b :: l => by
    rw [List.map_cons, List.dropWhile_cons, List.dropWhile_cons, foldB_dig]
    split
    · exact dw_fold l
    · rfl
theorem lext_data (x : ByteArray) (i j : Nat) : (x.extract i j).data.toList = (x.data.toList.take j).drop i := by
  rw [Lib.extract_data, List.drop_take]
theorem lbytes_eq {a b : ByteArray} (h : a.data.toList = b.data.toList) : a = b := ByteArray.ext (Array.toList_inj.1 h)
theorem hasS_last (l : List UInt8) (c : UInt8) : hasS ⟨(l ++ [c]).toArray⟩ ⟨#[58]⟩ = decide (c = 58) := by
  unfold hasS
  have e1 : (⟨(l ++ [c]).toArray⟩ : ByteArray).size = l.length + 1 := by show (l ++ [c]).toArray.size = _; simp
  have e2 : (⟨#[58]⟩ : ByteArray).size = 1 := rfl
  rw [e1, e2, decide_eq_true (by omega), Bool.true_and]
  have e3 : ((⟨(l ++ [c]).toArray⟩ : ByteArray).extract (l.length + 1 - 1) (l.length + 1)).toList = [c] := by
    rw [ByteArray.toList_eq, lext_data]
    show ((l ++ [c]).take (l.length + 1)).drop (l.length + 1 - 1) = [c]
    rw [List.take_of_length_le (by simp), Nat.add_sub_cancel, List.drop_left]
  rw [e3, ByteArray.toList_eq]
  show ([c] == [58]) = _
  simp [Bool.beq_eq_decide_eq]
theorem cutX_last (l : List UInt8) : cutX ⟨(l ++ [58]).toArray⟩ ⟨#[58]⟩ = ⟨l.toArray⟩ := by
  unfold cutX
  rw [hasS_last, if_pos (by decide)]
  have e1 : (⟨(l ++ [58]).toArray⟩ : ByteArray).size = l.length + 1 := by show (l ++ [58]).toArray.size = _; simp
  have e2 : (⟨#[58]⟩ : ByteArray).size = 1 := rfl
  rw [e1, e2, Nat.add_sub_cancel]
  refine lbytes_eq ?_
  rw [lext_data]
  show ((l ++ [58]).take l.length).drop 0 = l
  rw [List.take_left]; rfl
theorem port_fold (s : ByteArray) : portP (foldS s) = ⟨(foldL (endL s.data.toList)).toArray⟩ := by
  have e0 : noDig (foldS s) = ⟨(((s.data.toList.reverse.dropWhile isDg).map foldB).reverse).toArray⟩ := by
    unfold noDig foldS Lib.trimRightS
    have e : (foldL s.data.toList).reverse = (s.data.toList.reverse).map foldB := by unfold foldL; rw [List.map_reverse]
    show (⟨(((foldL s.data.toList).reverse.dropWhile isDg).reverse).toArray⟩ : ByteArray) = _
    rw [e, dw_fold]
  unfold portP endL
  rw [e0]
  cases h : s.data.toList.reverse.dropWhile isDg with
  | nil =>
    rw [if_neg (by decide)]
    rfl
  | cons c r =>
    have e1 : ((c :: r).map foldB).reverse = (r.reverse.map foldB) ++ [foldB c] := by rw [List.map_cons, List.reverse_cons, List.map_reverse]
    rw [e1, hasS_last]
    by_cases hc : c = 58
    · subst hc
      have e2 : foldB 58 = 58 := by decide
      rw [e2, if_pos (by decide), cutX_last]
      simp only [if_true]
      rfl
    · rw [if_neg (by rw [decide_eq_false (fun k => hc ((foldB_col c).1 k))]; decide)]
      simp only [if_neg hc]
      rfl
theorem dw_all_true (p : UInt8 → Bool) : ∀ (a l : List UInt8), (∀ b ∈ a, p b = true) → (a ++ l).dropWhile p = l.dropWhile p
  | [], l, _ => rfl
  | x :: a, l, h => by
    rw [List.cons_append, List.dropWhile_cons, if_pos (h x (List.mem_cons_self ..))]
    exact dw_all_true p a l (fun b hb => h b (List.mem_cons_of_mem _ hb))
theorem end_at (l : List UInt8) (j : Nat) (hj : j ≤ l.length) (hd : ∀ b ∈ l.drop j, isDg b = true) (hn : j = 0 ∨ ∃ i, ∃ h : i < l.length, j = i + 1 ∧ isDg l[i] = false) :
    (j = 0 → endL l = l) ∧ (∀ i (h : i < l.length), j = i + 1 → endL l = if l[i] = 58 then l.take i else l) := by
  have e : l.reverse.dropWhile isDg = (l.take j).reverse.dropWhile isDg := by
    have k : l.reverse = (l.drop j).reverse ++ (l.take j).reverse := by rw [← List.reverse_append, List.take_append_drop]
    rw [k, dw_all_true]
    intro b hb
    exact hd b (List.mem_reverse.1 hb)
  constructor
  · rintro rfl
    unfold endL
    rw [e]
    rfl
  · rintro i h rfl
    have hi : isDg l[i] = false := by
      rcases hn with k | ⟨i', h', k1, k2⟩
      · omega
      · obtain rfl : i = i' := by omega
        exact k2
    unfold endL
    rw [e, List.take_succ_eq_append_getElem h, List.reverse_append, List.reverse_singleton, List.singleton_append, List.dropWhile_cons, if_neg (by rw [hi]; decide)]
    simp only
    by_cases hc : l[i] = 58
    · rw [if_pos hc, if_pos hc, List.reverse_reverse]
    · rw [if_neg hc, if_neg hc]
def refO (o : ByteArray) : ByteArray × Bool := if allB hsP o.data.toList = false then (⟨#[]⟩, false) else if o.size = 0 then (⟨#[]⟩, false) else if 64 < o.size then (⟨#[]⟩, false) else (o, true)
theorem host_ref (s : ByteArray) : hostP s = refO ⟨(foldL (endL s.data.toList)).toArray⟩ := by
  unfold hostP refO
  rw [port_fold]
  generalize (⟨(foldL (endL s.data.toList)).toArray⟩ : ByteArray) = o
  by_cases h1 : o.size = 0
  · rw [if_pos h1]
    by_cases h2 : allB hsP o.data.toList = false
    · rw [if_pos h2]
    · rw [if_neg h2, if_pos h1]
  · rw [if_neg h1]
    by_cases h3 : 64 < o.size
    · rw [if_pos h3]
      by_cases h2 : allB hsP o.data.toList = false
      · rw [if_pos h2]
      · rw [if_neg h2, if_neg h1, if_pos h3]
    · rw [if_neg h3]
      by_cases h2 : allB hsP o.data.toList = false
      · rw [if_pos h2, if_pos h2]
      · rw [if_neg h2, if_neg h2, if_neg h1, if_neg h3]
end Go.Proofs.YtemmmdhmkegaaaaGreatDoor

/- The reference's Fold. -/
namespace Go.Proofs.YtemmmdhmkegaaaaGreatDoor
open Go.RowKit
set_option linter.unusedVariables false

theorem info5 : (Tryz.prog.info? 5).map (fun i => (i.zero, i.size, i.bytes)) = some (some (.int .u8 0), 1, 1) := by kernel_rfl
theorem owns_bytes {w : World} {base g cv : Nat} {l : List UInt8} (h : w.ownsRow base 5 1 (.slice (some ⟨g, 0, none⟩) l.length cv) l.length (l.map bvT)) :
    (convert 31 9 (.slice (some ⟨g, 0, none⟩) l.length cv)).run Tryz.prog w = .ok (.string ⟨l.toArray⟩) w :=
  run_convert_bytes_back (P := Tryz.prog) w 31 9 5 ⟨g, 0, none⟩ cv l Tryz.underlying31 Tryz.underlying5 Tryz.underlying9 (fun j hj => by
    rw [Lib.add_plain, Nat.zero_add]
    have k := h.cellAt j (by omega)
    rw [k, List.getElem?_map, List.getElem?_eq_getElem hj]; rfl)
theorem lit0 (w : World) (e : TypeId) : (w.alloc (.cells #[] e)).ownsRow w.heap.size e 1 (.slice (some ⟨w.heap.size, 0, none⟩) 0 0) 0 [] :=
  ⟨rfl, .inr ⟨w.heap.size, 0, #[], rfl, Nat.le_refl _, tblk_new _ _, Nat.le_refl _, by decide, rfl, rfl⟩⟩
theorem foldL_snoc (l : List UInt8) (k : Nat) (h : k < l.length) : (foldL (l.take (k + 1))).map bvT = (foldL (l.take k)).map bvT ++ [bvT (foldB l[k])] := by
  unfold foldL
  rw [List.take_succ_eq_append_getElem h, List.map_append, List.map_append]; rfl
set_option maxRecDepth 100000 in
set_option maxHeartbeats 4000000 in
theorem rfold_any (s : ByteArray) (w : World) (hs : s.size ≤ 4294967281) : Calls Tryz.prog 124 #[.string s] w fun e w' => e = .returned (.string (foldS s)) ∧ Below w.heap.size w w' := by
  obtain ⟨i0, hi, hz0, hz1, hz2⟩ := info_parts info5
  have hlen : s.data.toList.length = s.size := rfl
  have HL : Hid (s.data.toList.length = s.size) := hlen
  clear hlen
  go_enter Tryz.func124, Tryz.ntmps124
  go_wp2_with fail
  go_loopw [3, 4] (fun v vi wr => ∃ k g cv : Nat, k ≤ s.size ∧ vi = .int .i64 k ∧ v = .slice (some ⟨g, 0, none⟩) k cv ∧ Hid (wr.ownsRow w.heap.size 5 1 v k ((foldL (s.data.toList.take k)).map bvT)) ∧ Below w.heap.size w wr) (fun _ vi _ => s.size - (intOf vi).toNat)
  case atStart => exact ⟨0, w.heap.size, 0, Nat.zero_le _, rfl, rfl, lit0 w 5, (Below.refl _ _).alloc (Nat.le_refl _) _⟩
  case round =>
    obtain ⟨k, g, cv, hk, rfl, rfl, hown, hB⟩ := hrel
    by_cases hlt : k < s.size
    · have hsn : Hid ((foldL (s.data.toList.take (k + 1))).map bvT = (foldL (s.data.toList.take k)).map bvT ++ [bvT (foldB s[k])]) := foldL_snoc _ k hlt
      have bd := s[k].toNat_lt
      by_cases h1 : 65 ≤ (s[k].toNat : Int)
      · by_cases h2 : (s[k].toNat : Int) ≤ 90
        · rw [foldB_yes h1 h2] at hsn
          generalize (foldL (s.data.toList.take k)).map bvT = K at *
          go_wp2_with (first
            | (at_builtin; refine wpList_append_own _ rfl _ _ 31 rfl w.heap.size 5 i0 (.int .u8 0) 1 1 Tryz.underlying31 hi hz0 hz1 hz2 rfl (by decide) _ _ _ rfl (hown.out.alloc _) ⟨wr.heap.size, 0, none⟩ 1 1 [.int .u8 ((s[k].toNat : Int) + 32)] rfl rfl (cell_one_new _ _ _) (fun x hx => by simp at hx; subst hx; rfl) (by unfold maxLen; omega) (by omega) (by have := hB.size; simp; omega) ?_; intro v' w3 hown' hgrow3 hnil3))
          go_roundw
          case rel =>
            obtain ⟨g3, cap3, hv3⟩ : ∃ g3 cap3, v' = .slice (some ⟨g3, 0, none⟩) (k + 1) cap3 := by
              rcases hown'.2 with ⟨_, h⟩ | ⟨g3, cap3, _, h, _⟩
              · omega
              · exact ⟨g3, cap3, h⟩
            have hb3 : Below w.heap.size wr w3 := ((Below.refl _ _).alloc hB.size _).grown hgrow3 (by have := hB.size; simp; omega) (fun q hq => (hown.out.lt q hq).1)
            exact ⟨k + 1, g3, cap3, by omega, by go_num, hv3, by rw [hsn.out]; exact hown', hB.trans hb3⟩
          case measure => simp [intOf]; omega
        · have hno : ¬ (65 ≤ (s[k].toNat : Int) ∧ (s[k].toNat : Int) ≤ 90) := fun h => h2 h.2
          rw [foldB_no hno] at hsn
          clear hno
          generalize (foldL (s.data.toList.take k)).map bvT = K at *
          go_wp2_with (first
            | (at_builtin; refine wpList_append_own _ rfl _ _ 31 rfl w.heap.size 5 i0 (.int .u8 0) 1 1 Tryz.underlying31 hi hz0 hz1 hz2 rfl (by decide) _ _ _ rfl (hown.out.alloc _) ⟨wr.heap.size, 0, none⟩ 1 1 [.int .u8 (s[k].toNat : Int)] rfl rfl (cell_one_new _ _ _) (fun x hx => by simp at hx; subst hx; rfl) (by unfold maxLen; omega) (by omega) (by have := hB.size; simp; omega) ?_; intro v' w3 hown' hgrow3 hnil3))
          go_roundw
          case rel =>
            obtain ⟨g3, cap3, hv3⟩ : ∃ g3 cap3, v' = .slice (some ⟨g3, 0, none⟩) (k + 1) cap3 := by
              rcases hown'.2 with ⟨_, h⟩ | ⟨g3, cap3, _, h, _⟩
              · omega
              · exact ⟨g3, cap3, h⟩
            have hb3 : Below w.heap.size wr w3 := ((Below.refl _ _).alloc hB.size _).grown hgrow3 (by have := hB.size; simp; omega) (fun q hq => (hown.out.lt q hq).1)
            exact ⟨k + 1, g3, cap3, by omega, by go_num, hv3, by rw [hsn.out]; exact hown', hB.trans hb3⟩
          case measure => simp [intOf]; omega
      · have hno : ¬ (65 ≤ (s[k].toNat : Int) ∧ (s[k].toNat : Int) ≤ 90) := fun h => h1 h.1
        rw [foldB_no hno] at hsn
        clear hno
        generalize (foldL (s.data.toList.take k)).map bvT = K at *
        go_wp2_with (first
          | (at_builtin; refine wpList_append_own _ rfl _ _ 31 rfl w.heap.size 5 i0 (.int .u8 0) 1 1 Tryz.underlying31 hi hz0 hz1 hz2 rfl (by decide) _ _ _ rfl (hown.out.alloc _) ⟨wr.heap.size, 0, none⟩ 1 1 [.int .u8 (s[k].toNat : Int)] rfl rfl (cell_one_new _ _ _) (fun x hx => by simp at hx; subst hx; rfl) (by unfold maxLen; omega) (by omega) (by have := hB.size; simp; omega) ?_; intro v' w3 hown' hgrow3 hnil3))
        go_roundw
        case rel =>
          obtain ⟨g3, cap3, hv3⟩ : ∃ g3 cap3, v' = .slice (some ⟨g3, 0, none⟩) (k + 1) cap3 := by
            rcases hown'.2 with ⟨_, h⟩ | ⟨g3, cap3, _, h, _⟩
            · omega
            · exact ⟨g3, cap3, h⟩
          have hb3 : Below w.heap.size wr w3 := ((Below.refl _ _).alloc hB.size _).grown hgrow3 (by have := hB.size; simp; omega) (fun q hq => (hown.out.lt q hq).1)
          exact ⟨k + 1, g3, cap3, by omega, by go_num, hv3, by rw [hsn.out]; exact hown', hB.trans hb3⟩
        case measure => simp [intOf]; omega
    · have hke : k = s.size := by omega
      subst hke
      have hcv := owns_bytes (l := foldL s.data.toList) (w := wr) (base := w.heap.size) (g := g) (cv := cv) (by
        have h := hown.out
        rw [← HL.out, List.take_length] at h
        unfold foldL at h ⊢
        rw [List.length_map]
        exact h)
      have hll : (foldL s.data.toList).length = s.size := by unfold foldL; rw [List.length_map]; exact HL.out
      rw [hll] at hcv
      clear hown hll
      go_wp2
      go_ret
      exact ⟨rfl, hB⟩

end Go.Proofs.YtemmmdhmkegaaaaGreatDoor

/- The reference's Host. -/
namespace Go.Proofs.YtemmmdhmkegaaaaGreatDoor
open Go.RowKit
set_option linter.unusedVariables false

theorem isDg_span (b : UInt8) : isDg b = spanP 48 57 (b.toNat : Int) := by
  have h : ∀ n : Fin 256, isDg (UInt8.ofNat n.val) = spanP 48 57 ((UInt8.ofNat n.val).toNat : Int) := by decide +kernel
  have k := h ⟨b.toNat, b.toNat_lt⟩
  simpa using k
theorem col_of {b : UInt8} (h : (b.toNat : Int) = 58) : b = 58 := UInt8.toNat_inj.1 (by have e : (58 : UInt8).toNat = 58 := rfl; omega)
theorem ncol_of {b : UInt8} (h : ¬ (b.toNat : Int) = 58) : ¬ b = 58 := fun k => h (by rw [k]; rfl)
def DigF (s : ByteArray) (j : Nat) : Prop := ∀ i, j ≤ i → ∀ h : i < s.size, spanP 48 57 (s[i].toNat : Int) = true
theorem digF_drop {s : ByteArray} {j : Nat} (h : DigF s j) : ∀ b ∈ s.data.toList.drop j, isDg b = true := by
  intro b hb
  obtain ⟨k, hk, e⟩ := List.mem_iff_getElem.1 hb
  rw [List.length_drop] at hk
  rw [List.getElem_drop] at e
  rw [isDg_span, ← e]
  exact h (j + k) (Nat.le_add_right _ _) (show j + k < s.data.toList.length by omega)
theorem digF_pre {s : ByteArray} {i : Nat} (h : DigF s (i + 1)) (hi : i < s.size) (hd : spanP 48 57 (s[i].toNat : Int) = true) : DigF s i := by
  intro k hk h'
  by_cases e : k = i
  · subst e; exact hd
  · exact h k (by omega) h'
theorem end_none {s : ByteArray} (h : DigF s 0) : endL s.data.toList = s.data.toList := (end_at s.data.toList 0 (Nat.zero_le _) (digF_drop h) (Or.inl rfl)).1 rfl
theorem end_hit {s : ByteArray} {i : Nat} (hi : i < s.size) (h : DigF s (i + 1)) (hd : spanP 48 57 (s[i].toNat : Int) = false) (hc : (s[i].toNat : Int) = 58) : endL s.data.toList = s.data.toList.take i := by
  have k := (end_at s.data.toList (i + 1) hi (digF_drop h) (Or.inr ⟨i, hi, rfl, by rw [isDg_span]; exact hd⟩)).2 i hi rfl
  rw [k]
  exact if_pos (col_of hc)
theorem end_miss {s : ByteArray} {i : Nat} (hi : i < s.size) (h : DigF s (i + 1)) (hd : spanP 48 57 (s[i].toNat : Int) = false) (hc : ¬ (s[i].toNat : Int) = 58) : endL s.data.toList = s.data.toList := by
  have k := (end_at s.data.toList (i + 1) hi (digF_drop h) (Or.inr ⟨i, hi, rfl, by rw [isDg_span]; exact hd⟩)).2 i hi rfl
  rw [k]
  exact if_neg (ncol_of hc)
theorem fold_end {s : ByteArray} {i : Nat} (e : endL s.data.toList = s.data.toList.take i) : (⟨(foldL (endL s.data.toList)).toArray⟩ : ByteArray) = foldS (s.extract 0 i) := by
  unfold foldS
  rw [lext_data, e]; rfl
theorem fold_whole {s : ByteArray} (e : endL s.data.toList = s.data.toList) : (⟨(foldL (endL s.data.toList)).toArray⟩ : ByteArray) = foldS s := by
  unfold foldS
  rw [e]

set_option maxRecDepth 100000 in
set_option maxHeartbeats 4000000 in
theorem rhost_any (s : ByteArray) (w : World) (hs : s.size ≤ 4294967281) : Calls Tryz.prog 90 #[.string s] w fun e w' => e = .returned (.tuple #[.string (hostP s).1, .bool (hostP s).2]) ∧ Below w.heap.size w w' := by
  have D : Hid (∀ c W, Calls Tryz.prog 123 #[.int .u8 c] W fun e w' => e = .returned (.bool (spanP 48 57 c)) ∧ w' = W) := fun c W => rdig_any c W
  have HF : Hid (∀ n W, Calls Tryz.prog 124 #[.string (s.extract 0 n)] W fun e w' => e = .returned (.string (foldS (s.extract 0 n))) ∧ Below W.heap.size W w') := fun n W => rfold_any _ W (Nat.le_trans (extract_le _ _ _) hs)
  have HG : Hid (∀ W, Calls Tryz.prog 124 #[.string s] W fun e w' => e = .returned (.string (foldS s)) ∧ Below W.heap.size W w') := fun W => rfold_any _ W hs
  have HY : Hid ((foldS s).size ≤ 4294967281) := by rw [Hid, lfold_size]; exact hs
  have HZ : Hid (∀ n, (foldS (s.extract 0 n)).size ≤ 4294967281) := fun n => by rw [lfold_size]; exact Nat.le_trans (extract_le _ _ _) hs
  rw [host_ref]
  generalize hX : refO ⟨(foldL (endL s.data.toList)).toArray⟩ = X
  have HX : Hid (refO ⟨(foldL (endL s.data.toList)).toArray⟩ = X) := hX
  clear hX
  obtain ⟨X1, X2⟩ := X
  go_enter Tryz.func90, Tryz.ntmps90
  go_wp2_with fail
  go_loopw [5] (fun v wr => ∃ j : Nat, j ≤ s.size ∧ v = .int .i64 ((j : Int) - 1) ∧ Hid (DigF s j) ∧ Hid (wr = w)) (fun v _ => (intOf v + 1).toNat)
  case atStart => exact ⟨s.size, Nat.le_refl _, rfl, fun i h1 h2 => absurd h2 (by omega), rfl⟩
  case round =>
    obtain ⟨j, hj, rfl, hD, hW⟩ := hrel
    have ew := hW.out
    subst ew
    clear hW
    rcases Nat.eq_zero_or_pos j with rfl | hpos
    · have e0 : (((0 : Nat) : Int) - 1) = -1 := rfl
      rw [e0]
      clear e0
      have HE := fold_whole (end_none hD.out)
      rw [HE] at HX
      clear HE hD
      go_wp2_with fail
      refine (HG.out _).mono ?_
      rintro e w1 ⟨rfl, C1⟩
      have hz := HY.out
      generalize foldS s = o at *
      clear HF HZ HG HY
      go_wp2_with fail
      go_loopw [7] (fun v wr => ∃ k : Nat, k ≤ o.size ∧ v = .int .i64 k ∧ Hid (allB hsP (o.data.toList.take k) = true) ∧ Hid (wr = w1)) (fun v _ => o.size - (intOf v).toNat)
      case atStart => exact ⟨0, Nat.zero_le _, rfl, rfl, rfl⟩
      case round =>
        obtain ⟨k, hk, rfl, hA, hW⟩ := hrel
        have ew := hW.out
        subst ew
        clear hW
        by_cases hlt : k < o.size
        · have hF0 := allB_false (p := hsP) o k hlt
          have hT0 := allB_snoc (p := hsP) o k hlt hA.out
          have hF : Hid (hsP (o[k].toNat : Int) = false → allB hsP o.data.toList = false) := hF0
          have hT : Hid (hsP (o[k].toNat : Int) = true → allB hsP (o.data.toList.take (k + 1)) = true) := hT0
          clear hF0 hT0 hA
          have bd := o[k].toNat_lt
          by_cases h97 : 97 ≤ (o[k].toNat : Int)
          · by_cases h122 : (o[k].toNat : Int) ≤ 122
            · have hR := hT.out (by unfold hsP; simp; omega)
              go_wp2
              go_roundw
              case rel => exact ⟨k + 1, hlt, by go_num, hR, by first | exact rfl | exact True.intro⟩
              case measure => simp [intOf]; omega
            · have hR := hF.out (by unfold hsP; simp; omega)
              have hsp : spanP 48 57 (o[k].toNat : Int) = false := by unfold spanP; simp; omega
              have n45 : ((o[k].toNat : Int) != 45) = true := by simp; omega
              have n46 : ((o[k].toNat : Int) != 46) = true := by simp; omega
              go_wp2_with fail
              refine (D.out _ _).mono ?_
              rw [hsp]
              rintro e w2 ⟨rfl, rfl⟩
              go_wp2
              go_ret2
              have kk := HX.out
              unfold refO at kk
              rw [if_pos hR] at kk
              exact ⟨ret2_sb (congrArg Prod.fst kk) (congrArg Prod.snd kk), C1⟩
          · cases hsp : spanP 48 57 (o[k].toNat : Int)
            · by_cases h45 : (o[k].toNat : Int) = 45
              · have hR := hT.out (by unfold hsP; simp; omega)
                have n45 : ((o[k].toNat : Int) != 45) = false := by simp; omega
                clear h45
                go_wp2_with fail
                refine (D.out _ _).mono ?_
                rw [hsp]
                rintro e w2 ⟨rfl, rfl⟩
                go_wp2
                go_roundw
                case rel => exact ⟨k + 1, hlt, by go_num, hR, by first | exact rfl | exact True.intro⟩
                case measure => simp [intOf]; omega
              · by_cases h46 : (o[k].toNat : Int) = 46
                · have hR := hT.out (by unfold hsP; simp; omega)
                  have n45 : ((o[k].toNat : Int) != 45) = true := by simp; omega
                  have n46 : ((o[k].toNat : Int) != 46) = false := by simp; omega
                  clear h45 h46
                  go_wp2_with fail
                  refine (D.out _ _).mono ?_
                  rw [hsp]
                  rintro e w2 ⟨rfl, rfl⟩
                  go_wp2
                  go_roundw
                  case rel => exact ⟨k + 1, hlt, by go_num, hR, by first | exact rfl | exact True.intro⟩
                  case measure => simp [intOf]; omega
                · have hR := hF.out (by unfold spanP at hsp; unfold hsP; simp at hsp ⊢; omega)
                  have n45 : ((o[k].toNat : Int) != 45) = true := by simp; omega
                  have n46 : ((o[k].toNat : Int) != 46) = true := by simp; omega
                  clear h45 h46
                  go_wp2_with fail
                  refine (D.out _ _).mono ?_
                  rw [hsp]
                  rintro e w2 ⟨rfl, rfl⟩
                  go_wp2
                  go_ret2
                  have kk := HX.out
                  unfold refO at kk
                  rw [if_pos hR] at kk
                  exact ⟨ret2_sb (congrArg Prod.fst kk) (congrArg Prod.snd kk), C1⟩
            · have hR := hT.out (by unfold spanP at hsp; unfold hsP; simp at hsp ⊢; omega)
              go_wp2_with fail
              refine (D.out _ _).mono ?_
              rw [hsp]
              rintro e w2 ⟨rfl, rfl⟩
              go_wp2
              go_roundw
              case rel => exact ⟨k + 1, hlt, by go_num, hR, by first | exact rfl | exact True.intro⟩
              case measure => simp [intOf]; omega
        · have hke : k = o.size := by omega
          subst hke
          have hR : Hid (¬ allB hsP o.data.toList = false) := by
            have q := hA.out
            rw [List.take_of_length_le (show o.data.toList.length ≤ o.size from Nat.le_refl _)] at q
            rw [Hid, q]
            decide
          clear hA
          by_cases h0 : o.size = 0
          · have h0' : (o.size : Int) = 0 := by omega
            go_wp2
            go_ret2
            have kk := HX.out
            unfold refO at kk
            rw [if_neg hR.out, if_pos h0] at kk
            exact ⟨ret2_sb (congrArg Prod.fst kk) (congrArg Prod.snd kk), C1⟩
          · have h0' : ¬ (o.size : Int) = 0 := by omega
            by_cases h6 : 64 < o.size
            · have h6' : (64 : Int) < (o.size : Int) := by omega
              go_wp2
              go_ret2
              have kk := HX.out
              unfold refO at kk
              rw [if_neg hR.out, if_neg h0, if_pos h6] at kk
              exact ⟨ret2_sb (congrArg Prod.fst kk) (congrArg Prod.snd kk), C1⟩
            · have h6' : ¬ (64 : Int) < (o.size : Int) := by omega
              go_wp2
              go_ret2
              have kk := HX.out
              unfold refO at kk
              rw [if_neg hR.out, if_neg h0, if_neg h6] at kk
              exact ⟨ret2_sb (congrArg Prod.fst kk) (congrArg Prod.snd kk), C1⟩
    · obtain ⟨i, rfl⟩ : ∃ i, j = i + 1 := ⟨j - 1, by omega⟩
      have ei : (((i + 1 : Nat) : Int) - 1) = (i : Int) := by omega
      rw [ei]
      clear ei hpos
      have hi : i < s.size := hj
      cases hd : spanP 48 57 (s[i].toNat : Int)
      · by_cases hc : (s[i].toNat : Int) = 58
        · have HE := fold_end (end_hit hi hD.out hd hc)
          rw [HE] at HX
          have c58 : ((s[i].toNat : Int) == 58) = true := by simp; omega
          clear HE hD hc
          go_wp2_with fail
          refine (D.out _ _).mono ?_
          rw [hd]
          rintro e w2 ⟨rfl, rfl⟩
          go_wp2_with fail
          refine (HF.out _ _).mono ?_
          rintro e w1 ⟨rfl, C1⟩
          have hz := HZ.out i
          generalize foldS (s.extract 0 i) = o at *
          clear HF HZ HG HY
          go_wp2_with fail
          go_loopw [7] (fun v wr => ∃ k : Nat, k ≤ o.size ∧ v = .int .i64 k ∧ Hid (allB hsP (o.data.toList.take k) = true) ∧ Hid (wr = w1)) (fun v _ => o.size - (intOf v).toNat)
          case atStart => exact ⟨0, Nat.zero_le _, rfl, rfl, rfl⟩
          case round =>
            obtain ⟨k, hk, rfl, hA, hW⟩ := hrel
            have ew := hW.out
            subst ew
            clear hW
            by_cases hlt : k < o.size
            · have hF0 := allB_false (p := hsP) o k hlt
              have hT0 := allB_snoc (p := hsP) o k hlt hA.out
              have hF : Hid (hsP (o[k].toNat : Int) = false → allB hsP o.data.toList = false) := hF0
              have hT : Hid (hsP (o[k].toNat : Int) = true → allB hsP (o.data.toList.take (k + 1)) = true) := hT0
              clear hF0 hT0 hA
              have bd := o[k].toNat_lt
              by_cases h97 : 97 ≤ (o[k].toNat : Int)
              · by_cases h122 : (o[k].toNat : Int) ≤ 122
                · have hR := hT.out (by unfold hsP; simp; omega)
                  go_wp2
                  go_roundw
                  case rel => exact ⟨k + 1, hlt, by go_num, hR, by first | exact rfl | exact True.intro⟩
                  case measure => simp [intOf]; omega
                · have hR := hF.out (by unfold hsP; simp; omega)
                  have hsp : spanP 48 57 (o[k].toNat : Int) = false := by unfold spanP; simp; omega
                  have n45 : ((o[k].toNat : Int) != 45) = true := by simp; omega
                  have n46 : ((o[k].toNat : Int) != 46) = true := by simp; omega
                  go_wp2_with fail
                  refine (D.out _ _).mono ?_
                  rw [hsp]
                  rintro e w2 ⟨rfl, rfl⟩
                  go_wp2
                  go_ret2
                  have kk := HX.out
                  unfold refO at kk
                  rw [if_pos hR] at kk
                  exact ⟨ret2_sb (congrArg Prod.fst kk) (congrArg Prod.snd kk), C1⟩
              · cases hsp : spanP 48 57 (o[k].toNat : Int)
                · by_cases h45 : (o[k].toNat : Int) = 45
                  · have hR := hT.out (by unfold hsP; simp; omega)
                    have n45 : ((o[k].toNat : Int) != 45) = false := by simp; omega
                    clear h45
                    go_wp2_with fail
                    refine (D.out _ _).mono ?_
                    rw [hsp]
                    rintro e w2 ⟨rfl, rfl⟩
                    go_wp2
                    go_roundw
                    case rel => exact ⟨k + 1, hlt, by go_num, hR, by first | exact rfl | exact True.intro⟩
                    case measure => simp [intOf]; omega
                  · by_cases h46 : (o[k].toNat : Int) = 46
                    · have hR := hT.out (by unfold hsP; simp; omega)
                      have n45 : ((o[k].toNat : Int) != 45) = true := by simp; omega
                      have n46 : ((o[k].toNat : Int) != 46) = false := by simp; omega
                      clear h45 h46
                      go_wp2_with fail
                      refine (D.out _ _).mono ?_
                      rw [hsp]
                      rintro e w2 ⟨rfl, rfl⟩
                      go_wp2
                      go_roundw
                      case rel => exact ⟨k + 1, hlt, by go_num, hR, by first | exact rfl | exact True.intro⟩
                      case measure => simp [intOf]; omega
                    · have hR := hF.out (by unfold spanP at hsp; unfold hsP; simp at hsp ⊢; omega)
                      have n45 : ((o[k].toNat : Int) != 45) = true := by simp; omega
                      have n46 : ((o[k].toNat : Int) != 46) = true := by simp; omega
                      clear h45 h46
                      go_wp2_with fail
                      refine (D.out _ _).mono ?_
                      rw [hsp]
                      rintro e w2 ⟨rfl, rfl⟩
                      go_wp2
                      go_ret2
                      have kk := HX.out
                      unfold refO at kk
                      rw [if_pos hR] at kk
                      exact ⟨ret2_sb (congrArg Prod.fst kk) (congrArg Prod.snd kk), C1⟩
                · have hR := hT.out (by unfold spanP at hsp; unfold hsP; simp at hsp ⊢; omega)
                  go_wp2_with fail
                  refine (D.out _ _).mono ?_
                  rw [hsp]
                  rintro e w2 ⟨rfl, rfl⟩
                  go_wp2
                  go_roundw
                  case rel => exact ⟨k + 1, hlt, by go_num, hR, by first | exact rfl | exact True.intro⟩
                  case measure => simp [intOf]; omega
            · have hke : k = o.size := by omega
              subst hke
              have hR : Hid (¬ allB hsP o.data.toList = false) := by
                have q := hA.out
                rw [List.take_of_length_le (show o.data.toList.length ≤ o.size from Nat.le_refl _)] at q
                rw [Hid, q]
                decide
              clear hA
              by_cases h0 : o.size = 0
              · have h0' : (o.size : Int) = 0 := by omega
                go_wp2
                go_ret2
                have kk := HX.out
                unfold refO at kk
                rw [if_neg hR.out, if_pos h0] at kk
                exact ⟨ret2_sb (congrArg Prod.fst kk) (congrArg Prod.snd kk), C1⟩
              · have h0' : ¬ (o.size : Int) = 0 := by omega
                by_cases h6 : 64 < o.size
                · have h6' : (64 : Int) < (o.size : Int) := by omega
                  go_wp2
                  go_ret2
                  have kk := HX.out
                  unfold refO at kk
                  rw [if_neg hR.out, if_neg h0, if_pos h6] at kk
                  exact ⟨ret2_sb (congrArg Prod.fst kk) (congrArg Prod.snd kk), C1⟩
                · have h6' : ¬ (64 : Int) < (o.size : Int) := by omega
                  go_wp2
                  go_ret2
                  have kk := HX.out
                  unfold refO at kk
                  rw [if_neg hR.out, if_neg h0, if_neg h6] at kk
                  exact ⟨ret2_sb (congrArg Prod.fst kk) (congrArg Prod.snd kk), C1⟩
        · have HE := fold_whole (end_miss hi hD.out hd hc)
          rw [HE] at HX
          have c58 : ((s[i].toNat : Int) == 58) = false := by simp; omega
          clear HE hD hc
          go_wp2_with fail
          refine (D.out _ _).mono ?_
          rw [hd]
          rintro e w2 ⟨rfl, rfl⟩
          go_wp2_with fail
          refine (HG.out _).mono ?_
          rintro e w1 ⟨rfl, C1⟩
          have hz := HY.out
          generalize foldS s = o at *
          clear HF HZ HG HY
          go_wp2_with fail
          go_loopw [7] (fun v wr => ∃ k : Nat, k ≤ o.size ∧ v = .int .i64 k ∧ Hid (allB hsP (o.data.toList.take k) = true) ∧ Hid (wr = w1)) (fun v _ => o.size - (intOf v).toNat)
          case atStart => exact ⟨0, Nat.zero_le _, rfl, rfl, rfl⟩
          case round =>
            obtain ⟨k, hk, rfl, hA, hW⟩ := hrel
            have ew := hW.out
            subst ew
            clear hW
            by_cases hlt : k < o.size
            · have hF0 := allB_false (p := hsP) o k hlt
              have hT0 := allB_snoc (p := hsP) o k hlt hA.out
              have hF : Hid (hsP (o[k].toNat : Int) = false → allB hsP o.data.toList = false) := hF0
              have hT : Hid (hsP (o[k].toNat : Int) = true → allB hsP (o.data.toList.take (k + 1)) = true) := hT0
              clear hF0 hT0 hA
              have bd := o[k].toNat_lt
              by_cases h97 : 97 ≤ (o[k].toNat : Int)
              · by_cases h122 : (o[k].toNat : Int) ≤ 122
                · have hR := hT.out (by unfold hsP; simp; omega)
                  go_wp2
                  go_roundw
                  case rel => exact ⟨k + 1, hlt, by go_num, hR, by first | exact rfl | exact True.intro⟩
                  case measure => simp [intOf]; omega
                · have hR := hF.out (by unfold hsP; simp; omega)
                  have hsp : spanP 48 57 (o[k].toNat : Int) = false := by unfold spanP; simp; omega
                  have n45 : ((o[k].toNat : Int) != 45) = true := by simp; omega
                  have n46 : ((o[k].toNat : Int) != 46) = true := by simp; omega
                  go_wp2_with fail
                  refine (D.out _ _).mono ?_
                  rw [hsp]
                  rintro e w2 ⟨rfl, rfl⟩
                  go_wp2
                  go_ret2
                  have kk := HX.out
                  unfold refO at kk
                  rw [if_pos hR] at kk
                  exact ⟨ret2_sb (congrArg Prod.fst kk) (congrArg Prod.snd kk), C1⟩
              · cases hsp : spanP 48 57 (o[k].toNat : Int)
                · by_cases h45 : (o[k].toNat : Int) = 45
                  · have hR := hT.out (by unfold hsP; simp; omega)
                    have n45 : ((o[k].toNat : Int) != 45) = false := by simp; omega
                    clear h45
                    go_wp2_with fail
                    refine (D.out _ _).mono ?_
                    rw [hsp]
                    rintro e w2 ⟨rfl, rfl⟩
                    go_wp2
                    go_roundw
                    case rel => exact ⟨k + 1, hlt, by go_num, hR, by first | exact rfl | exact True.intro⟩
                    case measure => simp [intOf]; omega
                  · by_cases h46 : (o[k].toNat : Int) = 46
                    · have hR := hT.out (by unfold hsP; simp; omega)
                      have n45 : ((o[k].toNat : Int) != 45) = true := by simp; omega
                      have n46 : ((o[k].toNat : Int) != 46) = false := by simp; omega
                      clear h45 h46
                      go_wp2_with fail
                      refine (D.out _ _).mono ?_
                      rw [hsp]
                      rintro e w2 ⟨rfl, rfl⟩
                      go_wp2
                      go_roundw
                      case rel => exact ⟨k + 1, hlt, by go_num, hR, by first | exact rfl | exact True.intro⟩
                      case measure => simp [intOf]; omega
                    · have hR := hF.out (by unfold spanP at hsp; unfold hsP; simp at hsp ⊢; omega)
                      have n45 : ((o[k].toNat : Int) != 45) = true := by simp; omega
                      have n46 : ((o[k].toNat : Int) != 46) = true := by simp; omega
                      clear h45 h46
                      go_wp2_with fail
                      refine (D.out _ _).mono ?_
                      rw [hsp]
                      rintro e w2 ⟨rfl, rfl⟩
                      go_wp2
                      go_ret2
                      have kk := HX.out
                      unfold refO at kk
                      rw [if_pos hR] at kk
                      exact ⟨ret2_sb (congrArg Prod.fst kk) (congrArg Prod.snd kk), C1⟩
                · have hR := hT.out (by unfold spanP at hsp; unfold hsP; simp at hsp ⊢; omega)
                  go_wp2_with fail
                  refine (D.out _ _).mono ?_
                  rw [hsp]
                  rintro e w2 ⟨rfl, rfl⟩
                  go_wp2
                  go_roundw
                  case rel => exact ⟨k + 1, hlt, by go_num, hR, by first | exact rfl | exact True.intro⟩
                  case measure => simp [intOf]; omega
            · have hke : k = o.size := by omega
              subst hke
              have hR : Hid (¬ allB hsP o.data.toList = false) := by
                have q := hA.out
                rw [List.take_of_length_le (show o.data.toList.length ≤ o.size from Nat.le_refl _)] at q
                rw [Hid, q]
                decide
              clear hA
              by_cases h0 : o.size = 0
              · have h0' : (o.size : Int) = 0 := by omega
                go_wp2
                go_ret2
                have kk := HX.out
                unfold refO at kk
                rw [if_neg hR.out, if_pos h0] at kk
                exact ⟨ret2_sb (congrArg Prod.fst kk) (congrArg Prod.snd kk), C1⟩
              · have h0' : ¬ (o.size : Int) = 0 := by omega
                by_cases h6 : 64 < o.size
                · have h6' : (64 : Int) < (o.size : Int) := by omega
                  go_wp2
                  go_ret2
                  have kk := HX.out
                  unfold refO at kk
                  rw [if_neg hR.out, if_neg h0, if_pos h6] at kk
                  exact ⟨ret2_sb (congrArg Prod.fst kk) (congrArg Prod.snd kk), C1⟩
                · have h6' : ¬ (64 : Int) < (o.size : Int) := by omega
                  go_wp2
                  go_ret2
                  have kk := HX.out
                  unfold refO at kk
                  rw [if_neg hR.out, if_neg h0, if_neg h6] at kk
                  exact ⟨ret2_sb (congrArg Prod.fst kk) (congrArg Prod.snd kk), C1⟩
      · have hN : Hid (DigF s i) := digF_pre hD.out hi hd
        go_wp2_with fail
        refine (D.out _ _).mono ?_
        rw [hd]
        rintro e w2 ⟨rfl, rfl⟩
        clear HF HZ HG HY HX D hD
        go_wp2
        go_roundw
        case rel => exact ⟨i, Nat.le_of_lt hi, rfl, hN, by first | exact rfl | exact True.intro⟩
        case measure => simp [intOf]
end Go.Proofs.YtemmmdhmkegaaaaGreatDoor

/- The reference's Split. -/
namespace Go.Proofs.YtemmmdhmkegaaaaGreatDoor
open Go.RowKit
set_option linter.unusedVariables false

set_option maxRecDepth 100000 in
set_option maxHeartbeats 4000000 in
theorem rsplit_any (s : ByteArray) (w : World) (hs : s.size ≤ 4294967281) :
    Calls Tryz.prog 132 #[.string s] w fun e w' => ∃ ao cv, e = .returned (.slice ao (keepT (pieces s)).length cv) ∧ w'.ownsRow w.heap.size 9 1 (.slice ao (keepT (pieces s)).length cv) (keepT (pieces s)).length ((keepT (pieces s)).map Value.string) ∧ Below w.heap.size w w' := by
  obtain ⟨i0, hi, hz0, hz1, hz2⟩ := info_parts info9
  go_enter Tryz.func132, Tryz.ntmps132
  go_wp2_with fail
  go_loopw [3, 4, 5] (fun v vf vi wr => ∃ (k f : Nat) (ps : List ByteArray) (ao : Option Addr) (cv : Nat), k ≤ s.size + 1 ∧ f ≤ k ∧ vi = .int .i64 k ∧ vf = .int .i64 f ∧ v = .slice ao (keepT ps).length cv ∧ (keepT ps).length ≤ k ∧ Hid (wr.ownsRow w.heap.size 9 1 v (keepT ps).length ((keepT ps).map Value.string)) ∧ Hid (k ≤ s.size → Scan s ps f k) ∧ Hid (k = s.size + 1 → ps = pieces s) ∧ Below w.heap.size w wr) (fun _ _ vi _ => s.size + 1 - (intOf vi).toNat)
  case atStart => exact ⟨0, 0, [], some ⟨w.heap.size, 0, none⟩, 0, Nat.zero_le _, Nat.le_refl _, rfl, rfl, rfl, Nat.le_refl _, lit0 w 9, fun _ => Scan.start s, (fun h => by omega), (Below.refl _ _).alloc (Nat.le_refl _) _⟩
  case round =>
    obtain ⟨k, f, ps, ao, cv, hk, hf, rfl, rfl, rfl, hkl, hown, hsc, hfi, hB⟩ := hrel
    by_cases hle : (k : Int) ≤ (s.size : Int)
    · have hex : (s.extract f k).size ≤ 140737488355328 := by rw [ByteArray.size_extract]; omega
      have HEX : Hid ((s.extract f k).size ≤ 140737488355328) := hex
      have hsn : Hid (keepT (ps ++ [s.extract f k]) = keepT ps ++ (if (trimT (s.extract f k)).size = 0 then [] else [trimT (s.extract f k)])) := keepT_snoc _ _
      clear hex
      by_cases hend : k = s.size
      · subst hend
        have HC : Hid (s.size + 1 ≤ s.size → Scan s (ps ++ [s.extract f s.size]) (s.size + 1) (s.size + 1)) := fun h => by omega
        have HF : Hid (ps ++ [s.extract f s.size] = pieces s) := by
          have h := hsc.out (by omega)
          exact h.fin
        go_wp2_with fail
        refine (rtrim_any (s.extract f s.size) _ HEX.out).mono ?_
        rintro e w2 ⟨rfl, hw2⟩
        have B2 : Below wr.heap.size wr w2 := by rw [hw2]; exact Below.refl _ _
        clear hw2
        have hown2 : Hid (w2.ownsRow w.heap.size 9 1 (.slice ao (keepT ps).length cv) (keepT ps).length ((keepT ps).map Value.string)) := owns_below hown.out B2
        have hB2 := hB.trans (B2.mono hB.size)
        clear hown B2 HEX hsc hfi
        generalize ps ++ [s.extract f s.size] = ps2 at *
        generalize trimT (s.extract f s.size) = x at *
        by_cases hz : x.size = 0
        · have hsn2 : Hid (keepT ps2 = keepT ps) := by rw [Hid, hsn.out, if_pos hz, List.append_nil]
          have he := empty_t hz
          clear hsn
          subst he
          go_wp2
          go_roundw
          case rel => exact ⟨s.size + 1, s.size + 1, ps2, ao, cv, by omega, by omega, by go_num, by go_num, by rw [hsn2.out], by rw [hsn2.out]; omega, by rw [hsn2.out]; exact hown2, HC, (fun _ => HF.out), hB2⟩
          case measure => simp [intOf]
        · have hsn2 : Hid (keepT ps2 = keepT ps ++ [x]) := by rw [Hid, hsn.out, if_neg hz]
          have hne := isEmpty_t hz
          clear hsn hz
          generalize keepT ps = K at *
          go_wp2_with (first
            | (at_builtin; refine wpList_append_own _ rfl _ _ 141 rfl w.heap.size 9 i0 (.string ByteArray.empty) 1 16 Tryz.underlying141 hi hz0 hz1 hz2 rfl (by decide) _ _ _ rfl (hown2.out.alloc _) ⟨w2.heap.size, 0, none⟩ 1 1 [.string x] rfl rfl (cell_one_new _ _ _) (fun x hx => by simp at hx; subst hx; rfl) (by unfold maxLen; omega) (by omega) (by have := hB2.size; simp; omega) ?_; intro v' w3 hown' hgrow3 hnil3))
          go_roundw
          case rel =>
            obtain ⟨g3, cap3, hv3⟩ : ∃ g3 cap3, v' = .slice (some ⟨g3, 0, none⟩) (K.length + 1) cap3 := by
              rcases hown'.2 with ⟨_, h⟩ | ⟨g3, cap3, _, h, _⟩
              · omega
              · exact ⟨g3, cap3, h⟩
            have hb3 : Below w.heap.size w2 w3 := ((Below.refl _ _).alloc hB2.size _).grown hgrow3 (by have := hB2.size; simp; omega) (fun q hq => (hown2.out.lt q hq).1)
            exact ⟨s.size + 1, s.size + 1, ps2, some ⟨g3, 0, none⟩, cap3, by omega, by omega, by go_num, by go_num, by rw [hv3, hsn2.out, List.length_append]; rfl, by rw [hsn2.out, List.length_append]; show _ + 1 ≤ _; omega, by rw [hsn2.out, List.map_append, List.length_append]; exact hown', HC, (fun _ => HF.out), hB2.trans hb3⟩
          case measure => simp [intOf]
      · have hlt : k < s.size := by omega
        have hbe : ((k : Int) == (s.size : Int)) = false := beq_eq_false_iff_ne.2 (by omega)
        by_cases hc : (s[k].toNat : Int) = 44
        · have hc2 : s[k] = 44 := UInt8.toNat_inj.1 (show s[k].toNat = 44 by omega)
          have HC : Hid (k + 1 ≤ s.size → Scan s (ps ++ [s.extract f k]) (k + 1) (k + 1)) := fun _ => (hsc.out (by omega)).cut hlt hc2
          have HF : Hid (k + 1 = s.size + 1 → ps ++ [s.extract f k] = pieces s) := fun h => by omega
          clear hc2
          go_wp2_with fail
          refine (rtrim_any (s.extract f k) _ HEX.out).mono ?_
          rintro e w2 ⟨rfl, hw2⟩
          have B2 : Below wr.heap.size wr w2 := by rw [hw2]; exact Below.refl _ _
          clear hw2
          have hown2 : Hid (w2.ownsRow w.heap.size 9 1 (.slice ao (keepT ps).length cv) (keepT ps).length ((keepT ps).map Value.string)) := owns_below hown.out B2
          have hB2 := hB.trans (B2.mono hB.size)
          clear hown B2 HEX hsc hfi
          generalize ps ++ [s.extract f k] = ps2 at *
          generalize trimT (s.extract f k) = x at *
          by_cases hz : x.size = 0
          · have hsn2 : Hid (keepT ps2 = keepT ps) := by rw [Hid, hsn.out, if_pos hz, List.append_nil]
            have he := empty_t hz
            clear hsn
            subst he
            go_wp2
            go_roundw
            case rel => exact ⟨k + 1, k + 1, ps2, ao, cv, by omega, by omega, by go_num, by go_num, by rw [hsn2.out], by rw [hsn2.out]; omega, by rw [hsn2.out]; exact hown2, HC, HF, hB2⟩
            case measure => simp [intOf]; omega
          · have hsn2 : Hid (keepT ps2 = keepT ps ++ [x]) := by rw [Hid, hsn.out, if_neg hz]
            have hne := isEmpty_t hz
            clear hsn hz
            generalize keepT ps = K at *
            go_wp2_with (first
              | (at_builtin; refine wpList_append_own _ rfl _ _ 141 rfl w.heap.size 9 i0 (.string ByteArray.empty) 1 16 Tryz.underlying141 hi hz0 hz1 hz2 rfl (by decide) _ _ _ rfl (hown2.out.alloc _) ⟨w2.heap.size, 0, none⟩ 1 1 [.string x] rfl rfl (cell_one_new _ _ _) (fun x hx => by simp at hx; subst hx; rfl) (by unfold maxLen; omega) (by omega) (by have := hB2.size; simp; omega) ?_; intro v' w3 hown' hgrow3 hnil3))
            go_roundw
            case rel =>
              obtain ⟨g3, cap3, hv3⟩ : ∃ g3 cap3, v' = .slice (some ⟨g3, 0, none⟩) (K.length + 1) cap3 := by
                rcases hown'.2 with ⟨_, h⟩ | ⟨g3, cap3, _, h, _⟩
                · omega
                · exact ⟨g3, cap3, h⟩
              have hb3 : Below w.heap.size w2 w3 := ((Below.refl _ _).alloc hB2.size _).grown hgrow3 (by have := hB2.size; simp; omega) (fun q hq => (hown2.out.lt q hq).1)
              exact ⟨k + 1, k + 1, ps2, some ⟨g3, 0, none⟩, cap3, by omega, by omega, by go_num, by go_num, by rw [hv3, hsn2.out, List.length_append]; rfl, by rw [hsn2.out, List.length_append]; show _ + 1 ≤ _; omega, by rw [hsn2.out, List.map_append, List.length_append]; exact hown', HC, HF, hB2.trans hb3⟩
            case measure => simp [intOf]; omega
        · have hc2 : s[k] ≠ 44 := fun e => hc (by rw [e]; rfl)
          have hcb : ((s[k].toNat : Int) == 44) = false := beq_eq_false_iff_ne.2 hc
          have HC : Hid (k + 1 ≤ s.size → Scan s ps f (k + 1)) := fun _ => (hsc.out (by omega)).go hlt hc2
          clear hc2
          go_wp2
          go_roundw
          case rel => exact ⟨k + 1, f, ps, ao, cv, by omega, by omega, by go_num, rfl, rfl, by omega, hown, HC, (fun h => by omega), hB⟩
          case measure => simp [intOf]; omega
    · have hke : k = s.size + 1 := by omega
      have HP := hfi.out hke
      subst HP
      go_wp2
      go_ret
      exact ⟨ao, cv, rfl, hown.out, hB⟩
end Go.Proofs.YtemmmdhmkegaaaaGreatDoor

/- The reference's Get, List and Has: what each answers of fields. -/
namespace Go.Proofs.YtemmmdhmkegaaaaGreatDoor
open Go.ChangeShapes Go.WideShapes Go.ChangeAt Go.RowKit
set_option linter.unusedVariables false

theorem rsame_any (a b : ByteArray) (w : World) (ha : a.size ≤ 4294967281) (hb : b.size ≤ 4294967281) :
    Calls Tryz.prog 97 #[.string a, .string b] w fun e w' => e = .returned (.bool (smT a b)) ∧ Below w.heap.size w w' := by
  unfold smT
  go_enter Tryz.func97, Tryz.ntmps97
  go_wp2_with fail
  refine (rfold_any a _ ha).mono ?_
  rintro e w1 ⟨rfl, B1⟩
  go_wp2_with fail
  refine (rfold_any b _ hb).mono ?_
  rintro e w2 ⟨rfl, B2⟩
  go_wp2
  go_ret
  exact ⟨rfl, B1.trans (B2.mono B1.size)⟩

set_option maxRecDepth 100000 in
set_option maxHeartbeats 1000000 in
theorem rget_any (fs : Fs) (a : Option Addr) (c : Nat) (name : ByteArray) (w : World) (hf : Fds w.heap.size w (.slice a fs.length c) fs) (hb : FBd 1048576 fs) (hn : name.size ≤ 1048576) (hl : fs.length ≤ 1024) :
    Calls Tryz.prog 89 #[.slice a fs.length c, .string name] w fun e w' => ∃ ao cv, e = .returned (.slice ao (getF fs name).length cv) ∧ OwnT w.heap.size w' (.slice ao (getF fs name).length cv) (getF fs name) ∧ Below w.heap.size w w' := by
  have C0 : Below w.heap.size w (w.alloc (.cells #[] 9)) := (Below.refl _ _).alloc (Nat.le_refl _) _
  have HN : Hid (name.size ≤ 4294967281) := by rw [Hid]; omega
  rcases Nat.eq_zero_or_pos fs.length with h0 | hp
  · have he : fs = [] := List.eq_nil_of_length_eq_zero h0
    subst he
    clear hf hb hn hl h0 HN
    go_enter Tryz.func89, Tryz.ntmps89
    go_wp2_with fail
    refine wp_loop_rounds 1 ?_
    rw [rounds_succ]
    go_wp2
    go_ret
    exact ⟨_, 0, rfl, OwnT.empty _ _ (Nat.le_refl _), C0⟩
  · obtain ⟨a', c', e, hnil, h1, h2, h3⟩ := hf
    obtain ⟨rfl, _, rfl⟩ := slice_inj e
    obtain ⟨g, off, rfl, hg, hc⟩ := h3 hp
    have HC : Hid (∀ (j : Nat) (hj : j < fs.length), w.cell? ⟨g, off + j * 2, none⟩ = some (.string fs[j].1) ∧ w.cell? ⟨g, off + j * 2 + 1, none⟩ = some (.string fs[j].2)) := hc
    have HBD : Hid (FBd 1048576 fs) := hb
    clear e hnil h1 h2 h3 hn hc hb
    go_enter Tryz.func89, Tryz.ntmps89
    go_wp2_with fail
    go_loopw [5, 6] (fun v vi wr => ∃ (k : Nat) (ao : Option Addr) (cv : Nat), k ≤ fs.length ∧ vi = .int .i64 k ∧ v = .slice ao (getF (fs.take k) name).length cv ∧ OwnT w.heap.size wr v (getF (fs.take k) name) ∧ Below w.heap.size w wr) (fun _ vi _ => fs.length - (intOf vi).toNat)
    case atStart => exact ⟨0, _, 0, Nat.zero_le _, rfl, rfl, OwnT.empty _ _ (Nat.le_refl _), C0⟩
    case round =>
      obtain ⟨k, ao, cv, hk, rfl, rfl, hown, hB⟩ := hrel
      clear C0
      by_cases hlt : k < fs.length
      · have hc1 := (hB.cell (p := ⟨g, off + k * 2, none⟩) hg).trans (HC.out k hlt).1
        have hsz := HBD.out fs[k] (List.getElem_mem hlt)
        have hsn : Hid (getF (fs.take (k + 1)) name = getF (fs.take k) name ++ (if smT fs[k].1 name = true then [fs[k].2] else [])) := by
          rw [Hid, List.take_succ_eq_append_getElem hlt, getF_snoc]
        have hkl : (getF (fs.take k) name).length ≤ k := Nat.le_trans (getF_len _ _) (List.length_take_le _ _)
        have hc2 : Hid (w.cell? ⟨g, off + k * 2 + 1, none⟩ = some (.string fs[k].2)) := (HC.out k hlt).2
        generalize fs[k] = f at *
        obtain ⟨fn, fv⟩ := f
        simp only at hc1 hc2 hsz hsn
        have hs1 : Hid (fn.size ≤ 4294967281) := by rw [Hid]; omega
        have HS : Hid (∀ W, Calls Tryz.prog 97 #[.string fn, .string name] W fun e w' => e = .returned (.bool (smT fn name)) ∧ Below W.heap.size W w') := fun W => rsame_any fn name W hs1.out HN.out
        generalize smT fn name = b at *
        have HO : Hid (OwnT w.heap.size wr (.slice ao (getF (fs.take k) name).length cv) (getF (fs.take k) name)) := hown
        have HKL : Hid ((getF (fs.take k) name).length ≤ 16777216) := by rw [Hid]; omega
        clear hsz hown hkl
        generalize getF (fs.take k) name = K at *
        go_wp2_with fail
        refine (HS.out _).mono ?_
        rintro e w2 ⟨rfl, B2⟩
        have own2 := HO.out.keep B2
        have hB2 := hB.trans (B2.mono hB.size)
        have c1 := (hB2.cell (p := ⟨g, off + k * 2 + 1, none⟩) hg).trans hc2.out
        clear B2 hB HO hc1 hc2 HS
        cases b
        · have hsn2 : Hid (getF (fs.take (k + 1)) name = K) := by rw [Hid, hsn.out, if_neg (by decide), List.append_nil]
          clear hsn c1
          go_wp2
          go_roundw
          case rel => exact ⟨k + 1, ao, cv, by omega, by go_num, by rw [hsn2.out], by rw [hsn2.out]; exact own2, hB2⟩
          case measure => simp [intOf]; omega
        · have hsn2 : Hid (getF (fs.take (k + 1)) name = K ++ [fv]) := by rw [Hid, hsn.out, if_pos rfl]
          clear hsn
          have own3 := own2.keep ((Below.refl _ _).alloc (Nat.le_refl _) (.cells #[.string fv] 9))
          obtain ⟨v4, w4, r4, own4, B4⟩ := ownT_append own3 (one_txs w2 fv _ (Nat.lt_succ_self _)) (by have := HKL.out; simp; omega) (by have := hB2.size; simp; omega)
          have hB4 : Below w.heap.size w w4 := (hB2.alloc hB2.size _).trans B4
          obtain ⟨a4, c4, rfl, _⟩ := own4.form
          have HO4 : Hid (OwnT w.heap.size w4 (.slice a4 (K ++ [fv]).length c4) (K ++ [fv])) := own4
          have HR : Hid ((Builtin.append_ #[141, 141] 141 #[.slice ao K.length cv, .slice (some ⟨w2.heap.size, 0, none⟩) 1 1]).run Tryz.prog (w2.alloc (.cells #[.string fv] 9)) = .ok (.slice a4 (K ++ [fv]).length c4) w4) := r4
          clear own2 own3 own4 B4 hB2 r4
          have HL : Hid ((K ++ [fv]).length = (getF (fs.take (k + 1)) name).length) := by rw [Hid, hsn2.out]
          generalize (K ++ [fv]).length = L at *
          go_wp2_with (at_builtin; refine wpList_append_run2 rfl _ _ 141 141 rfl _ _ _ w4 rfl rfl HR.out ?_)
          go_roundw
          case rel => exact ⟨k + 1, a4, c4, by omega, by go_num, by rw [HL.out], by rw [hsn2.out]; exact HO4.out, hB4⟩
          case measure => simp [intOf]; omega
      · go_wp2
        go_ret
        have hk' : k = fs.length := by omega
        subst hk'
        rw [List.take_length] at *
        exact ⟨ao, cv, rfl, hown, hB⟩

theorem app_take (K X : List ByteArray) (j : Nat) (h : j < X.length) : K ++ X.take (j + 1) = (K ++ X.take j) ++ [X[j]] := by
  rw [List.take_succ_eq_append_getElem h, List.append_assoc]
theorem ownT_one {B : Nat} {w : World} {v : Value} {X : List ByteArray} (x : ByteArray) (h : OwnT B w v X) (hmax : X.length + 1 ≤ 4294967296) (hB : B ≤ w.heap.size) :
    ∃ g' c' w', (Builtin.append_ #[141, 141] 141 #[v, .slice (some ⟨w.heap.size, 0, none⟩) 1 1]).run Tryz.prog (w.alloc (.cells #[.string x] 9)) = .ok (.slice (some ⟨g', 0, none⟩) (X ++ [x]).length c') w' ∧
      OwnT B w' (.slice (some ⟨g', 0, none⟩) (X ++ [x]).length c') (X ++ [x]) ∧ Below B w w' ∧ (∀ k, k < w.heap.size → v.ownBlock ≠ some k → w'.heap[k]? = w.heap[k]?) ∧ w.heap.size ≤ w'.heap.size ∧ (v.ownBlock = some g' ∨ w.heap.size < g') := by
  obtain ⟨i, hi, hz0, hz1, hz2⟩ := info_parts info9
  obtain ⟨v', w', hr, q1, q2, q3, q4⟩ := run_append_own_at (P := Tryz.prog) (w.alloc (.cells #[.string x] 9)) B 141 141 9 i (.string ByteArray.empty) 1 16 Tryz.underlying141 hi hz0 hz1 hz2 rfl (by decide) v X.length (X.map Value.string) (h.alloc _) ⟨w.heap.size, 0, none⟩ 1 1 [.string x] rfl
    (fun j u hj => by
      have : j = 0 := by have := (List.getElem?_eq_some_iff.1 hj).1; simpa using this
      subst this
      have : u = .string x := by simpa using hj.symm
      subst this
      rw [addr_add]
      exact tblk_cell (tblk_new _ _) rfl) (rowT_one [x]) (by unfold maxLen; omega) (by omega) (by simp; omega)
  have hq : w'.ownsRow B 9 1 v' (X ++ [x]).length ((X ++ [x]).map Value.string) := by rw [List.length_append, List.map_append]; exact q1
  have hfr : ∀ k, k < w.heap.size → v.ownBlock ≠ some k → w'.heap[k]? = w.heap[k]? := fun k hk hn =>
    (q2.block k (by simp; omega) (fun e => hn e.symm)).trans (Below.heap_alloc _ _ _ hk)
  rcases hq.2 with ⟨_, hz⟩ | ⟨g', c', cur, hv, _⟩
  · rw [List.length_append] at hz
    have : ([x] : List ByteArray).length = 1 := rfl
    omega
  · subst hv
    refine ⟨g', c', w', hr, hq, ((Below.refl _ _).alloc hB _).grown q2 (by simp; omega) (fun q hq => (h.lt q hq).1), hfr, by have := q2.size; simp at this; omega, ?_⟩
    rcases q4 with q4 | q4
    · exact .inl (q4.symm.trans rfl)
    · have : g' = w.heap.size + 1 := by simpa [Value.ownBlock] using q4
      exact .inr (by omega)

set_option maxRecDepth 100000 in
set_option maxHeartbeats 2000000 in
theorem rlist_any (fs : Fs) (a : Option Addr) (c : Nat) (name : ByteArray) (w : World) (hf : Fds w.heap.size w (.slice a fs.length c) fs) (hb : FBd 1048576 fs) (hn : name.size ≤ 1048576) (hl : fs.length ≤ 1024) :
    Calls Tryz.prog 96 #[.slice a fs.length c, .string name] w fun e w' => ∃ ao cv, e = .returned (.slice ao (listF fs name).length cv) ∧ OwnT w.heap.size w' (.slice ao (listF fs name).length cv) (listF fs name) ∧ Below w.heap.size w w' := by
  have C0 : Below w.heap.size w (w.alloc (.cells #[] 9)) := (Below.refl _ _).alloc (Nat.le_refl _) _
  have HG : Hid (Calls Tryz.prog 89 #[.slice a fs.length c, .string name] (w.alloc (.cells #[] 9)) fun e w' => ∃ ao cv, e = .returned (.slice ao (getF fs name).length cv) ∧ OwnT (w.alloc (.cells #[] 9)).heap.size w' (.slice ao (getF fs name).length cv) (getF fs name) ∧ Below (w.alloc (.cells #[] 9)).heap.size (w.alloc (.cells #[] 9)) w') := rget_any fs a c name _ ((hf.keep C0).mono C0.size) hb hn hl
  have HT : Hid ((splA (getF fs name)).length ≤ 1024 * 1048578) := listF_len hb hl
  have HV : Hid (TBd 1048576 (getF fs name)) := getF_bd hb
  have HVL : Hid ((getF fs name).length ≤ 1024) := Nat.le_trans (getF_len _ _) hl
  have e0 : listF fs name = splA (getF fs name) := rfl
  rw [e0]
  clear e0 hf hb hn hl
  generalize getF fs name = vs at *
  go_enter Tryz.func96, Tryz.ntmps96
  go_wp2_with fail
  refine HG.out.mono ?_
  rintro e w1 ⟨ao1, cv1, rfl, own1, B1⟩
  have E1 : OwnT w.heap.size w1 (.slice (some ⟨w.heap.size, 0, none⟩) 0 0) [] := (OwnT.empty w.heap.size w (Nat.le_refl _)).keep B1
  have D1 : Below w.heap.size w w1 := C0.trans (B1.mono C0.size)
  clear HG
  rcases Nat.eq_zero_or_pos vs.length with h0 | hp
  · have he : vs = [] := List.eq_nil_of_length_eq_zero h0
    subst he
    clear h0 own1 C0 B1
    go_wp2_with fail
    refine wp_loop_rounds 1 ?_
    rw [rounds_succ]
    go_wp2
    go_ret
    exact ⟨_, 0, rfl, E1, D1⟩
  · obtain ⟨g, hg0, hg, hao, hcells⟩ : ∃ g : Nat, w.heap.size < g ∧ g < w1.heap.size ∧ ao1 = some ⟨g, 0, none⟩ ∧ ∀ (j : Nat) (hj : j < vs.length), w1.cell? ⟨g, j, none⟩ = some (.string vs[j]) := by
      have T := own1.txs
      rcases own1.2 with ⟨_, hz⟩ | ⟨g', c', cur, hv, hb, hg, _⟩
      · omega
      · obtain ⟨e1, _, _⟩ := slice_inj hv
        refine ⟨g', by simp at hb; omega, heap_lt hg, e1, fun j hj => ?_⟩
        obtain ⟨a', c', e, _, _, _, h3⟩ := T
        obtain ⟨e2, _, _⟩ := slice_inj e
        obtain ⟨g2, off, e3, _, hc⟩ := h3 hp
        rw [e1] at e2
        rw [← e2] at e3
        injection e3 with e3
        injection e3 with e4 e5
        have k := hc j hj
        rw [← e4, ← e5, Nat.zero_add] at k
        exact k
    subst hao
    have HC1 : Hid (∀ (j : Nat) (hj : j < vs.length), w1.cell? ⟨g, j, none⟩ = some (.string vs[j])) := hcells
    have HE1 : Hid (OwnT w.heap.size w1 (.slice (some ⟨w.heap.size, 0, none⟩) 0 0) []) := E1
    clear hcells own1 C0 B1 E1
    have hvl := HVL.out
    go_wp2_with fail
    go_loopw [5, 7] (fun v vi wr => ∃ (k gO cv : Nat), k ≤ vs.length ∧ vi = .int .i64 k ∧ v = .slice (some ⟨gO, 0, none⟩) (splA (vs.take k)).length cv ∧ Hid (OwnT w.heap.size wr (.slice (some ⟨gO, 0, none⟩) (splA (vs.take k)).length cv) (splA (vs.take k))) ∧ Hid (gO ≠ g) ∧ Hid (∀ (j : Nat) (hj : j < vs.length), wr.cell? ⟨g, j, none⟩ = some (.string vs[j])) ∧ g < wr.heap.size ∧ Below w.heap.size w wr) (fun _ vi _ => vs.length - (intOf vi).toNat)
    case atStart => exact ⟨0, w.heap.size, 0, Nat.zero_le _, rfl, rfl, HE1, by rw [Hid]; omega, HC1, hg, D1⟩
    case round =>
      obtain ⟨k, gO, cv, hk, rfl, rfl, hown, hne, hcs, hgr, hB⟩ := hrel
      clear HC1 HE1 D1 hg
      by_cases hlt : k < vs.length
      · have hc1 := hcs.out k hlt
        have hsz : Hid (vs[k].size ≤ 1048576) := HV.out vs[k] (List.getElem_mem hlt)
        have hsn : Hid (splA (vs.take (k + 1)) = splA (vs.take k) ++ splT vs[k]) := by
          rw [Hid, List.take_succ_eq_append_getElem hlt, splA_snoc]
        have hkl : Hid ((splA (vs.take (k + 1))).length ≤ 1024 * 1048578) := Nat.le_trans (splA_take vs (k + 1)) HT.out
        generalize vs[k] = x at *
        generalize splA (vs.take k) = K at *
        go_wp2_with fail
        refine (rsplit_any x _ (by have := hsz.out; omega)).mono ?_
        rintro e w2 ⟨ao2, cv2, rfl, own2, B2⟩
        have own2' : OwnT wr.heap.size w2 (.slice ao2 (splT x).length cv2) (splT x) := own2
        have ownK : Hid (OwnT w.heap.size w2 (.slice (some ⟨gO, 0, none⟩) K.length cv) K) := hown.out.keep B2
        have hB2 := hB.trans (B2.mono hB.size)
        have hcs2 : Hid (∀ (j : Nat) (hj : j < vs.length), w2.cell? ⟨g, j, none⟩ = some (.string vs[j])) := fun j hj => (B2.cell (p := ⟨g, j, none⟩) hgr).trans (hcs.out j hj)
        have hgO : gO < wr.heap.size := (hown.out.lt gO rfl).2
        have hg2 : g < w2.heap.size := Nat.lt_of_lt_of_le hgr B2.size
        have eX : Hid (splT x = keepT (pieces x)) := rfl
        clear own2 hB hcs hc1 hown
        have hLX : Hid ((K ++ splT x).length ≤ 1024 * 1048578) := by rw [Hid, ← hsn.out]; exact hkl.out
        have HSZ2 : Hid (wr.heap.size ≤ w2.heap.size) := B2.size
        clear B2 hkl
        rw [← eX.out]
        generalize splT x = X at *
        rcases Nat.eq_zero_or_pos X.length with h0 | hpx
        · have he : X = [] := List.eq_nil_of_length_eq_zero h0
          have hsn2 : Hid (splA (vs.take (k + 1)) = K) := by rw [Hid, hsn.out, he, List.append_nil]
          clear hsn eX own2'
          subst he
          clear h0 hLX
          go_wp2_with fail
          refine wp_loop_rounds 1 ?_
          rw [rounds_succ]
          go_wp2
          go_roundw
          case rel => exact ⟨k + 1, gO, cv, by omega, by go_num, by rw [hsn2.out], by rw [hsn2.out]; exact ownK, hne, hcs2, hg2, hB2⟩
          case measure => simp [intOf]; omega
        · obtain ⟨gX, hgX0, hgX, hao, hcells⟩ : ∃ gX : Nat, wr.heap.size ≤ gX ∧ gX < w2.heap.size ∧ ao2 = some ⟨gX, 0, none⟩ ∧ ∀ (j : Nat) (hj : j < X.length), w2.cell? ⟨gX, j, none⟩ = some (.string X[j]) := by
            have T := own2'.txs
            rcases own2'.2 with ⟨_, hz⟩ | ⟨g', c', cur, hv, hb, hg, _⟩
            · omega
            · obtain ⟨e1, _, _⟩ := slice_inj hv
              refine ⟨g', hb, heap_lt hg, e1, fun j hj => ?_⟩
              obtain ⟨a', c', e, _, _, _, h3⟩ := T
              obtain ⟨e2, _, _⟩ := slice_inj e
              obtain ⟨g2, off, e3, _, hc⟩ := h3 hpx
              rw [e1] at e2
              rw [← e2] at e3
              injection e3 with e3
              injection e3 with e4 e5
              have k := hc j hj
              rw [← e4, ← e5, Nat.zero_add] at k
              exact k
          subst hao
          have HCX : Hid (∀ (j : Nat) (hj : j < X.length), w2.cell? ⟨gX, j, none⟩ = some (.string X[j])) := hcells
          have hnX : Hid (gO ≠ gX) := by rw [Hid]; omega
          have hXl : X.length ≤ 1073743872 := by have := hLX.out; rw [List.length_append] at this; omega
          have HFl : Hid (K ++ X = splA (vs.take (k + 1))) := hsn.out.symm
          clear hcells own2' hgX0 hgO HSZ2 eX hsn
          go_wp2_with fail
          go_loopw [5, 9] (fun v vj wi => ∃ (j gP cp : Nat), j ≤ X.length ∧ vj = .int .i64 j ∧ v = .slice (some ⟨gP, 0, none⟩) (K ++ X.take j).length cp ∧ Hid (OwnT w.heap.size wi (.slice (some ⟨gP, 0, none⟩) (K ++ X.take j).length cp) (K ++ X.take j)) ∧ Hid (gP ≠ g) ∧ Hid (gP ≠ gX) ∧ Hid (∀ (j : Nat) (hj : j < vs.length), wi.cell? ⟨g, j, none⟩ = some (.string vs[j])) ∧ Hid (∀ (j : Nat) (hj : j < X.length), wi.cell? ⟨gX, j, none⟩ = some (.string X[j])) ∧ g < wi.heap.size ∧ gX < wi.heap.size ∧ Below w.heap.size w wi) (fun _ vj _ => X.length - (intOf vj).toNat)
          case atStart => exact ⟨0, gO, cv, Nat.zero_le _, rfl, by simp, by simpa using ownK, hne, hnX, hcs2, HCX, hg2, hgX, hB2⟩
          case round =>
            obtain ⟨j, gP, cp, hj, rfl, rfl, hoP, hn1, hn2, hc1, hc2, hl1, hl2, hBi⟩ := hrel
            by_cases hjt : j < X.length
            · have hcx := hc2.out j hjt
              have hap : Hid (K ++ X.take (j + 1) = (K ++ X.take j) ++ [X[j]]) := app_take K X j hjt
              have hlen : Hid ((K ++ X.take j).length + 1 ≤ 4294967296) := by
                have := hLX.out
                rw [Hid, List.length_append, List.length_take]
                rw [List.length_append] at this
                omega
              generalize X[j] = y at *
              generalize K ++ X.take j = R at *
              obtain ⟨g', c', w', hr, own', B', hfr, hsz', hwh⟩ := ownT_one y hoP.out hlen.out hBi.size
              have HO : Hid (OwnT w.heap.size w' (.slice (some ⟨g', 0, none⟩) (K ++ X.take (j + 1)).length c') (K ++ X.take (j + 1))) := by rw [Hid, hap.out]; exact own'
              have m1 : Hid (g' ≠ g) := by
                rw [Hid]
                rcases hwh with q | q
                · have : gP = g' := by simpa [Value.ownBlock] using q
                  rw [← this]; exact hn1.out
                · omega
              have m2 : Hid (g' ≠ gX) := by
                rw [Hid]
                rcases hwh with q | q
                · have : gP = g' := by simpa [Value.ownBlock] using q
                  rw [← this]; exact hn2.out
                · omega
              have k1 : Hid (∀ (j : Nat) (hj : j < vs.length), w'.cell? ⟨g, j, none⟩ = some (.string vs[j])) := fun i hi =>
                (World.cell?_of_block (a := ⟨g, i, none⟩) (hfr g hl1 (by simpa [Value.ownBlock] using hn1.out))).trans (hc1.out i hi)
              have k2 : Hid (∀ (j : Nat) (hj : j < X.length), w'.cell? ⟨gX, j, none⟩ = some (.string X[j])) := fun i hi =>
                (World.cell?_of_block (a := ⟨gX, i, none⟩) (hfr gX hl2 (by simpa [Value.ownBlock] using hn2.out))).trans (hc2.out i hi)
              have D' : Below w.heap.size w w' := hBi.trans B'
              have HR : Hid _ := hr
              have HL : Hid ((R ++ [y]).length = (K ++ X.take (j + 1)).length) := by rw [Hid, hap.out]
              have hs1 : g < w'.heap.size := by omega
              have hs2 : gX < w'.heap.size := by omega
              clear hr own' B' hfr hwh hsz' hc1 hc2 hn1 hn2 hBi hoP
              generalize (R ++ [y]).length = L at *
              go_wp2_with (at_builtin; refine wpList_append_run2 rfl _ _ 141 141 rfl _ _ _ w' rfl rfl HR.out ?_)
              go_roundw
              case rel => exact ⟨j + 1, g', c', by omega, by go_num, by rw [HL.out], HO, m1, m2, k1, k2, hs1, hs2, D'⟩
              case measure => simp [intOf]; omega
            · have hj' : j = X.length := by omega
              subst hj'
              rw [List.take_length, HFl.out] at *
              go_wp2
              go_roundw
              case rel => exact ⟨k + 1, gP, cp, by omega, by go_num, rfl, hoP, hn1, hc1, hl1, hBi⟩
              case measure => simp [intOf]; omega
      · go_wp2
        go_ret
        have hk' : k = vs.length := by omega
        subst hk'
        rw [List.take_length] at *
        exact ⟨_, cv, rfl, hown.out, hB⟩

set_option maxRecDepth 100000 in
set_option maxHeartbeats 1000000 in
theorem rhas_any (fs : Fs) (a : Option Addr) (c : Nat) (name part : ByteArray) (w : World) (hf : Fds w.heap.size w (.slice a fs.length c) fs) (hb : FBd 1048576 fs) (hn : name.size ≤ 1048576) (hq : part.size ≤ 1048576) (hl : fs.length ≤ 1024) :
    Calls Tryz.prog 72 #[.slice a fs.length c, .string name, .string part] w fun e w' => e = .returned (.bool (hasF fs name part)) ∧ Below w.heap.size w w' := by
  have HL : Hid (Calls Tryz.prog 96 #[.slice a fs.length c, .string name] w fun e w' => ∃ ao cv, e = .returned (.slice ao (listF fs name).length cv) ∧ OwnT w.heap.size w' (.slice ao (listF fs name).length cv) (listF fs name) ∧ Below w.heap.size w w') := rlist_any fs a c name w hf hb hn hl
  have HBD : Hid (TBd 1048576 (listF fs name)) := listF_bd hb
  have HLN : Hid ((listF fs name).length ≤ 1024 * 1048578) := listF_len hb hl
  have HS : Hid (part.size ≤ 4294967281) := by rw [Hid]; omega
  unfold hasF
  clear hf hb hn hq hl
  generalize listF fs name = xs at *
  have hln := HLN.out
  go_enter Tryz.func72, Tryz.ntmps72
  go_wp2_with fail
  refine HL.out.mono ?_
  rintro e w1 ⟨ao, cv, rfl, own1, B1⟩
  have T1 := own1.txs
  clear HL own1
  rcases Nat.eq_zero_or_pos xs.length with h0 | hp
  · have he : xs = [] := List.eq_nil_of_length_eq_zero h0
    subst he
    clear T1 h0 hln
    go_wp2_with fail
    refine wp_loop_rounds 1 ?_
    rw [rounds_succ]
    go_wp2
    go_ret
    exact ⟨rfl, B1⟩
  · obtain ⟨a', c', e, hnil, q1, q2, q3⟩ := T1
    obtain ⟨rfl, _, rfl⟩ := slice_inj e
    obtain ⟨g, off, rfl, hg, hc⟩ := q3 hp
    have HC : Hid (∀ (j : Nat) (hj : j < xs.length), w1.cell? ⟨g, off + j, none⟩ = some (.string xs[j])) := hc
    clear e hnil q1 q2 q3 hc
    go_wp2_with fail
    go_loopw [8] (fun vi wr => ∃ k : Nat, k ≤ xs.length ∧ vi = .int .i64 k ∧ Hid (anyT (xs.take k) part = false) ∧ Below w1.heap.size w1 wr) (fun vi _ => xs.length - (intOf vi).toNat)
    case atStart => exact ⟨0, Nat.zero_le _, rfl, rfl, Below.refl _ _⟩
    case round =>
      obtain ⟨k, hk, rfl, hA, hB⟩ := hrel
      by_cases hlt : k < xs.length
      · have hc1 := (hB.cell (p := ⟨g, off + k, none⟩) hg).trans (HC.out k hlt)
        have hsz := HBD.out xs[k] (List.getElem_mem hlt)
        have HA : Hid (∀ W, Calls Tryz.prog 97 #[.string xs[k], .string part] W fun e w' => e = .returned (.bool (smT xs[k] part)) ∧ Below W.heap.size W w') := fun W => rsame_any _ part W (by omega) HS.out
        have hY : Hid (smT xs[k] part = true → anyT xs part = true) := fun q => anyT_at k hlt q
        have hN : Hid (smT xs[k] part = false → anyT (xs.take (k + 1)) part = false) := fun q => anyT_snoc hlt hA.out q
        generalize smT xs[k] part = b at *
        clear hsz
        generalize xs[k] = x at *
        go_wp2_with fail
        refine (HA.out _).mono ?_
        rintro e w2 ⟨rfl, B2⟩
        have hB2 := hB.trans (B2.mono hB.size)
        clear HA hB B2 hc1
        cases b
        · have hN2 : Hid (anyT (xs.take (k + 1)) part = false) := hN.out rfl
          clear hN hY
          go_wp2
          go_roundw
          case rel => exact ⟨k + 1, by omega, by go_num, hN2, hB2⟩
          case measure => simp [intOf]; omega
        · have hY2 : Hid (anyT xs part = true) := hY.out rfl
          clear hN hY
          go_wp2
          go_ret
          exact ⟨ret_bool hY2.out.symm, B1.trans (hB2.mono B1.size)⟩
      · go_wp2
        go_ret
        have hk' : k = xs.length := by omega
        subst hk'
        have h := hA.out
        rw [List.take_length] at h
        exact ⟨ret_bool h.symm, B1.trans (hB.mono B1.size)⟩
end Go.Proofs.YtemmmdhmkegaaaaGreatDoor

/- What the reference's reading of numbers answers of every text. -/
namespace Go.Proofs.YtemmmdhmkegaaaaGreatDoor
open Go.RowKit
set_option linter.unusedVariables false

def isD (c : Int) : Bool := decide (48 ≤ c) && decide (c ≤ 57)
theorem rdigit_any (c : Int) (w : World) : Calls Tryz.prog 123 #[.int .u8 c] w fun e w' => e = .returned (.bool (isD c)) ∧ w' = w := by
  unfold isD
  by_cases a : 48 ≤ c
  · by_cases b : c ≤ 57
    · go_enter Tryz.func123, Tryz.ntmps123
      go_wp2
      go_ret
      exact ⟨ret_b (by simp [a, b]), rfl⟩
    · go_enter Tryz.func123, Tryz.ntmps123
      go_wp2
      go_ret
      exact ⟨ret_b (by simp [b]), rfl⟩
  · go_enter Tryz.func123, Tryz.ntmps123
    go_wp2
    go_ret
    exact ⟨ret_b (by simp; omega), rfl⟩

end Go.Proofs.YtemmmdhmkegaaaaGreatDoor

/- The reference: what its Decimal answers of every text. -/
namespace Go.Proofs.YtemmmdhmkegaaaaGreatDoor
open Go.RowKit
set_option linter.unusedVariables false

set_option maxHeartbeats 1000000 in
theorem rdecimal_any (s : ByteArray) (w : World) (hs : s.size ≤ maxLen) :
    Calls Tryz.prog 155 #[.string s] w fun e w' => e = .returned (.tuple #[.int .i64 (numI 10 18 s), .bool (numB 10 18 s)]) ∧ w' = w := by
  unfold maxLen at hs
  by_cases hz : (s.size : Int) < 1
  · have E : Hid (numI 10 18 s = 0 ∧ numB 10 18 s = false) := num_out (.inl (by omega))
    go_enter Tryz.func155, Tryz.ntmps155
    go_wp2
    go_ret2
    exact ⟨ret2_ib E.out.1.symm E.out.2.symm, rfl⟩
  · by_cases hm : (18 : Int) < (s.size : Int)
    · have E : Hid (numI 10 18 s = 0 ∧ numB 10 18 s = false) := num_out (.inr (by omega))
      go_enter Tryz.func155, Tryz.ntmps155
      go_wp2
      go_ret2
      exact ⟨ret2_ib E.out.1.symm E.out.2.symm, rfl⟩
    · have hout : Hid (¬ (s.size = 0 ∨ 18 < s.size)) := by rw [Hid]; omega
      go_enter Tryz.func155, Tryz.ntmps155
      go_wp2
      go_loop [4, 5] (fun vn vi => ∃ k n : Nat, k ≤ s.size ∧ vi = .int .i64 k ∧ vn = .int .i64 n ∧ Hid (vN 10 (s.data.toList.take k) = some n)) (fun _ vi => s.size - (intOf vi).toNat)
      case atStart => exact ⟨0, 0, Nat.zero_le _, rfl, rfl, rfl⟩
      case round =>
        obtain ⟨k, n, hk, rfl, rfl, hv⟩ := hrel
        by_cases hlt : k < s.size
        · have bd := byte_bd s[k]
          have hn : n < 100000000000000000 := vN_take_lt 10 17 (by decide) s k (by omega) n hv.out
          have HD : Hid (((dgN s[k] : Nat) : Int) = dgI (s[k].toNat : Int)) := dgN_cast s[k]
          by_cases hb : 48 ≤ (s[k].toNat : Int) ∧ (s[k].toNat : Int) ≤ 57
          · have E1 : Hid (dgI (s[k].toNat : Int) = (s[k].toNat : Int) - 48) := by rw [Hid, dgI, if_pos hb]
            have E : Hid (vN 10 (s.data.toList.take (k + 1)) = some (n * 10 + dgN s[k])) := vN_next 10 s k hlt n hv.out (by have := HD.out; have := E1.out; omega)
            have ED : Hid (isD (s[k].toNat : Int) = true) := by rw [Hid, isD]; simp; omega
            obtain ⟨b0, b1⟩ := hb
            go_wp2_with fail
            refine (rdigit_any _ _).mono ?_
            rw [ED.out]
            rintro e w' ⟨rfl, rfl⟩
            go_wp2
            go_round
            case rel => exact ⟨k + 1, n * 10 + dgN s[k], by omega, by go_num, by have h1 := HD.out; have h2 := E1.out; rw [Int.natCast_add, Int.natCast_mul, h1, h2]; rfl, E⟩
            case measure => simp [intOf]; omega
          · have E : Hid (numI 10 18 s = 0 ∧ numB 10 18 s = false) := num_bad (vN_bad_at 10 s k hlt (by have h1 := HD.out; unfold dgI at h1; rw [if_neg hb] at h1; split at h1 <;> (try split at h1) <;> omega))
            have ED : Hid (isD (s[k].toNat : Int) = false) := by rw [Hid, isD]; simp; omega
            clear hb
            go_wp2_with fail
            refine (rdigit_any _ _).mono ?_
            rw [ED.out]
            rintro e w' ⟨rfl, rfl⟩
            go_wp2
            go_ret2
            exact ⟨ret2_ib E.out.1.symm E.out.2.symm, rfl⟩
        · go_wp2
          go_ret2
          have hk' : k = s.size := by omega
          subst hk'
          have h := hv.out
          rw [List.take_of_length_le (by simp)] at h
          exact ⟨ret2_ib (num_ok hout.out h).1.symm (num_ok hout.out h).2.symm, rfl⟩

end Go.Proofs.YtemmmdhmkegaaaaGreatDoor

/- The reference of package frame. -/
namespace Go.Proofs.YtemmmdhmkegaaaaGreatDoor
open Go.ChangeShapes Go.WideShapes Go.ChangeAt Go.RowKit
set_option linter.unusedVariables false

def lCL : ByteArray := ⟨#[99, 111, 110, 116, 101, 110, 116, 45, 108, 101, 110, 103, 116, 104]⟩
def lTE : ByteArray := ⟨#[116, 114, 97, 110, 115, 102, 101, 114, 45, 101, 110, 99, 111, 100, 105, 110, 103]⟩
theorem fold_CL : foldS lCL = foldS tCL := by decide +kernel
theorem fold_TE : foldS lTE = foldS tTE := by decide +kernel
theorem thereF_congr {n n' : ByteArray} (h : foldS n = foldS n') (fs : Fs) : thereF fs n = thereF fs n' := by unfold thereF; rw [getF_congr h]
theorem hasF_congr {n n' : ByteArray} (h : foldS n = foldS n') (fs : Fs) (p : ByteArray) : hasF fs n p = hasF fs n' p := by unfold hasF; rw [listF_congr h]
theorem smCh (p : ByteArray) : smT p tCh = ((foldS p).toList == [99, 104, 117, 110, 107, 101, 100]) := by
  unfold smT
  rw [show (foldS tCh).toList = [99, 104, 117, 110, 107, 101, 100] by decide +kernel]

set_option maxHeartbeats 1000000 in
theorem rthere_any (fs : Fs) (a : Option Addr) (c : Nat) (name : ByteArray) (w : World) (hf : Fds w.heap.size w (.slice a fs.length c) fs) (hb : FBd 1048576 fs) (hn : name.size ≤ 1048576) (hl : fs.length ≤ 1024) :
    Calls Tryz.prog 125 #[.slice a fs.length c, .string name] w fun e w' => e = .returned (.bool (thereF fs name)) ∧ Below w.heap.size w w' := by
  have HG : Hid (Calls Tryz.prog 89 #[.slice a fs.length c, .string name] w fun e w' => ∃ ao cv, e = .returned (.slice ao (getF fs name).length cv) ∧ OwnT w.heap.size w' (.slice ao (getF fs name).length cv) (getF fs name) ∧ Below w.heap.size w w') := rget_any fs a c name w hf hb hn hl
  unfold thereF
  clear hf hb hn hl
  generalize getF fs name = vs at *
  go_enter Tryz.func125, Tryz.ntmps125
  go_wp2_with fail
  refine HG.out.mono ?_
  rintro e w1 ⟨ao1, cv1, rfl, own1, B1⟩
  clear own1 HG
  go_wp2
  go_ret
  exact ⟨ret_bool (by first | exact int_pos _ | simp), B1⟩

set_option maxHeartbeats 1000000 in
theorem rcoded_any (fs : Fs) (a : Option Addr) (c : Nat) (w : World) (hf : Fds w.heap.size w (.slice a fs.length c) fs) (hb : FBd 1048576 fs) (hl : fs.length ≤ 1024) :
    Calls Tryz.prog 126 #[.slice a fs.length c] w fun e w' => e = .returned (.bool (chunkedF fs)) ∧ Below w.heap.size w w' := by
  have HL0 := rlist_any fs a c lTE w hf hb (by decide) hl
  rw [listF_congr fold_TE] at HL0
  have HL : Hid (Calls Tryz.prog 96 #[.slice a fs.length c, .string ⟨#[116, 114, 97, 110, 115, 102, 101, 114, 45, 101, 110, 99, 111, 100, 105, 110, 103]⟩] w fun e w' => ∃ ao cv, e = .returned (.slice ao (listF fs tTE).length cv) ∧ OwnT w.heap.size w' (.slice ao (listF fs tTE).length cv) (listF fs tTE) ∧ Below w.heap.size w w') := HL0
  have HBD : Hid (TBd 1048576 (listF fs tTE)) := listF_bd hb
  unfold chunkedF
  clear hf hb hl HL0
  generalize listF fs tTE = xs at *
  generalize hck : chunkL xs = ck
  have HCK : Hid (chunkL xs = ck) := hck
  clear hck
  go_enter Tryz.func126, Tryz.ntmps126
  go_wp2_with fail
  refine HL.out.mono ?_
  rintro e w1 ⟨ao1, cv1, rfl, own1, B1⟩
  have T1 := own1.txs
  clear own1 HL
  match xs, T1, HBD, HCK with
  | [], _, _, HCK =>
    go_wp2
    go_ret
    exact ⟨ret_bool HCK.out, B1⟩
  | [p], T1, HBD, HCK =>
    obtain ⟨a', c', e, hnil, q1, q2, q3⟩ := T1
    obtain ⟨rfl, _, rfl⟩ := slice_inj e
    obtain ⟨g, off, rfl, hg, hc⟩ := q3 Nat.one_pos
    have hc0 : w1.cell? ⟨g, off, none⟩ = some (.string p) := hc 0 Nat.one_pos
    have HS : Hid (∀ W, Calls Tryz.prog 124 #[.string p] W fun e w' => e = .returned (.string (foldS p)) ∧ Below W.heap.size W w') := fun W => rfold_any p W (by have := HBD.out p (List.mem_cons_self ..); omega)
    have HK2 : Hid (((foldS p).toList == [99, 104, 117, 110, 107, 101, 100]) = ck) := by rw [Hid, ← smCh]; exact HCK.out
    clear e hnil q1 q2 q3 hc HBD HCK
    generalize foldS p = b at *
    go_wp2_with fail
    refine (HS.out _).mono ?_
    rintro e w2 ⟨rfl, B2⟩
    go_wp2
    go_ret
    exact ⟨ret_bool HK2.out, B1.trans (B2.mono B1.size)⟩
  | p :: q :: r, _, _, HCK =>
    have HK2 : Hid (false = ck) := HCK.out
    have h1 : ¬ (((p :: q :: r).length : Int) = 1) := by simp only [List.length_cons]; omega
    have h2 : (((p :: q :: r).length : Int) == 1) = false := by simpa using h1
    clear h1 HCK
    generalize (p :: q :: r).length = n at *
    go_wp2
    go_ret
    exact ⟨ret_bool HK2.out, B1⟩

theorem lenL_cons (p : ByteArray) (r : List ByteArray) : lenL (p :: r) = if sameN (numI 10 18 p) (p :: r) = true then (numI 10 18 p, true) else (0, false) := by
  unfold lenL
  have e : sameN (numI 10 18 p) (p :: r) = (numB 10 18 p && sameN (numI 10 18 p) r) := by
    unfold sameN
    rw [List.all_cons]
    simp
  rw [e]
theorem sameN_bad {f : Int} {ps : List ByteArray} {k : Nat} (h : k < ps.length) (hb : (numB 10 18 ps[k] && decide (numI 10 18 ps[k] = f)) = false) : sameN f ps = false := by
  unfold sameN
  rw [List.all_eq_false]
  exact ⟨ps[k], List.getElem_mem h, by simpa using hb⟩

set_option maxRecDepth 100000 in
set_option maxHeartbeats 1000000 in
theorem rlength_any (fs : Fs) (a : Option Addr) (c : Nat) (w : World) (hf : Fds w.heap.size w (.slice a fs.length c) fs) (hb : FBd 1048576 fs) (hl : fs.length ≤ 1024) :
    Calls Tryz.prog 127 #[.slice a fs.length c] w fun e w' => e = .returned (.tuple #[.int .i64 (lengthF fs).1, .bool (lengthF fs).2]) ∧ Below w.heap.size w w' := by
  have HL0 := rlist_any fs a c lCL w hf hb (by decide) hl
  rw [listF_congr fold_CL] at HL0
  have HL : Hid (Calls Tryz.prog 96 #[.slice a fs.length c, .string ⟨#[99, 111, 110, 116, 101, 110, 116, 45, 108, 101, 110, 103, 116, 104]⟩] w fun e w' => ∃ ao cv, e = .returned (.slice ao (listF fs tCL).length cv) ∧ OwnT w.heap.size w' (.slice ao (listF fs tCL).length cv) (listF fs tCL) ∧ Below w.heap.size w w') := HL0
  have HBD : Hid (TBd 1048576 (listF fs tCL)) := listF_bd hb
  have HLN : Hid ((listF fs tCL).length ≤ 1024 * 1048578) := listF_len hb hl
  unfold lengthF
  clear hf hb hl HL0
  generalize listF fs tCL = xs at *
  generalize hck : lenL xs = ck
  have HCK : Hid (lenL xs = ck) := hck
  clear hck
  obtain ⟨n, r⟩ := ck
  go_enter Tryz.func127, Tryz.ntmps127
  go_wp2_with fail
  refine HL.out.mono ?_
  rintro e w1 ⟨ao1, cv1, rfl, own1, B1⟩
  have T1 := own1.txs
  clear own1 HL
  match xs, T1, HBD, HCK, HLN with
  | [], _, _, HCK, _ =>
    have HK2 : Hid ((0, false) = (n, r)) := HCK.out
    clear HCK
    go_wp2
    go_ret2
    exact ⟨ret2_ib (congrArg Prod.fst HK2.out) (congrArg Prod.snd HK2.out), B1⟩
  | p :: ps, T1, HBD, HCK, HLN =>
    obtain ⟨a', c', e, hnil, q1, q2, q3⟩ := T1
    obtain ⟨rfl, _, rfl⟩ := slice_inj e
    obtain ⟨g, off, rfl, hg, hc⟩ := q3 (Nat.zero_lt_succ _)
    have hc0 : w1.cell? ⟨g, off, none⟩ = some (.string p) := hc 0 (Nat.zero_lt_succ _)
    have HC : Hid (∀ (j : Nat) (hj : j < (p :: ps).length), w1.cell? ⟨g, off + j, none⟩ = some (.string (p :: ps)[j])) := hc
    have HS : Hid (∀ x ∈ p :: ps, ∀ W, Calls Tryz.prog 155 #[.string x] W fun e w' => e = .returned (.tuple #[.int .i64 (numI 10 18 x), .bool (numB 10 18 x)]) ∧ w' = W) := fun x hx W => rdecimal_any x W (by have := HBD.out x hx; unfold maxLen; omega)
    have HK2 : Hid ((if sameN (numI 10 18 p) (p :: ps) = true then (numI 10 18 p, true) else (0, false)) = (n, r)) := by rw [Hid, ← lenL_cons]; exact HCK.out
    have HS0 : Hid (∀ W, Calls Tryz.prog 155 #[.string p] W fun e w' => e = .returned (.tuple #[.int .i64 (numI 10 18 p), .bool (numB 10 18 p)]) ∧ w' = W) := HS.out p (List.mem_cons_self ..)
    have HB0 : Hid (sameN (numI 10 18 p) (p :: ps) = true → numB 10 18 p = true) := fun h => by
      unfold sameN at h
      rw [List.all_cons] at h
      simp at h
      exact h.1
    have hln : (p :: ps).length ≤ 1073743872 := HLN.out
    have hpos : 0 < (p :: ps).length := Nat.zero_lt_succ _
    clear e hnil q1 q3 hc HBD HCK HLN
    have hz : ¬ (((p :: ps).length : Int) = 0) := by omega
    have hz2 : (((p :: ps).length : Int) == 0) = false := by simpa using hz
    clear hz
    generalize numI 10 18 p = f at *
    generalize numB 10 18 p = b at *
    generalize hq : p :: ps = Q at *
    clear hq
    go_wp2_with fail
    refine (HS0.out _).mono ?_
    rintro e w2 ⟨rfl, rfl⟩
    clear HS0 hc0
    go_wp2_with fail
    go_loop [7] (fun vi => ∃ k : Nat, k ≤ Q.length ∧ vi = .int .i64 k ∧ Hid (sameN f (Q.take k) = true)) (fun vi => Q.length - (intOf vi).toNat)
    case atStart => exact ⟨0, Nat.zero_le _, rfl, rfl⟩
    case round =>
      obtain ⟨k, hk, rfl, hA⟩ := hrel
      by_cases hlt : k < Q.length
      · have hc1 := HC.out k hlt
        have hY : Hid ((numB 10 18 Q[k] && decide (numI 10 18 Q[k] = f)) = true → sameN f (Q.take (k + 1)) = true) := fun q => by rw [sameN_snoc hlt, hA.out, q]; rfl
        have hN : Hid ((numB 10 18 Q[k] && decide (numI 10 18 Q[k] = f)) = false → sameN f Q = false) := fun q => sameN_bad hlt q
        have HX : Hid (∀ W, Calls Tryz.prog 155 #[.string Q[k]] W fun e w' => e = .returned (.tuple #[.int .i64 (numI 10 18 Q[k]), .bool (numB 10 18 Q[k])]) ∧ w' = W) := HS.out Q[k] (List.getElem_mem hlt)
        generalize numI 10 18 Q[k] = nx at *
        generalize numB 10 18 Q[k] = nb at *
        generalize Q[k] = x at *
        cases nb
        · have HK3 : Hid ((0, false) = (n, r)) := by
            have h := HK2.out
            rw [hN.out rfl] at h
            exact h
          clear hY hN HK2
          go_wp2_with fail
          refine (HX.out _).mono ?_
          rintro e w3 ⟨rfl, rfl⟩
          go_wp2
          go_ret2
          exact ⟨ret2_ib (congrArg Prod.fst HK3.out) (congrArg Prod.snd HK3.out), B1⟩
        · by_cases hx : nx = f
          · subst hx
            have hY2 : Hid (sameN nx (Q.take (k + 1)) = true) := hY.out (by simp)
            clear hY hN
            go_wp2_with fail
            refine (HX.out _).mono ?_
            rintro e w3 ⟨rfl, rfl⟩
            go_wp2
            go_round
            case rel => exact ⟨k + 1, by omega, by go_num, hY2⟩
            case measure => simp [intOf]; omega
          · have HK3 : Hid ((0, false) = (n, r)) := by
              have h := HK2.out
              rw [hN.out (by rw [decide_eq_false hx]; rfl)] at h
              exact h
            have hx2 : (nx != f) = true := by simpa using hx
            clear hY hN HK2 hx
            go_wp2_with fail
            refine (HX.out _).mono ?_
            rintro e w3 ⟨rfl, rfl⟩
            go_wp2
            go_ret2
            exact ⟨ret2_ib (congrArg Prod.fst HK3.out) (congrArg Prod.snd HK3.out), B1⟩
      · have hk' : k = Q.length := by omega
        subst hk'
        have hA2 := hA.out
        rw [List.take_length] at hA2
        have HK3 : Hid ((f, true) = (n, r)) := by
          have h := HK2.out
          rw [hA2] at h
          exact h
        have hb2 : b = true := HB0.out hA2
        subst hb2
        clear hA2 HK2 HB0
        go_wp2
        go_ret2
        exact ⟨ret2_ib (congrArg Prod.fst HK3.out) (congrArg Prod.snd HK3.out), B1⟩
end Go.Proofs.YtemmmdhmkegaaaaGreatDoor

/- The reference's Request (frame). -/
namespace Go.Proofs.YtemmmdhmkegaaaaGreatDoor
open Go.ChangeShapes Go.WideShapes Go.ChangeAt Go.RowKit
set_option linter.unusedVariables false

def reqP (E : Int × Int × Int) : Int × Bool × Int := (E.2.1, decide (E.1 = 2), E.2.2)

set_option maxHeartbeats 1000000 in
theorem rrequest_any (fs : Fs) (a : Option Addr) (c : Nat) (minor : Int) (w : World) (hf : Fds w.heap.size w (.slice a fs.length c) fs) (hb : FBd 1048576 fs) (hl : fs.length ≤ 1024) :
    Calls Tryz.prog 91 #[.slice a fs.length c, .int .i64 minor] w fun e w' => e = .returned (.tuple #[.int .i64 (reqF fs minor).1, .bool (reqF fs minor).2.1, .int .i64 (reqF fs minor).2.2]) ∧ Below w.heap.size w w' := by
  have H10 := rthere_any fs a c lCL w hf hb (by decide) hl
  rw [thereF_congr fold_CL] at H10
  have H1 : Hid (Calls Tryz.prog 125 #[.slice a fs.length c, .string ⟨#[99, 111, 110, 116, 101, 110, 116, 45, 108, 101, 110, 103, 116, 104]⟩] w fun e w' => e = .returned (.bool (thereF fs tCL)) ∧ Below w.heap.size w w') := H10
  have H2 : Hid (∀ W, Below w.heap.size w W → Calls Tryz.prog 125 #[.slice a fs.length c, .string ⟨#[116, 114, 97, 110, 115, 102, 101, 114, 45, 101, 110, 99, 111, 100, 105, 110, 103]⟩] W fun e w' => e = .returned (.bool (thereF fs tTE)) ∧ Below W.heap.size W w') := fun W b => by
    have k := rthere_any fs a c lTE W (hf.over b) hb (by decide) hl
    rw [thereF_congr fold_TE] at k
    exact k
  have H3 : Hid (∀ W, Below w.heap.size w W → Calls Tryz.prog 126 #[.slice a fs.length c] W fun e w' => e = .returned (.bool (chunkedF fs)) ∧ Below W.heap.size W w') := fun W b => rcoded_any fs a c W (hf.over b) hb hl
  have H4 : Hid (∀ W, Below w.heap.size w W → Calls Tryz.prog 127 #[.slice a fs.length c] W fun e w' => e = .returned (.tuple #[.int .i64 (lengthF fs).1, .bool (lengthF fs).2]) ∧ Below W.heap.size W w') := fun W b => rlength_any fs a c W (hf.over b) hb hl
  have hbd := lenL_bd (listF fs tCL)
  have e0 : reqF fs minor = reqP (toldP (thereF fs tTE) (thereF fs tCL) (chunkedF fs) (lengthF fs) minor) := rfl
  rw [e0]
  have hbd2 : 0 ≤ (lengthF fs).1 ∧ (lengthF fs).1 < 1000000000000000000 := hbd
  clear hf hb hl hbd e0 H10
  generalize thereF fs tTE = te at *
  generalize thereF fs tCL = cl at *
  generalize chunkedF fs = ch at *
  generalize lengthF fs = ln at *
  obtain ⟨n, r⟩ := ln
  simp only at H4 hbd2
  obtain ⟨b1, b2⟩ := hbd2
  generalize hE : reqP (toldP te cl ch (n, r) minor) = E
  have HE : Hid (reqP (toldP te cl ch (n, r) minor) = E) := hE
  clear hE
  obtain ⟨E1, E2, E3⟩ := E
  cases te
  · cases cl
    · have HK : Hid ((0, false, 0) = (E1, E2, E3)) := HE.out
      clear HE
      go_enter Tryz.func91, Tryz.ntmps91
      go_wp2_with fail
      refine H1.out.mono ?_
      rintro e w1 ⟨rfl, B1⟩
      go_wp2_with fail
      refine (H2.out _ B1).mono ?_
      rintro e w2 ⟨rfl, B2⟩
      have D2 := B1.trans (B2.mono B1.size)
      go_wp2
      go_ret3
      exact ⟨ret3_ibi (congrArg Prod.fst HK.out) (congrArg (·.2.1) HK.out) (congrArg (·.2.2) HK.out), D2⟩
    · cases r
      · have HK : Hid ((0, false, 400) = (E1, E2, E3)) := HE.out
        clear HE
        go_enter Tryz.func91, Tryz.ntmps91
        go_wp2_with fail
        refine H1.out.mono ?_
        rintro e w1 ⟨rfl, B1⟩
        go_wp2_with fail
        refine (H2.out _ B1).mono ?_
        rintro e w2 ⟨rfl, B2⟩
        have D2 := B1.trans (B2.mono B1.size)
        go_wp2_with fail
        refine (H4.out _ D2).mono ?_
        rintro e w3 ⟨rfl, B3⟩
        have D3 := D2.trans (B3.mono D2.size)
        go_wp2
        go_ret3
        exact ⟨ret3_ibi (congrArg Prod.fst HK.out) (congrArg (·.2.1) HK.out) (congrArg (·.2.2) HK.out), D3⟩
      · by_cases hn : 4096 < n
        · have HK : Hid ((0, false, 413) = (E1, E2, E3)) := by
            have k := HE.out
            unfold toldP at k
            simp only [Bool.false_and, Bool.false_eq_true, if_false, Bool.true_eq_false, if_pos hn] at k
            exact k
          clear HE
          go_enter Tryz.func91, Tryz.ntmps91
          go_wp2_with fail
          refine H1.out.mono ?_
          rintro e w1 ⟨rfl, B1⟩
          go_wp2_with fail
          refine (H2.out _ B1).mono ?_
          rintro e w2 ⟨rfl, B2⟩
          have D2 := B1.trans (B2.mono B1.size)
          go_wp2_with fail
          refine (H4.out _ D2).mono ?_
          rintro e w3 ⟨rfl, B3⟩
          have D3 := D2.trans (B3.mono D2.size)
          go_wp2
          go_ret3
          exact ⟨ret3_ibi (congrArg Prod.fst HK.out) (congrArg (·.2.1) HK.out) (congrArg (·.2.2) HK.out), D3⟩
        · have HK : Hid ((n, false, 0) = (E1, E2, E3)) := by
            have k := HE.out
            unfold toldP at k
            simp only [Bool.false_and, Bool.false_eq_true, if_false, Bool.true_eq_false, if_neg hn] at k
            exact k
          clear HE
          go_enter Tryz.func91, Tryz.ntmps91
          go_wp2_with fail
          refine H1.out.mono ?_
          rintro e w1 ⟨rfl, B1⟩
          go_wp2_with fail
          refine (H2.out _ B1).mono ?_
          rintro e w2 ⟨rfl, B2⟩
          have D2 := B1.trans (B2.mono B1.size)
          go_wp2_with fail
          refine (H4.out _ D2).mono ?_
          rintro e w3 ⟨rfl, B3⟩
          have D3 := D2.trans (B3.mono D2.size)
          go_wp2
          go_ret3
          exact ⟨ret3_ibi (congrArg Prod.fst HK.out) (congrArg (·.2.1) HK.out) (congrArg (·.2.2) HK.out), D3⟩
  · cases cl
    · by_cases hm : minor = 0
      · subst hm
        have HK : Hid ((0, false, 400) = (E1, E2, E3)) := HE.out
        clear HE
        go_enter Tryz.func91, Tryz.ntmps91
        go_wp2_with fail
        refine H1.out.mono ?_
        rintro e w1 ⟨rfl, B1⟩
        go_wp2_with fail
        refine (H2.out _ B1).mono ?_
        rintro e w2 ⟨rfl, B2⟩
        have D2 := B1.trans (B2.mono B1.size)
        go_wp2
        go_ret3
        exact ⟨ret3_ibi (congrArg Prod.fst HK.out) (congrArg (·.2.1) HK.out) (congrArg (·.2.2) HK.out), D2⟩
      · have hm2 : (minor == 0) = false := by simpa using hm
        have hm3 : decide (minor = 0) = false := decide_eq_false hm
        have HE2 : Hid (reqP (if ch = true then ((2 : Int), (0 : Int), (0 : Int)) else (0, 0, 501)) = (E1, E2, E3)) := by
          have k := HE.out
          unfold toldP at k
          rw [hm3] at k
          exact k
        clear hm hm3
        cases ch
        · have HK : Hid ((0, false, 501) = (E1, E2, E3)) := HE2.out
          clear HE2
          clear HE
          go_enter Tryz.func91, Tryz.ntmps91
          go_wp2_with fail
          refine H1.out.mono ?_
          rintro e w1 ⟨rfl, B1⟩
          go_wp2_with fail
          refine (H2.out _ B1).mono ?_
          rintro e w2 ⟨rfl, B2⟩
          have D2 := B1.trans (B2.mono B1.size)
          go_wp2_with fail
          refine (H3.out _ D2).mono ?_
          rintro e w3 ⟨rfl, B3⟩
          have D3 := D2.trans (B3.mono D2.size)
          go_wp2
          go_ret3
          exact ⟨ret3_ibi (congrArg Prod.fst HK.out) (congrArg (·.2.1) HK.out) (congrArg (·.2.2) HK.out), D3⟩
        · have HK : Hid ((0, true, 0) = (E1, E2, E3)) := HE2.out
          clear HE2
          clear HE
          go_enter Tryz.func91, Tryz.ntmps91
          go_wp2_with fail
          refine H1.out.mono ?_
          rintro e w1 ⟨rfl, B1⟩
          go_wp2_with fail
          refine (H2.out _ B1).mono ?_
          rintro e w2 ⟨rfl, B2⟩
          have D2 := B1.trans (B2.mono B1.size)
          go_wp2_with fail
          refine (H3.out _ D2).mono ?_
          rintro e w3 ⟨rfl, B3⟩
          have D3 := D2.trans (B3.mono D2.size)
          go_wp2
          go_ret3
          exact ⟨ret3_ibi (congrArg Prod.fst HK.out) (congrArg (·.2.1) HK.out) (congrArg (·.2.2) HK.out), D3⟩
    · have HK : Hid ((0, false, 400) = (E1, E2, E3)) := HE.out
      clear HE
      go_enter Tryz.func91, Tryz.ntmps91
      go_wp2_with fail
      refine H1.out.mono ?_
      rintro e w1 ⟨rfl, B1⟩
      go_wp2_with fail
      refine (H2.out _ B1).mono ?_
      rintro e w2 ⟨rfl, B2⟩
      have D2 := B1.trans (B2.mono B1.size)
      go_wp2
      go_ret3
      exact ⟨ret3_ibi (congrArg Prod.fst HK.out) (congrArg (·.2.1) HK.out) (congrArg (·.2.2) HK.out), D2⟩

end Go.Proofs.YtemmmdhmkegaaaaGreatDoor

/- The reference's opened. -/
namespace Go.Proofs.YtemmmdhmkegaaaaGreatDoor
open Go.ChangeShapes Go.WideShapes Go.ChangeAt Go.RowKit
set_option linter.unusedVariables false

def openK (q : Rq) (F : Fs × Int) (n : Nat) (code : Int) : Hd :=
  if q.code = 0 then (if F.2 = 0 then (if n = 0 then hdNo code else if headSt F.1 q.minor = 0 then ⟨q.method, q.target, q.minor, F.1, n, 0⟩ else hdNo (headSt F.1 q.minor)) else hdNo F.2) else hdNo q.code
def openQ (x : List ByteArray × Nat × Int) : Hd := match x.1 with
  | [] => hdNo x.2.2
  | s :: ss => openK (rqP s) (fldsP ss 40) x.2.1 x.2.2
theorem headQ_open (b : List UInt8) : headQ b = openQ (rlines b) := by
  obtain ⟨h1, h2⟩ := head_lines rqSt b
  unfold headQ
  rw [h1]
  generalize rlines b = X at *
  obtain ⟨ss, n, code⟩ := X
  cases ss with
  | nil => rfl
  | cons s ss =>
    have e1 := h2 s ss rfl
    rw [e1]
    have e2 : sayP rqSt (s :: ss, n, code) = if rqSt s = 0 then saidP (fldsP ss 40) n code else ([], 0, rqSt s) := rfl
    have e3 : openQ (s :: ss, n, code) = openK (rqP s) (fldsP ss 40) n code := rfl
    rw [e2, e3]
    generalize fldsP ss 40 = F
    obtain ⟨F1, F2⟩ := F
    unfold openK rqSt
    by_cases q0 : (rqP s).code = 0
    · rw [if_pos q0, if_pos q0]
      unfold saidP
      by_cases q1 : F2 = 0
      · simp only [if_pos q1]
        by_cases q2 : n = 0
        · simp [q2]
        · simp [q2]
      · simp only [if_neg q1]
        rfl
    · rw [if_neg q0, if_neg q0]
      rfl
def opS (H : Hd) : Int × Bool := if H.n = 0 then (0, false) else ((reqF H.fs H.minor).1, (reqF H.fs H.minor).2.1)
def opV (H : Hd) (fa : Option Addr) (fc : Nat) : Value := .tuple #[.agg #[.string H.m, .string H.t, .int .i64 H.minor, .slice fa H.fs.length fc, .slice none 0 0], .int .i64 (H.n : Nat), .int .i64 (opS H).1, .bool (opS H).2, .int .i64 H.st]
def OpenR (w : World) (H : Hd) (e : Ending) (w' : World) : Prop := ∃ fa fc, e = .returned (opV H fa fc) ∧ OwnF w.heap.size w' (.slice fa H.fs.length fc) H.fs ∧ Below w.heap.size w w'
theorem openNo {w w' : World} {H : Hd} {st : Int} (hB : Below w.heap.size w w') (hH : H = hdNo st) : OpenR w H (.returned (.tuple #[.agg #[.string ⟨#[]⟩, .string ⟨#[]⟩, .int .i64 0, .slice none 0 0, .slice none 0 0], .int .i64 0, .int .i64 0, .bool false, .int .i64 st])) w' := by
  subst hH
  exact ⟨none, 0, rfl, OwnF.nil _ _, hB⟩
theorem Txs.tail {B : Nat} {w : World} {a a' : Option Addr} {n c : Nat} {x : ByteArray} {xs : List ByteArray} (h : Txs B w (.slice a n c) (x :: xs)) (ha : 1 < c → a' = a.map (fun p => p.add 1)) : Txs B w (.slice a' (n - 1) (c - 1)) xs := by
  obtain ⟨b, d, e, hnil, h1, h2, h3⟩ := h
  obtain ⟨rfl, hn, rfl⟩ := slice_inj e
  subst hn
  rw [List.length_cons] at h1
  refine ⟨a', c - 1, ?_, ?_, by omega, by omega, ?_⟩
  · rw [List.length_cons, Nat.add_sub_cancel]
  · intro k
    by_cases hc : 1 < c
    · have := ha hc
      rw [k] at this
      cases a with
      | none => have := hnil rfl; omega
      | some p => cases this
    · omega
  · intro hp
    obtain ⟨g, off, rfl, hg, hc⟩ := h3 (by rw [List.length_cons]; omega)
    refine ⟨g, off + 1, ?_, hg, fun j hj => ?_⟩
    · rw [ha (by omega)]
      show some ((⟨g, off, none⟩ : Addr).add 1) = _
      rw [addr_add]
    · have k := hc (j + 1) (by rw [List.length_cons]; omega)
      rw [show off + 1 + j = off + (j + 1) by omega]
      exact k

set_option maxRecDepth 100000 in
set_option maxHeartbeats 8000000 in
theorem ropened_any (b : List UInt8) (kb c : Nat) (a : Option Addr) (w : World) (hs : Src w kb (.slice a b.length c) b) (hk : 0 < b.length → kb < w.heap.size) :
    Calls Tryz.prog 65 #[.slice a b.length c] w (OpenR w (headQ b)) := by
  have U0 : Below w.heap.size w (w.alloc (.cells #[.string ⟨#[]⟩, .string ⟨#[]⟩, .int .i64 0, .slice none 0 0, .slice none 0 0] 43)) := (Below.refl _ _).alloc (Nat.le_refl _) _
  have e1 : (w.alloc (.cells #[.string ⟨#[]⟩, .string ⟨#[]⟩, .int .i64 0, .slice none 0 0, .slice none 0 0] 43)).heap.size = w.heap.size + 1 := by simp
  have HLN : Hid (Calls Tryz.prog 86 #[.slice a b.length c] (w.alloc (.cells #[.string ⟨#[]⟩, .string ⟨#[]⟩, .int .i64 0, .slice none 0 0, .slice none 0 0] 43)) fun e w' => ∃ ao cv, e = .returned (.tuple #[.slice ao (rlines b).1.length cv, .int .i64 ((rlines b).2.1 : Nat), .int .i64 (rlines b).2.2]) ∧ OwnT (w.heap.size + 1) w' (.slice ao (rlines b).1.length cv) (rlines b).1 ∧ Below w.heap.size w w' ∧ w'.heap[w.heap.size]? = some (.cells #[.string ⟨#[]⟩, .string ⟨#[]⟩, .int .i64 0, .slice none 0 0, .slice none 0 0] 43) ∧ w.heap.size + 1 ≤ w'.heap.size) := by
    refine (rlines_any b kb c a _ (hs.keep hk U0) (fun q => Nat.lt_of_lt_of_le (hk q) U0.size)).mono ?_
    rintro e w' ⟨ao, cv, he, hO, hB⟩
    rw [e1] at hO
    have hsz := hB.size
    rw [e1] at hsz
    exact ⟨ao, cv, he, hO, U0.trans (hB.mono (by simp)), tblk_below (tblk_new _ _) hB, hsz⟩
  have HQ : Hid (headQ b = openQ (rlines b)) := headQ_open b
  have HSZ : Hid (∀ s ∈ (rlines b).1, s.size ≤ 2048) := (lnL_sizes _ _ _ _ (by rw [List.length_take]; omega)).1
  have HNL : Hid ((rlines b).2.1 ≤ 2048) := by
    rw [Hid]
    refine Nat.le_trans (lnL_sizes (fullB b) 2050 false (b.take 2048) (by rw [List.length_take]; omega)).2.2 ?_
    rw [List.length_take]; omega
  clear hs hk U0 e1
  generalize headQ b = H at *
  generalize rlines b = X at *
  obtain ⟨ss, n, code⟩ := X
  simp only at HLN HSZ HNL
  generalize b.length = bl at *
  cases ss with
  | nil =>
    have HE : Hid (H = hdNo code) := HQ.out
    have hl0 : ([] : List ByteArray).length = 0 := rfl
    rw [hl0] at HLN
    clear HQ HSZ hl0 HNL
    go_enter Tryz.func65, Tryz.ntmps65
    go_wp2_with fail
    refine HLN.out.mono ?_
    rintro e w1 ⟨ao, cv, rfl, O1, D1, hg1, hs1⟩
    clear HLN O1 hs1
    have HBZ : Hid _ := five_below (.string ⟨#[]⟩) (.string ⟨#[]⟩) (.int .i64 0) (.slice none 0 0) (.slice none 0 0) D1 (Nat.le_refl _)
    unfold five at HBZ
    have HW := five_cells hg1 (.string ⟨#[]⟩) (.string ⟨#[]⟩) (.int .i64 0) (.slice none 0 0) (.slice none 0 0)
    have a0 := tblk_cell (i := 0) hg1 rfl
    have z0 := lblk_z (i := 0) hg1
    have a1 := tblk_cell (i := 1) hg1 rfl
    have z1 := lblk_z (i := 1) hg1
    have a2 := tblk_cell (i := 2) hg1 rfl
    have z2 := lblk_z (i := 2) hg1
    have a3 := tblk_cell (i := 3) hg1 rfl
    have z3 := lblk_z (i := 3) hg1
    have a4 := tblk_cell (i := 4) hg1 rfl
    have z4 := lblk_z (i := 4) hg1
    have r0 := tblk_cell (i := 0) HW rfl
    have r1 := tblk_cell (i := 1) HW rfl
    have r2 := tblk_cell (i := 2) HW rfl
    have r3 := tblk_cell (i := 3) HW rfl
    have r4 := tblk_cell (i := 4) HW rfl
    unfold five at r0 r1 r2 r3 r4
    clear HW hg1 D1
    go_wp2
    refine bodyPost_ret (v := .tuple #[.agg #[.string ⟨#[]⟩, .string ⟨#[]⟩, .int .i64 0, .slice none 0 0, .slice none 0 0], .int .i64 0, .int .i64 0, .bool false, .int .i64 code]) (by simp [results, Tryz.results65, go_sem, r0, r1, r2, r3, r4]) rfl ?_
    exact openNo HBZ.out HE.out

  | cons s ss =>
    have hq0 : openQ (s :: ss, n, code) = openK (rqP s) (fldsP ss 40) n code := rfl
    rw [hq0] at HQ
    have hss : s.size ≤ 2048 := HSZ.out s (List.mem_cons_self ..)
    have HS2 : Hid (∀ x ∈ ss, x.size ≤ 2048) := fun x hx => HSZ.out x (List.mem_cons_of_mem _ hx)
    have HRQ : Hid (∀ W, Calls Tryz.prog 87 #[.string s] W fun e w' => e = .returned (.tuple #[rqV (rqP s), .int .i64 (rqP s).code]) ∧ Below W.heap.size W w') := fun W => by
      rw [req_ref]
      exact rreq_any s W (by omega)
    have HFO : Hid ((fldsP ss 40).1.length ≤ 40 ∧ FBd 1000 (fldsP ss 40).1) := ⟨(fldsP_ok ss 40).1, (fldsP_ok ss 40).2.1⟩
    have HFF : Hid (∀ (W : World) (x : Option Addr) (d : Nat), Txs W.heap.size W (.slice x ss.length d) ss → Calls Tryz.prog 88 #[.slice x ss.length d] W fun e w' => ∃ ao cv, e = .returned (.tuple #[.slice ao (fldsP ss 40).1.length cv, .int .i64 (fldsP ss 40).2]) ∧ OwnF W.heap.size w' (.slice ao (fldsP ss 40).1.length cv) (fldsP ss 40).1 ∧ Below W.heap.size W w') := fun W x d h => rfields_any ss x d W h HS2.out
    have hl1 : (s :: ss).length = ss.length + 1 := rfl
    rw [hl1] at HLN
    clear hq0 HSZ hss HS2 hl1
    generalize fldsP ss 40 = F at *
    obtain ⟨fs, sec⟩ := F
    simp only at HFO HFF
    generalize rqP s = q at *
    obtain ⟨qm, qt, qn, qc⟩ := q
    unfold rqV at HRQ
    simp only at HRQ
    have hL1 : ¬ ((ss.length + 1 : Nat) : Int) = 0 := by omega
    have hL2 : (((ss.length + 1 : Nat) : Int) == 0) = false := by simpa using hL1
    generalize hsl : ss.length = sl at *
    have HSL : Hid (ss.length = sl) := hsl
    clear hsl
    go_enter Tryz.func65, Tryz.ntmps65
    go_wp2_with fail
    refine HLN.out.mono ?_
    rintro e w1 ⟨ao, cv, rfl, O1, D1, hg1, hs1⟩
    clear HLN
    have T1 := O1.txs
    have hlen1 := T1.len
    obtain ⟨a', c', e', hnil, q1, q2, q3⟩ := id T1
    obtain ⟨rfl, hx1, rfl⟩ := slice_inj e'
    clear hx1
    obtain ⟨g, off, rfl, hg, hc⟩ := q3 (by rw [List.length_cons]; omega)
    have c0 : w1.cell? ⟨g, off, none⟩ = some (.string s) := hc 0 (by rw [List.length_cons]; omega)
    have hcv1 : sl + 1 ≤ cv := hlen1.2.1
    have hcv2 : cv ≤ maxLen := hlen1.2.2
    unfold maxLen at hcv2
    have HT1 : Hid (Txs w1.heap.size w1 (.slice (some ⟨g, off, none⟩) (sl + 1) cv) (s :: ss)) := T1
    clear T1 hlen1 e' hnil q1 q2 q3 hc O1
    go_wp2_with fail
    refine (HRQ.out _).mono ?_
    rintro e w2 ⟨rfl, B2⟩
    have D2 := D1.trans (B2.mono D1.size)
    have hg2 := tblk_below hg1 B2
    have T2 : Hid (Txs w1.heap.size w2 (.slice (some ⟨g, off, none⟩) (sl + 1) cv) (s :: ss)) := HT1.out.keep B2
    have hsz2 : w1.heap.size ≤ w2.heap.size := B2.size
    have D3 := D2.alloc D2.size (.cells #[.string qm, .string qt, .int .i64 qn, .slice none 0 0, .slice none 0 0] 43)
    have U3 : Below w2.heap.size w2 (w2.alloc (.cells #[.string qm, .string qt, .int .i64 qn, .slice none 0 0, .slice none 0 0] 43)) := (Below.refl _ _).alloc (Nat.le_refl _) _
    have hg3 := tblk_below hg2 U3
    have hr3 := tblk_new w2 (.cells #[.string qm, .string qt, .int .i64 qn, .slice none 0 0, .slice none 0 0] 43)
    have T3 : Hid (Txs (w2.heap.size + 1) (w2.alloc (.cells #[.string qm, .string qt, .int .i64 qn, .slice none 0 0, .slice none 0 0] 43)) (.slice (some ⟨g, off, none⟩) (sl + 1) cv) (s :: ss)) := (T2.out.keep (U3.mono hsz2)).mono (by omega)
    have hsp : w.heap.size < w2.heap.size := by omega
    clear HRQ D1 B2 D2 hg1 hg2 T2 HT1 U3 c0 hs1 hg hsz2
    by_cases hqc : qc = 0
    · subst hqc
      have HSZ3 : Hid ((w2.alloc (.cells #[.string qm, .string qt, .int .i64 qn, .slice none 0 0, .slice none 0 0] 43)).heap.size = w2.heap.size + 1) := by rw [Hid]; simp
      have hwp : w2.heap.size < (w2.alloc (.cells #[.string qm, .string qt, .int .i64 qn, .slice none 0 0, .slice none 0 0] 43)).heap.size := by simp
      go_wp2_with fail
      all_goals
        generalize w2.alloc (.cells #[.string qm, .string qt, .int .i64 qn, .slice none 0 0, .slice none 0 0] 43) = w3 at *
        generalize hpd : w2.heap.size = p at *
        have HTT : Hid (∀ x : Option Addr, (1 < cv → x = some ⟨g, off + 1, none⟩) → Txs w3.heap.size w3 (.slice x sl (cv - 1)) ss) := fun x hx => by
          have k := T3.out.tail (a' := x) (fun h => by rw [hx h]; show _ = some ((⟨g, off, none⟩ : Addr).add 1); rw [addr_add])
          rw [HSZ3.out]
          exact k
        have HF3 : Hid (∀ v : Value, Txs w3.heap.size w3 v ss → Calls Tryz.prog 88 #[v] w3 fun e w' => ∃ ao cv, e = .returned (.tuple #[.slice ao fs.length cv, .int .i64 sec]) ∧ OwnF w3.heap.size w' (.slice ao fs.length cv) fs ∧ Below w3.heap.size w3 w') := fun v hv => by
          obtain ⟨x, d, rfl, _⟩ := id hv
          have k := HFF.out w3 x d
          rw [HSL.out] at hv ⊢
          exact k hv
        clear hpd T3 HFF HSZ3
        refine (HF3.out _ (by first | exact HTT.out _ (fun _ => rfl) | (have hx := HTT.out (some ⟨g, off, none⟩) (fun h => by omega); rw [show cv - 1 = 0 by omega] at hx; exact hx))).mono ?_
        rintro e w4 ⟨fa, fc, rfl, O4, B4⟩
        have D4 := D3.trans (B4.mono D3.size)
        have hg4 := tblk_below hg3 B4
        have hr4 := tblk_below hr3 B4
        clear D3 hg3 hr3 B4 HF3 HTT HSL hcv1 hcv2
        by_cases hsec : sec = 0
        · subst hsec
          by_cases hn0 : n = 0
          · subst hn0
            have HE : Hid (H = hdNo code) := HQ.out
            clear HQ O4 hr4 HFO
            have HBZ : Hid _ := five_below (.string ⟨#[]⟩) (.string ⟨#[]⟩) (.int .i64 0) (.slice none 0 0) (.slice none 0 0) D4 (Nat.le_refl _)
            unfold five at HBZ
            have HW := five_cells hg4 (.string ⟨#[]⟩) (.string ⟨#[]⟩) (.int .i64 0) (.slice none 0 0) (.slice none 0 0)
            have a0 := tblk_cell (i := 0) hg4 rfl
            have z0 := lblk_z (i := 0) hg4
            have a1 := tblk_cell (i := 1) hg4 rfl
            have z1 := lblk_z (i := 1) hg4
            have a2 := tblk_cell (i := 2) hg4 rfl
            have z2 := lblk_z (i := 2) hg4
            have a3 := tblk_cell (i := 3) hg4 rfl
            have z3 := lblk_z (i := 3) hg4
            have a4 := tblk_cell (i := 4) hg4 rfl
            have z4 := lblk_z (i := 4) hg4
            have r0 := tblk_cell (i := 0) HW rfl
            have r1 := tblk_cell (i := 1) HW rfl
            have r2 := tblk_cell (i := 2) HW rfl
            have r3 := tblk_cell (i := 3) HW rfl
            have r4 := tblk_cell (i := 4) HW rfl
            unfold five at r0 r1 r2 r3 r4
            clear HW hg4 D4
            go_wp2
            refine bodyPost_ret (v := .tuple #[.agg #[.string ⟨#[]⟩, .string ⟨#[]⟩, .int .i64 0, .slice none 0 0, .slice none 0 0], .int .i64 0, .int .i64 0, .bool false, .int .i64 code]) (by simp [results, Tryz.results65, go_sem, r0, r1, r2, r3, r4]) rfl ?_
            exact openNo HBZ.out HE.out
          · have HQ2 : Hid (H = if headSt fs qn = 0 then ⟨qm, qt, qn, fs, n, 0⟩ else hdNo (headSt fs qn)) := by
              rw [Hid, HQ.out]
              unfold openK
              simp only [if_true]
              rw [if_neg hn0]
            have hn1 : ¬ ((n : Nat) : Int) = 0 := by omega
            have hn2 : (((n : Nat) : Int) == 0) = false := by simpa using hn1
            clear HQ
            have hr5 := field3 (v := .slice fa fs.length fc) hr4
            have hg5 : (w4.setCell ⟨p, 3, none⟩ (.slice fa fs.length fc)).heap[w.heap.size]? = some (.cells #[.string ⟨#[]⟩, .string ⟨#[]⟩, .int .i64 0, .slice none 0 0, .slice none 0 0] 43) := (set_away (by omega)).trans hg4
            have D5 : Below w.heap.size w (w4.setCell ⟨p, 3, none⟩ (.slice fa fs.length fc)) := D4.setCell (p := ⟨p, 3, none⟩) (Nat.le_of_lt hsp) _
            have O5 : OwnF w3.heap.size (w4.setCell ⟨p, 3, none⟩ (.slice fa fs.length fc)) (.slice fa fs.length fc) fs := O4.kept (fun k h1 h2 => set_away (by omega))
            have y3 := tblk_cell (i := 3) hr4 rfl
            have x3 := lblk_z (i := 3) hr4
            clear D4 hg4 hr4 O4
            have HGT : Hid (∀ W, Fds W.heap.size W (.slice fa fs.length fc) fs → Calls Tryz.prog 89 #[.slice fa fs.length fc, .string ⟨#[104, 111, 115, 116]⟩] W fun e w' => ∃ ao cv, e = .returned (.slice ao (getF fs tHost).length cv) ∧ OwnT W.heap.size w' (.slice ao (getF fs tHost).length cv) (getF fs tHost) ∧ Below W.heap.size W w') := fun W F => by
              have k := rget_any fs fa fc ⟨#[104, 111, 115, 116]⟩ W F (bd_big HFO.out.2) (by decide) (by have := HFO.out.1; omega)
              rw [getF_congr (show foldS ⟨#[104, 111, 115, 116]⟩ = foldS tHost by decide +kernel)] at k
              exact k
            have HR7 : Hid (∀ W, Fds W.heap.size W (.slice fa fs.length fc) fs → Calls Tryz.prog 91 #[.slice fa fs.length fc, .int .i64 qn] W fun e w' => e = .returned (.tuple #[.int .i64 (reqF fs qn).1, .bool (reqF fs qn).2.1, .int .i64 (reqF fs qn).2.2]) ∧ Below W.heap.size W w') := fun W F => rrequest_any fs fa fc qn W F (bd_big HFO.out.2) (by have := HFO.out.1; omega)
            have HBT : Hid (TBd 1000 (getF fs tHost)) := getF_bd HFO.out.2
            have HOS : Hid (opS (⟨qm, qt, qn, fs, n, 0⟩ : Hd) = ((reqF fs qn).1, (reqF fs qn).2.1)) := by
              rw [Hid]
              unfold opS
              rw [if_neg hn0]
            unfold headSt at HQ2
            generalize getF fs tHost = hs at *
            generalize reqF fs qn = E at *
            obtain ⟨E1, E2, E3⟩ := E
            simp only at HR7 HQ2 HOS
            clear HFO hn0
            have HFL : Hid (OwnF w3.heap.size (w4.setCell ⟨p, 3, none⟩ (.slice fa fs.length fc)) (.slice fa fs.length fc) fs) := O5
            clear O5
            go_wp2_with fail
            generalize w4.setCell ⟨p, 3, none⟩ (.slice fa fs.length fc) = w5 at *
            clear y3 x3
            refine (HGT.out _ HFL.out.fds).mono ?_
            rintro e w6 ⟨ao6, cv6, rfl, O6, B6⟩
            have D6 := D5.trans (B6.mono D5.size)
            have hg6 := tblk_below hg5 B6
            have hr6 := tblk_below hr5 B6
            have HF6 : Hid (OwnF w3.heap.size w6 (.slice fa fs.length fc) fs) := HFL.out.keep B6
            have d2 := tblk_cell (i := 2) hr6 rfl
            clear HFL D5 B6 hg5 hr5 HGT
            match hs, HQ2, HBT, O6 with
            | [], HQ2, _, O6 =>
              have hz : ([] : List ByteArray).length = 0 := rfl
              rw [hz] at *
              clear hz O6
              by_cases hq1 : qn = 1
              · subst hq1
                have HE : Hid (H = hdNo 400) := HQ2.out
                clear HQ2 HR7 HOS HF6 hr6
                have HBZ : Hid _ := five_below (.string ⟨#[]⟩) (.string ⟨#[]⟩) (.int .i64 0) (.slice none 0 0) (.slice none 0 0) D6 (Nat.le_refl _)
                unfold five at HBZ
                have HW := five_cells hg6 (.string ⟨#[]⟩) (.string ⟨#[]⟩) (.int .i64 0) (.slice none 0 0) (.slice none 0 0)
                have a0 := tblk_cell (i := 0) hg6 rfl
                have z0 := lblk_z (i := 0) hg6
                have a1 := tblk_cell (i := 1) hg6 rfl
                have z1 := lblk_z (i := 1) hg6
                have a2 := tblk_cell (i := 2) hg6 rfl
                have z2 := lblk_z (i := 2) hg6
                have a3 := tblk_cell (i := 3) hg6 rfl
                have z3 := lblk_z (i := 3) hg6
                have a4 := tblk_cell (i := 4) hg6 rfl
                have z4 := lblk_z (i := 4) hg6
                have r0 := tblk_cell (i := 0) HW rfl
                have r1 := tblk_cell (i := 1) HW rfl
                have r2 := tblk_cell (i := 2) HW rfl
                have r3 := tblk_cell (i := 3) HW rfl
                have r4 := tblk_cell (i := 4) HW rfl
                unfold five at r0 r1 r2 r3 r4
                clear HW hg6 D6
                go_wp2
                refine bodyPost_ret (v := .tuple #[.agg #[.string ⟨#[]⟩, .string ⟨#[]⟩, .int .i64 0, .slice none 0 0, .slice none 0 0], .int .i64 0, .int .i64 0, .bool false, .int .i64 400]) (by simp [results, Tryz.results65, go_sem, r0, r1, r2, r3, r4]) rfl ?_
                exact openNo HBZ.out HE.out
              · have hqb : (qn == 1) = false := by simpa using hq1
                have HQ3 : Hid (H = if E3 = 0 then ⟨qm, qt, qn, fs, n, 0⟩ else hdNo E3) := by
                  rw [Hid, HQ2.out]
                  have e : hostsOk [] qn = true := by unfold hostsOk; rw [hqb]; rfl
                  rw [e]
                  simp only [if_true]
                clear HQ2
                have d2 := tblk_cell (i := 2) hr6 rfl
                go_wp2_with fail
                refine (HR7.out _ HF6.out.fds).mono ?_
                rintro e w8 ⟨rfl, B8⟩
                have D8 := D6.trans (B8.mono D6.size)
                have hg8 := tblk_below hg6 B8
                have hr8 := tblk_below hr6 B8
                have HF8 : Hid (OwnF w3.heap.size w8 (.slice fa fs.length fc) fs) := HF6.out.keep B8
                clear d2 D6 hg6 hr6 HF6 B8 HR7
                by_cases hE3 : E3 = 0
                · subst hE3
                  have HE : Hid (H = ⟨qm, qt, qn, fs, n, 0⟩) := HQ3.out
                  clear HQ3
                  have HB5 : Hid _ := five_below (.string qm) (.string qt) (.int .i64 qn) (.slice fa fs.length fc) (.slice none 0 0) D8 (Nat.le_refl _)
                  have HO5 : Hid (OwnF w.heap.size (five w8 w.heap.size (.string qm) (.string qt) (.int .i64 qn) (.slice fa fs.length fc) (.slice none 0 0)) (.slice fa fs.length fc) fs) := (HF8.out.kept (fun k h1 h2 => five_away (by omega))).mono (by omega)
                  unfold five at HB5 HO5
                  have d0 := tblk_cell (i := 0) hr8 rfl
                  have d1 := tblk_cell (i := 1) hr8 rfl
                  have d2 := tblk_cell (i := 2) hr8 rfl
                  have d3 := tblk_cell (i := 3) hr8 rfl
                  have d4 := tblk_cell (i := 4) hr8 rfl
                  clear HF8 hr8 D8
                  have HW := five_cells hg8 (.string qm) (.string qt) (.int .i64 qn) (.slice fa fs.length fc) (.slice none 0 0)
                  have a0 := tblk_cell (i := 0) hg8 rfl
                  have z0 := lblk_z (i := 0) hg8
                  have a1 := tblk_cell (i := 1) hg8 rfl
                  have z1 := lblk_z (i := 1) hg8
                  have a2 := tblk_cell (i := 2) hg8 rfl
                  have z2 := lblk_z (i := 2) hg8
                  have a3 := tblk_cell (i := 3) hg8 rfl
                  have z3 := lblk_z (i := 3) hg8
                  have a4 := tblk_cell (i := 4) hg8 rfl
                  have z4 := lblk_z (i := 4) hg8
                  have r0 := tblk_cell (i := 0) HW rfl
                  have r1 := tblk_cell (i := 1) HW rfl
                  have r2 := tblk_cell (i := 2) HW rfl
                  have r3 := tblk_cell (i := 3) HW rfl
                  have r4 := tblk_cell (i := 4) HW rfl
                  unfold five at r0 r1 r2 r3 r4
                  clear HW hg8
                  go_wp2
                  refine bodyPost_ret (v := .tuple #[.agg #[.string qm, .string qt, .int .i64 qn, .slice fa fs.length fc, .slice none 0 0], .int .i64 (n : Nat), .int .i64 E1, .bool E2, .int .i64 0]) (by simp [results, Tryz.results65, go_sem, r0, r1, r2, r3, r4]) rfl ?_
                  rw [HE.out]
                  refine ⟨fa, fc, ?_, HO5.out, HB5.out⟩
                  unfold opV
                  rw [HOS.out]
                · have HE : Hid (H = hdNo E3) := by rw [Hid, HQ3.out, if_neg hE3]
                  have hE3b : (E3 != 0) = true := by simpa using hE3
                  clear HQ3 hr8 HF8 HOS
                  have HBZ : Hid _ := five_below (.string ⟨#[]⟩) (.string ⟨#[]⟩) (.int .i64 0) (.slice none 0 0) (.slice none 0 0) D8 (Nat.le_refl _)
                  unfold five at HBZ
                  have HW := five_cells hg8 (.string ⟨#[]⟩) (.string ⟨#[]⟩) (.int .i64 0) (.slice none 0 0) (.slice none 0 0)
                  have a0 := tblk_cell (i := 0) hg8 rfl
                  have z0 := lblk_z (i := 0) hg8
                  have a1 := tblk_cell (i := 1) hg8 rfl
                  have z1 := lblk_z (i := 1) hg8
                  have a2 := tblk_cell (i := 2) hg8 rfl
                  have z2 := lblk_z (i := 2) hg8
                  have a3 := tblk_cell (i := 3) hg8 rfl
                  have z3 := lblk_z (i := 3) hg8
                  have a4 := tblk_cell (i := 4) hg8 rfl
                  have z4 := lblk_z (i := 4) hg8
                  have r0 := tblk_cell (i := 0) HW rfl
                  have r1 := tblk_cell (i := 1) HW rfl
                  have r2 := tblk_cell (i := 2) HW rfl
                  have r3 := tblk_cell (i := 3) HW rfl
                  have r4 := tblk_cell (i := 4) HW rfl
                  unfold five at r0 r1 r2 r3 r4
                  clear HW hg8 D8
                  go_wp2
                  refine bodyPost_ret (v := .tuple #[.agg #[.string ⟨#[]⟩, .string ⟨#[]⟩, .int .i64 0, .slice none 0 0, .slice none 0 0], .int .i64 0, .int .i64 0, .bool false, .int .i64 E3]) (by simp [results, Tryz.results65, go_sem, r0, r1, r2, r3, r4]) rfl ?_
                  exact openNo HBZ.out HE.out
            | [h], HQ2, HBT, O6 =>
              have hz : ([h] : List ByteArray).length = 1 := rfl
              rw [hz] at *
              have hsz := HBT.out h (List.mem_cons_self ..)
              have HHO : Hid (∀ W, Calls Tryz.prog 90 #[.string h] W fun e w' => e = .returned (.tuple #[.string (hostP h).1, .bool (hostP h).2]) ∧ Below W.heap.size W w') := fun W => rhost_any h W (by omega)
              obtain ⟨a', c', e', _, q1, q2, q3⟩ := O6.txs
              obtain ⟨rfl, hx1, rfl⟩ := slice_inj e'
              obtain ⟨g6, off6, rfl, _, hc6⟩ := q3 (Nat.succ_pos _)
              have c6 : w6.cell? ⟨g6, off6, none⟩ = some (.string h) := hc6 0 (Nat.succ_pos _)
              clear q1 q2 q3 hc6 hx1 e' hsz O6 hz d2
              have HQ3 : Hid (H = if (if (hostP h).2 = true then E3 else 400) = 0 then ⟨qm, qt, qn, fs, n, 0⟩ else hdNo (if (hostP h).2 = true then E3 else 400)) := by
                rw [Hid, HQ2.out]
                have e : hostsOk [h] qn = (hostP h).2 := by unfold hostsOk; simp
                rw [e]
              clear HQ2
              generalize hostP h = hp at *
              obtain ⟨hp1, hp2⟩ := hp
              simp only at HHO HQ3
              go_wp2_with fail
              refine (HHO.out _).mono ?_
              rintro e w7 ⟨rfl, B7⟩
              have D7 := D6.trans (B7.mono D6.size)
              have hg7 := tblk_below hg6 B7
              have hr7 := tblk_below hr6 B7
              have HF7 : Hid (OwnF w3.heap.size w7 (.slice fa fs.length fc) fs) := HF6.out.keep B7
              clear c6 D6 hg6 hr6 HF6 HHO B7
              cases hp2
              · have HE : Hid (H = hdNo 400) := HQ3.out
                clear HQ3 HR7 HOS HF7 hr7
                have HBZ : Hid _ := five_below (.string ⟨#[]⟩) (.string ⟨#[]⟩) (.int .i64 0) (.slice none 0 0) (.slice none 0 0) D7 (Nat.le_refl _)
                unfold five at HBZ
                have HW := five_cells hg7 (.string ⟨#[]⟩) (.string ⟨#[]⟩) (.int .i64 0) (.slice none 0 0) (.slice none 0 0)
                have a0 := tblk_cell (i := 0) hg7 rfl
                have z0 := lblk_z (i := 0) hg7
                have a1 := tblk_cell (i := 1) hg7 rfl
                have z1 := lblk_z (i := 1) hg7
                have a2 := tblk_cell (i := 2) hg7 rfl
                have z2 := lblk_z (i := 2) hg7
                have a3 := tblk_cell (i := 3) hg7 rfl
                have z3 := lblk_z (i := 3) hg7
                have a4 := tblk_cell (i := 4) hg7 rfl
                have z4 := lblk_z (i := 4) hg7
                have r0 := tblk_cell (i := 0) HW rfl
                have r1 := tblk_cell (i := 1) HW rfl
                have r2 := tblk_cell (i := 2) HW rfl
                have r3 := tblk_cell (i := 3) HW rfl
                have r4 := tblk_cell (i := 4) HW rfl
                unfold five at r0 r1 r2 r3 r4
                clear HW hg7 D7
                go_wp2
                refine bodyPost_ret (v := .tuple #[.agg #[.string ⟨#[]⟩, .string ⟨#[]⟩, .int .i64 0, .slice none 0 0, .slice none 0 0], .int .i64 0, .int .i64 0, .bool false, .int .i64 400]) (by simp [results, Tryz.results65, go_sem, r0, r1, r2, r3, r4]) rfl ?_
                exact openNo HBZ.out HE.out
              · have HQ4 : Hid (H = if E3 = 0 then ⟨qm, qt, qn, fs, n, 0⟩ else hdNo E3) := by
                  have k := HQ3.out
                  rw [Hid]
                  simpa using k
                clear HQ3
                have HQ3 := HQ4
                clear HQ4
                have d2 := tblk_cell (i := 2) hr7 rfl
                go_wp2_with fail
                refine (HR7.out _ HF7.out.fds).mono ?_
                rintro e w8 ⟨rfl, B8⟩
                have D8 := D7.trans (B8.mono D7.size)
                have hg8 := tblk_below hg7 B8
                have hr8 := tblk_below hr7 B8
                have HF8 : Hid (OwnF w3.heap.size w8 (.slice fa fs.length fc) fs) := HF7.out.keep B8
                clear d2 D7 hg7 hr7 HF7 B8 HR7
                by_cases hE3 : E3 = 0
                · subst hE3
                  have HE : Hid (H = ⟨qm, qt, qn, fs, n, 0⟩) := HQ3.out
                  clear HQ3
                  have HB5 : Hid _ := five_below (.string qm) (.string qt) (.int .i64 qn) (.slice fa fs.length fc) (.slice none 0 0) D8 (Nat.le_refl _)
                  have HO5 : Hid (OwnF w.heap.size (five w8 w.heap.size (.string qm) (.string qt) (.int .i64 qn) (.slice fa fs.length fc) (.slice none 0 0)) (.slice fa fs.length fc) fs) := (HF8.out.kept (fun k h1 h2 => five_away (by omega))).mono (by omega)
                  unfold five at HB5 HO5
                  have d0 := tblk_cell (i := 0) hr8 rfl
                  have d1 := tblk_cell (i := 1) hr8 rfl
                  have d2 := tblk_cell (i := 2) hr8 rfl
                  have d3 := tblk_cell (i := 3) hr8 rfl
                  have d4 := tblk_cell (i := 4) hr8 rfl
                  clear HF8 hr8 D8
                  have HW := five_cells hg8 (.string qm) (.string qt) (.int .i64 qn) (.slice fa fs.length fc) (.slice none 0 0)
                  have a0 := tblk_cell (i := 0) hg8 rfl
                  have z0 := lblk_z (i := 0) hg8
                  have a1 := tblk_cell (i := 1) hg8 rfl
                  have z1 := lblk_z (i := 1) hg8
                  have a2 := tblk_cell (i := 2) hg8 rfl
                  have z2 := lblk_z (i := 2) hg8
                  have a3 := tblk_cell (i := 3) hg8 rfl
                  have z3 := lblk_z (i := 3) hg8
                  have a4 := tblk_cell (i := 4) hg8 rfl
                  have z4 := lblk_z (i := 4) hg8
                  have r0 := tblk_cell (i := 0) HW rfl
                  have r1 := tblk_cell (i := 1) HW rfl
                  have r2 := tblk_cell (i := 2) HW rfl
                  have r3 := tblk_cell (i := 3) HW rfl
                  have r4 := tblk_cell (i := 4) HW rfl
                  unfold five at r0 r1 r2 r3 r4
                  clear HW hg8
                  go_wp2
                  refine bodyPost_ret (v := .tuple #[.agg #[.string qm, .string qt, .int .i64 qn, .slice fa fs.length fc, .slice none 0 0], .int .i64 (n : Nat), .int .i64 E1, .bool E2, .int .i64 0]) (by simp [results, Tryz.results65, go_sem, r0, r1, r2, r3, r4]) rfl ?_
                  rw [HE.out]
                  refine ⟨fa, fc, ?_, HO5.out, HB5.out⟩
                  unfold opV
                  rw [HOS.out]
                · have HE : Hid (H = hdNo E3) := by rw [Hid, HQ3.out, if_neg hE3]
                  have hE3b : (E3 != 0) = true := by simpa using hE3
                  clear HQ3 hr8 HF8 HOS
                  have HBZ : Hid _ := five_below (.string ⟨#[]⟩) (.string ⟨#[]⟩) (.int .i64 0) (.slice none 0 0) (.slice none 0 0) D8 (Nat.le_refl _)
                  unfold five at HBZ
                  have HW := five_cells hg8 (.string ⟨#[]⟩) (.string ⟨#[]⟩) (.int .i64 0) (.slice none 0 0) (.slice none 0 0)
                  have a0 := tblk_cell (i := 0) hg8 rfl
                  have z0 := lblk_z (i := 0) hg8
                  have a1 := tblk_cell (i := 1) hg8 rfl
                  have z1 := lblk_z (i := 1) hg8
                  have a2 := tblk_cell (i := 2) hg8 rfl
                  have z2 := lblk_z (i := 2) hg8
                  have a3 := tblk_cell (i := 3) hg8 rfl
                  have z3 := lblk_z (i := 3) hg8
                  have a4 := tblk_cell (i := 4) hg8 rfl
                  have z4 := lblk_z (i := 4) hg8
                  have r0 := tblk_cell (i := 0) HW rfl
                  have r1 := tblk_cell (i := 1) HW rfl
                  have r2 := tblk_cell (i := 2) HW rfl
                  have r3 := tblk_cell (i := 3) HW rfl
                  have r4 := tblk_cell (i := 4) HW rfl
                  unfold five at r0 r1 r2 r3 r4
                  clear HW hg8 D8
                  go_wp2
                  refine bodyPost_ret (v := .tuple #[.agg #[.string ⟨#[]⟩, .string ⟨#[]⟩, .int .i64 0, .slice none 0 0, .slice none 0 0], .int .i64 0, .int .i64 0, .bool false, .int .i64 E3]) (by simp [results, Tryz.results65, go_sem, r0, r1, r2, r3, r4]) rfl ?_
                  exact openNo HBZ.out HE.out
            | h1 :: h2 :: r, HQ2, _, O6 =>
              have HE : Hid (H = hdNo 400) := by
                rw [Hid, HQ2.out]
                have e : hostsOk (h1 :: h2 :: r) qn = false := by unfold hostsOk; simp
                rw [e]
                rfl
              have hz : (h1 :: h2 :: r : List ByteArray).length = r.length + 2 := rfl
              rw [hz] at *
              have hz1 : (1 : Int) < ((r.length + 2 : Nat) : Int) := by omega
              generalize r.length + 2 = rl at *
              clear HQ2 HR7 HOS HF6 hr6 O6 d2
              have HBZ : Hid _ := five_below (.string ⟨#[]⟩) (.string ⟨#[]⟩) (.int .i64 0) (.slice none 0 0) (.slice none 0 0) D6 (Nat.le_refl _)
              unfold five at HBZ
              have HW := five_cells hg6 (.string ⟨#[]⟩) (.string ⟨#[]⟩) (.int .i64 0) (.slice none 0 0) (.slice none 0 0)
              have a0 := tblk_cell (i := 0) hg6 rfl
              have z0 := lblk_z (i := 0) hg6
              have a1 := tblk_cell (i := 1) hg6 rfl
              have z1 := lblk_z (i := 1) hg6
              have a2 := tblk_cell (i := 2) hg6 rfl
              have z2 := lblk_z (i := 2) hg6
              have a3 := tblk_cell (i := 3) hg6 rfl
              have z3 := lblk_z (i := 3) hg6
              have a4 := tblk_cell (i := 4) hg6 rfl
              have z4 := lblk_z (i := 4) hg6
              have r0 := tblk_cell (i := 0) HW rfl
              have r1 := tblk_cell (i := 1) HW rfl
              have r2 := tblk_cell (i := 2) HW rfl
              have r3 := tblk_cell (i := 3) HW rfl
              have r4 := tblk_cell (i := 4) HW rfl
              unfold five at r0 r1 r2 r3 r4
              clear HW hg6 D6
              go_wp2
              refine bodyPost_ret (v := .tuple #[.agg #[.string ⟨#[]⟩, .string ⟨#[]⟩, .int .i64 0, .slice none 0 0, .slice none 0 0], .int .i64 0, .int .i64 0, .bool false, .int .i64 400]) (by simp [results, Tryz.results65, go_sem, r0, r1, r2, r3, r4]) rfl ?_
              exact openNo HBZ.out HE.out
        · have HE : Hid (H = hdNo sec) := by
            rw [Hid, HQ.out]
            unfold openK
            simp only [if_true]
            rw [if_neg hsec]
          have hsb : (sec != 0) = true := by simpa using hsec
          clear HQ O4 hr4 HFO
          have HBZ : Hid _ := five_below (.string ⟨#[]⟩) (.string ⟨#[]⟩) (.int .i64 0) (.slice none 0 0) (.slice none 0 0) D4 (Nat.le_refl _)
          unfold five at HBZ
          have HW := five_cells hg4 (.string ⟨#[]⟩) (.string ⟨#[]⟩) (.int .i64 0) (.slice none 0 0) (.slice none 0 0)
          have a0 := tblk_cell (i := 0) hg4 rfl
          have z0 := lblk_z (i := 0) hg4
          have a1 := tblk_cell (i := 1) hg4 rfl
          have z1 := lblk_z (i := 1) hg4
          have a2 := tblk_cell (i := 2) hg4 rfl
          have z2 := lblk_z (i := 2) hg4
          have a3 := tblk_cell (i := 3) hg4 rfl
          have z3 := lblk_z (i := 3) hg4
          have a4 := tblk_cell (i := 4) hg4 rfl
          have z4 := lblk_z (i := 4) hg4
          have r0 := tblk_cell (i := 0) HW rfl
          have r1 := tblk_cell (i := 1) HW rfl
          have r2 := tblk_cell (i := 2) HW rfl
          have r3 := tblk_cell (i := 3) HW rfl
          have r4 := tblk_cell (i := 4) HW rfl
          unfold five at r0 r1 r2 r3 r4
          clear HW hg4 D4
          go_wp2
          refine bodyPost_ret (v := .tuple #[.agg #[.string ⟨#[]⟩, .string ⟨#[]⟩, .int .i64 0, .slice none 0 0, .slice none 0 0], .int .i64 0, .int .i64 0, .bool false, .int .i64 sec]) (by simp [results, Tryz.results65, go_sem, r0, r1, r2, r3, r4]) rfl ?_
          exact openNo HBZ.out HE.out
    · have HE : Hid (H = hdNo qc) := by rw [Hid, HQ.out]; unfold openK; rw [if_neg hqc]
      have hqb : (qc != 0) = true := by simpa using hqc
      clear HQ HFF hr3 T3 hsp
      have HBZ : Hid _ := five_below (.string ⟨#[]⟩) (.string ⟨#[]⟩) (.int .i64 0) (.slice none 0 0) (.slice none 0 0) D3 (Nat.le_refl _)
      unfold five at HBZ
      have HW := five_cells hg3 (.string ⟨#[]⟩) (.string ⟨#[]⟩) (.int .i64 0) (.slice none 0 0) (.slice none 0 0)
      have a0 := tblk_cell (i := 0) hg3 rfl
      have z0 := lblk_z (i := 0) hg3
      have a1 := tblk_cell (i := 1) hg3 rfl
      have z1 := lblk_z (i := 1) hg3
      have a2 := tblk_cell (i := 2) hg3 rfl
      have z2 := lblk_z (i := 2) hg3
      have a3 := tblk_cell (i := 3) hg3 rfl
      have z3 := lblk_z (i := 3) hg3
      have a4 := tblk_cell (i := 4) hg3 rfl
      have z4 := lblk_z (i := 4) hg3
      have r0 := tblk_cell (i := 0) HW rfl
      have r1 := tblk_cell (i := 1) HW rfl
      have r2 := tblk_cell (i := 2) HW rfl
      have r3 := tblk_cell (i := 3) HW rfl
      have r4 := tblk_cell (i := 4) HW rfl
      unfold five at r0 r1 r2 r3 r4
      clear HW hg3 D3
      go_wp2
      refine bodyPost_ret (v := .tuple #[.agg #[.string ⟨#[]⟩, .string ⟨#[]⟩, .int .i64 0, .slice none 0 0, .slice none 0 0], .int .i64 0, .int .i64 0, .bool false, .int .i64 qc]) (by simp [results, Tryz.results65, go_sem, r0, r1, r2, r3, r4]) rfl ?_
      exact openNo HBZ.out HE.out

end Go.Proofs.YtemmmdhmkegaaaaGreatDoor

/- Where a byte stands in a list: plain facts. -/
namespace Go.Proofs.YtemmmdhmkegaaaaGreatDoor
open Go.RowKit
set_option linter.unusedVariables false

theorem index_miss (c : UInt8) : ∀ (l : List UInt8), (∀ b ∈ l, b ≠ c) → Lib.index l [c] = -1
  | [], _ => by rw [Lib.index]; simp
  | b :: l, h => by
    rw [Lib.index]
    have hp : ([c] : List UInt8).isPrefixOf (b :: l) = false := by simp [List.isPrefixOf, Ne.symm (h b (.head _))]
    rw [hp, index_miss c l (fun x hx => h x (.tail _ hx))]
    simp
theorem index_hit (c : UInt8) : ∀ (p q : List UInt8), (∀ b ∈ p, b ≠ c) → Lib.index (p ++ c :: q) [c] = p.length
  | [], q, _ => by rw [List.nil_append, Lib.index]; simp [List.isPrefixOf]
  | b :: p, q, h => by
    rw [List.cons_append, Lib.index]
    have hp : ([c] : List UInt8).isPrefixOf (b :: (p ++ c :: q)) = false := by simp [List.isPrefixOf, Ne.symm (h b (.head _))]
    rw [hp, index_hit c p q (fun x hx => h x (.tail _ hx))]
    have : ¬ ((p.length : Int) = -1) := by omega
    simp [this]
theorem cut_none (c : UInt8) (l : List UInt8) (h : ∀ b ∈ l, b ≠ c) : Lib.cut l [c] = (l, [], false) := by
  unfold Lib.cut; rw [index_miss c l h, if_neg (by decide)]
theorem cut_some (c : UInt8) (p q : List UInt8) (h : ∀ b ∈ p, b ≠ c) : Lib.cut (p ++ c :: q) [c] = (p, q, true) := by
  unfold Lib.cut; rw [index_hit c p q h, if_pos (by omega)]
  simp
end Go.Proofs.YtemmmdhmkegaaaaGreatDoor

/- What the reference's reading of numbers answers of every text. -/
namespace Go.Proofs.YtemmmdhmkegaaaaGreatDoor
open Go.RowKit
set_option linter.unusedVariables false

set_option maxHeartbeats 2000000 in
theorem rhex_any (s : ByteArray) (w : World) (hs : s.size ≤ maxLen) :
    Calls Tryz.prog 157 #[.string s] w fun e w' => e = .returned (.tuple #[.int .i64 (numI 16 15 s), .bool (numB 16 15 s)]) ∧ w' = w := by
  unfold maxLen at hs
  by_cases hz : (s.size : Int) < 1
  · have E : Hid (numI 16 15 s = 0 ∧ numB 16 15 s = false) := num_out (.inl (by omega))
    go_enter Tryz.func157, Tryz.ntmps157
    go_wp2
    go_ret2
    exact ⟨ret2_ib E.out.1.symm E.out.2.symm, rfl⟩
  · by_cases hm : (15 : Int) < (s.size : Int)
    · have E : Hid (numI 16 15 s = 0 ∧ numB 16 15 s = false) := num_out (.inr (by omega))
      go_enter Tryz.func157, Tryz.ntmps157
      go_wp2
      go_ret2
      exact ⟨ret2_ib E.out.1.symm E.out.2.symm, rfl⟩
    · have hout : Hid (¬ (s.size = 0 ∨ 15 < s.size)) := by rw [Hid]; omega
      go_enter Tryz.func157, Tryz.ntmps157
      go_wp2
      go_loop [4, 5] (fun vn vi => ∃ k n : Nat, k ≤ s.size ∧ vi = .int .i64 k ∧ vn = .int .i64 n ∧ Hid (vN 16 (s.data.toList.take k) = some n)) (fun _ vi => s.size - (intOf vi).toNat)
      case atStart => exact ⟨0, 0, Nat.zero_le _, rfl, rfl, rfl⟩
      case round =>
        obtain ⟨k, n, hk, rfl, rfl, hv⟩ := hrel
        by_cases hlt : k < s.size
        · have bd := byte_bd s[k]
          have hn : n < 72057594037927936 := vN_take_lt 16 14 (by decide) s k (by omega) n hv.out
          have HD : Hid (((dgN s[k] : Nat) : Int) = dgI (s[k].toNat : Int)) := dgN_cast s[k]
          by_cases hb : 48 ≤ (s[k].toNat : Int) ∧ (s[k].toNat : Int) ≤ 57
          · have E1 : Hid (dgI (s[k].toNat : Int) = (s[k].toNat : Int) - 48) := by rw [Hid, dgI, if_pos hb]
            have E : Hid (vN 16 (s.data.toList.take (k + 1)) = some (n * 16 + dgN s[k])) := vN_next 16 s k hlt n hv.out (by have := HD.out; have := E1.out; omega)
            have ED : Hid (isD (s[k].toNat : Int) = true) := by rw [Hid, isD]; simp; omega
            obtain ⟨b0, b1⟩ := hb
            go_wp2_with fail
            refine (rdigit_any _ _).mono ?_
            rw [ED.out]
            rintro e w' ⟨rfl, rfl⟩
            go_wp2
            go_round
            case rel => exact ⟨k + 1, n * 16 + dgN s[k], by omega, by go_num, by have h1 := HD.out; have h2 := E1.out; rw [Int.natCast_add, Int.natCast_mul, h1, h2]; rfl, E⟩
            case measure => simp [intOf]; omega
          · have ED : Hid (isD (s[k].toNat : Int) = false) := by rw [Hid, isD]; simp; omega
            by_cases hc : 97 ≤ (s[k].toNat : Int) ∧ (s[k].toNat : Int) ≤ 102
            · have E1 : Hid (dgI (s[k].toNat : Int) = (s[k].toNat : Int) - 97 + 10) := by rw [Hid, dgI, if_neg hb, if_pos hc]; omega
              have E : Hid (vN 16 (s.data.toList.take (k + 1)) = some (n * 16 + dgN s[k])) := vN_next 16 s k hlt n hv.out (by have := HD.out; have := E1.out; omega)
              obtain ⟨b0, b1⟩ := hc
              clear hb
              go_wp2_with fail
              refine (rdigit_any _ _).mono ?_
              rw [ED.out]
              rintro e w' ⟨rfl, rfl⟩
              go_wp2
              go_round
              case rel => exact ⟨k + 1, n * 16 + dgN s[k], by omega, by go_num, by have h1 := HD.out; have h2 := E1.out; rw [Int.natCast_add, Int.natCast_mul, h1, h2]; go_num, E⟩
              case measure => simp [intOf]; omega
            · by_cases hf : 65 ≤ (s[k].toNat : Int) ∧ (s[k].toNat : Int) ≤ 70
              · have E1 : Hid (dgI (s[k].toNat : Int) = (s[k].toNat : Int) - 65 + 10) := by rw [Hid, dgI, if_neg hb, if_neg hc, if_pos hf]; omega
                have E : Hid (vN 16 (s.data.toList.take (k + 1)) = some (n * 16 + dgN s[k])) := vN_next 16 s k hlt n hv.out (by have := HD.out; have := E1.out; omega)
                obtain ⟨b0, b1⟩ := hf
                have c0 : ¬ 97 ≤ (s[k].toNat : Int) := by omega
                clear hb hc
                go_wp2_with fail
                refine (rdigit_any _ _).mono ?_
                rw [ED.out]
                rintro e w' ⟨rfl, rfl⟩
                go_wp2
                go_round
                case rel => exact ⟨k + 1, n * 16 + dgN s[k], by omega, by go_num, by have h1 := HD.out; have h2 := E1.out; rw [Int.natCast_add, Int.natCast_mul, h1, h2]; go_num, E⟩
                case measure => simp [intOf]; omega
              · have E : Hid (numI 16 15 s = 0 ∧ numB 16 15 s = false) := num_bad (vN_bad_at 16 s k hlt (by have h1 := HD.out; unfold dgI at h1; rw [if_neg hb, if_neg hc, if_neg hf] at h1; omega))
                have HB : Hid (¬ (48 ≤ (s[k].toNat : Int) ∧ (s[k].toNat : Int) ≤ 57)) := hb
                clear hb
                by_cases x : 97 ≤ (s[k].toNat : Int)
                · have x2 : ¬ (s[k].toNat : Int) ≤ 102 := by omega
                  have x3 : 65 ≤ (s[k].toNat : Int) := by omega
                  have x4 : ¬ (s[k].toNat : Int) ≤ 70 := by omega
                  clear hc hf
                  go_wp2_with fail
                  refine (rdigit_any _ _).mono ?_
                  rw [ED.out]
                  rintro e w' ⟨rfl, rfl⟩
                  go_wp2
                  go_ret2
                  exact ⟨ret2_ib E.out.1.symm E.out.2.symm, rfl⟩
                · by_cases y : 65 ≤ (s[k].toNat : Int)
                  · have x4 : ¬ (s[k].toNat : Int) ≤ 70 := by omega
                    clear hc hf
                    go_wp2_with fail
                    refine (rdigit_any _ _).mono ?_
                    rw [ED.out]
                    rintro e w' ⟨rfl, rfl⟩
                    go_wp2
                    go_ret2
                    exact ⟨ret2_ib E.out.1.symm E.out.2.symm, rfl⟩
                  · clear hc hf
                    go_wp2_with fail
                    refine (rdigit_any _ _).mono ?_
                    rw [ED.out]
                    rintro e w' ⟨rfl, rfl⟩
                    go_wp2
                    go_ret2
                    exact ⟨ret2_ib E.out.1.symm E.out.2.symm, rfl⟩
        · go_wp2
          go_ret2
          have hk' : k = s.size := by omega
          subst hk'
          have h := hv.out
          rw [List.take_of_length_le (by simp)] at h
          exact ⟨ret2_ib (num_ok hout.out h).1.symm (num_ok hout.out h).2.symm, rfl⟩
end Go.Proofs.YtemmmdhmkegaaaaGreatDoor

/- The reference's reading of a chunk's size. -/
namespace Go.Proofs.YtemmmdhmkegaaaaGreatDoor
open Go.RowKit
set_option linter.unusedVariables false

def f59 : List UInt8 → Nat
  | [] => 0
  | b :: l => if b = 59 then 0 else f59 l + 1
theorem f59_le : ∀ l : List UInt8, f59 l ≤ l.length
  | [] => Nat.le_refl _
  | b :: l => by
    rw [f59]
    have := f59_le l
    split
    · exact Nat.zero_le _
    · rw [List.length_cons]; omega
theorem f59_cut : ∀ l : List UInt8, (∀ b ∈ l.take (f59 l), b ≠ 59) ∧ (f59 l < l.length → l = l.take (f59 l) ++ 59 :: l.drop (f59 l + 1))
  | [] => ⟨(fun b h => by cases h), fun h => by simp at h⟩
  | b :: l => by
    have ih := f59_cut l
    rw [f59]
    by_cases hb : b = 59
    · rw [if_pos hb]
      exact ⟨(fun x h => by cases h), fun _ => by rw [hb]; rfl⟩
    · rw [if_neg hb, List.take_succ_cons, List.drop_succ_cons]
      refine ⟨fun x hx => ?_, fun h => ?_⟩
      · cases hx with
        | head => exact hb
        | tail _ hx => exact ih.1 x hx
      · rw [List.cons_append, ← ih.2 (by rw [List.length_cons] at h; omega)]
theorem cut_f59 (l : List UInt8) : (Lib.cut l [59]).1 = l.take (f59 l) ∧ (f59 l < l.length → (Lib.cut l [59]).2.1 = l.drop (f59 l + 1)) ∧ (¬ f59 l < l.length → (Lib.cut l [59]).2.1 = []) := by
  obtain ⟨h1, h2⟩ := f59_cut l
  by_cases h : f59 l < l.length
  · have e := cut_some 59 (l.take (f59 l)) (l.drop (f59 l + 1)) h1
    rw [← h2 h] at e
    rw [e]
    exact ⟨rfl, fun _ => rfl, fun c => absurd h c⟩
  · have hf : f59 l = l.length := by have := f59_le l; omega
    rw [hf, List.take_length] at h1
    have e := cut_none 59 l h1
    rw [e, hf, List.take_length]
    exact ⟨rfl, fun c => absurd c (Nat.lt_irrefl _), fun _ => rfl⟩
theorem f59_step (s : ByteArray) (k : Nat) (h : k < s.size) : k + f59 (s.data.toList.drop k) = if s[k] = 59 then k else (k + 1) + f59 (s.data.toList.drop (k + 1)) := by
  have hk : k < s.data.toList.length := h
  rw [List.drop_eq_getElem_cons hk, f59, show s.data.toList[k] = s[k] from rfl]
  split <;> omega
theorem trimR_step (l : List UInt8) (b : UInt8) (hb : blk b = true) : Lib.trimRightS (l ++ [b]) [32, 9] = Lib.trimRightS l [32, 9] := by
  unfold Lib.trimRightS
  rw [List.reverse_append, List.reverse_singleton, List.singleton_append, List.dropWhile_cons, if_pos (show ([32, 9] : List UInt8).contains b = true from hb)]
theorem trimR_stop (l : List UInt8) (b : UInt8) (hb : blk b = false) : Lib.trimRightS (l ++ [b]) [32, 9] = l ++ [b] := by
  unfold Lib.trimRightS
  rw [List.reverse_append, List.reverse_singleton, List.singleton_append, List.dropWhile_cons, if_neg (by unfold blk at hb; rw [hb]; decide)]
  simp
set_option maxRecDepth 100000 in
set_option maxHeartbeats 4000000 in
theorem rsize_any (s : ByteArray) (w : World) (hs : s.size ≤ 256) : Calls Tryz.prog 128 #[.string s] w fun e w' => e = .returned (.tuple #[.int .i64 ((szO s.data.toList).getD 0 : Nat), .bool (szO s.data.toList).isSome]) ∧ w' = w := by
  obtain ⟨Z, hZ⟩ : ∃ Z, Z = szO s.data.toList := ⟨_, rfl⟩
  rw [← hZ]
  have HZ : Hid (Z = szO s.data.toList) := hZ
  clear hZ
  go_enter Tryz.func128, Tryz.ntmps128
  go_wp2_with fail
  go_loop [4, 5] (fun ve vi => ∃ k : Nat, k ≤ s.size ∧ vi = .int .i64 ((k : Int) - 1) ∧ ve = .int .i64 (k + f59 (s.data.toList.drop k) : Nat)) (fun _ vi => (intOf vi + 1).toNat)
  case atStart => exact ⟨s.size, Nat.le_refl _, rfl, by rw [List.drop_eq_nil_of_le (show s.data.toList.length ≤ s.size from Nat.le_refl _)]; rfl⟩
  case round =>
    obtain ⟨k, hk, rfl, rfl⟩ := hrel
    by_cases hk0 : 0 < k
    · obtain ⟨j, rfl⟩ : ∃ j, k = j + 1 := ⟨k - 1, by omega⟩
      have hj : j < s.size := by omega
      have hst := f59_step s j hj
      have HST : Hid (j + f59 (s.data.toList.drop j) = if s[j] = 59 then j else (j + 1) + f59 (s.data.toList.drop (j + 1))) := hst
      have e1 : ((j + 1 : Nat) : Int) - 1 = (j : Int) := by omega
      rw [e1]
      clear hst e1
      obtain ⟨E, hE⟩ : ∃ E : Int, E = ((j + 1 + f59 (s.data.toList.drop (j + 1)) : Nat) : Int) := ⟨_, rfl⟩
      rw [← hE]
      have HE : Hid (E = ((j + 1 + f59 (s.data.toList.drop (j + 1)) : Nat) : Int)) := hE
      clear hE
      by_cases hb : s[j] = 59
      · have t1 : ((s[j].toNat : Int) == 59) = true := by rw [hb]; rfl
        have HR : Hid (((j + f59 (s.data.toList.drop j) : Nat) : Int) = (j : Int)) := by rw [Hid, HST.out, if_pos hb]
        clear hb
        go_wp2
        go_round
        case rel => exact ⟨j, by omega, rfl, by rw [HR.out]⟩
        case measure => simp [intOf]
      · have t1 : ((s[j].toNat : Int) == 59) = false := by simpa using toNat_ne 59 59 rfl hb
        have HR : Hid (((j + f59 (s.data.toList.drop j) : Nat) : Int) = E) := by rw [Hid, HST.out, if_neg hb, HE.out]
        clear hb
        go_wp2
        go_round
        case rel => exact ⟨j, by omega, rfl, by rw [HR.out]⟩
        case measure => simp [intOf]
    · obtain rfl : k = 0 := by omega
      rw [Nat.zero_add, List.drop_zero]
      obtain ⟨hc1, hc2, hc3⟩ := cut_f59 s.data.toList
      have hfl := f59_le s.data.toList
      have hsz : s.data.toList.length = s.size := rfl
      rw [hsz] at hfl hc2 hc3
      have hszO : szO s.data.toList = if allB valP (Lib.cut s.data.toList [59]).2.1 then numV 16 15 (tx (Lib.trimRightS (s.data.toList.take (f59 s.data.toList)) [32, 9])) else none := by unfold szO; rw [hc1]
      obtain ⟨TR, hTR⟩ : ∃ TR, TR = Lib.trimRightS (s.data.toList.take (f59 s.data.toList)) [32, 9] := ⟨_, rfl⟩
      rw [← hTR] at hszO
      have hW : Hid (Lib.trimRightS (s.extract 0 (f59 s.data.toList)).data.toList [32, 9] = TR) := by rw [Hid, ext_data, List.drop_zero, hTR]
      have hWs : (s.extract 0 (f59 s.data.toList)).size ≤ 256 := by
        show (s.extract 0 (f59 s.data.toList)).data.toList.length ≤ 256
        rw [ext_data, List.drop_zero, List.length_take]; omega
      have hV1 : f59 s.data.toList < s.size → (s.extract (f59 s.data.toList + 1) s.size).data.toList = (Lib.cut s.data.toList [59]).2.1 := by
        intro h
        rw [hc2 h, ext_data, List.take_of_length_le (show s.data.toList.length ≤ s.size from Nat.le_refl _)]
      have HV : Hid (f59 s.data.toList < s.size → Calls Tryz.prog 156 #[.string (s.extract (f59 s.data.toList + 1) s.size)] w fun e w' => e = .returned (.bool (allB valP (Lib.cut s.data.toList [59]).2.1)) ∧ w' = w) := by
        intro h
        have k := rValue_any (s.extract (f59 s.data.toList + 1) s.size) w (by
          show (s.extract (f59 s.data.toList + 1) s.size).data.toList.length ≤ maxLen
          rw [ext_data, List.length_drop, List.length_take]
          unfold maxLen; omega)
        rw [hV1 h] at k
        exact k
      have hVn : ¬ f59 s.data.toList < s.size → allB valP (Lib.cut s.data.toList [59]).2.1 = true := by intro h; rw [hc3 h]; rfl
      have HZ2 : Hid (Z = if allB valP (Lib.cut s.data.toList [59]).2.1 then numV 16 15 (tx TR) else none) := by rw [Hid, HZ.out, hszO]
      clear hszO hc1 hc2 hc3 hV1 hTR HZ
      generalize allB valP (Lib.cut s.data.toList [59]).2.1 = V at *
      generalize f59 s.data.toList = F at *
      clear hsz
      by_cases hF : F < s.size
      · have hF' : (F : Int) < (s.size : Int) := by omega
        have HVV := HV.out hF
        have HV3 : Hid (Calls Tryz.prog 156 #[.string (s.extract (F + 1) s.size)] w fun e w' => e = .returned (.bool V) ∧ w' = w) := HVV
        clear HVV HV hVn hF
        cases V
        · have HZN : Hid (Z = none) := by rw [Hid, HZ2.out, if_neg (by decide)]
          clear hW hWs
          go_wp2_with fail
          refine HV3.out.mono ?_
          rintro e w1 ⟨rfl, rfl⟩
          go_wp2
          go_ret2
          exact ⟨by rw [HZN.out]; rfl, rfl⟩
        · have HZN : Hid (Z = numV 16 15 (tx TR)) := by rw [Hid, HZ2.out, if_pos rfl]
          go_wp2_with fail
          refine HV3.out.mono ?_
          rintro e w1 ⟨rfl, rfl⟩
          go_wp2_with fail
          go_loop [6] (fun vw => ∃ y : ByteArray, vw = .string y ∧ y.size ≤ 256 ∧ Hid (Lib.trimRightS y.data.toList [32, 9] = TR)) (fun vw => szOf vw)
          case atStart => exact ⟨_, rfl, hWs, hW⟩
          case round =>
            obtain ⟨y, rfl, hys, hy⟩ := hrel
            clear hW hWs
            by_cases hy0 : y.size = 0
            · have HY : Hid (tx TR = y) := by
                have e := empty_of hy0
                rw [Hid, ← hy.out, e]; rfl
              have he := empty_of hy0
              subst he
              have HX : Hid (Calls Tryz.prog 157 #[.string ⟨#[]⟩] w1 fun e w' => e = .returned (.tuple #[.int .i64 (numI 16 15 (tx TR)), .bool (numB 16 15 (tx TR))]) ∧ w' = w1) := by rw [HY.out]; exact rhex_any _ w1 (by decide)
              unfold numI numB at HX
              go_wp2_with fail
              refine HX.out.mono ?_
              rintro e w2 ⟨rfl, rfl⟩
              go_wp2
              go_ret2
              exact ⟨by rw [HZN.out]; rfl, rfl⟩
            · obtain ⟨n, hn⟩ : ∃ n, y.size = n + 1 := ⟨y.size - 1, by omega⟩
              have htk := take_t hn
              have hnl : n < y.size := by omega
              have hidx : ((y.size : Int) - 1) = (n : Int) := by omega
              have hgt : (0 : Int) < (y.size : Int) := by omega
              by_cases hb : blk (y[n]'hnl) = true
              · have hb2 : ((y[n]'hnl).toNat : Int) = 32 ∨ (¬ ((y[n]'hnl).toNat : Int) = 32 ∧ ((y[n]'hnl).toNat : Int) = 9) := by
                  rw [blk_eq] at hb
                  simp only [Bool.or_eq_true, decide_eq_true_eq] at hb
                  omega
                have HNX : Hid ((y.extract 0 n).size ≤ 256 ∧ Lib.trimRightS (y.extract 0 n).data.toList [32, 9] = TR ∧ (y.extract 0 n).size < y.size) := by
                  have e : (y.extract 0 n).data.toList = y.data.toList.take n := by rw [ext_data]; simp
                  have h := hy.out
                  rw [htk, trimR_step _ _ hb] at h
                  have e2 : (y.extract 0 n).size = n := by show (y.extract 0 n).data.toList.length = n; rw [e, List.length_take]; show min n y.size = n; omega
                  exact ⟨by omega, by rw [e]; exact h, by omega⟩
                clear htk hb hn
                have hsl : n ≤ y.size := by omega
                rcases hb2 with hb2 | ⟨hb1, hb2⟩
                · go_wp2
                  go_round
                  case rel => exact ⟨_, rfl, HNX.out.1, HNX.out.2.1⟩
                  case measure => exact HNX.out.2.2
                · go_wp2
                  go_round
                  case rel => exact ⟨_, rfl, HNX.out.1, HNX.out.2.1⟩
                  case measure => exact HNX.out.2.2
              · have hb2 : ((((y[n]'hnl).toNat : Int) == 32) = false) ∧ ((((y[n]'hnl).toNat : Int) == 9) = false) := by
                  rw [blk_eq] at hb
                  simp only [Bool.or_eq_true, decide_eq_true_eq] at hb
                  simp
                  omega
                obtain ⟨b1, b2⟩ := hb2
                have HY : Hid (tx TR = y) := by
                  have h := hy.out
                  have hbf : blk (y[n]'hnl) = false := by simpa using hb
                  rw [htk, trimR_stop _ _ hbf, ← htk] at h
                  rw [Hid, ← h]; rfl
                have HX : Hid (Calls Tryz.prog 157 #[.string y] w1 fun e w' => e = .returned (.tuple #[.int .i64 (numI 16 15 (tx TR)), .bool (numB 16 15 (tx TR))]) ∧ w' = w1) := by rw [HY.out]; exact rhex_any _ w1 (by unfold maxLen; omega)
                unfold numI numB at HX
                clear htk hb hn
                go_wp2_with fail
                refine HX.out.mono ?_
                rintro e w2 ⟨rfl, rfl⟩
                go_wp2
                go_ret2
                exact ⟨by rw [HZN.out]; rfl, rfl⟩
      · have hF' : ¬ (F : Int) < (s.size : Int) := by omega
        have HZN : Hid (Z = numV 16 15 (tx TR)) := by rw [Hid, HZ2.out, hVn hF, if_pos rfl]
        clear HV hVn hF
        go_wp2_with fail
        go_loop [6] (fun vw => ∃ y : ByteArray, vw = .string y ∧ y.size ≤ 256 ∧ Hid (Lib.trimRightS y.data.toList [32, 9] = TR)) (fun vw => szOf vw)
        case atStart => exact ⟨_, rfl, hWs, hW⟩
        case round =>
          obtain ⟨y, rfl, hys, hy⟩ := hrel
          clear hW hWs
          by_cases hy0 : y.size = 0
          · have HY : Hid (tx TR = y) := by
              have e := empty_of hy0
              rw [Hid, ← hy.out, e]; rfl
            have he := empty_of hy0
            subst he
            have HX : Hid (Calls Tryz.prog 157 #[.string ⟨#[]⟩] w fun e w' => e = .returned (.tuple #[.int .i64 (numI 16 15 (tx TR)), .bool (numB 16 15 (tx TR))]) ∧ w' = w) := by rw [HY.out]; exact rhex_any _ w (by decide)
            unfold numI numB at HX
            go_wp2_with fail
            refine HX.out.mono ?_
            rintro e w2 ⟨rfl, rfl⟩
            go_wp2
            go_ret2
            exact ⟨by rw [HZN.out]; rfl, rfl⟩
          · obtain ⟨n, hn⟩ : ∃ n, y.size = n + 1 := ⟨y.size - 1, by omega⟩
            have htk := take_t hn
            have hnl : n < y.size := by omega
            have hidx : ((y.size : Int) - 1) = (n : Int) := by omega
            have hgt : (0 : Int) < (y.size : Int) := by omega
            by_cases hb : blk (y[n]'hnl) = true
            · have hb2 : ((y[n]'hnl).toNat : Int) = 32 ∨ (¬ ((y[n]'hnl).toNat : Int) = 32 ∧ ((y[n]'hnl).toNat : Int) = 9) := by
                rw [blk_eq] at hb
                simp only [Bool.or_eq_true, decide_eq_true_eq] at hb
                omega
              have HNX : Hid ((y.extract 0 n).size ≤ 256 ∧ Lib.trimRightS (y.extract 0 n).data.toList [32, 9] = TR ∧ (y.extract 0 n).size < y.size) := by
                have e : (y.extract 0 n).data.toList = y.data.toList.take n := by rw [ext_data]; simp
                have h := hy.out
                rw [htk, trimR_step _ _ hb] at h
                have e2 : (y.extract 0 n).size = n := by show (y.extract 0 n).data.toList.length = n; rw [e, List.length_take]; show min n y.size = n; omega
                exact ⟨by omega, by rw [e]; exact h, by omega⟩
              clear htk hb hn
              have hsl : n ≤ y.size := by omega
              rcases hb2 with hb2 | ⟨hb1, hb2⟩
              · go_wp2
                go_round
                case rel => exact ⟨_, rfl, HNX.out.1, HNX.out.2.1⟩
                case measure => exact HNX.out.2.2
              · go_wp2
                go_round
                case rel => exact ⟨_, rfl, HNX.out.1, HNX.out.2.1⟩
                case measure => exact HNX.out.2.2
            · have hb2 : ((((y[n]'hnl).toNat : Int) == 32) = false) ∧ ((((y[n]'hnl).toNat : Int) == 9) = false) := by
                rw [blk_eq] at hb
                simp only [Bool.or_eq_true, decide_eq_true_eq] at hb
                simp
                omega
              obtain ⟨b1, b2⟩ := hb2
              have HY : Hid (tx TR = y) := by
                have h := hy.out
                have hbf : blk (y[n]'hnl) = false := by simpa using hb
                rw [htk, trimR_stop _ _ hbf, ← htk] at h
                rw [Hid, ← h]; rfl
              have HX : Hid (Calls Tryz.prog 157 #[.string y] w fun e w' => e = .returned (.tuple #[.int .i64 (numI 16 15 (tx TR)), .bool (numB 16 15 (tx TR))]) ∧ w' = w) := by rw [HY.out]; exact rhex_any _ w (by unfold maxLen; omega)
              unfold numI numB at HX
              clear htk hb hn
              go_wp2_with fail
              refine HX.out.mono ?_
              rintro e w2 ⟨rfl, rfl⟩
              go_wp2
              go_ret2
              exact ⟨by rw [HZN.out]; rfl, rfl⟩
end Go.Proofs.YtemmmdhmkegaaaaGreatDoor

/- The reference's Decode. -/
namespace Go.Proofs.YtemmmdhmkegaaaaGreatDoor
open Go.RowKit
set_option linter.unusedVariables false

theorem hidmk {p : Prop} (h : p) : Hid p := h
theorem plusD_plusN (acc : List UInt8) (i k : Nat) (t : Nat × Int) (hk : 0 < k) : plusD acc i ([], plusN k t) = plusD acc (i + k) ([], t) := by
  unfold plusD plusN
  by_cases h : t.1 = 0
  · rw [if_pos h, if_pos rfl, if_pos h]
  · rw [if_neg h, if_neg (by simp only; omega), if_neg h]
    simp [Nat.add_assoc]
theorem dec_chunk {f m i k : Nat} {l : List UInt8} (hc : cutAt 256 0 l = (some i, 0)) (hz : szO (l.take i) = some k) (hk : ¬ k = 0) :
    decL (f + 1) m l = if m < k then ([], 0, 2) else if l.length - (i + 2) < k then ([], 0, 0) else if (endsP (l.drop (i + 2 + k))).1 then plusD ((l.drop (i + 2)).take k) (i + 2 + k + 2) (decL f (m - k) (l.drop (i + 2 + k + 2))) else ([], 0, (endsP (l.drop (i + 2 + k))).2) := by
  have ho := oneP_hit (m := m) hc
  rw [hz, oneK_some] at ho
  by_cases h1 : m < k
  · rw [if_pos h1] at ho ⊢
    exact decL_miss ho
  · rw [if_neg h1, if_neg hk] at ho
    rw [if_neg h1]
    by_cases h2 : l.length - (i + 2) < k
    · rw [if_pos h2] at ho ⊢
      exact decL_miss ho
    · rw [if_neg h2] at ho ⊢
      by_cases h3 : (endsP (l.drop (i + 2 + k))).1 = true
      · rw [if_pos h3] at ho ⊢
        exact decL_next ho (by omega) hk
      · rw [if_neg h3] at ho ⊢
        exact decL_miss ho


set_option maxRecDepth 100000 in
set_option maxHeartbeats 16000000 in
theorem rdecode_nat (b : List UInt8) (kb : Nat) (v : Value) (M : Nat) (hM63 : M ≤ 9223372036854775807) (w : World) (hs : Src w kb v b) (hk : 0 < b.length → kb < w.heap.size) (hlen : b.length ≤ 1099511627776) :
    Calls Tryz.prog 92 #[v, .int .i64 (M : Int)] w (DecQ w (decR M b)) := by
  have HS : Hid (Src w kb v b) := hs
  obtain ⟨a, c, rfl, h1, h2, h3⟩ := hs
  obtain ⟨n, hn⟩ : ∃ n, n = b.length := ⟨_, rfl⟩
  rw [← hn] at HS ⊢
  have HN : Hid (n = b.length) := hn
  have HK : Hid (0 < b.length → kb < w.heap.size) := hk
  rw [← hn] at h1 hlen
  unfold maxLen at h2
  have HP0 : Hid (decR M b = plusD [] 0 (decL (n + 1) (M - 0) (b.drop 0))) := by
    rw [Hid, HN.out]; exact (plusD_zero _ (decL_ok _ _ _)).symm
  generalize decR M b = R at *
  have HCAN : Hid (∀ (wr : World) (at_ : Nat), at_ ≤ n → Below w.heap.size w wr → ∀ a' : Option Addr, (at_ < c → a' = a.map (fun x => x.add at_)) → Src wr kb (.slice a' (n - at_) (c - at_)) (b.drop at_)) := fun wr at_ h1 hB a' ha' => (HS.out.keep HK.out hB).cut (by have := HN.out; omega) ha'
  have HCELL : Hid (0 < n → ∃ off, a = some ⟨kb, off, none⟩ ∧ ∀ (wr : World) (j : Nat) (hj : j < b.length), Below w.heap.size w wr → wr.cell? ⟨kb, off + j, none⟩ = some (.int .u8 (b[j].toNat : Int))) := by
    intro hp
    obtain ⟨off, ha, hc⟩ := h3 (by omega)
    exact ⟨off, ha, fun wr j hj hB => (hB.cell (p := ⟨kb, off + j, none⟩) (HK.out (by omega))).trans (hc j hj)⟩
  have O0 := Own.empty w.heap.size w (Nat.le_refl _)
  have B0 : Below w.heap.size w (w.alloc (.cells #[] 5)) := (Below.refl _ _).alloc (Nat.le_refl _) _
  clear hn h3 hk
  go_enter Tryz.func92, Tryz.ntmps92
  go_wp2_with fail
  go_loopw [7, 8, 9] (fun v7 vt va wr => ∃ (at_ f : Nat) (acc : List UInt8), at_ ≤ n ∧ n < at_ + f ∧ acc.length ≤ at_ ∧ acc.length ≤ M ∧ va = .int .i64 at_ ∧ vt = .int .i64 acc.length ∧ Hid (Own w.heap.size wr v7 acc) ∧ Hid (R = plusD acc at_ (decL f (M - acc.length) (b.drop at_))) ∧ Below w.heap.size w wr) (fun _ _ va _ => n - (intOf va).toNat)
  case atStart => exact ⟨0, n + 1, [], Nat.zero_le _, by omega, Nat.le_refl _, Nat.zero_le _, rfl, rfl, O0, HP0, B0⟩
  case round =>
    obtain ⟨at_, f, acc, hat, hf, hacc, haM, rfl, rfl, hO, hR, hB⟩ := hrel
    clear HP0 O0 B0
    obtain ⟨a7, c7, rfl, hn7⟩ := hO.out.form
    obtain ⟨f, rfl⟩ : ∃ f', f = f' + 1 := ⟨f - 1, by omega⟩
    have HSA : Hid (∀ a' : Option Addr, (at_ < c → a' = a.map (fun x => x.add at_)) → Src wr kb (.slice a' (n - at_) (c - at_)) (b.drop at_)) := HCAN.out wr at_ hat hB
    have HCU : Hid (∀ v', Src wr kb v' (b.drop at_) → Calls Tryz.prog 117 #[v', .int .i64 256] wr fun e w' => e = .returned (cutV 256 (b.drop at_)) ∧ w' = wr) := fun v' h => rcut_any _ kb _ 256 wr h
    rcases cut_cases 256 (b.drop at_) with ⟨i, hcut, hil, _⟩ | ⟨er, hcut⟩
    · have hle : i ≤ 256 := cutAt_le 256 _ 0 i 0 (by decide) hcut
      rw [cutV_hit hcut] at HCU
      have hin : at_ + i + 2 ≤ n := by rw [List.length_drop] at hil; have := HN.out; omega
      have hnz : ((i : Int) + 2 == 0) = false := by simp; omega
      have HZ : Hid (Calls Tryz.prog 128 #[.string ⟨((b.drop at_).take i).toArray⟩] wr fun e w' => e = .returned (.tuple #[.int .i64 ((szO ((b.drop at_).take i)).getD 0 : Nat), .bool (szO ((b.drop at_).take i)).isSome]) ∧ w' = wr) := rsize_any (tx ((b.drop at_).take i)) wr (by rw [tx_size, List.length_take]; omega)
      generalize (⟨((b.drop at_).take i).toArray⟩ : ByteArray) = T at *
      cases hz : szO ((b.drop at_).take i) with
      | none =>
        rw [hz] at HZ
        have HE : Hid (R = ([], 0, 30)) := by
          have ho := oneP_hit (m := M - acc.length) hcut
          rw [hz] at ho
          rw [Hid, hR.out, decL_miss (show oneP (M - acc.length) (b.drop at_) = (30, 0, 0, 0) from ho)]; rfl
        clear hcut hR hz hil
        go_wp2_with fail
        all_goals
          refine (HCU.out _ (by first | exact HSA.out _ (fun _ => rfl) | exact HSA.out _ (fun h => if_neg (by omega)) | exact HSA.out _ (fun _ => by simp [addr_add]) | exact HSA.out _ (fun h => by rw [if_neg (by omega)]; simp [addr_add]) | (have hx := HSA.out a (fun h => by omega); rw [show c - at_ = 0 by omega] at hx; exact hx) | (have hx := HSA.out (some ⟨kb, off, none⟩) (fun h => by omega); rw [show c - at_ = 0 by omega] at hx; exact hx))).mono ?_
          rintro e w1 ⟨rfl, rfl⟩
          go_wp2_with fail
          refine HZ.out.mono ?_
          rintro e w2 ⟨rfl, rfl⟩
          go_wp2
          refine bodyPost_ret (v := .tuple #[.slice none 0 0, .int .i64 0, .int .i64 30]) (by simp [results, Tryz.results92, go_sem]; try omega) rfl ?_
          rw [HE.out]
          exact decq_no hB
      | some k =>
        rw [hz] at HZ
        have HZ2 : Hid (Calls Tryz.prog 128 #[.string T] wr fun e w' => e = .returned (.tuple #[.int .i64 (k : Int), .bool true]) ∧ w' = wr) := HZ
        clear HZ
        by_cases hk0 : k = 0
        · subst hk0
          have HR4 : Hid (R = plusD acc (at_ + i + 2) ([], trailL 40 (b.drop (at_ + i + 2)))) := by
            have ho := oneP_hit (m := M - acc.length) hcut
            rw [hz, oneK_some, if_neg (by omega), if_pos rfl] at ho
            rw [Hid, hR.out, decL_last ho (by omega), plusD_plusD _ _ _ _ _ (by omega), List.append_nil, List.drop_drop, ← Nat.add_assoc]
          have HO : Hid (Own w.heap.size wr (.slice a7 acc.length c7) acc) := hO
          have hB1 : Hid (Below w.heap.size w wr) := hB
          clear hcut hR hz hil hO hB
          go_wp2_with fail
          all_goals
            refine (HCU.out _ (by first | exact HSA.out _ (fun _ => rfl) | exact HSA.out _ (fun h => if_neg (by omega)) | exact HSA.out _ (fun _ => by simp [addr_add]) | exact HSA.out _ (fun h => by rw [if_neg (by omega)]; simp [addr_add]) | (have hx := HSA.out a (fun h => by omega); rw [show c - at_ = 0 by omega] at hx; exact hx) | (have hx := HSA.out (some ⟨kb, off, none⟩) (fun h => by omega); rw [show c - at_ = 0 by omega] at hx; exact hx))).mono ?_
            rintro e w1 ⟨rfl, rfl⟩
            go_wp2_with fail
            refine HZ2.out.mono ?_
            rintro e w2 ⟨rfl, rfl⟩
            go_wp2_with fail
            go_loopw [9, 18] (fun va vc wr => ∃ at2 r q : Nat, at2 ≤ n ∧ q + r = 40 ∧ va = .int .i64 at2 ∧ vc = .int .i64 q ∧ Hid (Own w.heap.size wr (.slice a7 acc.length c7) acc) ∧ Hid (R = plusD acc at2 ([], trailL r (b.drop at2))) ∧ Below w.heap.size w wr) (fun _ vc _ => 40 - (intOf vc).toNat)
            case atStart => exact ⟨at_ + i + 2, 40, 0, by omega, rfl, by go_num, rfl, HO, HR4, hB1.out⟩
            case round =>
              obtain ⟨at2, r, q, hat2, hr, rfl, rfl, hO2, hR2, hB⟩ := hrel
              clear HR4 HO hB1
              have HSA : Hid (∀ a' : Option Addr, (at2 < c → a' = a.map (fun x => x.add at2)) → Src wr kb (.slice a' (n - at2) (c - at2)) (b.drop at2)) := HCAN.out wr at2 hat2 hB
              have HCU : Hid (∀ v', Src wr kb v' (b.drop at2) → Calls Tryz.prog 117 #[v', .int .i64 256] wr fun e w' => e = .returned (cutV 256 (b.drop at2)) ∧ w' = wr) := fun v' h => rcut_any _ kb _ 256 wr h
              rcases cut_cases 256 (b.drop at2) with ⟨i2, hcut, hil, _⟩ | ⟨er, hcut⟩
              · have hle : i2 ≤ 256 := cutAt_le 256 _ 0 i2 0 (by decide) hcut
                rw [cutV_hit hcut] at HCU
                have hin : at2 + i2 + 2 ≤ n := by rw [List.length_drop] at hil; have := HN.out; omega
                by_cases hi : i2 = 0
                · subst hi
                  have HE : Hid (R = (acc, at2 + 2, 0)) := by rw [Hid, hR2.out, trailL_end hcut]; unfold plusD; rw [if_neg (by decide), List.append_nil]
                  rw [List.take_zero] at HCU
                  clear hcut hR2 hil
                  go_wp2_with fail
                  all_goals
                    refine (HCU.out _ (by first | exact HSA.out _ (fun _ => rfl) | exact HSA.out _ (fun h => if_neg (by omega)) | exact HSA.out _ (fun _ => by simp [addr_add]) | exact HSA.out _ (fun h => by rw [if_neg (by omega)]; simp [addr_add]) | (have hx := HSA.out a (fun h => by omega); rw [show c - at2 = 0 by omega] at hx; exact hx) | (have hx := HSA.out (some ⟨kb, off, none⟩) (fun h => by omega); rw [show c - at2 = 0 by omega] at hx; exact hx))).mono ?_
                    rintro e w1 ⟨rfl, rfl⟩
                    go_wp2
                    refine bodyPost_ret (v := .tuple #[.slice a7 acc.length c7, .int .i64 ((at2 + 2 : Nat) : Int), .int .i64 0]) (by simp [results, Tryz.results92, go_sem]; try omega) rfl ?_
                    rw [HE.out]
                    exact ⟨_, rfl, hO2.out, hB⟩
                · have hT : Hid (∀ W, Calls Tryz.prog 122 #[.string ⟨((b.drop at2).take i2).toArray⟩] W fun e w' => e = .returned (.tuple #[.agg #[.string (prs (tx ((b.drop at2).take i2))).1, .string (prs (tx ((b.drop at2).take i2))).2.1], .bool (decide ((prs (tx ((b.drop at2).take i2))).2.2 = 0))]) ∧ Below W.heap.size W w') := fun W => rparse_any (tx ((b.drop at2).take i2)) W (by rw [tx_size, List.length_take]; omega)
                  have hne : (⟨((b.drop at2).take i2).toArray⟩ : ByteArray).toList.isEmpty = false := isEmpty_of (by show ¬ ((b.drop at2).take i2).length = 0; rw [List.length_take]; omega)
                  have hfd : fldOk ((b.drop at2).take i2) = decide ((prs (tx ((b.drop at2).take i2))).2.2 = 0) := rfl
                  generalize prs (tx ((b.drop at2).take i2)) = pq at *
                  generalize (⟨((b.drop at2).take i2).toArray⟩ : ByteArray) = T at *
                  obtain ⟨q1, q2, q3⟩ := pq
                  simp only at hT hfd
                  have hnz : ((i2 : Int) + 2 == 0) = false := by simp; omega
                  cases hok : fldOk ((b.drop at2).take i2)
                  · have HE : Hid (R = ([], 0, 20)) := by rw [Hid, hR2.out, trailL_bad hcut hi hok]; rfl
                    rw [← hfd, hok] at hT
                    clear hcut hR2 hil hfd hok
                    go_wp2_with fail
                    all_goals
                      refine (HCU.out _ (by first | exact HSA.out _ (fun _ => rfl) | exact HSA.out _ (fun h => if_neg (by omega)) | exact HSA.out _ (fun _ => by simp [addr_add]) | exact HSA.out _ (fun h => by rw [if_neg (by omega)]; simp [addr_add]) | (have hx := HSA.out a (fun h => by omega); rw [show c - at2 = 0 by omega] at hx; exact hx) | (have hx := HSA.out (some ⟨kb, off, none⟩) (fun h => by omega); rw [show c - at2 = 0 by omega] at hx; exact hx))).mono ?_
                      rintro e w1 ⟨rfl, rfl⟩
                      go_wp2_with fail
                      refine (hT.out _).mono ?_
                      rintro e w2 ⟨rfl, B2⟩
                      have C2 := hB.trans (B2.mono hB.size)
                      have C3 := C2.alloc C2.size (.cells #[.string q1, .string q2] 121)
                      have BA2 := B2.alloc B2.size (.cells #[.string q1, .string q2] 121)
                      go_wp2
                      refine bodyPost_ret (v := .tuple #[.slice none 0 0, .int .i64 0, .int .i64 20]) (by simp [results, Tryz.results92, go_sem]; try omega) rfl ?_
                      rw [HE.out]
                      exact decq_no C3
                  · rw [← hfd, hok] at hT
                    clear hil hfd
                    cases r with
                    | zero =>
                      have HE : Hid (R = ([], 0, 3)) := by rw [Hid, hR2.out, trailL_many hcut hi hok]; rfl
                      obtain rfl : q = 40 := by omega
                      clear hcut hR2 hok
                      go_wp2_with fail
                      all_goals
                        refine (HCU.out _ (by first | exact HSA.out _ (fun _ => rfl) | exact HSA.out _ (fun h => if_neg (by omega)) | exact HSA.out _ (fun _ => by simp [addr_add]) | exact HSA.out _ (fun h => by rw [if_neg (by omega)]; simp [addr_add]) | (have hx := HSA.out a (fun h => by omega); rw [show c - at2 = 0 by omega] at hx; exact hx) | (have hx := HSA.out (some ⟨kb, off, none⟩) (fun h => by omega); rw [show c - at2 = 0 by omega] at hx; exact hx))).mono ?_
                        rintro e w1 ⟨rfl, rfl⟩
                        go_wp2_with fail
                        refine (hT.out _).mono ?_
                        rintro e w2 ⟨rfl, B2⟩
                        have C2 := hB.trans (B2.mono hB.size)
                        have C3 := C2.alloc C2.size (.cells #[.string q1, .string q2] 121)
                        have BA2 := B2.alloc B2.size (.cells #[.string q1, .string q2] 121)
                        go_wp2
                        refine bodyPost_ret (v := .tuple #[.slice none 0 0, .int .i64 0, .int .i64 3]) (by simp [results, Tryz.results92, go_sem]; try omega) rfl ?_
                        rw [HE.out]
                        exact decq_no C3
                    | succ r =>
                      have HE : Hid (R = plusD acc (at2 + i2 + 2) ([], trailL r (b.drop (at2 + i2 + 2)))) := by
                        rw [Hid, hR2.out, trailL_next hcut hi hok, plusD_plusN _ _ _ _ (by omega), List.drop_drop, ← Nat.add_assoc]
                      have hq : ¬ (40 : Int) < (q : Int) + 1 := by omega
                      clear hcut hR2 hok
                      go_wp2_with fail
                      all_goals
                        refine (HCU.out _ (by first | exact HSA.out _ (fun _ => rfl) | exact HSA.out _ (fun h => if_neg (by omega)) | exact HSA.out _ (fun _ => by simp [addr_add]) | exact HSA.out _ (fun h => by rw [if_neg (by omega)]; simp [addr_add]) | (have hx := HSA.out a (fun h => by omega); rw [show c - at2 = 0 by omega] at hx; exact hx) | (have hx := HSA.out (some ⟨kb, off, none⟩) (fun h => by omega); rw [show c - at2 = 0 by omega] at hx; exact hx))).mono ?_
                        rintro e w1 ⟨rfl, rfl⟩
                        go_wp2_with fail
                        refine (hT.out _).mono ?_
                        rintro e w2 ⟨rfl, B2⟩
                        have C2 := hB.trans (B2.mono hB.size)
                        have C3 := C2.alloc C2.size (.cells #[.string q1, .string q2] 121)
                        have BA2 := B2.alloc B2.size (.cells #[.string q1, .string q2] 121)
                        go_wp2
                        go_roundw
                        case rel => exact ⟨at2 + i2 + 2, r, q + 1, by omega, by omega, by go_num, by go_num, hO2.out.keep BA2, HE, C3⟩
                        case measure => simp [intOf]; omega
              · rw [cutV_miss hcut] at HCU
                have HE : Hid (R = ([], 0, er)) := by rw [Hid, hR2.out, trailL_miss hcut]; rfl
                clear hcut hR2
                by_cases h0 : er = 0
                · subst h0
                  go_wp2_with fail
                  all_goals
                    refine (HCU.out _ (by first | exact HSA.out _ (fun _ => rfl) | exact HSA.out _ (fun h => if_neg (by omega)) | exact HSA.out _ (fun _ => by simp [addr_add]) | exact HSA.out _ (fun h => by rw [if_neg (by omega)]; simp [addr_add]) | (have hx := HSA.out a (fun h => by omega); rw [show c - at2 = 0 by omega] at hx; exact hx) | (have hx := HSA.out (some ⟨kb, off, none⟩) (fun h => by omega); rw [show c - at2 = 0 by omega] at hx; exact hx))).mono ?_
                    rintro e w1 ⟨rfl, rfl⟩
                    go_wp2
                    refine bodyPost_ret (v := .tuple #[.slice none 0 0, .int .i64 0, .int .i64 0]) (by simp [results, Tryz.results92, go_sem]; try omega) rfl ?_
                    rw [HE.out]
                    exact decq_no hB
                · have h0' : (er != 0) = true := by simpa using h0
                  go_wp2_with fail
                  all_goals
                    refine (HCU.out _ (by first | exact HSA.out _ (fun _ => rfl) | exact HSA.out _ (fun h => if_neg (by omega)) | exact HSA.out _ (fun _ => by simp [addr_add]) | exact HSA.out _ (fun h => by rw [if_neg (by omega)]; simp [addr_add]) | (have hx := HSA.out a (fun h => by omega); rw [show c - at2 = 0 by omega] at hx; exact hx) | (have hx := HSA.out (some ⟨kb, off, none⟩) (fun h => by omega); rw [show c - at2 = 0 by omega] at hx; exact hx))).mono ?_
                    rintro e w1 ⟨rfl, rfl⟩
                    go_wp2
                    refine bodyPost_ret (v := .tuple #[.slice none 0 0, .int .i64 0, .int .i64 er]) (by simp [results, Tryz.results92, go_sem]; try omega) rfl ?_
                    rw [HE.out]
                    exact decq_no hB
        · have hkz : ((k : Int) == 0) = false := by simp; omega
          have hkz' : ¬ ((k : Int) = 0) := by omega
          by_cases hlong : M - acc.length < k
          · have HE : Hid (R = ([], 0, 2)) := by rw [Hid, hR.out, dec_chunk hcut hz hk0, if_pos hlong]; rfl
            have i1 : (M : Int) - (acc.length : Int) < (k : Int) := by omega
            clear hcut hR hz hil
            go_wp2_with fail
            all_goals
              refine (HCU.out _ (by first | exact HSA.out _ (fun _ => rfl) | exact HSA.out _ (fun h => if_neg (by omega)) | exact HSA.out _ (fun _ => by simp [addr_add]) | exact HSA.out _ (fun h => by rw [if_neg (by omega)]; simp [addr_add]) | (have hx := HSA.out a (fun h => by omega); rw [show c - at_ = 0 by omega] at hx; exact hx) | (have hx := HSA.out (some ⟨kb, off, none⟩) (fun h => by omega); rw [show c - at_ = 0 by omega] at hx; exact hx))).mono ?_
              rintro e w1 ⟨rfl, rfl⟩
              go_wp2_with fail
              refine HZ2.out.mono ?_
              rintro e w2 ⟨rfl, rfl⟩
              go_wp2
              refine bodyPost_ret (v := .tuple #[.slice none 0 0, .int .i64 0, .int .i64 2]) (by simp [results, Tryz.results92, go_sem]; try omega) rfl ?_
              rw [HE.out]
              exact decq_no hB
          · have i1 : ¬ (M : Int) - (acc.length : Int) < (k : Int) := by omega
            obtain ⟨off, rfl, hCC⟩ := HCELL.out (by omega)
            have HCC : Hid (∀ (wr : World) (j : Nat) (hj : j < b.length), Below w.heap.size w wr → wr.cell? ⟨kb, off + j, none⟩ = some (.int .u8 (b[j].toNat : Int))) := hCC
            clear hCC
            have HDC := dec_chunk (f := f) (m := M - acc.length) hcut hz hk0
            rw [if_neg hlong] at HDC
            have HR1 : Hid (R = plusD acc at_ (if (b.drop at_).length - (i + 2) < k then ([], 0, 0) else if (endsP ((b.drop at_).drop (i + 2 + k))).1 then plusD (((b.drop at_).drop (i + 2)).take k) (i + 2 + k + 2) (decL f (M - acc.length - k) ((b.drop at_).drop (i + 2 + k + 2))) else ([], 0, (endsP ((b.drop at_).drop (i + 2 + k))).2))) := by rw [Hid, hR.out, HDC]
            clear hcut hR hz hil HDC
            go_wp2_with fail
            all_goals
              refine (HCU.out _ (by first | exact HSA.out _ (fun _ => rfl) | exact HSA.out _ (fun h => if_neg (by omega)) | exact HSA.out _ (fun _ => by simp [addr_add]) | exact HSA.out _ (fun h => by rw [if_neg (by omega)]; simp [addr_add]) | (have hx := HSA.out a (fun h => by omega); rw [show c - at_ = 0 by omega] at hx; exact hx) | (have hx := HSA.out (some ⟨kb, off, none⟩) (fun h => by omega); rw [show c - at_ = 0 by omega] at hx; exact hx))).mono ?_
              rintro e w1 ⟨rfl, rfl⟩
              go_wp2_with fail
              refine HZ2.out.mono ?_
              rintro e w2 ⟨rfl, rfl⟩
              go_wp2_with fail
              go_loopw [7, 9, 15] (fun v7 va vj wx => ∃ j : Nat, j ≤ k ∧ at_ + i + 2 + j ≤ n ∧ va = .int .i64 ((at_ + i + 2 + j : Nat) : Int) ∧ vj = .int .i64 j ∧ Hid (Own w.heap.size wx v7 (acc ++ ((b.drop at_).drop (i + 2)).take j)) ∧ Hid (Below w.heap.size w wx)) (fun _ _ vj _ => k - (intOf vj).toNat)
              case atStart => exact ⟨0, Nat.zero_le _, by omega, by go_num, rfl, (by rw [List.take_zero, List.append_nil]; exact hO), hB⟩
              case round =>
                obtain ⟨j, hj, hjn, rfl, rfl, hO3, hB3⟩ := hrel
                clear hO hB
                obtain ⟨p, hp⟩ : ∃ p, p = at_ + i + 2 + j := ⟨_, rfl⟩
                rw [← hp] at hjn ⊢
                have HP : Hid (p = at_ + i + 2 + j) := hp
                have hdl : Hid ((b.drop at_).length = n - at_) := by rw [Hid, List.length_drop, ← HN.out]
                clear hp
                by_cases hjk : j < k
                · by_cases hend : p = n
                  · have HE : Hid (R = ([], 0, 0)) := by rw [Hid, HR1.out, if_pos (by rw [hdl.out]; have := HP.out; omega)]; rfl
                    have hen : ((p : Int) == (n : Int)) = true := by simp; omega
                    have hjk' : (j : Int) < (k : Int) := by omega
                    clear hend
                    go_wp2
                    refine bodyPost_ret (v := .tuple #[.slice none 0 0, .int .i64 0, .int .i64 0]) (by simp [results, Tryz.results92, go_sem]; try omega) rfl ?_
                    rw [HE.out]
                    exact decq_no hB3.out
                  · have hen : ((p : Int) == (n : Int)) = false := by simp; omega
                    have hen' : ¬ ((p : Int) = (n : Int)) := by omega
                    have hpb : p < b.length := by have := HN.out; omega
                    have hpn : (p : Int) < (n : Int) := by omega
                    have hcell := HCC.out _ p hpb hB3.out
                    have hsn : ((b.drop at_).drop (i + 2)).take (j + 1) = ((b.drop at_).drop (i + 2)).take j ++ [b[p]] := by
                      have hl : j < ((b.drop at_).drop (i + 2)).length := by rw [List.length_drop, hdl.out]; have := HP.out; omega
                      rw [List.take_succ_eq_append_getElem hl, List.getElem_drop, List.getElem_drop]
                      have e : at_ + (i + 2 + j) = p := by have := HP.out; omega
                      simp only [e]
                    have BA := fun W : World => (Below.refl W.heap.size W).alloc (Nat.le_refl _) (.cells #[.int .u8 (b[p].toNat : Int)] 5)
                    obtain ⟨v3, w3, r3, O3, B3⟩ := own_append (hO3.out.keep (BA _)) (lit_src _ [b[p]] 1 #[.int .u8 (b[p].toNat : Int)] (0, 0) rfl (by decide) rfl) (fun e => by cases e) (by rw [List.length_append, List.length_take, List.length_drop, hdl.out]; show _ + 1 ≤ _; omega) (Nat.le_trans hB3.out.size (BA _).size)
                    rw [List.append_assoc, ← hsn] at O3
                    have HO4 : Hid (Own w.heap.size w3 v3 (acc ++ ((b.drop at_).drop (i + 2)).take (j + 1))) := O3
                    have C3 := (hB3.out.trans ((BA _).mono hB3.out.size)).trans B3
                    have hjk' : (j : Int) < (k : Int) := by omega
                    clear O3 B3 BA hsn hO3 hend
                    generalize (b[p].toNat : Int) = z at *
                    go_wp2_with (at_builtin; refine wpList_append_run2 rfl _ _ 31 31 rfl _ _ _ w3 rfl rfl r3 ?_)
                    go_roundw
                    case rel => exact ⟨j + 1, by omega, by have := HP.out; omega, by have := HP.out; go_num, by go_num, HO4, C3⟩
                    case measure => simp [intOf]; omega
                · obtain rfl : j = k := by omega
                  have hjk' : ¬ (j : Int) < (j : Int) := by omega
                  have hR3 : R = plusD acc at_ (if (endsP ((b.drop at_).drop (i + 2 + j))).1 then plusD (((b.drop at_).drop (i + 2)).take j) (i + 2 + j + 2) (decL f (M - acc.length - j) ((b.drop at_).drop (i + 2 + j + 2))) else ([], 0, (endsP ((b.drop at_).drop (i + 2 + j))).2)) := by rw [HR1.out, if_neg (by rw [hdl.out]; have := HP.out; omega)]
                  rw [List.drop_drop, show at_ + (i + 2 + j) = p by have := HP.out; omega] at hR3
                  have HR3 : Hid (R = plusD acc at_ (if (endsP (b.drop p)).1 then plusD (((b.drop at_).drop (i + 2)).take j) (i + 2 + j + 2) (decL f (M - acc.length - j) ((b.drop at_).drop (i + 2 + j + 2))) else ([], 0, (endsP (b.drop p)).2))) := hR3
                  clear hR3 HR1
                  by_cases hend : p = n
                  · have HE : Hid (R = ([], 0, 0)) := by
                      rw [Hid, HR3.out, List.drop_eq_nil_of_le (by have := HN.out; omega)]; rfl
                    have hen : ((p : Int) == (n : Int)) = true := by simp; omega
                    clear hend
                    have C4 := hB3.out.alloc hB3.out.size (.cells #[.int .u8 13, .int .u8 10] 5)
                    go_wp2_with fail
                    refine wp_loop_rounds 1 ?_
                    rw [rounds_succ]
                    go_wp2
                    refine bodyPost_ret (v := .tuple #[.slice none 0 0, .int .i64 0, .int .i64 0]) (by simp [results, Tryz.results92, go_sem]; try omega) rfl ?_
                    rw [HE.out]
                    exact decq_no C4
                  · have hen : ((p : Int) == (n : Int)) = false := by simp; omega
                    have hen' : ¬ ((p : Int) = (n : Int)) := by omega
                    have hpb : p < b.length := by have := HN.out; omega
                    have hpn : (p : Int) < (n : Int) := by omega
                    have C4 := hB3.out.alloc hB3.out.size (.cells #[.int .u8 13, .int .u8 10] 5)
                    have q1 := HCC.out _ p hpb C4
                    have k1 : ∀ W : World, (W.alloc (.cells #[.int .u8 13, .int .u8 10] 5)).cell? ⟨W.heap.size, 0, none⟩ = some (.int .u8 13) := fun W => ring_cell (new_at W _) rfl
                    have k2 : ∀ W : World, (W.alloc (.cells #[.int .u8 13, .int .u8 10] 5)).cell? ⟨W.heap.size, 1, none⟩ = some (.int .u8 10) := fun W => ring_cell (new_at W _) rfl
                    by_cases t1 : b[p] = 13
                    · have hq1 : (b[p].toNat : Int) = 13 := by rw [t1]; rfl
                      rw [hq1] at q1
                      by_cases hend2 : p + 1 = n
                      · have HE : Hid (R = ([], 0, 0)) := by
                          have e : endsP (b.drop p) = (false, 0) := by
                            rw [List.drop_eq_getElem_cons hpb, List.drop_eq_nil_of_le (by have := HN.out; omega), t1]; rfl
                          rw [Hid, HR3.out, e]; rfl
                        have hen2 : ((p : Int) + 1 == (n : Int)) = true := by simp; omega
                        clear hend hend2 t1 hq1
                        go_wp2_with fail
                        refine wp_loop_rounds 2 ?_
                        rw [rounds_succ]
                        go_wp2
                        go_quiet (fail)
                        go_wp2
                        rw [rounds_succ]
                        go_wp2
                        refine bodyPost_ret (v := .tuple #[.slice none 0 0, .int .i64 0, .int .i64 0]) (by simp [results, Tryz.results92, go_sem]; try omega) rfl ?_
                        rw [HE.out]
                        exact decq_no (by simpa using C4.trans (below_drewN _ _ nq))
                      · have hpb1 : p + 1 < b.length := by have := HN.out; omega
                        have hpn1 : (p : Int) + 1 < (n : Int) := by omega
                        have hen2 : ((p : Int) + 1 == (n : Int)) = false := by simp; omega
                        have q2 := HCC.out _ (p + 1) hpb1 C4
                        by_cases t2 : b[p + 1] = 10
                        · have HDL : Hid ((acc ++ ((b.drop at_).drop (i + 2)).take j).length = acc.length + j) := by rw [Hid, List.length_append, List.length_take, List.length_drop, hdl.out]; have := HP.out; omega
                          have HE : Hid (R = plusD (acc ++ ((b.drop at_).drop (i + 2)).take j) (at_ + (i + 2 + j + 2)) (decL f (M - (acc ++ ((b.drop at_).drop (i + 2)).take j).length) (b.drop (at_ + (i + 2 + j + 2))))) := by
                            have e : endsP (b.drop p) = (true, 0) := by
                              rw [List.drop_eq_getElem_cons hpb, List.drop_eq_getElem_cons hpb1, t1, t2]; rfl
                            have hdd : (b.drop at_).drop (i + 2 + j + 2) = b.drop (at_ + (i + 2 + j + 2)) := List.drop_drop
                            rw [Hid, HR3.out, e, if_pos rfl, plusD_plusD _ _ _ _ _ (by omega), HDL.out, Nat.sub_sub, hdd]
                          have hq2 : (b[p + 1].toNat : Int) = 10 := by rw [t2]; rfl
                          rw [hq2] at q2
                          have HOW := hidmk (fun q : Nat => (hO3.out.keep ((Below.refl _ _).alloc (Nat.le_refl _) (.cells #[.int .u8 13, .int .u8 10] 5))).keep (below_drewN _ _ q))
                          have HCW := hidmk (fun q : Nat => C4.trans (below_drewN w.heap.size _ q))
                          clear hend hend2 t1 t2 hq1 hq2
                          go_wp2_with fail
                          refine wp_loop_rounds 3 ?_
                          rw [rounds_succ]
                          go_wp2
                          go_quiet (fail)
                          go_wp2
                          rw [rounds_succ]
                          go_wp2
                          go_quiet (fail)
                          go_wp2
                          rw [rounds_succ]
                          go_wp2
                          go_roundw
                          case rel => exact ⟨at_ + (i + 2 + j + 2), f, acc ++ ((b.drop at_).drop (i + 2)).take j, by have := HP.out; omega, by have := HP.out; omega, by rw [HDL.out]; omega, by rw [HDL.out]; omega, by have := HP.out; go_num, by rw [HDL.out]; go_num, HOW.out _, HE, HCW.out _⟩
                          case measure => have := HP.out; simp [intOf]; omega
                        · have HE : Hid (R = ([], 0, 20)) := by
                            have e : endsP (b.drop p) = (false, 20) := by
                              rw [List.drop_eq_getElem_cons hpb, List.drop_eq_getElem_cons hpb1, t1]
                              simp [endsP, t2]
                            rw [Hid, HR3.out, e]; rfl
                          have t5 : ((b[p + 1].toNat : Int) != 10) = true := by simpa using toNat_ne 10 10 rfl t2
                          clear hend hend2 t1 t2 hq1
                          generalize (b[p + 1].toNat : Int) = Y at *
                          go_wp2_with fail
                          refine wp_loop_rounds 2 ?_
                          rw [rounds_succ]
                          go_wp2
                          go_quiet (fail)
                          go_wp2
                          rw [rounds_succ]
                          go_wp2
                          go_quiet (fail)
                          go_wp2
                          refine bodyPost_ret (v := .tuple #[.slice none 0 0, .int .i64 0, .int .i64 20]) (by simp [results, Tryz.results92, go_sem]; try omega) rfl ?_
                          rw [HE.out]
                          exact decq_no (by simpa using C4.trans (below_drewN _ _ _))
                    · have HE : Hid (R = ([], 0, 20)) := by
                        have e : endsP (b.drop p) = (false, 20) := by
                          rw [List.drop_eq_getElem_cons hpb]
                          simp [endsP, t1]
                        rw [Hid, HR3.out, e]; rfl
                      have t5 : ((b[p].toNat : Int) != 13) = true := by simpa using toNat_ne 13 13 rfl t1
                      clear hend t1
                      generalize (b[p].toNat : Int) = X at *
                      go_wp2_with fail
                      refine wp_loop_rounds 1 ?_
                      rw [rounds_succ]
                      go_wp2
                      go_quiet (fail)
                      go_wp2
                      refine bodyPost_ret (v := .tuple #[.slice none 0 0, .int .i64 0, .int .i64 20]) (by simp [results, Tryz.results92, go_sem]; try omega) rfl ?_
                      rw [HE.out]
                      exact decq_no (by simpa using C4.trans (below_drewN _ _ nq))
    · rw [cutV_miss hcut] at HCU
      have HE : Hid (R = ([], 0, er)) := by rw [Hid, hR.out, decL_miss (oneP_miss hcut)]; rfl
      clear hcut hR
      by_cases h0 : er = 0
      · subst h0
        go_wp2_with fail
        all_goals
          refine (HCU.out _ (by first | exact HSA.out _ (fun _ => rfl) | exact HSA.out _ (fun h => if_neg (by omega)) | exact HSA.out _ (fun _ => by simp [addr_add]) | exact HSA.out _ (fun h => by rw [if_neg (by omega)]; simp [addr_add]) | (have hx := HSA.out a (fun h => by omega); rw [show c - at_ = 0 by omega] at hx; exact hx) | (have hx := HSA.out (some ⟨kb, off, none⟩) (fun h => by omega); rw [show c - at_ = 0 by omega] at hx; exact hx))).mono ?_
          rintro e w1 ⟨rfl, rfl⟩
          go_wp2
          refine bodyPost_ret (v := .tuple #[.slice none 0 0, .int .i64 0, .int .i64 0]) (by simp [results, Tryz.results92, go_sem]; try omega) rfl ?_
          rw [HE.out]
          exact decq_no hB
      · have h0' : (er != 0) = true := by simpa using h0
        go_wp2_with fail
        all_goals
          refine (HCU.out _ (by first | exact HSA.out _ (fun _ => rfl) | exact HSA.out _ (fun h => if_neg (by omega)) | exact HSA.out _ (fun _ => by simp [addr_add]) | exact HSA.out _ (fun h => by rw [if_neg (by omega)]; simp [addr_add]) | (have hx := HSA.out a (fun h => by omega); rw [show c - at_ = 0 by omega] at hx; exact hx) | (have hx := HSA.out (some ⟨kb, off, none⟩) (fun h => by omega); rw [show c - at_ = 0 by omega] at hx; exact hx))).mono ?_
          rintro e w1 ⟨rfl, rfl⟩
          go_wp2
          refine bodyPost_ret (v := .tuple #[.slice none 0 0, .int .i64 0, .int .i64 er]) (by simp [results, Tryz.results92, go_sem]; try omega) rfl ?_
          rw [HE.out]
          exact decq_no hB

end Go.Proofs.YtemmmdhmkegaaaaGreatDoor
