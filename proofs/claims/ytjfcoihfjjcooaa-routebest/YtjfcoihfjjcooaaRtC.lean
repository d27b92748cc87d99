/- Rewrite: what it answers of every route and target. -/
import Derived.Test.YtjfcoihfjjcooaaRtB
import Derived.Deep.RegionHeld3
namespace Go.Proofs.Ytjfcoihfjjcooaa
open Go.RowKit
set_option linter.unusedVariables false

def restB (p t : ByteArray) : ByteArray := t.extract p.size t.size
theorem restB_data (p t : ByteArray) : (restB p t).data.toList = t.data.toList.drop p.data.toList.length := by
  unfold restB
  rw [rt_ext, ← rt_len t, List.take_length, rt_len p]
theorem restB_le (p t : ByteArray) : (restB p t).size ≤ t.size := by unfold restB; rw [ByteArray.size_extract]; omega
def rewB (p s t : ByteArray) : ByteArray × Bool := (⟨(rewL p.data.toList s.data.toList t.data.toList).1.toArray⟩, (rewL p.data.toList s.data.toList t.data.toList).2)
theorem joinB_size (s r : ByteArray) : (joinB s r).size = (joinR s.data.toList r.data.toList).length := rfl
theorem rew_no {p s t : ByteArray} (h : fitT p t = false) : rewB p s t = (⟨#[]⟩, false) := by
  unfold fitT at h
  unfold rewB rewL
  rw [if_neg (fun k => by rw [h] at k; exact absurd k.1 (by decide))]
theorem rew_long {p s t : ByteArray} (h : 512 < (joinB s (restB p t)).size) : rewB p s t = (⟨#[]⟩, false) := by
  rw [joinB_size, restB_data] at h
  unfold rewB rewL
  rw [if_neg (fun k => by have := k.2; omega)]
theorem rew_yes {p s t : ByteArray} (hf : fitT p t = true) (h : ¬ 512 < (joinB s (restB p t)).size) : rewB p s t = (joinB s (restB p t), true) := by
  have e : joinB s (restB p t) = ⟨(joinR s.data.toList (t.data.toList.drop p.data.toList.length)).toArray⟩ := by unfold joinB; rw [restB_data]
  rw [joinB_size, restB_data] at h
  unfold rewB rewL
  rw [if_pos ⟨hf, by omega⟩, e]
theorem fitT_le {p t : ByteArray} (h : fitT p t = true) : p.size ≤ t.size := fitL_len h

/-- Behind Rewrite's own block nothing of it turns. -/
structure RwI (w : World) (p u s : ByteArray) (W : World) : Prop where
  below : Below w.heap.size w W
  blk : W.heap[w.heap.size]? = some (.cells #[.string p, .string u, .string s] 26)
theorem RwI.drew {w W : World} {p u s : ByteArray} (h : RwI w p u s W) : RwI w p u s W.drew := ⟨h.below.drew, h.blk⟩
theorem RwI.next {w W W' : World} {p u s : ByteArray} (h : RwI w p u s W) (b : Below W.heap.size W W') : RwI w p u s W' := ⟨h.below.trans (b.mono h.below.size), tblk_below h.blk b⟩

set_option maxRecDepth 100000 in
set_option maxHeartbeats 2000000 in
theorem rewrite_any (p u s t : ByteArray) (w : World) (ht : t.size < 4294967281) (hp : p.size ≤ maxLen) (hs : s.size ≤ 140737488355328) (hM : MaxL w) :
    Calls Try.prog 10 #[.agg #[.string p, .string u, .string s], .string t] w fun e w' => e = .returned (.tuple #[.string (rewB p s t).1, .bool (rewB p s t).2]) ∧ Below w.heap.size w w' := by
  have I0 : RwI w p u s (w.alloc (.cells #[.string p, .string u, .string s] 26)) := ⟨(Below.refl _ _).alloc (Nat.le_refl _) _, tblk_new _ _⟩
  have HF : Hid (∀ W, RwI w p u s W → Calls Try.prog 12 #[.string p, .string t] W fun e w' => e = .returned (.bool (fitT p t)) ∧ RwI w p u s w' ∧ w'.cell? ⟨w.heap.size, 0, none⟩ = some (.string p) ∧ w'.cell? ⟨w.heap.size, 2, none⟩ = some (.string s)) := fun W i => (fits_any p t W ht hp (hM.below i.below)).mono fun e w' z => ⟨z.1, i.next z.2, tblk_cell (i.next z.2).blk rfl, tblk_cell (i.next z.2).blk rfl⟩
  have HJ : Hid (∀ W, RwI w p u s W → Calls Try.prog 16 #[.string s, .string (restB p t)] W fun e w' => e = .returned (.string (joinB s (restB p t))) ∧ RwI w p u s w' ∧ w'.cell? ⟨w.heap.size, 0, none⟩ = some (.string p) ∧ w'.cell? ⟨w.heap.size, 2, none⟩ = some (.string s)) := fun W i => (join_any s _ W hs (by have := restB_le p t; omega)).mono fun e w' z => ⟨z.1, i.next z.2, tblk_cell (i.next z.2).blk rfl, tblk_cell (i.next z.2).blk rfl⟩
  have h1 := rew_no (p := p) (s := s) (t := t)
  have h2 := rew_long (p := p) (s := s) (t := t)
  have h3 := rew_yes (p := p) (s := s) (t := t)
  have h4 := fitT_le (p := p) (t := t)
  unfold restB at *
  unfold maxLen at hp
  generalize fitT p t = F at *
  generalize rewB p s t = R at *
  generalize joinB s (t.extract p.size t.size) = J at *
  clear hM hs
  cases F
  · obtain rfl := h1 rfl
    clear h1 h2 h3 h4 HJ ht hp
    go_enter Try.func10, Try.ntmps10
    go_wp2_with fail
    refine (HF.out _ I0).mono ?_
    rintro e w1 ⟨rfl, I1, c0, c2⟩
    go_wp2
    go_ret2
    exact ⟨rfl, I1.below⟩
  · have hle := h4 rfl
    by_cases hl : 512 < J.size
    · obtain rfl := h2 hl
      have hl' : (512 : Int) < (J.size : Int) := by omega
      clear h1 h2 h3 h4 hl
      go_enter Try.func10, Try.ntmps10
      go_wp2_with fail
      refine (HF.out _ I0).mono ?_
      rintro e w1 ⟨rfl, I1, c0, c2⟩
      clear I0 HF
      go_wp2_with fail
      go_region_held3 (fun W => W.cell? ⟨w.heap.size, 0, none⟩ = some (.string p) ∧ W.cell? ⟨w.heap.size, 2, none⟩ = some (.string s)) (go_keep) (first | (go_at_call 16; refine (HJ.out _ (by first | assumption | exact RwI.drew I1 | exact RwI.drew (by assumption))).mono ?_; rintro e w' ⟨rfl, hI, hS0, hS2⟩))
      go_wp2
      go_ret2
      exact ⟨rfl, hI.below⟩
    · obtain rfl := h3 rfl hl
      have hl' : ¬ (512 : Int) < (J.size : Int) := by omega
      clear h1 h2 h3 h4 hl
      go_enter Try.func10, Try.ntmps10
      go_wp2_with fail
      refine (HF.out _ I0).mono ?_
      rintro e w1 ⟨rfl, I1, c0, c2⟩
      clear I0 HF
      go_wp2_with fail
      go_region_held3 (fun W => W.cell? ⟨w.heap.size, 0, none⟩ = some (.string p) ∧ W.cell? ⟨w.heap.size, 2, none⟩ = some (.string s)) (go_keep) (first | (go_at_call 16; refine (HJ.out _ (by first | assumption | exact RwI.drew I1 | exact RwI.drew (by assumption))).mono ?_; rintro e w' ⟨rfl, hI, hS0, hS2⟩))
      go_wp2
      go_ret2
      exact ⟨rfl, hI.below⟩
end Go.Proofs.Ytjfcoihfjjcooaa
