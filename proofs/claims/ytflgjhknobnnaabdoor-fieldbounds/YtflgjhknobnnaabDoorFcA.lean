/- Names and values of one letter, as often as may be. -/
import Derived.Test.YtflgjhknobnnaabDoorFbA
import Derived.Test.YtflgjhknobnnaabDoorFsE
namespace Go.Proofs.YtflgjhknobnnaabDoor
open Go.RowKit
set_option linter.unusedVariables false

def repB (c : UInt8) (k : Nat) : List UInt8 := List.replicate k c
theorem rep_snoc (s : ByteArray) (c : UInt8) (k : Nat) (h : s.data.toList = repB c k) : (s ++ (⟨#[c]⟩ : ByteArray)).data.toList = repB c (k + 1) := by
  rw [Joins.data_append, h]
  unfold repB
  rw [List.replicate_succ']
theorem rep_nf (c : UInt8) (hc : blk c = false) (k : Nat) : NF (repB c k) ∧ NL (repB c k) := by
  refine ⟨fun b hb => ?_, fun b hb => ?_⟩
  · have m := List.mem_of_mem_head? hb
    unfold repB at m
    rw [(List.mem_replicate.1 m).2]; exact hc
  · have m := List.mem_of_getLast? hb
    unfold repB at m
    rw [(List.mem_replicate.1 m).2]; exact hc
theorem rep_all (p : Int → Bool) (c : UInt8) (hc : p (c.toNat : Int) = true) (k : Nat) : allB p (repB c k) = true := by
  unfold allB repB
  rw [List.all_eq_true]
  intro b hb
  rw [(List.mem_replicate.1 hb).2]; exact hc
theorem okF_rep {n v : ByteArray} {x m : Nat} (hn : n.data.toList = repB 110 (x + 1)) (hv : v.data.toList = repB 118 m) : okF n v = (decide (x + 1 ≤ 100) && decide (m ≤ 1000)) := by
  have e1 : n.size = x + 1 := by
    show n.data.toList.length = _
    rw [hn]; simp [repB]
  have e2 : v.size = m := by
    show v.data.toList.length = _
    rw [hv]; simp [repB]
  have e3 : eqT (trimT v) v = true := by
    unfold eqT
    rw [ByteArray.toList_eq, ByteArray.toList_eq]
    show (trimP v.data.toList == v.data.toList) = true
    rw [hv, trim_same _ (rep_nf 118 (by decide) m).1 (rep_nf 118 (by decide) m).2]
    simp
  unfold okF okName okVal
  rw [e1, e2, e3, hn, hv, rep_all tokP 110 (by decide +kernel), rep_all valP 118 (by decide +kernel), decide_eq_true (show 0 < x + 1 by omega)]
  simp
theorem prs_rep {n v : ByteArray} {x m : Nat} (hn : n.data.toList = repB 110 (x + 1)) (hv : v.data.toList = repB 118 m) : prs ((n ++ (⟨#[58]⟩ : ByteArray)) ++ v) = if okF n v = true then (n, v, 0) else (⟨#[]⟩, ⟨#[]⟩, 20) := by
  have hd : ((n ++ (⟨#[58]⟩ : ByteArray)) ++ v).data.toList = n.data.toList ++ ([58] ++ v.data.toList) := by rw [Joins.data_append, Joins.data_append, List.append_assoc]
  have hl : n.data.toList.length = n.size := rfl
  have hsz : ((n ++ (⟨#[58]⟩ : ByteArray)) ++ v).size = n.size + 1 + v.size := by rw [cat_size, cat_size]; rfl
  have hk : n.size < ((n ++ (⟨#[58]⟩ : ByteArray)) ++ v).size := by rw [hsz]; omega
  generalize hS : (n ++ (⟨#[58]⟩ : ByteArray)) ++ v = S at *
  have hk' : n.size < S.data.toList.length := hk
  have e0 : S.data.toList.take n.size = n.data.toList := by rw [hd, ← hl, List.take_left]
  have eb : S[n.size] = 58 := by
    show S.data.toList[n.size] = 58
    have k : S.data.toList[n.size]? = some 58 := by
      rw [hd, List.getElem?_append_right (by omega), hl, Nat.sub_self]; rfl
    rw [List.getElem?_eq_getElem hk'] at k
    exact Option.some.inj k
  have e1 : S.extract 0 n.size = n := bytes_eq (by rw [ext_data, e0]; rfl)
  have e2 : trimT (S.extract (n.size + 1) S.size) = v := by
    have e3 : (S.extract (n.size + 1) S.size).data.toList = v.data.toList := by
      rw [ext_data, List.take_of_length_le (show S.data.toList.length ≤ S.size from Nat.le_refl _), hd]
      have e4 : n.data.toList ++ ([58] ++ v.data.toList) = (n.data.toList ++ [58]) ++ v.data.toList := by simp
      have e5 : n.size + 1 = (n.data.toList ++ [58]).length := by simp
      rw [e4, e5, List.drop_left]
    refine bytes_eq ?_
    show trimP _ = _
    rw [e3, hv, trim_same _ (rep_nf 118 (by decide) m).1 (rep_nf 118 (by decide) m).2]
  rw [prs_at S n.size hk (fun b hb => by
    rw [e0, hn] at hb
    unfold repB at hb
    rw [(List.mem_replicate.1 hb).2]; decide) eb, e1, e2]
def abF : ByteArray × ByteArray := (⟨#[97]⟩, ⟨#[98]⟩)
theorem ab_right (k : Nat) : rightF (List.replicate k abF) = decide (k ≤ 40) := by
  unfold rightF
  have e : anyW (List.replicate k abF) = false := by
    unfold anyW
    rw [List.any_eq_false]
    intro f hf
    rw [(List.mem_replicate.1 hf).2]
    decide +kernel
  rw [e, List.length_replicate]; simp
theorem ab_get (k : Nat) : (getF (List.replicate k abF) ⟨#[65]⟩).length = k := by
  unfold getF
  rw [List.length_map, List.filter_eq_self.2]
  · simp
  · intro f hf
    rw [(List.mem_replicate.1 hf).2]
    decide +kernel
end Go.Proofs.YtflgjhknobnnaabDoor
