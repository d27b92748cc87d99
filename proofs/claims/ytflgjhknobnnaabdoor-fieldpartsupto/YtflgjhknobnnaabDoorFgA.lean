/- Counting the fields that some names name. -/
import Derived.Test.YtflgjhknobnnaabDoorFsE
namespace Go.Proofs.YtflgjhknobnnaabDoor
open Go.RowKit
set_option linter.unusedVariables false

theorem smT_symm (a b : ByteArray) : smT a b = smT b a := by unfold smT; exact BEq.comm
theorem smT_trans {a b c : ByteArray} (h : smT a b = true) (k : smT b c = true) : smT a c = true := by
  unfold smT at *
  rw [beq_iff_eq] at *
  exact h.trans k
theorem anyT_app (xs ys : List ByteArray) (s : ByteArray) : anyT (xs ++ ys) s = (anyT xs s || anyT ys s) := by unfold anyT; rw [List.any_append]
theorem anyT_one (x s : ByteArray) : anyT [x] s = smT x s := by unfold anyT; simp
theorem anyT_mem {xs : List ByteArray} {x s : ByteArray} (h : x ∈ xs) (k : smT x s = true) : anyT xs s = true := by
  unfold anyT
  rw [List.any_eq_true]
  exact ⟨x, h, k⟩
theorem anyT_trans {xs : List ByteArray} {n s : ByteArray} (h : anyT xs n = true) (k : smT n s = true) : anyT xs s = true := by
  unfold anyT at h
  obtain ⟨x, hx, q⟩ := List.any_eq_true.1 h
  exact anyT_mem hx (smT_trans q k)
theorem get_left (fs : Fs) (ns : List ByteArray) (n : ByteArray) (h : n ∈ ns) : getF (withoutF fs ns) n = [] := by
  unfold getF
  rw [List.map_eq_nil_iff, List.filter_eq_nil_iff]
  intro f hf q
  have k := (List.mem_filter.1 hf).2
  rw [anyT_mem h (by rw [smT_symm]; exact q)] at k
  cases k
theorem has_left (fs : Fs) (ns : List ByteArray) (n p : ByteArray) (h : n ∈ ns) : hasF (withoutF fs ns) n p = false := by
  unfold hasF listF
  rw [get_left fs ns n h]; rfl
/-- How many fields some names name. -/
def cntF (fs : Fs) (ns : List ByteArray) : Nat := (fs.filter fun f => anyT ns f.1).length
theorem cnt_le (fs : Fs) (ns : List ByteArray) : cntF fs ns ≤ fs.length := List.length_filter_le _ _
theorem cnt_all (ns : List ByteArray) : ∀ fs : Fs, (withoutF fs ns).length + cntF fs ns = fs.length
  | [] => rfl
  | f :: l => by
    have ih := cnt_all ns l
    unfold withoutF cntF at *
    rw [List.filter_cons, List.filter_cons]
    cases h : anyT ns f.1
    · simp; omega
    · simp; omega
theorem cnt_or (fs : Fs) (p q : ByteArray × ByteArray → Bool) (h : ∀ f, p f = true → q f = true → False) : (fs.filter fun f => p f || q f).length = (fs.filter p).length + (fs.filter q).length := by
  induction fs with
  | nil => rfl
  | cons f l ih =>
    rw [List.filter_cons, List.filter_cons, List.filter_cons]
    cases hp : p f <;> cases hq : q f
    · simpa using ih
    · simp; omega
    · simp; omega
    · exact (h f hp hq).elim
/-- Behind k names: how many fields were named, and the names that were met. -/
structure PI (fs : Fs) (ns : List ByteArray) (G : Nat) (S : List ByteArray) : Prop where
  cnt : G = cntF fs ns
  seen : ∀ x, anyT S x = anyT ns x
theorem PI.start (fs : Fs) : PI fs [] 0 [] := ⟨by unfold cntF; rw [List.filter_eq_nil_iff.2 (fun f _ h => by cases h)]; rfl, fun x => rfl⟩
theorem PI.again {fs : Fs} {ns S : List ByteArray} {G : Nat} {n : ByteArray} (h : PI fs ns G S) (k : anyT S n = true) : PI fs (ns ++ [n]) G S := by
  have key : ∀ x, anyT (ns ++ [n]) x = anyT ns x := fun x => by
    rw [anyT_app, anyT_one]
    cases q : smT n x
    · simp
    · rw [anyT_trans (by rw [← h.seen]; exact k) q]; rfl
  refine ⟨?_, fun x => (h.seen x).trans (key x).symm⟩
  rw [h.cnt]
  unfold cntF
  rw [funext fun f : ByteArray × ByteArray => key f.1]
theorem PI.fresh {fs : Fs} {ns S : List ByteArray} {G : Nat} {n : ByteArray} (h : PI fs ns G S) (k : anyT S n = false) : PI fs (ns ++ [n]) (G + (getF fs n).length) (S ++ [n]) := by
  refine ⟨?_, fun x => by rw [anyT_app, anyT_app, h.seen]⟩
  rw [h.cnt]
  unfold cntF getF
  rw [List.length_map]
  have e : (fun f : ByteArray × ByteArray => anyT (ns ++ [n]) f.1) = fun f => (anyT ns f.1 || smT f.1 n) := funext fun f => by rw [anyT_app, anyT_one, smT_symm n]
  rw [e, cnt_or]
  intro f h1 h2
  have q := anyT_trans h1 h2
  rw [← h.seen, k] at q
  cases q
end Go.Proofs.YtflgjhknobnnaabDoor
