/- Messages, plain: heads, bodies, requests and responses, as package http reads them. -/
import Derived.Test.YthbjdbookiejeabGreatDoorChkE
import Derived.Test.YthbjdbookiejeabGreatDoorFrA
import Derived.Test.YthbjdbookiejeabGreatDoorLnG
namespace Go.Proofs.YthbjdbookiejeabGreatDoor
open Go.RowKit
set_option linter.unusedVariables false

/-- The status of a line that isn't whole. -/
def hst (full : Bool) (e : Int) : Int := if e = 0 then (if full = true then 431 else 0) else 400
def plusH (acc : Fs) (at_ : Nat) (r : Fs × Nat × Int) : Fs × Nat × Int := if r.2.1 = 0 then ([], 0, r.2.2) else (acc ++ r.1, at_ + r.2.1, 0)
def fOf (l : List UInt8) : ByteArray × ByteArray := ((prs (tx l)).1, (prs (tx l)).2.1)
def fldK (full : Bool) (l : List UInt8) (rest : Nat → Fs × Nat × Int) : Fs × Nat × Int :=
  match cutAt 2048 0 l with
  | (none, e) => ([], 0, hst full e)
  | (some i, _) => if i = 0 then ([], 2, 0) else if fldOk (l.take i) = true then rest i else ([], 0, 400)
/-- The fields of a head, of which r more may come, how many bytes they take with the empty line, and a status. -/
def fldL (full : Bool) : Nat → List UInt8 → Fs × Nat × Int
  | 0, l => fldK full l fun _ => ([], 0, 431)
  | r + 1, l => fldK full l fun i => plusH [fOf (l.take i)] (i + 2) (fldL full r (l.drop (i + 2)))
theorem fldK_miss {full : Bool} {l : List UInt8} {e : Int} {f : Nat → Fs × Nat × Int} (h : cutAt 2048 0 l = (none, e)) : fldK full l f = ([], 0, hst full e) := by
  unfold fldK; rw [h]
theorem fldK_end {full : Bool} {l : List UInt8} {f : Nat → Fs × Nat × Int} (h : cutAt 2048 0 l = (some 0, 0)) : fldK full l f = ([], 2, 0) := by
  unfold fldK; rw [h]; rfl
theorem fldK_bad {full : Bool} {i : Nat} {l : List UInt8} {f : Nat → Fs × Nat × Int} (h : cutAt 2048 0 l = (some i, 0)) (hi : ¬ i = 0) (hf : fldOk (l.take i) = false) : fldK full l f = ([], 0, 400) := by
  unfold fldK; rw [h]; simp only; rw [if_neg hi, if_neg (by rw [hf]; decide)]
theorem fldK_next {full : Bool} {i : Nat} {l : List UInt8} {f : Nat → Fs × Nat × Int} (h : cutAt 2048 0 l = (some i, 0)) (hi : ¬ i = 0) (hf : fldOk (l.take i) = true) : fldK full l f = f i := by
  unfold fldK; rw [h]; simp only; rw [if_neg hi, if_pos hf]
theorem fldL_miss {full : Bool} {r : Nat} {l : List UInt8} {e : Int} (h : cutAt 2048 0 l = (none, e)) : fldL full r l = ([], 0, hst full e) := by
  cases r <;> exact fldK_miss h
theorem fldL_end {full : Bool} {r : Nat} {l : List UInt8} (h : cutAt 2048 0 l = (some 0, 0)) : fldL full r l = ([], 2, 0) := by
  cases r <;> exact fldK_end h
theorem fldL_bad {full : Bool} {r i : Nat} {l : List UInt8} (h : cutAt 2048 0 l = (some i, 0)) (hi : ¬ i = 0) (hf : fldOk (l.take i) = false) : fldL full r l = ([], 0, 400) := by
  cases r <;> exact fldK_bad h hi hf
theorem fldL_many {full : Bool} {i : Nat} {l : List UInt8} (h : cutAt 2048 0 l = (some i, 0)) (hi : ¬ i = 0) (hf : fldOk (l.take i) = true) : fldL full 0 l = ([], 0, 431) := fldK_next h hi hf
theorem fldL_next {full : Bool} {r i : Nat} {l : List UInt8} (h : cutAt 2048 0 l = (some i, 0)) (hi : ¬ i = 0) (hf : fldOk (l.take i) = true) : fldL full (r + 1) l = plusH [fOf (l.take i)] (i + 2) (fldL full r (l.drop (i + 2))) := fldK_next h hi hf
theorem plusH_plusH (a b : Fs) (i j : Nat) (r : Fs × Nat × Int) (hj : 0 < j) : plusH a i (plusH b j r) = plusH (a ++ b) (i + j) r := by
  unfold plusH
  by_cases h : r.2.1 = 0
  · rw [if_pos h, if_pos h]; rfl
  · rw [if_neg h, if_neg h]
    simp only
    rw [if_neg (by omega), List.append_assoc, Nat.add_assoc]
theorem plusH_err (a : Fs) (i : Nat) (e : Int) : plusH a i ([], 0, e) = ([], 0, e) := rfl

theorem prs_bd (s : ByteArray) : (prs s).1.size ≤ 1000 ∧ (prs s).2.1.size ≤ 1000 := by
  unfold prs
  split
  · rename_i h
    have h2 := (Bool.and_eq_true_iff.1 h).2
    unfold okF okName okVal at h2
    simp only [Bool.and_eq_true, decide_eq_true_eq] at h2
    exact ⟨by have := h2.1.1; simp only; omega, by have := h2.2.1.1; simp only; omega⟩
  · exact ⟨by decide, by decide⟩

/-- What holds of fields that were read. -/
structure FlOk (r : Nat) (L : Nat) (R : Fs × Nat × Int) : Prop where
  len : R.1.length ≤ r
  bd : FBd 1000 R.1
  le : R.2.1 ≤ L
  zero : R.2.1 = 0 → R.1 = []
  st : ¬ R.2.1 = 0 → R.2.2 = 0
theorem FlOk.no (r L : Nat) (e : Int) : FlOk r L ([], 0, e) := ⟨Nat.zero_le _, (fun f hf => by cases hf), Nat.zero_le _, (fun _ => rfl), fun h => absurd rfl h⟩
theorem fOf_bd (l : List UInt8) : (fOf l).1.size ≤ 1000 ∧ (fOf l).2.size ≤ 1000 := prs_bd (tx l)
theorem FlOk.plus {r L i : Nat} {R : Fs × Nat × Int} (h : FlOk r (L - i) R) (hi : 0 < i) (hl : i ≤ L) (f : ByteArray × ByteArray) (hf : f.1.size ≤ 1000 ∧ f.2.size ≤ 1000) : FlOk (r + 1) L (plusH [f] i R) := by
  unfold plusH
  by_cases h0 : R.2.1 = 0
  · rw [if_pos h0]; exact FlOk.no _ _ _
  · rw [if_neg h0]
    refine ⟨?_, ?_, ?_, ?_, fun _ => rfl⟩
    · have := h.len; simp only [List.length_append, List.length_cons, List.length_nil]; omega
    · intro g hg
      rcases List.mem_append.1 hg with k | k
      · rw [List.mem_singleton.1 k]; exact hf
      · exact h.bd g k
    · have := h.le; simp only; omega
    · intro k; simp only at k; omega
theorem fldL_ok (full : Bool) : ∀ (r : Nat) (l : List UInt8), FlOk r l.length (fldL full r l) := by
  intro r
  induction r with
  | zero =>
    intro l
    rcases cut_cases 2048 l with ⟨i, hc, hl, _⟩ | ⟨e, hc⟩
    · by_cases hi : i = 0
      · subst hi; rw [fldL_end hc]; exact ⟨Nat.le_refl _, (fun f hf => by cases hf), hl, (fun k => by cases k), fun _ => rfl⟩
      · cases hf : fldOk (l.take i)
        · rw [fldL_bad hc hi hf]; exact FlOk.no _ _ _
        · rw [fldL_many hc hi hf]; exact FlOk.no _ _ _
    · rw [fldL_miss hc]; exact FlOk.no _ _ _
  | succ r ih =>
    intro l
    rcases cut_cases 2048 l with ⟨i, hc, hl, _⟩ | ⟨e, hc⟩
    · by_cases hi : i = 0
      · subst hi; rw [fldL_end hc]; exact ⟨Nat.zero_le _, (fun f hf => by cases hf), hl, (fun k => by cases k), fun _ => rfl⟩
      · cases hf : fldOk (l.take i)
        · rw [fldL_bad hc hi hf]; exact FlOk.no _ _ _
        · rw [fldL_next hc hi hf]
          have h := ih (l.drop (i + 2))
          rw [List.length_drop] at h
          exact h.plus (by omega) hl _ (fOf_bd _)
    · rw [fldL_miss hc]; exact FlOk.no _ _ _

def fullB (b : List UInt8) : Bool := decide (2048 ≤ b.length)
/-- A head, whose first line's status is told by st. -/
def headL (st : ByteArray → Int) (b : List UInt8) : Fs × Nat × Int :=
  match cutAt 2048 0 (b.take 2048) with
  | (none, e) => ([], 0, hst (fullB b) e)
  | (some i, _) => if st (tx ((b.take 2048).take i)) = 0 then plusH [] (i + 2) (fldL (fullB b) 40 ((b.take 2048).drop (i + 2))) else ([], 0, st (tx ((b.take 2048).take i)))
/-- Its first line. -/
def firstL (b : List UInt8) : ByteArray := match cutAt 2048 0 (b.take 2048) with | (some i, _) => tx ((b.take 2048).take i) | _ => tx []
theorem headL_miss {st : ByteArray → Int} {b : List UInt8} {e : Int} (h : cutAt 2048 0 (b.take 2048) = (none, e)) : headL st b = ([], 0, hst (fullB b) e) := by
  unfold headL; rw [h]
theorem headL_bad {st : ByteArray → Int} {b : List UInt8} {i : Nat} {e : Int} (h : cutAt 2048 0 (b.take 2048) = (some i, e)) (hs : ¬ st (tx ((b.take 2048).take i)) = 0) : headL st b = ([], 0, st (tx ((b.take 2048).take i))) := by
  unfold headL; rw [h]; simp only; rw [if_neg hs]
theorem headL_hit {st : ByteArray → Int} {b : List UInt8} {i : Nat} {e : Int} (h : cutAt 2048 0 (b.take 2048) = (some i, e)) (hs : st (tx ((b.take 2048).take i)) = 0) : headL st b = plusH [] (i + 2) (fldL (fullB b) 40 ((b.take 2048).drop (i + 2))) := by
  unfold headL; rw [h]; simp only; rw [if_pos hs]
theorem firstL_hit {b : List UInt8} {i : Nat} {e : Int} (h : cutAt 2048 0 (b.take 2048) = (some i, e)) : firstL b = tx ((b.take 2048).take i) := by
  unfold firstL; rw [h]
theorem headL_ok (st : ByteArray → Int) (b : List UInt8) : FlOk 40 (min 2048 b.length) (headL st b) := by
  have hlt : (b.take 2048).length = min 2048 b.length := List.length_take
  rcases cut_cases 2048 (b.take 2048) with ⟨i, hc, hl, _⟩ | ⟨e, hc⟩
  · by_cases hs : st (tx ((b.take 2048).take i)) = 0
    · rw [headL_hit hc hs]
      have h := fldL_ok (fullB b) 40 ((b.take 2048).drop (i + 2))
      rw [List.length_drop] at h
      unfold plusH
      by_cases h0 : (fldL (fullB b) 40 ((b.take 2048).drop (i + 2))).2.1 = 0
      · rw [if_pos h0]; exact FlOk.no _ _ _
      · rw [if_neg h0]
        exact ⟨h.len, h.bd, by have := h.le; simp only; omega, (fun k => by simp only at k; omega), fun _ => rfl⟩
    · rw [headL_bad hc hs]; exact FlOk.no _ _ _
  · rw [headL_miss hc]; exact FlOk.no _ _ _

def tHost : ByteArray := ⟨#[72, 111, 115, 116]⟩
/-- Could nobody take a request for another host's? -/
def hostsOk (hs : List ByteArray) (minor : Int) : Bool := match hs with
  | [] => !(minor == 1)
  | h :: r => decide (r.length = 0) && (hostP h).2
def headSt (fs : Fs) (minor : Int) : Int := if hostsOk (getF fs tHost) minor = true then (reqF fs minor).2.2 else 400
/-- The head of a request. -/
structure Hd where
  m : ByteArray
  t : ByteArray
  minor : Int
  fs : Fs
  n : Nat
  st : Int
def hdNo (st : Int) : Hd := ⟨⟨#[]⟩, ⟨#[]⟩, 0, [], 0, st⟩
def rqSt (s : ByteArray) : Int := (rqP s).code
def headQ (b : List UInt8) : Hd :=
  if (headL rqSt b).2.1 = 0 then hdNo (headL rqSt b).2.2
  else if headSt (headL rqSt b).1 (rqP (firstL b)).minor = 0 then ⟨(rqP (firstL b)).method, (rqP (firstL b)).target, (rqP (firstL b)).minor, (headL rqSt b).1, (headL rqSt b).2.1, 0⟩
  else hdNo (headSt (headL rqSt b).1 (rqP (firstL b)).minor)
/-- A body behind a head: its bytes, how many bytes both take, the error. -/
def bodyQ (b : List UInt8) (head : Nat) (size : Int) (coded : Bool) : List UInt8 × Nat × Int :=
  if coded = true then (if (decR 4096 (b.drop head)).2.1 = 0 then ([], 0, (decR 4096 (b.drop head)).2.2) else ((decR 4096 (b.drop head)).1, head + (decR 4096 (b.drop head)).2.1, 0))
  else if ((b.length - head : Nat) : Int) < size then ([], 0, 0) else ((b.drop head).take size.toNat, head + size.toNat, 0)
def bodySt (e : Int) : Int := if e = 0 then 0 else if e = 2 then 413 else 400
/-- A request, its body, how many bytes it takes, its status. -/
structure Rd where
  m : ByteArray
  t : ByteArray
  minor : Int
  fs : Fs
  body : List UInt8
  n : Nat
  st : Int
def rdNo (st : Int) : Rd := ⟨⟨#[]⟩, ⟨#[]⟩, 0, [], [], 0, st⟩
def rdOf (h : Hd) (x : List UInt8 × Nat × Int) : Rd := if x.2.1 = 0 then rdNo (bodySt x.2.2) else ⟨h.m, h.t, h.minor, h.fs, x.1, x.2.1, 0⟩
def bodyOf (h : Hd) (b : List UInt8) : List UInt8 × Nat × Int := bodyQ b h.n (reqF h.fs h.minor).1 (reqF h.fs h.minor).2.1
def reqQ (b : List UInt8) : Rd := if (headQ b).n = 0 then rdNo (headQ b).st else rdOf (headQ b) (bodyOf (headQ b) b)
/-- What holds of a head. -/
structure HdOk (L : Nat) (h : Hd) : Prop where
  len : h.fs.length ≤ 40
  bd : FBd 1000 h.fs
  le : h.n ≤ L ∧ h.n ≤ 2048
  no : h.n = 0 → h = hdNo h.st
  st : ¬ h.n = 0 → h.st = 0
theorem headQ_ok (b : List UInt8) : HdOk b.length (headQ b) := by
  have k := headL_ok rqSt b
  unfold headQ
  by_cases h0 : (headL rqSt b).2.1 = 0
  · rw [if_pos h0]; exact ⟨Nat.zero_le _, (fun f hf => by cases hf), ⟨Nat.zero_le _, Nat.zero_le _⟩, (fun _ => rfl), fun h => absurd rfl h⟩
  · rw [if_neg h0]
    split
    · exact ⟨k.len, k.bd, ⟨by have := k.le; simp only; omega, by have := k.le; simp only; omega⟩, (fun h => absurd h h0), fun _ => rfl⟩
    · exact ⟨Nat.zero_le _, (fun f hf => by cases hf), ⟨Nat.zero_le _, Nat.zero_le _⟩, (fun _ => rfl), fun h => absurd rfl h⟩
theorem told_nn (fs : Fs) (minor : Int) : 0 ≤ (toldF fs minor).2.1 ∧ (toldF fs minor).2.1 ≤ 4096 := by
  have h := lenL_bd (listF fs tCL)
  have h2 : 0 ≤ (lengthF fs).1 := h.1
  unfold toldF
  split
  · exact ⟨by decide, by decide⟩
  · split
    · split <;> exact ⟨by decide, by decide⟩
    · split
      · exact ⟨by decide, by decide⟩
      · split
        · exact ⟨by decide, by decide⟩
        · split
          · exact ⟨by decide, by decide⟩
          · rename_i q; exact ⟨h2, by simp only; omega⟩
end Go.Proofs.YthbjdbookiejeabGreatDoor
